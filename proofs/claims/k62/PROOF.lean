import PyProof.Rows.All
import Wide.All
import OpenK.AllK
import Wide.FinOn
import Lean
import PyProof.EqAt
import PyProof.EqKinds
import PyProof.TupleCall
import PyProof.NeKinds
import PyProof.ZipIter
import PyProof.Draws
import PyProof.ConsumeWalk
import PyProof.StrCaseBound
import PyProof.StrLawsIn
import PyProof.StrLawsJoin
import PyProof.Rows.StrSplitAre
import PyProof.WalkInts
import PyProof.EnumMake
import KE.KRevSl
import PyProof.Rows.SumAny
import PyProof.Rows.SortRuns
import PyProof.Rows.SortKey
import KE.KSortTup
import KE.KDictList
import PyProof.DictValues
import PyProof.StrLawsFirst
import PyProof.AutoListH
import PyProof.AttrMissSeq
import PySem.Challenge.RW_heirbook_k62_the_living
set_option Elab.async false
set_option linter.all false
namespace LR
open PySem PySem.W PyProof.Rows
noncomputable abbrev Zsk:=@Fast.tw14082659384304107361
noncomputable abbrev ZrM:=Fast.tw14364793385576792824
noncomputable abbrev Zk1:=@Fast.tw4187177175401517315
noncomputable def allIn (p:Program) (P:Params) (s:Shared):Bool :=
 staticsOk (importedModules p.main.body) (boot_heap P) s.heap&&namesBound p s.heap&&gensDone s&&laidKept (boot_heap P) s.heap
noncomputable abbrev sA (q:Program) (loose mods:List Str) (Xt:Shared->Bool) (g0:Bool) (s:Shared) :=
 ((Zk1 q loose mods Xt g0 s).1,(Zk1 q loose mods Xt g0 s).2.1,(Zk1 q loose mods Xt g0 s).2.2.1,(Zk1 q loose mods Xt g0 s).2.2.2.1)
noncomputable abbrev sB (q:Program) (loose mods:List Str) (Xt:Shared->Bool) (g0:Bool) (s:Shared):=(Zk1 q loose mods Xt g0 s).2.2.2.2
noncomputable abbrev gA (q:Program) (loose:List Str):=((openGood q loose).1,(openGood q loose).2.1,(openGood q loose).2.2.1,(openGood q loose).2.2.2.1)
noncomputable abbrev gB (q:Program) (loose:List Str):=(openGood q loose).2.2.2.2
noncomputable abbrev ran (p:Program) (m:Nat) (ann:Option Value) (N:Nat) (w:World) (os:OsState):Option Shared :=
 Zsk ZrM p w m ann N ⟨boot_heap w.params,Array.mk [],boot_drawn,boot_toks,os⟩ (topStub p)
theorem left_run {p q : Program} {loose : List Str} {Xt : Shared → Bool} {α : Type} {Yf : Shared → α} {Ya : World → α} {N m : Nat} {g0 : Bool} {ann : Option Value}
  (e:opening p=plainProg p.main.scope.names) (f:∀ s,fenceModules? p s=some s) (hN:Nat.ble 600 N=true)
  (h1:∀ w:World,(boot_heap w.params).isNs mainGlobals=true) (h2:∀ w:World,(boot_heap w.params).objs.size=m) (h3:∀ w:World,(boot_heap w.params).nsMap mainGlobals "__annotations__"=ann)
  (r1:∀ (w:World) (os:OsState),(ran p m ann N w os).map (allIn p w.params)=some true)
  (r2:∀ (w:World) (os:OsState),(ran p m ann N w os).map (sA q loose (importedModules p.main.body) Xt g0)=some (gA q loose))
  (r2':∀ (w:World) (os:OsState),(ran p m ann N w os).map (sB q loose (importedModules p.main.body) Xt g0)=some (gB q loose))
  (r3:∀ (w:World) (os:OsState),(ran p m ann N w os).map Yf=some (Ya w)):LeftO p q loose Xt Yf Ya N g0:=by
 intro w
 cases hb:fencedOpening treeTable p w N with
 | none=>have z:=boot_open e hN f w; rw [hb] at z; cases z
 | some s0 =>
  have z:=boot_open e hN f w
  rw [hb] at z
  obtain ⟨h,gs,d,k,os⟩:=s0
  injection z with z
  injection z with z4 z; injection z with z5 z; injection z with z6 z7
  dsimp only at z4 z5 z6 z7
  subst z4 z5 z6 z7
  have a:=r1 w os
  have b:=r2 w os
  have b':=r2' w os
  have c:=r3 w os
  unfold ran Zsk ZrM at a b b' c
  unfold sA gA Zk1 at b
  unfold sB gB Zk1 at b'
  rw [← Fast.te14082659384304107361,← Fast.te14364793385576792824] at a b b' c
  rw [← Fast.te4187177175401517315] at b b'
  cases hs:topRun treeTable p w m ann N ⟨boot_heap w.params,Array.mk [],boot_drawn,boot_toks,os⟩ (topStub p) with
  | none=>rw [hs] at a; cases a
  | some s =>
   rw [hs] at a b b' c
   injection a with a
   injection b with b
   injection b' with b'
   injection b with x1 b; injection b with x2 b; injection b with x3 x4
   injection c with c
   have b:openSeen q loose (importedModules p.main.body) Xt g0 s=openGood q loose:=Prod.ext x1 (Prod.ext x2 (Prod.ext x3 (Prod.ext x4 b')))
   have t:topFrom treeTable p w N ⟨boot_heap w.params,Array.mk [],boot_drawn,boot_toks,os⟩=some s:=by
    unfold topFrom
    simp only [h1 w,h2 w,h3 w,hs]
    unfold allIn at a
    show (Option.bind (some s) fun x=>_)=_
    rw [Option.bind_some,a]
   show Option.map _ (Option.bind (fencedOpening treeTable p w N) _)=_
   rw [hb,Option.bind_some,t,Option.map_some,b,c]
noncomputable def Zss (st:SharedT->Thread->Option (SharedT × Thread)) (ok:Thread->Bool):Nat->SharedT->Thread->Option SharedT:=fun n =>
 Nat.rec (motive:=fun _=>SharedT->Thread->Option SharedT) (fun _ _=>none) (fun _ ih s t=>match through t with
  | true=>some s
  | false=>match ok t with
   | false=>none
   | true=>match st s t with
    | some (s',t')=>ih s' t'
    | none=>none) n
theorem ZlQ {tb:String->Option Builtin} {p:Program} {w:World} {n₀:Nat} {ann:Option Value}:∀ (n:Nat) (s:SharedT) (t:Thread) (s':SharedT),Zss (stepT (denote tb) p w) (stepOk n₀ ann) n s t=some s'->topRun tb p w n₀ ann n s.abs t=some s'.abs
 | 0,_,_,_,h=>by cases h
 | n+1,s,t,s',h=>by
  have h2:(match through t with
   | true=>some s
   | false=>match stepOk n₀ ann t with
    | false=>none
    | true=>match stepT (denote tb) p w s t with
     | some (s',t')=>Zss (stepT (denote tb) p w) (stepOk n₀ ann) n s' t'
     | none=>none)=some s':=h
  unfold topRun
  cases ht:through t with
  | true=>rw [ht] at h2; cases h2; rfl
  | false =>
   rw [ht] at h2
   cases hk:stepOk n₀ ann t with
   | false=>rw [hk] at h2; cases h2
   | true =>
    rw [hk] at h2
    cases hs:stepT (denote tb) p w s t with
    | none=>rw [hs] at h2; cases h2
    | some r =>
     obtain ⟨s₂,t₂⟩:=r
     rw [hs] at h2
     rw [stepT_spec hs]
     exact ZlQ n s₂ t₂ s' h2
noncomputable def Zsv (P:Params) (m:Nat):BT:=Nat.rec (motive:=fun _=>BT) .nil (fun i T=>T.ins i (((boot_heap P).objs[i]?).getD default)) m
noncomputable abbrev Zrd:=@Fast.tw10156331382660048174
noncomputable abbrev ZsW:=@Fast.tw11892475500146522536
noncomputable abbrev fOk:=@Fast.tw6613529449190102663
noncomputable abbrev s0T (P:Params) (m:Nat) (os:OsState):SharedT:=⟨Zsv P m,m,(boot_heap P).life,Array.mk [],boot_drawn,boot_toks,os⟩
noncomputable abbrev ranT (p:Program) (m:Nat) (ann:Option Value) (N:Nat) (w:World) (os:OsState):Option SharedT :=
 Zss (Zrd (ZsW ZrM) p w) (fOk m ann) N (s0T w.params m os) (topStub p)
theorem Zpx {p:Program} {m:Nat} {ann:Option Value} {N:Nat} {w:World} {os:OsState} (hb:(s0T w.params m os).abs=⟨boot_heap w.params,Array.mk [],boot_drawn,boot_toks,os⟩) {s:SharedT} (h:ranT p m ann N w os=some s):ran p m ann N w os=some s.abs:=by
 unfold ranT Zrd ZsW fOk ZrM at h
 rw [← Fast.te10156331382660048174,← Fast.te11892475500146522536,← Fast.te6613529449190102663,← Fast.te14364793385576792824] at h
 have:=ZlQ _ _ _ _ h
 rw [hb] at this
 unfold ran Zsk ZrM
 rw [← Fast.te14082659384304107361,← Fast.te14364793385576792824]
 exact this
theorem mapT {α:Type} {p:Program} {m:Nat} {ann:Option Value} {N:Nat} {w:World} {os:OsState} (hb:(s0T w.params m os).abs=⟨boot_heap w.params,Array.mk [],boot_drawn,boot_toks,os⟩) {f:Shared->α} {a:α} (h:(ranT p m ann N w os).map (fun s=>f s.abs)=some a):(ran p m ann N w os).map f=some a:=by
 cases e:ranT p m ann N w os with
 | none=>rw [e] at h; cases h
 | some s =>
  rw [e] at h
  rw [Zpx hb e]
  exact h
end LR
namespace K62
open PySem PySem.W PyProof.Rows
abbrev rwOf:OpenLaw:=PySem.Challenge.rw_heirbook_k62_the_living
abbrev pwOf:Program:=PySem.Challenge.pw_heirbook_k62_the_living
noncomputable def vw:Program:=view pwOf [0,2,3,4,5,6,7,8,9,11,13,14,17,18,19,20,21,22,23,24,25,26,27,28,29,30,32,33,35,36,37,38,40,41,42,43,44,45,46,47,48,49,50,51,52,53,54,55]
noncomputable abbrev lo:List Str:=["living_at","FORMS"]
noncomputable abbrev xt (s:Shared):Bool:=xlAt vw [] s&&recOk (RowW.records (OpenRow.toRowW (OpenLaw.row rwOf))) s
noncomputable abbrev rn:=LR.ranT pwOf 11 (some (.ref 6)) 3742
set_option maxRecDepth 100000
set_option maxHeartbeats 0
theorem said:OpenLaw.wellSaid rwOf=true:=by kernel_rfl
theorem hb (w:World) (os:OsState):(LR.s0T w.params 11 os).abs=⟨boot_heap w.params,Array.mk [],boot_drawn,boot_toks,os⟩:=by kernel_rfl
theorem r1T (w:World) (os:OsState):(rn w os).map (fun s=>(LR.allIn pwOf w.params) s.abs)=some (true):=by kernel_rfl
theorem r1 (w:World) (os:OsState):(LR.ran pwOf 11 (some (.ref 6)) 3742 w os).map (LR.allIn pwOf w.params)=some (true):=LR.mapT (hb w os) (r1T w os)
theorem r2T (w:World) (os:OsState):(rn w os).map (fun s=>(LR.sA vw lo (importedModules pwOf.main.body) xt true) s.abs)=some (LR.gA vw lo):=by kernel_rfl
theorem r2 (w:World) (os:OsState):(LR.ran pwOf 11 (some (.ref 6)) 3742 w os).map (LR.sA vw lo (importedModules pwOf.main.body) xt true)=some (LR.gA vw lo):=LR.mapT (hb w os) (r2T w os)
theorem r3T (w:World) (os:OsState):(rn w os).map (fun s=>(LR.sB vw lo (importedModules pwOf.main.body) xt true) s.abs)=some (LR.gB vw lo):=by kernel_rfl
theorem r3 (w:World) (os:OsState):(LR.ran pwOf 11 (some (.ref 6)) 3742 w os).map (LR.sB vw lo (importedModules pwOf.main.body) xt true)=some (LR.gB vw lo):=LR.mapT (hb w os) (r3T w os)
end K62
local macro_rules
 | `(tactic| o_law)=>`(tactic| refine PySem.W.holds_law K62.said fun sd=>?_)
local macro_rules
 | `(tactic| o_head $H)=>do
  let hw:=Lean.mkIdent `hw
  let hc:=Lean.mkIdent `hc
  `(tactic| (
   refine PySem.W.holds_open (q:=K62.vw) (loose:=K62.lo) (N:=3742) (Xt:=K62.xt) (XP:=PySem.W.XL K62.vw []) (Yf:=PySem.W.Hook.obs $H)
    (Ya:=PySem.W.Hook.val $H) (YP:=PySem.W.Hook.says $H)
    (LR.left_run (p:=K62.pwOf) (m:=11) (ann:=(some (.ref 6))) ?e1 ?e2 (by decide) ?e3 ?e4 ?e5 K62.r1 K62.r2 K62.r3 ?e6)
    (PySem.W.Hook.of $H) (PySem.W.Hook.keeps $H) ?f1
    PySem.W.XL.keeps (by rfl) (by rfl) (by rfl) ?f2 ?g4 ?g5 ?g6 ?g7 ?$hw ?$hc
   case e1=>kernel_rfl
   case e2=>intro s; kernel_rfl
   case e3=>intro w; kernel_rfl
   case e4=>intro w; kernel_rfl
   case e5=>intro w; kernel_rfl
   case e6=>(intro w os; refine LR.mapT (K62.hb w os) ?_; kernel_rfl)
   case f1=>intro s e; exact PySem.W.xl_of s (Bool.and_eq_true_iff.mp e).1
   case f2=>intro s e; exact PySem.W.recFacts_of (Bool.and_eq_true_iff.mp e).2
   case g4=>rfl
   case g5=>assumption
   case g6=>decide +kernel
   case g7=>exact ⟨rfl,rfl,rfl,rfl,rfl,by decide +kernel⟩))
set_option maxRecDepth 100000 in
set_option maxHeartbeats 0 in
open_top K62.hd for PySem.Challenge.rw_heirbook_k62_the_living
set_option maxRecDepth 100000
namespace L2
open PySem PySem.Spec PyProof.Rows
abbrev Key:=Sum Int Str
noncomputable def Zh9:Key->Value->Bool
 | .inl k,v=>Value.isInt k v
 | .inr x,v=>Value.isStrOf x v
noncomputable def ZsZ (w:World):Key->Int
 | .inl k=>hashInt k
 | .inr x=>hashStr w x
theorem ZaY:∀ {k:Key} {v:Value},Zh9 k v=true->(∃ i t,k=Sum.inl i∧v=Value.int i t)∨(∃ x t,k=Sum.inr x∧v=Value.str x t)
 | .inl i,v,h=>by
  obtain ⟨t,e⟩:=Value.isInt_shape (k:=i) (v:=v) h
  exact .inl ⟨i,t,rfl,e⟩
 | .inr x,v,h=>by
  obtain ⟨t,e⟩:=Value.isStrOf_shape (x:=x) (v:=v) h
  exact .inr ⟨x,t,rfl,e⟩
theorem ZnB (i:Int) (t:Tok):Zh9 (.inl i) (.int i t)=true:=by simp [Zh9,Value.isInt]
theorem ZmV (x:Str) (t:Tok):Zh9 (.inr x) (.str x t)=true:=by simp [Zh9,Value.isStrOf]
theorem Zj8 (a b:Int):decide ((Sum.inl a:Key)=Sum.inl b)=(a == b):=by
 by_cases e:a=b
 ·subst e; simp
 ·have h:¬ (Sum.inl a:Key)=Sum.inl b:=fun q=>e (Sum.inl.inj q)
  rw [decide_eq_false h]
  exact (beq_eq_false_iff_ne.mpr e).symm
theorem ZpI (a b:Str):decide ((Sum.inr a:Key)=Sum.inr b)=decide (a=b):=by
 by_cases e:a=b
 ·subst e; simp
 ·have h:¬ (Sum.inr a:Key)=Sum.inr b:=fun q=>e (Sum.inr.inj q)
  rw [decide_eq_false h,decide_eq_false e]
theorem ZmY (a:Int) (b:Str):decide ((Sum.inl a:Key)=Sum.inr b)=false:=decide_eq_false (fun q=>nomatch q)
theorem Zoh (a:Str) (b:Int):decide ((Sum.inr a:Key)=Sum.inl b)=false:=decide_eq_false (fun q=>nomatch q)
noncomputable def Zbd (prog:Program) (w:World):PySem.KeyKind prog w Key where
 is:=Zh9
 hash:=ZsZ w
 inj:=fun v a b ha hb=>by
  rcases ZaY ha with ⟨i,t,rfl,rfl⟩ | ⟨x,t,rfl,rfl⟩
  ·rcases ZaY hb with ⟨j,u,rfl,e⟩ | ⟨y,u,rfl,e⟩
   ·injection e with e1 _; rw [e1]
   ·exact nomatch e
  ·rcases ZaY hb with ⟨j,u,rfl,e⟩ | ⟨y,u,rfl,e⟩
   ·exact nomatch e
   ·injection e with e1 _; rw [e1]
 byValue:=fun k v h=>by
  rcases ZaY h with ⟨i,t,rfl,rfl⟩ | ⟨x,t,rfl,rfl⟩ <;> rfl
 pyHash:=fun hv h=>by
  rcases ZaY hv with ⟨i,t,rfl,rfl⟩ | ⟨x,t,rfl,rfl⟩
  ·exact wpAny_pyHash_int h
  ·exact wpAny_pyHash_str h
 eqBool:=fun hu hv h=>by
  rcases ZaY hu with ⟨i,t,rfl,rfl⟩ | ⟨x,t,rfl,rfl⟩
  ·rcases ZaY hv with ⟨j,u,rfl,rfl⟩ | ⟨y,u,rfl,rfl⟩
   ·rw [Zj8] at h; exact wpAny_eqBool_int h
   ·rw [ZmY] at h; exact SeqAt.EqAt.int_str i t y u _ _ _ _ h
  ·rcases ZaY hv with ⟨j,u,rfl,rfl⟩ | ⟨y,u,rfl,rfl⟩
   ·rw [Zoh] at h; exact SeqAt.EqAt.str_int x t j u _ _ _ _ h
   ·rw [ZpI] at h; exact wpAny_eqBool_str h
 «strs»:=fun k x t v h=>by
  rcases ZaY h with ⟨i,u,rfl,e⟩ | ⟨y,u,rfl,e⟩
  ·exact nomatch e
  ·injection e with e1 _
   subst e1
   cases v <;> rfl
theorem Zk4 (prog:Program) (w:World) (i:Int) (t:Tok):(Zbd prog w).is (.inl i) (.int i t)=true:=ZnB i t
theorem Zlp (prog:Program) (w:World) (x:Str) (t:Tok):(Zbd prog w).is (.inr x) (.str x t)=true:=ZmV x t
inductive V where
 | non | bl (b:Bool) | int (i:Int) | str (x:Str) | byt (b:Array UInt8) | flt (b:UInt64) | ref (a:Addr) | ty (n:String)
 deriving DecidableEq
def RelV:V->Value->Prop
 | .non,u=>u=Value.none
 | .bl b,u=>u=Value.bool b
 | .int i,u=>∃ t,u=Value.int i t
 | .str x,u=>∃ t,u=Value.str x t
 | .byt b,u=>∃ t,u=Value.bytes b t
 | .flt b,u=>∃ t,u=Value.float b t
 | .ref a,u=>u=Value.ref a
 | .ty n,u=>u=Value.type n
abbrev Vals:List V->List Value->Prop:=Paired RelV
theorem Vals.length {xs:List V} {us:List Value} (r:Vals xs us):xs.length=us.length:=Paired.length r
theorem Vals.get:∀ {xs:List V} {us:List Value} {i:Nat} {x:V},Vals xs us->xs[i]?=some x->∃ u,us[i]?=some u∧RelV x u
 | _,_,_,_,.nil,e=>by simp at e
 | _,_,0,_,.cons r _,e=>by simp at e; subst e; exact ⟨_,rfl,r⟩
 | _,_,i+1,x,.cons _ t,e=>by
  obtain ⟨u,h1,h2⟩:=Vals.get (i:=i) (x:=x) t (by simpa using e)
  exact ⟨u,by simpa using h1,h2⟩
theorem Vals.append:∀ {xs ys:List V} {us ws:List Value},Vals xs us->Vals ys ws->Vals (xs++ys) (us++ws)
 | _,_,_,_,.nil,s=>s
 | _,_,_,_,.cons r t,s=>.cons r (Vals.append t s)
theorem Vals.take:∀ {xs:List V} {us:List Value} (n:Nat),Vals xs us->Vals (xs.take n) (us.take n)
 | _,_,0,_=>.nil
 | _,_,_+1,.nil=>.nil
 | _,_,n+1,.cons r t=>.cons r (Vals.take n t)
theorem Vals.drop:∀ {xs:List V} {us:List Value} (n:Nat),Vals xs us->Vals (xs.drop n) (us.drop n)
 | _,_,0,r=>r
 | _,_,_+1,.nil=>.nil
 | _,_,n+1,.cons _ t=>Vals.drop n t
def RelO:Option V->Option Value->Prop
 | some v,some u=>RelV v u
 | none,none=>True
 | _,_=>False
def KV {κ:Type}:List (κ × V)->List (κ × Value)->Prop:=Paired fun (p:κ × V) (q:κ × Value)=>p.1=q.1∧RelV p.2 q.2
noncomputable def kV:Key->V
 | .inl i=>.int i
 | .inr x=>.str x
inductive HO where
 | lst (xs:List V)
 | tup (xs:List V)
 | dK (kvs:List (Key × V)) | dT (kvs:List (List Key × V))
 | set (S:Int->Bool) (n:Nat)
 | ins (C dx:Addr) (fs:List (Str × V))
 | own (x:Addr)
 | xd (fs:List (Str × V))
 | met (f x:Addr)
 | rng (lo hi:Int)
 | frz (o:Obj) (u:HO)
 | tbl (ps:Array Value)
 | ext (φ:Heap->Prop)
abbrev Hp:=Addr->Option HO
noncomputable def upd (H:Hp) (a:Addr) (o:HO):Hp:=fun b=>if b=a then some o else H b
theorem Zab {H:Hp} {a:Addr} {o:HO}:upd H a o a=some o:=by unfold upd; rw [if_pos rfl]
theorem Zak {H:Hp} {a b:Addr} {o:HO} (h:b≠a):upd H a o b=H b:=by unfold upd; rw [if_neg h]
theorem Zrw {H:Hp} {a b:Addr} {o u:HO} (h:H a=some o) (h':H b=some u) (d:o≠u):a≠b:=by
 intro e; subst e; rw [h] at h'; exact d (Option.some.inj h')
theorem Zap {H:Hp} {a b:Addr} {o:HO} (h:H a=some o) (h':H b=none):a≠b:=by
 intro e; subst e; rw [h] at h'; cases h'
section
variable (P:Program) (w:World)
def ObjOk (H:Hp) (h:Heap) (a:Addr):HO->Prop
 | .lst xs=>xs.length≤sizeLine∧∃ (its:List Value) (n:Nat),Vals xs its∧h.get? a=some { cls:=.type "list",data:=.seq its.toArray n }
 | .tup xs=>xs.length≤sizeLine∧∃ its:List Value,Vals xs its∧IsTup h a its.toArray
 | .dK kvs=>kvs.length≤sizeLine∧(a == sysModules)=false∧∃ vs,KV kvs vs∧h.DictOf (Zbd P w) a vs
 | .dT kvs => kvs.length ≤ sizeLine ∧ (a == sysModules)=false ∧ ∃ xs : List (List Key × Addr × Value),
   Paired (fun (p:List Key × V) (q:List Key × Addr × Value)=>p.1=q.1∧H q.2.1=some (.tup (p.1.map kV))∧RelV p.2 q.2.2) kvs xs ∧
   ∃ o es ep,h.get? a=some o∧o.ExactDict∧o.data=.dict es ep∧es.toList=xs.map (entryOfKey (tupleKind (Zbd P w)))∧(xs.map (·.1)).Nodup
 | .set S n=>h.SetOf (intKind P w) a S n
 | .ins C dx fs => H dx=some (.own a) ∧ fs.length ≤ 1000 ∧ dx ≠ a ∧ h.get? a=some (W.instObj C dx) ∧
   ∃ mA,h.Ns1 dx mA∧(∀ f,RelO (fs.lookup f) (mA f))∧PySem.Within mA (fs.map (·.1))
 | .own _=>∃ o,h.get? a=some o
 | .xd fs=>∃ mA,h.Ns1 a mA∧∀ f,RelO (fs.lookup f) (mA f)
 | .rng lo hi=>∃ t u v,h.get? a=some { cls:=.type "range",data:=.fields #[.int lo t,.int hi u,.int 1 v] }
 | .frz o u=>h.get? a=some o∧ObjOk H h a u
 | .tbl ps=>h.get? a=some { cls:=.none,data:=.fields ps }
 | .met f x=>h.get? a=some (W.methodObj (.ref f) (.ref x))
 | .ext φ=>φ h∧(∃ o,h.get? a=some o)∧∀ h1 h2:Heap,φ h1->(∀ o,h1.get? a=some o->h2.get? a=some o)->φ h2
def HOk (H:Hp) (h:Heap):Prop:=∀ a o,H a=some o->ObjOk P w H h a o
end
section
variable {P:Program} {w:World} {H H':Hp} {h h':Heap} {a:Addr} {o:HO}
theorem ObjOk.lt (x:ObjOk P w H h a o):a<h.objs.size:=by
 cases o with
 | lst xs=>obtain ⟨_,_,_,_,e⟩:=x; exact Heap.lt_size e
 | tup xs=>obtain ⟨_,_,_,p⟩:=x; exact p.lt
 | dK kvs=>obtain ⟨_,_,_,_,o,_,_,e,_⟩:=x; exact Heap.lt_size e
 | dT kvs=>obtain ⟨_,_,_,_,o,_,_,e,_⟩:=x; exact Heap.lt_size e
 | set S n=>obtain ⟨o,_,_,_,e,_⟩:=x; exact Heap.lt_size e
 | ins C dx fs=>obtain ⟨_,_,_,e,_⟩:=x; exact Heap.lt_size e
 | own y=>obtain ⟨_,e⟩:=x; exact Heap.lt_size e
 | xd fs=>obtain ⟨_,⟨_,_,_,e,_⟩,_⟩:=x; exact Heap.lt_size e
 | rng lo hi=>obtain ⟨_,_,_,e⟩:=x; exact Heap.lt_size e
 | frz ob u=>obtain ⟨e,_⟩:=x; exact Heap.lt_size e
 | tbl ps=>exact Heap.lt_size (show h.get? a=some _ from x)
 | met f y=>exact Heap.lt_size (show h.get? a=some _ from x)
 | ext φ=>obtain ⟨_,⟨_,e⟩,_⟩:=x; exact Heap.lt_size e
theorem Paired.mapP {α β:Type} {F G:α->β->Prop}:∀ {l₁:List α} {l₂:List β},Paired F l₁ l₂->(∀ a b,F a b->G a b)->Paired G l₁ l₂
 | _,_,.nil,_=>.nil
 | _,_,.cons r t,f=>.cons (f _ _ r) (Paired.mapP t f)
theorem ObjOk.stay (x : ObjOk P w H h a o) (k : ∀ b u, (b=a ∨ H b=some (.own a)) → h.get? b=some u → h'.get? b=some u)
  (ho:∀ b,H b=some (.own a)->H' b=some (.own a)) (ht:∀ b xs,H b=some (.tup xs)->H' b=some (.tup xs)):ObjOk P w H' h' a o:=by
 induction o with
 | lst xs=>obtain ⟨z,its,n,r,e⟩:=x; exact ⟨z,its,n,r,k _ _ (.inl rfl) e⟩
 | tup xs=>obtain ⟨z,its,r,ob,e,c⟩:=x; exact ⟨z,its,r,ob,k _ _ (.inl rfl) e,c⟩
 | dK kvs=>obtain ⟨z,y,vs,r,ob,es,ep,e,c⟩:=x; exact ⟨z,y,vs,r,ob,es,ep,k _ _ (.inl rfl) e,c⟩
 | dT kvs =>
  obtain ⟨z,y,xs,r,ob,es,ep,e,c⟩:=x
  exact ⟨z,y,xs,Paired.mapP r fun p q z=>⟨z.1,ht _ _ z.2.1,z.2.2⟩,ob,es,ep,k _ _ (.inl rfl) e,c⟩
 | set S n=>obtain ⟨ob,es,ep,t,e,c⟩:=x; exact ⟨ob,es,ep,t,k _ _ (.inl rfl) e,c⟩
 | ins C dx fs =>
  obtain ⟨d,z,ne,e,mA,⟨od,es,ep,e2,c⟩,r⟩:=x
  exact ⟨ho _ d,z,ne,k _ _ (.inl rfl) e,mA,⟨od,es,ep,k _ _ (.inr d) e2,c⟩,r⟩
 | own y=>obtain ⟨ob,e⟩:=x; exact ⟨ob,k _ _ (.inl rfl) e⟩
 | xd fs=>obtain ⟨mA,⟨od,es,ep,e,c⟩,r⟩:=x; exact ⟨mA,⟨od,es,ep,k _ _ (.inl rfl) e,c⟩,r⟩
 | rng lo hi=>obtain ⟨t,u,v,e⟩:=x; exact ⟨t,u,v,k _ _ (.inl rfl) e⟩
 | frz ob u ih=>obtain ⟨e,q⟩:=x; exact ⟨k _ _ (.inl rfl) e,ih q⟩
 | tbl ps =>
  have e:h.get? a=some { cls:=.none,data:=.fields ps }:=x
  show h'.get? a=some { cls:=.none,data:=.fields ps }
  exact k a _ (.inl rfl) e
 | met f y =>
  have e:h.get? a=some (W.methodObj (.ref f) (.ref y)):=x
  show h'.get? a=some (W.methodObj (.ref f) (.ref y))
  exact k a _ (.inl rfl) e
 | ext φ=>obtain ⟨p,⟨o,e⟩,st⟩:=x; exact ⟨st _ _ p fun o q=>k _ _ (.inl rfl) q,⟨o,k _ _ (.inl rfl) e⟩,st⟩
theorem HOk.lt (x:HOk P w H h) (e:H a=some o):a<h.objs.size:=(x a o e).lt
theorem HOk.fresh (x:HOk P w H h) (e:h.objs.size≤a):H a=none:=by
 cases q:H a with
 | none=>rfl
 | some u=>exact absurd (Nat.lt_of_lt_of_le (x.lt q) e) (Nat.lt_irrefl _)
theorem HOk.kept (x:HOk P w H h) (k:∀ b u,h.get? b=some u->h'.get? b=some u):HOk P w H h':=fun a o e =>
 (x a o e).stay (fun b u _ q=>k b u q) (fun _ q=>q) fun _ _ q=>q
theorem HOk.laid (x:HOk P w H h) (k:∀ b u,h.get? b=some u->h'.get? b=some u) (hp:h.objs.size≤a) (new:ObjOk P w (upd H a o) h' a o):HOk P w (upd H a o) h':=fun b u e=>by
 have hn:=x.fresh hp
 by_cases hb:b=a
 ·subst hb; rw [Zab] at e; cases e; exact new
 ·rw [Zak hb] at e
  exact (x b u e).stay (fun c v _ q=>k c v q) (fun c q=>by rw [Zak (Zap q hn)]; exact q) fun c xs q=>by rw [Zak (Zap q hn)]; exact q
end
def Rd (H:Hp) (a:Addr) (u:HO):Prop:=H a=some u∨∃ o,H a=some (.frz o u)
theorem Rd.ok {P:Program} {w:World} {H:Hp} {h:Heap} {a:Addr} {u:HO} (r:Rd H a u) (x:HOk P w H h):ObjOk P w H h a u:=by
 rcases r with r | ⟨o,r⟩
 ·exact x a u r
 ·obtain ⟨_,q⟩:=x a _ r
  exact q
def Mut:Option HO->Prop
 | some (.lst _)=>True
 | some (.dK _)=>True
 | some (.dT _)=>True
 | some (.set _ _)=>True
 | some (.ins _ _ _)=>True
 | some (.ext _)=>True
 | _=>False
section
variable {P:Program} {w:World} {H:Hp} {h h':Heap} {x e:Addr} {o':HO}
theorem HOk.write (ok : HOk P w H h) (mu : Mut (H x)) (he : e=x ∨ H e=some (.own x)) (k : ∀ b u, b ≠ e → h.get? b=some u → h'.get? b=some u) (heo : ∃ u, h'.get? e=some u)
  (new:ObjOk P w (upd H x o') h' x o'):HOk P w (upd H x o') h':=fun b u q=>by
 have nown:∀ c y,H c=some (.own y)->c≠x:=fun c y r z=>by subst z; rw [r] at mu; exact mu
 have ntup:∀ c xs,H c=some (.tup xs)->c≠x:=fun c xs r z=>by subst z; rw [r] at mu; exact mu
 by_cases hb:b=x
 ·subst hb; rw [Zab] at q; cases q; exact new
 ·rw [Zak hb] at q
  by_cases hbe:b=e
  ·have q':H b=some (.own x):=by
    rcases he with z | z
    ·exact absurd (hbe.trans z) hb
    ·rw [hbe]; exact z
   rw [q] at q'; cases q'
   obtain ⟨v,hv⟩:=heo
   exact ⟨v,by rw [hbe]; exact hv⟩
  ·refine (ok b u q).stay (fun c v hc r=>k c v ?_ r) (fun c r=>by rw [Zak (nown c b r)]; exact r) fun c xs r=>by rw [Zak (ntup c xs r)]; exact r
   rcases hc with rfl | hc
   ·exact hbe
   ·rintro rfl
    rcases he with z | z
    ·exact nown c b hc z
    ·rw [hc] at z; cases z; exact hb rfl
end
structure Un (fs ex:List Addr) (H H':Hp) (h h':Heap):Prop where
 keep:∀ b o,h.get? b=some o->H b=none->b ∉ fs->b ∉ ex->h'.get? b=some o
 slot:∀ b o,h.get? b=some o->H b=none->b∈fs->b ∉ ex->∃ sl,h'.get? b=some { o with slots:=sl }
 free:∀ b o,h.get? b=some o->H b=none->b ∉ ex->H' b=none
 there:∀ b o,h.get? b=some o->b ∉ ex->∃ o',h'.get? b=some o'
 tups:∀ b xs,H b=some (.tup xs)->H' b=some (.tup xs)
 frzs:∀ b o u,H b=some (.frz o u)->H' b=some (.frz o u)
 tbls:∀ b ps,H b=some (.tbl ps)->∃ more,H' b=some (.tbl (ps++more))
section
variable {fs fs' ex ex':List Addr} {H H1 H2:Hp} {h h1 h2 h':Heap} {a x e:Addr} {o:HO}
theorem Un.any (u:Un fs ex H H1 h h1) {b:Addr} {ob:Obj} (q:h.get? b=some ob) (n:H b=none) (hx:b ∉ ex):∃ sl,h1.get? b=some { ob with slots:=sl }:=by
 by_cases hb:b∈fs
 ·exact u.slot b ob q n hb hx
 ·exact ⟨ob.slots,u.keep b ob q n hb hx⟩
theorem Un.kept (k:∀ b u,h.get? b=some u->h'.get? b=some u):Un fs ex H H h h' :=
 ⟨fun b ob q _ _ _=>k b ob q,fun b ob q _ _ _=>⟨ob.slots,k b ob q⟩,fun _ _ _ n _=>n,fun b ob q _=>⟨ob,k b ob q⟩,fun _ _ q=>q,fun _ _ _ q=>q,fun _ ps q=>⟨#[],by rw [q]; simp⟩⟩
theorem Un.refl:Un fs ex H H h h:=Un.kept fun _ _ q=>q
theorem Un.laid (k:∀ b u,h.get? b=some u->h'.get? b=some u) (hp:h.objs.size≤a) (hn:H a=none):Un fs ex H (upd H a o) h h' where
 keep:=fun b u q _ _ _=>k b u q
 slot:=fun b u q _ _ _=>⟨u.slots,k b u q⟩
 free:=fun b u q n _=>by rw [Zak (Nat.ne_of_lt (Nat.lt_of_lt_of_le (Heap.lt_size q) hp))]; exact n
 there:=fun b u q _=>⟨u,k b u q⟩
 tups:=fun b xs q=>by rw [Zak (Zap q hn)]; exact q
 frzs:=fun b u xs q=>by rw [Zak (Zap q hn)]; exact q
 tbls:=fun b ps q=>⟨#[],by rw [Zak (Zap q hn),q]; simp⟩
theorem Un.write (mu:Mut (H x)) (he:e=x∨H e=some (.own x)) (k:∀ b u,b≠e->h.get? b=some u->h'.get? b=some u) (heo:∃ u,h'.get? e=some u):Un fs ex H (upd H x o) h h':=by
 have hx:∀ b,H b=none->b≠x:=fun b n z=>by subst z; rw [n] at mu; exact mu
 have hb:∀ b,H b=none->b≠e:=fun b n z=>by
  subst z
  rcases he with r | r
  ·exact hx b n r
  ·rw [n] at r; cases r
 have hm:∀ b u,H b=some u->¬ Mut (some u)->b≠x:=fun b u q nm z=>by subst z; rw [q] at mu; exact nm mu
 refine ⟨fun b u q n _ _=>k b u (hb b n) q,fun b u q n _ _=>⟨u.slots,k b u (hb b n) q⟩,fun b u q n _=>by rw [Zak (hx b n)]; exact n,fun b u q _=>?_,
  fun b xs q=>by rw [Zak (hm b _ q fun z=>z)]; exact q,fun b u xs q=>by rw [Zak (hm b _ q fun z=>z)]; exact q,fun b ps q=>⟨#[],by rw [Zak (hm b _ q fun z=>z),q]; simp⟩⟩
 by_cases hbe:b=e
 ·subst hbe; exact heo
 ·exact ⟨u,k b u hbe q⟩
end
noncomputable def trk (h:Heap) (H:Hp):List Addr:=(List.range h.objs.size).filter fun a=>(H a).isSome
noncomputable def ZoR (h:Heap) (H:Hp):Heap:=W.hideAll h (trk h H)
theorem ZnZ (h:Heap) (H:Hp):(ZoR h H).objs.size=h.objs.size:=W.hideAll_size _ _
theorem Zph {h:Heap} {H:Hp} {b:Addr} {o:Obj} (e:h.get? b=some o) (n:H b=none):(ZoR h H).get? b=some o :=
 W.hideAll_get _ e fun hm=>by
  have q:(H b).isSome=true:=(List.mem_filter.mp hm).2
  rw [n] at q; simp at q
theorem Zp8 {h:Heap} {H:Hp} {b:Addr} {o:Obj} (e:(ZoR h H).get? b=some o):h.get? b=some o∧H b=none:=by
 have e':h.get? b=some o:=W.of_hideAll (trk h H) e
 refine ⟨e',?_⟩
 cases q:H b with
 | none=>rfl
 | some x =>
  have hm:b∈trk h H:=List.mem_filter.mpr ⟨List.mem_range.mpr (Heap.lt_size e'),by simp [q]⟩
  have z:(ZoR h H).get? b=none:=W.hideAll_none (trk h H) hm
  rw [z] at e; cases e
structure Mod (K:W.Frag) (mg:Str->Option Value) (base:Heap):Prop where
 kin:K.In base
 glob:base.Ns mainGlobals mg
 blt:∃ mb,base.Ns builtinsNs mb∧∀ x:Str,x≠"__name__"->mb x=bootBuiltins x
 nolimit:base.NoLimit
structure Cx where
 prog:Program
 w:World
 K:W.Frag
 mg:Str->Option Value
 base:Heap
 A:Around
 N:List Str
 s₀:Shared
 H₀:Hp
 env:Env
 outer:List Env
 stack:List Env
 ex:List Addr
 fn:Str->Bool
 calm:Bool
 pn:List (Addr × Obj)
 xe:Value->Shared->Prop
noncomputable def frs (l:List Env):List Addr:=l.filterMap (·.frame)
noncomputable abbrev Cx.fs (X:Cx):List Addr:=frs X.outer
def Vis (sc:Scope) (x:Str):Prop:=sc.names.lookup x=some .local∨sc.names.lookup x=some .cell∨sc.names.lookup x=some .free
def Loc (sc:Scope) (x:Str):Prop:=sc.names.lookup x=some .local∨sc.names.lookup x=some .cell
def Ztj (env:Env) (h:Heap) (m:Str->Option Value) (x:Str) (u:Value):Prop :=
 (env.kindOf x=some .local∧m x=some u)∨((env.kindOf x=some .cell∨env.kindOf x=some .free)∧∃ c,env.cells.lookup x=some c∧h.IsCell c (some u))
structure Cx.Ok (X:Cx):Prop where
 mod:Mod X.K X.mg X.base
 kind:X.env.scope.kind=.function
 glob:X.env.globals=mainGlobals
 blt:X.env.builtins=builtinsNs
 above:X.s₀.heap.objs.size≤X.env.locals
 inj:∀ x y c,X.env.cells.lookup x=some c->X.env.cells.lookup y=some c->x=y
 has:∀ x,(X.env.kindOf x=some .cell∨X.env.kindOf x=some .free)->∃ c,X.env.cells.lookup x=some c
 cab:∀ x c,X.fn x=true->X.env.cells.lookup x=some c->X.s₀.heap.objs.size≤c
 hd:X.calm=true->X.A.handled=none
 frames:X.A.frames=some X.stack
 stk:X.stack=X.outer∨(X.stack=X.env :: X.outer∧X.env.frame=some X.env.locals)
 exf:∀ b∈X.ex,b≠X.env.locals∧∀ x c,X.env.cells.lookup x=some c->c≠b
 bs:∀ b o,X.base.get? b=some o->X.s₀.heap.get? b=some o∧X.H₀ b=none
 bsz:X.base.objs.size≤X.s₀.heap.objs.size
 noex:∀ b o,X.base.get? b=some o->b ∉ X.ex
 exfs:∀ b∈X.ex,b ∉ X.fs
 funs:X.s₀.heap.FunFrames X.base X.outer
 frf:∀ b∈X.fs,X.H₀ b=none
structure Inv (X:Cx) (pins:List (Addr × Obj)) (σ:List (Option V)) (H:Hp) (s:Shared):Prop where
 ok:X.Ok
 os:s.os=X.s₀.os
 bare:AllBare s.gens
 base:Un X.fs X.ex X.H₀ H X.s₀.heap s.heap
 loc:∃ m,s.heap.Ns X.env.locals m∧∀ (i:Nat) (x:Str) (v:V),X.N[i]?=some x->σ[i]?=some (some v)->Vis X.env.scope x->∃ u,RelV v u∧Ztj X.env s.heap m x u
 cell:∀ x c,X.env.cells.lookup x=some c->∃ v,s.heap.IsCell c v
 free:H X.env.locals=none
 freeC:∀ x c,X.env.cells.lookup x=some c->H c=none
 pin:∀ p∈X.pn++pins,s.heap.get? p.1=some p.2∧H p.1=none∧p.1≠X.env.locals∧p.1 ∉ X.fs∧∀ v,p.2.data≠.cell v
 hok:HOk X.prog X.w H s.heap
 len:σ.length=X.N.length
section
variable {X:Cx} {pins:List (Addr × Obj)} {σ:List (Option V)} {H H':Hp} {s:Shared} {h':Heap}
theorem Cx.Ok.nofr (ok:X.Ok) {b:Addr} {o:Obj} (e:X.base.get? b=some o):b ∉ X.fs:=fun hb=>by
 have:=(ok.funs.mem hb).1
 rw [e] at this; cases this
theorem Inv.bs (I:Inv X pins σ H s):∀ b o,X.base.get? b=some o->s.heap.get? b=some o∧H b=none:=fun b o e =>
 ⟨I.base.keep b o (I.ok.bs b o e).1 (I.ok.bs b o e).2 (I.ok.nofr e) (I.ok.noex b o e),I.base.free b o (I.ok.bs b o e).1 (I.ok.bs b o e).2 (I.ok.noex b o e)⟩
theorem Inv.bk (I:Inv X pins σ H s):∀ b o,X.base.get? b=some o->s.heap.get? b=some o:=fun b o e=>(I.bs b o e).1
theorem Inv.mod (I:Inv X pins σ H s):Mod X.K X.mg X.base:=I.ok.mod
theorem Inv.kIn (I:Inv X pins σ H s):X.K.In s.heap:=I.ok.mod.kin.keeps I.bk
theorem Inv.lt (I:Inv X pins σ H s):X.env.locals<s.heap.objs.size:=let ⟨_,hn,_⟩:=I.loc; hn.lt
theorem Inv.sz (I:Inv X pins σ H s):X.s₀.heap.objs.size≤s.heap.objs.size:=Nat.le_trans I.ok.above (Nat.le_of_lt I.lt)
theorem Inv.nofs (I:Inv X pins σ H s) {a:Addr} (h:s.heap.objs.size≤a):a ∉ X.fs:=fun hb=>by
 obtain ⟨_,o,ho,_⟩:=I.ok.funs.mem hb
 exact absurd (Nat.lt_of_lt_of_le (Heap.lt_size ho) (Nat.le_trans I.sz h)) (Nat.lt_irrefl _)
theorem Inv.cne (I:Inv X pins σ H s):∀ x c,X.env.cells.lookup x=some c->c≠X.env.locals:=fun x c e z=>by
 obtain ⟨v,o,ho,hd⟩:=I.cell x c e
 obtain ⟨m,⟨o',es,ep,ho',hd',_⟩,_⟩:=I.loc
 rw [z,ho'] at ho; cases ho; rw [hd'] at hd; cases hd
theorem Inv.funs (I:Inv X pins σ H s):s.heap.FunFrames X.base X.outer:=by
 have all:∀ (l:List Env),(∀ b∈frs l,b∈X.fs)->X.s₀.heap.FunFrames X.base l->s.heap.FunFrames X.base l:=by
  intro l
  induction l with
  | nil=>intro _ _; trivial
  | cons env r ih =>
   intro hs hl
   obtain ⟨hk,⟨L,o,hf,hn,ho,hd⟩,hr⟩:=hl
   have hL:L∈X.fs:=hs L (by unfold frs; rw [List.filterMap_cons,hf]; exact List.mem_cons_self)
   obtain ⟨sl,e⟩:=I.base.slot L o ho (I.ok.frf L hL) hL fun z=>I.ok.exfs L z hL
   exact ⟨hk,⟨L,_,hf,hn,e,hd⟩,ih (fun b hb=>hs b (by unfold frs; rw [List.filterMap_cons,hf]; exact List.mem_cons_of_mem _ hb)) hr⟩
 exact all X.outer (fun _ hb=>hb) I.ok.funs
theorem Inv.stack (I:Inv X pins σ H s):s.heap.FunFrames X.base X.stack:=by
 rcases I.ok.stk with e | ⟨e,hf⟩
 ·rw [e]; exact I.funs
 ·rw [e]
  obtain ⟨m,hn,_⟩:=I.loc
  refine .cons (by rw [I.ok.kind]; decide) hf hn ?_ I.funs
  exact Heap.get?_none_of_le (Nat.le_trans I.ok.bsz I.ok.above)
theorem Inv.stkSub (I:Inv X pins σ H s):∀ b∈frs X.stack,b∈X.env.locals :: X.fs:=fun b hb=>by
 rcases I.ok.stk with e | ⟨e,hf⟩
 ·rw [e] at hb; exact List.mem_cons_of_mem _ hb
 ·rw [e] at hb
  unfold frs at hb
  rw [List.filterMap_cons,hf] at hb
  exact hb
theorem Inv.stkFree (I:Inv X pins σ H s):∀ b∈frs X.stack,H b=none:=fun b hb=>by
 rcases List.mem_cons.mp (I.stkSub b hb) with e | hb
 ·rw [e]; exact I.free
 ·obtain ⟨_,o,ho,_⟩:=I.ok.funs.mem hb
  exact I.base.free b o ho (I.ok.frf b hb) fun z=>I.ok.exfs b z hb
theorem Inv.step {g' : Array GenState} {t' : Nat} {d' : Drawn} {ch : List Addr} (I : Inv X pins σ H s)
  (hch:∀ b∈ch,(b∈X.ex∨X.s₀.heap.objs.size≤b)∧b≠X.env.locals∧(∀ x c,X.env.cells.lookup x=some c->c≠b)∧∀ p∈X.pn++pins,p.1≠b)
  (keep:∀ b o,b≠X.env.locals->b ∉ X.fs->b ∉ ch->s.heap.get? b=some o->H b=none->h'.get? b=some o)
  (slot:∀ b o,b≠X.env.locals->b∈X.fs->b ∉ ch->s.heap.get? b=some o->H b=none->∃ sl,h'.get? b=some { o with slots:=sl }) (free:∀ b o,b ∉ ch->s.heap.get? b=some o->H b=none->H' b=none)
  (there:∀ b o,b ∉ ch->s.heap.get? b=some o->∃ o',h'.get? b=some o')
  (tups:∀ b xs,H b=some (.tup xs)->H' b=some (.tup xs)) (frzs:∀ b o u,H b=some (.frz o u)->H' b=some (.frz o u)) (tbls:∀ b ps,H b=some (.tbl ps)->∃ more,H' b=some (.tbl (ps++more)))
  (ns:∀ m,s.heap.Ns X.env.locals m->h'.Ns X.env.locals m) (hok:HOk X.prog X.w H' h') (hg:AllBare g') :
  Inv X pins σ H' { s with heap:=h',gens:=g',drawn:=d',toks:=t' }:=by
 have neL:∀ b o,X.s₀.heap.get? b=some o->b≠X.env.locals:=fun b o e=>Nat.ne_of_lt (Nat.lt_of_lt_of_le (Heap.lt_size e) I.ok.above)
 have neC:∀ b o,X.s₀.heap.get? b=some o->b ∉ X.ex->b ∉ ch:=fun b o e hx hb=>by
  rcases (hch b hb).1 with z | z
  ·exact hx z
  ·exact absurd (Nat.lt_of_lt_of_le (Heap.lt_size e) z) (Nat.lt_irrefl _)
 have cellK:∀ x c,X.env.cells.lookup x=some c->∀ v,s.heap.IsCell c v->h'.IsCell c v:=fun x c e v ⟨o,ho,hd⟩=>by
  have nch:c ∉ ch:=fun z=>(hch c z).2.2.1 x c e rfl
  by_cases hc:c∈X.fs
  ·obtain ⟨sl,q⟩:=slot c o (I.cne x c e) hc nch ho (I.freeC x c e)
   exact ⟨_,q,hd⟩
  ·exact ⟨o,keep c o (I.cne x c e) hc nch ho (I.freeC x c e),hd⟩
 refine ⟨I.ok,I.os,hg,⟨fun b o e n hb hx=>?_,fun b o e n hb hx=>?_,fun b o e n hx=>?_,fun b o e hx=>?_,fun b xs e=>tups b xs (I.base.tups b xs e),fun b o xs e=>frzs b o xs (I.base.frzs b o xs e),fun b ps e=>?_⟩,?_,fun x c e=>?_,?_,fun x c e=>?_,fun p hp=>?_,hok,I.len⟩
 ·exact keep b o (neL b o e) hb (neC b o e hx) (I.base.keep b o e n hb hx) (I.base.free b o e n hx)
 ·obtain ⟨sl,e1⟩:=I.base.slot b o e n hb hx
  obtain ⟨sl',e2⟩:=slot b _ (neL b o e) hb (neC b o e hx) e1 (I.base.free b o e n hx)
  exact ⟨sl',e2⟩
 ·obtain ⟨o',e1⟩:=I.base.there b o e hx
  exact free b o' (neC b o e hx) e1 (I.base.free b o e n hx)
 ·obtain ⟨o',e1⟩:=I.base.there b o e hx
  exact there b o' (neC b o e hx) e1
 ·obtain ⟨m1,e1⟩:=I.base.tbls b ps e
  obtain ⟨m2,e2⟩:=tbls b _ e1
  exact ⟨m1++m2,by rw [e2,Array.append_assoc]⟩
 ·obtain ⟨m,hn,hl⟩:=I.loc
  refine ⟨m,ns m hn,fun i x v e1 e2 e3=>?_⟩
  obtain ⟨u,r,l⟩:=hl i x v e1 e2 e3
  refine ⟨u,r,?_⟩
  rcases l with l | ⟨k,c,e,z⟩
  ·exact .inl l
  ·exact .inr ⟨k,c,e,cellK x c e _ z⟩
 ·obtain ⟨v,z⟩:=I.cell x c e
  exact ⟨v,cellK x c e v z⟩
 ·obtain ⟨m,⟨o,_,_,ho,_⟩,_⟩:=I.loc
  exact free _ o (fun z=>(hch _ z).2.1 rfl) ho I.free
 ·obtain ⟨v,o,ho,hd⟩:=I.cell x c e
  exact free c o (fun z=>(hch c z).2.2.1 x c e rfl) ho (I.freeC x c e)
 ·obtain ⟨e,n,ne,nf,d⟩:=I.pin p hp
  have nch:p.1 ∉ ch:=fun z=>(hch p.1 z).2.2.2 p hp rfl
  exact ⟨keep p.1 p.2 ne nf nch e n,free p.1 p.2 nch e n,ne,nf,d⟩
theorem Inv.un {t':Nat} (I:Inv X pins σ H s) (u:Un X.fs [] H H' s.heap h') (hok:HOk X.prog X.w H' h'):Inv X pins σ H' { s with heap:=h',toks:=t' }:=by
 obtain ⟨m,⟨o,es,ep,ho,r⟩,_⟩:=id I.loc
 obtain ⟨sl,hL⟩:=u.any ho I.free (by simp)
 exact I.step (g':=s.gens) (d':=s.drawn) (ch:=[]) (fun _ z=>nomatch z) (fun b o _ hb _ e n=>u.keep b o e n hb (by simp)) (fun b o _ hb _ e n=>u.slot b o e n hb (by simp)) (fun b o _ e n=>u.free b o e n (by simp)) (fun b o _ e=>u.there b o e (by simp)) u.tups u.frzs u.tbls (fun m' hm=>by
  obtain ⟨o',es',ep',ho',r'⟩:=hm
  rw [ho] at ho'; cases ho'
  exact ⟨_,es',ep',hL,r'⟩) hok I.bare
theorem Inv.call {g' : Array GenState} {t' : Nat} {d' : Drawn} {ch : List Addr} (I : Inv X pins σ H s) (u : Un (frs X.stack) ch H H' s.heap h') (hok : HOk X.prog X.w H' h') (hg : AllBare g')
  (hch:∀ b∈ch,(b∈X.ex∨X.s₀.heap.objs.size≤b)∧b≠X.env.locals∧(∀ x c,X.env.cells.lookup x=some c->c≠b)∧∀ p∈X.pn++pins,p.1≠b) :
  Inv X pins σ H' { s with heap:=h',gens:=g',drawn:=d',toks:=t' }:=by
 obtain ⟨m,⟨o,es,ep,ho,r⟩,_⟩:=id I.loc
 obtain ⟨sl,hL⟩:=u.any ho I.free fun z=>(hch _ z).2.1 rfl
 exact I.step (ch:=ch) hch (fun b o hL hb hc e n=>u.keep b o e n (fun z=>(List.mem_cons.mp (I.stkSub b z)).elim hL hb) hc) (fun b o _ _ hc e n=>u.any e n hc) (fun b o hc e n=>u.free b o e n hc) (fun b o hc e=>u.there b o e hc) u.tups u.frzs u.tbls (fun m' hm=>by
  obtain ⟨o',es',ep',ho',r'⟩:=hm
  rw [ho] at ho'; cases ho'
  exact ⟨_,es',ep',hL,r'⟩) hok hg
theorem Inv.turned {t' : Nat} {it : Addr} (I : Inv X pins σ H s) (k : ∀ b o, b ≠ it → s.heap.get? b=some o → h'.get? b=some o) (hn : H it=none) (hL : it ≠ X.env.locals)
  (h1:it∈X.ex∨X.s₀.heap.objs.size≤it) (h2:∀ x c,X.env.cells.lookup x=some c->c≠it) (h3:∀ p∈X.pn++pins,p.1≠it):Inv X pins σ H { s with heap:=h',toks:=t' }:=by
 have nit:∀ b u,H b=some u->b≠it:=fun b u e z=>by rw [z,hn] at e; cases e
 refine I.step (g':=s.gens) (d':=s.drawn) (ch:=[it]) (fun b hb=>?_) (fun b o _ _ hc e _=>k b o (fun z=>hc (by simp [z])) e) (fun b o _ _ hc e _=>⟨o.slots,k b o (fun z=>hc (by simp [z])) e⟩) (fun _ _ _ _ n=>n)
  (fun b o hc e=>⟨o,k b o (fun z=>hc (by simp [z])) e⟩) (fun _ _ e=>e) (fun _ _ _ e=>e) (fun b ps e=>⟨#[],by rw [e]; simp⟩) (fun m hm=>?_) (fun b u e=>?_) I.bare
 ·have e:b=it:=by simpa using hb
  subst e
  exact ⟨h1,hL,h2,h3⟩
 ·obtain ⟨o,es,ep,ho,r⟩:=hm
  exact ⟨o,es,ep,k _ o (Ne.symm hL) ho,r⟩
 ·refine (I.hok b u e).stay (fun c v hc q=>k c v ?_ q) (fun _ q=>q) fun _ _ q=>q
  rcases hc with z | z
  ·rw [z]; exact nit b u e
  ·exact nit c _ z
theorem Inv.tok (I:Inv X pins σ H s) (t:Nat):Inv X pins σ H { s with toks:=t }:=I.un (h':=s.heap) (t':=t) Un.refl I.hok
theorem Inv.kept {t':Nat} (I:Inv X pins σ H s) (k:∀ b u,s.heap.get? b=some u->h'.get? b=some u):Inv X pins σ H { s with heap:=h',toks:=t' }:=I.un (Un.kept k) (I.hok.kept k)
theorem Inv.laid {a : Addr} {o : HO} {t' : Nat} (I : Inv X pins σ H s) (k : ∀ b u, s.heap.get? b=some u → h'.get? b=some u) (hp : s.heap.objs.size ≤ a) (new : ObjOk X.prog X.w (upd H a o) h' a o) :
  Inv X pins σ (upd H a o) { s with heap:=h',toks:=t' }:=I.un (Un.laid k hp (I.hok.fresh hp)) (I.hok.laid k hp new)
theorem Inv.write {x e : Addr} {o : HO} {t' : Nat} (I : Inv X pins σ H s) (mu : Mut (H x)) (he : e=x ∨ H e=some (.own x)) (k : ∀ b u, b ≠ e → s.heap.get? b=some u → h'.get? b=some u) (heo : ∃ u, h'.get? e=some u)
  (new:ObjOk X.prog X.w (upd H x o) h' x o):Inv X pins σ (upd H x o) { s with heap:=h',toks:=t' }:=I.un (Un.write mu he k heo) (I.hok.write mu he k heo new)
theorem Inv.pins_of {pins':List (Addr × Obj)} (I:Inv X pins σ H s) (h:∀ p∈pins',s.heap.get? p.1=some p.2∧H p.1=none∧p.1≠X.env.locals∧p.1 ∉ X.fs∧∀ v,p.2.data≠.cell v):Inv X pins' σ H s :=
 ⟨I.ok,I.os,I.bare,I.base,I.loc,I.cell,I.free,I.freeC,fun p hp=>(List.mem_append.mp hp).elim (fun z=>I.pin p (List.mem_append_left _ z)) (h p),I.hok,I.len⟩
theorem ZiV {N:List Str} (hN:N.Nodup) {i j:Nat} {x:Str} (a:N[i]?=some x) (b:N[j]?=some x):i=j:=by
 obtain ⟨h1,e1⟩:=List.getElem?_eq_some_iff.mp a
 obtain ⟨h2,e2⟩:=List.getElem?_eq_some_iff.mp b
 exact (List.getElem_inj hN).mp (e1.trans e2.symm)
theorem Zkn {M : Model} {A : Around} {E : Value → Shared → Prop} {i : Nat} {x : Str} {v : V} {u : Value} {Q : Unit → Shared → Prop} (I : Inv X pins σ H s) (hN : X.N.Nodup) (hi : X.N[i]?=some x) (hx : Loc X.env.scope x) (r : RelV v u)
  (h:∀ s',Inv X pins (σ.set i (some v)) H s'->(∃ a,Heap.SameBut a s.heap s'.heap∧(a=X.env.locals∨X.env.cells.lookup x=some a))->Q () s') (hf:X.fn x=true∨X.env.scope.names.lookup x=some .local:=by first | exact .inl rfl | exact .inr rfl | assumption):wpAny M A (storeName X.env x u) Q E s:=by
 obtain ⟨m,hn,hl⟩:=id I.loc
 have hcls:(X.env.scope.kind == .class||(X.env.scope.kind == .module&&X.env.locals != X.env.globals))=false:=by rw [I.ok.kind]; rfl
 have hiσ:i<σ.length:=by rw [I.len]; exact (List.getElem?_eq_some_iff.mp hi).1
 have cne:=I.cne
 have tracked:∀ {a:Addr} {h':Heap},(∃ o,s.heap.get? a=some o∧H a=none)->Heap.SameBut a s.heap h'->HOk X.prog X.w H h':=fun {a h'} ha hs b ob e=>by
  obtain ⟨_,_,hfree⟩:=ha
  refine (I.hok b ob e).stay (fun c w' hc q=>(hs.2 c ?_).trans q) (fun _ q=>q) fun _ _ q=>q
  rintro rfl
  rcases hc with rfl | hc
  ·rw [hfree] at e; cases e
  ·rw [hfree] at hc; cases hc
 rcases hx with hk | hk
 ·refine wpAny_storeName_local hk hn (fun h' hn' hs=>?_) hcls
  obtain ⟨oL,_,_,hoL,_⟩:=id hn
  refine h _ ⟨I.ok,I.os,I.bare,⟨fun b o e n hb hx=>?_,fun b o e n hb hx=>?_,I.base.free,fun b o e hx=>?_,I.base.tups,I.base.frzs,I.base.tbls⟩,⟨_,hn',fun j y v' e1 e2 e3=>?_⟩,fun y c e=>?_,I.free,I.freeC,fun p hp=>?_,tracked ⟨oL,hoL,I.free⟩ hs,by simpa using I.len⟩ ⟨_,hs,.inl rfl⟩
  ·exact (hs.2 b (Nat.ne_of_lt (Nat.lt_of_lt_of_le (Heap.lt_size e) I.ok.above))).trans (I.base.keep b o e n hb hx)
  ·obtain ⟨sl,e1⟩:=I.base.slot b o e n hb hx
   exact ⟨sl,(hs.2 b (Nat.ne_of_lt (Nat.lt_of_lt_of_le (Heap.lt_size e) I.ok.above))).trans e1⟩
  ·obtain ⟨o',e1⟩:=I.base.there b o e hx
   exact ⟨o',(hs.2 b (Nat.ne_of_lt (Nat.lt_of_lt_of_le (Heap.lt_size e) I.ok.above))).trans e1⟩
  ·by_cases hj:j=i
   ·subst hj
    rw [hi] at e1; cases e1
    rw [List.getElem?_set_self hiσ] at e2
    cases e2
    exact ⟨u,r,.inl ⟨hk,by simp⟩⟩
   ·rw [List.getElem?_set_ne (Ne.symm hj)] at e2
    obtain ⟨u',r',q⟩:=hl j y v' e1 e2 e3
    refine ⟨u',r',?_⟩
    rcases q with ⟨k,e⟩ | ⟨k,c,e,z⟩
    ·refine .inl ⟨k,?_⟩
     have:y≠x:=fun e=>hj (ZiV hN e1 (e ▸ hi))
     simp [this,e]
    ·exact .inr ⟨k,c,e,z.sameBut hs (cne y c e)⟩
  ·obtain ⟨w',z⟩:=I.cell y c e
   exact ⟨w',z.sameBut hs (cne y c e)⟩
  ·obtain ⟨e,n,ne,nf,d⟩:=I.pin p hp
   exact ⟨(hs.2 p.1 ne).trans e,n,ne,nf,d⟩
 ·have hfn:X.fn x=true:=by
   rcases hf with z | z
   ·exact z
   ·rw [z] at hk; cases hk
  obtain ⟨c,hc⟩:=I.ok.has x (.inl hk)
  obtain ⟨w',z⟩:=I.cell x c hc
  refine wpAny_storeName_cell I.ok.kind hk hc z (fun h' hc' hs=>?_)
  obtain ⟨oc,hoc,hocd⟩:=id z
  refine h { s with heap:=h' } ⟨I.ok,I.os,I.bare,⟨fun b o e n hb hx=>?_,fun b o e n hb hx=>?_,I.base.free,fun b o e hx=>?_,I.base.tups,I.base.frzs,I.base.tbls⟩,⟨m,hn.sameBut hs (Ne.symm (cne x c hc)),fun j y v' e1 e2 e3=>?_⟩,fun y c' e=>?_,I.free,I.freeC,fun p hp=>?_,tracked ⟨oc,hoc,I.freeC x c hc⟩ hs,by simpa using I.len⟩ ⟨c,hs,.inr hc⟩
  ·exact (hs.2 b (Nat.ne_of_lt (Nat.lt_of_lt_of_le (Heap.lt_size e) (I.ok.cab x c hfn hc)))).trans (I.base.keep b o e n hb hx)
  ·obtain ⟨sl,e1⟩:=I.base.slot b o e n hb hx
   exact ⟨sl,(hs.2 b (Nat.ne_of_lt (Nat.lt_of_lt_of_le (Heap.lt_size e) (I.ok.cab x c hfn hc)))).trans e1⟩
  ·obtain ⟨o',e1⟩:=I.base.there b o e hx
   exact ⟨o',(hs.2 b (Nat.ne_of_lt (Nat.lt_of_lt_of_le (Heap.lt_size e) (I.ok.cab x c hfn hc)))).trans e1⟩
  ·by_cases hj:j=i
   ·subst hj
    rw [hi] at e1; cases e1
    rw [List.getElem?_set_self hiσ] at e2
    cases e2
    exact ⟨u,r,.inr ⟨.inl hk,c,hc,hc'⟩⟩
   ·rw [List.getElem?_set_ne (Ne.symm hj)] at e2
    obtain ⟨u',r',q⟩:=hl j y v' e1 e2 e3
    refine ⟨u',r',?_⟩
    rcases q with q | ⟨k,c',e,z'⟩
    ·exact .inl q
    ·refine .inr ⟨k,c',e,z'.sameBut hs ?_⟩
     rintro rfl
     exact hj (ZiV hN e1 (I.ok.inj _ _ _ e hc ▸ hi))
  ·by_cases hcc:c'=c
   ·subst hcc; exact ⟨_,hc'⟩
   ·obtain ⟨w2,z2⟩:=I.cell y c' e
    exact ⟨w2,z2.sameBut hs hcc⟩
  ·obtain ⟨e,n,ne,nf,d⟩:=I.pin p hp
   refine ⟨(hs.2 p.1 ?_).trans e,n,ne,nf,d⟩
   intro q
   rw [q,hoc] at e
   have q':oc=p.2:=Option.some.inj e
   exact d w' (by rw [← q']; exact hocd)
theorem Zi8 {M : Model} {A : Around} {E : Value → Shared → Prop} {i : Nat} {x : Str} {v : V} {u : Value} {Q : Unit → Shared → Prop} (I : Inv X pins σ H s) (hN : X.N.Nodup) (hi : X.N[i]?=some x) (hx : Loc X.env.scope x) (r : RelV v u)
  (h:∀ s',Inv X pins (σ.set i (some v)) H s'->Q () s') (hf:X.fn x=true∨X.env.scope.names.lookup x=some .local:=by first | exact .inl rfl | exact .inr rfl | assumption):wpAny M A (storeName X.env x u) Q E s :=
 Zkn I hN hi hx r (fun s' I' _=>h s' I') hf
theorem Inv.call' {s' : Shared} {ch : List Addr} (I : Inv X pins σ H s) (ho : s'.os=s.os) (u : Un (frs X.stack) ch H H' s.heap s'.heap) (hok : HOk X.prog X.w H' s'.heap) (hg : AllBare s'.gens)
  (hch:∀ b∈ch,(b∈X.ex∨X.s₀.heap.objs.size≤b)∧b≠X.env.locals∧(∀ x c,X.env.cells.lookup x=some c->c≠b)∧∀ p∈X.pn++pins,p.1≠b):Inv X pins σ H' s':=by
 obtain ⟨h',g',d',t',o'⟩:=s'
 have e:o'=s.os:=ho
 subst e
 exact I.call (g':=g') (t':=t') (d':=d') u hok hg hch
end
abbrev XK:=Value->Option Addr->Hp->Prop
abbrev St:=List (Option V)
abbrev VK:=V->Hp->Prop
abbrev TE:=St->Hp->VK->Prop
abbrev TT:=St->Hp->(Bool->Hp->Prop)->Prop
abbrev TA:=St->Hp->(List V->Hp->Prop)->Prop
structure Ends where
 nx:St->Hp->Prop
 rt:VK
 bk:St->Hp->Prop:=fun _ _=>False
 ct:St->Hp->Prop:=fun _ _=>False
abbrev TS:=Ends->St->Hp->Prop
def EP (X:Cx) (pins:List (Addr × Obj)) (σ:St) (Q:VK) (u:Value) (s':Shared):Prop:=∃ v H',Inv X pins σ H' s'∧RelV v u∧Q v H'
def TP (X:Cx) (pins:List (Addr × Obj)) (σ:St) (Q:Bool->Hp->Prop) (b:Bool) (s':Shared):Prop:=∃ H',Inv X pins σ H' s'∧Q b H'
def AP (X:Cx) (pins:List (Addr × Obj)) (σ:St) (Q:List V->Hp->Prop) (us:List Value) (s':Shared):Prop:=∃ vs H',Inv X pins σ H' s'∧Vals vs us∧Q vs H'
def SP (X:Cx) (pins:List (Addr × Obj)) (D:Ends) (f:Flow) (s':Shared):Prop :=
 match f with
 | .next=>∃ σ' H',Inv X pins σ' H' s'∧D.nx σ' H'
 | .brk=>∃ σ' H',Inv X pins σ' H' s'∧D.bk σ' H'
 | .cont=>∃ σ' H',Inv X pins σ' H' s'∧D.ct σ' H'
 | .ret u=>∃ v σ' H',Inv X pins σ' H' s'∧RelV v u∧D.rt v H'
def PE (X:Cx) (e:Expr) (t:TE):Prop :=
 ∀ (pins:List (Addr × Obj)) (s:Shared) (σ:St) (H:Hp) (Q:VK),Inv X pins σ H s->t σ H Q->wpAny (model X.prog X.w) X.A (eval e X.env) (EP X pins σ Q) X.xe s
def PT (X:Cx) (e:Expr) (t:TT):Prop :=
 ∀ (pins:List (Addr × Obj)) (s:Shared) (σ:St) (H:Hp) (Q:Bool->Hp->Prop),Inv X pins σ H s->t σ H Q->wpAny (model X.prog X.w) X.A (isTrue e X.env (eval e X.env)) (TP X pins σ Q) X.xe s
def PW (X:Cx) (e:Expr) (t:TT):Prop :=
 ∀ (whole:Sem Value) (pins:List (Addr × Obj)) (s:Shared) (σ:St) (H:Hp) (Q:Bool->Hp->Prop),Inv X pins σ H s->t σ H Q->wpAny (model X.prog X.w) X.A (isTrue e X.env whole) (TP X pins σ Q) X.xe s
theorem PW.pt {X:Cx} {e:Expr} {t:TT} (h:PW X e t):PT X e t:=h _
def PA (X:Cx) (es:List Expr) (t:TA):Prop :=
 ∀ (pos:Pos) (pins:List (Addr × Obj)) (s:Shared) (σ:St) (H:Hp) (Q:List V->Hp->Prop),Inv X pins σ H s->t σ H Q->wpAny (model X.prog X.w) X.A (spliced (backTo pos (starEach es X.env))) (AP X pins σ Q) X.xe s
def PS (X:Cx) (st:Stmt) (t:TS):Prop :=
 ∀ (pins:List (Addr × Obj)) (s:Shared) (σ:St) (H:Hp) (D:Ends),Inv X pins σ H s->t D σ H->wpAny (model X.prog X.w) X.A (exec st X.env) (SP X pins D) X.xe s
def PSs (X:Cx) (st:List Stmt) (t:TS):Prop :=
 ∀ (pins:List (Addr × Obj)) (s:Shared) (σ:St) (H:Hp) (D:Ends),Inv X pins σ H s->t D σ H->wpAny (model X.prog X.w) X.A (execs st X.env) (SP X pins D) X.xe s
theorem thn {α:Type} {t:Sem α} {Q Q':α->Shared->Prop} {M:Model} {A:Around} {E:Value->Shared->Prop} {s:Shared} (h:wpAny M A t Q E s) (hQ:∀ a s,Q a s->Q' a s):wpAny M A t Q' E s:=wpAny_mono h hQ fun _ _ x=>x
section
variable {X:Cx}
def Zrv (i:Nat):TE:=fun σ H Q=>∃ v,σ[i]?=some (some v)∧Q v H
def tC (v:V):TE:=fun _ H Q=>Q v H
theorem ZpE {i:Nat} {x:Str} {pos:Pos} (hN:X.N[i]?=some x) (hv:Vis X.env.scope x) (hd:(x == ("__debug__" : Str))=false:=by decide) (hcd:(x == ("__classdict__" : Str))=false:=by decide):PE X (.Name x pos) (Zrv i):=by
 intro pins s σ H Q I h
 obtain ⟨v,e,h⟩:=h
 obtain ⟨m,hn,hl⟩:=I.loc
 obtain ⟨u,r,l⟩:=hl i x v hN e hv
 have fin:EP X pins σ Q u s:=⟨v,H,I,r,h⟩
 rcases l with ⟨hk,hm⟩ | ⟨hk,c,hc,hcell⟩
 ·exact wpAny_Name (wpAny_loadName_local I.ok.kind hk hn hm fin) hd
 ·rcases hk with hk | hk
  ·exact wpAny_Name (wpAny_loadName_cell I.ok.kind hk hc hcell fin) hd
  ·exact wpAny_Name (wpAny_loadName_free I.ok.kind hk hc hcell fin hcd) hd
theorem Zad {i j pos}:PE X (.Constant (.int i) j pos) (tC (.int i)):=fun _ _ _ H _ I h=>wpAny_Constant_int ⟨.int i,H,I.tok _,⟨_,rfl⟩,h⟩
theorem Zeu {b j pos}:PE X (.Constant (.bool b) j pos) (tC (.bl b)):=fun _ _ _ H _ I h=>Constant_bool ⟨.bl b,H,I,rfl,h⟩
theorem ZcJ {j pos}:PE X (.Constant .none j pos) (tC .non):=fun _ _ _ H _ I h=>Constant_none ⟨.non,H,I,rfl,h⟩
theorem Zaw {x j pos}:PE X (.Constant (.str x) j pos) (tC (.str x)):=fun _ _ _ H _ I h=>Calls.Constant_str ⟨.str x,H,I.tok _,⟨_,rfl⟩,h⟩
def Gl (X:Cx) (x:Str):Prop:=X.env.kindOf x=some .globalImplicit
theorem ZhY {E : Value → Shared → Prop} {pins : List (Addr × Obj)} {s : Shared} {σ : St} {H : Hp} {x : Str} {u : Value} {pos : Pos} {Q : Value → Shared → Prop} (I : Inv X pins σ H s) (hg : Gl X x) (hm : X.mg x=some u) (h : Q u s)
  (hd:(x == ("__debug__" : Str))=false:=by decide):wpAny (model X.prog X.w) X.A (eval (.Name x pos) X.env) Q E s :=
 Calls.Name_function_global I.ok.kind hg (Calls.loadGlobal_global (by rw [I.ok.glob]; exact I.mod.glob.keeps I.bk) hm h) hd
theorem ZhD {E : Value → Shared → Prop} {pins : List (Addr × Obj)} {s : Shared} {σ : St} {H : Hp} {x : Str} {u : Value} {pos : Pos} {Q : Value → Shared → Prop} (I : Inv X pins σ H s) (hg : Gl X x) (hm : X.mg x=none) (hv : bootBuiltins x=some u) (h : Q u s)
  (hn:x≠"__name__":=by decide) (hd:(x == ("__debug__" : Str))=false:=by decide):wpAny (model X.prog X.w) X.A (eval (.Name x pos) X.env) Q E s:=by
 obtain ⟨mb,h1,h2⟩:=I.mod.blt
 exact Calls.Name_function_global I.ok.kind hg (Calls.loadGlobal_builtin (by rw [I.ok.glob]; exact I.mod.glob.keeps I.bk) hm (by rw [I.ok.blt]; exact h1.keeps I.bk) ((h2 x hn).trans hv) h) hd
theorem Zfi {x:Str} {v:V} {u:Value} {pos:Pos} (hg:Gl X x) (hm:X.mg x=some u) (r:RelV v u) (hd:(x == ("__debug__" : Str))=false:=by decide):PE X (.Name x pos) (tC v) :=
 fun _ _ _ H _ I h=>ZhY I hg hm ⟨v,H,I,r,h⟩ hd
theorem ZcN {x:Str} {v:V} {u:Value} {pos:Pos} (hg:Gl X x) (hm:X.mg x=none) (hv:bootBuiltins x=some u) (r:RelV v u) (hn:x≠"__name__":=by decide) (hd:(x == ("__debug__" : Str))=false:=by decide):PE X (.Name x pos) (tC v) :=
 fun _ _ _ H _ I h=>ZhD I hg hm hv ⟨v,H,I,r,h⟩ hn hd
variable {a b:Expr} {ta tb:TE} {pos:Pos}
def PC (X:Cx) (op:CmpOp) (a b:Expr) (t:TE):Prop :=
 ∀ (pins:List (Addr × Obj)) (s:Shared) (σ:St) (H:Hp) (Q:VK),Inv X pins σ H s->t σ H Q →
  wpAny (model X.prog X.w) X.A (eval a X.env) (fun v s₁=>wpAny (model X.prog X.w) X.A (eval b X.env) (fun u s₂=>wpAny (model X.prog X.w) X.A (compareOp op v u) (EP X pins σ Q) X.xe s₂) X.xe s₁) X.xe s
def tB (t:TE):TT:=fun σ H Q=>t σ H fun x H1=>∃ c,x=.bl c∧Q c H1
theorem ZnP {op:CmpOp} {t:TE} (h:PC X op a b t) (h1:behindInMarks op b=false:=by first | exact nobehind _ (by decide) (by decide) | rfl):PT X (.Compare a [op] [b] pos) (tB t):=by
 intro pins s σ H Q I hw
 refine wpAny_isTrue_Compare1 (thn (h pins s σ H _ I hw) fun v s1 h1=>thn h1 fun u s2 h2=>thn h2 fun c s3 ⟨x,H1,I1,r1,q1⟩=>?_) h1
 obtain ⟨d,rfl,q⟩:=q1
 cases r1
 exact wpAny_truthy_bool ⟨H1,I1,q⟩
theorem ZcO {e:Expr} {t:TE} (h:PE X e t) (he:∀ whole,isTrue e X.env whole=(do let v ← whole; standAt e.pos; holding [v] (truthy v)):=by intro _; rfl):PT X e (tB t):=by
 intro pins s σ H Q I hw
 refine isTrue_plain (thn (h pins s σ H _ I hw) fun v s1 ⟨x,H1,I1,r1,q1⟩=>?_) (he _)
 obtain ⟨d,rfl,q⟩:=q1
 cases r1
 exact wpAny_truthy_bool ⟨H1,I1,q⟩
variable {tA tB':TT} {rest:List Expr}
def Zto (t u:TT):TT:=fun σ H Q=>t σ H fun c H1=>if c=true then u σ H1 Q else Q false H1
def tOr (t u:TT):TT:=fun σ H Q=>t σ H fun c H1=>if c=true then Q true H1 else u σ H1 Q
def Ztx (t:TT):TT:=fun σ H Q=>t σ H fun c H1=>Q (!c) H1
theorem Zew (ha:PT X a tA):PW X (.BoolOp .And [a] pos) tA:=by
 intro wh pins s σ H Q I h
 refine isTrue_and (thn (ha pins s σ H Q I h) fun c s1 e=>?_)
 cases c with
 | true=>exact isTrue_and_nil e
 | false=>exact e
theorem Zho (ha:PT X a tA):PW X (.BoolOp .Or [a] pos) tA:=by
 intro wh pins s σ H Q I h
 refine isTrue_or (thn (ha pins s σ H Q I h) fun c s1 e=>?_)
 cases c with
 | false=>exact isTrue_or_nil e
 | true=>exact e
theorem Zfo (ha:PT X a tA) (hb:PW X (.BoolOp .And (b :: rest) pos) tB'):PW X (.BoolOp .And (a :: b :: rest) pos) (Zto tA tB'):=by
 intro wh pins s σ H Q I h
 refine isTrue_and (thn (ha pins s σ H _ I h) fun c s1 ⟨H1,I1,q1⟩=>?_)
 cases c with
 | true=>exact hb wh pins s1 σ H1 Q I1 q1
 | false=>exact ⟨H1,I1,q1⟩
theorem Zi6 (ha:PT X a tA) (hb:PW X (.BoolOp .Or (b :: rest) pos) tB'):PW X (.BoolOp .Or (a :: b :: rest) pos) (tOr tA tB'):=by
 intro wh pins s σ H Q I h
 refine isTrue_or (thn (ha pins s σ H _ I h) fun c s1 ⟨H1,I1,q1⟩=>?_)
 cases c with
 | true=>exact ⟨H1,I1,q1⟩
 | false=>exact hb wh pins s1 σ H1 Q I1 q1
theorem Zdx (ha:PT X a tA):PT X (.UnaryOp .Not a pos) (Ztx tA):=by
 intro pins s σ H Q I h
 exact isTrue_not (ha pins s σ H (fun c H1=>Q (!c) H1) I h)
def ZsH (ta tb:TE):TE:=fun σ H Q=>ta σ H fun x H1=>∃ c,x=.bl c∧if c=true then tb σ H1 Q else Q (.bl false) H1
def Ztl (ta tb:TE):TE:=fun σ H Q=>ta σ H fun x H1=>∃ c,x=.bl c∧if c=true then Q (.bl true) H1 else tb σ H1 Q
def Zsc (ta:TE):TE:=fun σ H Q=>ta σ H fun x H1=>∃ c,x=.bl c∧Q (.bl (!c)) H1
theorem Zdw {op} {t:TE} (h:PE X a t):PE X (.BoolOp op [a] pos) t:=fun pins s σ H Q I hw=>BoolOp_one (h pins s σ H Q I hw)
theorem Zec (ha:PE X a ta) (hb:PE X (.BoolOp .And (b :: rest) pos) tb):PE X (.BoolOp .And (a :: b :: rest) pos) (ZsH ta tb):=by
 intro pins s σ H Q I h
 refine BoolOp_and (thn (ha pins s σ H _ I h) fun v s1 ⟨x,H1,I1,r1,q1⟩=>?_)
 obtain ⟨c,rfl,q1⟩:=q1
 cases r1
 refine wpAny_truthy_bool ?_
 cases c with
 | true=>exact hb pins s1 σ H1 Q I1 q1
 | false=>exact ⟨.bl false,H1,I1,rfl,q1⟩
theorem Zqt (ha:PE X a ta) (hb:PE X (.BoolOp .Or (b :: rest) pos) tb):PE X (.BoolOp .Or (a :: b :: rest) pos) (Ztl ta tb):=by
 intro pins s σ H Q I h
 refine BoolOp_or (thn (ha pins s σ H _ I h) fun v s1 ⟨x,H1,I1,r1,q1⟩=>?_)
 obtain ⟨c,rfl,q1⟩:=q1
 cases r1
 refine wpAny_truthy_bool ?_
 cases c with
 | false=>exact hb pins s1 σ H1 Q I1 q1
 | true=>exact ⟨.bl true,H1,I1,rfl,q1⟩
theorem ZqW (ha:PE X a ta):PE X (.UnaryOp .Not a pos) (Zsc ta):=by
 intro pins s σ H Q I h
 refine UnaryOp_ (thn (ha pins s σ H _ I h) fun v s1 ⟨x,H1,I1,r1,q1⟩=>?_)
 obtain ⟨c,rfl,q1⟩:=q1
 cases r1
 exact not_of (wpAny_truthy_bool ⟨.bl (!c),H1,I1,rfl,q1⟩)
def tIf (t:TT) (ta tb:TE):TE:=fun σ H Q=>t σ H fun c H1=>if c=true then ta σ H1 Q else tb σ H1 Q
theorem ZoP {c:Expr} (hc:PT X c tA) (ha:PE X a ta) (hb:PE X b tb):PE X (.IfExp c a b pos) (tIf tA ta tb):=by
 intro pins s σ H Q I h
 refine wpAny_IfExp (thn (hc pins s σ H _ I h) fun d s1 ⟨H1,I1,q1⟩=>?_)
 cases d with
 | true=>exact ha pins s1 σ H1 Q I1 q1
 | false=>exact hb pins s1 σ H1 Q I1 q1
end
def SqL (K:W.Frag) (H:Hp) (a:Addr) (xs:List V):Prop :=
 Rd H a (.lst xs) ∨
  ∃ (o:Obj) (its:Array Value) (n:Nat),K.lookup a=some o∧o.cls=.type "list"∧o.dict=none∧o.data=.seq its n∧its.size≤sizeLine∧Vals xs its.toList
def SqT (K:W.Frag) (H:Hp) (a:Addr) (xs:List V):Prop :=
 Rd H a (.tup xs) ∨
  ∃ (o:Obj) (its:Array Value) (n:Nat),K.lookup a=some o∧o.cls=.type "tuple"∧o.data=.seq its n∧its.size≤sizeLine∧Vals xs its.toList
noncomputable def Ztb:Value->Option V
 | .none=>some .non
 | .bool b=>some (.bl b)
 | .int i _=>some (.int i)
 | .str x _=>some (.str x)
 | .bytes b _=>some (.byt b)
 | .float b _=>some (.flt b)
 | .ref a=>some (.ref a)
 | .type n=>some (.ty n)
 | _=>none
theorem RelV.abs {x:V} {u:Value} (r:RelV x u):Ztb u=some x:=by
 cases x with
 | non=>cases r; rfl
 | bl _=>cases r; rfl
 | int _=>obtain ⟨t,rfl⟩:=r; rfl
 | str _=>obtain ⟨t,rfl⟩:=r; rfl
 | byt _=>obtain ⟨t,rfl⟩:=r; rfl
 | flt _=>obtain ⟨t,rfl⟩:=r; rfl
 | ref _=>cases r; rfl
 | ty _=>cases r; rfl
theorem RelV.inj {x y:V} {u:Value} (r:RelV x u) (q:RelV y u):x=y:=Option.some.inj (r.abs.symm.trans q.abs)
theorem Vals.inj:∀ {xs ys:List V} {us:List Value},Vals xs us->Vals ys us->xs=ys
 | _,_,_,.nil,.nil=>rfl
 | _,_,_,.cons r t,.cons r' t'=>by rw [r.inj r',Vals.inj t t']
section
variable {X:Cx} {pins:List (Addr × Obj)} {σ:St} {H:Hp} {s:Shared} {a:Addr} {xs ys:List V}
theorem SqL.of {K:W.Frag} (h:H a=some (.lst xs)):SqL K H a xs:=.inl (.inl h)
theorem SqT.of {K:W.Frag} (h:H a=some (.tup xs)):SqT K H a xs:=.inl (.inl h)
theorem Inv.list (I:Inv X pins σ H s) (h:SqL X.K H a xs):∃ its:List Value,Vals xs its∧PlainL s.heap a its.toArray∧xs.length≤sizeLine:=by
 rcases h with h | ⟨o,its,n,hk,hc,hd,hs,hz,r⟩
 ·obtain ⟨z,its,n,r,e⟩:=h.ok I.hok
  exact ⟨its,r,⟨_,n,e,rfl,rfl,rfl⟩,z⟩
 ·refine ⟨its.toList,r,⟨o,n,I.kIn a o hk,hc,hd,by simpa using hs⟩,?_⟩
  have e:=r.length
  simp only [Array.length_toList] at e
  omega
theorem Inv.tuple (I:Inv X pins σ H s) (h:SqT X.K H a xs):∃ its:List Value,Vals xs its∧IsTup s.heap a its.toArray∧xs.length≤sizeLine:=by
 rcases h with h | ⟨o,its,n,hk,hc,hs,hz,r⟩
 ·obtain ⟨z,its,r,p⟩:=h.ok I.hok
  exact ⟨its,r,p,z⟩
 ·refine ⟨its.toList,r,⟨o,I.kIn a o hk,hc,n,by simpa using hs⟩,?_⟩
  have e:=r.length
  simp only [Array.length_toList] at e
  omega
theorem Inv.list_inj (I:Inv X pins σ H s) (h:SqL X.K H a xs) (h':SqL X.K H a ys):xs=ys:=by
 obtain ⟨its,r,⟨o,n,e,_,_,d⟩,_⟩:=I.list h
 obtain ⟨its',r',⟨o',n',e',_,_,d'⟩,_⟩:=I.list h'
 rw [e] at e'; cases e'
 rw [d] at d'
 injection d' with d1 _
 have:its=its':=by simpa using congrArg Array.toList d1
 subst this
 exact r.inj r'
theorem Inv.tuple_inj (I:Inv X pins σ H s) (h:SqT X.K H a xs) (h':SqT X.K H a ys):xs=ys:=by
 obtain ⟨its,r,⟨o,e,_,n,d⟩,_⟩:=I.tuple h
 obtain ⟨its',r',⟨o',e',_,n',d'⟩,_⟩:=I.tuple h'
 rw [e] at e'; cases e'
 rw [d] at d'
 injection d' with d1 _
 have:its=its':=by simpa using congrArg Array.toList d1
 subst this
 exact r.inj r'
end
section
variable {X:Cx} {pins:List (Addr × Obj)} {σ:St} {H:Hp} {s:Shared} {E:Value->Shared->Prop}
end
section
variable {X:Cx} {st:Stmt} {rest:List Stmt} {t u:TS} {e:Expr} {te:TE} {pos:Pos}
def ZnC:TS:=fun D σ H=>D.nx σ H
def Zr2 (t u:TS):TS:=fun D σ H=>t { D with nx:=u D } σ H
theorem Zay:PSs X [] ZnC:=fun _ _ σ H _ I h=>wpAny_execs_nil ⟨σ,H,I,h⟩
theorem Zae (h1:PS X st t) (h2:PSs X rest u):PSs X (st :: rest) (Zr2 t u):=by
 intro pins s σ H D I h
 refine wpAny_execs_cons (thn (h1 pins s σ H { D with nx:=u D } I h) fun f s1 q=>?_)
 cases f with
 | next =>
  obtain ⟨σ',H',I',q⟩:=q
  exact h2 pins s1 σ' H' D I' q
 | ret v=>exact q
 | brk=>exact q
 | cont=>exact q
theorem Zah (h1:PS X st t):PSs X [st] t:=by
 intro pins s σ H D I h
 refine wpAny_execs_cons (thn (h1 pins s σ H D I h) fun f s1 q=>?_)
 cases f with
 | next=>exact wpAny_execs_nil q
 | ret v=>exact q
 | brk=>exact q
 | cont=>exact q
theorem Inv.quiet {pins:List (Addr × Obj)} {σ:St} {H:Hp} {s:Shared} (I:Inv X pins σ H s):interactive X.env=false:=by simp [interactive,I.ok.kind]
def Zsm (te:TE):TS:=fun D σ H=>te σ H fun _ H1=>D.nx σ H1
theorem Za9 (he:PE X e te) (hs:swapsWith e none pos.line X.env=pure false:=by rfl):PS X (.Expr e pos) (Zsm te):=by
 intro pins s σ H D I h
 exact wpAny_Expr_any (thn (he pins s σ H _ I h) fun v s1 ⟨x,H1,I1,r1,q1⟩=>⟨σ,H1,I1,q1⟩) I.quiet hs
def Zte (te:TE):TS:=fun D σ H=>te σ H D.rt
theorem Zax (he:PE X e te):PS X (.Return (some e) pos) (Zte te):=by
 intro pins s σ H D I h
 exact wpAny_Return_some (thn (he pins s σ H _ I h) fun v s1 ⟨x,H1,I1,r1,q1⟩=>⟨x,σ,H1,I1,r1,q1⟩)
def Ztt (c:TT) (t u:TS):TS:=fun D σ H=>c σ H fun b H1=>if b=true then t D σ H1 else u D σ H1
theorem Za8 {c:Expr} {a b:List Stmt} {tc:TT} (hc:PT X c tc) (ha:PSs X a t) (hb:PSs X b u):PS X (.If c a b pos) (Ztt tc t u):=by
 intro pins s σ H D I h
 refine wpAny_If (thn (hc pins s σ H _ I h) fun d s1 ⟨H1,I1,q1⟩=>?_)
 cases d with
 | true=>exact ha pins s1 σ H1 D I1 q1
 | false=>exact hb pins s1 σ H1 D I1 q1
end
abbrev TG:=V->St->Hp->(St->Hp->Prop)->Prop
abbrev TGs:=List V->St->Hp->(St->Hp->Prop)->Prop
def PG (X:Cx) (target:Expr) (t:TG):Prop :=
 ∀ (pins:List (Addr × Obj)) (s:Shared) (σ:St) (H:Hp) (v:V) (u:Value) (Q:St->Hp->Prop),Inv X pins σ H s->RelV v u->t v σ H Q →
  wpAny (model X.prog X.w) X.A (assign target X.env u) (fun _ s'=>∃ σ' H',Inv X pins σ' H' s'∧Q σ' H') X.xe s
def PGs (X:Cx) (ts:List Expr) (t:TGs):Prop :=
 ∀ (pins:List (Addr × Obj)) (s:Shared) (σ:St) (H:Hp) (vs:List V) (us:List Value) (Q:St->Hp->Prop),Inv X pins σ H s->Vals vs us->t vs σ H Q →
  wpAny (model X.prog X.w) X.A (assignInOrder ((assignEach ts X.env).map (·.2)) us) (fun _ s'=>∃ σ' H',Inv X pins σ' H' s'∧Q σ' H') X.xe s
section
variable {X:Cx} {pos:Pos}
def ZbE (i:Nat):TG:=fun v σ H Q=>Q (σ.set i (some v)) H
theorem ZaF {i:Nat} {x:Str} (hN:X.N.Nodup) (hi:X.N[i]?=some x) (hx:Loc X.env.scope x) (hf:X.fn x=true∨X.env.scope.names.lookup x=some .local:=by first | exact .inl rfl | exact .inr rfl | assumption):PG X (.Name x pos) (ZbE i):=by
 intro pins s σ H v u Q I r h
 exact wpAny_assign_Name (Zi8 I hN hi hx r (fun s' I'=>⟨_,H,I',h⟩) hf)
def Zs3:TGs:=fun vs σ H Q=>vs=[]∧Q σ H
def ZsK (t:TG) (u:TGs):TGs:=fun vs σ H Q=>∃ v r,vs=v :: r∧t v σ H fun σ' H'=>u r σ' H' Q
theorem Zgd:PGs X [] Zs3:=by
 intro pins s σ H vs us Q I r h
 obtain ⟨e,h⟩:=h
 subst e
 cases r
 exact assignInOrder_nil ⟨σ,H,I,h⟩
theorem Zcf {e : Expr} {es : List Expr} {t : TG} {u : TGs} (h1 : PG X e t) (h2 : PGs X es u)
  (hs:(assignEach (e :: es) X.env).map (·.2)=assign e X.env :: (assignEach es X.env).map (·.2):=by rfl):PGs X (e :: es) (ZsK t u):=by
 intro pins s σ H vs us Q I r h
 obtain ⟨v,vr,e1,h⟩:=h
 subst e1
 cases r with
 | cons r rr =>
  rw [hs]
  refine assignInOrder_cons (thn (h1 pins s σ H _ _ _ I r h) fun _ s1 ⟨σ1,H1,I1,q1⟩=>?_)
  exact h2 pins s1 σ1 H1 _ _ Q I1 rr q1
def ZsU (K:W.Frag) (n:Nat) (t:TGs):TG:=fun v σ H Q=>∃ a xs,v=.ref a∧SqT K H a xs∧xs.length=n∧t xs σ H Q
theorem ZlX {es : List Expr} {k : Nat} {t : TGs} {n : Nat} (hc : X.calm=true) (h : PGs X es t)
  (hn:(assignEach es X.env).length=n:=by rfl) (hst:(assignEach es X.env).findIdx? (·.1)=none:=by rfl):PG X (.Tuple es k pos) (ZsU X.K n t):=by
 intro pins s σ H v u Q I r hw
 obtain ⟨a,xs,e1,hq,hl,hw⟩:=hw
 subst e1
 cases r
 obtain ⟨its,rv,ht,hz⟩:=I.tuple hq
 refine assign_Tuple_tuple (I.ok.hd hc) ht (by simp [hn,← hl,rv.length]) hst fun h' hx=>?_
 have I1:Inv X pins σ H { s with heap:=h' }:=I.kept (t':=s.toks) fun b o e=>hx b o (Nat.ne_of_lt (Heap.lt_size e)) e
 exact h pins _ σ H xs _ Q I1 (by simpa using rv) hw
def ZsS (te:TE) (g:TG):TS:=fun D σ H=>te σ H fun x H1=>g x σ H1 D.nx
theorem ZaC {i : Nat} {x : Str} {e : Expr} {te : TE} {pos' : Pos} (hN : X.N.Nodup) (hi : X.N[i]?=some x) (hx : Loc X.env.scope x) (he : PE X e te) (hs : swapsWith e (some (.Name x pos')) pos.line X.env=pure false := by rfl) (hf : X.fn x=true ∨ X.env.scope.names.lookup x=some .local := by first | exact .inl rfl | exact .inr rfl | assumption) :
  PS X (.Assign [.Name x pos'] e pos) (ZsS te (ZbE i)):=by
 intro pins s σ H D I h
 refine wpAny_Assign_Name (thn (he pins s σ H _ I h) fun v s1 ⟨y,H1,I1,r1,q1⟩=>?_) hs
 exact Zi8 I1 hN hi hx r1 (fun s2 I2=>⟨_,H1,I2,q1⟩) hf
end
section
variable {X:Cx} {pos:Pos}
end
structure It where
 go:Nat->Hp->Prop
 yld:Nat->Hp->V->Hp->Prop
 stop:Nat->Hp->Prop
def ZmS (X:Cx) (pins:List (Addr × Obj)) (H:Hp) (b:Addr):Prop :=
 H b=none∧b≠X.env.locals∧b ∉ X.fs∧(b∈X.ex∨X.s₀.heap.objs.size≤b)∧(∀ x c,X.env.cells.lookup x=some c->c≠b)∧∀ p∈X.pn++pins,p.1≠b
theorem Inv.fpOk {X:Cx} {pins:List (Addr × Obj)} {σ:St} {H H':Hp} {s:Shared} {b:Addr} (I:Inv X pins σ H s) (hb:s.heap.objs.size≤b) (hn:H' b=none):ZmS X pins H' b:=by
 refine ⟨hn,Nat.ne_of_gt (Nat.lt_of_lt_of_le I.lt hb),I.nofs hb,.inr (Nat.le_trans I.sz hb),fun x c e z=>?_,fun p hp z=>?_⟩
 ·obtain ⟨v,q⟩:=I.cell x c e
  exact absurd (Nat.lt_of_lt_of_le q.lt (by rw [z]; exact hb)) (Nat.lt_irrefl _)
 ·exact absurd (Nat.lt_of_lt_of_le (Heap.lt_size (I.pin p hp).1) (by rw [z]; exact hb)) (Nat.lt_irrefl _)
structure Turn (P:Program) (w:World) (K:W.Frag) (tg:Expr) (J:It) (fp:List Addr) (it:Addr) (tn:Nat->Heap->Prop):Prop where
 mem:it∈fp
 obj:∀ i h,tn i h->∀ b∈fp,∃ o,h.get? b=some o∧∀ v,o.data≠.cell v
 keep:∀ i h h',tn i h->(∀ b∈fp,∀ o,h.get? b=some o->h'.get? b=some o)->tn i h'
 item:∀ (X:Cx),X.prog=P->X.w=w->X.K=K->X.calm=true->∀ (i:Nat) (pins:List (Addr × Obj)) (s:Shared) (σ:St) (H:Hp) (E:Value->Shared->Prop),Inv X pins σ H s->(∀ b∈fp,ZmS X pins H b)->tn i s.heap->J.go i H →
  wpAny (model P w) X.A (pyNext (.ref it)) (fun r s1=>∃ u,r=some u ∧
   wpAny (model P w) X.A (letOwnedTupleGo tg (.ref it) u) (fun _ s2=>∃ x H',Inv X pins σ H' s2∧RelV x u∧J.yld i H x H'∧tn (i+1) s2.heap∧∀ b∈fp,H' b=none) E s1) E s
 done:∀ (X:Cx),X.prog=P->X.w=w->X.K=K->X.calm=true->∀ (i:Nat) (pins:List (Addr × Obj)) (s:Shared) (σ:St) (H:Hp) (E:Value->Shared->Prop),Inv X pins σ H s->(∀ b∈fp,ZmS X pins H b)->tn i s.heap->J.stop i H →
  wpAny (model P w) X.A (pyNext (.ref it)) (fun r s1=>r=none∧Inv X pins σ H s1) E s
 self:∀ (A:Around) (i:Nat) (s:Shared) (Q:Value->Shared->Prop) (E:Value->Shared->Prop),tn i s.heap->Q (.ref it) s->wpAny (model P w) A (pyIter (.ref it)) Q E s
abbrev TI:=St->Hp->(It->Hp->Prop)->Prop
def PIE (X:Cx) (pins:List (Addr × Obj)) (σ:St) (tg:Expr) (R:It->Hp->Prop) (itv:Value) (s2:Shared):Prop :=
 ∃ (it:Addr) (fp:List Addr) (tn:Nat->Heap->Prop) (J:It) (H':Hp),itv=.ref it∧Inv X pins σ H' s2∧Turn X.prog X.w X.K tg J fp it tn∧tn 0 s2.heap∧(∀ b∈fp,ZmS X pins H' b)∧R J H'
def PI (X:Cx) (tg iter:Expr) (wi:TI):Prop :=
 ∀ (pins:List (Addr × Obj)) (s:Shared) (σ:St) (H:Hp) (R:It->Hp->Prop),Inv X pins σ H s->wi σ H R →
  wpAny (model X.prog X.w) X.A (eval iter X.env) (fun v s1=>wpAny (model X.prog X.w) X.A (pyIter v) (PIE X pins σ tg R) X.xe s1) X.xe s
theorem Zn8 {M : Model} {A : Around} {E : Value → Shared → Prop} {s : Shared} {tg : Expr} {it : Addr} {u : Value} {o : Obj} {n : String} {vs : Array Value} {Q : Unit → Shared → Prop} (ho : s.heap.get? it=some o) (hc : o.cls=.type n) (hd : o.data=.fields vs)
  (hn:["enumerate","zip","dict_itemiterator","dict_reverseitemiterator","odict_iterator","itertools.zip_longest","itertools.pairwise"].contains n=false) (hQ:Q () s):wpAny M A (letOwnedTupleGo tg (.ref it) u) Q E s:=by
 unfold letOwnedTupleGo
 cases tg <;> first
  | exact wpAny_pure hQ
  | (cases u <;> first
    | exact wpAny_pure hQ
    | (refine wpAny_bind (wpAny_load ho ?_)
       rw [hc,hd]
       show wpAny M A (if (["enumerate","zip","dict_itemiterator","dict_reverseitemiterator","odict_iterator","itertools.zip_longest","itertools.pairwise"].contains n&&vs[0]? == some (rawInt _))=true then _ else _) Q E s
       rw [if_neg (by intro h; rw [hn,Bool.false_and] at h; cases h)]
       exact wpAny_pure hQ))
noncomputable def Itl (K:W.Frag) (a:Addr):It :=
 ⟨fun i H=>∃ xs x,SqL K H a xs∧xs[i]?=some x,fun i H x H'=>H'=H∧∀ xs,SqL K H a xs->xs[i]?=some x,fun i H=>∃ xs,SqL K H a xs∧xs.length≤i⟩
noncomputable def Itt (K:W.Frag) (a:Addr):It :=
 ⟨fun i H=>∃ xs x,SqT K H a xs∧xs[i]?=some x,fun i H x H'=>H'=H∧∀ xs,SqT K H a xs->xs[i]?=some x,fun i H=>∃ xs,SqT K H a xs∧xs.length≤i⟩
noncomputable def Itr (lo:Int) (n:Nat):It:=⟨fun i _=>i<n,fun i H x H'=>H'=H∧x=.int (lo+i),fun i _=>n≤i⟩
theorem Zm9 {P:Program} {w:World} {K:W.Frag} {tg:Expr} (a it:Addr):Turn P w K tg (Itl K a) [it] it (fun i h=>h.IsListIter it a i) where
 mem:=by simp
 obj:=fun i h st b hb=>by
  have e:b=it:=by simpa using hb
  subst e
  obtain ⟨o,e,c,d⟩:=st
  exact ⟨o,e,fun v z=>by rw [d] at z; cases z⟩
 keep:=fun i h h' st k=>st.at fun o e=>k it (by simp) o e
 item:=by
  intro X hP hw hK hc i pins s σ H E I hf st hg
  subst hP hw hK
  obtain ⟨xs,x,hq,hx⟩:=hg
  obtain ⟨its,rv,p,hz⟩:=I.list hq
  obtain ⟨u,hu,ru⟩:=rv.get hx
  obtain ⟨f0,f1,f2,f3,f4,f5⟩:=hf it (by simp)
  refine wpAny_pyNext_list_item st p.isList (x:=u) (by simpa using hu) fun h' st' sb=>?_
  have I1:Inv X pins σ H { s with heap:=h' }:=I.turned (t':=s.toks) (fun b o hb e=>(sb.2 b hb).trans e) f0 f1 f3 f4 f5
  obtain ⟨o,e,c,d⟩:=id st'
  exact ⟨u,rfl,Zn8 (s:={ s with heap:=h' }) e c d (by decide) ⟨x,H,I1,ru,⟨rfl,fun ys hy=>by rw [I.list_inj hy hq]; exact hx⟩,st',fun b hb=>(hf b hb).1⟩⟩
 done:=by
  intro X hP hw hK hc i pins s σ H E I hf st hg
  subst hP hw hK
  obtain ⟨xs,hq,hx⟩:=hg
  obtain ⟨its,rv,p,hz⟩:=I.list hq
  obtain ⟨f0,f1,f2,f3,f4,f5⟩:=hf it (by simp)
  have hl:=rv.length
  exact wpAny_pyNext_list_end (I.ok.hd hc) st p.isList (by simp; omega) fun h' eb=>⟨rfl,I.turned (t':=s.toks) (fun b o hb e=>eb b o hb e) f0 f1 f3 f4 f5⟩
 self:=fun _ _ _ _ _ st h=>wpAny_pyIter_listiter st h
theorem Zmz {P:Program} {w:World} {K:W.Frag} {tg:Expr} (a it:Addr):Turn P w K tg (Itt K a) [it] it (fun i h=>h.IsTupleIter it a i) where
 mem:=by simp
 obj:=fun i h st b hb=>by
  have e:b=it:=by simpa using hb
  subst e
  obtain ⟨o,e,c,d⟩:=st
  exact ⟨o,e,fun v z=>by rw [d] at z; cases z⟩
 keep:=fun i h h' st k=>st.at fun o e=>k it (by simp) o e
 item:=by
  intro X hP hw hK hc i pins s σ H E I hf st hg
  subst hP hw hK
  obtain ⟨xs,x,hq,hx⟩:=hg
  obtain ⟨its,rv,p,hz⟩:=I.tuple hq
  obtain ⟨u,hu,ru⟩:=rv.get hx
  obtain ⟨f0,f1,f2,f3,f4,f5⟩:=hf it (by simp)
  refine wpAny_pyNext_tuple_item st (show s.heap.IsTuple a its.toArray from p) (x:=u) (by simpa using hu) fun h' st' sb=>?_
  have I1:Inv X pins σ H { s with heap:=h' }:=I.turned (t':=s.toks) (fun b o hb e=>(sb.2 b hb).trans e) f0 f1 f3 f4 f5
  obtain ⟨o,e,c,d⟩:=id st'
  exact ⟨u,rfl,Zn8 (s:={ s with heap:=h' }) e c d (by decide) ⟨x,H,I1,ru,⟨rfl,fun ys hy=>by rw [I.tuple_inj hy hq]; exact hx⟩,st',fun b hb=>(hf b hb).1⟩⟩
 done:=by
  intro X hP hw hK hc i pins s σ H E I hf st hg
  subst hP hw hK
  obtain ⟨xs,hq,hx⟩:=hg
  obtain ⟨its,rv,p,hz⟩:=I.tuple hq
  obtain ⟨f0,f1,f2,f3,f4,f5⟩:=hf it (by simp)
  have hl:=rv.length
  exact wpAny_pyNext_tuple_end (I.ok.hd hc) st (show s.heap.IsTuple a its.toArray from p) (by simp; omega) fun h' eb=>⟨rfl,I.turned (t':=s.toks) (fun b o hb e=>eb b o hb e) f0 f1 f3 f4 f5⟩
 self:=fun _ _ _ _ _ st h=>wpAny_pyIter_tupleiter st h
theorem Zml {P:Program} {w:World} {K:PySem.W.Frag} {tg:Expr} (it:Addr) (lo:Int) (n:Nat):Turn P w K tg (Itr lo n) [it] it (fun i h=>IsRangeIter h it (lo+(i:Nat)*1) ((n:Int)-(i:Nat)) 1) where
 mem:=by simp
 obj:=fun i h st b hb=>by
  have e:b=it:=by simpa using hb
  subst e
  exact ⟨_,st,fun v z=>by
   have z':Data.fields _=Data.cell v:=z
   cases z'⟩
 keep:=fun i h h' st k=>k it (by simp) _ st
 item:=by
  intro X hP hw hK hc i pins s σ H E I hf st hg
  subst hP hw hK
  obtain ⟨f0,f1,f2,f3,f4,f5⟩:=hf it (by simp)
  have W:=Walks.range (prog:=X.prog) (w:=X.w) (I.ok.hd hc) it lo 1 n
  refine W.item i s _ _ hg st fun v h' tk hv st' kk=>?_
  obtain ⟨t,rfl⟩:=hv
  have I1:Inv X pins σ H { s with heap:=h',toks:=tk }:=I.turned (fun b o hb e=>kk b o (by simpa using hb) e) f0 f1 f3 f4 f5
  refine ⟨_,rfl,Zn8 (s:={ s with heap:=h',toks:=tk }) (n:="range_iterator") st' rfl rfl (by decide) ⟨.int (lo+i),H,I1,⟨t,?_⟩,⟨rfl,rfl⟩,st',fun b hb=>(hf b hb).1⟩⟩
  rw [Int.mul_one]
 done:=by
  intro X hP hw hK hc i pins s σ H E I hf st hg
  subst hP hw hK
  obtain ⟨f0,f1,f2,f3,f4,f5⟩:=hf it (by simp)
  exact wpAny_pyNext_range_end (I.ok.hd hc) st (by have:n≤i:=hg; omega) fun h' eb=>⟨rfl,I.turned (t':=s.toks) (fun b o hb e=>eb b o hb e) f0 f1 f3 f4 f5⟩
 self:=fun _ _ _ _ _ st h=>wpAny_pyIter_rangeiter st h
section
variable {X:Cx} {tg:Expr}
def Zsx (K:W.Frag) (tl:TE):TI:=fun σ H R=>tl σ H fun x H1=>∃ a,x=.ref a∧(∃ xs,SqL K H1 a xs)∧R (Itl K a) H1
def Ztd (K:W.Frag) (tl:TE):TI:=fun σ H R=>tl σ H fun x H1=>∃ a,x=.ref a∧(∃ xs,SqT K H1 a xs)∧R (Itt K a) H1
theorem Zbv {l:Expr} {tl:TE} (hl:PE X l tl):PI X tg l (Zsx X.K tl):=by
 intro pins s σ H R I h
 refine thn (hl pins s σ H _ I h) fun v s1 ⟨x,H1,I1,r1,q1⟩=>?_
 obtain ⟨a,e,⟨xs,hq⟩,q⟩:=q1
 subst e
 cases r1
 obtain ⟨its,rv,p,hz⟩:=I1.list hq
 refine wpAny_pyIter_list p.isList ?_
 refine ⟨s1.heap.objs.size,[s1.heap.objs.size],_,_,H1,rfl,I1.kept (t':=s1.toks) fun b o e=>Heap.get?_push_of_some _ e,Zm9 a _,⟨_,Heap.get?_push_size _ rfl,rfl,rfl⟩,fun b hb=>?_,q⟩
 have e:b=s1.heap.objs.size:=by simpa using hb
 subst e
 exact I1.fpOk (Nat.le_refl _) (I1.hok.fresh (Nat.le_refl _))
theorem Zoq {l:Expr} {tl:TE} (hl:PE X l tl):PI X tg l (Ztd X.K tl):=by
 intro pins s σ H R I h
 refine thn (hl pins s σ H _ I h) fun v s1 ⟨x,H1,I1,r1,q1⟩=>?_
 obtain ⟨a,e,⟨xs,hq⟩,q⟩:=q1
 subst e
 cases r1
 obtain ⟨its,rv,p,hz⟩:=I1.tuple hq
 refine wpAny_pyIter_tuple (show s1.heap.IsTuple a its.toArray from p) ?_
 refine ⟨s1.heap.objs.size,[s1.heap.objs.size],_,_,H1,rfl,I1.kept (t':=s1.toks) fun b o e=>Heap.get?_push_of_some _ e,Zmz a _,⟨_,Heap.get?_push_size _ rfl,rfl,rfl⟩,fun b hb=>?_,q⟩
 have e:b=s1.heap.objs.size:=by simpa using hb
 subst e
 exact I1.fpOk (Nat.le_refl _) (I1.hok.fresh (Nat.le_refl _))
theorem ZoL {pins : List (Addr × Obj)} {σ : St} {H : Hp} {s : Shared} {R : It → Hp → Prop} {E : Value → Shared → Prop} {lo hi : Int} {t u v : Tok} {tk : Nat} (I : Inv X pins σ H s) (h1 : -(2 ^ 62) ≤ lo) (h2 : lo<2 ^ 62) (h3 : -(2 ^ 62) ≤ hi) (h4 : hi<2 ^ 62)
  (q:R (Itr lo (hi-lo).toNat) H):wpAny (model X.prog X.w) X.A (pyIter (.ref s.heap.objs.size)) (PIE X pins σ tg R) E { s with heap:=s.heap.push { cls:=.type "range",data:=.fields #[.int lo t,.int hi u,.int 1 v] },toks:=tk }:=by
 refine wpAny_pyIter_range (IsRange.new ..) (small_one h1 h2 h3 h4) ?_
 have I1:Inv X pins σ H { s with heap:=s.heap.push { cls:=.type "range",data:=.fields #[.int lo t,.int hi u,.int 1 v] },toks:=tk }:=I.kept fun b o e=>Heap.get?_push_of_some _ e
 refine ⟨(s.heap.push { cls:=.type "range",data:=.fields #[.int lo t,.int hi u,.int 1 v] }).objs.size,[(s.heap.push { cls:=.type "range",data:=.fields #[.int lo t,.int hi u,.int 1 v] }).objs.size],_,_,H,rfl,
  I1.kept (t':=tk) fun b o e=>Heap.get?_push_of_some _ e,Zml _ lo (hi-lo).toNat,?_,fun b hb=>?_,q⟩
 ·have e1:lo+((0:Nat):Int)*1=lo:=by simp
  have e2:(((hi-lo).toNat:Nat):Int)-((0:Nat):Int)=Builtin.Range.rangeSize lo hi 1:=by rw [rangeSize_one]; split <;> omega
  show IsRangeIter _ _ (lo+((0:Nat):Int)*1) ((((hi-lo).toNat:Nat):Int)-((0:Nat):Int)) 1
  rw [e1,e2]
  exact Heap.get?_push_size _ rfl
 ·have e:b=(s.heap.push { cls:=.type "range",data:=.fields #[.int lo t,.int hi u,.int 1 v] }).objs.size:=by simpa using hb
  subst e
  exact I1.fpOk (Nat.le_refl _) (I1.hok.fresh (Nat.le_refl _))
def Zsf (ta:TA):TI:=fun σ H R=>ta σ H fun vs H1=>∃ j:Int,vs=[.int j]∧-(2 ^ 62)≤j∧j<2 ^ 62∧R (Itr 0 j.toNat) H1
theorem Zdy {a:Expr} {ta:TA} {p pos:Pos} (hg:Gl X "range") (hm:X.mg "range"=none) (ha:PA X [a] ta) (hs:starEach [a] X.env=[(false,eval a X.env)]:=by rfl):PI X tg (.Call (.Name "range" p) [a] [] pos) (Zsf ta):=by
 intro pins s σ H R I h
 refine Call_ (ZhD I hg hm boot_range (PyProof.Rows.callWith_type1 (thn (ha pos pins s σ H _ I h) fun us s1 ⟨vs,H1,I1,r1,q1⟩=>?_) hs rfl))
 obtain ⟨j,e,q1,q2,q⟩:=q1
 subst e
 cases r1 with
 | cons r rr =>
  cases rr
  obtain ⟨t,rfl⟩:=r
  exact call_range_1 (ZoL I1 (by omega) (by omega) q1 q2 (by simpa using q))
def Ztg (wi:TI) (g:TG) (tb:TS):TS:=fun D σ H=>wi σ H fun J H1=>∃ W:Nat->Nat->St->Hp->Prop,(∃ m,W 0 m σ H1)∧∀ i m σ H,W i m σ H →
 (J.stop i H∧D.nx σ H)∨(J.go i H∧∃ N:St->Hp->Prop,(∀ σ' H',N σ' H'->∃ m',m'<m∧W (i+1) m' σ' H')∧∀ x H',J.yld i H x H'->g x σ H' fun σ2 H2=>tb { D with nx:=N,ct:=N,bk:=D.nx } σ2 H2)
noncomputable def ZkB (fp:List Addr) (h:Heap):List (Addr × Obj):=fp.filterMap fun b=>(h.get? b).map fun o=>(b,o)
theorem ZeJ {fp:List Addr} {h:Heap} {b:Addr} {o:Obj} (hb:b∈fp) (e:h.get? b=some o):(b,o)∈ZkB fp h:=List.mem_filterMap.mpr ⟨b,hb,by rw [e]; rfl⟩
theorem Zno {fp:List Addr} {h:Heap} {p:Addr × Obj} (hp:p∈ZkB fp h):p.1∈fp∧h.get? p.1=some p.2:=by
 obtain ⟨b,hb,e⟩:=List.mem_filterMap.mp hp
 cases q:h.get? b with
 | none=>rw [q] at e; cases e
 | some o =>
  rw [q] at e
  have e':(b,o)=p:=Option.some.inj e
  subst e'
  exact ⟨hb,q⟩
theorem Inv.pinned {pins:List (Addr × Obj)} {σ:St} {H:Hp} {s:Shared} {fp:List Addr} (I:Inv X pins σ H s) (hf:∀ b∈fp,ZmS X pins H b) (ho:∀ b∈fp,∃ o,s.heap.get? b=some o∧∀ v,o.data≠.cell v):Inv X (pins++ZkB fp s.heap) σ H s :=
 I.pins_of fun p hp=>(List.mem_append.mp hp).elim (fun z=>I.pin p (List.mem_append_right _ z)) fun z=>by
  obtain ⟨hb,e⟩:=Zno z
  obtain ⟨f0,f1,f2,_⟩:=hf p.1 hb
  obtain ⟨o,e',d⟩:=ho p.1 hb
  rw [e] at e'; cases e'
  exact ⟨e,f0,f1,f2,d⟩
theorem Inv.unpinned {pins pl:List (Addr × Obj)} {σ:St} {H:Hp} {s:Shared} (I:Inv X (pins++pl) σ H s):Inv X pins σ H s:=I.pins_of fun p hp=>I.pin p (List.mem_append_right _ (List.mem_append_left _ hp))
theorem Zd7 {iter : Expr} {body : List Stmt} {wi : TI} {g : TG} {tb : TS} {pos : Pos} (hp : PassesOwn (model X.prog X.w) X.A X.env X.xe) (hc : X.calm=true) (hi : PI X tg iter wi) (hg : PG X tg g) (hb : PSs X body tb)
  (hs:∀ x,foldedSetIterable iter X.env x=pure x:=by intro _; rfl):PS X (.For tg iter body [] pos) (Ztg wi g tb):=by
 intro pins s σ H D I h
 refine wpAny_For (thn (hi pins s σ H _ I h) fun v s1 h1=>thn h1 fun itv s2 h2=>?_) hs
 obtain ⟨it,fp,tn,J,H2,e,I2,T,st2,f2,W,⟨m0,w0⟩,turn⟩:=h2
 subst e
 have stat:∀ {H':Hp},(∀ b∈fp,H' b=none)->∀ b∈fp,ZmS X pins H' b:=fun hn b hb=>⟨hn b hb,(f2 b hb).2⟩
 refine codeAny_forLoop_any (fun n s'=>∃ i σ' H',Inv X pins σ' H' s'∧tn i s'.heap∧(∀ b∈fp,H' b=none)∧W i n σ' H') ?_ m0 ⟨0,σ,H2,I2,st2,fun b hb=>(f2 b hb).1,w0⟩
 rintro n s3 ⟨i,σ3,H3,I3,st3,fr3,w3⟩
 rcases turn i n σ3 H3 w3 with ⟨stop,qn⟩ | ⟨go,N,hN,step⟩
 ·refine wpAny_passesOwn hp (thn (T.done X rfl rfl rfl hc i pins s3 σ3 H3 X.xe I3 (stat fr3) st3 stop) fun r s4 ⟨hr,I4⟩=>?_)
  subst hr
  exact wpAny_execs_nil ⟨σ3,H3,I4,qn⟩
 ·refine wpAny_passesOwn hp (thn (T.item X rfl rfl rfl hc i pins s3 σ3 H3 X.xe I3 (stat fr3) st3 go) fun r s4 ⟨u,hr,h4⟩=>?_)
  subst hr
  refine wpAny_passesOwn hp (thn h4 fun _ s5 ⟨x,H5,I5,r5,y5,st5,fr5⟩=>?_)
  have I5':=I5.pinned (stat fr5) (T.obj _ _ st5)
  refine wpAny_passesOwn hp (thn (hg _ s5 σ3 H5 x u _ I5' r5 (step x H5 y5)) fun _ s6 ⟨σ6,H6,I6,q6⟩=>?_)
  refine wpAny_passesOwn hp (thn (hb _ s6 σ6 H6 _ I6 q6) fun f s7 q7=>?_)
  have again:∀ {σ7:St} {H7:Hp},Inv X (pins++ZkB fp s5.heap) σ7 H7 s7->N σ7 H7->∃ m,m<n∧∃ i σ' H',Inv X pins σ' H' s7∧tn i s7.heap∧(∀ b∈fp,H' b=none)∧W i m σ' H':=fun {σ7 H7} I7 n7=>by
   obtain ⟨m',hm,w7⟩:=hN σ7 H7 n7
   refine ⟨m',hm,i+1,σ7,H7,I7.unpinned,T.keep _ _ _ st5 fun b hb o e=>(I7.pin (b,o) (List.mem_append_right _ (List.mem_append_right _ (ZeJ hb e)))).1,fun b hb=>?_,w7⟩
   obtain ⟨o,e,d⟩:=T.obj _ _ st5 b hb
   exact (I7.pin (b,o) (List.mem_append_right _ (List.mem_append_right _ (ZeJ hb e)))).2.1
  cases f with
  | next=>obtain ⟨σ7,H7,I7,n7⟩:=q7; exact again I7 n7
  | cont=>obtain ⟨σ7,H7,I7,n7⟩:=q7; exact again I7 n7
  | brk=>obtain ⟨σ7,H7,I7,q7⟩:=q7; exact ⟨σ7,H7,I7.unpinned,q7⟩
  | ret v=>obtain ⟨x7,σ7,H7,I7,r7,q7⟩:=q7; exact ⟨x7,σ7,H7,I7.unpinned,r7,q7⟩
end
theorem ZfN {K : PySem.W.Frag} {a : Addr} {xs : List V} {g : TG} {tb : TS} {D : Ends} {σ : St} {H : Hp} (Pv : Nat → St → Hp → Prop) (h0 : Pv 0 σ H) (hl : ∀ i σ H, i ≤ xs.length → Pv i σ H → SqL K H a xs)
  (hs:∀ i x σ H,xs[i]?=some x->Pv i σ H->g x σ H fun σ2 H2=>tb { D with nx:=Pv (i+1),ct:=Pv (i+1),bk:=D.nx } σ2 H2) (hd:∀ σ H,Pv xs.length σ H->D.nx σ H) :
  ∃ W:Nat->Nat->St->Hp->Prop,(∃ m,W 0 m σ H)∧∀ i m σ H,W i m σ H →
   ((Itl K a).stop i H∧D.nx σ H)∨((Itl K a).go i H∧∃ N:St->Hp->Prop,(∀ σ' H',N σ' H'->∃ m',m'<m∧W (i+1) m' σ' H')∧∀ x H',(Itl K a).yld i H x H'->g x σ H' fun σ2 H2=>tb { D with nx:=N,ct:=N,bk:=D.nx } σ2 H2):=by
 refine ⟨fun i m σ H=>m=xs.length-i∧i≤xs.length∧Pv i σ H,⟨xs.length,by simp,Nat.zero_le _,h0⟩,?_⟩
 rintro i m σ H ⟨rfl,hi,p⟩
 have q:=hl i σ H hi p
 by_cases hlt:i<xs.length
 ·refine .inr ⟨⟨xs,xs[i],q,by simp [hlt]⟩,Pv (i+1),fun σ' H' p'=>⟨xs.length-(i+1),by omega,rfl,hlt,p'⟩,fun x H' y=>?_⟩
  obtain ⟨e,y⟩:=y
  subst e
  exact hs i x σ _ (y xs q) p
 ·have e:i=xs.length:=by omega
  subst e
  exact .inl ⟨⟨xs,q,Nat.le_refl _⟩,hd σ H p⟩
theorem ZnH {K : PySem.W.Frag} {a : Addr} {xs : List V} {g : TG} {tb : TS} {D : Ends} {σ : St} {H : Hp} (Pv : Nat → St → Hp → Prop) (h0 : Pv 0 σ H) (hl : ∀ i σ H, i ≤ xs.length → Pv i σ H → SqT K H a xs)
  (hs:∀ i x σ H,xs[i]?=some x->Pv i σ H->g x σ H fun σ2 H2=>tb { D with nx:=Pv (i+1),ct:=Pv (i+1),bk:=D.nx } σ2 H2) (hd:∀ σ H,Pv xs.length σ H->D.nx σ H) :
  ∃ W:Nat->Nat->St->Hp->Prop,(∃ m,W 0 m σ H)∧∀ i m σ H,W i m σ H →
   ((Itt K a).stop i H∧D.nx σ H)∨((Itt K a).go i H∧∃ N:St->Hp->Prop,(∀ σ' H',N σ' H'->∃ m',m'<m∧W (i+1) m' σ' H')∧∀ x H',(Itt K a).yld i H x H'->g x σ H' fun σ2 H2=>tb { D with nx:=N,ct:=N,bk:=D.nx } σ2 H2):=by
 refine ⟨fun i m σ H=>m=xs.length-i∧i≤xs.length∧Pv i σ H,⟨xs.length,by simp,Nat.zero_le _,h0⟩,?_⟩
 rintro i m σ H ⟨rfl,hi,p⟩
 have q:=hl i σ H hi p
 by_cases hlt:i<xs.length
 ·refine .inr ⟨⟨xs,xs[i],q,by simp [hlt]⟩,Pv (i+1),fun σ' H' p'=>⟨xs.length-(i+1),by omega,rfl,hlt,p'⟩,fun x H' y=>?_⟩
  obtain ⟨e,y⟩:=y
  subst e
  exact hs i x σ _ (y xs q) p
 ·have e:i=xs.length:=by omega
  subst e
  exact .inl ⟨⟨xs,q,Nat.le_refl _⟩,hd σ H p⟩
theorem ZfF {lo : Int} {n : Nat} {g : TG} {tb : TS} {D : Ends} {σ : St} {H : Hp} (Pv : Nat → St → Hp → Prop) (h0 : Pv 0 σ H)
  (hs:∀ i σ H,i<n->Pv i σ H->g (.int (lo+i)) σ H fun σ2 H2=>tb { D with nx:=Pv (i+1),ct:=Pv (i+1),bk:=D.nx } σ2 H2) (hd:∀ σ H,Pv n σ H->D.nx σ H) :
  ∃ W:Nat->Nat->St->Hp->Prop,(∃ m,W 0 m σ H)∧∀ i m σ H,W i m σ H →
   ((Itr lo n).stop i H∧D.nx σ H)∨((Itr lo n).go i H∧∃ N:St->Hp->Prop,(∀ σ' H',N σ' H'->∃ m',m'<m∧W (i+1) m' σ' H')∧∀ x H',(Itr lo n).yld i H x H'->g x σ H' fun σ2 H2=>tb { D with nx:=N,ct:=N,bk:=D.nx } σ2 H2):=by
 refine ⟨fun i m σ H=>m=n-i∧i≤n∧Pv i σ H,⟨n,by simp,Nat.zero_le _,h0⟩,?_⟩
 rintro i m σ H ⟨rfl,hi,p⟩
 by_cases hlt:i<n
 ·refine .inr ⟨hlt,Pv (i+1),fun σ' H' p'=>⟨n-(i+1),by omega,rfl,hlt,p'⟩,fun x H' y=>?_⟩
  obtain ⟨e,y⟩:=y
  subst e y
  exact hs i σ _ hlt p
 ·have e:i=n:=by omega
  subst e
  exact .inl ⟨Nat.le_refl _,hd σ H p⟩
abbrev R2:=V->V->Hp->VK->Prop
def OpR (X:Cx) (f:Value->Value->Sem Value) (r:R2):Prop :=
 ∀ (pins:List (Addr × Obj)) (s:Shared) (σ:St) (H:Hp) (x y:V) (v u:Value) (Q:VK),Inv X pins σ H s->RelV x v->RelV y u->r x y H Q →
  wpAny (model X.prog X.w) X.A (f v u) (EP X pins σ Q) X.xe s
def UnR (X:Cx) (f:Value->Sem Value) (r:V->Hp->VK->Prop):Prop :=
 ∀ (pins:List (Addr × Obj)) (s:Shared) (σ:St) (H:Hp) (x:V) (v:Value) (Q:VK),Inv X pins σ H s->RelV x v->r x H Q →
  wpAny (model X.prog X.w) X.A (f v) (EP X pins σ Q) X.xe s
def Zd0 (X:Cx) (f:Value) (r:List V->Hp->VK->Prop):Prop :=
 ∀ (pins:List (Addr × Obj)) (s:Shared) (σ:St) (H:Hp) (xs:List V) (us:List Value) (Q:VK),Inv X pins σ H s->Vals xs us->r xs H Q →
  wpAny (model X.prog X.w) X.A (call f us) (EP X pins σ Q) X.xe s
def tOp (r:R2) (ta tb:TE):TE:=fun σ H Q=>ta σ H fun x H1=>tb σ H1 fun y H2=>r x y H2 Q
def tUn (r:V->Hp->VK->Prop) (ta:TE):TE:=fun σ H Q=>ta σ H fun x H1=>r x H1 Q
def rI (C:Int->Int->Prop) (g:Int->Int->V):R2:=fun x y H Q=>∃ i j,x=.int i∧y=.int j∧C i j∧Q (g i j) H
def rI0 (g:Int->Int->V):R2:=fun x y H Q=>∃ i j,x=.int i∧y=.int j∧Q (g i j) H
def rU (g:Int->V):V->Hp->VK->Prop:=fun x H Q=>∃ i,x=.int i∧Q (g i) H
section
variable {X:Cx} {a b c:Expr} {ta tb tc:TE} {pos:Pos}
theorem ZsA (ha : PE X a ta) (hb : PE X b tb) {pins : List (Addr × Obj)} {s : Shared} {σ : St} {H : Hp} {R : V → V → Hp → Prop} (I : Inv X pins σ H s)
  (h:ta σ H fun x H1=>tb σ H1 fun y H2=>R x y H2) {Q:Value->Shared->Prop} {f:Value->Value->Sem Value}
  (hf:∀ v u s2 x y H2,Inv X pins σ H2 s2->RelV x v->RelV y u->R x y H2->wpAny (model X.prog X.w) X.A (f v u) Q X.xe s2) :
  wpAny (model X.prog X.w) X.A (eval a X.env) (fun v s₁=>wpAny (model X.prog X.w) X.A (eval b X.env) (fun u s₂=>wpAny (model X.prog X.w) X.A (f v u) Q X.xe s₂) X.xe s₁) X.xe s:=by
 refine thn (ha pins s σ H _ I h) fun v s1 ⟨x,H1,I1,r1,q1⟩=>?_
 refine thn (hb pins s1 σ H1 _ I1 q1) fun u s2 ⟨y,H2,I2,r2,q2⟩=>?_
 exact hf v u s2 x y H2 I2 r1 r2 q2
theorem ZaI {op:Operator} {r:R2} (ho:OpR X (binaryOp op) r) (ha:PE X a ta) (hb:PE X b tb):PE X (.BinOp a op b pos) (tOp r ta tb):=by
 intro pins s σ H Q I h
 exact wpAny_BinOp (ZsA ha hb I h fun v u s2 x y H2 I2 rx ry q=>ho pins s2 σ H2 x y v u Q I2 rx ry q)
theorem Zpe {op:UnaryOp} {r:V->Hp->VK->Prop} (ho:UnR X (unaryOp op) r) (ha:PE X a ta):PE X (.UnaryOp op a pos) (tUn r ta):=by
 intro pins s σ H Q I h
 exact UnaryOp_ (thn (ha pins s σ H _ I h) fun v s1 ⟨x,H1,I1,r1,q1⟩=>ho pins s1 σ H1 x v Q I1 r1 q1)
theorem opI {f : Value → Value → Sem Value} {C : Int → Int → Prop} {g : Int → Int → Int}
  (rule:∀ (i j:Int) (t u:Tok) (s:Shared) (Q:Value->Shared->Prop) (E:Value->Shared->Prop),C i j->Q (.int (g i j) s.toks) { s with toks:=s.toks+1 }->wpAny (model X.prog X.w) X.A (f (.int i t) (.int j u)) Q E s) :
  OpR X f (rI C fun i j=>.int (g i j)):=by
 intro pins s σ H x y v u Q I rx ry h
 obtain ⟨i,j,rfl,rfl,hc,q⟩:=h
 obtain ⟨t,rfl⟩:=rx
 obtain ⟨t',rfl⟩:=ry
 exact rule i j t t' s _ _ hc ⟨.int (g i j),H,I.tok _,⟨_,rfl⟩,q⟩
theorem ZsQ {f : Value → Value → Sem Value} {g : Int → Int → Int}
  (rule:∀ (i j:Int) (t u:Tok) (s:Shared) (Q:Value->Shared->Prop) (E:Value->Shared->Prop),Q (.int (g i j) s.toks) { s with toks:=s.toks+1 }->wpAny (model X.prog X.w) X.A (f (.int i t) (.int j u)) Q E s) :
  OpR X f (rI0 fun i j=>.int (g i j)):=by
 intro pins s σ H x y v u Q I rx ry h
 obtain ⟨i,j,rfl,rfl,q⟩:=h
 obtain ⟨t,rfl⟩:=rx
 obtain ⟨t',rfl⟩:=ry
 exact rule i j t t' s _ _ ⟨.int (g i j),H,I.tok _,⟨_,rfl⟩,q⟩
theorem Zr0 {f : Value → Value → Sem Value} {g : Int → Int → Bool}
  (rule:∀ (i j:Int) (t u:Tok) (s:Shared) (Q:Value->Shared->Prop) (E:Value->Shared->Prop),Q (.bool (g i j)) s->wpAny (model X.prog X.w) X.A (f (.int i t) (.int j u)) Q E s) :
  OpR X f (rI0 fun i j=>.bl (g i j)):=by
 intro pins s σ H x y v u Q I rx ry h
 obtain ⟨i,j,rfl,rfl,q⟩:=h
 obtain ⟨t,rfl⟩:=rx
 obtain ⟨t',rfl⟩:=ry
 exact rule i j t t' s _ _ ⟨.bl (g i j),H,I,rfl,q⟩
def Zp6 (i j:Int):Prop:=0≤j∧j≤1000000∧i.natAbs<2 ^ 64
def CMul (i j:Int):Prop:=(-(2 ^ 64)<i∧i<2 ^ 64)∨(-(2 ^ 64)<j∧j<2 ^ 64)
theorem CMul.ok {i j:Int} (h:CMul i j):IntMulOk i j:=by
 rcases h with ⟨h1,h2⟩ | ⟨h1,h2⟩
 ·exact .of_left (intBits_le_64 h1 h2)
 ·exact .of_right (intBits_le_64 h1 h2)
theorem Zdi:OpR X (binaryOp .Add) (rI0 fun i j=>.int (i+j)):=ZsQ fun _ _ _ _ _ _ _ q=>add_int q
theorem ZhL:OpR X (binaryOp .Sub) (rI0 fun i j=>.int (i-j)):=ZsQ fun _ _ _ _ _ _ _ q=>sub_int q
theorem Zl1:OpR X (binaryOp .Mult) (rI CMul fun i j=>.int (i*j)):=opI fun _ _ _ _ _ _ _ hc q=>mul_int q hc.ok
theorem Zbw:OpR X (binaryOp .Mod) (rI (fun _ j=>j≠0) fun i j=>.int (i.fmod j)):=opI fun _ _ _ _ _ _ _ hc q=>mod_int' hc q
theorem Zir:OpR X (binaryOp .Pow) (rI Zp6 fun i j=>.int (i ^ j.toNat)):=opI fun _ _ _ _ _ _ _ hc q=>pow_int_small hc.1 hc.2.1 hc.2.2 q
theorem unI {f : Value → Sem Value} {g : Int → Int}
  (rule:∀ (i:Int) (t:Tok) (s:Shared) (Q:Value->Shared->Prop) (E:Value->Shared->Prop),Q (.int (g i) s.toks) { s with toks:=s.toks+1 }->wpAny (model X.prog X.w) X.A (f (.int i t)) Q E s) :
  UnR X f (rU fun i=>.int (g i)):=by
 intro pins s σ H x v Q I rx h
 obtain ⟨i,rfl,q⟩:=h
 obtain ⟨t,rfl⟩:=rx
 exact rule i t s _ _ ⟨.int (g i),H,I.tok _,⟨_,rfl⟩,q⟩
theorem Zma:UnR X (unaryOp .USub) (rU fun i=>.int (-i)):=unI fun _ _ _ _ _ q=>neg_int q
end
noncomputable def ZsO:V->V->Bool
 | .non,.non=>true | .non,.int _=>true | .int _,.non=>true | .non,.bl _=>true | .bl _,.non=>true | .non,.str _=>true | .str _,.non=>true
 | .int _,.int _=>true | .bl _,.bl _=>true | .str _,.str _=>true | .byt _,.byt _=>true
 | .int _,.str _=>true | .str _,.int _=>true | .bl _,.str _=>true | .str _,.bl _=>true
 | _,_=>false
def rEq:R2:=fun x y H Q=>ZsO x y=true∧Q (.bl (decide (x=y))) H
def rNe:R2:=fun x y H Q=>ZsO x y=true∧Q (.bl (!decide (x=y))) H
theorem Zoe {i j:Int}:decide (V.int i=V.int j)=(i == j):=by
 rw [Bool.eq_iff_iff]
 simp
theorem ZpQ {i j:Bool}:decide (V.bl i=V.bl j)=(i == j):=by
 rw [Bool.eq_iff_iff]
 simp
theorem Zn0 {i j:Str}:decide (V.str i=V.str j)=(i == j):=by
 rw [Bool.eq_iff_iff]
 simp
theorem Zm6 {i j:Array UInt8}:decide (V.byt i=V.byt j)=(i.toList == j.toList):=by
 rw [Bool.eq_iff_iff]
 cases i
 cases j
 simp
section
variable {X:Cx} {a b c:Expr} {ta tb tc:TE} {pos:Pos}
theorem Zbh {pins:List (Addr × Obj)} {σ:St} {H:Hp} {s:Shared} {Q:VK} {k k':Bool} (I:Inv X pins σ H s) (q:Q (.bl k) H) (e:k=k'):EP X pins σ Q (.bool k') s:=by
 subst e
 exact ⟨.bl k,H,I,rfl,q⟩
theorem Zcg:OpR X (compareOp .Eq) rEq:=by
 intro pins s σ H x y v u Q I rx ry h
 obtain ⟨hs,q⟩:=h
 cases x with
 | non =>
  cases rx
  cases y with
  | non=>cases ry; exact PySem.EqNone.eq_none_none (Zbh I q (by simp))
  | bl j=>cases ry; exact PySem.EqNone.eq_none_bool (Zbh I q (by simp))
  | int j=>obtain ⟨t',rfl⟩:=ry; exact PySem.EqNone.eq_none_int (Zbh I q (by simp))
  | str j=>obtain ⟨t',rfl⟩:=ry; exact PySem.EqNone.eq_none_str (Zbh I q (by simp))
  | _=>exact absurd (show false=true from hs) Bool.false_ne_true
 | bl i =>
  cases rx
  cases y with
  | non=>cases ry; exact PySem.EqNone.eq_bool_none (Zbh I q (by simp))
  | bl j=>cases ry; exact eq_bool (Zbh I q ZpQ)
  | str j=>obtain ⟨t',rfl⟩:=ry; exact PySem.EqMixed.eq_bool_str (Zbh I q (by simp))
  | _=>exact absurd (show false=true from hs) Bool.false_ne_true
 | int i =>
  obtain ⟨t,rfl⟩:=rx
  cases y with
  | non=>cases ry; exact PySem.EqNone.eq_int_none (Zbh I q (by simp))
  | int j=>obtain ⟨t',rfl⟩:=ry; exact eq_int (Zbh I q Zoe)
  | str j=>obtain ⟨t',rfl⟩:=ry; exact PySem.EqMixed.eq_int_str (Zbh I q (by simp))
  | _=>exact absurd (show false=true from hs) Bool.false_ne_true
 | str i =>
  obtain ⟨t,rfl⟩:=rx
  cases y with
  | non=>cases ry; exact PySem.EqNone.eq_str_none (Zbh I q (by simp))
  | bl j=>cases ry; exact PySem.EqMixed.eq_str_bool (Zbh I q (by simp))
  | int j=>obtain ⟨t',rfl⟩:=ry; exact PySem.EqMixed.eq_str_int (Zbh I q (by simp))
  | str j=>obtain ⟨t',rfl⟩:=ry; exact eq_str (Zbh I q Zn0)
  | _=>exact absurd (show false=true from hs) Bool.false_ne_true
 | byt i =>
  obtain ⟨t,rfl⟩:=rx
  cases y with
  | byt j=>obtain ⟨t',rfl⟩:=ry; exact W.eq_bytes (Zbh I q Zm6)
  | _=>exact absurd (show false=true from hs) Bool.false_ne_true
 | _=>cases y <;> exact absurd (show false=true from hs) Bool.false_ne_true
theorem Zid:OpR X (compareOp .NotEq) rNe:=by
 intro pins s σ H x y v u Q I rx ry h
 obtain ⟨hs,q⟩:=h
 cases x with
 | non =>
  cases rx
  cases y with
  | non=>cases ry; exact PySem.EqNone.ne_none_none (Zbh I q (by simp))
  | bl j=>cases ry; exact PySem.EqNone.ne_none_bool (Zbh I q (by simp))
  | int j=>obtain ⟨t',rfl⟩:=ry; exact PySem.EqNone.ne_none_int (Zbh I q (by simp))
  | str j=>obtain ⟨t',rfl⟩:=ry; exact PySem.EqNone.ne_none_str (Zbh I q (by simp))
  | _=>exact absurd (show false=true from hs) Bool.false_ne_true
 | bl i =>
  cases rx
  cases y with
  | non=>cases ry; exact PySem.EqNone.ne_bool_none (Zbh I q (by simp))
  | bl j=>cases ry; exact ne_bool (Zbh I q (congrArg not ZpQ))
  | str j=>obtain ⟨t',rfl⟩:=ry; exact PySem.EqMixed.ne_bool_str (Zbh I q (by simp))
  | _=>exact absurd (show false=true from hs) Bool.false_ne_true
 | int i =>
  obtain ⟨t,rfl⟩:=rx
  cases y with
  | non=>cases ry; exact PySem.EqNone.ne_int_none (Zbh I q (by simp))
  | int j=>obtain ⟨t',rfl⟩:=ry; exact ne_int (Zbh I q (congrArg not Zoe))
  | str j=>obtain ⟨t',rfl⟩:=ry; exact PySem.EqMixed.ne_int_str (Zbh I q (by simp))
  | _=>exact absurd (show false=true from hs) Bool.false_ne_true
 | str i =>
  obtain ⟨t,rfl⟩:=rx
  cases y with
  | non=>cases ry; exact PySem.EqNone.ne_str_none (Zbh I q (by simp))
  | bl j=>cases ry; exact PySem.EqMixed.ne_str_bool (Zbh I q (by simp))
  | int j=>obtain ⟨t',rfl⟩:=ry; exact PySem.EqMixed.ne_str_int (Zbh I q (by simp))
  | str j=>obtain ⟨t',rfl⟩:=ry; exact ne_str (Zbh I q (congrArg not Zn0))
  | _=>exact absurd (show false=true from hs) Bool.false_ne_true
 | byt i =>
  obtain ⟨t,rfl⟩:=rx
  cases y with
  | byt j=>obtain ⟨t',rfl⟩:=ry; exact W.ne_bytes (Zbh I q (congrArg not Zm6))
  | _=>exact absurd (show false=true from hs) Bool.false_ne_true
 | _=>cases y <;> exact absurd (show false=true from hs) Bool.false_ne_true
theorem Zmt:OpR X (compareOp .Lt) (rI0 fun i j=>.bl (decide (i<j))):=Zr0 fun _ _ _ _ _ _ _ q=>lt_int q
theorem Zop:OpR X (compareOp .LtE) (rI0 fun i j=>.bl (decide (i≤j))):=Zr0 fun _ _ _ _ _ _ _ q=>le_int q
theorem Zoa:OpR X (compareOp .Gt) (rI0 fun i j=>.bl (decide (j<i))):=Zr0 fun _ _ _ _ _ _ _ q=>gt_int q
theorem ZnF:OpR X (compareOp .GtE) (rI0 fun i j=>.bl (decide (j≤i))):=Zr0 fun _ _ _ _ _ _ _ q=>ge_int q
theorem Zm8:OpR X (compareOp .In) (fun x y H Q=>∃ i j,x=.str i∧y=.str j∧Q (.bl (!(Builtin.Str.occurrences j i 0 j.length 1).isEmpty)) H):=by
 intro pins s σ H x y v u Q I rx ry h
 obtain ⟨i,j,rfl,rfl,q⟩:=h
 obtain ⟨t,rfl⟩:=rx
 obtain ⟨t',rfl⟩:=ry
 exact in_str (Zbh I q rfl)
theorem Zgz:OpR X (compareOp .Is) (fun x y H Q=>y=.non∧Q (.bl (decide (x=.non))) H):=by
 intro pins s σ H x y v u Q I rx ry h
 obtain ⟨rfl,q⟩:=h
 cases ry
 refine is_none_gen (Zbh I q ?_)
 cases x <;> first
  | (cases rx; rfl)
  | (obtain ⟨t,rfl⟩:=rx; rfl)
theorem Zau (b:Expr) {op:CmpOp} (h:op≠.In:=by decide) (h2:op≠.NotIn:=by decide):behindInMarks op b=false:=by
 have e1:(op == CmpOp.In)=false:=by cases op <;> first | rfl | exact absurd rfl h
 have e2:(op == CmpOp.NotIn)=false:=by cases op <;> first | rfl | exact absurd rfl h2
 cases b <;> simp [behindInMarks,e1,e2]
theorem Zbz {op:CmpOp} {r:R2} (ho:OpR X (compareOp op) r) (ha:PE X a ta) (hb:PE X b tb) (hm:behindInMarks op b=false):PE X (.Compare a [op] [b] pos) (tOp r ta tb):=by
 intro pins s σ H Q I h
 exact wpAny_Compare1 (ZsA ha hb I h fun v u s2 x y H2 I2 rx ry q=>ho pins s2 σ H2 x y v u Q I2 rx ry q) hm
def Zsi (t:TE):TT:=fun σ H Q=>t σ H fun x H'=>∃ k,x=.bl k∧Q k H'
theorem Zaq {op:CmpOp} {r:R2} (ho:OpR X (compareOp op) r) (ha:PE X a ta) (hb:PE X b tb) (hm:behindInMarks op b=false):PT X (.Compare a [op] [b] pos) (Zsi (tOp r ta tb)):=by
 intro pins s σ H Q I h
 refine wpAny_isTrue_Compare1 (thn (ha pins s σ H _ I h) fun v s1 ⟨x,H1,I1,r1,q1⟩=>thn (hb pins s1 σ H1 _ I1 q1) fun u s2 ⟨y,H2,I2,r2,q2⟩ =>
  thn (ho pins s2 σ H2 x y v u _ I2 r1 r2 q2) fun c s3 ⟨z,H3,I3,r3,k,e,q3⟩=>?_) hm
 subst e
 cases r3
 exact wpAny_truthy_bool ⟨H3,I3,q3⟩
theorem ZkC:(sizeLine:Nat)<2 ^ 63:=by rw [sizeLine_eq]; decide
theorem ZiN:OpR X (binaryOp .Add) (fun x y H Q=>∃ i j,x=.str i∧y=.str j∧i.length+j.length≤sizeLine∧Q (.str (i++j)) H):=by
 intro pins s σ H x y v u Q I rx ry h
 obtain ⟨i,j,rfl,rfl,hz,q⟩:=h
 obtain ⟨t,rfl⟩:=rx
 obtain ⟨t',rfl⟩:=ry
 exact add_str (fun t' tk=>⟨.str (i++j),H,I.tok _,⟨_,rfl⟩,q⟩) hz
theorem Zfb {x:V} {us:List Value} (r:Vals [x] us):∃ u,us=[u]∧RelV x u:=by
 cases r with
 | cons r1 r2=>cases r2; exact ⟨_,rfl,r1⟩
theorem Zmv {x y:V} {us:List Value} (r:Vals [x,y] us):∃ u w',us=[u,w']∧RelV x u∧RelV y w':=by
 cases r with
 | cons r1 r2 =>
  cases r2 with
  | cons r3 r4=>cases r4; exact ⟨_,_,rfl,r1,r3⟩
theorem ZoS:Zd0 X (.builtin "abs") (fun xs H Q=>∃ i,xs=[.int i]∧Q (.int (if i<0 then -i else i)) H):=by
 intro pins s σ H xs us Q I r h
 obtain ⟨i,rfl,q⟩:=h
 obtain ⟨u,rfl,t,rfl⟩:=Zfb r
 exact call_abs_int fun u tk=>⟨.int (if i<0 then -i else i),H,I.tok _,⟨_,rfl⟩,q⟩
theorem Zj7 (hc:X.calm=true):Zd0 X (.builtin "max") (fun xs H Q=>∃ i j,xs=[.int i,.int j]∧Q (.int (if j > i then j else i)) H):=by
 intro pins s σ H xs us Q I r h
 obtain ⟨i,j,rfl,q⟩:=h
 obtain ⟨u,w',rfl,⟨t,rfl⟩,⟨t',rfl⟩⟩:=Zmv r
 refine max_two_ints (I.ok.hd hc) fun h' tk k=>⟨_,H,I.kept k,?_,q⟩
 by_cases hj:j > i
 ·rw [if_pos hj,if_pos hj]; exact ⟨_,rfl⟩
 ·rw [if_neg hj,if_neg hj]; exact ⟨_,rfl⟩
theorem Zhg (hc:X.calm=true):Zd0 X (.builtin "min") (fun xs H Q=>∃ i j,xs=[.int i,.int j]∧Q (.int (if j<i then j else i)) H):=by
 intro pins s σ H xs us Q I r h
 obtain ⟨i,j,rfl,q⟩:=h
 obtain ⟨u,w',rfl,⟨t,rfl⟩,⟨t',rfl⟩⟩:=Zmv r
 refine min_two_ints (I.ok.hd hc) fun h' tk k=>⟨_,H,I.kept k,?_,q⟩
 by_cases hj:j<i
 ·rw [if_pos hj,if_pos hj]; exact ⟨_,rfl⟩
 ·rw [if_neg hj,if_neg hj]; exact ⟨_,rfl⟩
theorem ZnM:Zd0 X (.type "int") (fun xs H Q=>(∃ i,xs=[.int i]∧Q (.int i) H)∨∃ k,xs=[.bl k]∧Q (.int (if k then 1 else 0)) H):=by
 intro pins s σ H xs us Q I r h
 rcases h with ⟨i,rfl,q⟩ | ⟨k,rfl,q⟩
 ·obtain ⟨u,rfl,t,rfl⟩:=Zfb r
  exact call_int_int ⟨.int i,H,I,⟨_,rfl⟩,q⟩
 ·obtain ⟨u,rfl,r1⟩:=Zfb r
  cases r1
  exact call_int_bool ⟨.int (if k then 1 else 0),H,I.tok _,⟨_,rfl⟩,q⟩
end
structure ObjM (h:Heap) (x dx C:Addr) (mA:Str->Option Value):Prop where
 obj:h.get? x=some (W.instObj C dx)
 ns:h.Ns1 dx mA
 ne:dx≠x
theorem Zm0 {h:Heap} {dx:Addr} {mA:Str->Option Value} (n:h.Ns1 dx mA):∃ od,h.get? dx=some od∧∀ name,W.lookIn name od=some (mA name):=by
 obtain ⟨o,es,ep,ho,hd,hk,_,hm⟩:=n
 refine ⟨o,ho,fun name=>?_⟩
 have e:=hm name
 unfold nsFind findBy at e
 rw [← Array.find?_toList] at e
 unfold W.lookIn
 rw [hd]
 dsimp only
 split
 ·rename_i y q
  rw [q] at e
  exact congrArg some e
 ·rename_i q
  rw [q] at e
  have a:es.toList.any (·.refKey)=false:=by
   rw [List.any_eq_false]
   intro y hy
   obtain ⟨z,t,hkey⟩:=hk y (Array.mem_toList_iff.mp hy)
   simp [DictEntry.refKey,hkey]
  have a':¬ es.toList.any (·.refKey)=true:=by rw [a]; exact Bool.false_ne_true
  rw [if_neg a']
  exact congrArg some e
theorem ObjM.look {h:Heap} {x dx C:Addr} {mA:Str->Option Value} (I:ObjM h x dx C mA):∃ od,W.InstAt h x (W.instObj C dx) C (some od)∧∀ name,W.lookIn name od=some (mA name) :=
 let ⟨od,ho,hl⟩:=Zm0 I.ns
 ⟨od,⟨I.obj,rfl,rfl,ho⟩,hl⟩
section
variable {prog:Program} {w:World} {A:Around} {E:Value->Shared->Prop} {s:Shared} {K:W.Frag} {x dx C f:Addr} {mA:Str->Option Value} {name:Str} {v:Value}
theorem ZqA {expr : Bool} {Q : Value → Shared → Prop} (X : K.In s.heap) (I : ObjM s.heap x dx C mA) (hg : W.plainGet K C name=true) (hh : W.hasDictIn K C=true)
  (ha:W.findIn K (.ref C) name=some none) (hv:mA name=some v) (hv':W.handedIn v=true) (h:Q v { s with toks:=s.toks+1 }) :
  wpAny (model prog w) A (getAttr (.ref x) name expr) Q E s:=by
 obtain ⟨od,J,hl⟩:=I.look
 exact W.get_value X J (W.plainGet_of hg).1 (W.findObj_own hh ha rfl (by rw [hl,hv])) hv' h
theorem ZoX {pl : Sem Bool} {Q : Value × List Value → Shared → Prop} (X : K.In s.heap) (I : ObjM s.heap x dx C mA) (hg : W.plainGet K C name=true)
  (hf:W.findIn K (.ref C) name=some (some (.ref f))) (ht:W.isFn K (.ref f)=true) (hv:mA name=none) (h:Q (.ref f,[.ref x]) s) :
  wpAny (model prog w) A (getMethod (.ref x) name pl) Q E s:=by
 obtain ⟨od,J,hl⟩:=I.look
 exact W.method_fn X J (W.plainGet_of hg).1 (W.plainGet_of hg).2 hf (beq_iff_eq.mp ht) (by show (W.lookIn name od).map (·.isSome)=some false; rw [hl,hv]; rfl) h
theorem Zqv {ns : List Str} {Q : Unit → Shared → Prop} (X : K.In s.heap) (I : ObjM s.heap x dx C mA)
  (hs:W.findIn K (.ref C) "__setattr__"=some (some (.builtin "object.__setattr__"))) (hp:W.plainOver K C=true) (ht:W.takerIn K C name=some none) (hh:W.hasDictIn K C=true)
  (hw:PySem.Within mA ns) (hsz:ns.length≤sizeLine)
  (h:∀ h',ObjM h' x dx C (fun y=>if y=name then some v else mA y)->Heap.SameBut dx s.heap h'->Q () { s with heap:=h',toks:=s.toks+2 }) :
  wpAny (model prog w) A (setAttr (.ref x) name v) Q E s:=by
 obtain ⟨od,J,hl⟩:=I.look
 refine W.set_plain X J hs (W.osa_open (s:={ s with toks:=s.toks+1 }) (r:=none) X J hp ht fun b=>?_)
 obtain ⟨cd,hc,hd'⟩:=W.any_some hh
 have hx:s.heap.get? x=some ⟨.ref C,some dx,.plain,#[]⟩:=I.obj
 refine wpAny_bind (wpAny_pure (wpAny_bind (wpAny_bind (wpAny_loadPart hx (wpAny_bind (W.Looks.here (s:={ s with toks:=s.toks+1 }) (W.looks_clsIn X hc) ?_))))))
 rw [hd']
 refine wpAny_pure (a:=some dx) (wpAny_bind (wpAny_pure (wpAny_bind ?_)))
 refine wpAny_nsSet1 (s:={ s with toks:=s.toks+1 }) I.ns fun h' hn2 hs2=>?_
 obtain ⟨oD,esD,epD,hoD,hdD,hcD⟩:=hn2.count (PySem.Within.cons name v hw)
 refine wpAny_bind (wpAny_lookBehind hoD (by rw [hdD]; exact pastItsLine_dict (Nat.le_trans hcD (by rw [List.length_cons]; omega))) ?_)
 exact wpAny_pure (h _ ⟨(hs2.2 _ (Ne.symm I.ne)).trans I.obj,hn2,I.ne⟩ hs2)
theorem Zpm {R : Result → Shared → Prop} {vs : List Value} {kw : List (Str × Value)} (X : K.In s.heap) (hm : W.makesIn K C=true)
  (hi:W.findIn K (.ref C) "__init__"=some (some (.ref f))) (hf:W.typeIn K (.ref f)=some (.type "function"))
  (h:codeAny (model prog w) (A.under (.builtin "type.__call__" ⟨.ref C :: vs,kw⟩)) (.call (.ref f) ⟨.ref (s.heap.objs.size+1) :: vs,kw⟩) (W.InitBack (s.heap.objs.size+1) R)
   { s with heap:=(s.heap.push W.emptyDict).push (W.instObj C s.heap.objs.size) }) :
  codeAny (model prog w) A (.call (.ref C) ⟨vs,kw⟩) R s:=by
 obtain ⟨hh,g,d,t,os⟩:=s
 exact W.make_core (W.makes_of X hm) (W.looks_findIn X hi) (fun self=>W.bind_fn X self hf) (.inl rfl) h
end
noncomputable def Zcr (f:Str) (v:V):List (Str × V)->List (Str × V)
 | []=>[(f,v)]
 | (g,x) :: r=>if g=f then (g,v) :: r else (g,x) :: Zcr f v r
theorem Zg8 (f g:Str) (v:V):∀ fs:List (Str × V),(Zcr f v fs).lookup g=if g=f then some v else fs.lookup g
 | []=>by
  show List.lookup g [(f,v)]=_
  by_cases h:g=f
  ·have hb:(g == f)=true:=beq_iff_eq.mpr h
   simp only [List.lookup,hb,if_pos h]
  ·have hb:(g == f)=false:=beq_eq_false_iff_ne.mpr h
   simp only [List.lookup,hb,if_neg h]
 | (k,x) :: r=>by
  have ih:=Zg8 f g v r
  rw [show Zcr f v ((k,x) :: r)=(if k=f then (k,v) :: r else (k,x) :: Zcr f v r) from rfl]
  by_cases hk:k=f
  ·rw [if_pos hk]
   by_cases h:g=k
   ·have hb:(g == k)=true:=beq_iff_eq.mpr h
    simp only [List.lookup,hb,if_pos (h.trans hk)]
   ·have hb:(g == k)=false:=beq_eq_false_iff_ne.mpr h
    simp only [List.lookup,hb,if_neg (fun e:g=f=>h (e.trans hk.symm))]
  ·rw [if_neg hk]
   by_cases h:g=k
   ·have hb:(g == k)=true:=beq_iff_eq.mpr h
    simp only [List.lookup,hb,if_neg (fun e:g=f=>hk (h.symm.trans e))]
   ·have hb:(g == k)=false:=beq_eq_false_iff_ne.mpr h
    simp only [List.lookup,hb]
    exact ih
theorem ZhN (f:Str) (v:V):∀ fs:List (Str × V),f∈(Zcr f v fs).map (·.1)∧∀ g,g∈fs.map (·.1)->g∈(Zcr f v fs).map (·.1)
 | []=>⟨by simp [Zcr],fun g h=>by simp at h⟩
 | (k,x) :: r=>by
  obtain ⟨i1,i2⟩:=ZhN f v r
  rw [show Zcr f v ((k,x) :: r)=(if k=f then (k,v) :: r else (k,x) :: Zcr f v r) from rfl]
  by_cases hk:k=f
  ·rw [if_pos hk]
   subst hk
   exact ⟨by simp,fun g h=>by simpa using h⟩
  ·rw [if_neg hk]
   refine ⟨?_,fun g h=>?_⟩
   ·rw [List.map_cons]
    exact List.mem_cons_of_mem _ i1
   ·rw [List.map_cons] at h ⊢
    rcases List.mem_cons.mp h with e | e
    ·exact List.mem_cons.mpr (.inl e)
    ·exact List.mem_cons_of_mem _ (i2 g e)
theorem Zhx (f:Str) (v:V):∀ fs:List (Str × V),(Zcr f v fs).length≤fs.length+1
 | []=>by simp [Zcr]
 | (k,x) :: r=>by
  have ih:=Zhx f v r
  rw [show Zcr f v ((k,x) :: r)=(if k=f then (k,v) :: r else (k,x) :: Zcr f v r) from rfl]
  by_cases hk:k=f
  ·rw [if_pos hk,List.length_cons,List.length_cons]; omega
  ·rw [if_neg hk,List.length_cons,List.length_cons]; omega
theorem RelO.some_of {v:V} {o:Option Value} (r:RelO (some v) o):∃ u,o=some u∧RelV v u:=by
 cases o with
 | none=>exact (show False from r).elim
 | some u=>exact ⟨u,rfl,r⟩
theorem RelO.none_of {o:Option Value} (r:RelO none o):o=none:=by
 cases o with
 | none=>rfl
 | some u=>exact (show False from r).elim
theorem Znv {v:V} {u:Value} (r:RelV v u):W.handedIn u=true:=by
 cases v with
 | non=>cases (show u=Value.none from r); rfl
 | bl b=>cases (show u=Value.bool b from r); rfl
 | int i=>obtain ⟨t,e⟩:=(show ∃ t,u=Value.int i t from r); cases e; rfl
 | str x=>obtain ⟨t,e⟩:=(show ∃ t,u=Value.str x t from r); cases e; rfl
 | byt b=>obtain ⟨t,e⟩:=(show ∃ t,u=Value.bytes b t from r); cases e; rfl
 | flt b=>obtain ⟨t,e⟩:=(show ∃ t,u=Value.float b t from r); cases e; rfl
 | ref a=>cases (show u=Value.ref a from r); rfl
 | ty n=>cases (show u=Value.type n from r); rfl
section
variable {P:Program} {w:World} {H H':Hp} {h h':Heap} {a C dx:Addr} {fs fs':List (Str × V)}
theorem Zjm (hok:HOk P w H h) (e:H a=some (.ins C dx fs)):∃ mA,ObjM h a dx C mA∧(∀ f,RelO (fs.lookup f) (mA f))∧PySem.Within mA (fs.map (·.1))∧fs.length≤1000∧H dx=some (.own a):=by
 obtain ⟨d,z,ne,ob,mA,n,r,q⟩:=(show ObjOk P w H h a (.ins C dx fs) from hok a _ e)
 exact ⟨mA,⟨ob,n,ne⟩,r,q,z,d⟩
end
structure Cls (K:W.Frag) (C:Addr):Prop where
 pg:W.plainGet K C Str.empty=true
 hd:W.hasDictIn K C=true
 po:W.plainOver K C=true
 sa:W.findIn K (.ref C) "__setattr__"=some (some (.builtin "object.__setattr__"))
theorem Cls.get {K:W.Frag} {C:Addr} (c:Cls K C) (f:Str):W.plainGet K C f=true:=c.pg
def NoAttr (K:W.Frag) (C:Addr) (f:Str):Prop:=W.findIn K (.ref C) f=some none
theorem NoAttr.taker {K:W.Frag} {C:Addr} {f:Str} (n:NoAttr K C f):W.takerIn K C f=some none:=by
 unfold W.takerIn
 rw [show W.findIn K (.ref C) f=some none from n]
 rfl
structure Meth (K:W.Frag) (C:Addr) (m:Str) (f:Addr):Prop where
 at_:W.findIn K (.ref C) m=some (some (.ref f))
 fn:W.isFn K (.ref f)=true
 kp:W.keepIn K (.ref f)=true
section
variable {X:Cx} {pins:List (Addr × Obj)} {σ:St} {H:Hp} {s:Shared} {a C dx:Addr} {fs:List (Str × V)} {f:Str} {v:V} {A:Around} {E:Value->Shared->Prop}
theorem Zmm {b : Bool} {Q : Value → Shared → Prop} (I : Inv X pins σ H s) (e : H a=some (.ins C dx fs)) (c : Cls X.K C) (n : NoAttr X.K C f) (l : fs.lookup f=some v)
  (h:∀ u s',Inv X pins σ H s'->RelV v u->Q u s'):wpAny (model X.prog X.w) A (getAttr (.ref a) f b) Q E s:=by
 obtain ⟨mA,O,r,_,_,_⟩:=Zjm I.hok e
 obtain ⟨u,hu,ru⟩:=RelO.some_of (v:=v) (o:=mA f) (by rw [← l]; exact r f)
 exact ZqA I.kIn O (c.get f) c.hd n hu (Znv ru) (h u _ (I.tok _) ru)
theorem ZiR {m : Str} {g : Addr} {pl : Sem Bool} {Q : Value × List Value → Shared → Prop} (I : Inv X pins σ H s) (e : H a=some (.ins C dx fs)) (c : Cls X.K C) (k : Meth X.K C m g) (l : fs.lookup m=none)
  (h:Q (.ref g,[.ref a]) s):wpAny (model X.prog X.w) A (getMethod (.ref a) m pl) Q E s:=by
 obtain ⟨mA,O,r,_,_,_⟩:=Zjm I.hok e
 have hn:mA m=none:=RelO.none_of (by rw [← l]; exact r m)
 exact ZoX I.kIn O (c.get m) k.at_ k.fn hn h
theorem Zms {y : V} {u : Value} {Q : Unit → Shared → Prop} (I : Inv X pins σ H s) (e : H a=some (.ins C dx fs)) (c : Cls X.K C) (n : NoAttr X.K C f) (hl : fs.length<1000) (ry : RelV y u)
  (h:∀ s',Inv X pins σ (upd H a (.ins C dx (Zcr f y fs))) s'->Q () s'):wpAny (model X.prog X.w) A (setAttr (.ref a) f u) Q E s:=by
 obtain ⟨mA,O,r,wi,_,ho⟩:=Zjm I.hok e
 have hz:(fs.map (·.1)).length≤sizeLine:=by rw [List.length_map,sizeLine_eq]; omega
 refine Zqv I.kIn O c.sa c.po n.taker c.hd wi hz fun h' O' sb=>h _ ?_
 have hd:∃ o,h'.get? dx=some o:=let ⟨o,_,_,e',_⟩:=O'.ns; ⟨o,e'⟩
 refine I.write (x:=a) (e:=dx) (by rw [e]; exact True.intro) (.inr ho) (fun b q hb z=>(sb.2 b hb).trans z) hd ?_
 refine ⟨by rw [Zak O.ne]; exact ho,?_,O.ne,O'.obj,_,O'.ns,fun g=>?_,fun g hg=>?_⟩
 ·have:=Zhx f y fs; omega
 ·show RelO ((Zcr f y fs).lookup g) (if g=f then some u else mA g)
  rw [Zg8]
  by_cases q:g=f
  ·rw [if_pos q,if_pos q]; exact ry
  ·rw [if_neg q,if_neg q]; exact r g
 ·by_cases q:g=f
  ·rw [q]; exact (ZhN f y fs).1
  ·refine (ZhN f y fs).2 g (wi g fun z=>hg ?_)
   show (if g=f then some u else mA g)=none
   rw [if_neg q]; exact z
theorem Inv.made (I : Inv X pins σ H s) : Inv X pins σ (upd (upd H s.heap.objs.size (.own (s.heap.objs.size + 1))) (s.heap.objs.size + 1) (.ins C s.heap.objs.size []))
  { s with heap:=(s.heap.push W.emptyDict).push (W.instObj C s.heap.objs.size) }:=by
 have e1:(s.heap.push W.emptyDict).get? s.heap.objs.size=some W.emptyDict:=Heap.get?_push_size s.heap rfl
 have e2:((s.heap.push W.emptyDict).push (W.instObj C s.heap.objs.size)).get? (s.heap.objs.size+1)=some (W.instObj C s.heap.objs.size):=by
  have:=Heap.get?_push_size (s.heap.push W.emptyDict) (o:=W.instObj C s.heap.objs.size) rfl
  rwa [Heap.size_push] at this
 have e3:(s.heap.push W.emptyDict).Ns s.heap.objs.size (fun _=>none):=⟨W.emptyDict,#[],_,e1,rfl,(fun e he=>absurd he (by simp)),fun _=>rfl⟩
 have I1:=I.laid (a:=s.heap.objs.size) (o:=.own (s.heap.objs.size+1)) (h':=s.heap.push W.emptyDict) (t':=s.toks) (fun b u q=>Heap.get?_push_of_some _ q) (Nat.le_refl _) ⟨_,e1⟩
 refine I1.laid (a:=s.heap.objs.size+1) (o:=.ins C s.heap.objs.size []) (t':=s.toks) (fun b u q=>Heap.get?_push_of_some _ q) (Nat.le_of_eq (Heap.size_push _ _)) ?_
 have ne:s.heap.objs.size≠s.heap.objs.size+1:=Nat.ne_of_lt (Nat.lt_succ_self _)
 refine ⟨by rw [Zak ne,Zab],Nat.zero_le _,ne,e2,fun _=>none,(Heap.Ns1.of_empty e3).at fun o q=>Heap.get?_push_of_some _ q,fun _=>True.intro,fun y hy=>absurd rfl hy⟩
theorem ZqE {prog : Program} {w : World} {env : Env} {e : Expr} {f : Str} {pos : Pos} {s : Shared} {Q : Value → Shared → Prop} (hb : attributeBase e f env (eval e env)=eval e env)
  (h:wpAny (model prog w) A (eval e env) (fun o s₁=>wpAny (model prog w) A (getAttr o f true) Q E s₁) E s):wpAny (model prog w) A (eval (.Attribute e f pos) env) Q E s :=
 Attribute_any_ h (by rw [arm_eval_Attribute,hb])
end
def ZsN (K:W.Frag) (ta:TE) (f:Str):TE:=fun σ H Q=>ta σ H fun x H1=>∃ a C dx fs v,x=.ref a∧H1 a=some (.ins C dx fs)∧Cls K C∧NoAttr K C f∧fs.lookup f=some v∧Q v H1
def Ztm (K:W.Frag) (ta tv:TE) (f:Str):TS:=fun D σ H=>tv σ H fun y H1=>ta σ H1 fun x H2=>∃ a C dx fs,x=.ref a∧H2 a=some (.ins C dx fs)∧Cls K C∧NoAttr K C f∧fs.length<1000 ∧
 D.nx σ (upd H2 a (.ins C dx (Zcr f y fs)))
section
variable {X:Cx} {o e value:Expr} {f:Str} {pos pos' tpos:Pos} {ta tv:TE}
theorem Zcv (he:PE X e ta) (hb:attributeBase e f X.env (eval e X.env)=eval e X.env):PE X (.Attribute e f pos) (ZsN X.K ta f):=by
 intro pins s σ H Q I h
 refine ZqE hb (thn (he pins s σ H _ I h) fun u s1 ⟨x,H1,I1,rx,a,C,dx,fs,v,ex,ea,c,n,l,q⟩=>?_)
 subst ex
 obtain rfl:u=Value.ref a:=rx
 exact Zmm I1 ea c n l fun u' s2 I2 ru=>⟨v,H1,I2,ru,q⟩
theorem Zkd (ha:PE X o ta) (hv:PE X value tv) (hs:swapsWith value (some (.Attribute o f pos')) pos.line X.env=pure false):PS X (.Assign [.Attribute o f pos'] value pos) (Ztm X.K ta tv f):=by
 intro pins s σ H D I h
 refine plainObj_wpAny_Assign_Attribute (thn (hv pins s σ H _ I h) fun u s1 ⟨y,H1,I1,ry,q⟩=>thn (ha pins s1 σ H1 _ I1 q) fun ov s2 ⟨x,H2,I2,rx,a,C,dx,fs,ex,ea,c,n,l,q2⟩=>?_) hs
 subst ex
 obtain rfl:ov=Value.ref a:=rx
 exact Zms I2 ea c n l ry fun s3 I3=>⟨σ,_,I3,q2⟩
end
section
variable {X:Cx} {pins:List (Addr × Obj)} {σ:St} {H:Hp} {s:Shared} {A:Around} {E:Value->Shared->Prop} {Q:Value->Shared->Prop} {c:Value} {b:Bool}
inductive TyOf (K:W.Frag) (H:Hp):V->Value->Prop where
 | non:TyOf K H .non (.type "NoneType")
 | bl (x:Bool):TyOf K H (.bl x) (.type "bool")
 | int (i:Int):TyOf K H (.int i) (.type "int")
 | str (x:Str):TyOf K H (.str x) (.type "str")
 | flt (x:UInt64):TyOf K H (.flt x) (.type "float")
 | lst {a:Addr} {xs:List V} (e:H a=some (.lst xs)):TyOf K H (.ref a) (.type "list")
 | frz {a:Addr} {o:Obj} {xs:List V} (e:H a=some (.frz o (.lst xs))):TyOf K H (.ref a) (.type "list")
 | tup {a:Addr} {xs:List V} (e:H a=some (.tup xs)):TyOf K H (.ref a) (.type "tuple")
 | dK {a:Addr} {kvs:List (Key × V)} (e:H a=some (.dK kvs)):TyOf K H (.ref a) (.type "dict")
 | dT {a:Addr} {kvs:List (List Key × V)} (e:H a=some (.dT kvs)):TyOf K H (.ref a) (.type "dict")
 | ins {a C dx : Addr} {fs : List (Str × V)} (e : H a=some (.ins C dx fs)) (cl : Cls K C) (ha : W.findIn K (.ref C) "__class__"=some (some (.builtin "object.__class__")))
   (hn:W.specialIn K (.builtin "object.__class__") "__get__"=some (some (.builtin "getset_descriptor.__get__"))) (htk:W.takesIn K (.builtin "object.__class__")=some true)
   (hm:W.mroIn K C (.type "object")=some true):TyOf K H (.ref a) (.ref C)
theorem Zow {x : V} {u t : Value} (I : Inv X pins σ H s) (rx : RelV x u) (ty : TyOf X.K H x t) (e : W.kitOne X.K t c=some b) (h : ∀ tk, Q (.bool b) { s with toks := tk }) :
  wpAny (model X.prog X.w) A (call (.builtin "isinstance") [u,c]) Q E s:=by
 cases ty with
 | non=>cases (show u=Value.none from rx); exact W.kia_one W.kitx_none I.kIn True.intro e (fun z=>nomatch z) h
 | bl y=>cases (show u=Value.bool y from rx); exact W.kia_one W.kitx_bool I.kIn True.intro e (fun z=>nomatch z) h
 | int i=>obtain ⟨t,q⟩:=(show ∃ t,u=Value.int i t from rx); cases q; exact W.kia_one W.kitx_int I.kIn True.intro e (fun z=>nomatch z) h
 | str y=>obtain ⟨t,q⟩:=(show ∃ t,u=Value.str y t from rx); cases q; exact W.kia_one W.kitx_str I.kIn True.intro e (fun z=>nomatch z) h
 | flt y=>obtain ⟨t,q⟩:=(show ∃ t,u=Value.float y t from rx); cases q; exact W.kia_one W.kitx_float I.kIn True.intro e (fun z=>nomatch z) h
 | @lst a xs ea =>
  cases (show u=Value.ref a from rx)
  obtain ⟨_,_,n,_,h1⟩:=(show ObjOk X.prog X.w H s.heap a (.lst xs) from I.hok a _ ea)
  exact W.kia_one W.kitx_list I.kIn ⟨_,h1,rfl⟩ e (fun z=>nomatch z) h
 | @frz a ob xs ea =>
  cases (show u=Value.ref a from rx)
  obtain ⟨_,_,_,n,_,h1⟩:=(show ObjOk X.prog X.w H s.heap a (.frz ob (.lst xs)) from I.hok a _ ea)
  exact W.kia_one W.kitx_list I.kIn ⟨_,h1,rfl⟩ e (fun z=>nomatch z) h
 | @tup a xs ea =>
  cases (show u=Value.ref a from rx)
  obtain ⟨_,_,_,p⟩:=(show ObjOk X.prog X.w H s.heap a (.tup xs) from I.hok a _ ea)
  obtain ⟨o,h1,h2,_⟩:=p
  exact W.kia_one W.kitx_tuple I.kIn ⟨o,h1,h2⟩ e (fun z=>nomatch z) h
 | @dK a kvs ea =>
  cases (show u=Value.ref a from rx)
  obtain ⟨_,_,vs,_,p⟩:=(show ObjOk X.prog X.w H s.heap a (.dK kvs) from I.hok a _ ea)
  obtain ⟨o,es,ep,h1,h2,_⟩:=p
  exact W.kia_one W.kitx_dict I.kIn ⟨o,h1,h2.1⟩ e (fun z=>nomatch z) h
 | @dT a kvs ea =>
  cases (show u=Value.ref a from rx)
  obtain ⟨_,_,xs,_,o,es,ep,h1,h2,_⟩:=(show ObjOk X.prog X.w H s.heap a (.dT kvs) from I.hok a _ ea)
  exact W.kia_one W.kitx_dict I.kIn ⟨o,h1,h2.1⟩ e (fun z=>nomatch z) h
 | @ins a C dx fs ea cl ha hn htk hm =>
  cases (show u=Value.ref a from rx)
  obtain ⟨mA,O,_⟩:=Zjm I.hok ea
  obtain ⟨od,J,_⟩:=O.look
  exact W.kia_one (W.kitx_own (cl.get _) cl.hd ha hn htk hm) I.kIn J e (fun z=>nomatch z) h
end
structure Room (k:Nat) (A:Around):Prop where
 hd:A.handled=none
 dp:A.depth+3*k+5<recursionLimit
 un:A.units+16*k+200<cLine
theorem Room.mono {j k:Nat} {A:Around} (r:Room k A) (h:j≤k):Room j A:=⟨r.hd,by have:=r.dp; omega,by have:=r.un; omega⟩
theorem Room.deeper {k:Nat} {A:Around} (r:Room (k+1) A) (env:Env):Room k (A.deeper env) :=
 ⟨r.hd,by have:=r.dp; show A.depth+1+3*k+5<_; omega,by have:=r.un; show A.units+3+16*k+200<_; omega⟩
theorem Zme {A:Around} {C:Addr} {us:List Value} {kw:List (Str × Value)}:(A.under (.builtin "type.__call__" ⟨.ref C :: us,kw⟩)).depth=A.depth+1:=by
 first | rfl | simp [Around.under,Code.weight,Code.isCreation,Code.isGuard,Code.isCaller,Code.frames,Code.isFrame,guardIds]
theorem Zmf {A:Around} {C:Addr} {us:List Value} {kw:List (Str × Value)}:(A.under (.builtin "type.__call__" ⟨.ref C :: us,kw⟩)).units=A.units+1:=by
 first | rfl | simp [Around.under,Code.cUnits,Code.frames,Code.isFrame]
theorem Room.make {k:Nat} {A:Around} (r:Room (k+1) A) (C:Addr) (us:List Value) (kw:List (Str × Value)):Room k (A.under (.builtin "type.__call__" ⟨.ref C :: us,kw⟩)) :=
 ⟨r.hd,by have:=r.dp; rw [Zme]; omega,by have:=r.un; rw [Zmf]; omega⟩
theorem Room.depth {k:Nat} {A:Around} (r:Room k A):A.depth<recursionLimit:=by have:=r.dp; omega
theorem Room.units {k:Nat} {A:Around} (r:Room k A):A.units+64<cLine:=by have:=r.un; omega
def Zrb:TA:=fun _ H Q=>Q [] H
def Zpj (ta:TE) (tr:TA):TA:=fun σ H Q=>ta σ H fun x H1=>tr σ H1 fun xs H2=>Q (x :: xs) H2
section
variable {X:Cx} {e:Expr} {es:List Expr} {te:TE} {t:TA} {pos:Pos}
theorem Zac:PA X [] Zrb:=fun _ _ _ _ H Q I h=>Calls.spliced_nil ⟨[],H,I,.nil,h⟩
theorem Zaa (ha:PE X e te) (hr:PA X es t) (hs:starEach (e :: es) X.env=(false,eval e X.env) :: starEach es X.env:=by rfl):PA X (e :: es) (Zpj te t):=by
 intro pos pins s σ H Q I h
 rw [hs]
 show wpAny _ _ (spliced ((false,eval e X.env) :: backTo pos (starEach es X.env))) _ _ s
 refine Calls.spliced_cons (thn (ha pins s σ H _ I h) fun u s1 ⟨x,H1,I1,r1,q1⟩=>?_)
 exact thn (hr pos pins s1 σ H1 _ I1 q1) fun us s2 ⟨xs,H2,I2,r2,q2⟩=>⟨x :: xs,H2,I2,.cons r1 r2,q2⟩
def ZsR (t:TA):TE:=fun σ H Q=>t σ H fun xs H1=>xs.length≤sizeLine∧∀ p,H1 p=none->Q (.ref p) (upd H1 p (.tup xs))
def Ztf (t:TA):TE:=fun σ H Q=>t σ H fun xs H1=>xs.length≤sizeLine∧∀ p,H1 p=none->Q (.ref p) (upd H1 p (.lst xs))
theorem Zby {x1} (h:PA X es t):PE X (.Tuple es x1 pos) (ZsR t):=by
 intro pins s σ H Q I hq
 refine wpAny_Tuple_spliced (thn (h pos pins s σ H _ I hq) fun us s1 ⟨xs,H1,I1,r,z,q⟩=>⟨by rw [← r.length]; exact z,?_⟩)
 have hf:H1 s1.heap.objs.size=none:=I1.hok.fresh (Nat.le_refl _)
 refine ⟨.ref s1.heap.objs.size,upd H1 s1.heap.objs.size (.tup xs),I1.laid (t':=s1.toks) (fun b u e=>Heap.get?_push_of_some _ e) (Nat.le_refl _) ?_,rfl,q _ hf⟩
 exact ⟨z,us,r,⟨_,Heap.get?_push_size _ rfl,rfl,_,rfl⟩⟩
theorem ZbL (h:PA X es t):PE X (.List es pos) (Ztf t):=by
 intro pins s σ H Q I hq
 refine wpAny_List_spliced (thn (h pos pins s σ H _ I hq) fun us s1 ⟨xs,H1,I1,r,z,q⟩=>⟨by rw [← r.length]; exact z,?_⟩)
 have hf:H1 s1.heap.objs.size=none:=I1.hok.fresh (Nat.le_refl _)
 refine ⟨.ref s1.heap.objs.size,upd H1 s1.heap.objs.size (.lst xs),I1.laid (t':=s1.toks) (fun b u e=>Heap.get?_push_of_some _ e) (Nat.le_refl _) ?_,rfl,q _ hf⟩
 exact ⟨z,us,0,r,Heap.get?_push_size _ rfl⟩
end
abbrev Sp:=List V->Hp->VK->XK->Prop
abbrev CXT:=List Env->Hp->Shared->XK->Value->Shared->Prop
structure Env0 (P:Program) (w:World) (K:W.Frag) (mg:Str->Option Value) (base:Heap) (A:Around) (outer:List Env) (s:Shared) (H:Hp):Prop where
 frames:A.frames=some outer
 mod:Mod K mg base
 bs:∀ b o,base.get? b=some o->s.heap.get? b=some o∧H b=none
 bsz:base.objs.size≤s.heap.objs.size
 funs:s.heap.FunFrames base outer
 frf:∀ b∈frs outer,H b=none
 hok:HOk P w H s.heap
 bare:AllBare s.gens
def CE (outer:List Env) (P:Program) (w:World) (H:Hp) (s:Shared) (Q:VK) (u:Value) (s':Shared):Prop :=
 ∃ v H',s'.os=s.os∧AllBare s'.gens∧Un (frs outer) [] H H' s.heap s'.heap∧HOk P w H' s'.heap∧RelV v u∧Q v H'
def CR (CX:CXT) (outer:List Env) (P:Program) (w:World) (H:Hp) (s:Shared) (Q:VK) (E:XK) (r:Result) (s':Shared):Prop :=
 match r with
 | .ok (.ret u)=>CE outer P w H s Q u s'
 | .ok _=>False
 | .error e=>CX outer H s E e s'
structure FnOk (P:Program) (w:World) (K:W.Frag) (mg:Str->Option Value) (base:Heap) (CX:CXT) (k:Nat) (f:Addr) (fd:FuncData) (ps:List Str) (sp:Sp):Prop where
 len:∀ vs H Q E,sp vs H Q E->vs.length=ps.length
 run:∀ (A:Around) (outer:List Env) (s:Shared) (H:Hp) (args:Args) (us:List Value) (vs:List V) (Q:VK) (E:XK),Room k A->Env0 P w K mg base A outer s H->BindsTo s fd args (ps.zip us)->Vals vs us->sp vs H Q E →
  codeAny (model P w) A (.call (.ref f) args) (CR CX outer P w H s Q E) s
theorem FnOk.imp {P : Program} {w : World} {K : W.Frag} {mg : Str → Option Value} {base : Heap} {CX : CXT} {k : Nat} {f : Addr} {fd : FuncData} {ps : List Str} {sp sp' : Sp} (F : FnOk P w K mg base CX k f fd ps sp)
  (h:∀ vs H Q E,sp' vs H Q E->sp vs H Q E):FnOk P w K mg base CX k f fd ps sp' :=
 ⟨fun vs H Q E q=>F.len vs H Q E (h _ _ _ _ q),fun A outer s H args us vs Q E hr he hb hv hs=>F.run A outer s H args us vs Q E hr he hb hv (h _ _ _ _ hs)⟩
theorem Env0.make {P : Program} {w : World} {K : W.Frag} {mg : Str → Option Value} {base : Heap} {A : Around} {outer : List Env} {s : Shared} {H : Hp} (e : Env0 P w K mg base A outer s H) (C : Addr) (us : List Value) (kw : List (Str × Value)) :
  Env0 P w K mg base (A.under (.builtin "type.__call__" ⟨.ref C :: us,kw⟩)) outer s H:=⟨by first | exact e.frames | (simpa [Around.under,Code.envs,Code.isFrame,pushEnvs] using e.frames),e.mod,e.bs,e.bsz,e.funs,e.frf,e.hok,e.bare⟩
section
variable {X:Cx} {pins:List (Addr × Obj)} {σ:St} {H:Hp} {s s':Shared}
theorem Inv.env0 (I:Inv X pins σ H s):Env0 X.prog X.w X.K X.mg X.base X.A X.stack s H :=
 ⟨I.ok.frames,I.ok.mod,I.bs,Nat.le_trans I.ok.bsz I.sz,I.stack,I.stkFree,I.hok,I.bare⟩
theorem Inv.after {Q:VK} {u:Value} (I:Inv X pins σ H s) (h:CE X.stack X.prog X.w H s Q u s'):EP X pins σ Q u s':=by
 obtain ⟨v,H',os,bare,un,hok,r,q⟩:=h
 obtain ⟨hh,g,d,t,os'⟩:=s'
 obtain rfl:os'=s.os:=os
 exact ⟨v,H',I.call (h':=hh) (g':=g) (d':=d) (t':=t) (ch:=[]) un hok bare (fun b z=>absurd z (by simp)),r,q⟩
end
def Binds (K:W.Frag) (fd:FuncData) (ps:List Str) (ds:List Value):Prop :=
 ∀ (s:Shared) (us:List Value),K.In s.heap->(us++ds).length=ps.length->BindsTo s fd ⟨us,[]⟩ (ps.zip (us++ds))
theorem Binds.all {K:W.Frag} {fd:FuncData} {ps:List Str} (h:∀ us:List Value,us.length=ps.length->bindArgs fd ⟨us,[]⟩=pure (ps.zip us)):Binds K fd ps []:=fun s us _ hl=>by
 rw [List.append_nil] at hl ⊢
 exact .of_eq (h us hl)
def ZkI (CX:CXT) (X:Cx) (E:XK):Prop:=∀ (pins:List (Addr × Obj)) (σ:St) (H:Hp) (s:Shared) (e:Value) (s':Shared),Inv X pins σ H s->CX X.stack H s E e s'->X.xe e s'
section
variable {X:Cx} {CX:CXT} {k:Nat} {f C:Addr} {fd:FuncData} {ps:List Str} {sp:Sp} {dvs:List V} {ds:List Value} {E:XK} {x m:Str} {p pos apos:Pos} {e o:Expr} {es:List Expr} {ta:TE} {t:TA}
theorem Zrl {pins : List (Addr × Obj)} {σ : St} {H : Hp} {s : Shared} {Q : VK} {us : List Value} {vs : List V} (F : FnOk X.prog X.w X.K X.mg X.base CX k f fd ps sp) (hr : Room k X.A) (hb : Binds X.K fd ps ds) (hd : Vals dvs ds) (hx : ZkI CX X E)
  (I:Inv X pins σ H s) (r:Vals vs us) (h:sp (vs++dvs) H Q E):wpAny (model X.prog X.w) X.A (call (.ref f) us) (EP X pins σ Q) X.xe s:=by
 have r2:Vals (vs++dvs) (us++ds):=r.append hd
 have hl:(us++ds).length=ps.length:=by rw [← r2.length]; exact F.len _ _ _ _ h
 refine wpAny_call (codeAny_mono (F.run X.A X.stack s H ⟨us,[]⟩ (us++ds) (vs++dvs) Q E hr I.env0 (hb s us I.kIn hl) r2 h) fun r s' hq=>?_)
 cases r with
 | error e=>exact hx pins σ H s e s' I hq
 | ok fl =>
  cases fl with
  | ret u=>exact I.after hq
  | next=>exact False.elim hq
  | brk=>exact False.elim hq
  | cont=>exact False.elim hq
structure Mk (K:W.Frag) (C f:Addr):Prop where
 makes:W.makesIn K C=true
 init:W.findIn K (.ref C) "__init__"=some (some (.ref f))
 fn:W.isFn K (.ref f)=true
 kp:W.keepIn K (.ref C)=true
end
def PK (X:Cx) (kws:List Keyword) (t:TA):Prop :=
 ∀ (pos:Pos) (pins:List (Addr × Obj)) (s:Shared) (σ:St) (H:Hp) (Q:List V->Hp->Prop),Inv X pins σ H s->t σ H Q->wpAny (model X.prog X.w) X.A (evalAll ((backToKw pos (keywordEach kws X.env)).map (·.2))) (AP X pins σ Q) X.xe s
section
variable {X:Cx} {CX:CXT} {k:Nat} {f C:Addr} {fd:FuncData} {ps ks:List Str} {sp:Sp} {E:XK} {x m:Str} {p pos apos kpos:Pos} {e o:Expr} {es:List Expr} {kws:List Keyword} {te ta:TE} {t tk:TA} {nm:Option Str}
theorem ZrP:PK X [] Zrb:=fun _ _ _ _ H Q I h=>wpAny_evalAll_nil ⟨[],H,I,.nil,h⟩
theorem ZpW (ha:PE X e te) (hr:PK X kws t):PK X (⟨nm,e,kpos⟩ :: kws) (Zpj te t):=by
 intro pos pins s σ H Q I h
 show wpAny _ _ (evalAll ((do let v ← eval e X.env; standAt pos; pure v) :: (backToKw pos (keywordEach kws X.env)).map (·.2))) _ _ s
 refine wpAny_evalAll_cons (wpAny_bind (thn (ha pins s σ H _ I h) fun u s1 ⟨x,H1,I1,r1,q1⟩=>wpAny_bind (wpAny_standAt (wpAny_pure ?_))))
 exact thn (hr pos pins s1 σ H1 _ I1 q1) fun us s2 ⟨xs,H2,I2,r2,q2⟩=>⟨x :: xs,H2,I2,.cons r1 r2,q2⟩
structure KBinds (K:W.Frag) (fd:FuncData) (ps ks:List Str) (g:List Value->List Value->List Value) (gV:List V->List V->List V):Prop where
 to:∀ (s:Shared) (us ws:List Value),K.In s.heap->(g us ws).length=ps.length->BindsTo s fd ⟨us,ks.zip ws⟩ (ps.zip (g us ws))
 rel:∀ {vs:List V} {us:List Value} {zs:List V} {ws:List Value},Vals vs us->Vals zs ws->Vals (gV vs zs) (g us ws)
def ZrB (sp:Sp) (gV:List V->List V->List V) (E:XK) (t tk:TA):TE:=fun σ H Q=>t σ H fun vs H1=>tk σ H1 fun zs H2=>sp (gV vs zs) H2 Q E
variable {g:List Value->List Value->List Value} {gV:List V->List V->List V}
theorem Zp0 {pins : List (Addr × Obj)} {σ : St} {H : Hp} {s : Shared} {Q : VK} {us ws : List Value} {vs zs : List V} (F : FnOk X.prog X.w X.K X.mg X.base CX k f fd ps sp) (hr : Room k X.A) (hb : KBinds X.K fd ps ks g gV) (hx : ZkI CX X E)
  (I:Inv X pins σ H s) (r:Vals vs us) (rz:Vals zs ws) (h:sp (gV vs zs) H Q E):wpAny (model X.prog X.w) X.A (call (.ref f) us (ks.zip ws)) (EP X pins σ Q) X.xe s:=by
 have r2:=hb.rel r rz
 have hl:(g us ws).length=ps.length:=by rw [← r2.length]; exact F.len _ _ _ _ h
 refine wpAny_call (codeAny_mono (F.run X.A X.stack s H ⟨us,ks.zip ws⟩ (g us ws) (gV vs zs) Q E hr I.env0 (hb.to s us ws I.kIn hl) r2 h) fun r s' hq=>?_)
 cases r with
 | error e=>exact hx pins σ H s e s' I hq
 | ok fl =>
  cases fl with
  | ret u=>exact I.after hq
  | next=>exact False.elim hq
  | brk=>exact False.elim hq
  | cont=>exact False.elim hq
theorem ZoW (F : FnOk X.prog X.w X.K X.mg X.base CX k f fd ps sp) (hr : Room k X.A) (hg : Gl X x) (hm : X.mg x=some (.ref f)) (hk : W.keepIn X.K (.ref f)=true) (hb : KBinds X.K fd ps ks g gV) (hx : ZkI CX X E)
  (ha:PA X (e :: es) t) (hkw:PK X kws tk) (hall:(backToKw pos (keywordEach kws X.env)).all (·.1.isSome)=true:=by rfl) (hks:(backToKw pos (keywordEach kws X.env)).filterMap (·.1)=ks:=by rfl)
  (hdb:(x == ("__debug__" : Str))=false:=by decide) (he:starEach (e :: es) X.env=(false,eval e X.env) :: starEach es X.env:=by rfl)
  (hpl:((backTo pos (starEach (e :: es) X.env)).any (·.1)||(backToKw pos (keywordEach kws X.env)).any (·.1.isNone))=false:=by rfl) :
  PE X (.Call (.Name x p) (e :: es) kws pos) (ZrB sp gV E t tk):=by
 intro pins s σ H Q I h
 refine wpAny_Call_Name_kw (ZhY I hg hm ?_ hdb)
 refine W.callWith_KW (h₀:=X.base) I.ok.mod.kin hk hall (thn (ha pos pins s σ H _ I h) fun us s1 ⟨vs,H1,I1,r,q⟩=>?_) hpl he
 refine thn (hkw pos pins s1 σ H1 _ I1 q) fun ws s2 ⟨zs,H2,I2,rz,q2⟩=>⟨I2.kIn,?_⟩
 rw [hks]
 exact Zp0 F hr hb hx I2 r rz q2
end
structure FnScope (N P:List Str) (sc:Scope):Prop where
 kind:sc.kind=.function
 co:sc.isCoroutine=false
 gen:sc.isGenerator=false
 nd:N.Nodup
 pre:N.take P.length=P
 par:∀ x∈P,sc.names.lookup x=some .local∨sc.names.lookup x=some .cell
 nofree:∀ y∈sc.names,y.2≠.free
theorem Zkv {kindOf:Str->Option NameKind} {x:Str}:∀ {binds:List (Str × Value)} {m:Str->Option Value},(∀ v,(x,v) ∉ binds)->bindL kindOf binds m x=m x
 | [],_,_=>rfl
 | (n,v) :: r,m,h=>by
  unfold bindL
  rw [Zkv fun w hw=>h w (List.mem_cons_of_mem _ hw)]
  split
  ·have:x≠n:=by rintro rfl; exact h v List.mem_cons_self
   simp [this]
  ·rfl
theorem ZkE {kindOf:Str->Option NameKind} {x:Str}:∀ {binds:List (Str × Value)} {m:Str->Option Value},(∀ v,(x,v) ∉ binds)->bindC kindOf binds m x=m x
 | [],_,_=>rfl
 | (n,v) :: r,m,h=>by
  unfold bindC
  rw [ZkE fun w hw=>h w (List.mem_cons_of_mem _ hw)]
  split
  ·rfl
  ·have:x≠n:=by rintro rfl; exact h v List.mem_cons_self
   simp [this]
theorem ZjM {kindOf : Str → Option NameKind} {x : Str} {v : Value} : ∀ {P : List Str} {vs : List Value} {i : Nat} {m : Str → Option Value}, P.Nodup → P[i]?=some x → vs[i]?=some v → kindOf x=some .local →
  bindL kindOf (P.zip vs) m x=some v
 | [],_,_,_,_,h,_,_=>by simp at h
 | _ :: _,[],_,_,_,_,h,_=>by simp at h
 | p :: P,w :: vs,0,m,nd,h1,h2,hk=>by
  simp at h1 h2; subst h1; subst h2
  show bindL kindOf ((p,w) :: P.zip vs) m p=_
  unfold bindL
  rw [Zkv fun v hv=>(List.nodup_cons.mp nd).1 (List.of_mem_zip hv).1,if_pos hk]
  simp
 | p :: P,w :: vs,i+1,m,nd,h1,h2,hk=>by
  show bindL kindOf ((p,w) :: P.zip vs) m x=_
  unfold bindL
  exact ZjM (i:=i) (List.nodup_cons.mp nd).2 (by simpa using h1) (by simpa using h2) hk
theorem ZkH {kindOf : Str → Option NameKind} {x : Str} {v : Value} : ∀ {P : List Str} {vs : List Value} {i : Nat} {m : Str → Option Value}, P.Nodup → P[i]?=some x → vs[i]?=some v → kindOf x ≠ some .local →
  bindC kindOf (P.zip vs) m x=some v
 | [],_,_,_,_,h,_,_=>by simp at h
 | _ :: _,[],_,_,_,_,h,_=>by simp at h
 | p :: P,w :: vs,0,m,nd,h1,h2,hk=>by
  simp at h1 h2; subst h1; subst h2
  show bindC kindOf ((p,w) :: P.zip vs) m p=_
  unfold bindC
  rw [ZkE fun v hv=>(List.nodup_cons.mp nd).1 (List.of_mem_zip hv).1,if_neg hk]
  simp
 | p :: P,w :: vs,i+1,m,nd,h1,h2,hk=>by
  show bindC kindOf ((p,w) :: P.zip vs) m x=_
  unfold bindC
  exact ZkH (i:=i) (List.nodup_cons.mp nd).2 (by simpa using h1) (by simpa using h2) hk
noncomputable def start (N:List Str) (vs:List V):St:=vs.map some++List.replicate (N.length-vs.length) none
noncomputable def ZoB (CX:CXT) (P:Program) (w:World) (K:W.Frag) (mg:Str->Option Value) (base:Heap) (N:List Str) (qual:Str) (scope:Scope) (f:Addr) (cd:Value) (A:Around) (outer:List Env) (s:Shared) (H:Hp) (E:XK):Cx where
 prog:=P
 w:=w
 K:=K
 mg:=mg
 base:=base
 A:=A.deeper (envOfC qual scope s.heap.objs.size f cd)
 N:=N
 s₀:=s
 H₀:=H
 env:=envOfC qual scope s.heap.objs.size f cd
 outer:=outer
 stack:=envOfC qual scope s.heap.objs.size f cd :: outer
 ex:=[]
 calm:=true
 fn:=fun _=>true
 pn:=[]
 xe:=fun e s'=>wpAny (model P w) (A.deeper (envOfC qual scope s.heap.objs.size f cd)) (leaving (envOfC qual scope s.heap.objs.size f cd) e) (fun _ s''=>CX outer H s E e s'') (fun e' s''=>CX outer H s E e' s'') s'
theorem ZlG {sc:Scope} {n:Nat} {x:Str} (h:sc.names.lookup x=some .cell):∃ c,(cellsFrom n sc.names []).lookup x=some c:=by
 have q:=W.cellsFrom_some sc.names n [] (.inl h)
 exact Option.isSome_iff_exists.mp q
theorem Znk {CX : CXT} {P : Program} {w : World} {K : W.Frag} {mg : Str → Option Value} {base : Heap} {N ps : List Str} {qual : Str} {scope : Scope} {f : Addr} {cd : Value} {A : Around} {outer : List Env} {s s1 : Shared} {H : Hp} {E : XK} {us : List Value} {vs : List V}
  (S:FnScope N ps scope) (hd:A.handled=none) (e0:Env0 P w K mg base A outer s H) (hl:vs.length=ps.length) (r:Vals vs us)
  (x:InCallC s s.heap.objs.size (bindL (envOfC qual scope s.heap.objs.size f cd).kindOf (ps.zip us) fun _=>none) (cellsFrom (s.heap.objs.size+1) scope.names []) (bindC (envOfC qual scope s.heap.objs.size f cd).kindOf (ps.zip us) fun _=>none) s1) :
  Inv (ZoB CX P w K mg base N qual scope f cd A outer s H E) [] (start N vs) H s1:=by
 have hpl:ps.length≤N.length:=by have:=congrArg List.length S.pre; rw [List.length_take] at this; omega
 obtain ⟨h1,tk,rfl,hk⟩:=x.done
 have noA:∀ b:Addr,b ∉ (ZoB CX P w K mg base N qual scope f cd A outer s H E).ex:=fun b z=>absurd (show b∈([]:List Addr) from z) (by simp)
 refine ⟨⟨e0.mod,S.kind,rfl,rfl,Nat.le_refl _,fun y z c h1 h2=>?_,fun y hy=>?_,fun y c _ h=>?_,fun _=>hd,Around.frames_deeper e0.frames,.inr ⟨rfl,rfl⟩,fun b z=>absurd z (noA b),e0.bs,e0.bsz,fun b _ _=>noA b,fun b z=>absurd z (noA b),e0.funs,e0.frf⟩,
  rfl,e0.bare,Un.kept hk,⟨_,x.toInCall.ns,fun i y v h1 h2 h3=>?_⟩,fun y c h=>⟨_,x.cell y c h⟩,e0.hok.fresh (Nat.le_refl _),fun y c h=>?_,fun p hp=>absurd (show p∈([]:List (Addr × Obj)) from hp) (by simp),e0.hok.kept hk,?_⟩
 ·exact name_of_addr x.apart (PySem.mem_of_lookup h1) (PySem.mem_of_lookup h2)
 ·have hy:scope.names.lookup y=some .cell∨scope.names.lookup y=some .free:=hy
  rcases hy with hy | hy
  ·exact ZlG hy
  ·exact absurd rfl (S.nofree _ (PySem.mem_of_lookup hy))
 ·exact Nat.le_of_lt (x.above y c (PySem.mem_of_lookup h))
 ·have hi:i<vs.length:=by
   unfold start at h2
   by_cases hi:i<vs.length
   ·exact hi
   ·rw [List.getElem?_append_right (by simpa using hi)] at h2
    rw [List.getElem?_replicate] at h2
    split at h2 <;> cases h2
  have ha:vs[i]?=some v:=by
   unfold start at h2
   rw [List.getElem?_append_left (by simpa using hi),List.getElem?_map] at h2
   cases e:vs[i]? with
   | none=>rw [e] at h2; cases h2
   | some a=>rw [e] at h2; cases h2; rfl
  obtain ⟨u,hu,rv⟩:=r.get ha
  have hp:ps[i]?=some y:=by
   rw [← S.pre,List.getElem?_take_of_lt (by omega)]; exact h1
  have ndP:ps.Nodup:=by rw [← S.pre]; exact S.nd.sublist (List.take_sublist _ _)
  refine ⟨u,rv,?_⟩
  rcases S.par y (List.mem_of_getElem? hp) with k | k
  ·exact .inl ⟨k,ZjM ndP hp hu k⟩
  ·obtain ⟨c,e⟩:=ZlG (n:=s.heap.objs.size+1) k
   refine .inr ⟨.inl k,c,e,?_⟩
   have q:=x.cell y c e
   rw [ZkH ndP hp hu (by show scope.names.lookup y≠_; rw [k]; decide)] at q
   exact q
 ·exact e0.hok.fresh (Nat.le_of_lt (x.above y c (PySem.mem_of_lookup h)))
 ·unfold start
  show _=N.length
  rw [List.length_append,List.length_map,List.length_replicate]
  omega
theorem Zrz {CX : CXT} {P : Program} {w : World} {K : W.Frag} {mg : Str → Option Value} {base : Heap} {k : Nat} {f : Addr} {name qual : Str} {params : Arguments} {body : List Stmt} {scope : Scope} {dV kV doc pm cdv ct oc : Value} {an od : Option Addr}
  {osl:Array (Option Value)} {N ps:List Str} {sp:Sp} (lk:K.lookup f=some ⟨oc,od,.func (W.fnOf name qual params body scope dV kV doc pm an cdv ct),osl⟩) (hcd:W.codeIn K cdv qual=true) (S:FnScope N ps scope)
  (len:∀ vs H Q E,sp vs H Q E->vs.length=ps.length)
  (hbody:∀ (A:Around) (outer:List Env) (s:Shared) (H:Hp) (vs:List V) (Q:VK) (E:XK),Room k (A.deeper (envOfC qual scope s.heap.objs.size f cdv))->sp vs H Q E →
   ∃ t,PSs (ZoB CX P w K mg base N qual scope f cdv A outer s H E) body t∧t { nx:=fun _ H'=>Q .non H',rt:=Q } (start N vs) H) :
  FnOk P w K mg base CX (k+1) f (W.fnOf name qual params body scope dV kV doc pm an cdv ct) ps sp:=by
 refine ⟨len,fun A outer s H args us vs Q E hr e0 hb r hsp=>?_⟩
 have hl:=len _ _ _ _ hsp
 have KX:K.In s.heap:=e0.mod.kin.keeps fun b o e=>(e0.bs b o e).1
 have lim:s.heap.NoLimit:=e0.mod.nolimit.keeps fun b o e=>(e0.bs b o e).1
 have hkind:∀ y∈ps.zip us,scope.names.lookup y.1=some .local∨(scope.names.lookup y.1=some .cell∧((cellsFrom (s.heap.objs.size+1) scope.names []).lookup y.1).isSome=true):=fun ⟨n,v⟩ hy=>by
  rcases S.par n (List.of_mem_zip hy).1 with q | q
  ·exact .inl q
  ·exact .inr ⟨q,W.cellsFrom_some _ _ _ (.inl q)⟩
 refine codeAny_call_function hr.depth (KX _ _ lk) rfl S.co S.gen rfl (W.codeRec_of KX hcd) (hb _ _ _ _ ?_)
 refine wpAny_newFunctionEnv_cells S.kind hkind fun env he s1 x=>?_
 subst he
 refine ⟨lim.keeps x.toInCall.keep,codeAny_func ?_⟩
 obtain ⟨t,ht,hq⟩:=hbody A outer s H vs Q E (hr.deeper _) hsp
 have I:Inv (ZoB CX P w K mg base N qual scope f cdv A outer s H E) [] (start N vs) H s1:=Znk S hr.hd e0 hl r x
 refine wpAny_mono (ht [] s1 (start N vs) H _ I hq) (fun fl s' hs=>?_) fun e s' hs=>hs
 have fin:∀ {σ':St} {H':Hp} {v:V} {u:Value},Inv (ZoB CX P w K mg base N qual scope f cdv A outer s H E) [] σ' H' s'->RelV v u->Q v H'->CE outer P w H s Q u s' :=
  fun {σ' H' v u} J rv q=>⟨v,H',J.os,J.bare,J.base,J.hok,rv,q⟩
 cases fl with
 | ret u =>
  obtain ⟨v,σ',H',J,rv,q⟩:=hs
  exact fin J rv q
 | next =>
  obtain ⟨σ',H',J,q⟩:=hs
  exact fin (v:=V.non) (u:=Value.none) J rfl q
 | brk =>
  obtain ⟨_,_,_,q⟩:=hs
  exact False.elim q
 | cont =>
  obtain ⟨_,_,_,q⟩:=hs
  exact False.elim q
section
variable {X:Cx} {x:Str} {p pos:Pos} {e:Expr} {es:List Expr} {t:TA} {id T:String} {r:List V->Hp->VK->Prop}
def tCB (r:List V->Hp->VK->Prop) (t:TA):TE:=fun σ H Q=>t σ H fun vs H1=>r vs H1 Q
theorem Zaz (hc : Zd0 X (.builtin id) r) (hg : Gl X x) (hm : X.mg x=none) (hv : bootBuiltins x=some (.builtin id)) (ha : PA X (e :: es) t) (hn : x ≠ "__name__" := by decide) (hdb : (x == ("__debug__" : Str))=false := by decide)
  (he:starEach (e :: es) X.env=(false,eval e X.env) :: starEach es X.env:=by rfl) (hpl:(backTo pos (starEach es X.env)).any (·.1)=false:=by rfl):PE X (.Call (.Name x p) (e :: es) [] pos) (tCB r t):=by
 intro pins s σ H Q I h
 refine wpAny_Call_Name_kw (ZhD I hg hm hv ?_ hn hdb)
 exact PyProof.Rows.callWith_builtin1 (thn (ha pos pins s σ H _ I h) fun us s1 ⟨vs,H1,I1,r1,q1⟩=>hc pins s1 σ H1 vs us Q I1 r1 q1) he hpl
theorem ZeB (hc : Zd0 X (.type T) r) (hg : Gl X x) (hm : X.mg x=none) (hv : bootBuiltins x=some (.type T)) (ha : PA X (e :: es) t) (hn : x ≠ "__name__" := by decide) (hdb : (x == ("__debug__" : Str))=false := by decide)
  (he:starEach (e :: es) X.env=(false,eval e X.env) :: starEach es X.env:=by rfl) (hpl:(backTo pos (starEach es X.env)).any (·.1)=false:=by rfl):PE X (.Call (.Name x p) (e :: es) [] pos) (tCB r t):=by
 intro pins s σ H Q I h
 refine wpAny_Call_Name_kw (ZhD I hg hm hv ?_ hn hdb)
 exact PyProof.Rows.callWith_type1 (thn (ha pos pins s σ H _ I h) fun us s1 ⟨vs,H1,I1,r1,q1⟩=>hc pins s1 σ H1 vs us Q I1 r1 q1) he hpl
end
end L2
namespace HT
open PySem PyProof.Rows
section
open PySem.SeqAt
open PySem.AutoSeq1 (wpAny_loadPart')
open PySem.MeetsSeq PySem.MeetsSeq2 PySem.MeetsSeq3
end
section
variable {prog:Program} {w:World} {A:Around} {E:Value->Shared->Prop} {s:Shared}
theorem cat_tup {t b : Addr} {vs ws : List Value} {Q : Value → Shared → Prop} (ht : IsTup s.heap t vs.toArray) (hb : IsTup s.heap b ws.toArray) (hv : vs ≠ [])
  (h1:ws=[]->Q (.ref t) s) (h2:ws≠[]->Q (.ref s.heap.objs.size) { s with heap:=s.heap.push { cls:=.type "tuple",data:=.seq (vs++ws).toArray } })
  (hsz:vs.length+ws.length≤sizeLine):wpAny (model prog w) A (binaryOp .Add (.ref t) (.ref b)) Q E s:=by
 obtain ⟨⟨cls,dd,data,sl⟩,ho,hc,n,hd⟩:=id ht
 obtain ⟨⟨cls2,dd2,data2,sl2⟩,ho2,hc2,n2,hd2⟩:=id hb
 simp only at hc hd hc2 hd2
 subst hc hd hc2 hd2
 have e:vs.toArray++ws.toArray=(vs++ws).toArray:=by simp
 by_cases hw:ws=[]
 ·exact concat_meets ⟨_,ho,rfl⟩ ⟨_,ho2,rfl⟩ noFill_tuple_add seq_tuple_add PySem.F.slot_tuple_add PySem.F.entry_tuple_add (PySem.F.args_tuple_add_2 _ _)
   (tuple_addW1 t b vs.toArray ws.toArray n n2 dd dd2 sl sl2 (by simpa using hv) (by simp [hw])) ⟨ho,ho2,h1 hw⟩
 ·refine concat_meets ⟨_,ho,rfl⟩ ⟨_,ho2,rfl⟩ noFill_tuple_add seq_tuple_add PySem.F.slot_tuple_add PySem.F.entry_tuple_add (PySem.F.args_tuple_add_2 _ _)
   (tuple_addW2 t b vs.toArray ws.toArray n n2 dd dd2 sl sl2 (by simpa using hv) (by simpa using hw) (by rw [List.size_toArray,List.size_toArray]; exact hsz)) ⟨ho,ho2,?_⟩
  rw [e]
  exact h2 hw
noncomputable def sIx (n d:Nat):Option Int->Nat
 | none=>d
 | some v=>if v<0 then (v+(n:Int)).toNat else min v.toNat n
theorem sIx_nat (n d k:Nat):sIx n d (some (k:Int))=min k n:=by
 show (if (k:Int)<0 then ((k:Int)+(n:Int)).toNat else min (k:Int).toNat n)=min k n
 rw [if_neg (by omega),Int.toNat_natCast]
theorem Zq3 (n d:Nat) (hd:d≤n) (o:Option Int):sIx n d o≤n:=by
 cases o with
 | none=>exact hd
 | some v =>
  show (if v<0 then (v+(n:Int)).toNat else min v.toNat n)≤n
  by_cases hv:v<0
  ·rw [if_pos hv]; omega
  ·rw [if_neg hv]; exact Nat.min_le_right _ _
theorem Znm (v:Int) (n d:Nat):(if v<0 then max (v+(n:Int)) 0 else min v (n:Int))=((sIx n d (some v):Nat):Int):=by
 show (if v<0 then max (v+(n:Int)) 0 else min v (n:Int))=(((if v<0 then (v+(n:Int)).toNat else min v.toNat n):Nat):Int)
 by_cases hv:v<0
 ·simp only [if_pos hv]; omega
 ·simp only [if_neg hv]; omega
theorem Zmk (lo hi:Option Int) (n:Nat):Builtin.Slice.sliceAdjust lo hi 1 (n:Int)=(((sIx n 0 lo:Nat):Int),((sIx n n hi:Nat):Int)):=by
 have h1:¬ ((1:Int)<0):=by omega
 unfold Builtin.Slice.sliceAdjust
 simp only [h1,if_false]
 refine Prod.ext ?_ ?_
 ·cases lo with
  | none=>rfl
  | some v=>exact Znm v n 0
 ·cases hi with
  | none=>rfl
  | some v=>exact Znm v n n
theorem Zmp (i j:Nat):Builtin.Slice.slicePlaces (i:Int) (j:Int) 1=j-i:=by
 unfold Builtin.Slice.slicePlaces
 have h1:(1:Int) > 0:=by omega
 simp only [h1,if_true,Int.ediv_one]
 split <;> omega
theorem Ziy {v:Value} {o:Option Int} {Q:Option Int->Shared->Prop} (p:IsPart v o) (h:Q o s):wpAny (model prog w) A (Builtin.Slice.slicePartIndex v) Q E s:=by
 cases p with
 | none=>exact slicePart_none h
 | int i t=>exact slicePart_int h
theorem ZgP {sl : Addr} {vl vu : Value} {lo hi : Option Int} {n : Nat} {Q : Int × Int × Nat → Shared → Prop} (hs : s.heap.IsSliceOf sl vl vu .none) (pl : IsPart vl lo) (pu : IsPart vu hi)
  (h:Q (((sIx n 0 lo:Nat):Int),1,sIx n n hi-sIx n 0 lo) s):wpAny (model prog w) A (Builtin.Slice.sliceApplied (.ref sl) (pure (n:Int))) Q E s:=by
 obtain ⟨os,hos,hcs,hds⟩:=id hs
 unfold Builtin.Slice.sliceApplied Builtin.Slice.sliceFields
 refine wpAny_bind (wpAny_bind (wpAny_field hos hds (x:=vl) rfl (wpAny_bind (wpAny_field hos hds (x:=vu) rfl (wpAny_bind (wpAny_field hos hds (x:=.none) rfl (wpAny_pure ?_)))))))
 refine wpAny_bind (slicePart_none ?_)
 show wpAny _ _ (if ((1:Int) == 0)=true then _ else _) _ _ s
 rw [if_neg (by decide)]
 refine wpAny_bind (Ziy pl (wpAny_bind (Ziy pu (wpAny_bind (wpAny_pure ?_)))))
 show wpAny _ _ (match Builtin.Slice.sliceAdjust lo hi 1 (n:Int) with | (lo,hi)=>pure (lo,(1:Int),Builtin.Slice.slicePlaces lo hi 1)) _ _ s
 rw [Zmk lo hi n]
 show wpAny _ _ (pure (((sIx n 0 lo:Nat):Int),(1:Int),Builtin.Slice.slicePlaces ((sIx n 0 lo:Nat):Int) ((sIx n n hi:Nat):Int) 1)) _ _ s
 rw [Zmp]
 exact wpAny_pure h
theorem Zps (xs:Array Value) (i k:Nat):((List.range k).filterMap fun (m:Nat)=>xs[((i:Int)+(m:Int)*1).toNat]?).toArray=((xs.toList.drop i).take k).toArray:=by
 have e:(fun (m:Nat)=>xs[((i:Int)+(m:Int)*1).toNat]?)=fun m=>xs[i+m]?:=by
  funext m
  have:((i:Int)+(m:Int)*1).toNat=i+m:=by omega
  rw [this]
 rw [e]
 have:=pick_run xs i k
 rw [List.filterMap_map] at this
 have e2:((fun x=>xs[x]?) ∘ fun x=>i+x)=fun m=>xs[i+m]?:=rfl
 rw [e2] at this
 rw [this]
theorem getItem_tuple_cut {t sl : Addr} {items : Array Value} {vl vu : Value} {lo hi : Option Int} {Q : Value → Shared → Prop} (ht : IsTup s.heap t items) (hs : s.heap.IsSliceOf sl vl vu .none) (pl : IsPart vl lo) (pu : IsPart vu hi)
  (hw:¬ (sIx items.size 0 lo=0∧sIx items.size items.size hi=items.size))
  (h:Q (.ref s.heap.objs.size) { s with heap:=s.heap.push { cls:=.type "tuple",data:=.seq ((items.toList.drop (sIx items.size 0 lo)).take (sIx items.size items.size hi-sIx items.size 0 lo)).toArray } })
  (hsz:items.size≤sizeLine):wpAny (model prog w) A (getItem (.ref t) (.ref sl)) Q E s:=by
 have htake:sizeOk (.seq ((items.toList.drop (sIx items.size 0 lo)).take (sIx items.size items.size hi-sIx items.size 0 lo)).toArray):=by
  show ((items.toList.drop (sIx items.size 0 lo)).take (sIx items.size items.size hi-sIx items.size 0 lo)).toArray.size≤sizeLine
  rw [List.size_toArray,List.length_take,List.length_drop,Array.length_toList]
  omega
 have hj:sIx items.size items.size hi≤items.size:=Zq3 _ _ (Nat.le_refl _) hi
 obtain ⟨os,hos,hcs,hds⟩:=id hs
 have hTs:s.TypeIs (.ref sl) "slice":=⟨os,hos,hcs⟩
 unfold getItem
 try with_reducible refine wpAny_holding ?_
 first | refine wpAny_bind (wpAny_pure ?_) | skip
 refine wpAny_bind (wpAny_sequenceKey ht.typeIs (by decide) ?_)
 refine wpAny_bind (wpAny_callSpecial?_slot (name:=Str.ofString "__getitem__") ht.typeIs PyProof.Rows.slot_tuple_getitem
  (wpAny_call_entry PyProof.Rows.slot_tuple_getitem ht.typeIs entry_tuple_getitem ?_ (args_tuple_getitem _ _)))
 show wpAny _ _ (Builtin.Tuple.tupleItemsOf (.ref t) >>= _) _ _ s
 refine wpAny_bind (tupleItemsOf_ ht ?_)
 refine wpAny_bind (wpAny_typeOf hTs ?_)
 rw [if_pos (by decide)]
 refine wpAny_bind (ZgP hs pl pu ?_)
 have hno:¬ ((((sIx items.size 0 lo:Nat):Int) == 0&&(1:Int) == 1&&(sIx items.size items.size hi-sIx items.size 0 lo) == items.size)=true):=by
  intro q
  rw [Bool.and_eq_true,Bool.and_eq_true] at q
  have q1:((sIx items.size 0 lo:Nat):Int)=0:=eq_of_beq q.1.1
  have q2:sIx items.size items.size hi-sIx items.size 0 lo=items.size:=eq_of_beq q.2
  exact hw ⟨by omega,by omega⟩
 show wpAny _ _ (if (((sIx items.size 0 lo:Nat):Int) == 0&&(1:Int) == 1&&(sIx items.size items.size hi-sIx items.size 0 lo) == items.size)=true then _ else _) _ _ s
 rw [if_neg hno,Zps]
 first
  | exact wpAny_bind (m:=Builtin.Tuple.tupleExact _) (wpAny_newObj_type (wpAny_pure ⟨_,rfl,wpAny_pure h⟩) htake)
  | exact wpAny_bind (m:=Builtin.Tuple.tupleExact _) (wpAny_newObj_type (wpAny_bind (wpAny_pure (wpAny_pure ⟨_,rfl,wpAny_pure h⟩))) htake)
  | exact wpAny_bind (wpAny_bind (m:=Builtin.Tuple.tupleExact _) (wpAny_newObj_type (wpAny_pure (wpAny_pure ⟨_,rfl,wpAny_pure h⟩)) htake))
  | exact wpAny_bind (wpAny_bind (m:=Builtin.Tuple.tupleExact _) (wpAny_newObj_type (wpAny_pure ⟨_,rfl,wpAny_pure h⟩) htake))
end
end HT
namespace L2
open PySem PySem.Spec PyProof.Rows
abbrev TO:=St->Hp->(Option Int->Hp->Prop)->Prop
def PO (X:Cx) (e:Option Expr) (t:TO):Prop :=
 ∀ (pins:List (Addr × Obj)) (s:Shared) (σ:St) (H:Hp) (Q:Option Int->Hp->Prop),Inv X pins σ H s->t σ H Q →
  wpAny (model X.prog X.w) X.A (evalPart e X.env) (fun u s'=>∃ o H',Inv X pins σ H' s'∧IsPart u o∧Q o H') X.xe s
def Zjc:TO:=fun _ H Q=>Q none H
def ZsE (t:TE):TO:=fun σ H Q=>t σ H fun x H1=>∃ i,x=.int i∧Q (some i) H1
section
variable {X:Cx} {e:Expr} {te:TE} {lo hi:Option Expr} {tl th:TO} {pos p2:Pos}
theorem Zgj:PO X none Zjc:=by
 intro pins s σ H Q I h
 rw [evalPart_none]
 exact wpAny_pure ⟨none,H,I,.none,h⟩
theorem ZeA (h:PE X e te):PO X (some e) (ZsE te):=by
 intro pins s σ H Q I hw
 rw [evalPart_some]
 refine thn (h pins s σ H _ I hw) fun u s1 ⟨x,H1,I1,r1,q1⟩=>?_
 obtain ⟨i,rfl,q⟩:=q1
 obtain ⟨t,rfl⟩:=r1
 exact ⟨some i,H1,I1,.int i t,q⟩
def SlR (X:Cx) (r:V->Option Int->Option Int->Hp->VK->Prop):Prop :=
 ∀ (pins:List (Addr × Obj)) (s:Shared) (σ:St) (H:Hp) (x:V) (v vl vu:Value) (lo hi:Option Int) (sl:Addr) (Q:VK),Inv X pins σ H s->RelV x v->s.heap.IsSliceOf sl vl vu .none->IsPart vl lo->IsPart vu hi->r x lo hi H Q →
  ∃ T id,typeLookup (.type T) "__getitem__"=pure (some (.builtin id))∧s.TypeIs v T∧wpAny (model X.prog X.w) X.A (getItem v (.ref sl)) (EP X pins σ Q) X.xe s
def tSl (r:V->Option Int->Option Int->Hp->VK->Prop) (te:TE) (tl th:TO):TE:=fun σ H Q=>te σ H fun x H1=>tl σ H1 fun l H2=>th σ H2 fun u H3=>r x l u H3 Q
theorem Zd5 {r:V->Option Int->Option Int->Hp->VK->Prop} (hr:SlR X r) (he:PE X e te) (hl:PO X lo tl) (hu:PO X hi th):PE X (.Subscript e (.Slice lo hi none p2) pos) (tSl r te tl th):=by
 intro pins s σ H Q I h
 refine Subscript_ (thn (he pins s σ H _ I h) fun v s1 ⟨x,H1,I1,r1,q1⟩=>?_)
 refine wpAny_Slice (thn (hl pins s1 σ H1 _ I1 q1) fun vl s2 ⟨l,H2,I2,pl,q2⟩=>thn (hu pins s2 σ H2 _ I2 q2) fun vu s3 ⟨u,H3,I3,pu,q3⟩=>?_)
 rw [evalPart_none]
 refine wpAny_pure ?_
 have I4:Inv X pins σ H3 { s3 with heap:=s3.heap.push { cls:=.type "slice",data:=.fields #[vl,vu,.none] } }:=I3.kept (t':=s3.toks) fun b ob q=>Heap.get?_push_of_some _ q
 obtain ⟨T,id,hT,ht,hg⟩:=hr pins { s3 with heap:=s3.heap.push { cls:=.type "slice",data:=.fields #[vl,vu,.none] } } σ H3 x v vl vu l u s3.heap.objs.size Q I4 r1 (Heap.IsSliceOf.new ..) pl pu q3
 show wpAny (model X.prog X.w) X.A (subscriptTail e (.Slice lo hi none p2) v (.ref s3.heap.objs.size)) (EP X pins σ Q) X.xe { s3 with heap:=s3.heap.push { cls:=.type "slice",data:=.fields #[vl,vu,.none] } }
 exact tail_any (ops:=[.ref s3.heap.objs.size,v]) ht hT hg (by with_unfolding_all rfl)
noncomputable def Znj (xs:List V) (lo hi:Option Int):List V:=(xs.drop (HT.sIx xs.length 0 lo)).take (HT.sIx xs.length xs.length hi-HT.sIx xs.length 0 lo)
theorem ZgZ (xs:List V) (lo hi:Option Int):(Znj xs lo hi).length≤xs.length:=by
 unfold Znj
 rw [List.length_take,List.length_drop]
 omega
def ZsV (K:W.Frag):V->Option Int->Option Int->Hp->VK->Prop:=fun x lo hi H Q=>∃ a xs,x=.ref a∧SqT K H a xs ∧
 ¬ (HT.sIx xs.length 0 lo=0∧HT.sIx xs.length xs.length hi=xs.length)∧∀ p,H p=none->Q (.ref p) (upd H p (.tup (Znj xs lo hi)))
theorem Zl2:SlR X (ZsV X.K):=by
 intro pins s σ H x v vl vu lo hi sl Q I rx hs pl pu h
 obtain ⟨a,xs,rfl,hx,hw,q⟩:=h
 cases rx
 obtain ⟨its,r,ht,hz⟩:=I.tuple hx
 have hlen:its.toArray.size=xs.length:=by rw [List.size_toArray]; exact r.length.symm
 refine ⟨"tuple",_,PyProof.Rows.slot_tuple_getitem.lookup,ht.typeIs,?_⟩
 refine HT.getItem_tuple_cut ht hs pl pu (by rw [hlen]; exact hw) ?_ (by rw [hlen]; exact hz)
 rw [hlen]
 refine ⟨.ref s.heap.objs.size,_,I.laid (t':=s.toks) (o:=.tup (Znj xs lo hi)) (fun b ob q=>Heap.get?_push_of_some _ q) (Nat.le_refl _) ?_,rfl,q _ (I.hok.fresh (Nat.le_refl _))⟩
 exact ⟨Nat.le_trans (ZgZ xs lo hi) hz,_,(r.drop (HT.sIx xs.length 0 lo)).take (HT.sIx xs.length xs.length hi-HT.sIx xs.length 0 lo),IsTup.new _ _⟩
def Zsu (K:W.Frag):R2:=fun x y H Q=>∃ a b xs ys,x=.ref a∧y=.ref b∧SqT K H a xs∧SqT K H b ys∧xs≠[]∧xs.length+ys.length≤sizeLine ∧
 (ys=[]->Q (.ref a) H)∧(ys≠[]->∀ p,H p=none->Q (.ref p) (upd H p (.tup (xs++ys))))
theorem Vals.nil_iff {xs:List V} {us:List Value} (r:Vals xs us):us=[]↔xs=[]:=by
 cases r with
 | nil=>simp
 | cons _ _=>simp
theorem Zqm:OpR X (binaryOp .Add) (Zsu X.K):=by
 intro pins s σ H x y v u Q I rx ry h
 obtain ⟨a,b,xs,ys,rfl,rfl,ha,hb,hx,hz,q1,q2⟩:=h
 cases rx
 cases ry
 obtain ⟨its,r1,p1,_⟩:=I.tuple ha
 obtain ⟨its2,r2,p2,_⟩:=I.tuple hb
 refine HT.cat_tup p1 p2 (fun z=>hx (r1.nil_iff.mp z)) (fun z=>⟨.ref a,H,I,rfl,q1 (r2.nil_iff.mp z)⟩) (fun z=>?_) (by rw [← r1.length,← r2.length]; exact hz)
 refine ⟨.ref s.heap.objs.size,_,I.laid (t':=s.toks) (o:=.tup (xs++ys)) (fun b ob q=>Heap.get?_push_of_some _ q) (Nat.le_refl _) ?_,rfl,q2 (fun w=>z (r2.nil_iff.mpr w)) _ (I.hok.fresh (Nat.le_refl _))⟩
 exact ⟨by rw [List.length_append]; exact hz,_,r1.append r2,IsTup.new _ _⟩
end
noncomputable def ixN (n:Nat) (i:Int):Option Nat:=if 0≤i then (if i<n then some i.toNat else none) else if -(n:Int)≤i then some (i+n).toNat else none
noncomputable def atI {α:Type} (xs:List α) (i:Int):Option α:=(ixN xs.length i).bind fun j=>xs[j]?
theorem Zqo {n:Nat} {i:Int} {j:Nat} (h:ixN n i=some j):seqIndex? i n=some j∧j<n∧-(n:Int)≤i∧i<n:=by
 unfold ixN at h
 by_cases h0:0≤i
 ·rw [if_pos h0] at h
  by_cases h1:i<n
  ·rw [if_pos h1] at h
   have e:i.toNat=j:=Option.some.inj h
   exact ⟨by rw [seqIndex_of h0 h1,e],by omega,by omega,h1⟩
  ·rw [if_neg h1] at h; cases h
 ·rw [if_neg h0] at h
  by_cases h1:-(n:Int)≤i
  ·rw [if_pos h1] at h
   have e:(i+n).toNat=j:=Option.some.inj h
   exact ⟨by rw [seqIndex_neg (by omega) h1,e],by omega,h1,by omega⟩
  ·rw [if_neg h1] at h; cases h
theorem Zlu {α:Type} {xs:List α} {i:Int} {v:α} (h:atI xs i=some v):∃ j,seqIndex? i xs.length=some j∧xs[j]?=some v∧j<xs.length∧-(xs.length:Int)≤i∧i<xs.length:=by
 unfold atI at h
 cases e:ixN xs.length i with
 | none=>rw [e] at h; cases h
 | some j =>
  rw [e] at h
  obtain ⟨h1,h2,h3,h4⟩:=Zqo e
  exact ⟨j,h1,h,h2,h3,h4⟩
theorem Zgk {α:Type} {xs:List α} {j:Nat} {v:α} (h:xs[j]?=some v):atI xs (j:Int)=some v:=by
 have hj:j<xs.length:=(List.getElem?_eq_some_iff.mp h).1
 have e:ixN xs.length (j:Int)=some j:=by
  unfold ixN
  rw [if_pos (by omega),if_pos (by omega)]; simp
 unfold atI; rw [e]; exact h
theorem Zo9 {α:Type} (xs:List α) (v:α):atI (xs++[v]) (-1)=some v:=by
 have hl:(xs++[v]).length=xs.length+1:=by simp
 have e:ixN (xs++[v]).length (-1)=some xs.length:=by
  unfold ixN
  rw [hl,if_neg (by decide),if_pos (by omega)]
  congr 1
  omega
 unfold atI
 rw [e]
 show (xs++[v])[xs.length]?=some v
 simp
def Zqp (b:Expr):Prop:=∀ o i,subscripted b false o i=operate [o,i] (getItem o i)
def IxR (X:Cx) (r:R2):Prop :=
 ∀ (value slice:Expr) (pins:List (Addr × Obj)) (s:Shared) (σ:St) (H:Hp) (x y:V) (v u:Value) (Q:VK),Inv X pins σ H s->RelV x v->RelV y u->r x y H Q →
  subscripted slice false v u=operate [v,u] (getItem v u)->wpAny (model X.prog X.w) X.A (subscriptTail value slice v u) (EP X pins σ Q) X.xe s
def MtR (X:Cx) (id:String) (r:V->List V->Hp->VK->Prop):Prop :=
 ∀ (pins:List (Addr × Obj)) (s:Shared) (σ:St) (H:Hp) (x:V) (xs:List V) (v:Value) (us:List Value) (Q:VK),Inv X pins σ H s->RelV x v->Vals xs us->r x xs H Q →
  wpAny (model X.prog X.w) X.A (call (.builtin id) (v :: us)) (EP X pins σ Q) X.xe s
section
variable {X:Cx} {a b:Expr} {ta tb:TE} {pos:Pos}
theorem Zar {r:R2} (hr:IxR X r) (ha:PE X a ta) (hb:PE X b tb) (hs:Zqp b):PE X (.Subscript a b pos) (tOp r ta tb):=by
 intro pins s σ H Q I h
 exact Subscript_ (ZsA ha hb I h fun v u s2 x y H2 I2 rx ry q=>hr a b pins s2 σ H2 x y v u Q I2 rx ry q (hs _ _))
def Zs4 (K:W.Frag):R2:=fun x y H Q=>∃ p xs i v,x=.ref p∧y=.int i∧SqL K H p xs∧atI xs i=some v∧Q v H
def ZsY (K:W.Frag):R2:=fun x y H Q=>∃ p xs i v,x=.ref p∧y=.int i∧SqT K H p xs∧atI xs i=some v∧Q v H
def Ztc:R2:=fun x y H Q=>∃ z i c,x=.str z∧y=.int i∧z.length≤sizeLine∧atI z.cps.toList i=some c∧Q (.str ⟨#[c]⟩) H
theorem ZaW:IxR X (Zs4 X.K):=by
 intro value slice pins s σ H x y v u Q I rx ry h hs
 obtain ⟨p,xs,i,z,rfl,rfl,hq,he,q⟩:=h
 cases rx
 obtain ⟨t,rfl⟩:=ry
 obtain ⟨its,r,pl,hz⟩:=I.list hq
 obtain ⟨j,h1,h2,h3,h4,h5⟩:=Zlu he
 obtain ⟨w,ew,rw'⟩:=r.get h2
 have hl:=r.length
 have hn:=ZkC
 have fin:EP X pins σ Q w s:=⟨z,H,I,rw',q⟩
 by_cases h0:0≤i
 ·have hj:i.toNat=j:=by
   rw [seqIndex_of h0 h5] at h1
   exact Option.some.inj h1
  exact item_listR pl.isList h0 (by omega) (by rw [hj]; simpa using ew) fin hs
 ·have hj:(i+(its.toArray.size:Int)).toNat=j:=by
   rw [seqIndex_neg (by omega) h4] at h1
   rw [List.size_toArray,← hl]
   exact Option.some.inj h1
  exact subscriptTail_builtinR (x:=w) pl.isList.typeIs slot_list_getitem.lookup
   (wpAny_getItem_list_neg (Q:=fun r s'=>r=w∧EP X pins σ Q r s') pl.isList (by omega) (by rw [List.size_toArray] <;> omega) (by omega) (by rw [hj]; simpa using ew) ⟨rfl,fin⟩) hs
theorem Zao:IxR X (ZsY X.K):=by
 intro value slice pins s σ H x y v u Q I rx ry h hs
 obtain ⟨p,xs,i,z,rfl,rfl,hq,he,q⟩:=h
 cases rx
 obtain ⟨t,rfl⟩:=ry
 obtain ⟨its,r,pl,hz⟩:=I.tuple hq
 obtain ⟨j,h1,h2,h3,h4,h5⟩:=Zlu he
 obtain ⟨w,ew,rw'⟩:=r.get h2
 have hl:=r.length
 have hn:=ZkC
 have fin:EP X pins σ Q w s:=⟨z,H,I,rw',q⟩
 exact subscriptTail_builtinR (x:=w) pl.typeIs slot_tuple_getitem.lookup
  (getItem_tuple (j:=j) (Q:=fun r s'=>r=w∧EP X pins σ Q r s') pl (by omega) (by omega) (by rw [List.size_toArray,← hl]; exact h1) (by simpa using ew) ⟨rfl,fin⟩) hs
theorem ZpJ:IxR X Ztc:=by
 intro value slice pins s σ H x y v u Q I rx ry h hs
 obtain ⟨z,i,c,rfl,rfl,hz,he,q⟩:=h
 obtain ⟨t,rfl⟩:=rx
 obtain ⟨t',rfl⟩:=ry
 obtain ⟨j,h1,h2,h3,h4,h5⟩:=Zlu he
 have hl:z.cps.toList.length=z.length:=by simp [Str.length]
 rw [hl] at h1 h4 h5
 have hn:=ZkC
 exact tail_any (typeIs_str s z t) slot_str_getitem.lookup (getItem_str (c:=c) (by
  have e1:decide (i< -(2 ^ 63:Int))=false:=decide_eq_false (by omega)
  have e2:decide (i ≥ 2 ^ 63)=false:=decide_eq_false (by omega)
  rw [e1,e2,Bool.or_false]) (by rw [h1]; simpa using h2) ⟨.str ⟨#[c]⟩,H,I.tok _,⟨_,rfl⟩,q⟩) hs
theorem Zj2 (lo hi:Option Int) (n:Nat):(sliceBounds lo hi none n).1=((HT.sIx n 0 lo:Nat):Int)∧(sliceBounds lo hi none n).2.1=((HT.sIx n n hi:Nat):Int)∧(sliceBounds lo hi none n).2.2=1:=by
 refine ⟨?_,?_,rfl⟩
 ·cases lo with
  | none=>simp [sliceBounds,HT.sIx]
  | some i =>
   simp only [sliceBounds,HT.sIx,Option.getD_none,show (1:Int) > 0 by decide,if_true]
   by_cases h:i<0
   ·simp only [h,if_true] <;> omega
   ·simp only [h,if_false] <;> omega
 ·cases hi with
  | none=>simp [sliceBounds,HT.sIx]
  | some i =>
   simp only [sliceBounds,HT.sIx,Option.getD_none,show (1:Int) > 0 by decide,if_true]
   by_cases h:i<0
   ·simp only [h,if_true] <;> omega
   ·simp only [h,if_false] <;> omega
theorem Zi9 (its:List Value) (lo hi:Option Int):slicePick its.toArray lo hi none=((its.drop (HT.sIx its.length 0 lo)).take (HT.sIx its.length its.length hi-HT.sIx its.length 0 lo)).toArray:=by
 obtain ⟨h1,h2,h3⟩:=Zj2 lo hi its.toArray.size
 unfold slicePick
 rw [h1,h2,h3]
 simp only [sliceRange_one,pick_run,List.size_toArray] <;> rfl
def Zs8 (K:W.Frag):V->Option Int->Option Int->Hp->VK->Prop:=fun x lo hi H Q=>∃ a xs,x=.ref a∧SqL K H a xs∧∀ p,H p=none->Q (.ref p) (upd H p (.lst (Znj xs lo hi)))
theorem Zqk:SlR X (Zs8 X.K):=by
 intro pins s σ H x v vl vu lo hi sl Q I rx hs pl pu h
 obtain ⟨a,xs,rfl,hx,q⟩:=h
 cases rx
 obtain ⟨its,r,ht,hz⟩:=I.list hx
 have hlen:=r.length
 refine ⟨"list",_,slot_list_getitem.lookup,ht.isList.typeIs,?_⟩
 refine wpAny_getItem_list_slice ht.isList hs pl pu .none (by simp) ?_ (by rw [List.size_toArray] <;> omega)
 rw [Zi9,← hlen]
 refine ⟨.ref s.heap.objs.size,_,I.laid (t':=s.toks) (o:=.lst (Znj xs lo hi)) (fun b ob q=>Heap.get?_push_of_some _ q) (Nat.le_refl _) ?_,rfl,q _ (I.hok.fresh (Nat.le_refl _))⟩
 exact ⟨Nat.le_trans (ZgZ xs lo hi) hz,_,0,(r.drop (HT.sIx xs.length 0 lo)).take (HT.sIx xs.length xs.length hi-HT.sIx xs.length 0 lo),Heap.get?_push_size _ rfl⟩
noncomputable def ZjD:V->Bool
 | .non=>true
 | .bl _=>true
 | .int _=>true
 | .str _=>true
 | _=>false
noncomputable def eqV:V->V->Bool
 | .non,.non=>true
 | .bl a,.bl b=>a == b
 | .bl a,.int b=>(if a then 1 else 0) == b
 | .int a,.bl b=>a == (if b then 1 else 0)
 | .int a,.int b=>a == b
 | .str a,.str b=>a == b
 | _,_=>false
theorem Zrx {A:Around} {s:Shared} {y x:V} {u v:Value} (ry:RelV y u) (rx:RelV x v) (fy:ZjD y=true) (fx:ZjD x=true):SeqAt.EqAt A s u v (eqV y x):=by
 cases y with
 | non =>
  cases ry
  cases x with
  | non=>cases rx; exact SeqAt.EqAt.same _
  | bl b=>cases rx; exact SeqAt.EqAt.none_bool b
  | int b=>obtain ⟨t,rfl⟩:=rx; exact SeqAt.EqAt.none_int b t
  | str b=>obtain ⟨t,rfl⟩:=rx; exact SeqAt.EqAt.none_str b t
  | _=>exact absurd (show false=true from fx) Bool.false_ne_true
 | bl a =>
  cases ry
  cases x with
  | non=>cases rx; exact SeqAt.EqAt.bool_none a
  | bl b=>cases rx; exact SeqAt.EqAt.bool_bool a b
  | int b=>obtain ⟨t,rfl⟩:=rx; exact SeqAt.EqAt.bool_int a b t
  | str b=>obtain ⟨t,rfl⟩:=rx; exact SeqAt.EqAt.bool_str a b t
  | _=>exact absurd (show false=true from fx) Bool.false_ne_true
 | int a =>
  obtain ⟨t',rfl⟩:=ry
  cases x with
  | non=>cases rx; exact SeqAt.EqAt.int_none a t'
  | bl b=>cases rx; exact SeqAt.EqAt.int_bool a t' b
  | int b=>obtain ⟨t,rfl⟩:=rx; exact SeqAt.EqAt.int_int a t' b t
  | str b=>obtain ⟨t,rfl⟩:=rx; exact SeqAt.EqAt.int_str a t' b t
  | _=>exact absurd (show false=true from fx) Bool.false_ne_true
 | str a =>
  obtain ⟨t',rfl⟩:=ry
  cases x with
  | non=>cases rx; exact SeqAt.EqAt.str_none a t'
  | bl b=>cases rx; exact SeqAt.EqAt.str_bool a t' b
  | int b=>obtain ⟨t,rfl⟩:=rx; exact SeqAt.EqAt.str_int a t' b t
  | str b=>obtain ⟨t,rfl⟩:=rx; exact SeqAt.EqAt.str_str a t' b t
  | _=>exact absurd (show false=true from fx) Bool.false_ne_true
 | _=>exact absurd (show false=true from fy) Bool.false_ne_true
noncomputable def eqU (x:V) (u:Value):Bool:=match u with
 | .none=>eqV .non x
 | .bool b=>eqV (.bl b) x
 | .int i _=>eqV (.int i) x
 | .str z _=>eqV (.str z) x
 | _=>false
theorem ZpU {x y:V} {u:Value} (r:RelV y u) (f:ZjD y=true):eqU x u=eqV y x:=by
 cases y with
 | non=>cases r; rfl
 | bl b=>cases r; rfl
 | int i=>obtain ⟨t,rfl⟩:=r; rfl
 | str z=>obtain ⟨t,rfl⟩:=r; rfl
 | _=>exact absurd (show false=true from f) Bool.false_ne_true
theorem ZhJ {x:V}:∀ {xs:List V} {us:List Value},Vals xs us->xs.all ZjD=true->us.any (eqU x)=xs.any fun y=>eqV y x
 | _,_,.nil,_=>rfl
 | y :: xs,u :: us,.cons r t,f=>by
  rw [List.all_cons,Bool.and_eq_true] at f
  rw [List.any_cons,List.any_cons,ZpU r f.1,ZhJ t f.2]
theorem ZfA {A:Around} {s:Shared} {x:V} {v:Value} (rx:RelV x v) (fx:ZjD x=true):∀ {xs:List V} {us:List Value},Vals xs us->xs.all ZjD=true->∀ u∈us,SeqAt.EqAt A s u v (eqU x u)
 | _,_,.nil,_=>fun u hu=>by cases hu
 | y :: xs,u :: us,.cons r t,f=>fun u' hu=>by
  rw [List.all_cons,Bool.and_eq_true] at f
  rcases List.mem_cons.mp hu with rfl | hu
  ·rw [ZpU r f.1]; exact Zrx r rx f.1 fx
  ·exact ZfA rx fx t f.2 u' hu
noncomputable def inV (x:V) (xs:List V):Bool:=xs.any fun y=>eqV y x
def rIn (K:W.Frag) (neg:Bool):R2:=fun x y H Q=>∃ p xs,y=.ref p∧(SqL K H p xs∨SqT K H p xs)∧ZjD x=true∧xs.all ZjD=true∧Q (.bl (if neg then !inV x xs else inV x xs)) H
theorem Zeb:OpR X (compareOp .In) (rIn X.K false):=by
 intro pins s σ H x y v u Q I rx ry h
 obtain ⟨p,xs,rfl,hq,fx,fs,q⟩:=h
 cases ry
 rcases hq with hq | hq
 ·obtain ⟨its,r,pl,hz⟩:=I.list hq
  refine SeqAt.in_listAt (eqU x) pl.isList (fun w hw=>ZfA rx fx r fs w (by simpa using hw)) ⟨.bl _,H,I,rfl,?_⟩
  rw [show its.toArray.any (eqU x)=its.any (eqU x) by simp,ZhJ r fs]
  exact q
 ·obtain ⟨its,r,pl,hz⟩:=I.tuple hq
  refine SeqAt.in_tupleAt (eqU x) pl (fun w hw=>ZfA rx fx r fs w (by simpa using hw)) ⟨.bl _,H,I,rfl,?_⟩
  rw [show its.toArray.any (eqU x)=its.any (eqU x) by simp,ZhJ r fs]
  exact q
theorem Zgu:OpR X (compareOp .NotIn) (rIn X.K true):=by
 intro pins s σ H x y v u Q I rx ry h
 obtain ⟨p,xs,rfl,hq,fx,fs,q⟩:=h
 cases ry
 rcases hq with hq | hq
 ·obtain ⟨its,r,pl,hz⟩:=I.list hq
  refine SeqAt.notIn_listAt (eqU x) pl.isList (fun w hw=>ZfA rx fx r fs w (by simpa using hw)) ⟨.bl _,H,I,rfl,?_⟩
  rw [show its.toArray.any (eqU x)=its.any (eqU x) by simp,ZhJ r fs]
  exact q
 ·obtain ⟨its,r,pl,hz⟩:=I.tuple hq
  refine SeqAt.notIn_tupleAt (eqU x) pl (fun w hw=>ZfA rx fx r fs w (by simpa using hw)) ⟨.bl _,H,I,rfl,?_⟩
  rw [show its.toArray.any (eqU x)=its.any (eqU x) by simp,ZhJ r fs]
  exact q
theorem ZaN:Zd0 X (.builtin "len") (fun xs H Q=>∃ p ys,xs=[.ref p]∧(SqL X.K H p ys∨SqT X.K H p ys)∧Q (.int ys.length) H):=by
 intro pins s σ H xs us Q I r h
 obtain ⟨p,ys,rfl,hq,q⟩:=h
 obtain ⟨u,rfl,rx⟩:=Zfb r
 cases rx
 have hn:=ZkC
 rcases hq with hq | hq
 ·obtain ⟨its,r',pl,hz⟩:=I.list hq
  have hlen:=r'.length
  exact Calls.call_len_list pl.isList (by simp only [List.size_toArray] <;> omega) ⟨.int ys.length,H,I.tok _,⟨s.toks+1,by rw [List.size_toArray,hlen]⟩,q⟩
 ·obtain ⟨its,r',pl,hz⟩:=I.tuple hq
  have hlen:=r'.length
  exact len_tuple pl (by simp only [List.size_toArray] <;> omega) ⟨.int ys.length,H,I.tok _,⟨s.toks+1,by rw [List.size_toArray,hlen]⟩,q⟩
theorem ZgC:Zd0 X (.builtin "len") (fun xs H Q=>∃ z,xs=[.str z]∧z.length≤sizeLine∧Q (.int z.length) H):=by
 intro pins s σ H xs us Q I r h
 obtain ⟨z,rfl,hz,q⟩:=h
 obtain ⟨u,rfl,t,rfl⟩:=Zfb r
 have hn:=ZkC
 exact len_str (by omega) ⟨.int z.length,H,I.tok _,⟨_,rfl⟩,q⟩
theorem Zde:Zd0 X (.type "list") (fun xs H Q=>∃ p ys,xs=[.ref p]∧(SqL X.K H p ys∨SqT X.K H p ys)∧∀ l,H l=none->Q (.ref l) (upd H l (.lst ys))):=by
 intro pins s σ H xs us Q I r h
 obtain ⟨p,ys,rfl,hq,q⟩:=h
 obtain ⟨u,rfl,rx⟩:=Zfb r
 cases rx
 have fin : ∀ (its : List Value), Vals ys its → ys.length ≤ sizeLine → ∀ (h' : Heap) (c' : Nat), (∀ b o', s.heap.get? b=some o' → h'.get? b=some o') →
   h'.get? s.heap.objs.size=some { cls:=.type "list",dict:=none,data:=.seq its.toArray c',slots:=#[] }->EP X pins σ Q (.ref s.heap.objs.size) { s with heap:=h' }:=fun its r' hz h' c' kp e =>
  ⟨.ref s.heap.objs.size,_,I.laid (t':=s.toks) kp (Nat.le_refl _) (show ObjOk X.prog X.w _ h' _ (.lst ys) from ⟨hz,its,c',r',e⟩),rfl,q _ (I.hok.fresh (Nat.le_refl _))⟩
 rcases hq with hq | hq
 ·obtain ⟨its,r',pl,hz⟩:=I.list hq
  have hlen:=r'.length
  obtain ⟨o,ho,hc,n,hd⟩:=pl.isList
  exact call_list_seq p (.inl rfl) ho hc hd (fun h' c' kp e=>fin its r' hz h' c' kp e) (by simp only [List.size_toArray] <;> omega)
 ·obtain ⟨its,r',pl,hz⟩:=I.tuple hq
  have hlen:=r'.length
  obtain ⟨o,ho,hc,n,hd⟩:=pl
  exact call_list_seq p (.inr rfl) ho hc hd (fun h' c' kp e=>fin its r' hz h' c' kp e) (by simp only [List.size_toArray] <;> omega)
def tyV (K:W.Frag) (T:String) (x:V) (H:Hp):Prop:=match x with
 | .str _=>T="str"
 | .int _=>T="int"
 | .ref p => (T="list" ∧ ∃ xs, SqL K H p xs) ∨ (T="tuple" ∧ ∃ o, K.lookup p=some o ∧ o.cls=.type "tuple" ∧ o.dict=none) ∨
   (T="dict"∧((∃ kvs,H p=some (.dK kvs))∨∃ kvs,H p=some (.dT kvs)))∨(T="set"∧∃ S n,H p=some (.set S n))
 | _=>False
theorem ZpS {pins : List (Addr × Obj)} {σ : St} {H : Hp} {s : Shared} {T : String} {x : V} {v : Value} (I : Inv X pins σ H s) (r : RelV x v) (ty : tyV X.K T x H) :
  s.TypeIs v T∧∀ a,v=.ref a->∃ ob,s.heap.get? a=some ob∧ob.dict=none:=by
 cases x with
 | str z =>
  obtain ⟨t,rfl⟩:=r
  cases (show T="str" from ty)
  exact ⟨typeIs_str s z t,fun _ e=>nomatch e⟩
 | int i =>
  obtain ⟨t,rfl⟩:=r
  cases (show T="int" from ty)
  exact ⟨typeIs_int s i t,fun _ e=>nomatch e⟩
 | ref p =>
  cases r
  rcases ty with ⟨rfl,xs,hq⟩ | ⟨rfl,o,hk,hc,hd⟩ | ⟨rfl,hk⟩ | ⟨rfl,S,n,hk⟩
  ·obtain ⟨its,_,pl,_⟩:=I.list hq
   refine ⟨pl.isList.typeIs,fun a e=>?_⟩
   cases e
   obtain ⟨o,n,e,c,hd,_⟩:=pl
   exact ⟨o,e,hd⟩
  ·refine ⟨⟨o,I.kIn p o hk,hc⟩,fun a e=>?_⟩
   cases e
   exact ⟨o,I.kIn _ o hk,hd⟩
  ·have z:∃ o,s.heap.get? p=some o∧o.ExactDict:=by
    rcases hk with ⟨kvs,hk⟩ | ⟨kvs,hk⟩
    ·obtain ⟨_,_,_,_,o,_,_,e,ex,_⟩:=I.hok p _ hk
     exact ⟨o,e,ex⟩
    ·obtain ⟨_,_,_,_,o,_,_,e,ex,_⟩:=I.hok p _ hk
     exact ⟨o,e,ex⟩
   obtain ⟨o,e,ex⟩:=z
   refine ⟨⟨o,e,ex.1⟩,fun a e2=>?_⟩
   cases e2
   exact ⟨o,e,ex.2.1⟩
  ·obtain ⟨o,_,_,_,e,ex,_⟩:=I.hok p _ hk
   refine ⟨⟨o,e,ex.1⟩,fun a e2=>?_⟩
   cases e2
   exact ⟨o,e,ex.2.1⟩
 | _=>exact False.elim ty
def ZsP (K:W.Frag) (T:String) (r:V->List V->Hp->VK->Prop) (to:TE):TE:=fun σ H Q=>to σ H fun x H1=>tyV K T x H1∧r x [] H1 Q
def tBM (K:W.Frag) (T:String) (r:V->List V->Hp->VK->Prop) (to:TE) (t:TA):TE:=fun σ H Q=>to σ H fun x H1=>tyV K T x H1∧t σ H1 fun xs H2=>r x xs H2 Q
variable {o e:Expr} {es:List Expr} {to:TE} {t:TA} {name:Str} {apos cpos:Pos} {T id:String} {r:V->List V->Hp->VK->Prop}
theorem ZrA (pa : PlainAttrs T) (slot : Slot T name id) (hty : typeOf (.builtin id)=pure (.type "method_descriptor")) (hm : MtR X id r) (ho : PE X o to)
  (hbase:attributeBase o name X.env (eval o X.env)=eval o X.env:=by rfl) (hline:(apos.endLine == cpos.line)=true:=by rfl):PE X (.Call (.Attribute o name apos) [] [] cpos) (ZsP X.K T r to):=by
 intro pins s σ H Q I h
 refine wpAny_Call_method0_late hbase hline (thn (ho pins s σ H _ I h) fun v s1 ⟨x,H1,I1,r1,ty,q1⟩=>?_)
 obtain ⟨h1,h2⟩:=ZpS I1 r1 ty
 exact ⟨T,id,pa,slot,hty,h1,h2,Calls.callWith_builtin rfl (PySem.evalArgs_none (hm pins s1 σ H1 x [] v [] Q I1 r1 .nil q1))⟩
theorem Zll (pa : PlainAttrs T) (slot : Slot T name id) (hty : typeOf (.builtin id)=pure (.type "method_descriptor")) (hm : MtR X id r) (ho : PE X o to) (ha : PA X (e :: es) t)
  (hbase:attributeBase o name X.env (eval o X.env)=eval o X.env:=by rfl)
  (hfew:((backTo cpos (starEach (e :: es) X.env)).all (fun x=>!x.1)&&(backToKw cpos (keywordEach [] X.env)).all (fun x=>x.1.isSome)
   && decide ((e :: es).length+([]:List Keyword).length+(if ([]:List Keyword).isEmpty then 0 else 1)<30))=true:=by rfl)
  (hline:(apos.endLine == cpos.line)=true:=by rfl) (hs:starEach (e :: es) X.env=(false,eval e X.env) :: starEach es X.env:=by rfl) (hplain:(backTo cpos (starEach es X.env)).any (·.1)=false:=by rfl) :
  PE X (.Call (.Attribute o name apos) (e :: es) [] cpos) (tBM X.K T r to t):=by
 intro pins s σ H Q I h
 refine wpAny_Call_method_late hbase hfew hline rfl (thn (ho pins s σ H _ I h) fun v s1 ⟨x,H1,I1,r1,ty,q1⟩=>?_)
 obtain ⟨h1,h2⟩:=ZpS I1 r1 ty
 refine ⟨T,id,pa,slot,hty,h1,h2,?_⟩
 have hA:=ha cpos pins s1 σ H1 _ I1 q1
 rw [hs] at hA ⊢
 refine Calls.callWith_builtin (by show (false||(backTo cpos (starEach es X.env)).any (·.1))=false; rw [hplain] <;> rfl) (Calls.evalArgs_plain ?_)
 exact thn hA fun us s2 ⟨vs,H2,I2,r2,q2⟩=>hm pins s2 σ H2 x vs v us Q I2 r1 r2 q2
/- xs.append(e),list.index on a module's tuple .. are MtR facts of 06m -/
end
def MtM (X:Cx) (id:String) (r:V->List V->Hp->VK->Prop):Prop :=
 ∀ (pins:List (Addr × Obj)) (s:Shared) (σ:St) (H:Hp) (x:V) (xs:List V) (v:Value) (us:List Value) (Q:VK),Inv X pins σ H s->RelV x v->Vals xs us->r x xs H Q →
  wpAny (model X.prog X.w) X.A (call (.builtin id) (v :: us)) (EP X pins σ Q) X.xe s
theorem Vals.one:∀ {x:V} {us:List Value},Vals [x] us->∃ u,us=[u]∧RelV x u
 | _,_,.cons r .nil=>⟨_,rfl,r⟩
theorem Vals.reverse {xs:List V} {us:List Value} (h:Vals xs us):Vals xs.reverse us.reverse:=by
 induction h with
 | nil=>exact .nil
 | cons r t ih=>rw [List.reverse_cons,List.reverse_cons]; exact Vals.append ih (.cons r .nil)
section
variable {X:Cx} {pins:List (Addr × Obj)} {σ:St} {H:Hp} {s:Shared} {l b:Addr} {xs ys zs:List V}
theorem Inv.lset {its its' : List Value} {n : Nat} {f : Array Value → Array Value} {t' : Nat} (I : Inv X pins σ H s) (hH : H l=some (.lst xs))
  (e:s.heap.get? l=some { cls:=.type "list",data:=.seq its.toArray n }) (hf:f its.toArray=its'.toArray) (hv:Vals ys its') (hz:ys.length≤sizeLine) :
  Inv X pins σ (upd H l (.lst ys)) { s with heap:=s.heap.update l (Obj.mapSeq f),toks:=t' }:=by
 have q:=PySem.IsL.update e f
 rw [hf] at q
 refine I.write (x:=l) (e:=l) (by rw [hH]; exact trivial) (.inl rfl) (fun b' u hb hu=>(Heap.get?_update_other s.heap (Obj.mapSeq f) (Ne.symm hb)).trans hu) ⟨_,q⟩ ?_
 exact ⟨hz,its',_,hv,q⟩
theorem Inv.lnew {its : List Value} {t' : Nat} (I : Inv X pins σ H s) (hv : Vals ys its) (hz : ys.length ≤ sizeLine) :
  Inv X pins σ (upd H s.heap.objs.size (.lst ys)) { s with heap:=s.heap.push { cls:=.type "list",data:=.seq its.toArray },toks:=t' } :=
 I.laid (fun _ _ q=>Heap.get?_push_of_some _ q) (Nat.le_refl _) ⟨hz,its,0,hv,Heap.get?_push_size _ rfl⟩
theorem Inv.fresh (I:Inv X pins σ H s):H s.heap.objs.size=none:=I.hok.fresh (Nat.le_refl _)
theorem Inv.lstM (I:Inv X pins σ H s) (hH:H l=some (.lst xs)):xs.length≤sizeLine∧∃ (its:List Value) (n:Nat),Vals xs its∧xs.length=its.length∧s.heap.get? l=some { cls:=.type "list",data:=.seq its.toArray n }:=by
 obtain ⟨z,its,n,r,e⟩:=I.hok l _ hH
 exact ⟨z,its,n,r,r.length,e⟩
end
section
variable {X:Cx}
def Zqs:V->List V->Hp->VK->Prop:=fun x vs H Q=>∃ l xs y,x=.ref l∧vs=[y]∧H l=some (.lst xs)∧xs.length<sizeLine∧Q .non (upd H l (.lst (xs++[y])))
theorem ZcV:MtM X "list.append" Zqs:=by
 intro pins s σ H x vs v us Q I rx rv h
 obtain ⟨l,xs,y,rfl,rfl,hH,hz,q⟩:=h
 cases rx
 obtain ⟨u,rfl,ru⟩:=rv.one
 obtain ⟨z,its,n,r,hl,e⟩:=I.lstM hH
 refine call_meets F.slot_list_append ⟨_,e,rfl⟩ F.entry_list_append (F.args_list_append_2 _ _) (PySem.list_append l its.toArray n u (by rw [List.size_toArray]; omega)) ⟨e,?_⟩
 refine ⟨.non,_,I.lset (its':=its++[u]) hH e (by simp) (r.append (.cons ru .nil)) ?_,rfl,q⟩
 rw [List.length_append,List.length_singleton]
 omega
def Zta:R2:=fun x y H Q=>∃ l b xs zs,x=.ref l∧y=.ref b∧H l=some (.lst xs)∧H b=some (.lst zs)∧xs.length+zs.length≤sizeLine∧∀ p,H p=none->Q (.ref p) (upd H p (.lst (xs++zs)))
theorem Zio:OpR X (binaryOp .Add) Zta:=by
 intro pins s σ H x y v u Q I rx ry h
 obtain ⟨l,b,xs,zs,rfl,rfl,hH,hB,hz,q⟩:=h
 cases rx
 cases ry
 obtain ⟨z,its,n,r,hl,e⟩:=I.lstM hH
 obtain ⟨z2,its2,n2,r2,hl2,e2⟩:=I.lstM hB
 refine PySem.P.add_list e e2 ?_ (by rw [List.size_toArray,List.size_toArray]; omega)
 have ea:its.toArray++its2.toArray=(its++its2).toArray:=by simp
 rw [ea]
 exact ⟨.ref _,_,I.lnew (t':=s.toks) (r.append r2) (by rw [List.length_append]; omega),rfl,q _ I.fresh⟩
end
section
variable {prog:Program} {w:World} {A:Around} {E:Value->Shared->Prop} {s:Shared}
set_option maxRecDepth 100000 in
end
section
variable {X:Cx}
end
section
variable {κ:Type} [DecidableEq κ]
noncomputable def Zdv (kvs:List (κ × V)) (k:κ):Option V:=(kvs.find? fun kv=>decide (kv.1=k)).map (·.2)
noncomputable def ZjG (kvs:List (κ × V)) (k:κ) (v:V):List (κ × V) :=
 if (kvs.any fun kv=>decide (kv.1=k))=true then kvs.map (fun kv=>if kv.1=k then (kv.1,v) else kv) else kvs++[(k,v)]
theorem Zcc {p:κ × V} {r:List (κ × V)} {k:κ} (e:p.1=k):Zdv (p :: r) k=some p.2:=by simp [Zdv,List.find?_cons,e]
theorem Zbr {p:κ × V} {r:List (κ × V)} {k:κ} (e:¬ p.1=k):Zdv (p :: r) k=Zdv r k:=by simp [Zdv,List.find?_cons,e]
theorem Zjw (k:κ):∀ kvs:List (κ × V),(kvs.any fun kv=>decide (kv.1=k))=(Zdv kvs k).isSome
 | []=>rfl
 | p :: r=>by
  rw [List.any_cons]
  by_cases e:p.1=k
  ·simp only [Zcc e,decide_eq_true e,Bool.true_or,Option.isSome_some]
  ·rw [Zbr e,decide_eq_false e,Bool.false_or]; exact Zjw k r
theorem Zhf (kvs:List (κ × V)) (k:κ) (v:V):(ZjG kvs k v).length≤kvs.length+1:=by
 unfold ZjG
 split
 ·rw [List.length_map]; omega
 ·rw [List.length_append,List.length_cons,List.length_nil]; omega
theorem Zjp {kvs:List (κ × V)} {k:κ} (v:V) (h:Zdv kvs k=none):ZjG kvs k v=kvs++[(k,v)]:=by
 unfold ZjG
 rw [Zjw,h]
 exact if_neg (by decide)
theorem RelO.isSome_eq {o:Option V} {u:Option Value} (r:RelO o u):o.isSome=u.isSome:=by
 cases o with
 | none=>cases u with
  | none=>rfl
  | some _=>exact (show False from r).elim
 | some _=>cases u with
  | none=>exact (show False from r).elim
  | some _=>rfl
theorem RelO.getD {o:Option V} {u:Option Value} {d:V} {d':Value} (r:RelO o u) (rd:RelV d d'):RelV (o.getD d) (u.getD d'):=by
 cases o with
 | none=>cases u with
  | none=>exact rd
  | some _=>exact (show False from r).elim
 | some _=>cases u with
  | none=>exact (show False from r).elim
  | some _=>exact r
theorem KV.val {kvs:List (κ × V)} {vs:List (κ × Value)} (r:KV kvs vs) (k:κ):RelO (Zdv kvs k) (valueAt vs k):=by
 unfold KV at r
 induction r with
 | nil=>exact True.intro
 | @cons p q ps qs h t ih =>
  obtain ⟨h1,h2⟩:=h
  by_cases e:p.1=k
  ·have e':q.1=k:=h1.symm.trans e
   have b:valueAt (q :: qs) k=some q.2:=by simp [valueAt,List.find?_cons,e']
   rw [Zcc e,b]; exact h2
  ·have e':¬ q.1=k:=fun z=>e (h1.trans z)
   have b:valueAt (q :: qs) k=valueAt qs k:=by simp [valueAt,List.find?_cons,e']
   rw [Zbr e,b]; exact ih
theorem KV.any {kvs:List (κ × V)} {vs:List (κ × Value)} (r:KV kvs vs) (k:κ):(kvs.any fun kv=>decide (kv.1=k))=vs.any fun kv=>decide (kv.1=k):=by
 unfold KV at r
 induction r with
 | nil=>rfl
 | cons h t ih=>rw [List.any_cons,List.any_cons,ih,h.1]
theorem KV.repl {kvs : List (κ × V)} {vs : List (κ × Value)} (r : KV kvs vs) (k : κ) {y : V} {u : Value} (ry : RelV y u) :
  KV (kvs.map fun kv=>if kv.1=k then (kv.1,y) else kv) (vs.map fun kv=>if kv.1=k then (kv.1,u) else kv):=by
 unfold KV at r ⊢
 induction r with
 | nil=>exact .nil
 | @cons p q ps qs h t ih =>
  rw [List.map_cons,List.map_cons]
  refine .cons ?_ ih
  obtain ⟨h1,h2⟩:=h
  by_cases e:p.1=k
  ·rw [if_pos e,if_pos (h1.symm.trans e)]; exact ⟨h1,ry⟩
  ·rw [if_neg e,if_neg (fun z=>e (h1.trans z))]; exact ⟨h1,h2⟩
theorem KV.put {kvs:List (κ × V)} {vs:List (κ × Value)} (r:KV kvs vs) (k:κ) {y:V} {u:Value} (ry:RelV y u):KV (ZjG kvs k y) (stored vs k u):=by
 unfold ZjG stored
 rw [r.any k]
 by_cases e:(vs.any fun kv=>decide (kv.1=k))=true
 ·rw [if_pos e,if_pos e]; exact r.repl k ry
 ·rw [if_neg e,if_neg e]; exact Paired.snoc r ⟨rfl,ry⟩
theorem KV.length {kvs:List (κ × V)} {vs:List (κ × Value)} (r:KV kvs vs):kvs.length=vs.length:=Paired.length r
end
theorem Zls {P:Program} {w:World} {k:Key} {u:Value} (r:RelV (kV k) u):(Zbd P w).is k u=true:=by
 cases k with
 | inl i=>obtain ⟨t,e⟩:=(show ∃ t,u=Value.int i t from r); subst e; exact Zk4 P w i t
 | inr x=>obtain ⟨t,e⟩:=(show ∃ t,u=Value.str x t from r); subst e; exact Zlp P w x t
theorem ZkM {P:Program} {w:World}:∀ {ks:List Key} {us:List Value},Vals (ks.map kV) us->ItemsAre (Zbd P w) ks us
 | [],_,r=>by rw [List.map_nil] at r; cases r; exact .nil
 | k :: ks,_,r=>by
  rw [List.map_cons] at r
  cases r with
  | cons h t=>exact .cons (Zls h) (ZkM t)
abbrev KT (H:Hp):List (List Key × V)->List (List Key × Addr × Value)->Prop:=Paired fun p q=>p.1=q.1∧H q.2.1=some (.tup (p.1.map kV))∧RelV p.2 q.2.2
theorem KT.val {H:Hp} {kvs:List (List Key × V)} {xs:List (List Key × Addr × Value)} (r:KT H kvs xs) (k:List Key):RelO (Zdv kvs k) ((atKey xs k).map (·.2)):=by
 induction r with
 | nil=>exact True.intro
 | @cons p q ps qs h t ih =>
  obtain ⟨h1,_,h2⟩:=h
  by_cases e:p.1=k
  ·have e':q.1=k:=h1.symm.trans e
   have b:atKey (q :: qs) k=some q.2:=by simp [atKey,List.find?_cons,e']
   rw [Zcc e,b]; exact h2
  ·have e':¬ q.1=k:=fun z=>e (h1.trans z)
   have b:atKey (q :: qs) k=atKey qs k:=by simp [atKey,List.find?_cons,e']
   rw [Zbr e,b]; exact ih
theorem KT.repl {H : Hp} {kvs : List (List Key × V)} {xs : List (List Key × Addr × Value)} (r : KT H kvs xs) (k : List Key) {y : V} {u : Value} (ry : RelV y u) :
  KT H (kvs.map fun kv=>if kv.1=k then (kv.1,y) else kv) (xs.map (putAt k u)):=by
 induction r with
 | nil=>exact .nil
 | @cons p q ps qs h t ih =>
  rw [List.map_cons,List.map_cons]
  refine .cons ?_ ih
  obtain ⟨h1,h2,h3⟩:=h
  unfold putAt
  by_cases e:p.1=k
  ·rw [if_pos e,if_pos (h1.symm.trans e)]; exact ⟨h1,h2,ry⟩
  ·rw [if_neg e,if_neg (fun z=>e (h1.trans z))]; exact ⟨h1,h2,h3⟩
theorem KT.put {H : Hp} {kvs : List (List Key × V)} {xs : List (List Key × Addr × Value)} (r : KT H kvs xs) (k : List Key) {b : Addr} {y : V} {u : Value} (hb : H b=some (.tup (k.map kV))) (ry : RelV y u) :
  KT H (ZjG kvs k y) (storedH xs k b u):=by
 have e:(kvs.any fun kv=>decide (kv.1=k))=(atKey xs k).isSome:=by
  rw [Zjw,(r.val k).isSome_eq,Option.isSome_map]
 unfold ZjG storedH
 rw [e]
 by_cases q:(atKey xs k).isSome=true
 ·rw [if_pos q,if_pos q]; exact r.repl k ry
 ·rw [if_neg q,if_neg q]; exact Paired.snoc r ⟨rfl,hb,ry⟩
theorem KT.keeps {H H':Hp} {kvs:List (List Key × V)} {xs:List (List Key × Addr × Value)} (r:KT H kvs xs) (ht:∀ b ys,H b=some (.tup ys)->H' b=some (.tup ys)):KT H' kvs xs :=
 Paired.mapP r fun _ _ z=>⟨z.1,ht _ _ z.2.1,z.2.2⟩
section
variable {P:Program} {w:World} {H:Hp} {h:Heap} {a:Addr}
theorem ZrJ {u:HO} (ok:HOk P w H h) (e:Rd H a u):ObjOk P w H h a u:=e.ok ok
theorem Zkt {kvs:List (Key × V)} (ok:HOk P w H h) (e:Rd H a (.dK kvs)):kvs.length≤sizeLine∧(a == sysModules)=false∧∃ vs,KV kvs vs∧h.DictOf (Zbd P w) a vs :=
 show ObjOk P w H h a (.dK kvs) from ZrJ ok e
theorem Zp7 {kvs:List (Key × V)} (ok:HOk P w H h) (e:H a=some (.dK kvs)):kvs.length≤sizeLine∧(a == sysModules)=false∧∃ vs,KV kvs vs∧h.DictOf (Zbd P w) a vs:=Zkt ok (.inl e)
theorem Zhp {ks:List Key} (ok:HOk P w H h) (e:H a=some (.tup (ks.map kV))):(tupleKind (Zbd P w)).is h ks a:=by
 obtain ⟨_,its,r,o,h1,h2,n,h3⟩:=(show ObjOk P w H h a (.tup (ks.map kV)) from ok a _ e)
 exact ⟨o,its.toArray,n,h1,h2,h3,by simpa using ZkM r⟩
theorem ZjP {kvs : List (List Key × V)} (ok : HOk P w H h) (e : Rd H a (.dT kvs)) : kvs.length ≤ sizeLine ∧ (a == sysModules)=false ∧
  ∃ xs,KT H kvs xs∧h.DictOfH (tupleKind (Zbd P w)) a xs:=by
 obtain ⟨z,y,xs,r,o,es,ep,h1,h2,h3,h4,h5⟩:=(show ObjOk P w H h a (.dT kvs) from ZrJ ok e)
 refine ⟨z,y,xs,r,o,es,ep,h1,h2,h3,h4,fun x hx=>?_,h5⟩
 have all:∀ {l:List (List Key × V)} {m:List (List Key × Addr × Value)},KT H l m->∀ x∈m,(tupleKind (Zbd P w)).is h x.1 x.2.1:=by
  intro l m q
  induction q with
  | nil=>intro x hx; exact nomatch hx
  | @cons p q ps qs hq t ih =>
   intro x hx
   rcases List.mem_cons.mp hx with e | hx
   ·subst e
    exact Zhp ok (by rw [← hq.1]; exact hq.2.1)
   ·exact ih x hx
 exact all r x hx
theorem Zm2 {kvs : List (List Key × V)} (ok : HOk P w H h) (e : H a=some (.dT kvs)) : kvs.length ≤ sizeLine ∧ (a == sysModules)=false ∧
  ∃ xs,KT H kvs xs∧h.DictOfH (tupleKind (Zbd P w)) a xs:=ZjP ok (.inl e)
end
def DGet (H:Hp) (a:Addr) (y:V) (r:Option V):Prop :=
 (∃ kvs k,Rd H a (.dK kvs)∧y=kV k∧r=Zdv kvs k)∨∃ kvs k b,Rd H a (.dT kvs)∧y=.ref b∧H b=some (.tup (k.map kV))∧r=Zdv kvs k
def DPut (H:Hp) (a:Addr) (y v:V) (H':Hp):Prop :=
 (∃ kvs k,H a=some (.dK kvs)∧y=kV k∧kvs.length<sizeLine∧H'=upd H a (.dK (ZjG kvs k v))) ∨
 ∃ kvs k b,H a=some (.dT kvs)∧y=.ref b∧H b=some (.tup (k.map kV))∧kvs.length<sizeLine∧H'=upd H a (.dT (ZjG kvs k v))
theorem DGet.k {H:Hp} {a:Addr} {kvs:List (Key × V)} {k:Key} (e:H a=some (.dK kvs)):DGet H a (kV k) (Zdv kvs k):=.inl ⟨kvs,k,.inl e,rfl,rfl⟩
theorem DGet.t {H:Hp} {a b:Addr} {kvs:List (List Key × V)} {k:List Key} (e:H a=some (.dT kvs)) (eb:H b=some (.tup (k.map kV))):DGet H a (.ref b) (Zdv kvs k):=.inr ⟨kvs,k,b,.inl e,rfl,eb,rfl⟩
theorem DPut.k {H:Hp} {a:Addr} {kvs:List (Key × V)} {k:Key} {v:V} (e:H a=some (.dK kvs)) (hl:kvs.length<sizeLine):DPut H a (kV k) v (upd H a (.dK (ZjG kvs k v))):=.inl ⟨kvs,k,e,rfl,hl,rfl⟩
theorem DPut.t {H : Hp} {a b : Addr} {kvs : List (List Key × V)} {k : List Key} {v : V} (e : H a=some (.dT kvs)) (eb : H b=some (.tup (k.map kV))) (hl : kvs.length<sizeLine) :
  DPut H a (.ref b) v (upd H a (.dT (ZjG kvs k v))):=.inr ⟨kvs,k,b,e,rfl,eb,hl,rfl⟩
section
variable {X:Cx} {pins:List (Addr × Obj)} {σ:St} {H:Hp} {s:Shared} {a:Addr} {y v:V} {u r:Value} {o:Option V} {A:Around} {E:Value->Shared->Prop}
theorem Inv.big (I:Inv X pins σ H s):sysModules<s.heap.objs.size:=by
 have h:mainGlobals<s.heap.objs.size:=(I.mod.glob.keeps I.bk).lt
 exact Nat.lt_trans (by decide) h
theorem Zn2 {Q : Value → Shared → Prop} (hu : A.units + 1<cLine) (I : Inv X pins σ H s) (g : DGet H a y (some v)) (ry : RelV y u) (h : ∀ w' s', Inv X pins σ H s' → RelV v w' → Q w' s') :
  wpAny (model X.prog X.w) A (getItem (.ref a) u) Q E s:=by
 rcases g with ⟨kvs,k,e,ey,l⟩ | ⟨kvs,k,b,e,ey,eb,l⟩
 ·subst ey
  obtain ⟨z,hd,vs,rel,dd⟩:=Zkt I.hok e
  obtain ⟨w',hw,rw'⟩:=RelO.some_of (v:=v) (o:=valueAt vs k) (by rw [l]; exact rel.val k)
  exact wpAny_getItem_of (Zls ry) dd.mapOf hw (h w' _ (I.tok _) rw')
 ·subst ey
  cases (show u=Value.ref b from ry)
  obtain ⟨z,hd,xs,rel,dd⟩:=ZjP I.hok e
  obtain ⟨w',hw,rw'⟩:=RelO.some_of (v:=v) (o:=(atKey xs k).map (·.2)) (by rw [l]; exact rel.val k)
  obtain ⟨p,hp,hp2⟩:=Option.map_eq_some_iff.mp hw
  refine wpAny_getItem_heap (tupleKind_room_in1 hu) (Zhp I.hok eb) dd hp ?_
  rw [hp2]
  exact h w' _ (I.tok _) rw'
theorem Ztu {Q : Value → Shared → Prop} (hu : A.units + 1<cLine) (I : Inv X pins σ H s) (g : DGet H a y o) (ry : RelV y u) (h : ∀ s', Inv X pins σ H s' → Q (.bool o.isSome) s') :
  wpAny (model X.prog X.w) A (compareOp .In u (.ref a)) Q E s:=by
 rcases g with ⟨kvs,k,e,ey,l⟩ | ⟨kvs,k,b,e,ey,eb,l⟩
 ·subst ey
  obtain ⟨z,hd,vs,rel,dd⟩:=Zkt I.hok e
  refine wpAny_in_of (Zls ry) hd dd.mapOf ?_
  rw [← (rel.val k).isSome_eq,← l]
  exact h _ (I.tok _)
 ·subst ey
  cases (show u=Value.ref b from ry)
  obtain ⟨z,hd,xs,rel,dd⟩:=ZjP I.hok e
  refine wpAny_in_heap (tupleKind_room_in1 hu) (Zhp I.hok eb) hd dd ?_
  have q:=(rel.val k).isSome_eq
  rw [Option.isSome_map] at q
  rw [← q,← l]
  exact h _ (I.tok _)
theorem Zqg {Q : Value → Shared → Prop} (hu : A.units + 1<cLine) (I : Inv X pins σ H s) (g : DGet H a y o) (ry : RelV y u) (h : ∀ s', Inv X pins σ H s' → Q (.bool (!o.isSome)) s') :
  wpAny (model X.prog X.w) A (compareOp .NotIn u (.ref a)) Q E s:=by
 rcases g with ⟨kvs,k,e,ey,l⟩ | ⟨kvs,k,b,e,ey,eb,l⟩
 ·subst ey
  obtain ⟨z,hd,vs,rel,dd⟩:=Zkt I.hok e
  refine wpAny_notIn_of (Zls ry) hd dd.mapOf ?_
  rw [← (rel.val k).isSome_eq,← l]
  exact h _ (I.tok _)
 ·subst ey
  cases (show u=Value.ref b from ry)
  obtain ⟨z,hd,xs,rel,dd⟩:=ZjP I.hok e
  refine wpAny_notIn_heap (tupleKind_room_in1 hu) (Zhp I.hok eb) hd dd ?_
  have q:=(rel.val k).isSome_eq
  rw [Option.isSome_map] at q
  rw [← q,← l]
  exact h _ (I.tok _)
theorem Zjd {h' : Heap} {t' : Nat} {ob : HO} (I : Inv X pins σ H s) (mu : Mut (H a)) (hs : Heap.SameBut a s.heap h') (he : ∃ q, h'.get? a=some q) (new : ObjOk X.prog X.w (upd H a ob) h' a ob) :
  Inv X pins σ (upd H a ob) { s with heap:=h',toks:=t' } :=
 I.write (x:=a) (e:=a) mu (.inl rfl) (fun b q hb z=>(hs.2 b hb).trans z) he new
theorem Zrj {P : Program} {w : World} {H' : Hp} {h' : Heap} {kvs : List (Key × V)} {vs : List (Key × Value)} (z : kvs.length ≤ sizeLine) (hd : (a == sysModules)=false) (rel : KV kvs vs) (dd : h'.DictOf (Zbd P w) a vs) :
  ObjOk P w H' h' a (.dK kvs):=⟨z,hd,vs,rel,dd⟩
theorem Zov {H' : Hp} {Q : Unit → Shared → Prop} (hu : A.units + 1<cLine) (I : Inv X pins σ H s) (g : DPut H a y v H') (ry : RelV y u) (rv : RelV v r) (h : ∀ s', Inv X pins σ H' s' → Q () s') :
  wpAny (model X.prog X.w) A (setItem (.ref a) u r) Q E s:=by
 rcases g with ⟨kvs,k,e,ey,l,eH⟩ | ⟨kvs,k,b,e,ey,eb,l,eH⟩
 ·subst ey eH
  obtain ⟨z,hd,vs,rel,dd⟩:=Zp7 I.hok e
  have hz:vs.length≤sizeLine:=by rw [← rel.length]; exact z
  have hl:(ZjG kvs k v).length≤sizeLine:=by have:=Zhf kvs k v; omega
  refine wpAny_setItem_pairs (hsz:=hz) (Zls ry) dd fun h' dd' hs=>h _ ?_
  have he:∃ q,h'.get? a=some q:=let ⟨q,_,_,hq,_⟩:=dd'; ⟨q,hq⟩
  exact Zjd I (by rw [e]; exact True.intro) hs he (Zrj hl hd (rel.put k rv) dd')
 ·subst ey eH
  cases (show u=Value.ref b from ry)
  obtain ⟨z,hd,xs,rel,dd⟩:=Zm2 I.hok e
  have hz:xs.length≤sizeLine:=by rw [← Paired.length rel]; exact z
  have hl:(ZjG kvs k v).length≤sizeLine:=by have:=Zhf kvs k v; omega
  refine wpAny_setItem_heap (hsz:=hz) (tupleKind_room_in1 hu) (Zhp I.hok eb) dd fun h' dd' hs=>h _ ?_
  obtain ⟨q,es,ep,hq,h2,h3,h4,_,h5⟩:=dd'
  refine Zjd I (by rw [e]; exact True.intro) hs ⟨q,hq⟩ ⟨hl,hd,_,(rel.put k eb rv).keeps fun c ys ec=>?_,q,es,ep,hq,h2,h3,h4,h5⟩
  rw [Zak (Zrw ec e (fun z=>nomatch z))]
  exact ec
end
section
variable {X:Cx} {pins:List (Addr × Obj)} {σ:St} {H:Hp} {s:Shared} {a:Addr} {kvs:List (Key × V)} {k:Key} {u:Value} {A:Around} {E:Value->Shared->Prop}
theorem ZsM {Q:Value->Shared->Prop} (I:Inv X pins σ H s) (e:Rd H a (.dK kvs)) (h:∀ t s',Inv X pins σ H s'->Q (.int kvs.length t) s'):wpAny (model X.prog X.w) A (call (.builtin "len") [.ref a]) Q E s:=by
 obtain ⟨z,hd,vs,rel,dd⟩:=Zkt I.hok e
 refine call_len_dict hd dd (by rw [← rel.length]; rw [sizeLine_eq] at z; omega) ?_
 rw [← rel.length]
 exact h _ _ (I.tok _)
end
def ZsX (i:Expr):Prop:=∀ ov iv,subscripted i false ov iv=operate [ov,iv] (getItem ov iv)
theorem Zqn {prog : Program} {w : World} {A : Around} {E : Value → Shared → Prop} {s : Shared} {env : Env} {value slice : Expr} {pos : Pos} {T id : String} {Q : Value → Shared → Prop}
  (hl:typeLookup (.type T) "__getitem__"=pure (some (.builtin id))) (hs:ZsX slice)
  (h:wpAny (model prog w) A (eval value env) (fun o s₁=>wpAny (model prog w) A (eval slice env) (fun i s₂=>s₂.TypeIs o T∧wpAny (model prog w) A (getItem o i) Q E s₂) E s₁) E s) :
  wpAny (model prog w) A (eval (.Subscript value slice pos) env) Q E s:=by
 refine Subscript_ (wpAny_mono h (fun o s₁ h₁=>wpAny_mono h₁ (fun i s₂ h₂=>?_) fun _ _ x=>x) fun _ _ x=>x)
 obtain ⟨hT,h₂⟩:=h₂
 unfold subscriptTail
 refine wpAny_bind ?_
 rw [getitemInPython_of_ne hT.not_modules]
 refine wpAny_bind (wpAny_specialOf hT hl ?_)
 have fin:wpAny (model prog w) A (subscripted slice false o i) (fun r s₃=>wpAny (model prog w) A (letTemporaryGo value o r >>= fun _=>pure r) Q E s₃) E s₂:=by
  rw [hs o i]
  exact wpAny_operating (wpAny_mono h₂ (fun r s₃ h₃=>wpAny_bind (wpAny_letTemporaryGo (wpAny_pure h₃))) fun _ _ x=>x)
 first
  | exact wpAny_pure (wpAny_bind fin)
  | exact wpAny_bind (wpAny_pure (wpAny_bind fin))
  | exact wpAny_bind fin
theorem ZkY {X:Cx} {pins:List (Addr × Obj)} {σ:St} {H:Hp} {s:Shared} {a:Addr} {y:V} {o:Option V} (I:Inv X pins σ H s) (g:DGet H a y o):s.TypeIs (.ref a) "dict":=by
 rcases g with ⟨kvs,k,e,_,_⟩ | ⟨kvs,k,b,e,_,_,_⟩
 ·obtain ⟨_,_,vs,_,dd⟩:=Zkt I.hok e
  exact dd.typeIs
 ·obtain ⟨_,_,xs,_,dd⟩:=ZjP I.hok e
  exact dd.typeIs
def Zsh (td ty:TE):TE:=fun σ H Q=>td σ H fun x H1=>ty σ H1 fun y H2=>∃ a v,x=.ref a∧DGet H2 a y (some v)∧Q v H2
def Ztq (ty td:TE):TE:=fun σ H Q=>ty σ H fun y H1=>td σ H1 fun x H2=>∃ a o,x=.ref a∧DGet H2 a y o∧Q (.bl o.isSome) H2
def Zqr (ty td:TE):TE:=fun σ H Q=>ty σ H fun y H1=>td σ H1 fun x H2=>∃ a o,x=.ref a∧DGet H2 a y o∧Q (.bl (!o.isSome)) H2
def ZsD (td ty tv:TE):TS:=fun D σ H=>tv σ H fun v H1=>td σ H1 fun x H2=>ty σ H2 fun y H3=>∃ a H4,x=.ref a∧DPut H3 a y v H4∧D.nx σ H4
section
variable {X:Cx} {o i e value:Expr} {pos pos' tpos:Pos} {td ty tv:TE}
theorem Znn (hu:X.A.units+1<cLine) (ho:PE X o td) (hi:PE X i ty) (hs:ZsX i):PE X (.Subscript o i pos) (Zsh td ty):=by
 intro pins s σ H Q I h
 refine Zqn PySem.F.slot_dict_getitem.lookup hs (thn (ho pins s σ H _ I h) fun u s1 ⟨x,H1,I1,rx,q1⟩=>thn (hi pins s1 σ H1 _ I1 q1) fun iv s2 ⟨y,H2,I2,ry,a,v,ex,g,q2⟩=>?_)
 subst ex
 obtain rfl:u=Value.ref a:=rx
 exact ⟨ZkY I2 g,Zn2 hu I2 g ry fun w' s3 I3 rw'=>⟨v,H2,I3,rw',q2⟩⟩
theorem Zre (hu:X.A.units+1<cLine) (hi:PE X i ty) (ho:PE X o td):PC X .In i o (Ztq ty td):=by
 intro pins s σ H Q I h
 refine thn (hi pins s σ H _ I h) fun iv s1 ⟨y,H1,I1,ry,q1⟩=>thn (ho pins s1 σ H1 _ I1 q1) fun u s2 ⟨x,H2,I2,rx,a,ov,ex,g,q2⟩=>?_
 subst ex
 obtain rfl:u=Value.ref a:=rx
 exact Ztu hu I2 g ry fun s3 I3=>⟨.bl ov.isSome,H2,I3,rfl,q2⟩
theorem Znc (hu:X.A.units+1<cLine) (hi:PE X i ty) (ho:PE X o td):PC X .NotIn i o (Zqr ty td):=by
 intro pins s σ H Q I h
 refine thn (hi pins s σ H _ I h) fun iv s1 ⟨y,H1,I1,ry,q1⟩=>thn (ho pins s1 σ H1 _ I1 q1) fun u s2 ⟨x,H2,I2,rx,a,ov,ex,g,q2⟩=>?_
 subst ex
 obtain rfl:u=Value.ref a:=rx
 exact Zqg hu I2 g ry fun s3 I3=>⟨.bl (!ov.isSome),H2,I3,rfl,q2⟩
theorem Zgq (hu : X.A.units + 1<cLine) (ho : PE X o td) (hi : PE X i ty) (hv : PE X value tv) (hs : swapsWith value (some (.Subscript o i pos')) pos.line X.env=pure false) :
  PS X (.Assign [.Subscript o i pos'] value pos) (ZsD td ty tv):=by
 intro pins s σ H D I h
 refine wpAny_Assign_Subscript (thn (hv pins s σ H _ I h) fun r s1 ⟨v,H1,I1,rv,q1⟩=>thn (ho pins s1 σ H1 _ I1 q1) fun u s2 ⟨x,H2,I2,rx,q2⟩=>thn (hi pins s2 σ H2 _ I2 q2) fun iv s3 ⟨y,H3,I3,ry,a,H4,ex,g,q3⟩=>?_) hs
 subst ex
 obtain rfl:u=Value.ref a:=rx
 exact Zov hu I3 g ry rv fun s4 I4=>⟨σ,H4,I4,q3⟩
end
theorem ZoH {P:Program} {w:World} {H:Hp} (h:Heap) (hb:sysModules<h.objs.size):ObjOk P w H (h.push { cls:=.type "dict",data:=.dict #[] }) h.objs.size (.dK []) :=
 ⟨Nat.zero_le _,beq_eq_false_iff_ne.mpr (Ne.symm (Nat.ne_of_lt hb)),[],.nil,Heap.DictOf.new h⟩
theorem Zl9 {P:Program} {w:World} {H:Hp} (h:Heap) (hb:sysModules<h.objs.size):ObjOk P w H (h.push { cls:=.type "dict",data:=.dict #[] }) h.objs.size (.dT []) :=
 ⟨Nat.zero_le _,beq_eq_false_iff_ne.mpr (Ne.symm (Nat.ne_of_lt hb)),[],.nil,_,#[],0,Heap.get?_push_size _ rfl,⟨rfl,rfl,rfl⟩,rfl,rfl,List.nodup_nil⟩
def ZqS:TE:=fun _ H Q=>∀ p,H p=none->Q (.ref p) (upd H p (.dK []))
def ZrY:TE:=fun _ H Q=>∀ p,H p=none->Q (.ref p) (upd H p (.dT []))
section
variable {X:Cx} {pos:Pos}
theorem Zi1:PE X (.Dict [] [] pos) ZqS:=fun pins s σ H Q I h =>
 wpAny_Dict_empty ⟨.ref s.heap.objs.size,_,I.laid (a:=s.heap.objs.size) (o:=.dK []) (t':=s.toks) (fun _ _ q=>Heap.get?_push_of_some _ q) (Nat.le_refl _) (ZoH s.heap I.big),rfl,h _ (I.hok.fresh (Nat.le_refl _))⟩
theorem ZgU:PE X (.Dict [] [] pos) ZrY:=fun pins s σ H Q I h =>
 wpAny_Dict_empty ⟨.ref s.heap.objs.size,_,I.laid (a:=s.heap.objs.size) (o:=.dT []) (t':=s.toks) (fun _ _ q=>Heap.get?_push_of_some _ q) (Nat.le_refl _) (Zl9 s.heap I.big),rfl,h _ (I.hok.fresh (Nat.le_refl _))⟩
end
structure M2 (X:Cx) (o:Expr) (m:Str) (apos:Pos) (e f:Expr) (cpos:Pos):Prop where
 base:attributeBase o m X.env (eval o X.env)=eval o X.env
 few:((backTo cpos (starEach [e,f] X.env)).all (fun x=>!x.1)&&(backToKw cpos (keywordEach [] X.env)).all (fun x=>x.1.isSome)
  && decide (([e,f]:List Expr).length+([]:List Keyword).length+(if ([]:List Keyword).isEmpty then 0 else 1)<30))=true
 line:(apos.endLine == cpos.line)=true
 trees:backTo cpos (starEach [e,f] X.env)=[(false,eval e X.env),(false,eval f X.env)]
def IsD (H:Hp) (a:Addr):Prop:=(∃ kvs,Rd H a (.dK kvs))∨∃ kvs,Rd H a (.dT kvs)
theorem ZpL {X : Cx} {pins : List (Addr × Obj)} {σ : St} {H : Hp} {s : Shared} {a : Addr} (I : Inv X pins σ H s) (d : IsD H a) :
  s.TypeIs (.ref a) "dict"∧(∀ b,Value.ref a=.ref b->∃ ob,s.heap.get? b=some ob∧ob.dict=none)∧(a == sysModules)=false:=by
 rcases d with ⟨kvs,e⟩ | ⟨kvs,e⟩
 ·obtain ⟨_,hd,vs,_,dd⟩:=Zkt I.hok e
  refine ⟨dd.typeIs,fun b q=>?_,hd⟩
  cases q
  obtain ⟨ob,_,_,h1,h2,_⟩:=dd
  exact ⟨ob,h1,h2.2.1⟩
 ·obtain ⟨_,hd,xs,_,dd⟩:=ZjP I.hok e
  refine ⟨dd.typeIs,fun b q=>?_,hd⟩
  cases q
  obtain ⟨ob,_,_,h1,h2,_⟩:=dd
  exact ⟨ob,h1,h2.2.1⟩
section
variable {X:Cx} {pins:List (Addr × Obj)} {σ:St} {H:Hp} {s:Shared} {a:Addr} {y d:V} {u r:Value} {o:Option V} {A:Around} {E:Value->Shared->Prop}
theorem Zra {Q : Value → Shared → Prop} (hu : A.units + 1<cLine) (I : Inv X pins σ H s) (g : DGet H a y o) (ry : RelV y u) (rd : RelV d r) (h : ∀ w' s', Inv X pins σ H s' → RelV (o.getD d) w' → Q w' s') :
  wpAny (model X.prog X.w) A (call (.builtin "dict.get") [.ref a,u,r]) Q E s:=by
 rcases g with ⟨kvs,k,e,ey,l⟩ | ⟨kvs,k,b,e,ey,eb,l⟩
 ·subst ey
  obtain ⟨z,hd,vs,rel,dd⟩:=Zkt I.hok e
  refine call_meetsIn PySem.F.slot_dict_get dd.typeIs PySem.F.entry_dict_get (PySem.F.args_dict_get_3 _ _ _) (meets_dict_get_default (Zbd X.prog X.w) a (Zls ry) hd r) ⟨_,dd.mapOf,h _ _ (I.tok _) ?_⟩
  rw [l]
  exact (rel.val k).getD rd
 ·subst ey
  cases (show u=Value.ref b from ry)
  obtain ⟨z,hd,xs,rel,dd⟩:=ZjP I.hok e
  refine call_meetsIn PySem.F.slot_dict_get dd.typeIs PySem.F.entry_dict_get (PySem.F.args_dict_get_3 _ _ _) (meetsH_dict_get_default (tupleKind (Zbd X.prog X.w)) a b hd r) ⟨tupleKind_room_in1 hu,k,xs,Zhp I.hok eb,dd,h _ _ (I.tok _) ?_⟩
  rw [l]
  exact (rel.val k).getD rd
end
def ZqY (td ty tx:TE):TE:=fun σ H Q=>td σ H fun x H1=>∃ a,x=.ref a∧IsD H1 a∧ty σ H1 fun y H2=>tx σ H2 fun z H3=>∃ o,DGet H3 a y o∧Q (o.getD z) H3
section
variable {X:Cx} {o e f:Expr} {apos cpos:Pos} {td ty tx:TE}
theorem Zfm (hu:X.A.units+1<cLine) (ho:PE X o td) (he:PE X e ty) (hf:PE X f tx) (m:M2 X o "get" apos e f cpos):PE X (.Call (.Attribute o "get" apos) [e,f] [] cpos) (ZqY td ty tx):=by
 intro pins s σ H Q I h
 refine wpAny_Call_method m.base m.few m.line PySem.F.plainAttrs_dict PySem.F.slot_dict_get PySem.F.type_dict_get (thn (ho pins s σ H _ I h) fun u s1 ⟨x,H1,I1,rx,a,ex,d,q1⟩=>?_)
 subst ex
 obtain rfl:u=Value.ref a:=rx
 obtain ⟨t1,t2,_⟩:=ZpL I1 d
 refine ⟨t1,t2,?_⟩
 rw [m.trees]
 refine Calls.callWith_builtin rfl (Calls.evalArgs_plain (Calls.spliced_cons (thn (he pins s1 σ H1 _ I1 q1) fun iv s2 ⟨y,H2,I2,ry,q2⟩ =>
  Calls.spliced_cons (thn (hf pins s2 σ H2 _ I2 q2) fun fv s3 ⟨z,H3,I3,rz,ov,g,q3⟩=>Calls.spliced_nil ?_))))
 exact Zra hu I3 g ry rz fun w' s4 I4 rw'=>⟨_,H3,I4,rw',q3⟩
end
section
variable {X:Cx} {pins:List (Addr × Obj)} {σ:St} {H:Hp} {s:Shared} {a:Addr} {kvs:List (Key × V)} {A:Around} {E:Value->Shared->Prop}
end
section
variable {X:Cx} {pins:List (Addr × Obj)} {σ:St} {H:Hp} {s:Shared} {a:Addr} {y:V} {u:Value} {A:Around} {E:Value->Shared->Prop}
end
end L2
namespace Att
open PySem PySem.W PySem.Calls PyProof.Rows
theorem ZhU {P:Params} {h:Heap}:∀ (ns:List Int) (vs:List Value),WellAll P h vs (ns.map WData.int)->IntsAre vs ns:=by
 intro ns
 induction ns with
 | nil =>
  intro vs w
  rw [List.map_nil] at w
  cases w
  exact .nil
 | cons n ns ih =>
  intro vs w
  rw [List.map_cons] at w
  cases w with
  | cons a b =>
   cases a
   exact .cons _ _ (ih _ b)
theorem ZnG {l : OpenLaw} {n : Nat} (hn : l.most=some n) {P : Params} {h : Heap} {args : List WData} {vals : List Value}
  (hpre:l.row.toRowW.claim.pre args=true) (hwl:WellAll P h vals args) :
  ∃ a vs ns,vals=[Value.ref a]∧args=[WData.list (ns.map WData.int)]∧h.get? a=some { cls:=.type "list",data:=.seq vs.toArray }∧IntsAre vs ns∧ns.length≤n:=by
 have hsh:WShape.hasAll [] args [.list .int]=true:=(pre_splitW hpre).1
 have hc:l.pre.holds [] { args:=args }=true:=(pre_splitW hpre).2
 obtain ⟨d,r,rfl,h1,h2⟩:=hasAllW_cons hsh
 obtain rfl:=hasAllW_nil h2
 obtain ⟨xs,rfl,h3⟩:=hasW_list h1
 obtain ⟨ns,rfl⟩:=items_int h3
 have hlen:ns.length≤n:=by
  unfold OpenLaw.pre at hc
  have h4:(WTm.not (.lt (.lit (.int (n:Int))) (.len (.arg 0)))).holds [] { args:=[.list (ns.map .int)] }=true:=by
   have h4:=(holds_andW hc).1
   rw [hn] at h4
   exact h4
  have h5:=condW_of h4 (w_not (w_lt w_lit (w_len_list (w_arg rfl))))
  rw [List.length_map] at h5
  refine Nat.le_of_not_lt fun q=>?_
  have q':(n:Int)<((ns.length:Nat):Int):=by omega
  first
   | (rw [decide_eq_true q'] at h5; exact absurd h5 (by decide))
   | (simp at h5; omega)
 cases hwl with
 | cons w1 w2 =>
  cases w2
  cases w1 with
  | list ho hall=>exact ⟨_,_,ns,rfl,rfl,ho,ZhU ns _ hall,hlen⟩
theorem Zne (l:OpenLaw) (args:List WData):l.row.toRowW.claim.post args (.bool true) args=true :=
 postW_of (r:=l.row.toRowW) (X:=(true == true))
  (show WShape.has [] (.bool true) .bool=true by first | rfl | decide | simp [WShape.has,WShape.arms,WShape.armsAll])
  (show (WTm.eq .res (.lit (.bool true))).value [] { args:=args,res:=some (.bool true),after:=args }=some (.bool (true == true)) from w_eq_bool (w_res rfl) w_lit) rfl
theorem attach_call {l : OpenLaw} {n : Nat} {q : Program} {loose : List Str} {XP : (Str → Option Value) → Heap → Prop} {YP : World → Heap → Prop} {d : DefRec}
  (hn:l.most=some n) (hdf:d.params.defaults=[])
  (call:∀ (w:World) (s₀ s₁:Shared) (mg mb:Str->Option Value) (fa:Addr) (o:Obj) (pm cd doc:Value) (a:Addr) (vs:List Value) (ns:List Int),
   Ground q loose [] XP w s₀ mg mb s₁.heap->YP w s₁.heap →
   s₁.heap.get? fa=some o->o.data=.func (docDef d.name d.params d.body d.scope pm cd doc)->s₁.heap.CodeRec cd d.name->mg d.name=some (.ref fa) →
   s₁.heap.get? a=some { cls:=.type "list",data:=.seq vs.toArray }->IntsAre vs ns->ns.length≤n->s₁.gens=#[] →
   codeAny (model l.prog w) callerA (.call (.ref fa) ⟨[.ref a],[]⟩) (fun r s'=>r=.ok (.ret (.bool true))∧OldK s₁.heap s'.heap∧s'.os=s₁.os∧AllBare s'.gens) s₁) :
  WalkO q loose XP YP l.row.toRowW d [] (fun f vs=>PySem.call f vs):=by
 intro w s₀ s₁ mg mb G Y fa o pm cd doc dV kV ho hd hcd hD hmg hg args vals as hpre hlay hrd hwl hlo
 obtain rfl:dV=.none:=Dflts.none hD hdf
 obtain rfl:kV=.none:=Dflts.noKw hD
 obtain ⟨a,vs,ns,rfl,rfl,hobj,hints,hlen⟩:=ZnG hn hpre hwl
 refine enter_call (codeAny_mono (call w s₀ s₁ mg mb fa o pm cd doc a vs ns G Y ho (fd_plain hd) hcd hmg hobj hints hlen hg) fun r s' hq=>?_)
 obtain ⟨rfl,h2,h3,h4⟩:=hq
 exact ⟨.inl ⟨.bool true,.bool true,[],rfl,fun _=>rfl,.bool true,Zne l _,fun _=>⟨List.Pairwise.nil,fun _ hm=>(nomatch hm)⟩⟩,h2,h3,h4⟩
section
variable {prog:Program} {w:World} {A:Around} {E:Value->Shared->Prop} {s:Shared} {K:Frag}
end
end Att
namespace L2
open PySem PySem.Spec PyProof.Rows
theorem Zj3:∀ {vs:List Value} {ns:List Int},IntsAre vs ns->Vals (ns.map V.int) vs
 | _,_,.nil=>.nil
 | _,_,.cons n t h=>.cons ⟨t,rfl⟩ (Zj3 h)
def Zst (H:Hp):Prop:=∀ b,H b=none∨∃ o xs,H b=some (.frz o (.lst xs))
theorem Zo7 {P : Program} {w : World} {K : W.Frag} {mg mb : Str → Option Value} {CX : CXT} {k : Nat} {fa a : Addr} {fd : FuncData} {x : Str} {sp : Sp} {s₁ : Shared} {vs : List Value} {ns : List Int}
  (KX:K.In s₁.heap) (hns:s₁.heap.Ns mainGlobals mg) (hb:s₁.heap.Ns builtinsNs mb) (hbb:∀ x:Str,x≠"__name__"->mb x=bootBuiltins x) (hlim:s₁.heap.NoLimit) (hg:s₁.gens=#[])
  (ha:s₁.heap.get? a=some { cls:=.type "list",data:=.seq vs.toArray }) (hi:IntsAre vs ns) (hl:ns.length≤sizeLine) (hr:Room k callerA)
  (F:∀ base:Heap,K.In base->base.Ns mainGlobals mg->FnOk P w K mg base CX k fa fd [x] sp) (hbind:∀ (s:Shared) (u:Value),BindsTo s fd ⟨[u],[]⟩ [(x,u)])
  (hsp:∀ H:Hp,Zst H->SqL K H a (ns.map V.int)->sp [.ref a] H (fun v _=>v=.bl true) fun _ _ _=>False)
  (hCX:∀ H e s',CX [] H s₁ (fun _ _ _=>False) e s'->False) :
  codeAny (model P w) callerA (.call (.ref fa) ⟨[.ref a],[]⟩) (fun r s'=>r=.ok (.ret (.bool true))∧OldK s₁.heap s'.heap∧s'.os=s₁.os∧AllBare s'.gens) s₁:=by
 have rv:=Zj3 hi
 have lenV:=hi.length
 have core : ∀ H : Hp, Zst H → SqL K H a (ns.map V.int) → HOk P w H s₁.heap → (∀ b, H b ≠ none → b=a) → (H a ≠ none → K.lookup a=none) →
   codeAny (model P w) callerA (.call (.ref fa) ⟨[.ref a],[]⟩) (fun r s'=>r=.ok (.ret (.bool true))∧OldK s₁.heap s'.heap∧s'.os=s₁.os∧AllBare s'.gens) s₁:=by
  intro H hO hS hok hA hK
  have base_of:∀ {b:Addr} {o:Obj},s₁.heap.get? b=some o->H b=none->(ZoR s₁.heap H).get? b=some o:=fun e n=>Zph e n
  have noA:∀ {b:Addr} {o:Obj} {es:Array DictEntry} {ep:Nat},s₁.heap.get? b=some o->o.data=.dict es ep->H b=none:=fun {b o es ep} e d=>by
   cases q:H b with
   | none=>rfl
   | some u =>
    have e':b=a:=hA b (by rw [q]; simp)
    subst e'
    rw [ha] at e; cases e
    have d':Data.seq vs.toArray _=Data.dict es ep:=d
    cases d'
  have nsK:∀ {b:Addr} {m:Str->Option Value},s₁.heap.Ns b m->(ZoR s₁.heap H).Ns b m:=fun {b m} ⟨o,es,ep,e,d,r⟩=>⟨o,es,ep,base_of e (noA e d),d,r⟩
  have hKb:K.In (ZoR s₁.heap H):=fun b o e=>base_of (KX b o e) (by
   cases q:H b with
   | none=>rfl
   | some u =>
    have e':b=a:=hA b (by rw [q]; simp)
    subst e'
    rw [hK (by rw [q]; simp)] at e; cases e)
  have hM:Mod K mg (ZoR s₁.heap H):=⟨hKb,nsK hns,⟨mb,nsK hb,hbb⟩,let ⟨mc,h1,h2⟩:=hlim; ⟨mc,nsK h1,h2⟩⟩
  have e0:Env0 P w K mg (ZoR s₁.heap H) callerA [] s₁ H:=⟨rfl,hM,fun b o e=>Zp8 e,Nat.le_of_eq (ZnZ _ _),trivial,fun b hb=>absurd (show b∈([]:List Addr) from hb) (by simp),hok,.of_eq hg⟩
  refine codeAny_mono ((F _ hKb (nsK hns)).run callerA [] s₁ H ⟨[.ref a],[]⟩ [.ref a] [.ref a] _ _ hr e0 (hbind s₁ (.ref a)) (.cons rfl .nil) (hsp H hO hS)) fun r s' h=>?_
  cases r with
  | error e=>exact (hCX H e s' h).elim
  | ok fl =>
   cases fl with
   | next=>exact False.elim h
   | brk=>exact False.elim h
   | cont=>exact False.elim h
   | ret u =>
    obtain ⟨v,H',os,bare,un,hok',r',q⟩:=h
    have q':v=.bl true:=q
    subst q'
    obtain rfl:u=Value.bool true:=r'
    refine ⟨rfl,OldK.of_keep fun b o e=>?_,os,bare⟩
    cases q:H b with
    | none=>exact un.keep b o e q (by intro z; exact absurd (show b∈([]:List Addr) from z) (by simp)) (by simp)
    | some u =>
     rcases hO b with z | ⟨ob,xs,z⟩
     ·rw [q] at z; cases z
     ·have z2:=un.frzs b ob _ z
      obtain ⟨e1,_⟩:=hok b _ z
      obtain ⟨e2,_⟩:=hok' b _ z2
      rw [e] at e1; cases e1
      exact e2
 cases hk:K.lookup a with
 | some o =>
  have e:=KX a o hk
  rw [ha] at e
  cases e
  refine core (fun _=>none) (fun _=>.inl rfl) (.inr ⟨_,vs.toArray,_,hk,rfl,rfl,rfl,by rw [List.size_toArray,lenV]; exact hl,by simpa using rv⟩) (fun b u z=>by have z':(none:Option HO)=some u:=z; cases z') (fun b z=>absurd rfl z) fun z=>absurd rfl z
 | none =>
  refine core (fun b=>if b=a then some (.frz { cls:=.type "list",data:=.seq vs.toArray } (.lst (ns.map V.int))) else none) (fun b=>?_) (.inl (.inr ⟨{ cls:=.type "list",data:=.seq vs.toArray },if_pos rfl⟩)) (fun b u z=>?_) (fun b z=>?_) fun _=>hk
  ·by_cases hb:b=a
   ·exact .inr ⟨_,_,if_pos hb⟩
   ·exact .inl (if_neg hb)
  ·by_cases hb:b=a
   ·have z':=(if_pos hb).symm.trans z
    cases z'
    subst hb
    exact ⟨ha,by rw [List.length_map]; exact hl,vs,_,rv,ha⟩
   ·have z':=(if_neg hb).symm.trans z
    cases z'
  ·by_cases hb:b=a
   ·exact hb
   ·exact absurd (if_neg hb) z
theorem walk_of {l : W.OpenLaw} {n k : Nat} {q : Program} {loose : List Str} {XP : (Str → Option Value) → Heap → Prop} {YP : World → Heap → Prop} {d : DefRec} {K : Params → W.Frag} {CX : World → CXT} {sp : World → Sp} {x : Str}
  (hn:l.most=some n) (hn2:n≤sizeLine) (hdf:d.params.defaults=[]) (hr:Room k callerA)
  (hY:∀ (w:World) (h:Heap),YP w h->(K w.params).In h)
  (F:∀ (w:World) (mg:Str->Option Value) (fa:Addr) (h:Heap),(K w.params).In h->h.Ns mainGlobals mg->mg d.name=some (.ref fa) →
   ∃ fd:FuncData,(∀ (s:Shared) (u:Value),BindsTo s fd ⟨[u],[]⟩ [(x,u)]) ∧
    ∀ base:Heap,(K w.params).In base->base.Ns mainGlobals mg->FnOk l.prog w (K w.params) mg base (CX w) k fa fd [x] (sp w))
  (hsp:∀ (w:World) (H:Hp) (a:Addr) (ns:List Int),ns.length≤n->Zst H->SqL (K w.params) H a (ns.map V.int)->sp w [.ref a] H (fun v _=>v=.bl true) fun _ _ _=>False)
  (hCX:∀ (w:World) (H:Hp) (s:Shared) (e:Value) (s':Shared),CX w [] H s (fun _ _ _=>False) e s'->False) :
  W.WalkO q loose XP YP l.row.toRowW d [] (fun f vs=>PySem.call f vs):=by
 refine Att.attach_call hn hdf fun w s₀ s₁ mg mb fa o pm cd doc a vs ns G Y ho hd hcd hmg hobj hints hlen hg=>?_
 have KX:=hY w _ Y
 obtain ⟨fd,hb,hF⟩:=F w mg fa _ KX G.T.g hmg
 exact Zo7 KX G.T.g G.T.b G.T.builtins G.T.nolimit hg hobj hints (Nat.le_trans hlen hn2) hr hF hb (fun H hO hS=>hsp w H a ns hlen hO hS) fun H e s'=>hCX w H s₁ e s'
noncomputable def Zb5 (s:Stmt) (j:Nat):Stmt:=match s with
 | .ClassDef _ _ _ body _ _ _ _ _ _ _=>body.getD j (.Pass ⟨0,0,0,0⟩)
 | _=>.Pass ⟨0,0,0,0⟩
noncomputable def ZbX (s:Stmt):Arguments:=match s with
 | .FunctionDef _ a _ _ _ _ _ _ _ _=>a
 | _=>{ posonlyargs:=[],args:=[],vararg:=none,kwonlyargs:=[],kw_defaults:=[],kwarg:=none,defaults:=[] }
noncomputable def ZbG (s:Stmt):List Stmt:=match s with
 | .FunctionDef _ _ b _ _ _ _ _ _ _=>b
 | _=>[]
noncomputable def Zal (s:Stmt):Scope:=match s with
 | .FunctionDef _ _ _ _ _ _ sc _ _ _=>sc
 | _=>{ kind:=.function,names:=[],isGenerator:=false,isCoroutine:=false }
abbrev E0:XK:=fun _ _ _=>False
structure Fun (K:W.Frag) (x qual:Str) (st:Stmt) (f:Addr) (fd:FuncData):Prop where
 ex:∃ (oc:Value) (od:Option Addr) (kV doc pm:Value) (an:Option Addr) (cdv ct:Value) (osl:Array (Option Value)),
  fd=W.fnOf x qual (ZbX st) (ZbG st) (Zal st) .none kV doc pm an cdv ct∧K.lookup f=some ⟨oc,od,.func fd,osl⟩∧W.codeIn K cdv qual=true
 kp:W.keepIn K (.ref f)=true
section
variable {P:Program} {w:World} {K:W.Frag} {mg:Str->Option Value} {base:Heap}
theorem Fun.binds {x qual : Str} {st : Stmt} {f : Addr} {fd : FuncData} {ps : List Str} (F : Fun K x qual st f fd)
  (h:∀ (kV doc pm:Value) (an:Option Addr) (cdv ct:Value) (us:List Value),us.length=ps.length->bindArgs (W.fnOf x qual (ZbX st) (ZbG st) (Zal st) .none kV doc pm an cdv ct) ⟨us,[]⟩=pure (ps.zip us)):Binds K fd ps []:=by
 obtain ⟨oc,od,kV,doc,pm,an,cdv,ct,osl,rfl,lk,hcd⟩:=F.ex
 exact .all (h kV doc pm an cdv ct)
theorem ZrF {x qual : Str} {st : Stmt} {f : Addr} {oc : Value} {od an : Option Addr} {osl : Array (Option Value)} {kV doc pm cdv ct : Value} (l : K.lookup f=some ⟨oc, od, .func (W.fnOf x qual (ZbX st) (ZbG st) (Zal st) .none kV doc pm an cdv ct), osl⟩)
  (c:W.codeIn K cdv qual=true) (k:W.keepIn K (.ref f)=true):Fun K x qual st f (W.fnOf x qual (ZbX st) (ZbG st) (Zal st) .none kV doc pm an cdv ct):=⟨⟨oc,od,kV,doc,pm,an,cdv,ct,osl,rfl,l,c⟩,k⟩
end
theorem Zd9 {A:Around} {k:Nat} (hr:Room k A):A.units+1<cLine:=Nat.lt_of_le_of_lt (Nat.add_le_add_left (by decide:1≤64) _) hr.units
theorem Zaj {n:Nat} (h:n≤1000):n<sizeLine:=Nat.lt_of_le_of_lt h (by decide)
section
variable {X:Cx}
theorem pv (i : Nat) {x : Str} {pos : Pos} (hN : X.N[i]?=some x := by rfl) (hv : Vis X.env.scope x := by first | exact Or.inl rfl | exact Or.inr (Or.inl rfl) | exact Or.inr (Or.inr rfl)) (hd : (x == ("__debug__" : Str))=false := by decide)
  (hcd:(x == ("__classdict__" : Str))=false:=by decide):PE X (.Name x pos) (Zrv i):=ZpE hN hv hd hcd
theorem ZmU:Zd0 X (.builtin "len") (fun xs H Q=>∃ a kvs,xs=[V.ref a]∧H a=some (.dK kvs)∧Q (.int kvs.length) H):=by
 intro pins s σ H xs us Q I r h
 obtain ⟨a,kvs,rfl,ha,q⟩:=h
 obtain ⟨u,rfl,ru⟩:=Zfb r
 cases ru
 exact ZsM I (.inl ha) fun t s' I'=>⟨.int kvs.length,H,I',⟨t,rfl⟩,q⟩
end
theorem Zc8 {A B:Prop} (h:B):if false=true then A else B:=by
 rw [if_neg Bool.false_ne_true]
 exact h
theorem Zex {A B:Prop} (h:A):if true=true then A else B:=by
 rw [if_pos rfl]
 exact h
def Same (H H':Hp):Prop:=∀ b o,H b=some o->H' b=some o
theorem Same.refl (H:Hp):Same H H:=fun _ _ h=>h
theorem Same.trans {H H1 H2:Hp} (a:Same H H1) (b:Same H1 H2):Same H H2:=fun c o h=>b c o (a c o h)
section
variable {κ:Type} [DecidableEq κ]
end
end L2
set_option maxHeartbeats 4000000
namespace L2
open PySem PySem.Spec PyProof.Rows
section
variable {P:Program} {w:World} {H H':Hp} {h h':Heap} {a:Addr} {o:HO}
theorem ObjOk.there (x:ObjOk P w H h a o):∃ q,h.get? a=some q:=by
 cases o with
 | lst xs=>obtain ⟨_,_,_,_,e⟩:=x; exact ⟨_,e⟩
 | tup xs=>obtain ⟨_,_,_,q,e,_⟩:=x; exact ⟨q,e⟩
 | dK kvs=>obtain ⟨_,_,_,_,q,_,_,e,_⟩:=x; exact ⟨q,e⟩
 | dT kvs=>obtain ⟨_,_,_,_,q,_,_,e,_⟩:=x; exact ⟨q,e⟩
 | set S n=>obtain ⟨q,_,_,_,e,_⟩:=x; exact ⟨q,e⟩
 | ins C dx fs=>obtain ⟨_,_,_,e,_⟩:=x; exact ⟨_,e⟩
 | own y=>exact x
 | xd fs=>obtain ⟨_,⟨q,_,_,e,_⟩,_⟩:=x; exact ⟨q,e⟩
 | rng lo hi=>obtain ⟨_,_,_,e⟩:=x; exact ⟨_,e⟩
 | frz ob u=>obtain ⟨e,_⟩:=x; exact ⟨_,e⟩
 | tbl ps=>exact ⟨_,x⟩
 | met f y=>exact ⟨_,x⟩
 | ext φ=>obtain ⟨_,e,_⟩:=x; exact e
theorem HOk.lean (x:HOk P w H h) (k:∀ b u,H b≠none->h.get? b=some u->h'.get? b=some u):HOk P w H h':=fun b u e =>
 (x b u e).stay (fun c v hc q=>k c v (by
  rcases hc with rfl | hc
  ·rw [e]; simp
  ·rw [hc]; simp) q) (fun _ q=>q) fun _ _ q=>q
end
structure Flies (P:Program) (w:World) (outer:List Env) (H H':Hp) (s s':Shared) (e:Addr) (cls:Value):Prop where
 os:s'.os=s.os
 bare:AllBare s'.gens
 un:Un (frs outer) [] H H' s.heap s'.heap
 fly:∃ B a0,Heap.FlyingW B outer e cls a0 s'.heap∧HOk P w H' B∧(∀ b o,s.heap.get? b=some o->H b=none->b ∉ frs outer->B.get? b=some o) ∧
  ∀ b o,s.heap.get? b=some o->b ∉ frs outer->∃ o',B.get? b=some o'
noncomputable def CX1 (P:Program) (w:World):CXT:=fun outer H s E u s'=>∃ e cls H',u=.ref e∧Flies P w outer H H' s s' e cls∧E cls none H'
section
variable {X:Cx} {pins:List (Addr × Obj)} {σ:St} {H H':Hp} {s s':Shared} {e:Addr} {cls:Value}
theorem Flies.inv (f:Flies X.prog X.w X.stack H H' s s' e cls) (I:Inv X pins σ H s):Inv X pins σ H' s':=by
 obtain ⟨B,a0,fl,hB,_,_⟩:=f.fly
 exact I.call' (ch:=[]) f.os f.un (hB.kept fl.1) f.bare (fun b z=>absurd z (by simp))
theorem Inv.nst (I:Inv X pins σ H s) {b:Addr} {o:Obj} (q:X.s₀.heap.get? b=some o) (hb:b ∉ X.fs):b ∉ frs X.stack:=fun z=>by
 rcases List.mem_cons.mp (I.stkSub b z) with y | y
 ·exact absurd (Nat.lt_of_lt_of_le (Heap.lt_size q) I.ok.above) (by rw [y]; exact Nat.lt_irrefl _)
 ·exact hb y
theorem Flies.leaves {M : Model} {Q : Unit → Shared → Prop} {E : Value → Shared → Prop} (f : Flies X.prog X.w X.stack H H' s s' e cls) (I : Inv X pins σ H s)
  (hs:X.stack=X.env :: X.outer) (hf:X.env.frame=some X.env.locals) (hx:X.ex=[])
  (hQ:∀ s'',Flies X.prog X.w X.outer X.H₀ H' X.s₀ s'' e cls->Q () s''):wpAny M X.A (leaving X.env (.ref e)) Q E s':=by
 have J:=f.inv I
 obtain ⟨B,a0,fl,hB,kB,tB⟩:=f.fly
 rw [hs] at fl
 have nx:∀ b:Addr,b ∉ X.ex:=fun b=>by rw [hx]; simp
 refine wpAny_leaves_onW (by rw [I.ok.frames,hs]) hf fl fun h' fl' up=>hQ _ ?_
 have slot:∀ b o,X.s₀.heap.get? b=some o->b∈X.fs->∃ sl,h'.get? b=some { o with slots:=sl }:=fun b o q hb=>by
  obtain ⟨sl,e1⟩:=J.base.slot b o q (I.ok.frf b hb) hb (nx b)
  obtain ⟨_,o',ho',hn⟩:=J.funs.mem hb
  rw [e1] at ho'
  cases ho'
  obtain ⟨sl',e2⟩:=up b _ e1 hn
  exact ⟨sl',e2⟩
 have keepB:∀ b o,X.s₀.heap.get? b=some o->X.H₀ b=none->b ∉ X.fs->B.get? b=some o:=fun b o q n hb =>
  kB b o (I.base.keep b o q n hb (nx b)) (I.base.free b o q n (nx b)) (I.nst q hb)
 have thereB:∀ b o,X.s₀.heap.get? b=some o->b ∉ X.fs->∃ o',B.get? b=some o':=fun b o q hb=>by
  obtain ⟨o1,e1⟩:=I.base.there b o q (nx b)
  exact tB b o1 e1 (I.nst q hb)
 refine ⟨J.os,J.bare,⟨fun b o q n hb _=>fl'.1 b o (keepB b o q n hb),fun b o q _ hb _=>slot b o q hb,fun b o q n _=>J.base.free b o q n (nx b),fun b o q _=>?_,J.base.tups,J.base.frzs,J.base.tbls⟩,
  B,a0,fl',hB,keepB,thereB⟩
 by_cases hb:b∈X.fs
 ·obtain ⟨sl,e2⟩:=slot b o q hb
  exact ⟨_,e2⟩
 ·obtain ⟨o1,e1⟩:=thereB b o q hb
  exact ⟨o1,fl'.1 b o1 e1⟩
theorem Zk2 {M : Model} {Q : Unit → Shared → Prop} {E : Value → Shared → Prop} {h1 : Heap} {vs : List Value} (I : Inv X pins σ H s) (mk : Heap.MadeExcOf s.heap h1 e cls vs)
  (hs:X.stack=X.env :: X.outer) (hf:X.env.frame=some X.env.locals) (hx:X.ex=[])
  (hQ:∀ s'',Flies X.prog X.w X.outer X.H₀ H X.s₀ s'' e cls->Q () s''):wpAny M X.A (leaving X.env (.ref e)) Q E { s with heap:=h1 }:=by
 have nx:∀ b:Addr,b ∉ X.ex:=fun b=>by rw [hx]; simp
 have hid:∀ b o,s.heap.get? b=some o->b ∉ frs X.stack->(W.hideAll s.heap (frs X.stack)).get? b=some o:=fun b o q n=>W.hideAll_get _ q n
 have FF:s.heap.FunFrames (W.hideAll s.heap (frs X.stack)) X.stack :=
  W.funFrames_hide I.stack fun env he a ha=>List.mem_filterMap.mpr ⟨env,he,ha⟩
 have hB:HOk X.prog X.w H (W.hideAll s.heap (frs X.stack)):=I.hok.lean fun b u n q=>hid b u q fun z=>n (I.stkFree b z)
 have sub:∀ b o,(W.hideAll s.heap (frs X.stack)).get? b=some o->s.heap.get? b=some o:=fun b o q=>W.of_hideAll _ q
 generalize W.hideAll s.heap (frs X.stack)=B at *
 rw [hs] at FF
 refine wpAny_leaves_madeW (s:={ s with heap:=h1 }) (by rw [I.ok.frames,hs]) hf sub FF mk fun h' t fl' _ _ up=>hQ _ ?_
 have slot:∀ b o,X.s₀.heap.get? b=some o->b∈X.fs->∃ sl,h'.get? b=some { o with slots:=sl }:=fun b o q hb=>by
  obtain ⟨sl,e1⟩:=I.base.slot b o q (I.ok.frf b hb) hb (nx b)
  obtain ⟨_,o',ho',hn⟩:=I.funs.mem hb
  rw [e1] at ho'
  cases ho'
  obtain ⟨sl',e2⟩:=up b _ (mk.keeps _ _ e1) hn
  exact ⟨sl',e2⟩
 have keepB:∀ b o,X.s₀.heap.get? b=some o->X.H₀ b=none->b ∉ X.fs->B.get? b=some o:=fun b o q n hb =>
  hid b o (I.base.keep b o q n hb (nx b)) (I.nst q hb)
 have thereB:∀ b o,X.s₀.heap.get? b=some o->b ∉ X.fs->∃ o',B.get? b=some o':=fun b o q hb=>by
  obtain ⟨o1,e1⟩:=I.base.there b o q (nx b)
  exact ⟨o1,hid b o1 e1 (I.nst q hb)⟩
 refine ⟨I.os,I.bare,⟨fun b o q n hb _=>fl'.1 b o (keepB b o q n hb),fun b o q _ hb _=>slot b o q hb,fun b o q n _=>I.base.free b o q n (nx b),fun b o q _=>?_,I.base.tups,I.base.frzs,I.base.tbls⟩,
  _,_,fl',hB,keepB,thereB⟩
 by_cases hb:b∈X.fs
 ·obtain ⟨sl,e2⟩:=slot b o q hb
  exact ⟨_,e2⟩
 ·obtain ⟨o1,e1⟩:=thereB b o q hb
  exact ⟨o1,fl'.1 b o1 e1⟩
end
abbrev XS:=St->XK
def ZdY (CX:CXT) (X:Cx) (E:XS):Prop:=∀ (pins:List (Addr × Obj)) (σ:St) (H:Hp) (s:Shared) (e:Value) (s':Shared),Inv X pins σ H s->CX X.stack H s (E σ) e s'->X.xe e s'
def ZpF (X:Cx) (E:XS):Prop:=∀ (pins:List (Addr × Obj)) (σ:St) (H:Hp) (s:Shared) (h1:Heap) (e:Addr) (cls:Value) (vs:List Value),Inv X pins σ H s->Heap.MadeExcOf s.heap h1 e cls vs->E σ cls none H->X.xe (.ref e) { s with heap:=h1 }
theorem Zai {P:Program} {w:World} {X:Cx}:ZdY (CX1 P w) X (fun _=>E0):=fun _ _ _ _ _ _ _ ⟨_,_,_,_,_,z⟩=>False.elim z
theorem ZrX {P:Program} {w:World} {X:Cx}:ZkI (CX1 P w) X E0:=fun _ _ _ _ _ _ _ ⟨_,_,_,_,_,z⟩=>False.elim z
section
variable {P:Program} {w:World} {K:W.Frag} {mg:Str->Option Value} {base:Heap} {N:List Str} {qual:Str} {scope:Scope} {f:Addr} {cd:Value} {A:Around} {outer:List Env} {s:Shared} {H:Hp} {E:XK}
theorem ZbT:ZdY (CX1 P w) (ZoB (CX1 P w) P w K mg base N qual scope f cd A outer s H E) (fun _=>E):=by
 rintro pins σ H1 s1 u s' I ⟨e,cls,H',rfl,fl,q⟩
 exact fl.leaves I rfl rfl rfl fun s'' f''=>⟨e,cls,H',rfl,f'',q⟩
theorem Zdj:ZpF (ZoB (CX1 P w) P w K mg base N qual scope f cd A outer s H E) (fun _=>E):=by
 intro pins σ H1 s1 h1 e cls vs I mk q
 exact Zk2 I mk rfl rfl rfl fun s'' f''=>⟨e,cls,H1,rfl,f'',q⟩
end
section
variable {X:Cx} {CX:CXT} {k:Nat} {f C:Addr} {fd:FuncData} {ps:List Str} {sp:Sp} {dvs:List V} {ds:List Value} {E:XS} {x m:Str} {p pos apos:Pos} {e o:Expr} {es:List Expr} {ta:TE} {t:TA}
def Zro (sp:Sp) (dvs:List V) (E:XS) (t:TA):TE:=fun σ H Q=>t σ H fun vs H1=>sp (vs++dvs) H1 Q (E σ)
theorem Zlc {pins : List (Addr × Obj)} {σ : St} {H : Hp} {s : Shared} {Q : VK} {us : List Value} {vs : List V} (F : FnOk X.prog X.w X.K X.mg X.base CX k f fd ps sp) (hr : Room k X.A) (hb : Binds X.K fd ps ds) (hd : Vals dvs ds) (hx : ZdY CX X E)
  (I:Inv X pins σ H s) (r:Vals vs us) (h:sp (vs++dvs) H Q (E σ)):wpAny (model X.prog X.w) X.A (call (.ref f) us) (EP X pins σ Q) X.xe s:=by
 have r2:Vals (vs++dvs) (us++ds):=r.append hd
 have hl:(us++ds).length=ps.length:=by rw [← r2.length]; exact F.len _ _ _ _ h
 refine wpAny_call (codeAny_mono (F.run X.A X.stack s H ⟨us,[]⟩ (us++ds) (vs++dvs) Q (E σ) hr I.env0 (hb s us I.kIn hl) r2 h) fun r s' hq=>?_)
 cases r with
 | error e=>exact hx pins σ H s e s' I hq
 | ok fl =>
  cases fl with
  | ret u=>exact I.after hq
  | next=>exact False.elim hq
  | brk=>exact False.elim hq
  | cont=>exact False.elim hq
theorem Zas (F : FnOk X.prog X.w X.K X.mg X.base CX k f fd ps sp) (hr : Room k X.A) (hg : Gl X x) (hm : X.mg x=some (.ref f)) (hk : W.keepIn X.K (.ref f)=true) (hb : Binds X.K fd ps ds) (hd : Vals dvs ds) (hx : ZdY CX X E)
  (ha:PA X (e :: es) t) (hdb:(x == ("__debug__" : Str))=false:=by decide) (he:starEach (e :: es) X.env=(false,eval e X.env) :: starEach es X.env:=by rfl) (hpl:(backTo pos (starEach es X.env)).any (·.1)=false:=by rfl) :
  PE X (.Call (.Name x p) (e :: es) [] pos) (Zro sp dvs E t):=by
 intro pins s σ H Q I h
 refine wpAny_Call_Name_kw (ZhY I hg hm ?_ hdb)
 refine W.callWith_K (h₀:=X.base) I.ok.mod.kin hk (thn (ha pos pins s σ H _ I h) fun us s1 ⟨vs,H1,I1,r,q⟩=>⟨I1.kIn,?_⟩) he hpl
 exact Zlc F hr hb hd hx I1 r q
end
section
variable {K:W.Frag} {h:Heap} {C:Addr} {bmB:List Value} {newId:String}
theorem ZpO (X : K.In h) (q : W.excIn K C bmB newId=true) : ∃ bm N nm qn bs hdct sn sub ab col dd k0 k1 k2 k3 k5 mN,
  h.get? C=some (excClassObj nm qn C N bs bm hdct sn sub ab col dd k0 k1 k2 k3 k5 newId)∧h.Ns N mN∧mN "__init__"=none∧OwnTail h bmB bm:=by
 unfold W.excIn at q
 split at q
 case h_2=>cases q
 case h_1 dict0 cdat slots0 found =>
  split at q
  case h_2=>cases q
  case h_1 C1 rest0 s0 s1 s2 s3 nid s5 mroEq slEq =>
   simp only [Bool.and_eq_true,beq_iff_eq,Bool.not_eq_true'] at q
   have q1:=q.1.1.1.1.1
   have q2:=q.1.1.1.1.2
   have q3:=q.1.1.1.2
   have q4:=q.1.1.2
   have q5:=q.1.2
   have q6:=q.2
   subst q1 q2
   cases cdat with
   | mk nmX basesX mroX nsX qualX hdX snX subX abX colX delX =>
    dsimp only at mroEq q3 q5 q6
    subst mroEq
    subst q3
    have es:slots0=#[s0,s1,s2,s3,some (.builtin nid),s5]:=by
     cases slots0 with
     | mk l=>exact congrArg _ slEq
    subst es
    exact ⟨rest0,nsX,nmX,qualX,basesX,hdX,snX,subX,abX,colX,dict0,s0,s1,s2,s3,s5,_,X _ _ found,.of_isNs (W.isNs_of_in X q5),W.nsMap_none_of_in X q5 q6,W.tail_of_in X q4⟩
end
section
variable {X:Cx} {x:Str} {C:Addr} {np cpos pos:Pos} {e₀:Expr} {rest:List Expr} {t:TA} {bmB:List Value} {newId B initId:String} {E:XS}
def Zrp (C:Addr) (E:XS) (t:TA):TS:=fun _ σ H=>t σ H fun vs H1=>vs.length≤sizeLine∧E σ (.ref C) none H1
theorem Zdh (hg : Gl X x) (hm : X.mg x=some (.ref C)) (q : W.excIn X.K C bmB newId=true) (FB : ExcBaseFacts B newId initId bmB) (hc : X.calm=true) (hx : ZpF X E) (ha : PA X (e₀ :: rest) t)
  (hd:(x == ("__debug__" : Str))=false:=by decide) (he:starEach (e₀ :: rest) X.env=(false,eval e₀ X.env) :: starEach rest X.env:=by rfl) (hpl:(backTo cpos (starEach rest X.env)).any (·.1)=false:=by rfl) :
  PS X (.Raise (some (.Call (.Name x np) (e₀ :: rest) [] cpos)) none pos) (Zrp C E t):=by
 intro pins s σ H D I h
 obtain ⟨bm,N,nm,qn,bs,hdct,sn,sub,ab,col,dd,k0,k1,k2,k3,k5,mN,hC,hN,hni,T⟩:=ZpO I.mod.kin q
 have hpl':(backTo cpos (starEach (e₀ :: rest) X.env)).any (·.1)=false:=by
  rw [he]
  exact hpl
 refine wpAny_Raise_call_subT (C:=C) (nm:=nm) (q:=qn) (N:=N) (bs:=bs) (bm:=bm) (hdct:=hdct) (sn:=sn) (sub:=sub) (ab:=ab) (col:=col) (dd:=dd) (k0:=k0) (k1:=k1) (k2:=k2)
  (k3:=k3) (k5:=k5) FB (mN:=mN) (T.hasType FB.hasBase) (I.ok.hd hc) hpl' hni (ZhY I hg hm ⟨rfl,?_⟩ hd)
 have g:=ha cpos pins s σ H _ I h
 rw [he] at g ⊢
 refine Calls.evalArgs_plain (wpAny_mono g (fun us s1 r1=>?_) fun _ _ y=>y)
 obtain ⟨vs,H1,I1,rv,z,q1⟩:=r1
 exact ⟨rfl,by rw [← rv.length]; exact z,I1.bk _ _ hC,hN.keeps I1.bk,T.keeps I1.bk,fun h1 e mk=>hx pins σ H1 s1 h1 e (.ref C) us I1 mk q1⟩
end
def ZoO (cls:Value) (e:Addr):Heap->Prop:=fun h=>∃ o vs,h.get? e=some o∧o.cls=cls∧o.data=.fields vs
noncomputable def ZpN (cls:Value) (e:Addr):HO:=.ext (ZoO cls e)
section
variable {P:Program} {w:World} {H H':Hp} {h h':Heap} {a:Addr} {o:HO}
theorem HOk.track (x:HOk P w H h) (n:H a=none) (new:ObjOk P w (upd H a o) h a o):HOk P w (upd H a o) h:=fun b u e=>by
 by_cases hb:b=a
 ·subst hb
  rw [Zab] at e
  cases e
  exact new
 ·rw [Zak hb] at e
  exact (x b u e).stay (fun _ _ _ q=>q) (fun c q=>by rw [Zak (Zap q n)]; exact q) fun c xs q=>by rw [Zak (Zap q n)]; exact q
theorem ZpV {cls:Value} {e:Addr} (x:ZoO cls e h):ObjOk P w H h e (ZpN cls e):=by
 obtain ⟨ob,vs,h1,h2,h3⟩:=id x
 exact ⟨x,⟨ob,h1⟩,fun g1 g2 ⟨o1,vs1,z1,z2,z3⟩ k=>⟨o1,vs1,k o1 z1,z2,z3⟩⟩
end
section
variable {P:Program} {w:World} {outer:List Env} {H H':Hp} {s s':Shared} {e:Addr} {cls:Value}
theorem Flies.move (f : Flies P w outer H H' s s' e cls) : ∃ B a0, Heap.FlyingW B outer e cls a0 s'.heap ∧
  ∀ h5,Heap.FlyingW B outer e cls a0 h5->s'.heap.UpToSlots h5->Flies P w outer H H' s { s' with heap:=h5 } e cls:=by
 obtain ⟨B,a0,fl,hB,kB,tB⟩:=f.fly
 refine ⟨B,a0,fl,fun h5 fl5 up=>⟨f.os,f.bare,⟨fun b o q n hb _=>fl5.1 b o (kB b o q n hb),fun b o q n hb hx=>?_,f.un.free,fun b o q hx=>?_,f.un.tups,f.un.frzs,f.un.tbls⟩,B,a0,fl5,hB,kB,tB⟩⟩
 ·obtain ⟨sl,e1⟩:=f.un.slot b o q n hb hx
  obtain ⟨_,o',ho',hn⟩:=fl.2.2.1.mem hb
  rw [e1] at ho'
  cases ho'
  obtain ⟨sl',e2⟩:=up b _ e1 hn
  exact ⟨sl',e2⟩
 ·by_cases hb:b∈frs outer
  ·obtain ⟨_,o',ho',hn⟩:=fl.2.2.1.mem hb
   obtain ⟨sl',e2⟩:=up b _ ho' hn
   exact ⟨_,e2⟩
  ·obtain ⟨o1,e1⟩:=tB b o q hb
   exact ⟨o1,fl5.1 b o1 e1⟩
theorem Flies.new (f:Flies P w outer H H' s s' e cls):H' e=none∧s.heap.get? e=none∧ZoO cls e s'.heap:=by
 obtain ⟨B,a0,fl,hB,kB,tB⟩:=f.fly
 obtain ⟨oe,vs,h1,h2,h3,_⟩:=fl.first
 refine ⟨?_,?_,oe,vs,h1,h2,h3⟩
 ·cases q:H' e with
  | none=>rfl
  | some u =>
   obtain ⟨o1,e1⟩:=(hB e u q).there
   rw [fl.2.1] at e1
   cases e1
 ·cases q:s.heap.get? e with
  | none=>rfl
  | some u =>
   by_cases hb:e∈frs outer
   ·obtain ⟨_,o',ho',hn⟩:=fl.2.2.1.mem hb
    rw [h1] at ho'
    cases ho'
    exact absurd h3 (hn vs)
   ·obtain ⟨o1,e1⟩:=tB e u q hb
    rw [fl.2.1] at e1
    cases e1
end
section
variable {X:Cx} {pins:List (Addr × Obj)} {σ:St} {H H':Hp} {s s':Shared} {e:Addr} {cls:Value}
theorem Flies.caught (f:Flies X.prog X.w X.stack H H' s s' e cls) (I:Inv X pins σ H s):Inv X pins σ (upd H' e (ZpN cls e)) s':=by
 obtain ⟨n1,n2,ex⟩:=f.new
 have J:=f.inv I
 have ne:∀ b o,s.heap.get? b=some o->b≠e:=fun b o q z=>by
  rw [z,n2] at q
  cases q
 refine I.call' (ch:=[]) f.os ⟨f.un.keep,f.un.slot,fun b o q n hx=>?_,f.un.there,fun b xs q=>?_,fun b o u q=>?_,fun b ps q=>?_⟩ (J.hok.track n1 (ZpV ex)) f.bare (fun b z=>absurd z (by simp))
 ·rw [Zak (ne b o q)]
  exact f.un.free b o q n hx
 ·have z:=f.un.tups b xs q
  rw [Zak (Zap z n1)]
  exact z
 ·have z:=f.un.frzs b o u q
  rw [Zak (Zap z n1)]
  exact z
 ·obtain ⟨more,z⟩:=f.un.tbls b ps q
  exact ⟨more,by rw [Zak (Zap z n1)]; exact z⟩
end
noncomputable abbrev Cx.tryIn (X:Cx) (pins:List (Addr × Obj)) (W:Value->Shared->Prop):Cx:={ X with pn:=X.pn++pins,xe:=W }
noncomputable abbrev Cx.suite (X:Cx) (pins:List (Addr × Obj)) (e:Addr):Cx:={ X with pn:=X.pn++pins,A:=X.A.mark (some (.ref e)),calm:=false,xe:=fun _ _=>False }
section
variable {X:Cx} {pins pins':List (Addr × Obj)} {σ:St} {H H':Hp} {s s':Shared} {W:Value->Shared->Prop} {e:Addr}
theorem Inv.tryIn (I:Inv X pins σ H s) (W:Value->Shared->Prop):Inv (X.tryIn pins W) [] σ H s :=
 ⟨⟨I.ok.mod,I.ok.kind,I.ok.glob,I.ok.blt,I.ok.above,I.ok.inj,I.ok.has,I.ok.cab,I.ok.hd,I.ok.frames,I.ok.stk,I.ok.exf,I.ok.bs,I.ok.bsz,I.ok.noex,I.ok.exfs,I.ok.funs,I.ok.frf⟩,
  I.os,I.bare,I.base,I.loc,I.cell,I.free,I.freeC,fun p hp=>I.pin p (by rw [List.append_nil] at hp; exact hp),I.hok,I.len⟩
theorem Inv.untry (I:Inv (X.tryIn pins W) pins' σ H s):Inv X pins σ H s :=
 ⟨⟨I.ok.mod,I.ok.kind,I.ok.glob,I.ok.blt,I.ok.above,I.ok.inj,I.ok.has,I.ok.cab,I.ok.hd,I.ok.frames,I.ok.stk,I.ok.exf,I.ok.bs,I.ok.bsz,I.ok.noex,I.ok.exfs,I.ok.funs,I.ok.frf⟩,
  I.os,I.bare,I.base,I.loc,I.cell,I.free,I.freeC,fun p hp=>I.pin p (List.mem_append_left _ hp),I.hok,I.len⟩
theorem Inv.suite (I:Inv X pins σ H s) (e:Addr):Inv (X.suite pins e) [] σ H s :=
 ⟨⟨I.ok.mod,I.ok.kind,I.ok.glob,I.ok.blt,I.ok.above,I.ok.inj,I.ok.has,I.ok.cab,(fun z=>nomatch z),I.ok.frames,I.ok.stk,I.ok.exf,I.ok.bs,I.ok.bsz,I.ok.noex,I.ok.exfs,I.ok.funs,I.ok.frf⟩,
  I.os,I.bare,I.base,I.loc,I.cell,I.free,I.freeC,fun p hp=>I.pin p (by rw [List.append_nil] at hp; exact hp),I.hok,I.len⟩
theorem Inv.unsuite (I:Inv (X.suite pins e) pins' σ H s) (hd:X.calm=true->X.A.handled=none):Inv X pins σ H s :=
 ⟨⟨I.ok.mod,I.ok.kind,I.ok.glob,I.ok.blt,I.ok.above,I.ok.inj,I.ok.has,I.ok.cab,hd,I.ok.frames,I.ok.stk,I.ok.exf,I.ok.bs,I.ok.bsz,I.ok.noex,I.ok.exfs,I.ok.funs,I.ok.frf⟩,
  I.os,I.bare,I.base,I.loc,I.cell,I.free,I.freeC,fun p hp=>I.pin p (List.mem_append_left _ hp),I.hok,I.len⟩
theorem SP.untry {D:Ends} {f:Flow} (h:SP (X.tryIn pins W) pins' D f s'):SP X pins D f s':=by
 cases f with
 | next=>obtain ⟨σ',H',I,q⟩:=h; exact ⟨σ',H',I.untry,q⟩
 | brk=>obtain ⟨σ',H',I,q⟩:=h; exact ⟨σ',H',I.untry,q⟩
 | cont=>obtain ⟨σ',H',I,q⟩:=h; exact ⟨σ',H',I.untry,q⟩
 | ret u=>obtain ⟨v,σ',H',I,r,q⟩:=h; exact ⟨v,σ',H',I.untry,r,q⟩
theorem SP.unsuite {D:Ends} {f:Flow} (hd:X.calm=true->X.A.handled=none) (h:SP (X.suite pins e) pins' D f s'):SP X pins D f s':=by
 cases f with
 | next=>obtain ⟨σ',H',I,q⟩:=h; exact ⟨σ',H',I.unsuite hd,q⟩
 | brk=>obtain ⟨σ',H',I,q⟩:=h; exact ⟨σ',H',I.unsuite hd,q⟩
 | cont=>obtain ⟨σ',H',I,q⟩:=h; exact ⟨σ',H',I.unsuite hd,q⟩
 | ret u=>obtain ⟨v,σ',H',I,r,q⟩:=h; exact ⟨v,σ',H',I.unsuite hd,r,q⟩
theorem Zfq {M : Model} {A : Around} {E : Value → Shared → Prop} {i : Nat} {x : Str} {pos : Pos} {Q : Unit → Shared → Prop} (I : Inv X pins σ H s) (hN : X.N.Nodup) (hi : X.N[i]?=some x) (hk : X.env.scope.names.lookup x=some .local)
  (h:∀ s',Inv X pins (σ.set i none) H s'->Q () s'):wpAny M A (do bindName X.env x .none; unbindBehindTheSuite X.env x pos) Q E s:=by
 obtain ⟨m,hn,hl⟩:=id I.loc
 have hcls:(X.env.scope.kind == .class||(X.env.scope.kind == .module&&X.env.locals != X.env.globals))=false:=by rw [I.ok.kind]; rfl
 have hiσ:i<σ.length:=by rw [I.len]; exact (List.getElem?_eq_some_iff.mp hi).1
 have cne:=I.cne
 refine wpAny_nameGoes_keeps hk hn hcls fun h' v hn' hs=>h _ ?_
 obtain ⟨oL,_,_,hoL,_⟩:=id hn
 refine ⟨I.ok,I.os,I.bare,⟨fun b o e n hb hx=>?_,fun b o e n hb hx=>?_,I.base.free,fun b o e hx=>?_,I.base.tups,I.base.frzs,I.base.tbls⟩,⟨_,hn',fun j y v' e1 e2 e3=>?_⟩,fun y c e=>?_,I.free,I.freeC,fun p hp=>?_,fun b ob e=>?_,by simpa using I.len⟩
 ·exact (hs.2 b (Nat.ne_of_lt (Nat.lt_of_lt_of_le (Heap.lt_size e) I.ok.above))).trans (I.base.keep b o e n hb hx)
 ·obtain ⟨sl,e1⟩:=I.base.slot b o e n hb hx
  exact ⟨sl,(hs.2 b (Nat.ne_of_lt (Nat.lt_of_lt_of_le (Heap.lt_size e) I.ok.above))).trans e1⟩
 ·obtain ⟨o',e1⟩:=I.base.there b o e hx
  exact ⟨o',(hs.2 b (Nat.ne_of_lt (Nat.lt_of_lt_of_le (Heap.lt_size e) I.ok.above))).trans e1⟩
 ·by_cases hj:j=i
  ·subst hj
   rw [List.getElem?_set_self hiσ] at e2
   cases e2
  ·rw [List.getElem?_set_ne (Ne.symm hj)] at e2
   obtain ⟨u',r',q⟩:=hl j y v' e1 e2 e3
   refine ⟨u',r',?_⟩
   rcases q with ⟨k,e⟩ | ⟨k,c,e,z⟩
   ·refine .inl ⟨k,?_⟩
    have:y≠x:=fun e=>hj (ZiV hN e1 (e ▸ hi))
    simp [this,e]
   ·exact .inr ⟨k,c,e,z.sameBut hs (cne y c e)⟩
 ·obtain ⟨w',z⟩:=I.cell y c e
  exact ⟨w',z.sameBut hs (cne y c e)⟩
 ·obtain ⟨e,n,ne,nf,d⟩:=I.pin p hp
  exact ⟨(hs.2 p.1 ne).trans e,n,ne,nf,d⟩
 ·refine (I.hok b ob e).stay (fun c w' hc q=>(hs.2 c ?_).trans q) (fun _ q=>q) fun _ _ q=>q
  rintro rfl
  rcases hc with rfl | hc
  ·rw [I.free] at e; cases e
  ·rw [I.free] at hc; cases hc
end
theorem ZoK {X : Cx} {A : Around} {E : Value → Shared → Prop} {pins : List (Addr × Obj)} {s : Shared} {σ : St} {H : Hp} {x : Str} {u : Value} {pos : Pos} {Q : Value → Shared → Prop} (I : Inv X pins σ H s) (hg : Gl X x) (hm : X.mg x=some u) (h : Q u s)
  (hd:(x == ("__debug__" : Str))=false:=by decide):wpAny (model X.prog X.w) A (eval (.Name x pos) X.env) Q E s :=
 Calls.Name_function_global I.ok.kind hg (Calls.loadGlobal_global (by rw [I.ok.glob]; exact I.mod.glob.keeps I.bk) hm h) hd
noncomputable def Zlo (i:Nat) (D:Ends):Ends:={ nx:=fun σ H=>D.nx (σ.set i none) H,rt:=D.rt,bk:=fun σ H=>D.bk (σ.set i none) H,ct:=fun σ H=>D.ct (σ.set i none) H }
section
variable {X:Cx} {body suite:List Stmt} {b₀:Stmt} {x n:Str} {C:Addr} {np hpos pos:Pos} {bmB:List Value} {newId:String} {i:Nat} {tb:XS->TS} {ts:TS}
end
structure ExcK (K:W.Frag) (C:Addr):Prop where
 ga:W.findIn K (.ref C) "__getattribute__"=some (some (.builtin "BaseException.__getattribute__"))
 gt:W.findIn K (.ref C) "__getattr__"=some none
 cl:W.findIn K (.ref C) "__class__"=some (some (.builtin "object.__class__"))
 mb:W.mroIn K C (.type "BaseException")=some true
 mo:W.mroIn K C (.type "object")=some true
section
variable {prog:Program} {w:World} {A:Around} {E:Value->Shared->Prop} {K:W.Frag} {h:Heap} {g:Array GenState} {d:Drawn} {t:Nat} {os:OsState} {a C:Addr} {ob:Obj}
theorem Zhs:(".".intercalate ("object.__class__".cutAt '.').dropLast)="object":=by decide +kernel
theorem Zp2 {R : Result → Shared → Prop} (X : K.In h) (Z : ExcK K C) (hx : h.get? a=some ob) (hc : ob.cls=.ref C) (hq : R (.ok (.ret (.ref C))) ⟨h, g, d, t, os⟩) :
  codeAny (model prog w) A (.call (.builtin "getset_descriptor.__get__") ⟨[.builtin "object.__class__",.ref a,.ref C],[]⟩) R ⟨h,g,d,t,os⟩:=by
 have k5:(⟨h,g,d,t,os⟩:Shared).TypeIs (.builtin "object.__class__") "getset_descriptor":=F.typeOf_object_class
 have mo:W.Looks (model prog w) h (isSubtype (.ref C) (.type (".".intercalate ("object.__class__".cutAt '.').dropLast))) true:=by
  rw [Zhs]
  exact W.looks_mroIn X Z.mo
 refine codeAny_call_builtin F.slot_gs_get.plain F.entry_gs_get (F.slot_gs_get.check _ _ _ _ _ _ _ _ k5 (F.args_gs_get _ _ _) ?_)
 repeat (any_goals (first | assumption | (with_reducible refine wpAny_loadPart_at hx ?_; rw [hc]) | (with_reducible refine mo.at ?_) | wp_step))
 refine ⟨Code.quiet_builtin _ (by decide +kernel),codeAny_builtin F.entry_object_class ?_⟩
 repeat (any_goals (first | assumption | (with_reducible refine wpAny_loadPart_at hx ?_; rw [hc]) | wp_step))
theorem Znh {tk : Tok} {Q : Fin → Shared → Prop} (X : K.In h) (Z : ExcK K C) (hx : h.get? a=some ob) (hc : ob.cls=.ref C) (hq : Q (.done (.ret (.ref C))) ⟨h, g, d, t, os⟩) :
  wpAny (model prog w) A (Builtin.«object.__getattribute__» ⟨[.ref a,.str "__class__" tk],[]⟩) Q E ⟨h,g,d,t,os⟩:=by
 have k5:(⟨h,g,d,t,os⟩:Shared).TypeIs (.builtin "object.__class__") "getset_descriptor":=F.typeOf_object_class
 have f5:=F.typeOf_object_class
 have f6:=F.slot_gs_get.lookup
 have f7:=F.slot_gs_set.lookup
 have lc:=W.looks_findIn (M:=model prog w) X Z.cl
 repeat (any_goals (first | assumption | (with_reducible refine wpAny_loadPart_at hx ?_; rw [hc]) | (with_reducible refine lc.at ?_) | wp_step))
 refine Zp2 X Z hx hc ?_
 repeat (any_goals (first | assumption | wp_step))
theorem Zor {M : Model} {nameV : Value} {Q : Unit → Shared → Prop} (X : K.In h) (Z : ExcK K C) (hx : h.get? a=some ob) (hc : ob.cls=.ref C) (hq : Q () ⟨h, g, d, t, os⟩) :
  wpAny M A (checkBuiltinCall "BaseException.__getattribute__" ⟨[.ref a,nameV],[]⟩) Q E ⟨h,g,d,t,os⟩:=by
 have kd:builtinKind "BaseException.__getattribute__"=some .slot:=by decide +kernel
 have sp:splitId "BaseException.__getattribute__"=some ("BaseException","__getattribute__"):=by decide +kernel
 have mb:=W.looks_mroIn (M:=M) X Z.mb
 have ar:=F.args_bexc_ga (.ref a) nameV
 simp only [checkBuiltinCall,kd,sp]
 refine wpAny_bind ?_
 unfold isInstance
 repeat (first | (with_reducible refine wpAny_loadPart_at hx ?_; rw [hc]) | (with_reducible refine mb.at ?_) | wp_step)
 exact hq
theorem Zoy {tk : Tok} {R : Result → Shared → Prop} (X : K.In h) (Z : ExcK K C) (hx : h.get? a=some ob) (hc : ob.cls=.ref C) (hq : R (.ok (.ret (.ref C))) ⟨h, g, d, t, os⟩) :
  codeAny (model prog w) A (.call (.builtin "BaseException.__getattribute__") ⟨[.ref a,.str "__class__" tk],[]⟩) R ⟨h,g,d,t,os⟩ :=
 codeAny_call_builtin (F.excAttr_ValueError).ga.plain F.entry_bexc_ga (Zor X Z hx hc (Znh X Z hx hc hq))
theorem Zru {tk : Tok} {fill expr : Bool} {Q : Value → Shared → Prop} (X : K.In h) (Z : ExcK K C) (hx : h.get? a=some ob) (hc : ob.cls=.ref C) (hq : Q (.ref C) ⟨h, g, d, t, os⟩) :
  wpAny (model prog w) A (getAttrBy (.ref a) (.str "__class__" tk) fill expr) Q E ⟨h,g,d,t,os⟩:=by
 have f3:=(F.excAttr_ValueError).ga.bind (.ref a)
 have y0:(expr&&onTheHeap (Value.builtin "BaseException.__getattribute__"))=false:=by cases expr <;> rfl
 have y2:(Value.builtin "BaseException.__getattribute__" == Value.builtin "object.__getattribute__")=false:=by decide +kernel
 have y1:(onTheHeap (Value.ref C)&&Value.builtin "BaseException.__getattribute__" == Value.builtin "object.__getattribute__")=false:=by rw [y2]; rfl
 have lg:=W.looks_findIn (M:=model prog w) X Z.ga
 have lt:=W.looks_findIn (M:=model prog w) X Z.gt
 repeat (any_goals (first | assumption | (with_reducible refine wpAny_loadPart_at hx ?_; rw [hc]) | (with_reducible refine lg.at ?_) | (with_reducible refine lt.at ?_) | wp_step))
 refine Zoy X Z hx hc ?_
 repeat (any_goals (first | assumption | wp_step))
theorem Zpt {Q : Option Value → Shared → Prop} (X : K.In h) (Z : ExcK K C) (hx : h.get? a=some ob) (hc : ob.cls=.ref C) (hq : Q (some (.ref C)) ⟨h, g, d, t + 1, os⟩) :
  wpAny (model prog w) A (getAttr? (.ref a) "__class__") Q E ⟨h,g,d,t,os⟩:=by
 unfold getAttr? getAttrBy?
 repeat (any_goals (first | assumption | with_reducible apply Zru X Z hx hc | wp_step))
end
section
variable {K:W.Frag} {a C:Addr}
theorem ZoC (Z:ExcK K C):W.KitX K (.ref a) (.ref C) (ZoO (.ref C) a) where
 ty:=fun M h X p=>by
  obtain ⟨o,vs,h1,h2,_⟩:=p
  exact h2 ▸ (W.Looks.ld h1).andThen .now
 it:=fun M h X p=>by
  obtain ⟨cd,hc,_⟩:=Option.bind_eq_some_iff.mp Z.mo
  unfold W.clsIn at hc
  split at hc
  ·rename_i ho
   intro A' Q' E' s' k q
   unfold isType loadHead
   exact wpAny_bind (wpAny_loadPart (k _ _ (X _ _ ho)) (wpAny_pure q))
  ·cases hc
 ne:=fun h tp dd its n sl X htp=>by
  obtain ⟨cd,hc,_⟩:=Option.bind_eq_some_iff.mp Z.mo
  refine Bool.eq_false_iff.mpr fun q=>?_
  have e:C=tp:=Value.ref.inj (beq_iff_eq.mp q)
  subst e
  unfold W.clsIn at hc
  split at hc
  ·rename_i ho
   have z:=(X _ _ ho).symm.trans htp
   cases z
  ·cases hc
 ca:=fun {prog w A E Q s} X p k=>by
  obtain ⟨h,g,d,t,os⟩:=s
  obtain ⟨o,vs,h1,h2,_⟩:=p
  exact Zpt X Z h1 h2 k
end
inductive Kd (K:W.Frag) (H:Hp):V->Value->Prop where
 | of {x:V} {t:Value} (e:TyOf K H x t):Kd K H x t
 | exc {a C:Addr} (Z:ExcK K C) (e:H a=some (ZpN (.ref C) a)):Kd K H (.ref a) (.ref C)
 | sqt {a:Addr} {xs:List V} (e:SqT K H a xs):Kd K H (.ref a) (.type "tuple")
 | sql {a:Addr} {xs:List V} (e:SqL K H a xs):Kd K H (.ref a) (.type "list")
noncomputable def isC:V->Bool
 | .ref _=>true
 | .ty _=>true
 | _=>false
noncomputable def ZsG:V->Value
 | .ref a=>.ref a
 | .ty n=>.type n
 | _=>.none
section
variable {X:Cx} {A:Around}
theorem Zpz:Zd0 X (.builtin "isinstance") (fun xs H Q=>∃ x c t b,xs=[x,c]∧isC c=true∧Kd X.K H x t∧W.kitOne X.K t (ZsG c)=some b∧Q (.bl b) H):=by
 intro pins s σ H xs us Q I r h
 obtain ⟨x,c,t,b,rfl,ic,ty,e,q⟩:=h
 obtain ⟨u,v,rfl,rx,rc⟩:=Zmv r
 have ec:ZsG c=v:=by
  cases c with
  | ref a=>exact Eq.symm rc
  | ty n=>exact Eq.symm rc
  | _=>cases ic
 rw [ec] at e
 have fin:∀ tk,EP X pins σ Q (.bool b) { s with toks:=tk }:=fun tk=>⟨.bl b,H,I.tok tk,rfl,q⟩
 cases ty with
 | of ty=>exact Zow I rx ty e fin
 | @exc a C Z ea =>
  cases (show u=Value.ref a from rx)
  obtain ⟨p,_,_⟩:=(show ObjOk X.prog X.w H s.heap a (ZpN (.ref C) a) from I.hok a _ ea)
  exact W.kia_one (ZoC Z) I.kIn p e (fun z=>nomatch z) fin
 | @sqt a ys ea =>
  cases (show u=Value.ref a from rx)
  rcases ea with ea | ⟨o,its,n,h1,h2,_⟩
  ·obtain ⟨_,_,_,p⟩:=(show ObjOk X.prog X.w H s.heap a (.tup ys) from ea.ok I.hok)
   obtain ⟨o,h1,h2,_⟩:=p
   exact W.kia_one W.kitx_tuple I.kIn ⟨o,h1,h2⟩ e (fun z=>nomatch z) fin
  ·exact W.kia_one W.kitx_tuple I.kIn ⟨o,I.kIn _ _ h1,h2⟩ e (fun z=>nomatch z) fin
 | @sql a ys ea =>
  cases (show u=Value.ref a from rx)
  rcases ea with ea | ⟨o,its,n,h1,h2,_⟩
  ·obtain ⟨_,_,n,_,h1⟩:=(show ObjOk X.prog X.w H s.heap a (.lst ys) from ea.ok I.hok)
   exact W.kia_one W.kitx_list I.kIn ⟨_,h1,rfl⟩ e (fun z=>nomatch z) fin
  ·exact W.kia_one W.kitx_list I.kIn ⟨o,I.kIn _ _ h1,h2⟩ e (fun z=>nomatch z) fin
theorem Zbx:OpR X (binaryOp .FloorDiv) (rI (fun _ j=>j≠0∧j.natAbs<2 ^ 1000) fun i j=>.int (i.fdiv j)):=opI fun i j _ _ _ _ _ hc q =>
 floordiv_int hc.1 q (.inl (PyProof.noPylong_of_log2 (by
  have n:j.natAbs≠0:=fun z=>hc.1 (Int.natAbs_eq_zero.mp z)
  have:=(Nat.log2_lt n).mpr hc.2
  omega)))
theorem Fun.okX {P : Program} {w : World} {K : W.Frag} {mg : Str → Option Value} {base : Heap} {CX : CXT} {x qual : Str} {st : Stmt} {f : Addr} {fd : FuncData} {N ps : List Str} {k : Nat} {sp : Sp} (F : Fun K x qual st f fd) (S : FnScope N ps (Zal st))
  (len:∀ vs H Q E,sp vs H Q E->vs.length=ps.length)
  (hbody:∀ (cdv:Value) (A:Around) (outer:List Env) (s:Shared) (H:Hp) (vs:List V) (Q:VK) (E:XK),Room k (A.deeper (envOfC qual (Zal st) s.heap.objs.size f cdv))->sp vs H Q E →
   ∃ t,PSs (ZoB CX P w K mg base N qual (Zal st) f cdv A outer s H E) (ZbG st) t∧t { nx:=fun _ H'=>Q .non H',rt:=Q } (start N vs) H):FnOk P w K mg base CX (k+1) f fd ps sp:=by
 obtain ⟨oc,od,kV,doc,pm,an,cdv,ct,osl,rfl,lk,hcd⟩:=F.ex
 exact Zrz lk hcd S len fun A outer s H vs Q E hr hsp=>hbody cdv A outer s H vs Q E hr hsp
end
theorem ZpT:bootBuiltins "int"=some (.type "int"):=by decide +kernel
theorem ZqH:bootBuiltins "bool"=some (.type "bool"):=by decide +kernel
theorem ZgX:bootBuiltins "str"=some (.type "str"):=by decide +kernel
theorem Zgc:bootBuiltins "list"=some (.type "list"):=by decide +kernel
theorem Zpb:bootBuiltins "tuple"=some (.type "tuple"):=by decide +kernel
theorem Zjb:bootBuiltins "ValueError"=some (.type "ValueError"):=by decide +kernel
theorem Zcu:bootBuiltins "len"=some (.builtin "len"):=by decide +kernel
theorem ZrG:bootBuiltins "abs"=some (.builtin "abs"):=by decide +kernel
theorem ZlM:bootBuiltins "max"=some (.builtin "max"):=by decide +kernel
theorem Zl6:bootBuiltins "min"=some (.builtin "min"):=by decide +kernel
theorem ZjC:bootBuiltins "isinstance"=some (.builtin "isinstance"):=by decide +kernel
abbrev EBm:List Value:=[.type "ValueError",.type "Exception",.type "BaseException",.type "object"]
theorem EB:ExcBaseFacts "ValueError" "ValueError.__new__" "ValueError.__init__" EBm:=PySem.F.excBase_ValueError
theorem EBb:EBm.contains (.type "BaseException")=true:=by decide +kernel
theorem Zag {H:Hp} {p:Addr} {o:HO} (n:H p=none):Same H (upd H p o):=fun b u e=>by
 rw [Zak (Zap e n)]
 exact e
theorem Same.rd {H H':Hp} (e:Same H H') {a:Addr} {u:HO} (r:Rd H a u):Rd H' a u:=by
 rcases r with r | ⟨o,r⟩
 ·exact .inl (e _ _ r)
 ·exact .inr ⟨o,e _ _ r⟩
theorem Same.sqt {K:W.Frag} {H H':Hp} {a:Addr} {xs:List V} (e:Same H H') (h:SqT K H a xs):SqT K H' a xs:=by
 rcases h with h | h
 ·exact .inl (e.rd h)
 ·exact .inr h
theorem Same.sql {K:W.Frag} {H H':Hp} {a:Addr} {xs:List V} (e:Same H H') (h:SqL K H a xs):SqL K H' a xs:=by
 rcases h with h | h
 ·exact .inl (e.rd h)
 ·exact .inr h
theorem Same.ty {K:W.Frag} {H H':Hp} {x:V} {t:Value} (e:Same H H') (h:TyOf K H x t):TyOf K H' x t:=by
 cases h with
 | non=>exact .non
 | bl b=>exact .bl b
 | int i=>exact .int i
 | str y=>exact .str y
 | flt y=>exact .flt y
 | lst q=>exact .lst (e _ _ q)
 | frz q=>exact .frz (e _ _ q)
 | tup q=>exact .tup (e _ _ q)
 | dK q=>exact .dK (e _ _ q)
 | dT q=>exact .dT (e _ _ q)
 | ins q c a n tk m=>exact .ins (e _ _ q) c a n tk m
theorem Same.kd {K:W.Frag} {H H':Hp} {x:V} {t:Value} (e:Same H H') (h:Kd K H x t):Kd K H' x t:=by
 cases h with
 | of q=>exact .of (e.ty q)
 | exc Z q=>exact .exc Z (e _ _ q)
 | sqt q=>exact .sqt (e.sqt q)
 | sql q=>exact .sql (e.sql q)
def Zs9 (K:W.Frag) (t:TA):TE:=fun σ H Q=>t σ H fun xs H1=>∃ x c ty b,xs=[x,c]∧isC c=true∧Kd K H1 x ty∧W.kitOne K ty (ZsG c)=some b∧Q (.bl b) H1
theorem Zda {X : Cx} (K : W.Frag) {p pos : Pos} {e : Expr} {es : List Expr} {t : TA} (hg : Gl X "isinstance") (hm : X.mg "isinstance"=none) (ha : PA X (e :: es) t) (hK : X.K=K := by rfl)
  (he:starEach (e :: es) X.env=(false,eval e X.env) :: starEach es X.env:=by rfl) (hpl:(backTo pos (starEach es X.env)).any (·.1)=false:=by rfl):PE X (.Call (.Name "isinstance" p) (e :: es) [] pos) (Zs9 K t):=by
 subst hK
 exact Zaz (Zpz (X:=X)) hg hm ZjC ha (by decide) (by decide) he hpl
inductive D where
 | non | bl (b:Bool) | int (i:Int) | str (x:Str) | tup (ds:List D) | lst (ds:List D)
mutual
def Is (K:W.Frag) (H:Hp):D->V->Prop
 | .non,v=>v=.non
 | .bl b,v=>v=.bl b
 | .int i,v=>v=.int i
 | .str x,v=>v=.str x
 | .tup ds,v=>∃ a xs,v=.ref a∧SqT K H a xs∧IsL K H ds xs
 | .lst ds,v=>∃ a xs,v=.ref a∧SqL K H a xs∧IsL K H ds xs
def IsL (K:W.Frag) (H:Hp):List D->List V->Prop
 | [],xs=>xs=[]
 | d :: ds,xs=>∃ x r,xs=x :: r∧Is K H d x∧IsL K H ds r
end
mutual
noncomputable def deq:D->D->Bool
 | .non,.non=>true
 | .bl a,.bl b=>a == b
 | .bl a,.int b=>(if a then 1 else 0) == b
 | .int a,.bl b=>a == (if b then 1 else 0)
 | .int a,.int b=>a == b
 | .str a,.str b=>a == b
 | .tup a,.tup b=>Zh2 a b
 | .lst a,.lst b=>Zh2 a b
 | _,_=>false
noncomputable def Zh2:List D->List D->Bool
 | [],[]=>true
 | x :: xs,y :: ys=>deq x y&&Zh2 xs ys
 | _,_=>false
end
mutual
noncomputable def dep:D->Nat
 | .tup ds=>Zji ds+1
 | .lst ds=>Zji ds+1
 | _=>0
noncomputable def Zji:List D->Nat
 | []=>0
 | d :: ds=>max (dep d) (Zji ds)
end
section
variable {K:W.Frag} {H H':Hp}
mutual
theorem Same.is (e:Same H H'):∀ (d:D) {v:V},Is K H d v->Is K H' d v
 | .non,v,h=>h
 | .bl b,v,h=>h
 | .int i,v,h=>h
 | .str x,v,h=>h
 | .tup ds,v,h=>by
  obtain ⟨a,xs,rfl,q,r⟩:=h
  exact ⟨a,xs,rfl,e.sqt q,Same.isL e ds r⟩
 | .lst ds,v,h=>by
  obtain ⟨a,xs,rfl,q,r⟩:=h
  exact ⟨a,xs,rfl,e.sql q,Same.isL e ds r⟩
theorem Same.isL (e:Same H H'):∀ (ds:List D) {xs:List V},IsL K H ds xs->IsL K H' ds xs
 | [],xs,h=>h
 | d :: ds,xs,h=>by
  obtain ⟨x,r,rfl,h1,h2⟩:=h
  exact ⟨x,r,rfl,Same.is e d h1,Same.isL e ds h2⟩
end
theorem IsL.length:∀ {ds:List D} {xs:List V},IsL K H ds xs->xs.length=ds.length
 | [],xs,h=>by cases (show xs=[] from h); rfl
 | d :: ds,xs,h=>by
  obtain ⟨x,r,rfl,_,h2⟩:=h
  rw [List.length_cons,List.length_cons,IsL.length h2]
end
section
variable {X:Cx} {pins:List (Addr × Obj)} {σ:St} {H:Hp} {s:Shared}
theorem Inv.isList (I:Inv X pins σ H s) {a:Addr} {xs:List V} (h:SqL X.K H a xs):∃ its:List Value,Vals xs its∧s.heap.IsList a its.toArray:=by
 rcases h with h | ⟨o,its,n,h1,h2,_,h3,_,r⟩
 ·obtain ⟨_,its,n,r,e⟩:=(show ObjOk X.prog X.w H s.heap a (.lst xs) from h.ok I.hok)
  exact ⟨its,r,_,e,rfl,n,rfl⟩
 ·exact ⟨its.toList,r,o,I.kIn _ _ h1,h2,n,by simpa using h3⟩
theorem Inv.isTup (I:Inv X pins σ H s) {a:Addr} {xs:List V} (h:SqT X.K H a xs):∃ its:List Value,Vals xs its∧s.heap.IsTuple a its.toArray:=by
 rcases h with h | ⟨o,its,n,h1,h2,h3,_,r⟩
 ·obtain ⟨_,its,r,e⟩:=(show ObjOk X.prog X.w H s.heap a (.tup xs) from h.ok I.hok)
  exact ⟨its,r,e⟩
 ·exact ⟨its.toList,r,o,I.kIn _ _ h1,h2,n,by simpa using h3⟩
theorem Zdf:∀ {ds ds':List D},ds.length≠ds'.length->Zh2 ds ds'=false
 | [],[],h=>absurd rfl h
 | [],_ :: _,_=>rfl
 | _ :: _,[],_=>rfl
 | d :: ds,d' :: ds',h=>by
  unfold Zh2
  rw [Zdf (ds:=ds) (ds':=ds') fun z=>h (by rw [List.length_cons,List.length_cons,z]),Bool.and_false]
noncomputable def Zgw (ds ds':List D) (j:Nat):Bool:=deq (ds.getD j .non) (ds'.getD j .non)
theorem ZjB:∀ {ds ds':List D},ds.length=ds'.length->(List.range ds.length).all (Zgw ds ds')=Zh2 ds ds'
 | [],[],_=>rfl
 | [],_ :: _,h=>by cases h
 | _ :: _,[],h=>by cases h
 | d :: ds,d' :: ds',h=>by
  have h':ds.length=ds'.length:=by simpa using h
  rw [List.length_cons,List.range_succ_eq_map,List.all_cons,List.all_map]
  unfold Zh2
  rw [← ZjB h']
  rfl
theorem Inv.tup_fun (I:Inv X pins σ H s) {a:Addr} {xs ys:List V} (h:SqT X.K H a xs) (h':SqT X.K H a ys):xs=ys:=by
 obtain ⟨us,r,o,e,_,n,d⟩:=I.isTup h
 obtain ⟨us',r',o',e',_,n',d'⟩:=I.isTup h'
 rw [e] at e'
 cases e'
 rw [d] at d'
 injection d' with d1 _
 have z:us=us':=by simpa using d1
 subst z
 exact r.inj r'
theorem Inv.lst_fun (I:Inv X pins σ H s) {a:Addr} {xs ys:List V} (h:SqL X.K H a xs) (h':SqL X.K H a ys):xs=ys:=by
 obtain ⟨us,r,o,e,_,n,d⟩:=I.isList h
 obtain ⟨us',r',o',e',_,n',d'⟩:=I.isList h'
 rw [e] at e'
 cases e'
 rw [d] at d'
 injection d' with d1 _
 have z:us=us':=by simpa using d1
 subst z
 exact r.inj r'
theorem Inv.tup_lst (I:Inv X pins σ H s) {a:Addr} {xs ys:List V} (h:SqT X.K H a xs) (h':SqL X.K H a ys):False:=by
 obtain ⟨us,r,o,e,c,_⟩:=I.isTup h
 obtain ⟨us',r',o',e',c',_⟩:=I.isList h'
 rw [e] at e'
 cases e'
 rw [c] at c'
 exact absurd (Value.type.inj c') (by decide)
mutual
theorem ZrE (I:Inv X pins σ H s):∀ (d d':D) {v:V},Is X.K H d v->Is X.K H d' v->d=d'
 | .non,d',v,h,h'=>by
  cases (show v=.non from h)
  cases d' <;> first | rfl | (obtain ⟨_,_,z,_⟩:=h'; cases z; done) | cases h'
 | .bl c,d',v,h,h'=>by
  cases (show v=.bl c from h)
  cases d' <;> first | rfl | (obtain ⟨_,_,z,_⟩:=h'; cases z; done) | (cases h'; done) | (cases h'; rfl)
 | .int c,d',v,h,h'=>by
  cases (show v=.int c from h)
  cases d' <;> first | rfl | (obtain ⟨_,_,z,_⟩:=h'; cases z; done) | (cases h'; done) | (cases h'; rfl)
 | .str c,d',v,h,h'=>by
  cases (show v=.str c from h)
  cases d' <;> first | rfl | (obtain ⟨_,_,z,_⟩:=h'; cases z; done) | (cases h'; done) | (cases h'; rfl)
 | .tup ds,d',v,h,h'=>by
  obtain ⟨a,xs,rfl,q,hl⟩:=h
  cases d' with
  | tup ds' =>
   obtain ⟨a',xs',e,q',hl'⟩:=h'
   cases e
   rw [I.tup_fun q q'] at hl
   rw [ZhO I ds ds' hl hl']
  | lst ds' =>
   obtain ⟨a',xs',e,q',hl'⟩:=h'
   cases e
   exact (I.tup_lst q q').elim
  | _=>cases h'
 | .lst ds,d',v,h,h'=>by
  obtain ⟨a,xs,rfl,q,hl⟩:=h
  cases d' with
  | lst ds' =>
   obtain ⟨a',xs',e,q',hl'⟩:=h'
   cases e
   rw [I.lst_fun q q'] at hl
   rw [ZhO I ds ds' hl hl']
  | tup ds' =>
   obtain ⟨a',xs',e,q',hl'⟩:=h'
   cases e
   exact (I.tup_lst q' q).elim
  | _=>cases h'
theorem ZhO (I:Inv X pins σ H s):∀ (ds ds':List D) {xs:List V},IsL X.K H ds xs->IsL X.K H ds' xs->ds=ds'
 | [],ds',xs,h,h'=>by
  cases (show xs=[] from h)
  cases ds' with
  | nil=>rfl
  | cons d r=>obtain ⟨_,_,z,_⟩:=h'; cases z
 | d :: ds,ds',xs,h,h'=>by
  obtain ⟨x,r,rfl,h1,h2⟩:=h
  cases ds' with
  | nil=>cases h'
  | cons d' ds' =>
   obtain ⟨x',r',e,h1',h2'⟩:=h'
   cases e
   rw [ZrE I d d' h1 h1',ZhO I ds ds' h2 h2']
end
mutual
theorem Zo2:∀ d:D,deq d d=true
 | .non=>rfl
 | .bl b=>by simp [deq]
 | .int i=>by simp [deq]
 | .str x=>by simp [deq]
 | .tup ds=>by simp only [deq]; exact Zev ds
 | .lst ds=>by simp only [deq]; exact Zev ds
theorem Zev:∀ ds:List D,Zh2 ds ds=true
 | []=>rfl
 | d :: ds=>by simp only [Zh2,Zo2 d,Zev ds,Bool.and_self]
end
theorem Zge {α:Type} {l:List α} {i:Nat} {x y:α} (h:l[i]?=some x):l.getD i y=x:=by simp [List.getD,h]
theorem Zny {ds ds' : List D} {xs xs' : List V} {us us' : List Value} {a a' : Addr} {A : Around} (I : Inv X pins σ H s) (hl : IsL X.K H ds xs) (hl' : IsL X.K H ds' xs') (rv : Vals xs us) (rv' : Vals xs' us')
  (z:s.heap.IsTuple a us.toArray) (z':s.heap.IsTuple a' us'.toArray) (hu:A.units<cLine)
  (it:∀ (j:Nat) (d d':D) (u u':Value),ds[j]?=some d->ds'[j]?=some d'->us[j]?=some u->us'[j]?=some u'->SeqAt.EqAt A.in1 s u u' (deq d d')):SeqAt.RcAt A s (.ref a) (.ref a') (Zh2 ds ds'):=by
 have e1:us.length=ds.length:=by rw [← rv.length,hl.length]
 have e2:us'.length=ds'.length:=by rw [← rv'.length,hl'.length]
 have g:=SeqAt.RcAt.tuples (e:=Zgw ds ds') z z' hu fun j h1 h2=>by
  have g1:j<ds.length:=by rw [← e1]; simpa using h1
  have g2:j<ds'.length:=by rw [← e2]; simpa using h2
  have k1:ds[j]?=some ds[j]:=List.getElem?_eq_getElem g1
  have k2:ds'[j]?=some ds'[j]:=List.getElem?_eq_getElem g2
  unfold Zgw
  rw [Zge k1,Zge k2]
  exact it j _ _ _ _ k1 k2 (by simp) (by simp)
 have en:((List.range (min us.toArray.size us'.toArray.size)).all (Zgw ds ds')&&us.toArray.size == us'.toArray.size)=Zh2 ds ds':=by
  simp only [List.size_toArray,e1,e2]
  by_cases q:ds.length=ds'.length
  ·rw [← q,Nat.min_self,ZjB q,beq_self_eq_true,Bool.and_true]
  ·rw [Zdf q,(beq_eq_false_iff_ne.mpr q),Bool.and_false]
 rw [en] at g
 exact g
theorem ZnQ {ds ds' : List D} {xs xs' : List V} {us us' : List Value} {a a' : Addr} {A : Around} (I : Inv X pins σ H s) (hl : IsL X.K H ds xs) (hl' : IsL X.K H ds' xs') (rv : Vals xs us) (rv' : Vals xs' us')
  (z:s.heap.IsList a us.toArray) (z':s.heap.IsList a' us'.toArray) (hu:A.units<cLine)
  (it:∀ (j:Nat) (d d':D) (u u':Value),ds[j]?=some d->ds'[j]?=some d'->us[j]?=some u->us'[j]?=some u'->SeqAt.EqAt A.in1 s u u' (deq d d')):SeqAt.RcAt A s (.ref a) (.ref a') (Zh2 ds ds'):=by
 have e1:us.length=ds.length:=by rw [← rv.length,hl.length]
 have e2:us'.length=ds'.length:=by rw [← rv'.length,hl'.length]
 by_cases q:ds.length=ds'.length
 ·have g:=SeqAt.RcAt.lists (e:=Zgw ds ds') z z' (by simp only [List.size_toArray,e1,e2,q]) hu fun j h1 h2=>by
   have g1:j<ds.length:=by rw [← e1]; simpa using h1
   have g2:j<ds'.length:=by rw [← e2]; simpa using h2
   have k1:ds[j]?=some ds[j]:=List.getElem?_eq_getElem g1
   have k2:ds'[j]?=some ds'[j]:=List.getElem?_eq_getElem g2
   unfold Zgw
   rw [Zge k1,Zge k2]
   exact it j _ _ _ _ k1 k2 (by simp) (by simp)
  rw [show us.toArray.size=ds.length by simp [e1],ZjB q] at g
  exact g
 ·rw [Zdf q]
  exact SeqAt.RcAt.lists_lengths z z' (by simp only [List.size_toArray,e1,e2]; exact bne_iff_ne.mpr q) hu
mutual
theorem eqD (I:Inv X pins σ H s):∀ (d d':D) {v v':V} {u u':Value} {A:Around},Is X.K H d v->Is X.K H d' v'->RelV v u->RelV v' u'->A.units+dep d<cLine->SeqAt.EqAt A s u u' (deq d d')
 | .non,d',v,v',u,u',A,h,h',r,r',hu=>by
  cases (show v=.non from h); cases (show u=Value.none from r)
  cases d' with
  | non=>cases (show v'=.non from h'); cases (show u'=Value.none from r'); exact SeqAt.EqAt.same _
  | bl b=>cases (show v'=.bl b from h'); cases (show u'=Value.bool b from r'); exact SeqAt.EqAt.none_bool b
  | int b=>cases (show v'=.int b from h'); obtain ⟨t,rfl⟩:=r'; exact SeqAt.EqAt.none_int b t
  | str b=>cases (show v'=.str b from h'); obtain ⟨t,rfl⟩:=r'; exact SeqAt.EqAt.none_str b t
  | tup b=>obtain ⟨a,xs,rfl,q,_⟩:=h'; cases r'; obtain ⟨its,_,z⟩:=I.isTup q; exact SeqAt.EqAt.none_tuple z (by simpa [dep] using hu)
  | lst b=>obtain ⟨a,xs,rfl,q,_⟩:=h'; cases r'; obtain ⟨its,_,z⟩:=I.isList q; exact SeqAt.EqAt.none_list z (by simpa [dep] using hu)
 | .bl c,d',v,v',u,u',A,h,h',r,r',hu=>by
  cases (show v=.bl c from h); cases (show u=Value.bool c from r)
  cases d' with
  | non=>cases (show v'=.non from h'); cases (show u'=Value.none from r'); exact SeqAt.EqAt.bool_none c
  | bl b=>cases (show v'=.bl b from h'); cases (show u'=Value.bool b from r'); exact SeqAt.EqAt.bool_bool c b
  | int b=>cases (show v'=.int b from h'); obtain ⟨t,rfl⟩:=r'; exact SeqAt.EqAt.bool_int c b t
  | str b=>cases (show v'=.str b from h'); obtain ⟨t,rfl⟩:=r'; exact SeqAt.EqAt.bool_str c b t
  | tup b=>obtain ⟨a,xs,rfl,q,_⟩:=h'; cases r'; obtain ⟨its,_,z⟩:=I.isTup q; exact SeqAt.EqAt.bool_tuple c z (by simpa [dep] using hu)
  | lst b=>obtain ⟨a,xs,rfl,q,_⟩:=h'; cases r'; obtain ⟨its,_,z⟩:=I.isList q; exact SeqAt.EqAt.bool_list c z (by simpa [dep] using hu)
 | .int c,d',v,v',u,u',A,h,h',r,r',hu=>by
  cases (show v=.int c from h); obtain ⟨t0,rfl⟩:=r
  cases d' with
  | non=>cases (show v'=.non from h'); cases (show u'=Value.none from r'); exact SeqAt.EqAt.int_none c t0
  | bl b=>cases (show v'=.bl b from h'); cases (show u'=Value.bool b from r'); exact SeqAt.EqAt.int_bool c t0 b
  | int b=>cases (show v'=.int b from h'); obtain ⟨t,rfl⟩:=r'; exact SeqAt.EqAt.int_int c t0 b t
  | str b=>cases (show v'=.str b from h'); obtain ⟨t,rfl⟩:=r'; exact SeqAt.EqAt.int_str c t0 b t
  | tup b=>obtain ⟨a,xs,rfl,q,_⟩:=h'; cases r'; obtain ⟨its,_,z⟩:=I.isTup q; exact SeqAt.EqAt.int_tuple c t0 z (by simpa [dep] using hu)
  | lst b=>obtain ⟨a,xs,rfl,q,_⟩:=h'; cases r'; obtain ⟨its,_,z⟩:=I.isList q; exact SeqAt.EqAt.int_list c t0 z (by simpa [dep] using hu)
 | .str c,d',v,v',u,u',A,h,h',r,r',hu=>by
  cases (show v=.str c from h); obtain ⟨t0,rfl⟩:=r
  cases d' with
  | non=>cases (show v'=.non from h'); cases (show u'=Value.none from r'); exact SeqAt.EqAt.str_none c t0
  | bl b=>cases (show v'=.bl b from h'); cases (show u'=Value.bool b from r'); exact SeqAt.EqAt.str_bool c t0 b
  | int b=>cases (show v'=.int b from h'); obtain ⟨t,rfl⟩:=r'; exact SeqAt.EqAt.str_int c t0 b t
  | str b=>cases (show v'=.str b from h'); obtain ⟨t,rfl⟩:=r'; exact SeqAt.EqAt.str_str c t0 b t
  | tup b=>obtain ⟨a,xs,rfl,q,_⟩:=h'; cases r'; obtain ⟨its,_,z⟩:=I.isTup q; exact SeqAt.EqAt.str_tuple c t0 z (by simpa [dep] using hu)
  | lst b=>obtain ⟨a,xs,rfl,q,_⟩:=h'; cases r'; obtain ⟨its,_,z⟩:=I.isList q; exact SeqAt.EqAt.str_list c t0 z (by simpa [dep] using hu)
 | .tup ds,d',v,v',u,u',A,h,h',r,r',hu=>by
  obtain ⟨a,xs,rfl,q,hl⟩:=h
  cases (show u=Value.ref a from r)
  obtain ⟨its,rv,z⟩:=I.isTup q
  have hu0:A.units<cLine:=by omega
  cases d' with
  | non=>cases (show v'=.non from h'); cases (show u'=Value.none from r'); exact SeqAt.EqAt.tuple_none z hu0
  | bl b=>cases (show v'=.bl b from h'); cases (show u'=Value.bool b from r'); exact SeqAt.EqAt.tuple_bool b z hu0
  | int b=>cases (show v'=.int b from h'); obtain ⟨t,rfl⟩:=r'; exact SeqAt.EqAt.tuple_int b t z hu0
  | str b=>cases (show v'=.str b from h'); obtain ⟨t,rfl⟩:=r'; exact SeqAt.EqAt.tuple_str b t z hu0
  | lst b=>obtain ⟨a2,xs2,rfl,q2,_⟩:=h'; cases r'; obtain ⟨its2,_,z2⟩:=I.isList q2; exact SeqAt.EqAt.tuple_list z z2 hu0
  | tup ds' =>
   obtain ⟨a2,xs2,rfl,q2,hl2⟩:=h'
   cases (show u'=Value.ref a2 from r')
   obtain ⟨its2,rv2,z2⟩:=I.isTup q2
   have hu1:A.units+(Zji ds+1)<cLine:=hu
   show SeqAt.EqAt A s _ _ (Zh2 ds ds')
   by_cases ne:a=a2
   ·subst ne
    rw [I.tup_fun q q2] at hl
    rw [ZhO I ds ds' hl hl2,Zev]
    exact SeqAt.EqAt.same _
   ·exact .of_refs ne (Zny I hl hl2 rv rv2 z z2 hu0 (eqL I ds ds' (A:=A.in1) hl hl2 rv rv2 (by show A.units+1+Zji ds<cLine; omega)))
 | .lst ds,d',v,v',u,u',A,h,h',r,r',hu=>by
  obtain ⟨a,xs,rfl,q,hl⟩:=h
  cases (show u=Value.ref a from r)
  obtain ⟨its,rv,z⟩:=I.isList q
  have hu0:A.units<cLine:=by omega
  cases d' with
  | non=>cases (show v'=.non from h'); cases (show u'=Value.none from r'); exact SeqAt.EqAt.list_none z hu0
  | bl b=>cases (show v'=.bl b from h'); cases (show u'=Value.bool b from r'); exact SeqAt.EqAt.list_bool b z hu0
  | int b=>cases (show v'=.int b from h'); obtain ⟨t,rfl⟩:=r'; exact SeqAt.EqAt.list_int b t z hu0
  | str b=>cases (show v'=.str b from h'); obtain ⟨t,rfl⟩:=r'; exact SeqAt.EqAt.list_str b t z hu0
  | tup b=>obtain ⟨a2,xs2,rfl,q2,_⟩:=h'; cases r'; obtain ⟨its2,_,z2⟩:=I.isTup q2; exact SeqAt.EqAt.list_tuple z z2 hu0
  | lst ds' =>
   obtain ⟨a2,xs2,rfl,q2,hl2⟩:=h'
   cases (show u'=Value.ref a2 from r')
   obtain ⟨its2,rv2,z2⟩:=I.isList q2
   have hu1:A.units+(Zji ds+1)<cLine:=hu
   show SeqAt.EqAt A s _ _ (Zh2 ds ds')
   by_cases ne:a=a2
   ·subst ne
    rw [I.lst_fun q q2] at hl
    rw [ZhO I ds ds' hl hl2,Zev]
    exact SeqAt.EqAt.same _
   ·exact .of_refs ne (ZnQ I hl hl2 rv rv2 z z2 hu0 (eqL I ds ds' (A:=A.in1) hl hl2 rv rv2 (by show A.units+1+Zji ds<cLine; omega)))
theorem eqL (I : Inv X pins σ H s) : ∀ (ds ds' : List D) {xs xs' : List V} {us us' : List Value} {A : Around}, IsL X.K H ds xs → IsL X.K H ds' xs' → Vals xs us → Vals xs' us' → A.units + Zji ds<cLine →
  ∀ (j:Nat) (d d':D) (u u':Value),ds[j]?=some d->ds'[j]?=some d'->us[j]?=some u->us'[j]?=some u'->SeqAt.EqAt A s u u' (deq d d')
 | [],_,_,_,_,_,_,_,_,_,_,_,j,d,d',u,u',e,_,_,_=>by simp at e
 | d0 :: ds,ds',xs,xs',us,us',A,hl,hl',rv,rv',hu,j,d,d',u,u',e1,e2,e3,e4=>by
  obtain ⟨x,r,rfl,h1,h2⟩:=hl
  cases ds' with
  | nil=>simp at e2
  | cons d0' ds' =>
   obtain ⟨x',r',rfl,h1',h2'⟩:=hl'
   cases rv with
   | cons ra rb =>
    cases rv' with
    | cons ra' rb' =>
     have hu1:A.units+max (dep d0) (Zji ds)<cLine:=hu
     cases j with
     | zero =>
      simp only [List.getElem?_cons_zero,Option.some.injEq] at e1 e2 e3 e4
      subst e1 e2 e3 e4
      exact eqD I _ _ h1 h1' ra ra' (by omega)
     | succ j =>
      simp only [List.getElem?_cons_succ] at e1 e2 e3 e4
      exact eqL I ds ds' h2 h2' rb rb' (by omega) j d d' u u' e1 e2 e3 e4
end
def Ztp (K:W.Frag) (g:Bool->Bool):R2:=fun x y H Q=>∃ d d',Is K H d x∧Is K H d' y∧((∃ ds ds',d=.tup ds∧d'=.tup ds')∨∃ ds ds',d=.lst ds∧d'=.lst ds')∧dep d≤60∧Q (.bl (g (deq d d'))) H
theorem Znw (hu:X.A.units+64<cLine):OpR X (compareOp .Eq) (Ztp X.K id):=by
 intro pins s σ H x y v u Q I rx ry h
 obtain ⟨d,d',h1,h2,sh,hd,q⟩:=h
 rcases sh with ⟨ds,ds',rfl,rfl⟩ | ⟨ds,ds',rfl,rfl⟩
 ·obtain ⟨a,xs,rfl,q1,hl⟩:=h1
  obtain ⟨a2,xs2,rfl,q2,hl2⟩:=h2
  cases (show v=Value.ref a from rx)
  cases (show u=Value.ref a2 from ry)
  obtain ⟨its,rv,z⟩:=I.isTup q1
  obtain ⟨its2,rv2,z2⟩:=I.isTup q2
  have hd1:Zji ds+1≤60:=hd
  exact (Zny I hl hl2 rv rv2 z z2 (by omega) (eqL I ds ds' (A:=X.A.in1) hl hl2 rv rv2 (by show X.A.units+1+Zji ds<cLine; omega))) _ _ _ _ ⟨.bl _,H,I,rfl,q⟩
 ·obtain ⟨a,xs,rfl,q1,hl⟩:=h1
  obtain ⟨a2,xs2,rfl,q2,hl2⟩:=h2
  cases (show v=Value.ref a from rx)
  cases (show u=Value.ref a2 from ry)
  obtain ⟨its,rv,z⟩:=I.isList q1
  obtain ⟨its2,rv2,z2⟩:=I.isList q2
  have hd1:Zji ds+1≤60:=hd
  exact (ZnQ I hl hl2 rv rv2 z z2 (by omega) (eqL I ds ds' (A:=X.A.in1) hl hl2 rv rv2 (by show X.A.units+1+Zji ds<cLine; omega))) _ _ _ _ ⟨.bl _,H,I,rfl,q⟩
end
section
variable {X:Cx} {pins:List (Addr × Obj)} {σ:St} {H:Hp} {s:Shared}
end
section
variable {prog:Program} {w:World} {A:Around} {R:Result->Shared->Prop} {s:Shared}
theorem Zkw {elt target iter : Expr} {ifs : List Expr} {scope : Scope} {pos : Pos} {it acc : Value} {env : Env} (J : Nat → Shared → Prop)
  (turn:∀ n s,J n s->wpAny (model prog w) A (pyNext it) (fun r s1=>match r with
   | none=>R (.ok .next) s1
   | some v => wpAny (model prog w) A (letOwnedTupleGo target it v) (fun _ s2 => wpAny (model prog w) A (assign target env v) (fun _ s3 =>
     wpAny (model prog w) A (forIn ifs true fun c r=>if r=true then do let ok ← isTrue c env (eval c env); pure (ForInStep.yield ok) else pure (ForInStep.yield r)) (fun ok s4 =>
      if ok=true then wpAny (model prog w) A (eval elt env) (fun x s5=>wpAny (model prog w) A (call (.builtin "list.append") [acc,x]) (fun _ s6=>∃ m,m<n∧J m s6) (fun _ _=>False) s5) (fun _ _=>False) s4
      else ∃ m,m<n∧J m s4) (fun _ _=>False) s3) (fun _ _=>False) s2) (fun _ _=>False) s1) (fun _ _=>False) s)
  (n:Nat) (h:J n s):codeAny (model prog w) A (.compLoop (.ListComp elt [⟨target,iter,ifs,0⟩] scope pos) 0 it acc env) R s:=by
 refine codeAny_loop rfl J (fun n s hJ=>?_) n h
 show wpAny _ A ((compTurn (.ListComp elt [⟨target,iter,ifs,0⟩] scope pos) 0 it acc env).onRaise (fun x=>do noteFrame x env; theTreesLotGoes x)) _ _ s
 refine wpAny_noted ?_
 rw [compTurn_list]
 refine wpAny_bind (wpAny_standAt (wpAny_bind (wpAny_mono (turn n s hJ) (fun r s1 h1=>?_) fun _ _ z=>z.elim)))
 cases r with
 | none=>exact wpAny_pure h1
 | some v =>
  refine wpAny_bind (wpAny_mono h1 (fun _ s2 h2=>wpAny_bind (wpAny_mono h2 (fun _ s3 h3=>wpAny_bind (wpAny_mono h3 (fun ok s4 h4=>?_) fun _ _ z=>z.elim)) fun _ _ z=>z.elim)) fun _ _ z=>z.elim)
  cases ok with
  | false=>exact wpAny_pure ⟨rfl,h4⟩
  | true=>exact wpAny_bind (wpAny_bind (wpAny_mono h4 (fun x s5 h5=>wpAny_bind (wpAny_mono h5 (fun _ s6 h6=>wpAny_pure (wpAny_pure ⟨rfl,h6⟩)) fun _ _ z=>z.elim)) fun _ _ z=>z.elim))
end
def PTs (X:Cx) (ifs:List Expr) (t:TT):Prop :=
 ∀ (pins:List (Addr × Obj)) (s:Shared) (σ:St) (H:Hp) (Q:Bool->Hp->Prop),Inv X pins σ H s->t σ H Q →
  wpAny (model X.prog X.w) X.A (forIn ifs true fun c r=>if r=true then do let ok ← isTrue c X.env (eval c X.env); pure (ForInStep.yield ok) else pure (ForInStep.yield r)) (TP X pins σ Q) X.xe s
def ZsJ:TT:=fun _ H Q=>Q true H
theorem Ze4 {X:Cx}:PTs X [] ZsJ:=fun _ _ _ H _ I h=>wpAny_tests_nil ⟨H,I,h⟩
theorem Zck {X:Cx} {c:Expr} {t:TT} (h:PT X c t):PTs X [c] t:=fun pins s σ H Q I q=>wpAny_tests_one (h pins s σ H Q I q)
noncomputable abbrev Cx.block (X:Cx) (N:List Str) (sc:Scope) (cl:List (Str × Addr)) (fp:List Addr) (s3:Shared) (H3:Hp):Cx :=
 { X with N:=N,s₀:=s3,H₀:=H3,env:=compEnvC sc cl s3.heap.objs.size X.env,outer:=X.stack,ex:=fp,fn:=fun _=>false,pn:=[],xe:=fun _ _=>False }
structure CompSc (X:Cx) (N:List Str) (sc:Scope) (cl:List (Str × Addr)) (σc:St->St):Prop where
 kind:sc.kind=.function
 names:∀ x∈sc.names,x.2=.local->sc.names.lookup x.1=some .local
 nocell:∀ y∈sc.names,y.2≠.cell
 clos:closureFor sc X.env=pure cl
 sub:∀ x c,cl.lookup x=some c->X.env.cells.lookup x=some c
 has:∀ x,((relabel sc X.env).names.lookup x=some .cell∨(relabel sc X.env).names.lookup x=some .free)->∃ c,cl.lookup x=some c
 len:∀ σ:St,(σc σ).length=N.length
 cap:∀ (σ:St) (i:Nat) (x:Str) (v:V),N[i]?=some x->(σc σ)[i]?=some (some v)->((relabel sc X.env).names.lookup x=some .cell∨(relabel sc X.env).names.lookup x=some .free)∧(X.env.scope.names.lookup x=some .cell∨X.env.scope.names.lookup x=some .free)∧∃ j:Nat,X.N[j]?=some x∧σ[j]?=some (some v)
def Zpu (J:It) (σ0:St) (g:TG) (tt:TT) (te:TE) (Q:VK) (H1:Hp):Prop:=∀ D,H1 D=none →
 ∃ W:Nat->Nat->St->List V->Hp->Prop,(∃ m,W 0 m σ0 [] (upd H1 D (.lst [])))∧∀ i m σ1 ys H2,W i m σ1 ys H2->H2 D=some (.lst ys) ∧
  ((J.stop i H2∧Q (.ref D) H2)∨(J.go i H2∧∃ N:St->List V->Hp->Prop,(∀ σ2 ys2 H3,N σ2 ys2 H3->∃ m',m'<m∧W (i+1) m' σ2 ys2 H3) ∧
   ∀ x H3,J.yld i H2 x H3->g x σ1 H3 fun σ2 H4=>tt σ2 H4 fun c H5=>if c=true then te σ2 H5 fun y H6=>H6 D=some (.lst ys)∧ys.length<sizeLine∧N σ2 (ys++[y]) (upd H6 D (.lst (ys++[y]))) else N σ2 ys H5))
def Zq5 (wi:TI) (σc:St->St) (g:TG) (tt:TT) (te:TE):TE:=fun σ H Q=>wi σ H fun J H1=>Zpu J (σc σ) g tt te Q H1
section
variable {X:Cx} {pins:List (Addr × Obj)} {σ:St} {H:Hp} {s:Shared} {N:List Str} {sc:Scope} {cl:List (Str × Addr)} {σc:St->St} {fp:List Addr}
theorem Inv.block (I : Inv X pins σ H s) (S : CompSc X N sc cl σc) (hf : ∀ b ∈ fp, ZmS X pins H b) (hlt : ∀ b ∈ fp, b<s.heap.objs.size) {h' : Heap} {t' : Nat} (k : ∀ b u, s.heap.get? b=some u → h'.get? b=some u) (hn : h'.Ns s.heap.objs.size fun _ => none) :
  Inv (X.block N sc cl fp s H) [] (σc σ) H { s with heap:=h',toks:=t' }:=by
 have kin:∀ x,(X.block N sc cl fp s H).env.kindOf x=(relabel sc X.env).names.lookup x:=fun _=>rfl
 refine ⟨⟨I.ok.mod,S.kind,I.ok.glob,I.ok.blt,Nat.le_refl _,fun x y c h1 h2=>I.ok.inj x y c (S.sub x c h1) (S.sub y c h2),fun x hx=>S.has x hx,fun x c z _=>(nomatch z),I.ok.hd,I.ok.frames,.inl rfl,fun b hb=>⟨Nat.ne_of_lt (hlt b hb),fun x c e=>(hf b hb).2.2.2.2.1 x c (S.sub x c e)⟩,
  I.bs,Nat.le_trans I.ok.bsz I.sz,fun b o e hb=>?_,fun b hb z=>?_,I.stack,I.stkFree⟩,
  rfl,I.bare,Un.kept k,⟨_,hn,fun i x v e1 e2 e3=>?_⟩,fun x c e=>?_,I.hok.fresh (Nat.le_refl _),fun x c e=>I.freeC x c (S.sub x c e),fun p hp=>absurd (show p∈([]:List (Addr × Obj)) from hp) (by simp),I.hok.kept k,S.len σ⟩
 ·rcases (hf b hb).2.2.2.1 with z | z
  ·exact I.ok.noex b o e z
  ·exact absurd (Nat.lt_of_lt_of_le (Heap.lt_size e) (Nat.le_trans I.ok.bsz z)) (Nat.lt_irrefl _)
 ·rcases List.mem_cons.mp (I.stkSub b z) with y | y
  ·exact (hf b hb).2.1 y
  ·exact (hf b hb).2.2.1 y
 ·obtain ⟨hk,hko,j,hj,hσ⟩:=S.cap σ i x v e1 e2
  obtain ⟨m,hm,hl⟩:=I.loc
  obtain ⟨u,r,l⟩:=hl j x v hj hσ (by rcases hko with z | z; exact .inr (.inl z); exact .inr (.inr z))
  refine ⟨u,r,.inr ⟨hk,?_⟩⟩
  rcases l with ⟨q,_⟩ | ⟨_,c,hc,q⟩
  ·have q':X.env.scope.names.lookup x=some .local:=q
   rcases hko with z | z <;> (rw [z] at q'; cases q')
  ·obtain ⟨c',hc'⟩:=S.has x hk
   have e:=S.sub x c' hc'
   rw [hc] at e
   cases e
   exact ⟨c,hc',q.keeps k⟩
 ·obtain ⟨v,q⟩:=I.cell x c (S.sub x c e)
  exact ⟨v,q.keeps k⟩
end
section
variable {X:Cx} {elt tg iter:Expr} {ifs:List Expr} {sc:Scope} {pos:Pos} {N:List Str} {cl:List (Str × Addr)} {σc:St->St} {wi:TI} {g:TG} {tt:TT} {te:TE}
structure Gone (X:Cx) (pins:List (Addr × Obj)) (H:Hp) (C:Addr):Prop where
 free:H C=none
 loc:C≠X.env.locals
 new:X.s₀.heap.objs.size≤C
 cell:∀ x c,X.env.cells.lookup x=some c->c≠C
 pin:∀ p∈X.pn++pins,p.1≠C
theorem Inv.gone {pins:List (Addr × Obj)} {σ:St} {H:Hp} {s:Shared} {C:Addr} {h':Heap} (I:Inv X pins σ H s) (G:Gone X pins H C) (sb:Heap.SameBut C s.heap h'):Inv X pins σ H { s with heap:=h' } :=
 I.turned (t':=s.toks) (it:=C) (fun b o n q=>(sb.2 b n).trans q) G.free G.loc (.inr G.new) G.cell G.pin
theorem Zkk {pins : List (Addr × Obj)} {s2 : Shared} {σ : St} {H2 : Hp} {Q : VK} {RR : Value → Addr → Result → Shared → Prop} {E : Value → Shared → Prop} {it : Addr} {fp : List Addr} {tn : Nat → Heap → Prop} {J : It}
  (hc:X.calm=true) (S:CompSc X N sc cl σc) (hg:∀ fp s3 H3,PG (X.block N sc cl fp s3 H3) tg g) (ht:∀ fp s3 H3,PTs (X.block N sc cl fp s3 H3) ifs tt) (he:∀ fp s3 H3,PE (X.block N sc cl fp s3 H3) elt te)
  (I2:Inv X pins σ H2 s2) (T:Turn X.prog X.w X.K tg J fp it tn) (st2:tn 0 s2.heap) (f2:∀ b∈fp,ZmS X pins H2 b)
  (h2:∀ D,H2 D=none->∃ W:Nat->Nat->St->List V->Hp->Prop,(∃ m,W 0 m (σc σ) [] (upd H2 D (.lst [])))∧∀ i m σ1 ys H2,W i m σ1 ys H2->H2 D=some (.lst ys) ∧
   ((J.stop i H2∧Q (.ref D) H2)∨(J.go i H2∧∃ N:St->List V->Hp->Prop,(∀ σ2 ys2 H3,N σ2 ys2 H3->∃ m',m'<m∧W (i+1) m' σ2 ys2 H3) ∧
    ∀ x H3,J.yld i H2 x H3->g x σ1 H3 fun σ2 H4=>tt σ2 H4 fun c H5=>if c=true then te σ2 H5 fun y H6=>H6 D=some (.lst ys)∧ys.length<sizeLine∧N σ2 (ys++[y]) (upd H6 D (.lst (ys++[y]))) else N σ2 ys H5)))
  (hRR:∀ D C m s7 H7,Inv X pins σ H7 s7->s7.heap.Ns C m->Gone X pins H7 C->Q (.ref D) H7->RR (.ref D) C (.ok .next) s7) :
  wpAny (model X.prog X.w) X.A (newList []) (fun acc s₃=>wpAny (model X.prog X.w) X.A (newFunctionEnv sc X.env.globals cl [] X.env.qual none .none (some X.env)) (fun cenv s₄ =>
   codeAny (model X.prog X.w) X.A (.compStart (.ListComp elt [⟨tg,iter,ifs,0⟩] sc pos) 0 (.ref it) acc { cenv with scope:=relabel sc X.env }) (RR acc cenv.locals) s₄) E s₃) E s2:=by
 refine wpAny_newObj_type ?_
 have hD:H2 s2.heap.objs.size=none:=I2.hok.fresh (Nat.le_refl _)
 have I3:Inv X pins σ (upd H2 s2.heap.objs.size (.lst [])) { s2 with heap:=s2.heap.push { cls:=.type "list",dict:=none,data:=.seq ([]:List Value).toArray } } :=
  I2.laid (t':=s2.toks) (fun b u q=>Heap.get?_push_of_some _ q) (Nat.le_refl _) ⟨by decide,[],0,.nil,Heap.get?_push_size _ rfl⟩
 have flt:∀ b∈fp,b<s2.heap.objs.size:=fun b hb=>by
  obtain ⟨o,e,_⟩:=T.obj _ _ st2 b hb
  exact Heap.lt_size e
 obtain ⟨W,⟨m0,w0⟩,turn⟩:=h2 s2.heap.objs.size hD
 have f3:∀ b∈fp,ZmS X pins (upd H2 s2.heap.objs.size (.lst [])) b:=fun b hb=>⟨by rw [Zak (Nat.ne_of_lt (flt b hb))]; exact (f2 b hb).1,(f2 b hb).2⟩
 have st3:tn 0 (s2.heap.push { cls:=.type "list",dict:=none,data:=.seq ([]:List Value).toArray }):=T.keep _ _ _ st2 fun b _ o q=>Heap.get?_push_of_some _ q
 have sz3:s2.heap.objs.size≤(s2.heap.push { cls:=.type "list",dict:=none,data:=.seq ([]:List Value).toArray }).objs.size:=by rw [Heap.size_push]; exact Nat.le_succ _
 generalize s2.heap.push { cls:=.type "list",dict:=none,data:=.seq ([]:List Value).toArray }=h3 at *
 generalize s2.heap.objs.size=D at *
 refine wpAny_newFunctionEnv S.nocell (by intro y hy; simp at hy) (fun h4 hn4 hb4=>?_) S.kind
 dsimp only at hn4 hb4 ⊢
 have k4:∀ b u,h3.get? b=some u->h4.get? b=some u:=fun b u q=>(hb4.2 b (Nat.ne_of_lt (Heap.lt_size q))).trans (Heap.get?_push_of_some _ q)
 have I4:Inv (X.block N sc cl fp { s2 with heap:=h3 } (upd H2 D (.lst []))) [] (σc σ) (upd H2 D (.lst [])) { s2 with heap:=h4,toks:=s2.toks+0 } :=
  I3.block S f3 (fun b hb=>Nat.lt_of_lt_of_le (flt b hb) sz3) k4 hn4
 have st4:tn 0 h4:=T.keep _ _ _ st3 fun b _ o q=>k4 b o q
 have fb:∀ {H':Hp},(∀ b∈fp,H' b=none)->∀ b∈fp,ZmS (X.block N sc cl fp { s2 with heap:=h3 } (upd H2 D (.lst []))) [] H' b:=fun hn b hb =>
  ⟨hn b hb,(I4.ok.exf b hb).1,I4.ok.exfs b hb,.inl hb,(I4.ok.exf b hb).2,fun p hp=>absurd (show p∈([]:List (Addr × Obj)) from hp) (by simp)⟩
 have fin:∀ {σ':St} {H':Hp} {s':Shared} {h':Heap},Inv (X.block N sc cl fp { s2 with heap:=h3 } (upd H2 D (.lst []))) [] σ' H' s'->Heap.SameBut h3.objs.size s'.heap h'->Inv X pins σ H' { s' with heap:=h' }:=fun {σ' H' s' h'} J' sb=>by
  have lt3:∀ b o,h3.get? b=some o->b≠h3.objs.size:=fun b o q=>Nat.ne_of_lt (Heap.lt_size q)
  have lo:H' h3.objs.size=none:=J'.free
  have hk:HOk X.prog X.w H' h':=fun b u e=>(J'.hok b u e).stay (fun c v hcc q=>(sb.2 c (by
   rintro rfl
   rcases hcc with z | z
   ·subst z; rw [lo] at e; cases e
   ·rw [lo] at z; cases z)).trans q) (fun _ q=>q) fun _ _ q=>q
  refine I3.call' (s':={ s' with heap:=h' }) (ch:=fp) J'.os ⟨fun b o q n hb hx=>(sb.2 b (lt3 b o q)).trans (J'.base.keep b o q n hb hx),fun b o q n hb hx=>?_,fun b o q n hx=>J'.base.free b o q n hx,fun b o q hx=>?_,J'.base.tups,J'.base.frzs,J'.base.tbls⟩ hk J'.bare fun b hb=>?_
  ·obtain ⟨sl,q1⟩:=J'.base.slot b o q n hb hx
   exact ⟨sl,(sb.2 b (lt3 b o q)).trans q1⟩
  ·obtain ⟨o1,q1⟩:=J'.base.there b o q hx
   exact ⟨o1,(sb.2 b (lt3 b o q)).trans q1⟩
  ·exact ⟨(f3 b hb).2.2.2.1,(f3 b hb).2.1,(f3 b hb).2.2.2.2.1,(f3 b hb).2.2.2.2.2⟩
 have loop : ∀ s5 : Shared, Inv (X.block N sc cl fp { s2 with heap := h3 } (upd H2 D (.lst []))) [] (σc σ) (upd H2 D (.lst [])) s5 → tn 0 s5.heap →
   codeAny (model X.prog X.w) X.A (.compLoop (.ListComp elt [⟨tg,iter,ifs,0⟩] sc pos) 0 (.ref it) (.ref D) (compEnvC sc cl h3.objs.size X.env)) (RR (.ref D) h3.objs.size) s5:=fun s5 I5 st5=>by
  refine Zkw (fun n s'=>∃ i σ' ys H',Inv (X.block N sc cl fp { s2 with heap:=h3 } (upd H2 D (.lst []))) [] σ' H' s'∧tn i s'.heap∧(∀ b∈fp,H' b=none)∧W i n σ' ys H') ?_ m0 ⟨0,_,[],_,I5,st5,fun b hb=>(f3 b hb).1,w0⟩
  rintro n s6 ⟨i,σ6,ys,H6,I6,st6,fr6,w6⟩
  obtain ⟨hDy,step⟩:=turn i n σ6 ys H6 w6
  rcases step with ⟨stop,q6⟩ | ⟨go,Nx,hN,step⟩
  ·refine thn (T.done (X.block N sc cl fp { s2 with heap:=h3 } (upd H2 D (.lst []))) rfl rfl rfl hc i [] s6 σ6 H6 (fun _ _=>False) I6 (fb fr6) st6 stop) fun r s7 ⟨hr,I7⟩=>?_
   subst hr
   obtain ⟨m7,hm7,_⟩:=I7.loc
   refine hRR D h3.objs.size m7 s7 H6 (fin I7 ⟨rfl,fun _ _=>rfl⟩) hm7 ⟨I7.free,Nat.ne_of_gt I3.lt,I3.sz,fun x c e=>?_,fun p hp=>?_⟩ q6
   ·obtain ⟨v,z⟩:=I3.cell x c e
    exact Nat.ne_of_lt z.lt
   ·exact Nat.ne_of_lt (Heap.lt_size (I3.pin p hp).1)
  ·refine thn (T.item (X.block N sc cl fp { s2 with heap:=h3 } (upd H2 D (.lst []))) rfl rfl rfl hc i [] s6 σ6 H6 (fun _ _=>False) I6 (fb fr6) st6 go) fun r s7 ⟨u,hr,h7⟩=>?_
   subst hr
   refine thn h7 fun _ s8 ⟨x,H8,I8,r8,y8,st8,fr8⟩=>?_
   have I8':=I8.pinned (fb fr8) (T.obj _ _ st8)
   refine thn (hg _ _ _ _ s8 σ6 H8 x u _ I8' r8 (step x H8 y8)) fun _ s9 ⟨σ9,H9,I9,q9⟩=>?_
   refine thn (ht _ _ _ _ s9 σ9 H9 _ I9 q9) fun c sA ⟨HA,IA,qA⟩=>?_
   have again : ∀ {σB : St} {HB : Hp} {sB : Shared} {zs : List V}, Inv (X.block N sc cl fp { s2 with heap := h3 } (upd H2 D (.lst []))) ([] ++ ZkB fp s8.heap) σB HB sB → Nx σB zs HB →
     ∃ m,m<n∧∃ i σ' ys H',Inv (X.block N sc cl fp { s2 with heap:=h3 } (upd H2 D (.lst []))) [] σ' H' sB∧tn i sB.heap∧(∀ b∈fp,H' b=none)∧W i m σ' ys H':=fun {σB HB sB zs} IB nB=>by
    obtain ⟨m',hm,wB⟩:=hN σB zs HB nB
    refine ⟨m',hm,i+1,σB,zs,HB,IB.unpinned,T.keep _ _ _ st8 fun b hb o e=>(IB.pin (b,o) (List.mem_append_right _ (List.mem_append_right _ (ZeJ hb e)))).1,fun b hb=>?_,wB⟩
    obtain ⟨o,e,d⟩:=T.obj _ _ st8 b hb
    exact (IB.pin (b,o) (List.mem_append_right _ (List.mem_append_right _ (ZeJ hb e)))).2.1
   cases c with
   | false=>exact again IA qA
   | true =>
    refine thn (he _ _ _ _ sA σ9 HA _ IA qA) fun y sB ⟨yv,HB,IB,rB,dB,lB,qB⟩=>?_
    exact thn (ZcV (X:=X.block N sc cl fp { s2 with heap:=h3 } (upd H2 D (.lst []))) _ sB σ9 HB (.ref D) [yv] (.ref D) [y] (fun v H'=>v=.non∧Nx σ9 (ys++[yv]) H') IB rfl (.cons rB .nil) ⟨D,ys,yv,rfl,rfl,dB,lB,rfl,qB⟩) fun _ sC ⟨_,HC,IC,_,_,qC⟩=>again IC qC
 refine codeAny_compStart_list (loop _ I4 st4) ?_
 exact T.self _ 0 _ _ _ st4 (loop _ I4 st4)
theorem Zb6 (hc : X.calm=true) (S : CompSc X N sc cl σc) (hi : PI X tg iter wi) (hg : ∀ fp s3 H3, PG (X.block N sc cl fp s3 H3) tg g) (ht : ∀ fp s3 H3, PTs (X.block N sc cl fp s3 H3) ifs tt) (he : ∀ fp s3 H3, PE (X.block N sc cl fp s3 H3) elt te)
  (hs:∀ x,foldedSetIterable iter X.env x=pure x:=by intro _; rfl):PE X (.ListComp elt [⟨tg,iter,ifs,0⟩] sc pos) (Zq5 wi σc g tt te):=by
 intro pins s σ H Q I h
 rw [eval_ListComp]
 refine wpAny_comprehension_free rfl hs S.clos S.kind S.names (thn (hi pins s σ H _ I h) fun v s1 h1=>thn h1 fun itv s2 h2=>?_)
 obtain ⟨it,fp,tn,J,H2,e,I2,T,st2,f2,h2⟩:=h2
 subst e
 exact Zkk (Q:=Q) hc S hg ht he I2 T st2 f2 h2 fun D C m s7 H7 I7 n7 G q=>⟨m,n7,fun h' sb=>⟨.ref D,H7,I7.gone G sb,rfl,q⟩⟩
theorem Zgg {i : Nat} {x : Str} {pos' spos : Pos} (hc : X.calm=true) (hN : X.N.Nodup) (hi' : X.N[i]?=some x) (hx : Loc X.env.scope x) (S : CompSc X N sc cl σc) (hi : PI X tg iter wi)
  (hg:∀ fp s3 H3,PG (X.block N sc cl fp s3 H3) tg g) (ht:∀ fp s3 H3,PTs (X.block N sc cl fp s3 H3) ifs tt) (he:∀ fp s3 H3,PE (X.block N sc cl fp s3 H3) elt te)
  (hs:∀ x,foldedSetIterable iter X.env x=pure x:=by intro _; rfl) (hsw:swapsWith (.ListComp elt [⟨tg,iter,ifs,0⟩] sc pos) (some (.Name x pos')) spos.line X.env=pure true:=by rfl)
  (hf:X.fn x=true∨X.env.scope.names.lookup x=some .local:=by first | exact .inl rfl | exact .inr rfl | assumption) :
  PS X (.Assign [.Name x pos'] (.ListComp elt [⟨tg,iter,ifs,0⟩] sc pos) spos) (ZsS (Zq5 wi σc g tt te) (ZbE i)):=by
 intro pins s σ H D I h
 rw [exec_Assign_Name_used _ _ _ _ hsw]
 refine wpAny_bind (wpAny_standAt (wpAny_bind ?_))
 show wpAny _ _ (comprehension (.ListComp elt [⟨tg,iter,ifs,0⟩] sc pos) sc X.env (firstIterPos [⟨tg,iter,ifs,0⟩] pos) (newList []) (firstAsync [⟨tg,iter,ifs,0⟩]) (firstIter [⟨tg,iter,ifs,0⟩] X.env) (some (assign (.Name x pos') X.env)) >>= fun _=>pure ()) _ _ s
 refine wpAny_bind (wpAny_mono (Q:=fun _ s'=>SP X pins D .next s') ?_ (fun _ s' q=>wpAny_pure (wpAny_pure q)) fun _ _ z=>z)
 refine wpAny_comprehension_free rfl hs S.clos S.kind S.names (thn (hi pins s σ H _ I h) fun v s1 h1=>thn h1 fun itv s2 h2=>?_)
 obtain ⟨it,fp,tn,J,H2,e,I2,T,st2,f2,h2⟩:=h2
 subst e
 refine Zkk (Q:=fun v H'=>D.nx (σ.set i (some v)) H') hc S hg ht he I2 T st2 f2 h2 fun d C m s7 H7 I7 n7 G q=>?_
 show wpAny _ _ (assign (.Name x pos') X.env (.ref d)) _ _ s7
 refine wpAny_assign_Name (Zkn (v:=.ref d) I7 hN hi' hx rfl (fun s8 I8 ch=>?_) hf)
 obtain ⟨a,sb,ha⟩:=ch
 have aC:C≠a:=by
  rcases ha with z | z
  ·rw [z]; exact G.loc
  ·exact (G.cell x a z).symm
 exact ⟨m,n7.sameBut sb aC,fun h' sb'=>⟨_,H7,I8.gone G sb',q⟩⟩
end
noncomputable def Itw (n:Nat) (V1:Nat->V->Prop):It:=⟨fun i _=>i<n,fun i H x H'=>H'=H∧V1 i x,fun i _=>i=n⟩
theorem ZiP {P : Program} {w : World} {K : PySem.W.Frag} {tg : Expr} {it : Addr} {n : Nat} {Pv : Nat → Value → Prop} {V1 : Nat → V → Prop} {st : Nat → Heap → Prop}
  (W:∀ A:Around,A.handled=none->Walks P w A it [it] [it] n Pv st) (ob:∀ i h,st i h->∃ o,h.get? it=some o∧∀ v,o.data≠.cell v) (val:∀ i v,Pv i v->∃ x,RelV x v∧V1 i x)
  (own:∀ i v s (M:Model) (A:Around) (E:Value->Shared->Prop) (Q:Unit->Shared->Prop),Pv i v->Q () s->wpAny M A (letOwnedTupleGo tg (.ref it) v) Q E s)
  (self:∀ (A:Around) (i:Nat) (s:Shared) (Q:Value->Shared->Prop) (E:Value->Shared->Prop),st i s.heap->Q (.ref it) s->wpAny (model P w) A (pyIter (.ref it)) Q E s):Turn P w K tg (Itw n V1) [it] it st where
 mem:=by simp
 obj:=fun i h hs b hb=>by
  have e:b=it:=by simpa using hb
  subst e
  exact ob i h hs
 keep:=fun i h h' hs k=>(W {} rfl).frame i h h' hs k
 item:=fun X hP hw hK hc i pins s σ H E I hf hs go=>by
  subst hP hw hK
  refine (W X.A (I.ok.hd hc)).item i s _ E go hs fun v h' tk pv hs' k=>⟨v,rfl,?_⟩
  obtain ⟨x,rx,vx⟩:=val i v pv
  obtain ⟨f0,f1,_,f3,f4,f5⟩:=hf it (by simp)
  have I':Inv X pins σ H { s with heap:=h',toks:=tk }:=I.turned (it:=it) (fun b o n q=>k b o (by simpa using n) q) f0 f1 f3 f4 f5
  refine own i v _ _ _ _ _ pv ⟨x,H,I',rx,⟨rfl,vx⟩,hs',fun b hb=>?_⟩
  have e:b=it:=by simpa using hb
  subst e
  exact f0
 done:=fun X hP hw hK hc i pins s σ H E I hf hs stop=>by
  subst hP hw hK
  have e:i=n:=stop
  subst e
  obtain ⟨f0,f1,_,f3,f4,f5⟩:=hf it (by simp)
  exact (W X.A (I.ok.hd hc)).done s _ E hs fun h' tk k=>⟨rfl,I.turned (it:=it) (fun b o n q=>k b o (by simpa using n) q) f0 f1 f3 f4 f5⟩
 self:=self
def Ztr (te:TE):TI:=fun σ H R=>te σ H fun x H1=>∃ z,x=.str z∧R (Itw z.cps.size fun i y=>∃ c,z.cps[i]?=some c∧y=.str ⟨#[c]⟩) H1
theorem ZnK {M:Model} {A:Around} {E:Value->Shared->Prop} {s:Shared} {tg:Expr} {it:Addr} {z:Str} {t:Tok} {Q:Unit->Shared->Prop} (q:Q () s):wpAny M A (letOwnedTupleGo tg (.ref it) (.str z t)) Q E s:=by
 unfold letOwnedTupleGo
 cases tg <;> exact wpAny_pure q
theorem Zq6 {X:Cx} {tg e:Expr} {te:TE} (he:PE X e te):PI X tg e (Ztr te):=by
 intro pins s σ H R I h
 refine thn (he pins s σ H _ I h) fun v s1 ⟨x,H1,I1,r1,z,e1,q⟩=>?_
 subst e1
 obtain ⟨t,rfl⟩:=r1
 have fr:H1 s1.heap.objs.size=none:=I1.hok.fresh (Nat.le_refl _)
 by_cases low:z.cps.all (·<128)=true
 ·refine wpAny_pyIter_ascii low ⟨s1.heap.objs.size,[s1.heap.objs.size],fun i h=>h.IsStrIter s1.heap.objs.size "str_ascii_iterator" z t i,_,H1,rfl,I1.kept (t':=s1.toks) fun b u q=>Heap.get?_push_of_some _ q,
   ZiP (fun A hA=>Walks.strAscii hA _ z t) (fun i h ⟨o,ho,_,hd⟩=>⟨o,ho,fun v q=>by rw [hd] at q; cases q⟩) (fun i v ⟨c,u,hc,hv⟩=>⟨.str ⟨#[c]⟩,⟨u,hv⟩,c,hc,rfl⟩) (fun i v s M A E Q ⟨c,u,_,hv⟩ hq=>by rw [hv]; exact ZnK hq) fun A i s Q E hs hq=>wpAny_pyIter_striter_ascii hs hq,
   ⟨_,Heap.get?_push_size _ rfl,rfl,rfl⟩,fun b hb=>?_,q⟩
  have e:b=s1.heap.objs.size:=by simpa using hb
  subst e
  exact I1.fpOk (Nat.le_refl _) fr
 ·refine wpAny_pyIter_wide (Bool.eq_false_iff.mpr low) ⟨s1.heap.objs.size,[s1.heap.objs.size],fun i h=>h.IsStrIter s1.heap.objs.size "str_iterator" z t i,_,H1,rfl,I1.kept (t':=s1.toks) fun b u q=>Heap.get?_push_of_some _ q,
   ZiP (fun A hA=>Walks.strWide hA _ z t) (fun i h ⟨o,ho,_,hd⟩=>⟨o,ho,fun v q=>by rw [hd] at q; cases q⟩) (fun i v ⟨c,u,hc,hv⟩=>⟨.str ⟨#[c]⟩,⟨u,hv⟩,c,hc,rfl⟩) (fun i v s M A E Q ⟨c,u,_,hv⟩ hq=>by rw [hv]; exact ZnK hq) fun A i s Q E hs hq=>wpAny_pyIter_striter_wide hs hq,
   ⟨_,Heap.get?_push_size _ rfl,rfl,rfl⟩,fun b hb=>?_,q⟩
  have e:b=s1.heap.objs.size:=by simpa using hb
  subst e
  exact I1.fpOk (Nat.le_refl _) fr
section
variable {prog:Program} {w:World} {A:Around} {s:Shared}
theorem ZeT (hh : A.handled=none) (it t : Addr) (hne : t ≠ it) (us : Array Value) :
  Draws prog w A it [it,t] us.size (fun i v=>us[i]?=some v) (fun i h=>h.IsTupleIter it t i∧h.IsTuple t us) where
 live:=fun _ _ ⟨⟨o,e,_⟩,_⟩=>⟨o,e⟩
 frame:=fun _ _ _ ⟨⟨o,e,r⟩,⟨o',e',r'⟩⟩ k=>⟨⟨o,k it (by simp) o e,r⟩,⟨o',k t (by simp) o' e',r'⟩⟩
 item:=by
  intro i s Q E hi ⟨st,ht⟩ hQ
  have e:us[i]?=some us[i]:=by simp [hi]
  obtain ⟨o,ho,c,d⟩:=id st
  obtain ⟨ot,hot,_,n,dt⟩:=id ht
  unfold Builtin.SmallTypes.nextOf
  refine wpAny_bind (wpAny_callSpecial?_slot (name:=Str.ofString "__next__") st.typeIs F.slot_tuple_iterator_next (wpAny_call_entry F.slot_tuple_iterator_next st.typeIs F.entry_tuple_iterator_next ?_ (F.args_tuple_iterator_next_1 _)))
  unfold Builtin.«tuple_iterator.__next__»
  refine wpAny_bind (m:=field (.ref it) 0) (wpAny_field ho d (x:=.ref t) rfl ?_)
  rw [if_neg (show ¬ ((Value.ref t == Value.none)=true) from Bool.false_ne_true)]
  refine wpAny_bind (m:=field (.ref it) 1) (wpAny_field ho d (x:=.int i 0) rfl (wpAny_bind (m:=seqItems? (.ref t)) (wpAny_seqItems hot dt ?_)))
  simp only [Int.toNat_natCast,e]
  have sb:=Heap.SameBut.update s.heap it (Obj.mapFields (·.setIfInBounds 1 (rawInt (i+1))))
  exact wpAny_bind (wpAny_setField ho d (by simp) (wpAny_pure ⟨_,rfl,wpAny_pure (hQ _ _ s.toks e ⟨⟨_,Heap.get?_update_self _ ho (Obj.isFreed_of_fields (Obj.data_mapFields d _)),(Obj.cls_mapFields ..).trans c,by rw [Obj.data_mapFields d]; simp [rawInt]⟩,ht.extBut sb.extBut hne⟩ sb)⟩))
 done:=by
  intro s Q E ⟨st,ht⟩ hE
  have e:us[us.size]?=none:=by simp
  obtain ⟨o,ho,c,d⟩:=id st
  obtain ⟨ot,hot,_,n,dt⟩:=id ht
  unfold Builtin.SmallTypes.nextOf
  refine wpAny_bind (wpAny_callSpecial?_slot (name:=Str.ofString "__next__") st.typeIs F.slot_tuple_iterator_next (wpAny_call_entry F.slot_tuple_iterator_next st.typeIs F.entry_tuple_iterator_next ?_ (F.args_tuple_iterator_next_1 _)))
  unfold Builtin.«tuple_iterator.__next__»
  refine wpAny_bind (m:=field (.ref it) 0) (wpAny_field ho d (x:=.ref t) rfl ?_)
  rw [if_neg (show ¬ ((Value.ref t == Value.none)=true) from Bool.false_ne_true)]
  refine wpAny_bind (m:=field (.ref it) 1) (wpAny_field ho d (x:=.int us.size 0) rfl (wpAny_bind (m:=seqItems? (.ref t)) (wpAny_seqItems hot dt ?_)))
  simp only [Int.toNat_natCast,e]
  refine wpAny_bind (wpAny_rule (wpAny_bind (wpAny_setField ho d (by simp) ?_)))
  refine wpAny_bind (m:=newExc (.type "StopIteration") []) ?_
  simp only [newExc,newTuple]
  refine wpAny_bind (wpAny_newObj_type (wpAny_bind (m:=firstArgMember _ _) (wpAny_of_eq (a:=Value.none) (by first | rfl | (simp only [firstArgMember]; rfl)) (wpAny_newObj_type ?_ (by size_fits)))) (by size_fits))
  simp only [raiseNew]
  refine wpAny_bind (wpAny_handled ?_)
  first | rw [show A.in1.handled=none from hh] | rw [hh]
  exact wpAny_bind (wpAny_pure (wpAny_throw (hE _ _ (((Heap.SameBut.update ..).extBut.push _).push _) ⟨_,Heap.get?_push_size _ rfl,rfl⟩)))
end
structure ZAp (z TI TO i1 i2:Addr) (f1 f2:List Addr):Prop where
 TIz:TI≠z
 TOz:TO≠z
 i1z:i1≠z
 i2z:i2≠z
 TITO:TI≠TO
 TIi1:TI≠i1
 TIi2:TI≠i2
 TOi1:TO≠i1
 TOi2:TO≠i2
 i12:i1≠i2
 z1:z ∉ f1
 z2:z ∉ f2
 o1:TO ∉ f1
 o2:TO ∉ f2
 b1:i2 ∉ f1
 b2:i1 ∉ f2
section
variable {prog:Program} {w:World} {A:Around} {E:Value->Shared->Prop} {s:Shared} {z TI TO i1 i2:Addr} {f1 f2:List Addr} {n1 n2 k1 k2:Nat} {P1 P2:Nat->Value->Prop} {S1 S2:Nat->Heap->Prop} {a b:Value}
theorem Draws.but {it c:Addr} {fp:List Addr} {n i:Nat} {P:Nat->Value->Prop} {St:Nat->Heap->Prop} {h h':Heap} (D:Draws prog w A it fp n P St) (st:St i h) (e:Heap.ExtBut c h h') (hc:c ∉ fp):St i h' :=
 D.frame _ _ _ st fun b hb o q=>e b o (fun x=>hc (x ▸ hb)) q
theorem ZoM {Q : Value → Shared → Prop} (Z : ZAp z TI TO i1 i2 f1 f2) (D1 : Draws prog w A i1 f1 n1 P1 S1) (D2 : Draws prog w A i2 f2 n2 P2 S2) (hz : IsZip s.heap z TI TO .none) (hTI : IsPair s.heap TI (.ref i1) (.ref i2)) (hTO : IsPair s.heap TO a b)
  (g1:S1 k1 s.heap) (g2:S2 k2 s.heap) (l1:k1<n1) (l2:k2<n2)
  (hQ:∀ x y h' tk,P1 k1 x->P2 k2 y->IsZip h' z TI TO (rawInt s.heap.objs.size)->IsPair h' TO x y->S1 (k1+1) h'->S2 (k2+1) h'->IsPair h' s.heap.objs.size x y →
   (∀ c o,c≠z->c≠TO->c≠i1->c≠i2->s.heap.get? c=some o->h'.get? c=some o)->Q (.ref s.heap.objs.size) { s with heap:=h',toks:=tk }) :
  wpAny (model prog w) A (Builtin.«zip.__next__» ⟨[.ref z],[]⟩) (fun fin s'=>∃ v,fin=.done (.ret v)∧Q v s') E s:=by
 unfold Builtin.«zip.__next__»
 refine wpAny_bind (m:=field (.ref z) 2) (wpAny_field hz rfl (x:=.bool false) rfl ?_)
 refine wpAny_bind (m:=field (.ref z) 3) (wpAny_field hz rfl (x:=.ref TI) rfl (wpAny_bind (wpAny_seqItems hTI rfl ?_)))
 refine wpAny_bind (m:=Builtin.SmallTypes.ownedTupleIsFree (.ref z)) ?_
 unfold Builtin.SmallTypes.ownedTupleIsFree
 refine wpAny_bind (wpAny_field hz rfl (x:=.none) rfl (wpAny_pure ?_))
 simp only [if_true]
 refine wpAny_bind (wpAny_rule (wpAny_bind (wpAny_field hz rfl (x:=.ref TO) rfl (wpAny_bind (wpAny_setField_rec hz (by simp) fun hA zA sA=>wpAny_bind ?_)))))
 replace zA:IsZip hA z TI TO .ellipsis:=zA
 simp only [List.zipIdx_cons,List.zipIdx_nil,List.forIn_cons,List.forIn_nil]
 refine wpAny_bind (wpAny_bind (wpAny_onRaise (wpAny_bind (m:=Builtin.SmallTypes.nextOf (.ref i1)) (D1.item k1 _ _ _ l1 (Draws.but D1 g1 sA.extBut Z.z1) fun x hB tB px gB sB=>wpAny_pure ?_))))
 have oB:IsPair hB TO a b:=sB.extBut _ _ Z.TOi1 (sA.extBut _ _ Z.TOz hTO)
 refine wpAny_bind (wpAny_seqItems oB rfl (wpAny_bind (wpAny_updateSeq_pair oB fun hC oC sC=>wpAny_bind (wpAny_letGo (wpAny_pure ?_)))))
 replace oC:IsPair hC TO x b:=oC
 refine wpAny_bind (wpAny_bind (wpAny_onRaise (wpAny_bind (m:=Builtin.SmallTypes.nextOf (.ref i2)) (D2.item k2 _ _ _ l2 (Draws.but D2 (Draws.but D2 (Draws.but D2 g2 sA.extBut Z.z2) sB.extBut Z.b2) sC.extBut Z.o2) fun y hD tD py gD sD=>wpAny_pure ?_))))
 have oD:IsPair hD TO x b:=sD.extBut _ _ Z.TOi2 oC
 refine wpAny_bind (wpAny_seqItems oD rfl (wpAny_bind (wpAny_updateSeq_pair oD fun hE oE sE=>wpAny_bind (wpAny_letGo (wpAny_pure (wpAny_pure ?_))))))
 replace oE:IsPair hE TO x y:=oE
 have zE:IsZip hE z TI TO .ellipsis:=sE.extBut _ _ Z.TOz.symm (sD.extBut _ _ Z.i2z.symm (sC.extBut _ _ Z.TOz.symm (sB.extBut _ _ Z.i1z.symm zA)))
 have sz:hE.objs.size=s.heap.objs.size:=by rw [sE.1,sD.1,sC.1,sB.1,sA.1]
 have kE:∀ c o,c≠z->c≠TO->c≠i1->c≠i2->s.heap.get? c=some o->hE.get? c=some o:=fun c o c1 c2 c3 c4 e=>sE.extBut _ _ c2 (sD.extBut _ _ c4 (sC.extBut _ _ c2 (sB.extBut _ _ c3 (sA.extBut _ _ c1 e))))
 have d1:S1 (k1+1) hE:=Draws.but D1 (Draws.but D1 (Draws.but D1 gB sC.extBut Z.o1) sD.extBut Z.b1) sE.extBut Z.o1
 have d2:S2 (k2+1) hE:=Draws.but D2 gD sE.extBut Z.o2
 refine wpAny_bind (wpAny_seqItems oE rfl (wpAny_bind (wpAny_newTuple ?_)))
 refine wpAny_bind (m:=Builtin.SmallTypes.ownedTupleHandOut (.ref z) (.ref hE.objs.size)) ?_
 unfold Builtin.SmallTypes.ownedTupleHandOut
 have zF:IsZip (hE.push { cls:=.type "tuple",data:=.seq #[x,y] }) z TI TO .ellipsis:=Heap.get?_push_of_some _ zE
 refine wpAny_bind (wpAny_setField_rec zF (by simp) fun hG zG sG=>?_)
 replace zG:IsZip hG z TI TO (rawInt hE.objs.size):=zG
 refine wpAny_setField_rec zG (by simp) fun hI zI sI=>wpAny_pure ⟨_,rfl,?_⟩
 replace zI:IsZip hI z TI TO (rawInt hE.objs.size):=zI
 have up:∀ c o,c≠z->hE.get? c=some o->hI.get? c=some o:=fun c o c1 e=>sI.extBut _ _ c1 (sG.extBut _ _ c1 (Heap.get?_push_of_some _ e))
 have zl:hE.objs.size≠z:=Nat.ne_of_gt (Heap.lt_size zE)
 have tI:IsPair hI hE.objs.size x y:=sI.extBut _ _ zl (sG.extBut _ _ zl (Heap.get?_push_size _ rfl))
 show Q (.ref hE.objs.size) _
 rw [sz] at zI tI ⊢
 exact hQ x y hI tD px py zI (up _ _ Z.TOz oE) (D1.frame _ _ _ d1 fun c hc o e=>up c o (fun q=>Z.z1 (q ▸ hc)) e) (D2.frame _ _ _ d2 fun c hc o e=>up c o (fun q=>Z.z2 (q ▸ hc)) e) tI fun c o c1 c2 c3 c4 e=>up c o c1 (kE c o c1 c2 c3 c4 e)
theorem Zpl {Q : Fin → Shared → Prop} (Z : ZAp z TI TO i1 i2 f1 f2) (D1 : Draws prog w A i1 f1 n1 P1 S1) (hz : IsZip s.heap z TI TO .none) (hTI : IsPair s.heap TI (.ref i1) (.ref i2))
  (g1:S1 n1 s.heap)
  (hE:∀ h' e,(∀ c o,c≠z->c≠TO->c≠i1->c≠i2->s.heap.get? c=some o->h'.get? c=some o)->(∃ o,h'.get? e=some o∧o.cls=.type "StopIteration")->E (.ref e) { s with heap:=h' }) :
  wpAny (model prog w) A (Builtin.«zip.__next__» ⟨[.ref z],[]⟩) Q E s:=by
 unfold Builtin.«zip.__next__»
 refine wpAny_bind (m:=field (.ref z) 2) (wpAny_field hz rfl (x:=.bool false) rfl ?_)
 refine wpAny_bind (m:=field (.ref z) 3) (wpAny_field hz rfl (x:=.ref TI) rfl (wpAny_bind (wpAny_seqItems hTI rfl ?_)))
 refine wpAny_bind (m:=Builtin.SmallTypes.ownedTupleIsFree (.ref z)) ?_
 unfold Builtin.SmallTypes.ownedTupleIsFree
 refine wpAny_bind (wpAny_field hz rfl (x:=.none) rfl (wpAny_pure ?_))
 simp only [if_true]
 refine wpAny_bind (wpAny_rule (wpAny_bind (wpAny_field hz rfl (x:=.ref TO) rfl (wpAny_bind (wpAny_setField_rec hz (by simp) fun hA zA sA=>wpAny_bind ?_)))))
 replace zA:IsZip hA z TI TO .ellipsis:=zA
 simp only [List.zipIdx_cons,List.zipIdx_nil,List.forIn_cons,List.forIn_nil]
 refine wpAny_bind (wpAny_bind (wpAny_onRaise (wpAny_bind (m:=Builtin.SmallTypes.nextOf (.ref i1)) (D1.done _ _ _ (Draws.but D1 g1 sA.extBut Z.z1) fun hB e sB he=>?_))))
 obtain ⟨o,ho,c⟩:=he
 have zB:IsZip hB z TI TO .ellipsis:=sB _ _ Z.i1z.symm zA
 have ez:e≠z:=fun q=>by
  subst q
  rw [zB] at ho
  cases ho
  simp at c
 exact wpAny_setField_rec zB (by simp) fun hC _ sC=>hE hC e (fun c o c1 _ c3 _ q=>sC.extBut _ _ c1 (sB _ _ c3 (sA.extBut _ _ c1 q))) ⟨o,sC.extBut _ _ ez ho,c⟩
theorem Znt {Q : Option Value → Shared → Prop} (Z : ZAp z TI TO i1 i2 f1 f2) (D1 : Draws prog w A.in1 i1 f1 n1 P1 S1) (D2 : Draws prog w A.in1 i2 f2 n2 P2 S2) (hz : IsZip s.heap z TI TO .none) (hTI : IsPair s.heap TI (.ref i1) (.ref i2)) (hTO : IsPair s.heap TO a b)
  (g1:S1 k1 s.heap) (g2:S2 k2 s.heap) (l1:k1<n1) (l2:k2<n2)
  (hQ:∀ x y h' tk,P1 k1 x->P2 k2 y->IsZip h' z TI TO (rawInt s.heap.objs.size)->IsPair h' TO x y->S1 (k1+1) h'->S2 (k2+1) h'->IsPair h' s.heap.objs.size x y →
   (∀ c o,c≠z->c≠TO->c≠i1->c≠i2->s.heap.get? c=some o->h'.get? c=some o)->Q (some (.ref s.heap.objs.size)) { s with heap:=h',toks:=tk }) :
  wpAny (model prog w) A (pyNext (.ref z)) Q E s:=by
 have T:s.TypeIs (.ref z) "zip":=⟨_,hz,rfl⟩
 unfold pyNext
 exact wpAny_bind (wpAny_attempt (wpAny_callSpecial?_slot (name:=Str.ofString "__next__") T F.slot_zip_next (wpAny_call_entry F.slot_zip_next T F.entry_zip_next
  (ZoM Z D1 D2 hz hTI hTO g1 g2 l1 l2 fun x y h' tk a1 a2 a3 a4 a5 a6 a7 a8=>wpAny_pure (hQ x y h' tk a1 a2 a3 a4 a5 a6 a7 a8)) (F.args_zip_next_1 _))))
theorem Zoz {Q : Option Value → Shared → Prop} (Z : ZAp z TI TO i1 i2 f1 f2) (D1 : Draws prog w A.in1 i1 f1 n1 P1 S1) (hz : IsZip s.heap z TI TO .none) (hTI : IsPair s.heap TI (.ref i1) (.ref i2)) (g1 : S1 n1 s.heap)
  (hQ:∀ h',(∀ c o,c≠z->c≠TO->c≠i1->c≠i2->s.heap.get? c=some o->h'.get? c=some o)->Q none { s with heap:=h' }):wpAny (model prog w) A (pyNext (.ref z)) Q E s:=by
 have T:s.TypeIs (.ref z) "zip":=⟨_,hz,rfl⟩
 unfold pyNext
 refine wpAny_bind (wpAny_attempt (wpAny_callSpecial?_slot (name:=Str.ofString "__next__") T F.slot_zip_next (wpAny_call_entry F.slot_zip_next T F.entry_zip_next (Zpl Z D1 hz hTI g1 fun h' e k he=>?_) (F.args_zip_next_1 _))))
 obtain ⟨o,ho,c⟩:=he
 exact wpAny_bind (wpAny_isInstance (T:="StopIteration") (b:=true) ⟨o,ho,c⟩ isSubtype_stop (wpAny_pure (hQ _ k)))
end
section
variable {X:Cx} {pins:List (Addr × Obj)} {σ:St} {H:Hp} {s:Shared} {h':Heap}
theorem Inv.turnedAll {t':Nat} {ch:List Addr} (I:Inv X pins σ H s) (hf:∀ b∈ch,ZmS X pins H b) (k:∀ b o,b ∉ ch->s.heap.get? b=some o->h'.get? b=some o):Inv X pins σ H { s with heap:=h',toks:=t' }:=by
 have nit:∀ b u,H b=some u->b ∉ ch:=fun b u e z=>by rw [(hf b z).1] at e; cases e
 refine I.step (g':=s.gens) (d':=s.drawn) (ch:=ch) (fun b hb=>⟨(hf b hb).2.2.2.1,(hf b hb).2.1,(hf b hb).2.2.2.2⟩) (fun b o _ _ hc e _=>k b o hc e) (fun b o _ _ hc e _=>⟨o.slots,k b o hc e⟩) (fun _ _ _ _ n=>n)
  (fun b o hc e=>⟨o,k b o hc e⟩) (fun _ _ e=>e) (fun _ _ _ e=>e) (fun b ps e=>⟨#[],by rw [e]; simp⟩) (fun m hm=>?_) (fun b u e=>?_) I.bare
 ·obtain ⟨o,es,ep,ho,r⟩:=hm
  exact ⟨o,es,ep,k _ o (fun z=>(hf _ z).2.1 rfl) ho,r⟩
 ·refine (I.hok b u e).stay (fun c v hc q=>k c v ?_ q) (fun _ q=>q) fun _ _ q=>q
  rcases hc with z | z
  ·rw [z]; exact nit b u e
  ·exact nit c _ z
theorem Inv.turnedLaid {t' : Nat} {ch : List Addr} {T : Addr} {o : HO} (I : Inv X pins σ H s) (hf : ∀ b ∈ ch, ZmS X pins H b) (k : ∀ b o, b ∉ ch → s.heap.get? b=some o → h'.get? b=some o) (hp : s.heap.objs.size ≤ T) (new : ObjOk X.prog X.w (upd H T o) h' T o) :
  Inv X pins σ (upd H T o) { s with heap:=h',toks:=t' }:=by
 have nit:∀ b u,H b=some u->b ∉ ch:=fun b u e z=>by rw [(hf b z).1] at e; cases e
 have hn:=I.hok.fresh hp
 have up:∀ {b u},H b=some u->upd H T o b=some u:=fun {b u} e=>by rw [Zak (Zap e hn)]; exact e
 refine I.step (g':=s.gens) (d':=s.drawn) (ch:=ch) (fun b hb=>⟨(hf b hb).2.2.2.1,(hf b hb).2.1,(hf b hb).2.2.2.2⟩) (fun b o _ _ hc e _=>k b o hc e) (fun b o _ _ hc e _=>⟨o.slots,k b o hc e⟩) (fun b u _ e n=>?_)
  (fun b o hc e=>⟨o,k b o hc e⟩) (fun _ _ e=>up e) (fun _ _ _ e=>up e) (fun b ps e=>⟨#[],by rw [up e]; simp⟩) (fun m hm=>?_) (fun b u e=>?_) I.bare
 ·rw [Zak (fun z=>absurd (Heap.lt_size e) (by rw [z]; exact Nat.not_lt.mpr hp))]
  exact n
 ·obtain ⟨o,es,ep,ho,r⟩:=hm
  exact ⟨o,es,ep,k _ o (fun z=>(hf _ z).2.1 rfl) ho,r⟩
 ·by_cases hb:b=T
  ·subst hb
   rw [Zab] at e
   cases e
   exact new
  ·rw [Zak hb] at e
   refine (I.hok b u e).stay (fun c v hc q=>k c v ?_ q) (fun _ q=>up q) fun _ _ q=>up q
   rcases hc with z | z
   ·rw [z]; exact nit b u e
   ·exact nit c _ z
end
noncomputable def Itz (K:W.Frag) (a b:Addr):It :=
 ⟨fun i H => ∃ xs ys x y, SqT K H a xs ∧ SqT K H b ys ∧ xs[i]?=some x ∧ ys[i]?=some y,
  fun i H v H'=>∃ T x y,H T=none∧v=.ref T∧(∀ xs,SqT K H a xs->xs[i]?=some x)∧(∀ ys,SqT K H b ys->ys[i]?=some y)∧H'=upd H T (.tup [x,y]),
  fun i H=>∃ xs,SqT K H a xs∧xs.length=i⟩
def ZSt (z TI TO i1 i2 a b:Addr) (i:Nat) (h:Heap):Prop:=IsZip h z TI TO .none∧IsPair h TI (.ref i1) (.ref i2)∧(∃ u v,IsPair h TO u v)∧h.IsTupleIter i1 a i∧h.IsTupleIter i2 b i
theorem Zpn {P : Program} {w : World} {K : W.Frag} {es : List Expr} {n : Nat} {pos : Pos} {z TI TO i1 i2 a b : Addr} (Z : ZAp z TI TO i1 i2 [i1, a] [i2, b]) (ha : a ≠ i1) (hb : b ≠ i2) :
  Turn P w K (.Tuple es n pos) (Itz K a b) [z,TI,TO,i1,i2] z (ZSt z TI TO i1 i2 a b) where
 mem:=by simp
 obj:=fun i h ⟨h1,h2,⟨u,v,h3⟩,⟨o4,h4,_,d4⟩,⟨o5,h5,_,d5⟩⟩ c hc=>by
  simp only [List.mem_cons,List.not_mem_nil,or_false] at hc
  rcases hc with rfl | rfl | rfl | rfl | rfl
  ·exact ⟨_,h1,fun v q=>by cases q⟩
  ·exact ⟨_,h2,fun v q=>by cases q⟩
  ·exact ⟨_,h3,fun v q=>by cases q⟩
  ·exact ⟨_,h4,fun v q=>by rw [d4] at q; cases q⟩
  ·exact ⟨_,h5,fun v q=>by rw [d5] at q; cases q⟩
 keep:=fun i h h' ⟨h1,h2,⟨u,v,h3⟩,⟨o4,h4,r4⟩,⟨o5,h5,r5⟩⟩ k =>
  ⟨k _ (by simp) _ h1,k _ (by simp) _ h2,⟨u,v,k _ (by simp) _ h3⟩,⟨o4,k _ (by simp) _ h4,r4⟩,⟨o5,k _ (by simp) _ h5,r5⟩⟩
 item:=by
  intro X hP hw hK hc i pins s σ H E I hf ⟨h1,h2,⟨u,v,h3⟩,h4,h5⟩ ⟨xs,ys,x,y,qa,qb,ex,ey⟩
  subst hP hw hK
  obtain ⟨as,ra,ta,la⟩:=I.tuple qa
  obtain ⟨bs,rb,tb,lb⟩:=I.tuple qb
  have hh:X.A.in1.handled=none:=I.ok.hd hc
  have la':=ra.length
  have lb':=rb.length
  have lx:i<as.toArray.size:=by
   have:=(List.getElem?_eq_some_iff.mp ex).1
   simp only [List.size_toArray]; omega
  have ly:i<bs.toArray.size:=by
   have:=(List.getElem?_eq_some_iff.mp ey).1
   simp only [List.size_toArray]; omega
  refine Znt Z (ZeT hh i1 a ha as.toArray) (ZeT hh i2 b hb bs.toArray) h1 h2 h3 ⟨h4,ta⟩ ⟨h5,tb⟩ lx ly fun u1 u2 h' tk p1 p2 z1 o1 g1 g2 t1 k=>?_
  refine ⟨_,rfl,wpAny_letOwnedTupleGo_zip z1 fun h'' z2 sb=>?_⟩
  have lz:z<s.heap.objs.size:=Heap.lt_size h1
  have nz:s.heap.objs.size≠z:=Nat.ne_of_gt lz
  obtain ⟨v1,e1,r1⟩:=ra.get ex
  obtain ⟨v2,e2,r2⟩:=rb.get ey
  have q1:v1=u1:=by
   have p:as[i]?=some u1:=by simpa using p1
   rw [e1] at p
   exact Option.some.inj p
  have q2:v2=u2:=by
   have p:bs[i]?=some u2:=by simpa using p2
   rw [e2] at p
   exact Option.some.inj p
  subst q1 q2
  have kk:∀ c o,c ∉ [z,TI,TO,i1,i2]->s.heap.get? c=some o->h''.get? c=some o:=fun c o hc e=>by
   simp only [List.mem_cons,List.not_mem_nil,or_false,not_or] at hc
   exact sb.extBut _ _ hc.1 (k c o hc.1 hc.2.2.1 hc.2.2.2.1 hc.2.2.2.2 e)
  have tt:IsPair h'' s.heap.objs.size v1 v2:=sb.extBut _ _ nz t1
  have I':=I.turnedLaid (t':=tk) (o:=.tup [x,y]) hf kk (Nat.le_refl _) (show ObjOk X.prog X.w _ h'' _ (.tup [x,y]) from ⟨Zaj (by simp),[v1,v2],.cons r1 (.cons r2 .nil),⟨_,tt,rfl,_,rfl⟩⟩)
  refine ⟨.ref s.heap.objs.size,_,I',rfl,⟨s.heap.objs.size,x,y,I.hok.fresh (Nat.le_refl _),rfl,fun zs hz=>by rw [I.tuple_inj hz qa]; exact ex,fun zs hz=>by rw [I.tuple_inj hz qb]; exact ey,rfl⟩,?_,fun c hc=>?_⟩
  ·exact ⟨z2,sb.extBut _ _ Z.TIz (k _ _ Z.TIz Z.TITO Z.TIi1 Z.TIi2 h2),⟨_,_,sb.extBut _ _ Z.TOz o1⟩,g1.1.extBut sb.extBut Z.i1z,g2.1.extBut sb.extBut Z.i2z⟩
  ·have hlt:c<s.heap.objs.size:=by
    simp only [List.mem_cons,List.not_mem_nil,or_false] at hc
    obtain ⟨o4,e4,_⟩:=h4
    obtain ⟨o5,e5,_⟩:=h5
    rcases hc with rfl | rfl | rfl | rfl | rfl
    ·exact lz
    ·exact Heap.lt_size h2
    ·exact Heap.lt_size h3
    ·exact Heap.lt_size e4
    ·exact Heap.lt_size e5
   rw [Zak (Nat.ne_of_lt hlt)]
   exact (hf c hc).1
 done:=by
  intro X hP hw hK hc i pins s σ H E I hf ⟨h1,h2,⟨u,v,h3⟩,h4,h5⟩ ⟨xs,qa,hl⟩
  subst hP hw hK
  obtain ⟨as,ra,ta,la⟩:=I.tuple qa
  have hh:X.A.in1.handled=none:=I.ok.hd hc
  have e:i=as.toArray.size:=by
   have:=ra.length
   simp only [List.size_toArray]; omega
  subst e
  refine Zoz (f2:=[i2,b]) Z (ZeT hh i1 a ha as.toArray) h1 h2 ⟨h4,ta⟩ fun h' k=>⟨rfl,I.turnedAll (t':=s.toks) hf fun c o hc e=>?_⟩
  simp only [List.mem_cons,List.not_mem_nil,or_false,not_or] at hc
  exact k c o hc.1 hc.2.2.1 hc.2.2.2.1 hc.2.2.2.2 e
 self:=fun _ _ _ _ _ st h=>wpAny_pyIter_zip st.1 h
theorem ZoJ {prog : Program} {w : World} {A : Around} {E : Value → Shared → Prop} {s : Shared} {a b : Addr} {us vs : Array Value} {Q : Value → Shared → Prop} (ha : s.heap.IsTuple a us) (hb : s.heap.IsTuple b vs)
  (h:∀ h',ZSt (s.heap.objs.size+4) (s.heap.objs.size+2) (s.heap.objs.size+3) s.heap.objs.size (s.heap.objs.size+1) a b 0 h'->(∀ c o,s.heap.get? c=some o->h'.get? c=some o)->Q (.ref (s.heap.objs.size+4)) { s with heap:=h' }) :
  wpAny (model prog w) A (call (.type "zip") [.ref a,.ref b]) Q E s:=by
 let H1:Heap:=s.heap.push { cls:=.type "tuple_iterator",data:=.fields #[.ref a,.int 0 0] }
 let H2:Heap:=H1.push { cls:=.type "tuple_iterator",data:=.fields #[.ref b,.int 0 0] }
 let H3:Heap:=H2.push { cls:=.type "tuple",data:=.seq #[.ref s.heap.objs.size,.ref H1.objs.size] }
 let H4:Heap:=H3.push { cls:=.type "tuple",data:=.seq #[.none,.none] }
 let H5:Heap:=H4.push { cls:=.type "zip",data:=.fields #[.none,.bool false,.bool false,.ref H2.objs.size,.ref H3.objs.size] }
 have m:Meets (Builtin.«zip.__new__» ⟨[.type "zip",.ref a,.ref b],[]⟩) (fun _ R s1=>s1=s∧R (.ok (.ret (.ref H4.objs.size))) { s with heap:=H5 }):=.of_wp fun prog w A R s1 hR=>by
  obtain ⟨rfl,hR⟩:=hR
  obtain ⟨hp,g,d,tk,os⟩:=s1
  have hsub:=sub_zip
  have hL1:Heap.IsTuple (Shared.heap ⟨hp,g,d,tk,os⟩) a us:=ha
  have hL2:Heap.IsTuple (Shared.heap ⟨hp.push { cls:=.type "tuple_iterator",data:=.fields #[.ref a,.int 0 0] },g,d,tk,os⟩) b vs:=Heap.IsTuple.push hb _
  wp_walk using wpAny_pyIter_tuple hL1,wpAny_pyIter_tuple hL2
  exact ⟨_,rfl,hR⟩
 refine callType_new F.called_zip (by decide) (F.typeCall_zip_2 _ _) (F.newCall_zip_2 _ _) (fun obj=>F.args_object_init_3 obj _ _) F.entry_zip_new m ⟨rfl,?_⟩
 have z1:H1.objs.size=s.heap.objs.size+1:=Heap.size_push ..
 have z2:H2.objs.size=s.heap.objs.size+2:=by rw [Heap.size_push,z1]
 have z3:H3.objs.size=s.heap.objs.size+3:=by rw [Heap.size_push,z2]
 have z4:H4.objs.size=s.heap.objs.size+4:=by rw [Heap.size_push,z3]
 have up5:∀ c o,H4.get? c=some o->H5.get? c=some o:=fun c o e=>Heap.get?_push_of_some _ e
 have up4:∀ c o,H3.get? c=some o->H5.get? c=some o:=fun c o e=>up5 c o (Heap.get?_push_of_some _ e)
 have up3:∀ c o,H2.get? c=some o->H5.get? c=some o:=fun c o e=>up4 c o (Heap.get?_push_of_some _ e)
 have up2:∀ c o,H1.get? c=some o->H5.get? c=some o:=fun c o e=>up3 c o (Heap.get?_push_of_some _ e)
 have g5:H5.get? H4.objs.size=some _:=Heap.get?_push_size _ rfl
 have g4:H5.get? H3.objs.size=some _:=up5 _ _ (Heap.get?_push_size _ rfl)
 have g3:H5.get? H2.objs.size=some _:=up4 _ _ (Heap.get?_push_size _ rfl)
 have g2:H5.get? H1.objs.size=some _:=up3 _ _ (Heap.get?_push_size _ rfl)
 have g1:H5.get? s.heap.objs.size=some _:=up2 _ _ (Heap.get?_push_size _ rfl)
 show _∧_
 rw [z4,z2,z3] at g5
 rw [z3] at g4
 rw [z2,z1] at g3
 rw [z1] at g2
 rw [z4]
 exact ⟨⟨_,g5,rfl⟩,h H5 ⟨g5,g3,⟨_,_,g4⟩,⟨_,g1,rfl,rfl⟩,⟨_,g2,rfl,rfl⟩⟩ fun c o e=>up2 c o (Heap.get?_push_of_some _ e)⟩
theorem Zq4:bootBuiltins "zip"=some (.type "zip"):=by decide +kernel
theorem ZmZ:bootBuiltins "all"=some (.builtin "all"):=by decide +kernel
theorem ZqP {c x y:Nat} (h1:c≠x) (h2:c≠y):c ∉ [x,y]:=fun z=>by
 rcases List.mem_cons.mp z with z | z
 ·exact h1 z
 ·exact h2 (by simpa using z)
theorem ZrI {m a b:Nat} (la:a<m) (lb:b<m):ZAp (m+4) (m+2) (m+3) m (m+1) [m,a] [m+1,b] where
 TIz:=(by omega:(m+2:Nat)≠m+4)
 TOz:=(by omega:(m+3:Nat)≠m+4)
 i1z:=(by omega:(m:Nat)≠m+4)
 i2z:=(by omega:(m+1:Nat)≠m+4)
 TITO:=(by omega:(m+2:Nat)≠m+3)
 TIi1:=(by omega:(m+2:Nat)≠m)
 TIi2:=(by omega:(m+2:Nat)≠m+1)
 TOi1:=(by omega:(m+3:Nat)≠m)
 TOi2:=(by omega:(m+3:Nat)≠m+1)
 i12:=(by omega:(m:Nat)≠m+1)
 z1:=ZqP (by omega) (by omega)
 z2:=ZqP (by omega) (by omega)
 o1:=ZqP (by omega) (by omega)
 o2:=ZqP (by omega) (by omega)
 b1:=ZqP (by omega) (by omega)
 b2:=ZqP (by omega) (by omega)
section
variable {X:Cx}
def Zs1 (K:W.Frag) (ta:TA):TI:=fun σ H R=>ta σ H fun vs H1=>∃ a b,vs=[.ref a,.ref b]∧(∃ xs,SqT K H1 a xs)∧(∃ ys,SqT K H1 b ys)∧R (Itz K a b) H1
theorem Zrq (K : W.Frag) {e1 e2 : Expr} {ta : TA} {p pos pos' : Pos} {es : List Expr} {n : Nat} (hg : Gl X "zip") (hm : X.mg "zip"=none) (ha : PA X [e1, e2] ta) (hK : X.K=K := by rfl)
  (hs:starEach [e1,e2] X.env=(false,eval e1 X.env) :: starEach [e2] X.env:=by rfl) (hpl:(backTo pos (starEach [e2] X.env)).any (·.1)=false:=by rfl):PI X (.Tuple es n pos') (.Call (.Name "zip" p) [e1,e2] [] pos) (Zs1 K ta):=by
 subst hK
 intro pins s σ H R I h
 refine wpAny_Call_Name_kw (ZhD I hg hm Zq4 (PyProof.Rows.callWith_type1 (thn (ha pos pins s σ H _ I h) fun us s1 ⟨vs,H1,I1,r1,q1⟩=>?_) hs hpl))
 obtain ⟨a,b,e,⟨xs,qa⟩,⟨ys,qb⟩,q⟩:=q1
 subst e
 obtain ⟨u,v,rfl,ra,rb⟩:=Zmv r1
 cases (show u=Value.ref a from ra)
 cases (show v=Value.ref b from rb)
 obtain ⟨as,ka,ta',_⟩:=I1.tuple qa
 obtain ⟨bs,kb,tb',_⟩:=I1.tuple qb
 have la:a<s1.heap.objs.size:=by obtain ⟨o,e,_⟩:=ta'; exact Heap.lt_size e
 have lb:b<s1.heap.objs.size:=by obtain ⟨o,e,_⟩:=tb'; exact Heap.lt_size e
 refine ZoJ ta' tb' fun h' st k=>wpAny_pyIter_zip st.1 ?_
 have Z:=ZrI la lb
 refine ⟨s1.heap.objs.size+4,_,_,_,H1,rfl,I1.kept (t':=s1.toks) k,Zpn Z (Nat.ne_of_lt la) (Nat.ne_of_lt (Nat.lt_succ_of_lt lb)),st,fun c hc=>?_,q⟩
 have hle:s1.heap.objs.size≤c:=by
  simp only [List.mem_cons,List.not_mem_nil,or_false] at hc
  rcases hc with rfl | rfl | rfl | rfl | rfl
  ·exact Nat.le_add_right _ 4
  ·exact Nat.le_add_right _ 2
  ·exact Nat.le_add_right _ 3
  ·exact Nat.le_refl _
  ·exact Nat.le_add_right _ 1
 have e:=I1.fpOk hle (I1.hok.fresh hle)
 exact e
theorem Zlm {P:Program} {w:World} {A:Around} {bs:List Bool} {us:List Value} (r:Vals (bs.map V.bl) us):TruthOf P w A (fun i v=>us.toArray[i]?=some v) (fun i=>bs.getD i false):=by
 intro i v s Q E e q
 have e':us[i]?=some v:=by simpa using e
 have hl:=r.length
 rw [List.length_map] at hl
 have lt:i<bs.length:=by
  have:=(List.getElem?_eq_some_iff.mp e').1
  omega
 obtain ⟨u,e2,r2⟩:=r.get (i:=i) (x:=V.bl bs[i]) (by simp [lt])
 rw [e'] at e2
 cases e2
 cases (show v=Value.bool bs[i] from r2)
 have z:bs.getD i false=bs[i]:=by simp [List.getD,lt]
 exact wpAny_truthy_bool (by rw [← z]; exact q)
theorem ZkL:∀ bs:List Bool,((List.range bs.length).all fun i=>bs.getD i false)=bs.all id
 | []=>rfl
 | b :: bs=>by
  rw [List.length_cons,List.range_succ_eq_map,List.all_cons,List.all_map,List.all_cons,← ZkL bs]
  rfl
theorem Zjz (hc:X.calm=true):Zd0 X (.builtin "all") (fun xs H Q=>∃ (a:Addr) (bs:List Bool),xs=[.ref a]∧H a=some (.lst (bs.map V.bl))∧Q (.bl (bs.all id)) H):=by
 intro pins s σ H xs us Q I r h
 obtain ⟨a,bs,rfl,q,hq⟩:=h
 obtain ⟨u,rfl,ru⟩:=Zfb r
 cases (show u=Value.ref a from ru)
 obtain ⟨its,rv,pl,hz⟩:=I.list (.inl (.inl q))
 have lt:a<s.heap.objs.size:=by obtain ⟨o,e,_⟩:=pl.isList; exact Heap.lt_size e
 have hl:=rv.length
 rw [List.length_map] at hl
 refine call_all_walk (wpAny_pyIter_list pl.isList ⟨s.heap.objs.size,_,_,_,_,_,_,rfl,Walks.list (show X.A.in1.handled=none from I.ok.hd hc) _ a (Nat.ne_of_lt lt) its.toArray,⟨⟨_,Heap.get?_push_size _ rfl,rfl,rfl⟩,pl.isList.push _⟩,Zlm rv,fun h' tk k=>?_⟩)
 rw [List.size_toArray,← hl,ZkL]
 exact ⟨.bl _,H,I.kept (t':=tk) fun b o e=>k b o (fun z=>absurd (Heap.lt_size e) (by rw [show b=s.heap.objs.size by simpa using z]; exact Nat.lt_irrefl _)) (Heap.get?_push_of_some _ e),rfl,hq⟩
def Zq8 (X:Cx) (CX:CXT) (Fam:Addr->Sp->Prop):Prop:=∀ f sp,Fam f sp->∃ k fd ps,FnOk X.prog X.w X.K X.mg X.base CX k f fd ps sp∧Room k X.A∧W.keepIn X.K (.ref f)=true∧Binds X.K fd ps []
def ZrQ (Fam:Addr->Sp->Prop) (i:Nat) (E:XK) (t:TA):TE:=fun σ H Q=>∃ f sp,σ[i]?=some (some (.ref f))∧Fam f sp∧t σ H fun vs H1=>sp vs H1 Q E
theorem Zpi {CX : CXT} {Fam : Addr → Sp → Prop} {E : XK} {i : Nat} {x : Str} {p pos : Pos} {e : Expr} {es : List Expr} {t : TA} (F : Zq8 X CX Fam) (hN : X.N[i]?=some x) (hv : Vis X.env.scope x) (hx : ZkI CX X E) (ha : PA X (e :: es) t)
  (hd:(x == ("__debug__" : Str))=false:=by decide) (hcd:(x == ("__classdict__" : Str))=false:=by decide)
  (he:starEach (e :: es) X.env=(false,eval e X.env) :: starEach es X.env:=by rfl) (hpl:(backTo pos (starEach es X.env)).any (·.1)=false:=by rfl):PE X (.Call (.Name x p) (e :: es) [] pos) (ZrQ Fam i E t):=by
 intro pins s σ H Q I h
 obtain ⟨f,sp,e1,hF,q⟩:=h
 obtain ⟨k,fd,ps,Fn,hr,hk,hb⟩:=F f sp hF
 refine wpAny_Call_Name_kw (thn (ZpE hN hv hd hcd pins s σ H (fun v H'=>v=.ref f∧H'=H) I ⟨_,e1,rfl,rfl⟩) fun u s1 ⟨v,H1,I1,r1,e2,e3⟩=>?_)
 subst e2 e3
 cases (show u=Value.ref f from r1)
 refine W.callWith_K (h₀:=X.base) I1.ok.mod.kin hk (thn (ha pos pins s1 σ H1 _ I1 q) fun us s2 ⟨vs,H2,I2,r2,q2⟩=>⟨I2.kIn,?_⟩) he hpl
 exact Zrl Fn hr hb .nil hx I2 r2 (by rw [List.append_nil]; exact q2)
end
section
variable {X:Cx} {tg l:Expr} {tl:TE} (K:W.Frag) (hK:X.K=K)
include hK
theorem ZcL:IxR X (ZsY K):=by subst hK; exact Zao
theorem ZpB:OpR X (compareOp .In) (rIn K false):=by subst hK; exact Zeb
theorem ZnE:OpR X (compareOp .NotIn) (rIn K true):=by subst hK; exact Zgu
end
theorem Zlg {X : Cx} (K : W.Frag) {es : List Expr} {k : Nat} {t : TGs} {n : Nat} {pos : Pos} (hc : X.calm=true) (h : PGs X es t) (hK : X.K=K := by rfl)
  (hn:(assignEach es X.env).length=n:=by rfl) (hst:(assignEach es X.env).findIdx? (·.1)=none:=by rfl):PG X (.Tuple es k pos) (ZsU K n t):=by
 subst hK
 exact ZlX hc h hn hst
theorem ZeG {J : It} {σ0 : St} {g : TG} {te : TE} {Q : VK} {H1 : Hp} (out : List V) (hn : out.length<sizeLine) (σP : St → Prop) (h0 : σP σ0)
  (go:∀ i H,i<out.length->Same H1 H->J.go i H) (stop:∀ H,Same H1 H->J.stop out.length H)
  (step:∀ i σ H x H' y,out[i]?=some y->σP σ->Same H1 H->J.yld i H x H'->∀ C:V->St->Hp->Prop,(∀ σ2 H6,σP σ2->Same H H6->C y σ2 H6)->g x σ H' fun σ2 H4=>te σ2 H4 fun y' H6=>C y' σ2 H6)
  (fin:∀ D H',H1 D=none->Same H1 H'->H' D=some (.lst out)->Q (.ref D) H'):Zpu J σ0 g ZsJ te Q H1:=by
 intro D hD
 have keep:∀ {H:Hp} {o:HO},Same H1 H->Same H1 (upd H D o):=fun {H o} e b u q=>by
  rw [Zak (Zap q hD)]
  exact e b u q
 refine ⟨fun i m σ ys H=>i≤out.length∧m=out.length-i∧σP σ∧ys=out.take i∧H D=some (.lst ys)∧Same H1 H,⟨_,Nat.zero_le _,rfl,h0,rfl,Zab,keep (Same.refl H1)⟩,?_⟩
 rintro i m σ ys H ⟨hi,rfl,p,rfl,hd,sm⟩
 refine ⟨hd,?_⟩
 by_cases lt:i<out.length
 ·refine .inr ⟨go i H lt sm,fun σ2 ys2 H3=>σP σ2∧ys2=out.take (i+1)∧H3 D=some (.lst ys2)∧Same H1 H3,fun σ2 ys2 H3 ⟨a,b,c,d⟩=>⟨_,by omega,lt,rfl,a,b,c,d⟩,fun x H3 y=>?_⟩
  have e:out[i]?=some out[i]:=by simp [lt]
  refine step i σ H x H3 out[i] e p sm y (fun y' σ2 H6=>H6 D=some (.lst (out.take i))∧(out.take i).length<sizeLine∧σP σ2∧out.take i++[y']=out.take (i+1)∧upd H6 D (.lst (out.take i++[y'])) D=some (.lst (out.take i++[y']))∧Same H1 (upd H6 D (.lst (out.take i++[y'])))) fun σ2 H6 p2 s6=>?_
  exact ⟨s6 _ _ hd,by rw [List.length_take]; omega,p2,by rw [List.take_add_one,e]; rfl,Zab,keep (sm.trans s6)⟩
 ·have e:i=out.length:=by omega
  subst e
  rw [List.take_length] at hd
  exact .inl ⟨stop H sm,fin D H hD sm hd⟩
section
variable {K:W.Frag} {H:Hp} {xs ys:List V} {a b:Addr} {Q:VK}
end
noncomputable def Zsl (js:List (Option Nat)) (σ:St):St:=js.map fun o=>match o with | none=>none | some j=>(σ[j]?).getD none
noncomputable def ZrU (fr:List Str) (cells:List (Str × Addr)):List (Str × Addr):=fr.filterMap fun x=>(cells.lookup x).map fun c=>(x,c)
noncomputable def Zsw (js:List (Option Nat)) (N M:List Str) (inn out:List (Str × NameKind)):Bool :=
 (js.zip N).all fun p=>match p.1 with
  | none=>true
  | some j=>(M[j]? == some p.2)&&((inn.lookup p.2 == some .cell)||(inn.lookup p.2 == some .free))&&((out.lookup p.2 == some .cell)||(out.lookup p.2 == some .free))
theorem ZnU {L:List (Str × NameKind)} {x:Str} (h:((L.lookup x == some NameKind.cell)||(L.lookup x == some NameKind.free))=true):L.lookup x=some .cell∨L.lookup x=some .free:=by
 rw [Bool.or_eq_true] at h
 rcases h with h | h
 ·exact .inl (eq_of_beq h)
 ·exact .inr (eq_of_beq h)
theorem Zlf {fr:List Str} {cells:List (Str × Addr)} {x:Str} (h:x∈fr) (e:(cells.lookup x).isSome=true):∃ c,(ZrU fr cells).lookup x=some c:=by
 obtain ⟨c,hc⟩:=Option.isSome_iff_exists.mp e
 induction fr with
 | nil=>cases h
 | cons y r ih =>
  unfold ZrU
  rw [List.filterMap_cons]
  by_cases q:y=x
  ·subst q
   rw [hc]
   exact ⟨c,by simp⟩
  ·have hr:x∈r:=by
    rcases List.mem_cons.mp h with z | z
    ·exact absurd z.symm q
    ·exact z
   cases e2:cells.lookup y with
   | none=>exact ih hr
   | some d =>
    obtain ⟨c',hc'⟩:=ih hr
    refine ⟨c',?_⟩
    show List.lookup x ((y,d) :: ZrU r cells)=some c'
    rw [List.lookup_cons,beq_eq_false_iff_ne.mpr (Ne.symm q)]
    exact hc'
theorem Za5 {X : Cx} {N : List Str} {sc : Scope} (fr : List Str) (js : List (Option Nat)) (hk : sc.kind=.function) (hn : ∀ x ∈ sc.names, x.2=.local → sc.names.lookup x.1=some .local) (hc : ∀ y ∈ sc.names, y.2 ≠ .cell)
  (clos:closureFor sc X.env=pure (ZrU fr X.env.cells)) (hall:(fr.all fun x=>(X.env.cells.lookup x).isSome)=true)
  (hhas:((relabel sc X.env).names.all fun y=>(y.2 != .cell&&y.2 != .free)||fr.contains y.1)=true) (hl:js.length=N.length) (hcap:Zsw js N X.N (relabel sc X.env).names X.env.scope.names=true) :
  CompSc X N sc (ZrU fr X.env.cells) (Zsl js):=by
 have lk:∀ (x:Str) (M:List (Str × NameKind)) (k:NameKind),M.lookup x=some k->(x,k)∈M:=fun x M k h=>PySem.mem_of_lookup h
 refine ⟨hk,hn,hc,clos,fun x c h=>?_,fun x h=>?_,fun σ=>?_,fun σ i x v e1 e2=>?_⟩
 ·have m:=PySem.mem_of_lookup h
  obtain ⟨y,_,e⟩:=List.mem_filterMap.mp m
  obtain ⟨d,hd,e'⟩:=Option.map_eq_some_iff.mp e
  cases e'
  exact hd
 ·have hm:x∈fr:=by
   rcases h with h | h <;>
   ·have q:=List.all_eq_true.mp hhas _ (lk x _ _ h)
    rw [Bool.or_eq_true] at q
    rcases q with q | q
    ·simp at q
    ·simpa using q
  exact Zlf hm (List.all_eq_true.mp hall x hm)
 ·unfold Zsl
  rw [List.length_map,hl]
 ·unfold Zsl at e2
  rw [List.getElem?_map] at e2
  obtain ⟨o,ho,e2⟩:=Option.map_eq_some_iff.mp e2
  cases o with
  | none=>cases e2
  | some j =>
   have hz:(some j,x)∈js.zip N:=by
    refine List.mem_iff_getElem?.mpr ⟨i,?_⟩
    rw [List.getElem?_zip_eq_some]
    exact ⟨ho,e1⟩
   have q:=List.all_eq_true.mp hcap _ hz
   simp only [Bool.and_eq_true] at q
   refine ⟨ZnU q.1.2,ZnU q.2,j,eq_of_beq q.1.1,?_⟩
   replace e2:(σ[j]?).getD none=some v:=e2
   cases e3:σ[j]? with
   | none=>rw [e3] at e2; cases e2
   | some o'=>rw [e3] at e2; rw [show o'=some v from e2]
theorem Zbs {J : It} {σ0 : St} {g : TG} {tt : TT} {te : TE} {Q : VK} {H1 : Hp} (Zc7 : List (Option V)) (hn : Zc7.length<sizeLine) (σP : St → Prop) (h0 : σP σ0)
  (go:∀ i H,i<Zc7.length->Same H1 H->J.go i H) (stop:∀ H,Same H1 H->J.stop Zc7.length H)
  (step:∀ i σ H x H' o,Zc7[i]?=some o->σP σ->Same H1 H->J.yld i H x H'->∀ C:Option V->St->Hp->Prop,(∀ σ2 H6,σP σ2->Same H H6->C o σ2 H6)->g x σ H' fun σ2 H4=>tt σ2 H4 fun c H5=>if c=true then te σ2 H5 fun y' H6=>C (some y') σ2 H6 else C none σ2 H5)
  (fin:∀ D H',H1 D=none->Same H1 H'->H' D=some (.lst (Zc7.filterMap id))->Q (.ref D) H'):Zpu J σ0 g tt te Q H1:=by
 intro D hD
 have keep:∀ {H:Hp} {o:HO},Same H1 H->Same H1 (upd H D o):=fun {H o} e b u q=>by
  rw [Zak (Zap q hD)]
  exact e b u q
 have fl:∀ i,((Zc7.take i).filterMap id).length≤Zc7.length:=fun i=>Nat.le_trans (List.length_filterMap_le _ _) (by rw [List.length_take]; omega)
 refine ⟨fun i m σ ys H=>i≤Zc7.length∧m=Zc7.length-i∧σP σ∧ys=(Zc7.take i).filterMap id∧H D=some (.lst ys)∧Same H1 H,⟨_,Nat.zero_le _,rfl,h0,rfl,Zab,keep (Same.refl H1)⟩,?_⟩
 rintro i m σ ys H ⟨hi,rfl,p,rfl,hd,sm⟩
 refine ⟨hd,?_⟩
 by_cases lt:i<Zc7.length
 ·refine .inr ⟨go i H lt sm,fun σ2 ys2 H3=>σP σ2∧ys2=(Zc7.take (i+1)).filterMap id∧H3 D=some (.lst ys2)∧Same H1 H3,fun σ2 ys2 H3 ⟨a,b,c,d⟩=>⟨_,by omega,lt,rfl,a,b,c,d⟩,fun x H3 y=>?_⟩
  have e:Zc7[i]?=some Zc7[i]:=by simp [lt]
  have tk:(Zc7.take (i+1)).filterMap id=(Zc7.take i).filterMap id++Zc7[i].toList:=by
   rw [List.take_add_one,e]
   simp only [Option.toList_some,List.filterMap_append]
   cases Zc7[i] <;> rfl
  refine step i σ H x H3 Zc7[i] e p sm y (fun o σ2 H6=>match o with
   | some y'=>H6 D=some (.lst ((Zc7.take i).filterMap id))∧((Zc7.take i).filterMap id).length<sizeLine∧σP σ2∧(Zc7.take i).filterMap id++[y']=(Zc7.take (i+1)).filterMap id∧upd H6 D (.lst ((Zc7.take i).filterMap id++[y'])) D=some (.lst ((Zc7.take i).filterMap id++[y']))∧Same H1 (upd H6 D (.lst ((Zc7.take i).filterMap id++[y'])))
   | none=>σP σ2∧(Zc7.take i).filterMap id=(Zc7.take (i+1)).filterMap id∧H6 D=some (.lst ((Zc7.take i).filterMap id))∧Same H1 H6) fun σ2 H6 p2 s6=>?_
  rw [tk]
  cases hg:Zc7[i] with
  | none=>exact ⟨p2,by simp,s6 _ _ hd,sm.trans s6⟩
  | some y'=>exact ⟨s6 _ _ hd,Nat.lt_of_le_of_lt (fl i) hn,p2,by simp,Zab,keep (sm.trans s6)⟩
 ·have e:i=Zc7.length:=by omega
  subst e
  rw [List.take_length] at hd
  exact .inl ⟨stop H sm,fin D H hD sm hd⟩
end L2
namespace RevF
open PySem PySem.Spec PyProof.Rows
theorem Zob:Slot "reversed" (Str.ofString "__init__") "object.__init__" :=
 Slot.of (owner:="object") (n:="__init__") (by rw [typeLookup_type,builtinLookup_eq_fast]; rfl) (by decide +kernel) (by decide +kernel) (by decide +kernel) (Or.inl (by rfl)) (by rw [isSubtype_type]; rfl) (by decide +kernel)
theorem mro:mroOf (.type "reversed")=pure [.type "reversed",.type "object"]:=by rw [mroOf_type]; rfl
theorem ZmO:typeLookup (.type "reversed") (Str.ofString "__new__")=pure (some (.builtin "reversed.__new__")):=by rw [typeLookup_type,builtinLookup_eq_fast]; rfl
theorem made:Bind.madeBy (.type "reversed")=pure (some "reversed.__new__"):=madeBy_type mro ZmO (by decide +kernel)
theorem sub:isSubtype (.type "reversed") (.type "reversed")=pure true:=by rw [isSubtype_type]; rfl
theorem ZpR:TypeCalled "reversed" "reversed.__new__" "object.__init__" where
 notType:=by decide +kernel
 canCreate:=by decide +kernel
 mro:=⟨_,_,mro⟩
 made:=made
 plain:=by decide +kernel
 sub:=sub
 init:=Zob
theorem Zo3 (a:Value):checkTypeCall "reversed" { pos:=[a] }=pure ():=by rfl
theorem ZsT:isType (.type "reversed")=pure true:=by rfl
theorem bk:builtinKind "reversed.__new__"=some .builtinFn:=by rfl
theorem sp:splitId "reversed.__new__"=some ("reversed","__new__"):=by rfl
theorem sb:Bind.staticBase (.type "reversed")=pure (.type "reversed"):=by
 unfold Bind.staticBase
 simp only [mro,pure_bind,List.forIn_cons,made]
 rfl
theorem Zql (a:Value):checkBuiltinCall "reversed.__new__" { pos:=[.type "reversed",a] }=pure ():=by
 unfold checkBuiltinCall
 simp only [bk,sp,ZsT,sub,sb,made,pure_bind]
 rfl
theorem Zoo:entryFor table "reversed.__new__"=some Builtin.«reversed.__new__»:=entryFor_of_tree (by rfl)
theorem ZkZ (a:Value):Builtin.SmallTypes.newClass "reversed" ⟨[.type "reversed",a],[]⟩=pure (.type "reversed",[a]):=by
 unfold Builtin.SmallTypes.newClass
 simp only [ZsT,sub,pure_bind]
 rfl
section
variable {prog:Program} {w:World} {A:Around} {E:Value->Shared->Prop} {s:Shared} {a it:Addr} {us:Array Value}
end
end RevF
namespace L2
open PySem PySem.Spec PyProof.Rows
theorem Zk6:bootBuiltins "reversed"=some (.type "reversed"):=by decide +kernel
section
variable {X:Cx}
end
section
variable {prog:Program} {w:World} {A:Around} {E:Value->Shared->Prop} {s:Shared}
end
section
variable {X:Cx}
end
section
variable {X:Cx} {o e f:Expr} {apos cpos:Pos} {td ty tx:TE}
end
section
variable {X:Cx}
theorem ZqB (K : W.Frag) {o : Expr} {to : TE} {name : Str} {apos cpos : Pos} {T id : String} {r : V → List V → Hp → VK → Prop} (pa : PlainAttrs T) (slot : Slot T name id) (hty : typeOf (.builtin id)=pure (.type "method_descriptor")) (hm : MtR X id r) (ho : PE X o to) (hK : X.K=K := by rfl)
  (hbase:attributeBase o name X.env (eval o X.env)=eval o X.env:=by rfl) (hline:(apos.endLine == cpos.line)=true:=by rfl):PE X (.Call (.Attribute o name apos) [] [] cpos) (ZsP K T r to):=by
 subst hK
 exact ZrA pa slot hty hm ho hbase hline
end
end L2
namespace RevF
open PySem PySem.Spec PyProof.Rows
theorem ZdH:Slot "list_reverseiterator" (Str.ofString "__next__") "list_reverseiterator.__next__" :=
 Slot.of (owner:="list_reverseiterator") (n:="__next__") (by rw [typeLookup_type,builtinLookup_eq_fast]; rfl) (by decide +kernel) (by decide +kernel) (by decide +kernel) (Or.inl (by rfl)) (by rw [isSubtype_type]; rfl) (by decide +kernel)
theorem ZhH:entryFor table "list_reverseiterator.__next__"=some Builtin.«list_reverseiterator.__next__»:=entryFor_of_tree (by rfl)
theorem Zil (a:Value):argsOk "list_reverseiterator.__next__" ⟨[a],[]⟩:=by unfold argsOk; rfl
theorem Ziw:Slot "list_reverseiterator" (Str.ofString "__iter__") "list_reverseiterator.__iter__" :=
 Slot.of (owner:="list_reverseiterator") (n:="__iter__") (by rw [typeLookup_type,builtinLookup_eq_fast]; rfl) (by decide +kernel) (by decide +kernel) (by decide +kernel) (Or.inl (by rfl)) (by rw [isSubtype_type]; rfl) (by decide +kernel)
theorem Zk0:entryFor table "list_reverseiterator.__iter__"=some Builtin.«dict_keyiterator.__iter__» :=
 entryFor_alias (id':="dict_keyiterator.__iter__") (by rfl) rfl (by decide +kernel) (by rfl)
theorem Zmc (a:Value):argsOk "list_reverseiterator.__iter__" ⟨[a],[]⟩:=by unfold argsOk; rfl
theorem Zsq:typeLookup (.type "list_reverseiterator") (Str.ofString "__len__")=pure none:=by rw [typeLookup_type,builtinLookup_eq_fast]; rfl
theorem Zrh:typeLookup (.type "list_reverseiterator") (Str.ofString "__length_hint__")=pure (some (.builtin "list_reverseiterator.__length_hint__")):=by rw [typeLookup_type,builtinLookup_eq_fast]; rfl
theorem Zrf:isSubtype (.type "list_reverseiterator") (.type "list_reverseiterator")=pure true:=by rw [isSubtype_type]; rfl
theorem ZsF:isSubtype (.type "list_reverseiterator") (.type "reversed")=pure false:=by rw [isSubtype_type]; rfl
theorem Zh5 {prog : Program} {w : World} {A : Around} {E : Value → Shared → Prop} {s : Shared} {T newId initId : String} {args : List Value} {Q Q₁ : Value → Shared → Prop} (ft : TypeCalled T newId initId) (hct : checkTypeCall T { pos := args }=pure ())
  (hnew:codeAny (model prog w) A.in1 (Code.call (.builtin newId) { pos:=.type T :: args }) (wants Q₁ E) s) (hnext:∀ obj s1,Q₁ obj s1->∃ U,s1.TypeIs obj U∧isSubtype (.type U) (.type T)=pure false∧Q obj s1) :
  wpAny (model prog w) A (call (.type T) args) Q E s:=by
 obtain ⟨c,tl,hmro⟩:=ft.mro
 refine wpAny_call (codeAny_of_tree (wpAny_pure ⟨Code.quiet_builtin _ (by decide +kernel),codeAny_builtin F.entry_type_call ?_⟩))
 rw [Around.under_plain (weight_type_call_type T args []) rfl]
 have h1:=ft.notType
 have h2:=ft.canCreate
 refine wpAny_ite_false (by simp [h1]) (wpAny_ite_false (by simp [h2]) (wpAny_bind (wpAny_of_eq hct (wpAny_bind (wpAny_of_eq hmro (wpAny_ite_false rfl (wpAny_bind (wpAny_of_eq ft.made (wpAny_bind (wpAny_pure (wpAny_bind (wpAny_holding (wpAny_call (codeAny_mono hnew fun r s1 hr=>?_))))))))))))))
 match r,hr with
 | .error e,hr=>exact hr
 | .ok (.ret v),hr =>
  obtain ⟨U,t,sb,q⟩:=hnext v s1 hr
  refine wpAny_bind (wpAny_isInstance t sb ?_)
  rw [if_pos (by decide)]
  exact wpAny_bind (wpAny_rule (wpAny_pure q))
section
variable {prog:Program} {w:World} {A:Around} {E:Value->Shared->Prop} {s:Shared} {a it:Addr} {us:Array Value}
def ZeQ (h:Heap) (it t:Addr) (i:Int):Prop:=h.get? it=some { cls:=.type "list_reverseiterator",data:=.fields #[.ref t,rawInt i] }
theorem lrev_call {Q : Value → Shared → Prop} (ha : s.heap.IsList a us)
  (h:∀ tk,Q (.ref s.heap.objs.size) { s with heap:=s.heap.push { cls:=.type "list_reverseiterator",data:=.fields #[.ref a,rawInt ((us.size:Int)-1)] },toks:=tk }) :
  wpAny (model prog w) A (call (.type "reversed") [.ref a]) Q E s:=by
 obtain ⟨⟨oc,od,dat,sl⟩,ho,hc,n,hd⟩:=id ha
 refine Zh5 (Q₁:=fun obj s1=>obj=.ref s.heap.objs.size∧∃ tk,s1={ s with heap:=s.heap.push { cls:=.type "list_reverseiterator",data:=.fields #[.ref a,rawInt ((us.size:Int)-1)] },toks:=tk }) ZpR (Zo3 _) ?_ ?_
 ·refine codeAny_call_builtin ZpR.plain Zoo (wpAny_of_eq (Zql _) ?_)
  unfold Builtin.«reversed.__new__»
  refine wpAny_bind (wpAny_of_eq (ZkZ _) ?_)
  dsimp only
  refine wpAny_bind (wpAny_of_eq (a:=()) (by rfl) ?_)
  refine wpAny_bind (wpAny_of_eq (a:=()) (by rfl) ?_)
  refine wpAny_bind (wpAny_specialOf ha.typeIs F.slot_list_reversed.lookup ?_)
  dsimp only
  refine wpAny_bind (wpAny_of_eq (F.slot_list_reversed.bind _) ?_)
  dsimp only
  rw [if_neg (by decide)]
  refine wpAny_bind (wpAny_rule ?_)
  refine wpAny_bind (m:=call (.builtin "list.__reversed__") [.ref a]) (wpAny_call_entry F.slot_list_reversed ha.typeIs F.entry_list_reversed ?_ (F.args_list_reversed_1 _))
  unfold Builtin.«list.__reversed__»
  refine wpAny_bind (wpAny_of_eq (a:=Value.ref a) (by rfl) ?_)
  refine wpAny_bind (wpAny_listItems ho hd ?_)
  refine wpAny_bind (m:=newFields _ _) ?_
  unfold newFields
  exact wpAny_newObj_type (wpAny_pure ⟨_,rfl,wpAny_pure ⟨rfl,_,rfl⟩⟩) (by size_fits)
 ·rintro obj s1 ⟨rfl,tk,rfl⟩
  exact ⟨"list_reverseiterator",⟨_,Heap.get?_push_size _ rfl,rfl⟩,ZsF,h tk⟩
theorem ZjU {Q:Value->Shared->Prop} {i:Int} (h:ZeQ s.heap it a i) (q:Q (.ref it) s):wpAny (model prog w) A (pyIter (.ref it)) Q E s:=by
 have hT:s.TypeIs (.ref it) "list_reverseiterator":=⟨_,h,rfl⟩
 exact wpAny_pyIter_slot hT Ziw (wpAny_call_entry Ziw hT Zk0 (id (wpAny_pure ⟨.ref it,rfl,"list_reverseiterator",.builtin "list_reverseiterator.__next__",hT,ZdH.lookup,q⟩)) (Zmc _))
theorem ZmW {Q : Option Value → Shared → Prop} {i : Nat} {x : Value} (h : ZeQ s.heap it a i) (ha : s.heap.IsList a us) (e : us[i]?=some x)
  (q:∀ h',ZeQ h' it a ((i:Int)-1)->Heap.SameBut it s.heap h'->Q (some x) { s with heap:=h' }):wpAny (model prog w) A (pyNext (.ref it)) Q E s:=by
 have hT:s.TypeIs (.ref it) "list_reverseiterator":=⟨_,h,rfl⟩
 obtain ⟨o,ho,hc,n,hd⟩:=id ha
 unfold pyNext
 refine wpAny_bind (wpAny_attempt (wpAny_callSpecial?_slot (name:=Str.ofString "__next__") hT ZdH (wpAny_call_entry ZdH hT ZhH ?_ (Zil _))))
 unfold Builtin.«list_reverseiterator.__next__»
 refine wpAny_bind (wpAny_of_eq (a:=(Value.ref it,[])) (by rfl) ?_)
 dsimp only
 refine wpAny_bind (m:=field (.ref it) 1) (wpAny_field h rfl (x:=rawInt i) rfl ?_)
 show wpAny _ _ (if (i:Int)<0 then _ else _) _ _ _
 rw [if_neg (by omega)]
 refine wpAny_bind (m:=field (.ref it) 0) (wpAny_field h rfl (x:=.ref a) rfl ?_)
 refine wpAny_bind (m:=seqItems? (.ref a)) (wpAny_seqItems ho hd ?_)
 dsimp only
 rw [Int.toNat_natCast,e]
 dsimp only
 refine wpAny_bind (wpAny_setField_rec h (by simp) fun h' hr sb=>wpAny_pure ⟨_,rfl,wpAny_pure ?_⟩)
 exact q h' hr sb
theorem Zpr {Q : Option Value → Shared → Prop} (h : ZeQ s.heap it a (-1)) (hh : A.in1.handled=none)
  (q:∀ h',(∀ b o,s.heap.get? b=some o->h'.get? b=some o)->Q none { s with heap:=h' }):wpAny (model prog w) A (pyNext (.ref it)) Q E s:=by
 have hT:s.TypeIs (.ref it) "list_reverseiterator":=⟨_,h,rfl⟩
 unfold pyNext
 refine wpAny_bind (wpAny_attempt (wpAny_callSpecial?_slot (name:=Str.ofString "__next__") hT ZdH (wpAny_call_entry ZdH hT ZhH ?_ (Zil _))))
 unfold Builtin.«list_reverseiterator.__next__»
 refine wpAny_bind (wpAny_of_eq (a:=(Value.ref it,[])) (by rfl) ?_)
 dsimp only
 refine wpAny_bind (m:=field (.ref it) 1) (wpAny_field h rfl (x:=rawInt (-1)) rfl ?_)
 show wpAny _ _ (if (-1:Int)<0 then _ else _) _ _ _
 rw [if_pos (by decide)]
 refine wpAny_bind (wpAny_rule ?_)
 unfold Builtin.SmallTypes.stopIteration
 refine wpAny_bind (wpAny_bind (m:=newExc (.type "StopIteration") []) ?_)
 simp only [newExc,newTuple]
 refine wpAny_bind (wpAny_newObj_type (wpAny_bind (m:=firstArgMember _ _) (wpAny_of_eq (a:=Value.none) (by first | rfl | (simp only [firstArgMember]; rfl)) (wpAny_newObj_type ?_ (by size_fits)))) (by size_fits))
 simp only [raiseNew]
 refine wpAny_bind (wpAny_handled ?_)
 rw [show A.in1.handled=none from hh]
 refine wpAny_bind (wpAny_pure (wpAny_throw ?_))
 refine wpAny_bind (wpAny_isInstance (T:="StopIteration") (b:=true) ⟨_,Heap.get?_push_size _ rfl,rfl⟩ isSubtype_stop (wpAny_pure (q _ fun b o e=>?_)))
 exact Heap.get?_push_of_some _ (Heap.get?_push_of_some _ e)
theorem Zmi (hh : A.in1.handled=none) (it l : Addr) (hne : l ≠ it) (us : Array Value) :
  Walks prog w A it [it,l] [it] us.size (fun i v=>us[us.size-1-i]?=some v) (fun i h=>i≤us.size∧ZeQ h it l ((us.size:Int)-1-(i:Nat))∧h.IsList l us) where
 sub:=by simp
 frame:=fun i h h' ⟨li,r,⟨o,ho,p⟩⟩ k=>⟨li,k it (by simp) _ r,⟨o,k l (by simp) _ ho,p⟩⟩
 item:=by
  intro i s Q E hi ⟨_,r,hl⟩ q
  have e:us[us.size-1-i]?=some us[us.size-1-i]:=by simp
  have r':ZeQ s.heap it l ((us.size-1-i:Nat):Int):=by
   have z:((us.size-1-i:Nat):Int)=(us.size:Int)-1-(i:Nat):=by omega
   rw [z]; exact r
  refine ZmW r' hl e fun h' hr sb=>q _ h' s.toks e ⟨hi,?_,?_⟩ fun b o hb e=>(sb.2 b (by simpa using hb)).trans e
  ·have z:((us.size-1-i:Nat):Int)-1=(us.size:Int)-1-((i+1:Nat):Int):=by omega
   rw [← z]; exact hr
  ·obtain ⟨o,ho,p⟩:=hl
   exact ⟨o,(sb.2 l hne).trans ho,p⟩
 done:=by
  intro s Q E ⟨_,r,hl⟩ q
  have r':ZeQ s.heap it l (-1):=by
   have z:(us.size:Int)-1-(us.size:Nat)=-1:=by omega
   rw [← z]; exact r
  exact Zpr r' hh fun h' k=>q h' s.toks fun b o _ e=>k b o e
 self:=fun i s Q E st q=>ZjU st.2.1 q
theorem Znz {Q:Bool->Shared->Prop} {i:Int} (h:ZeQ s.heap it a i) (q:Q false s):wpAny (model prog w) A (Builtin.List.listLengthHint (.ref it)) Q E s:=by
 have hT:s.TypeIs (.ref it) "list_reverseiterator":=⟨_,h,rfl⟩
 unfold Builtin.List.listLengthHint
 refine wpAny_bind (wpAny_specialOf hT Zsq ?_)
 rw [if_neg (by decide)]
 refine wpAny_bind (wpAny_specialOf hT Zrh ?_)
 dsimp only
 rw [show splitId "list_reverseiterator.__length_hint__"=some ("list_reverseiterator","__length_hint__") from by rfl]
 dsimp only
 refine wpAny_bind (wpAny_isInstance hT Zrf ?_)
 rw [if_neg (by decide)]
 refine wpAny_ite_true (by rfl) ?_
 rw [if_neg (by decide)]
 exact wpAny_pure q
theorem call_list_lrev {Q : Value → Shared → Prop} (hh : A.handled=none) (h : ZeQ s.heap it a ((us.size : Int)-1)) (hl : s.heap.IsList a us) (hz : us.size ≤ sizeLine)
  (q:∀ h' tk (acc:Array Value) c,(∀ b o,b≠it->s.heap.get? b=some o->h'.get? b=some o)->h'.get? s.heap.objs.size=some { cls:=.type "list",data:=.seq acc c }->ItemsOf (fun i v=>us[us.size-1-i]?=some v) acc us.size →
   Q (.ref s.heap.objs.size) { s with heap:=h',toks:=tk }):wpAny (model prog w) A (call (.type "list") [.ref it]) Q E s:=by
 have lit:it<s.heap.objs.size:=Heap.lt_size h
 refine callType_codes F.called_list (F.typeCall_list_1 _) F.entry_list_init (code_list_new _ (Q₁:=fun obj s1=>obj=.ref s.heap.objs.size∧s1={ s with heap:=s.heap.push { cls:=.type "list",data:=.seq #[] } }) ⟨rfl,rfl⟩) fun obj s1 ⟨e1,e2⟩=>?_
 subst e1 e2
 refine ⟨⟨_,Heap.get?_push_size _ rfl,rfl⟩,F.args_list_init_2 _ _,?_⟩
 have g0:(s.heap.push { cls:=.type "list",data:=.seq #[] }).get? s.heap.objs.size=some { cls:=.type "list",data:=.seq #[] }:=Heap.get?_push_size _ rfl
 unfold Builtin.«list.__init__»
 dsimp only
 rw [if_neg (by decide),if_neg (by simp)]
 refine wpAny_bind (wpAny_listItems g0 rfl ?_)
 refine wpAny_bind (listUpdate_at g0 rfl ?_ (by decide) (by decide))
 refine wpAny_bind (wpAny_letGo ?_)
 have sb:=Heap.SameBut.update (s.heap.push { cls:=.type "list",data:=.seq #[] }) s.heap.objs.size (Obj.mapSeq fun _=>#[])
 obtain ⟨c1,g1⟩:∃ c1,((s.heap.push { cls:=.type "list",data:=.seq #[] }).update s.heap.objs.size (Obj.mapSeq fun _=>#[])).get? s.heap.objs.size=some { cls:=.type "list",data:=.seq #[] c1 } :=
  ⟨_,Heap.get?_update_self _ g0 rfl⟩
 generalize (s.heap.push { cls:=.type "list",data:=.seq #[] }).update s.heap.objs.size (Obj.mapSeq fun _=>#[])=h1 at *
 have kp:∀ b o,s.heap.get? b=some o->h1.get? b=some o:=fun b o e=>(sb.2 b (Nat.ne_of_lt (Heap.lt_size e))).trans (Heap.get?_push_of_some _ e)
 have r1:ZeQ h1 it a ((us.size:Int)-1):=kp _ _ h
 have l1:h1.IsList a us:=by
  obtain ⟨o,ho,p⟩:=hl
  exact ⟨o,kp _ _ ho,p⟩
 have la:a<s.heap.objs.size:=by
  obtain ⟨o,ho,p⟩:=hl
  exact Heap.lt_size ho
 have hT1:Shared.TypeIs { s with heap:=h1 } (.ref it) "list_reverseiterator":=⟨_,r1,rfl⟩
 unfold Builtin.List.listExtendWith
 refine wpAny_bind (wpAny_typeOf hT1 ?_)
 refine wpAny_ite_false ?_ ?_
 ·have:(s.heap.objs.size == it)=false:=beq_eq_false_iff_ne.mpr (Nat.ne_of_gt lit)
  simp [Builtin.List.listSameRef,this]
 refine wpAny_bind (ZjU r1 ?_)
 refine wpAny_bind (wpAny_holding (Znz r1 ?_))
 refine wpAny_ite_false (by rfl) ?_
 have hai:a≠it:=fun e=>by
  subst e
  obtain ⟨o,ho,hc,_⟩:=hl
  rw [show s.heap.get? a=some _ from h] at ho
  cases ho
  simp at hc
 refine wpAny_pure ⟨Code.quiet_builtin _ (by decide +kernel),?_⟩
 refine codeAny_extend_loopS (Zmi (A:=A.in1.in1) (show A.in1.in1.in1.handled=none from hh) it a hai us).toS hz s.heap.objs.size (by simp only [List.mem_cons,List.not_mem_nil,or_false,not_or]; exact ⟨Nat.ne_of_gt lit,Nat.ne_of_gt la⟩) .none us.size 0 _ #[] c1 (by omega) (by omega) ⟨Nat.zero_le _,by simpa using r1,l1⟩ g1 ⟨rfl,by simp⟩ fun s' acc c mv g2 its=>?_
 refine ⟨rfl,?_⟩
 have e:s'={ s with heap:=s'.heap,toks:=s'.toks }:=by
  have e1:=mv.gens
  have e2:=mv.drawn
  have e3:=mv.os
  cases s'
  simp only at e1 e2 e3
  subst e1 e2 e3
  rfl
 rw [e]
 refine q s'.heap s'.toks acc c (fun b o hb eb=>mv.heap b o ?_ (kp b o eb)) g2 its
 simp only [List.mem_cons,List.not_mem_nil,or_false,not_or]
 exact ⟨Nat.ne_of_lt (Heap.lt_size eb),hb⟩
end
end RevF
namespace TextM
open PySem
end TextM
namespace L2
open PySem PySem.Spec PyProof.Rows
section
variable {X:Cx}
theorem Zod {us:List Value} {acc:Array Value} (h:ItemsOf (fun i v=>us.toArray[us.toArray.size-1-i]?=some v) acc us.toArray.size):acc.toList=us.reverse:=by
 obtain ⟨hs0,hi⟩:=h
 have hz:us.toArray.size=us.length:=List.size_toArray ..
 have hs:acc.size=us.length:=hs0.trans hz
 simp only [hz] at hi
 refine List.ext_getElem? fun i=>?_
 by_cases lt:i<us.length
 ·rw [List.getElem?_reverse lt]
  have li:i<acc.size:=by omega
  have e:acc[i]?=some acc[i]:=by simp [li]
  have:=hi i _ e
  rw [List.getElem?_toArray] at this
  rw [this,Array.getElem?_toList,e]
 ·rw [List.getElem?_eq_none (by rw [Array.length_toList,hs]; omega),List.getElem?_eq_none (by rw [List.length_reverse]; omega)]
def ZoA (K:W.Frag) (ta:TA):TE:=fun σ H Q=>ta σ H fun vs H1=>∃ l xs,vs=[.ref l]∧SqL K H1 l xs∧∀ D,H1 D=none->Q (.ref D) (upd H1 D (.lst xs.reverse))
theorem Zmu (K : W.Frag) {e1 : Expr} {ta : TA} {p pos p2 pos2 : Pos} (hc : X.calm=true) (hgl : Gl X "list") (hml : X.mg "list"=none) (hgr : Gl X "reversed") (hmr : X.mg "reversed"=none) (ha : PA X [e1] ta) (hK : X.K=K := by rfl)
  (hs:starEach [e1] X.env=(false,eval e1 X.env) :: starEach [] X.env:=by rfl) (hpl:∀ q,(backTo q (starEach [] X.env)).any (·.1)=false:=by intro _; rfl)
  (hs2:starEach [.Call (.Name "reversed" p2) [e1] [] pos2] X.env=(false,eval (.Call (.Name "reversed" p2) [e1] [] pos2) X.env) :: starEach [] X.env:=by rfl) :
  PE X (.Call (.Name "list" p) [.Call (.Name "reversed" p2) [e1] [] pos2] [] pos) (ZoA K ta):=by
 subst hK
 intro pins s σ H Q I h
 refine wpAny_Call_Name_kw (ZhD I hgl hml Zgc (PyProof.Rows.callWith_type1 ?_ hs2 (hpl _)))
 rw [hs2]
 refine Calls.spliced_cons (wpAny_Call_Name_kw (ZhD I hgr hmr Zk6 (PyProof.Rows.callWith_type1 (thn (ha pos2 pins s σ H _ I h) fun us s1 ⟨vs,H1,I1,r1,q1⟩=>?_) hs (hpl _))))
 obtain ⟨l,xs,e,hq,q⟩:=q1
 subst e
 obtain ⟨u,rfl,ra⟩:=Zfb r1
 cases (show u=Value.ref l from ra)
 obtain ⟨its,rv,pl,hz⟩:=I1.list hq
 have hl:=rv.length
 refine RevF.lrev_call pl.isList fun tk=>Calls.spliced_nil ?_
 have hli:(s1.heap.push { cls:=.type "list_reverseiterator",data:=.fields #[.ref l,rawInt ((its.toArray.size:Int)-1)] }).IsList l its.toArray:=pl.isList.push _
 refine RevF.call_list_lrev (a:=l) (us:=its.toArray) (show X.A.handled=none from I.ok.hd hc) (Heap.get?_push_size _ rfl) hli (by rw [List.size_toArray,← hl]; exact hz) fun h' tk' acc c kp g2 itm=>?_
 have e:=Zod itm
 have kp':∀ b o,s1.heap.get? b=some o->h'.get? b=some o:=fun b o eb=>kp b o (Nat.ne_of_lt (Heap.lt_size eb)) (Heap.get?_push_of_some _ eb)
 have hle:s1.heap.objs.size≤(s1.heap.push { cls:=.type "list_reverseiterator",data:=.fields #[.ref l,rawInt ((its.toArray.size:Int)-1)] }).objs.size:=by rw [Heap.size_push]; exact Nat.le_succ _
 refine ⟨.ref _,_,I1.laid (t':=tk') (o:=.lst xs.reverse) kp' hle (show ObjOk X.prog X.w _ h' _ (.lst xs.reverse) from ⟨by rw [List.length_reverse]; exact hz,acc.toList,c,by rw [e]; exact rv.reverse,g2⟩),rfl,q _ (I1.hok.fresh hle)⟩
theorem ZdA:∀ {zs:List Str} {us:List Value},Vals (zs.map V.str) us->StrsAre us zs
 | [],_,.nil=>.nil
 | z :: zs,_,.cons r rs=>by
  obtain ⟨t,rfl⟩:=r
  exact .cons z t (ZdA rs)
def Zsp (K:W.Frag):V->List V->Hp->VK->Prop:=fun x xs H Q=>∃ sep a zs,x=.str sep∧xs=[.ref a]∧(SqL K H a (zs.map V.str)∨SqT K H a (zs.map V.str))∧(zs.map (·.length)).sum+zs.length*sep.length≤16777216∧Q (.str (sep.join zs)) H
theorem ZqF (K:W.Frag) (hK:X.K=K:=by rfl):MtR X "str.join" (Zsp K):=by
 subst hK
 intro pins s σ H x xs v us Q I rx r h
 obtain ⟨sep,a,zs,rfl,rfl,ha,hz,q⟩:=h
 obtain ⟨t,rfl⟩:=rx
 obtain ⟨u,rfl,ru⟩:=Zfb r
 cases (show u=Value.ref a from ru)
 rcases ha with ha | ha
 ·obtain ⟨its,rv,pl,_⟩:=I.list ha
  refine join_list pl.isList (ZdA rv) hz fun t' k=>⟨.str (sep.join zs),H,I.kept (t':=k) fun b u q=>q,?_,q⟩
  exact ⟨t',by rw [Txt.join,StrLaws.glued_eq_join]⟩
 ·obtain ⟨its,rv,pl,_⟩:=I.tuple ha
  refine join_tuple pl (ZdA rv) hz fun t' k=>⟨.str (sep.join zs),H,I.kept (t':=k) fun b u q=>q,?_,q⟩
  exact ⟨t',by rw [Txt.join,StrLaws.glued_eq_join]⟩
end
section
variable {X:Cx} {pins:List (Addr × Obj)} {σ:St} {H:Hp} {s:Shared}
theorem ZpX {ds ds' : List D} {xs xs' : List V} {us us' : List Value} {a a' : Addr} {A : Around} (I : Inv X pins σ H s) (hl : IsL X.K H ds xs) (hl' : IsL X.K H ds' xs') (rv : Vals xs us) (rv' : Vals xs' us')
  (z:s.heap.IsList a us.toArray) (z':s.heap.IsList a' us'.toArray) (hu:A.units<cLine)
  (it:∀ (j:Nat) (d d':D) (u u':Value),ds[j]?=some d->ds'[j]?=some d'->us[j]?=some u->us'[j]?=some u'->SeqAt.EqAt A.in1 s u u' (deq d d')):SeqAt.RcNeAt A s (.ref a) (.ref a') (!Zh2 ds ds'):=by
 have e1:us.length=ds.length:=by rw [← rv.length,hl.length]
 have e2:us'.length=ds'.length:=by rw [← rv'.length,hl'.length]
 by_cases q:ds.length=ds'.length
 ·have g:=SeqAt.RcNeAt.lists (e:=Zgw ds ds') z z' (by simp only [List.size_toArray,e1,e2,q]) hu fun j h1 h2=>by
   have g1:j<ds.length:=by rw [← e1]; simpa using h1
   have g2:j<ds'.length:=by rw [← e2]; simpa using h2
   have k1:ds[j]?=some ds[j]:=List.getElem?_eq_getElem g1
   have k2:ds'[j]?=some ds'[j]:=List.getElem?_eq_getElem g2
   unfold Zgw
   rw [Zge k1,Zge k2]
   exact it j _ _ _ _ k1 k2 (by simp) (by simp)
  rw [show us.toArray.size=ds.length by simp [e1],ZjB q] at g
  exact g
 ·rw [Zdf q]
  exact SeqAt.RcNeAt.lists_lengths z z' (by simp only [List.size_toArray,e1,e2]; exact bne_iff_ne.mpr q) hu
theorem Zl8 (hu:X.A.units+64<cLine):OpR X (compareOp .NotEq) (fun x y H Q=>∃ ds ds',Is X.K H (.lst ds) x∧Is X.K H (.lst ds') y∧Zji ds≤50∧Q (.bl (!Zh2 ds ds')) H):=by
 intro pins s σ H x y v u Q I rx ry h
 obtain ⟨ds,ds',⟨a,xs,rfl,q1,hl⟩,⟨a2,xs2,rfl,q2,hl2⟩,hd,q⟩:=h
 cases (show v=Value.ref a from rx)
 cases (show u=Value.ref a2 from ry)
 obtain ⟨its,rv,z⟩:=I.isList q1
 obtain ⟨its2,rv2,z2⟩:=I.isList q2
 exact (ZpX I hl hl2 rv rv2 z z2 (by omega) (eqL I ds ds' (A:=X.A.in1) hl hl2 rv rv2 (by show X.A.units+1+Zji ds<cLine; omega))) _ _ _ _ ⟨.bl _,H,I,rfl,q⟩
end
section
variable {X:Cx}
def Ztk:V->Option Int->Option Int->Hp->VK->Prop:=fun x lo hi H Q=>∃ z,x=.str z∧z.length≤sizeLine∧Q (.str (Txt.slice z lo hi)) H
theorem Znr {v:Value} {o:Option Int} (h:IsPart v o):∃ l:Option (Int × Tok),v=partValue l∧l.map (·.1)=o:=by
 cases h with
 | none=>exact ⟨none,rfl,rfl⟩
 | int i t=>exact ⟨some (i,t),rfl,rfl⟩
theorem ZpP:SlR X Ztk:=by
 intro pins s σ H x v vl vu lo hi sl Q I rx hs pl pu h
 obtain ⟨z,rfl,hz,q⟩:=h
 obtain ⟨t,rfl⟩:=rx
 obtain ⟨l,rfl,el⟩:=Znr pl
 obtain ⟨u,rfl,eu⟩:=Znr pu
 refine ⟨"str",_,PyProof.Rows.slot_str_getitem.lookup,rfl,wpAny_getItem_str_slice (st:=none) hs rfl ?_⟩
 unfold sliceMade slicePicked
 rw [el,eu]
 show Made.post (if ((1:Int) == 1&&(Builtin.Str.strSliceIndices lo hi 1 z.length).length == z.length)=true then _ else Made.str ⟨(List.filterMap (fun i=>z.cps[i]?) (Builtin.Str.strSliceIndices lo hi 1 z.length)).toArray⟩) _ _
 have hle:=Txt.slice_le z lo hi
 unfold Txt.slice at q hle
 by_cases c:((1:Int) == 1&&(Builtin.Str.strSliceIndices lo hi 1 z.length).length == z.length)=true
 ·rw [if_pos c]
  rw [if_pos c] at q
  exact ⟨.str z,H,I,⟨_,rfl⟩,q⟩
 ·rw [if_neg c]
  rw [if_neg c] at q hle
  exact ⟨Nat.le_trans hle hz,.str _,H,I.tok _,⟨_,rfl⟩,q⟩
end
section
variable {X:Cx} {CX:CXT} {k:Nat} {f C:Addr} {fd:FuncData} {ps:List Str} {sp:Sp} {dvs:List V} {ds:List Value} {E:XS} {x m:Str} {p pos apos:Pos} {e o:Expr} {es:List Expr} {ta:TE} {t:TA}
def ZpD (C:Addr) (m:Str) (sp:Sp) (dvs:List V) (E:XS) (ta:TE) (t:TA):TE:=fun σ H Q=>ta σ H fun x H1=>∃ a dx fs,x=.ref a∧H1 a=some (.ins C dx fs)∧fs.lookup m=none ∧
 t σ H1 fun vs H2=>sp (x :: (vs++dvs)) H2 Q (E σ)
theorem ZaE {pl : Sem Bool} (he : PE X o ta) (c : Cls X.K C) (hm : Meth X.K C m f) (F : FnOk X.prog X.w X.K X.mg X.base CX k f fd ps sp) (hr : Room k X.A) (hb : Binds X.K fd ps ds) (hd : Vals dvs ds) (hx : ZdY CX X E) (ha : PA X (e :: es) t)
  (hst:starEach (e :: es) X.env=(false,eval e X.env) :: starEach es X.env:=by rfl) (hpl:(backTo pos (starEach es X.env)).any (·.1)=false:=by rfl)
  (ht:eval (.Call (.Attribute o m apos) (e :: es) [] pos) X.env=(do
   let ov ← eval o X.env
   standAt apos.atName
   let (f,first) ← holding [ov] (getMethod ov m pl)
   callWith pos f first (backTo pos (starEach (e :: es) X.env)) (backToKw pos (keywordEach [] X.env))):=by rfl) :
  PE X (.Call (.Attribute o m apos) (e :: es) [] pos) (ZpD C m sp dvs E ta t):=by
 intro pins s σ H Q I h
 refine W.methodCall_KW (pl:=pl) (thn (he pins s σ H _ I h) fun u s1 ⟨x,H1,I1,rx,a,dx,fs,ex,ea,l,q⟩=>?_) ht
 subst ex
 obtain rfl:u=Value.ref a:=rx
 refine ZiR I1 ea c hm l ?_
 refine W.callWith_K (first:=[.ref a]) (h₀:=X.base) I.ok.mod.kin hm.kp (thn (ha pos pins s1 σ H1 _ I1 q) fun us s2 ⟨vs,H2,I2,r,q2⟩=>⟨I2.kIn,?_⟩) hst hpl
 exact Zlc (us:=.ref a :: us) (vs:=.ref a :: vs) F hr hb hd hx I2 (.cons rfl r) q2
theorem ZmT {pl : Sem Bool} (he : PE X o ta) (c : Cls X.K C) (hm : Meth X.K C m f) (F : FnOk X.prog X.w X.K X.mg X.base CX k f fd ps sp) (hr : Room k X.A) (hb : Binds X.K fd ps ds) (hd : Vals dvs ds) (hx : ZdY CX X E)
  (ht:eval (.Call (.Attribute o m apos) [] [] pos) X.env=(do
   let ov ← eval o X.env
   standAt apos.atName
   let (f,first) ← holding [ov] (getMethod ov m pl)
   callWith pos f first (backTo pos (starEach [] X.env)) (backToKw pos (keywordEach [] X.env))):=by rfl) :
  PE X (.Call (.Attribute o m apos) [] [] pos) (ZpD C m sp dvs E ta Zrb):=by
 intro pins s σ H Q I h
 refine W.methodCall_KW (pl:=pl) (thn (he pins s σ H _ I h) fun u s1 ⟨x,H1,I1,rx,a,dx,fs,ex,ea,l,q⟩=>?_) ht
 subst ex
 obtain rfl:u=Value.ref a:=rx
 refine ZiR I1 ea c hm l ?_
 exact W.callWith_K0 (first:=[.ref a]) I1.kIn hm.kp (Zlc (us:=[.ref a]) (vs:=[.ref a]) F hr hb hd hx I1 (.cons rfl .nil) q)
def ZqZ (C:Addr) (sp:Sp) (dvs:List V) (E:XS) (t:TA):TE:=fun σ H Q=>t σ H fun vs H1=>∀ x dx,H1 x=none->H1 dx=none->dx≠x →
 sp (.ref x :: (vs++dvs)) (upd (upd H1 dx (.own x)) x (.ins C dx [])) (fun v H2=>v=.non∧Q (.ref x) H2) (E σ)
theorem Zm3 {pins : List (Addr × Obj)} {σ : St} {H : Hp} {s : Shared} {Q : VK} {us : List Value} {vs : List V} (M : Mk X.K C f) (F : FnOk X.prog X.w X.K X.mg X.base CX k f fd ps sp) (hr : Room (k + 1) X.A) (hb : Binds X.K fd ps ds) (hd : Vals dvs ds)
  (hx:ZdY CX X E) (I:Inv X pins σ H s) (r:Vals vs us)
  (h:∀ x dx,H x=none->H dx=none->dx≠x->sp (.ref x :: (vs++dvs)) (upd (upd H dx (.own x)) x (.ins C dx [])) (fun v H2=>v=.non∧Q (.ref x) H2) (E σ)) :
  wpAny (model X.prog X.w) X.A (call (.ref C) us) (EP X pins σ Q) X.xe s:=by
 have hq:=h (s.heap.objs.size+1) s.heap.objs.size (I.hok.fresh (Nat.le_succ _)) (I.hok.fresh (Nat.le_refl _)) (Nat.ne_of_lt (Nat.lt_succ_self _))
 have I2:=Inv.made (C:=C) I
 have r2:Vals (V.ref (s.heap.objs.size+1) :: (vs++dvs)) (Value.ref (s.heap.objs.size+1) :: (us++ds)):=.cons rfl (r.append hd)
 have hl:(Value.ref (s.heap.objs.size+1) :: us++ds).length=ps.length:=by
  have e:=r2.length
  rw [F.len _ _ _ _ hq] at e
  exact e.symm
 refine wpAny_call (Zpm (f:=f) I.kIn M.makes M.init (beq_iff_eq.mp M.fn) (codeAny_mono (F.run _ X.stack _ _ ⟨Value.ref (s.heap.objs.size+1) :: us,[]⟩ (Value.ref (s.heap.objs.size+1) :: (us++ds)) _ _ (E σ) (hr.make C us [])
  (I2.env0.make C us []) (hb _ (Value.ref (s.heap.objs.size+1) :: us) I2.kIn hl) r2 hq) fun r s' hq'=>?_))
 cases r with
 | error e=>exact hx pins σ _ _ e s' I2 hq'
 | ok fl =>
  cases fl with
  | ret u =>
   obtain ⟨v,H',I3,rv,ev,q3⟩:=I2.after hq'
   subst ev
   exact ⟨rv,⟨V.ref (s.heap.objs.size+1),H',I3,rfl,q3⟩⟩
  | next=>exact False.elim hq'
  | brk=>exact False.elim hq'
  | cont=>exact False.elim hq'
theorem ZkJ (M : Mk X.K C f) (F : FnOk X.prog X.w X.K X.mg X.base CX k f fd ps sp) (hr : Room (k + 1) X.A) (hg : Gl X x) (hm : X.mg x=some (.ref C)) (hb : Binds X.K fd ps ds) (hd : Vals dvs ds) (hx : ZdY CX X E)
  (hdb:(x == ("__debug__" : Str))=false:=by decide):PE X (.Call (.Name x p) [] [] pos) (ZqZ C sp dvs E Zrb):=by
 intro pins s σ H Q I h
 refine wpAny_Call_Name_kw (ZhY I hg hm ?_ hdb)
 exact W.callWith_K0 I.kIn M.kp (Zm3 (us:=[]) M F hr hb hd hx I .nil h)
end
section
variable {X:Cx}
theorem ZfQ:bootBuiltins "sorted"=some (.builtin "sorted"):=by decide +kernel
theorem Zdc:∀ {us:List Value} {zs:List Str},StrsAre us zs->Vals (zs.map V.str) us
 | _,_,.nil=>.nil
 | _,_,.cons y t r=>.cons ⟨t,rfl⟩ (Zdc r)
theorem Zgt (K:W.Frag) (hK:X.K=K:=by rfl):Zd0 X (.builtin "sorted") (fun xs H Q=>∃ l zs,xs=[.ref l]∧SqL K H l (zs.map V.str)∧zs.length<64∧∀ D zs',H D=none->zs'.Perm zs->sortedS zs'=true->Q (.ref D) (upd H D (.lst (zs'.map V.str)))):=by
 subst hK
 intro pins s σ H xs us Q I r h
 obtain ⟨l,zs,rfl,hq,hl,q⟩:=h
 obtain ⟨u,rfl,ru⟩:=Zfb r
 cases (show u=Value.ref l from ru)
 obtain ⟨its,rv,pl,hz⟩:=I.list hq
 have hlen:=rv.length
 rw [List.length_map] at hlen
 refine sorted_strs pl.isList (ZdA rv) (by omega) fun out zs' so hp hs=>?_
 obtain ⟨e,he⟩:=sortedAll_at s.heap its out
 have hle:s.heap.objs.size≤s.heap.objs.size+1:=Nat.le_succ _
 have hl2:zs'.length=zs.length:=hp.length_eq
 refine ⟨.ref _,_,I.laid (t':=s.toks) (o:=.lst (zs'.map V.str)) (fun b u q=>sortedAll_old q) hle (show ObjOk X.prog X.w _ _ _ (.lst (zs'.map V.str)) from ⟨by rw [List.length_map]; exact Nat.le_of_lt (Zaj (by omega)),out.toList,e,Zdc so,he⟩),rfl,q _ zs' (I.hok.fresh hle) hp hs⟩
end
noncomputable def Zbb (x y:Str):Bool:=decide (x.cps.toList<y.cps.toList)
section
variable {prog:Program} {w:World} {A:Around} {E:Value->Shared->Prop} {s:Shared}
noncomputable def Za4 (xs:Array (Str × Tok)):Array Value:=xs.map fun p=>.str p.1 p.2
noncomputable def ZgL (xs:Array (Str × Tok)) (i:Nat):Str:=(xs[i]?.map (·.1)).getD ""
theorem ZhC {xs:Array (Str × Tok)} {i:Nat} {v:Value} (h:(Za4 xs)[i]?=some v):∃ t,v=.str (ZgL xs i) t:=by
 simp only [Za4,Array.getElem?_map,Option.map_eq_some_iff] at h
 obtain ⟨p,hp,rfl⟩:=h
 exact ⟨p.2,by simp [ZgL,hp]⟩
theorem ZmI {P:Nat->Value->Prop} (val:Nat->Str) (hval:∀ i v,P i v->∃ t,v=.str (val i) t):CmpOf prog w A .Gt P (fun i j=>Zbb (val j) (val i)):=fun i j vi vj s Q E hi hj h=>by
 obtain ⟨t,rfl⟩:=hval i vi hi
 obtain ⟨u,rfl⟩:=hval j vj hj
 exact richCompare_gives (op:=.Gt) (typeIs_str s _ t) (typeIs_str s _ u) F.slot_str_gt F.entry_str_gt (F.args_str_gt_2 _ _) (gives_str_gt _ _ t u) (fun x=>nomatch x) h
theorem ZmP {P:Nat->Value->Prop} (val:Nat->Str) (hval:∀ i v,P i v->∃ t,v=.str (val i) t):CmpOf prog w A .Lt P (fun i j=>Zbb (val i) (val j)):=fun i j vi vj s Q E hi hj h=>by
 obtain ⟨t,rfl⟩:=hval i vi hi
 obtain ⟨u,rfl⟩:=hval j vj hj
 exact richCompare_gives (op:=.Lt) (typeIs_str s _ t) (typeIs_str s _ u) F.slot_str_lt F.entry_str_lt (F.args_str_lt_2 _ _) (gives_str_lt _ _ t u) (fun x=>nomatch x) h
theorem Zln {a b : Str} {t u : Tok} {Q : Value → Shared → Prop} (hh : A.handled=none)
  (h:∀ h' tk,(∀ c o,s.heap.get? c=some o->h'.get? c=some o)->Q (if Zbb a b=true then .str b u else .str a t) { s with heap:=h',toks:=tk }) :
  wpAny (model prog w) A (call (.builtin "max") [.str a t,.str b u]) Q E s:=by
 have hT:(s.heap.push { cls:=.type "tuple",data:=.seq #[.str a t,.str b u] }).IsTuple s.heap.objs.size (Za4 #[(a,t),(b,u)]):=⟨_,Heap.get?_push_size _ rfl,rfl,0,by simp [Za4]⟩
 refine call_max_two (wpAny_pyIter_tuple hT ?_)
 have hsz:(s.heap.push { cls:=.type "tuple",data:=.seq #[.str a t,.str b u] }).objs.size=s.heap.objs.size+1:=Heap.size_push ..
 refine ⟨_,[_,s.heap.objs.size],[_],_,_,_,_,rfl,Walks.tuple (A:=A.in1) hh _ s.heap.objs.size (by rw [hsz]; exact Nat.ne_of_lt (Nat.lt_succ_self _)) (Za4 #[(a,t),(b,u)]),
  ⟨⟨_,Heap.get?_push_size _ rfl,rfl,rfl⟩,hT.push _⟩,fun c hc=>?_,by simp [Za4],ZmI (ZgL #[(a,t),(b,u)]) (fun _ _=>ZhC),fun v h' tk hP hk=>?_⟩
 ·show c<((s.heap.push _).push _).objs.size
  rw [Heap.size_push,hsz]
  rcases List.mem_cons.mp hc with rfl | hc
  ·rw [hsz]; exact Nat.lt_succ_self _
  ·rcases List.mem_cons.mp hc with rfl | hc
   ·exact Nat.lt_succ_of_lt (Nat.lt_succ_self _)
   ·cases hc
 ·have hold:∀ c o,s.heap.get? c=some o->h'.get? c=some o:=fun c o e=>by
   refine hk c o (fun hm=>?_) (Heap.get?_push_of_some _ (Heap.get?_push_of_some _ e))
   rcases List.mem_cons.mp hm with e1 | hm
   ·have:=Heap.lt_size e; rw [e1,hsz] at this; exact Nat.lt_irrefl _ (Nat.lt_of_succ_lt this)
   ·cases hm
  have:=h h' tk hold
  have hv:v=if Zbb a b=true then Value.str b u else Value.str a t:=by
   have hP':(Za4 #[(a,t),(b,u)])[argBest (fun i j=>Zbb (ZgL #[(a,t),(b,u)] j) (ZgL #[(a,t),(b,u)] i)) 1]?=some v:=by
    have hsz2:(Za4 #[(a,t),(b,u)]).size-1=1:=by simp [Za4]
    rw [← hsz2]; exact hP
   have e0:argBest (fun i j=>Zbb (ZgL #[(a,t),(b,u)] j) (ZgL #[(a,t),(b,u)] i)) 1=if Zbb a b=true then 1 else 0:=by
    show (if _=true then 1 else 0)=_
    rfl
   by_cases hba:Zbb a b=true
   ·rw [e0,if_pos hba] at hP'
    rw [if_pos hba]
    simpa [Za4] using hP'.symm
   ·rw [e0,if_neg hba] at hP'
    rw [if_neg hba]
    simpa [Za4] using hP'.symm
  rw [hv]; exact this
theorem Zly {a b : Str} {t u : Tok} {Q : Value → Shared → Prop} (hh : A.handled=none)
  (h:∀ h' tk,(∀ c o,s.heap.get? c=some o->h'.get? c=some o)->Q (if Zbb b a=true then .str b u else .str a t) { s with heap:=h',toks:=tk }) :
  wpAny (model prog w) A (call (.builtin "min") [.str a t,.str b u]) Q E s:=by
 have hT:(s.heap.push { cls:=.type "tuple",data:=.seq #[.str a t,.str b u] }).IsTuple s.heap.objs.size (Za4 #[(a,t),(b,u)]):=⟨_,Heap.get?_push_size _ rfl,rfl,0,by simp [Za4]⟩
 refine call_min_two (wpAny_pyIter_tuple hT ?_)
 have hsz:(s.heap.push { cls:=.type "tuple",data:=.seq #[.str a t,.str b u] }).objs.size=s.heap.objs.size+1:=Heap.size_push ..
 refine ⟨_,[_,s.heap.objs.size],[_],_,_,_,_,rfl,Walks.tuple (A:=A.in1) hh _ s.heap.objs.size (by rw [hsz]; exact Nat.ne_of_lt (Nat.lt_succ_self _)) (Za4 #[(a,t),(b,u)]),
  ⟨⟨_,Heap.get?_push_size _ rfl,rfl,rfl⟩,hT.push _⟩,fun c hc=>?_,by simp [Za4],ZmP (ZgL #[(a,t),(b,u)]) (fun _ _=>ZhC),fun v h' tk hP hk=>?_⟩
 ·show c<((s.heap.push _).push _).objs.size
  rw [Heap.size_push,hsz]
  rcases List.mem_cons.mp hc with rfl | hc
  ·rw [hsz]; exact Nat.lt_succ_self _
  ·rcases List.mem_cons.mp hc with rfl | hc
   ·exact Nat.lt_succ_of_lt (Nat.lt_succ_self _)
   ·cases hc
 ·have hold:∀ c o,s.heap.get? c=some o->h'.get? c=some o:=fun c o e=>by
   refine hk c o (fun hm=>?_) (Heap.get?_push_of_some _ (Heap.get?_push_of_some _ e))
   rcases List.mem_cons.mp hm with e1 | hm
   ·have:=Heap.lt_size e; rw [e1,hsz] at this; exact Nat.lt_irrefl _ (Nat.lt_of_succ_lt this)
   ·cases hm
  have:=h h' tk hold
  have hv:v=if Zbb b a=true then Value.str b u else Value.str a t:=by
   have hP':(Za4 #[(a,t),(b,u)])[argBest (fun i j=>Zbb (ZgL #[(a,t),(b,u)] i) (ZgL #[(a,t),(b,u)] j)) 1]?=some v:=by
    have hsz2:(Za4 #[(a,t),(b,u)]).size-1=1:=by simp [Za4]
    rw [← hsz2]; exact hP
   have e0:argBest (fun i j=>Zbb (ZgL #[(a,t),(b,u)] i) (ZgL #[(a,t),(b,u)] j)) 1=if Zbb b a=true then 1 else 0:=by
    show (if _=true then 1 else 0)=_
    rfl
   by_cases hba:Zbb b a=true
   ·rw [e0,if_pos hba] at hP'
    rw [if_pos hba]
    simpa [Za4] using hP'.symm
   ·rw [e0,if_neg hba] at hP'
    rw [if_neg hba]
    simpa [Za4] using hP'.symm
  rw [hv]; exact this
theorem Zle {l : Addr} {vs : List Value} {Q : List Value → Shared → Prop} (hl : IsTup s.heap l vs.toArray)
  (h:Q vs { s with heap:=(s.heap.push (seqObj "list" #[] 0)).update s.heap.objs.size (Obj.mapSeq (·++vs.toArray)) }) (hsz:vs.length≤sizeLine) :
  wpAny (model prog w) A (collect (.ref l)) Q E s:=by
 obtain ⟨o,ho,hc,n,hd⟩:=id hl
 unfold collect
 refine wpAny_bind (wpAny_runValue (codeAny_builtin entry_proto_collect' ?_))
 show wpAny _ _ (do again (.builtin "list.__iadd__" ⟨[← newList [],.ref l],[]⟩)) _ _ s
 refine wpAny_bind (wpAny_newList (wpAny_pure ⟨Code.quiet_builtin _ (by decide +kernel),codeAny_builtin entry_list_iadd' ?_⟩))
 show wpAny _ _ (Builtin.List.listExtendWith (.ref s.heap.objs.size) (.ref l) (.ref s.heap.objs.size)) _ _ { s with heap:=s.heap.push (seqObj "list" #[] 0) }
 unfold Builtin.List.listExtendWith
 have ho':(s.heap.push (seqObj "list" #[] 0)).get? l=some o:=Heap.get?_push_of_some _ ho
 refine wpAny_bind (wpAny_typeOf (T:="tuple") ⟨o,ho',hc⟩ ?_)
 have ht:(Value.type "tuple" == Value.type "tuple")=true:=by rfl
 rw [if_pos (by rw [ht]; simp)]
 refine wpAny_bind (listItems_at ho' hd ?_)
 refine wpAny_bind (listItems_at (xs:=#[]) (n:=0) (Heap.get?_push_size _ rfl) rfl ?_)
 rw [if_neg (by simp)]
 refine wpAny_bind (listUpdate_at (xs:=#[]) (n:=0) (Heap.get?_push_size _ rfl) rfl ?_ (Nat.zero_le _) (by show (#[]++vs.toArray).size≤sizeLine+1; simp only [Array.size_append,List.size_toArray,List.length_nil]; omega))
 refine wpAny_pure ?_
 refine wpAny_bind (wpAny_load (get?_update_seq (Heap.get?_push_size _ rfl) _) ?_)
 show wpAny _ _ (pure ((#[]:Array Value)++vs.toArray).toList) Q E _
 rw [show ((#[]:Array Value)++vs.toArray).toList=vs by simp]
 exact wpAny_pure h
theorem Zig {x : Value} {vs : List Value} {ss : List Str} {Q : Value → Shared → Prop} (hS : StrsAre vs ss) (h64 : vs.length<64)
  (hc:∀ (A':Around) (Q':List Value->Shared->Prop),A'.handled=A.handled->(∀ h1 tk,(∀ b o,s.heap.get? b=some o->h1.get? b=some o)->s.heap.objs.size≤h1.objs.size->Q' vs { s with heap:=h1,toks:=tk })->wpAny (model prog w) A' (collect x) Q' E s)
  (h:∀ h' tk a e (out:Array Value) (ss':List Str),(∀ b o,s.heap.get? b=some o->h'.get? b=some o)->s.heap.objs.size≤a->h'.get? a=some (seqObj "list" out e)->StrsAre out.toList ss'->ss'.Perm ss->sortedS ss'=true->Q (.ref a) { s with heap:=h',toks:=tk }) :
  wpAny (model prog w) A (call (.builtin "sorted") [x]) Q E s:=by
 refine Calls.call_function_entry kind_sorted plain_sorted entry_sorted (args_sorted1 _) ?_
 unfold Builtin.«sorted»
 refine wpAny_bind (m:=checkCount "sorted" 1 1 _) (wpAny_pure ?_)
 refine wpAny_bind (hc _ _ rfl fun h1 tk k1 z1=>?_)
 refine wpAny_bind (wpAny_newList ?_)
 have hoL:(h1.push (seqObj "list" vs.toArray 0)).get? h1.objs.size=some (seqObj "list" vs.toArray 0):=Heap.get?_push_size _ rfl
 show wpAny _ _ _ _ _ { s with heap:=h1.push (seqObj "list" vs.toArray 0),toks:=tk }
 refine wpAny_bind (wpAny_holding (wpAny_call_entry slot_list_sort ⟨_,hoL,rfl⟩ entry_list_sort (list_sort_treeK strKind_oneLt hoL hS.keysOf (fun v₁ v₂ rest e=>keyKind_strs (by rw [← e]; exact hS)) h64 fun st' a1 a2=>⟨_,rfl,?_⟩) (args_list_sort _)))
 obtain ⟨ss',b1,b2,b3⟩:=sorted_out_str hS a1 a2
 obtain ⟨e,he⟩:=sortedHeap_at (out:=(arrOf st').map (·.2)) hoL
 refine wpAny_pure ⟨_,rfl,h _ tk _ e _ ss' (fun b o q=>?_) z1 he b1 b2 b3⟩
 have q1:=k1 _ _ q
 have lt:b<h1.objs.size:=Heap.lt_size q1
 rw [sortedHeap_old (Nat.ne_of_lt lt) (by rw [size_push']; exact Nat.lt_succ_of_lt lt)]
 exact Heap.get?_push_of_some _ q1
end
section
variable {X:Cx}
theorem ZmA (hc:X.calm=true):Zd0 X (.builtin "max") (fun xs H Q=>∃ i j,xs=[.str i,.str j]∧Q (.str (if Zbb i j=true then j else i)) H):=by
 intro pins s σ H xs us Q I r h
 obtain ⟨i,j,rfl,q⟩:=h
 obtain ⟨u,w',rfl,⟨t,rfl⟩,⟨t',rfl⟩⟩:=Zmv r
 refine Zln (I.ok.hd hc) fun h' tk k=>⟨_,H,I.kept k,?_,q⟩
 by_cases hj:Zbb i j=true
 ·rw [if_pos hj,if_pos hj]; exact ⟨_,rfl⟩
 ·rw [if_neg hj,if_neg hj]; exact ⟨_,rfl⟩
theorem Zmn (hc:X.calm=true):Zd0 X (.builtin "min") (fun xs H Q=>∃ i j,xs=[.str i,.str j]∧Q (.str (if Zbb j i=true then j else i)) H):=by
 intro pins s σ H xs us Q I r h
 obtain ⟨i,j,rfl,q⟩:=h
 obtain ⟨u,w',rfl,⟨t,rfl⟩,⟨t',rfl⟩⟩:=Zmv r
 refine Zly (I.ok.hd hc) fun h' tk k=>⟨_,H,I.kept k,?_,q⟩
 by_cases hj:Zbb j i=true
 ·rw [if_pos hj,if_pos hj]; exact ⟨_,rfl⟩
 ·rw [if_neg hj,if_neg hj]; exact ⟨_,rfl⟩
theorem Zi7 (K:W.Frag) (hK:X.K=K:=by rfl):Zd0 X (.builtin "sorted") (fun xs H Q=>∃ l zs,xs=[.ref l]∧SqT K H l (zs.map V.str)∧zs.length<64∧∀ D zs',H D=none->zs'.Perm zs->sortedS zs'=true->Q (.ref D) (upd H D (.lst (zs'.map V.str)))):=by
 subst hK
 intro pins s σ H xs us Q I r h
 obtain ⟨l,zs,rfl,hq,hl,q⟩:=h
 obtain ⟨u,rfl,ru⟩:=Zfb r
 cases (show u=Value.ref l from ru)
 obtain ⟨its,rv,pl,hz⟩:=I.tuple hq
 have hlen:=rv.length
 rw [List.length_map] at hlen
 refine Zig (ZdA rv) (by omega) (fun A' Q' _ q'=>Zle pl (q' _ _ (fun b o e=>?_) ?_) (by rw [List.length_map] at hz; omega)) fun h' tk a e out zs' k1 z1 he so hp hs=>?_
 ·have lt:=Heap.lt_size e
  rw [Heap.get?_update_ne _ _ _ _ (Nat.ne_of_lt lt)]
  exact Heap.get?_push_of_some _ e
 ·rw [Heap.size_update,size_push']
  exact Nat.le_succ _
 have hl2:zs'.length=zs.length:=hp.length_eq
 exact ⟨.ref _,_,I.laid (t':=tk) (o:=.lst (zs'.map V.str)) k1 z1 (show ObjOk X.prog X.w _ _ _ (.lst (zs'.map V.str)) from ⟨by rw [List.length_map]; exact Nat.le_of_lt (Zaj (by omega)),out.toList,e,Zdc so,he⟩),rfl,q _ zs' (I.hok.fresh z1) hp hs⟩
theorem Zhw {prog : Program} {w : World} {K : Type} [DecidableEq K] (knd : HeapKind prog w K) (d : Addr) (hd : (d == sysModules)=false) :
  MeetsIn prog w (Builtin.«dict.__len__» ⟨[.ref d],[]⟩) (fun _ R s=>∃ kvs,s.heap.DictOfH knd d kvs∧R (.ok (.ret (.int kvs.length s.toks))) { s with toks:=s.toks+1 }) :=
 .of_wp fun A R s ⟨kvs,hm,h⟩=>by
  obtain ⟨o,es,ep,ho,hc,hdat,he,hk,hn⟩:=hm
  show wpAny _ _ (dictSize d >>= _) _ _ s
  unfold dictSize
  refine wpAny_bind (wpAny_bind (wpAny_dictEntries ho hdat (wpAny_pure ?_)))
  show wpAny _ _ (Builtin.Dict.pendingCount d >>= _) _ _ s
  refine wpAny_bind (wpAny_pendingCount_other hd ?_)
  refine wpAny_ret_mkInt ?_
  have:es.size=kvs.length:=size_of_entries he
  rw [Nat.add_zero,this]; exact h
theorem Zol {prog : Program} {w : World} {A : Around} {E : Value → Shared → Prop} {s : Shared} {K : Type} [DecidableEq K] {knd : HeapKind prog w K} {d : Addr} {kvs : List (K × Addr × Value)} {Q : Value → Shared → Prop} (hd : (d == sysModules)=false) (hm : s.heap.DictOfH knd d kvs) (hfit : (kvs.length : Int)<2 ^ 63)
  (h:Q (.int kvs.length (s.toks+1)) { s with toks:=s.toks+1+1 }):wpAny (model prog w) A (call (.builtin "len") [.ref d]) Q E s:=by
 refine Calls.call_function_entry kind_len plain_len entry_len (args_len1 _) ?_
 unfold Builtin.«len»
 refine wpAny_bind (m:=oneArg "len" _) (wpAny_pure ?_)
 refine wpAny_bind (m:=callSpecial? (.ref d) (Str.ofString "__len__")) (wpAny_callSpecial?_slot (name:=Str.ofString "__len__") hm.typeIs F.slot_dict_len
  (call_meetsIn F.slot_dict_len hm.typeIs F.entry_dict_len (F.args_dict_len_1 _) (Zhw knd d hd) ⟨kvs,hm,?_⟩))
 show wpAny _ _ _ _ _ { s with toks:=s.toks+1 }
 refine wpAny_bind (wpAny_holding (wpAny_pure ?_))
 refine wpAny_bind (wpAny_letGo ?_)
 show wpAny _ _ (if ((kvs.length:Nat):Int)<0 then _ else _) _ _ _
 rw [if_neg (by omega)]
 show wpAny _ _ (if ((kvs.length:Nat):Int) ≥ 2 ^ 63 then _ else _) _ _ _
 rw [if_neg (by omega)]
 exact wpAny_bind (wpAny_mkInt (wpAny_pure ⟨_,rfl,h⟩))
theorem ZmL:Zd0 X (.builtin "len") (fun xs H Q=>∃ a kvs,xs=[V.ref a]∧H a=some (.dT kvs)∧Q (.int kvs.length) H):=by
 intro pins s σ H xs us Q I r h
 obtain ⟨a,kvs,rfl,ha,q⟩:=h
 obtain ⟨u,rfl,ru⟩:=Zfb r
 cases ru
 obtain ⟨z,hd,vs,rel,dd⟩:=Zm2 I.hok ha
 refine Zol hd dd (by rw [← rel.length]; rw [sizeLine_eq] at z; omega) ?_
 rw [← rel.length]
 exact ⟨.int kvs.length,H,I.tok _,⟨_,rfl⟩,q⟩
end
section
variable {prog:Program} {w:World} {K:Type} [DecidableEq K] {knd:HeapKind prog w K} {A:Around} {E:Value->Shared->Prop} {s:Shared}
theorem Zhq {d a : Addr} {xs : List (K × Addr × Value)} {k : K} {v : Value} {Q : Value → Shared → Prop} (hu : knd.room A) (hkey : knd.is s.heap k a) (hm : s.heap.DictOfH knd d xs) (hsz : xs.length ≤ sizeLine)
  (h1:∀ p,atKey xs k=some p->Q p.2 { s with toks:=s.toks+knd.draws k })
  (h2:atKey xs k=none->∀ h',h'.DictOfH knd d (storedH xs k a v)->Heap.SameBut d s.heap h'->Q v { s with heap:=h',toks:=s.toks+knd.draws k }) :
  wpAny (model prog w) A (dictSetDefault d (.ref a) v) Q E s:=by
 obtain ⟨o,es,ep,ho,hc,hd,he,his,hn⟩:=hm
 unfold dictSetDefault
 try with_reducible refine wpAny_holding ?_
 refine wpAny_bind (knd.pyHash hu hkey ?_)
 refine wpAny_bind (wpAny_dictFind_heap (s:={ s with toks:=s.toks+knd.draws k }) hu hkey ho hd he his hn ?_ ?_)
 ·intro hno
  have hnot:k ∉ xs.map (·.1):=not_mem_keys_of_get hno
  refine wpAny_bind (wpAny_rule (wpAny_bind (wpAny_updateDictKeys (hz:=by have e:=size_of_entries he; omega) (s:={ s with toks:=s.toks+knd.draws k }) ho hd (wpAny_pure (h2 (atKey_none_of_get hno) _ ⟨_,_,ep+1,Heap.get?_update_self _ ho (Obj.isFreed_of_dict (Obj.data_mapDictKeys hd _)),
   hc.mapDictKeys _,Obj.data_mapDictKeys hd _,?_,?_,?_⟩ (Heap.SameBut.update ..))))))
  ·rw [storedH_new (atKey_none_of_get hno)]
   simp [he,entryOfKey]
  ·rw [storedH_new (atKey_none_of_get hno)]
   intro x hx
   rcases List.mem_append.mp hx with hx | hx
   ·exact knd.keeps (his x hx) ho hd (Heap.SameBut.update ..)
   ·simp only [List.mem_singleton] at hx
    subst hx
    exact knd.keeps hkey ho hd (Heap.SameBut.update ..)
  ·rw [storedH_new (atKey_none_of_get hno)]
   rw [List.map_append,List.nodup_append]
   refine ⟨hn,by simp,?_⟩
   intro x hx y hy
   simp only [List.map_cons,List.map_nil,List.mem_singleton] at hy
   subst hy
   exact fun e=>hnot (e ▸ hx)
 ·intro j p hj
  refine wpAny_bind (wpAny_dictEntries (s:={ s with toks:=s.toks+knd.draws k }) ho hd ?_)
  rw [entry_at he j,hj]
  exact wpAny_bind (wpAny_rule (wpAny_pure (h1 p (atKey_of_get hn hj))))
theorem ZfW (d a : Addr) (hd : (d == sysModules)=false) (dflt : Value) :
  MeetsIn prog w (Builtin.«dict.setdefault» ⟨[.ref d,.ref a,dflt],[]⟩) (fun A R s=>knd.room A.in1∧∃ k xs,knd.is s.heap k a∧s.heap.DictOfH knd d xs∧xs.length≤sizeLine ∧
   (∀ p,atKey xs k=some p->R (.ok (.ret p.2)) { s with toks:=s.toks+knd.draws k }) ∧
   (atKey xs k=none->∀ h',h'.DictOfH knd d (storedH xs k a dflt)->Heap.SameBut d s.heap h'->R (.ok (.ret dflt)) { s with heap:=h',toks:=s.toks+knd.draws k })) :=
 .of_wp fun A R s ⟨hu,k,xs,hkey,hm,hz,h1,h2⟩=>by
  unfold Builtin.«dict.setdefault»
  refine wpAny_bind ?_
  unfold Builtin.Dict.keyAndDefault
  refine wpAny_bind (wpAny_notOrdered_dict hm.typeIs ?_)
  show wpAny _ _ (pure (d,Value.ref a,some dflt)) _ _ s
  refine wpAny_pure ?_
  show wpAny _ _ (if (d == sysModules)=true then _ else (dictSetDefault d (.ref a) dflt >>= _)) _ _ s
  rw [if_neg (by rw [hd]; exact Bool.false_ne_true)]
  exact wpAny_bind (Zhq hu hkey hm hz (fun p hp=>wpAny_pure ⟨p.2,rfl,h1 p hp⟩) fun hn h' hm' hs'=>wpAny_pure ⟨dflt,rfl,h2 hn h' hm' hs'⟩)
end
section
variable {X:Cx} {pins:List (Addr × Obj)} {σ:St} {H:Hp} {s:Shared} {a b:Addr} {kvs:List (List Key × V)} {k:List Key} {d:V} {r:Value} {A:Around} {E:Value->Shared->Prop}
theorem ZoV {Q : Value → Shared → Prop} (hu : A.units + 1<cLine) (I : Inv X pins σ H s) (e : H a=some (.dT kvs)) (eb : H b=some (.tup (k.map kV))) (l : kvs.length<sizeLine) (rd : RelV d r)
  (h1:∀ v w' s',Zdv kvs k=some v->RelV v w'->Inv X pins σ H s'->Q w' s') (h2:∀ s',Zdv kvs k=none->Inv X pins σ (upd H a (.dT (kvs++[(k,d)]))) s'->Q r s') :
  wpAny (model X.prog X.w) A (call (.builtin "dict.setdefault") [.ref a,.ref b,r]) Q E s:=by
 obtain ⟨z,hd,xs,rel,dd⟩:=Zm2 I.hok e
 have hz:xs.length≤sizeLine:=by rw [← Paired.length rel]; exact z
 have hv:=rel.val k
 refine call_meetsIn PySem.F.slot_dict_setdefault dd.typeIs PySem.F.entry_dict_setdefault (PySem.F.args_dict_setdefault_3 _ _ _) (ZfW (knd:=tupleKind (Zbd X.prog X.w)) a b hd r)
  ⟨tupleKind_room_in1 hu,k,xs,Zhp I.hok eb,dd,hz,fun p hp=>?_,fun hn h' dd' hs=>?_⟩
 ·rw [hp] at hv
  cases ho:Zdv kvs k with
  | none=>rw [ho] at hv; cases hv
  | some v =>
   rw [ho] at hv
   exact h1 v _ _ ho hv (I.tok _)
 ·rw [hn] at hv
  have ho:Zdv kvs k=none:=by
   cases ho:Zdv kvs k with
   | none=>rfl
   | some v=>rw [ho] at hv; cases hv
  refine h2 _ ho ?_
  have hp:=rel.put k eb rd
  rw [Zjp _ ho] at hp
  have hl:(kvs++[(k,d)]).length≤sizeLine:=by rw [List.length_append]; exact l
  obtain ⟨q,es,ep,hq,h2,h3,h4,_,h5⟩:=dd'
  refine Zjd I (by rw [e]; exact True.intro) hs ⟨q,hq⟩ ⟨hl,hd,_,hp.keeps fun c ys ec=>?_,q,es,ep,hq,h2,h3,h4,h5⟩
  rw [Zak (Zrw ec e (fun z=>nomatch z))]
  exact ec
end
def Zq0 (td ty tx:TE):TE:=fun σ H Q=>td σ H fun x H1=>∃ a,x=.ref a∧IsD H1 a∧ty σ H1 fun y H2=>tx σ H2 fun z H3=>∃ kvs k b,H3 a=some (.dT kvs)∧y=.ref b∧H3 b=some (.tup (k.map kV))∧kvs.length<sizeLine ∧
 (∀ v,Zdv kvs k=some v->Q v H3)∧(Zdv kvs k=none->Q z (upd H3 a (.dT (kvs++[(k,z)]))))
section
variable {X:Cx} {o e f:Expr} {apos cpos:Pos} {td ty tx:TE}
theorem Zpf (hu:X.A.units+1<cLine) (ho:PE X o td) (he:PE X e ty) (hf:PE X f tx) (m:M2 X o "setdefault" apos e f cpos):PE X (.Call (.Attribute o "setdefault" apos) [e,f] [] cpos) (Zq0 td ty tx):=by
 intro pins s σ H Q I h
 refine wpAny_Call_method m.base m.few m.line PySem.F.plainAttrs_dict PySem.F.slot_dict_setdefault PySem.F.type_dict_setdefault (thn (ho pins s σ H _ I h) fun u s1 ⟨x,H1,I1,rx,a,ex,d,q1⟩=>?_)
 subst ex
 obtain rfl:u=Value.ref a:=rx
 obtain ⟨t1,t2,_⟩:=ZpL I1 d
 refine ⟨t1,t2,?_⟩
 rw [m.trees]
 refine Calls.callWith_builtin rfl (Calls.evalArgs_plain (Calls.spliced_cons (thn (he pins s1 σ H1 _ I1 q1) fun iv s2 ⟨y,H2,I2,ry,q2⟩ =>
  Calls.spliced_cons (thn (hf pins s2 σ H2 _ I2 q2) fun fv s3 ⟨z,H3,I3,rz,kvs,k,b,ea,ey,eb,hl,q3,q4⟩=>Calls.spliced_nil ?_))))
 subst ey
 obtain rfl:iv=Value.ref b:=ry
 exact ZoV hu I3 ea eb hl rz (fun v w' s4 l rw' I4=>⟨v,H3,I4,rw',q3 v l⟩) fun s4 l I4=>⟨z,_,I4,rz,q4 l⟩
end
end L2
namespace L2
open PySem PySem.Spec PyProof.Rows PySem.W
section
variable {prog:Program} {w:World} {A:Around} {E:Value->Shared->Prop} {s:Shared} {T:String} {r d:Addr} {n:Nat} {P:Nat->Value->Prop} {OK:Heap->Prop}
theorem Zlr {Q : List Value → Shared → Prop} (K : KdlSrc prog w T r d n P OK) (hh : A.handled=none) (hok : OK s.heap) (hn : n ≤ sizeLine)
  (h:∀ h1 tk (acc:Array Value),(∀ b o,s.heap.get? b=some o->h1.get? b=some o)->s.heap.objs.size≤h1.objs.size->ItemsOf P acc n->Q acc.toList { s with heap:=h1,toks:=tk }) :
  wpAny (model prog w) A (collect (.ref r)) Q E s:=by
 have hlt:=K.there _ hok
 unfold collect
 refine wpAny_bind (wpAny_runValue (codeAny_builtin entry_proto_collect' ?_))
 show wpAny _ _ (do again (.builtin "list.__iadd__" ⟨[← newList [],.ref r],[]⟩)) _ _ s
 refine wpAny_bind (wpAny_newList (wpAny_pure ⟨Code.quiet_builtin _ (by decide +kernel),codeAny_builtin entry_list_iadd' ?_⟩))
 show wpAny _ _ (Builtin.List.listExtendWith (.ref s.heap.objs.size) (.ref r) (.ref s.heap.objs.size)) _ _ { s with heap:=s.heap.push (seqObj "list" #[] 0) }
 have hS:(s.heap.push (seqObj "list" #[] 0)).get? s.heap.objs.size=some { cls:=.type "list",data:=.seq #[] 0 }:=Heap.get?_push_size _ rfl
 rw [Around.under_plainId (by decide +kernel)]
 refine kdl_extend (R:=fun r s'=>match r with
  | .ok (.ret v)=>wpAny (model prog w) A (match v with
   | .ref a=>do match (← load a).data with
    | .seq xs _=>pure xs.toList
    | _=>unsupported "internal:collect"
   | _=>unsupported "internal:collect") Q E s'
  | .ok _=>False
  | .error e=>E e s') (A:=A) (s:={ s with heap:=s.heap.push (seqObj "list" #[] 0) }) K hh (K.keep _ _ hok fun b _ o e=>Heap.get?_push_of_some _ e) s.heap.objs.size (Nat.ne_of_gt hlt.1) (Nat.ne_of_gt hlt.2) (.ref s.heap.objs.size) 0 hS (fun h' tk acc c hk hS' hacc=>?_) hn
 refine wpAny_bind (wpAny_load hS' ?_)
 exact wpAny_pure (h h' tk acc (fun b o e=>hk b o (Nat.ne_of_lt (Heap.lt_size e)) (Heap.get?_push_of_some _ e)) (Nat.le_of_lt (Heap.lt_size hS')) hacc)
theorem Zhi {x : Value} {ss : List Str} {Q : Value → Shared → Prop} (h64 : ss.length<64)
  (hc:∀ (A':Around) (Q':List Value->Shared->Prop),A'.handled=A.handled->(∀ vs h1 tk,StrsAre vs ss->(∀ b o,s.heap.get? b=some o->h1.get? b=some o)->s.heap.objs.size≤h1.objs.size->Q' vs { s with heap:=h1,toks:=tk })->wpAny (model prog w) A' (collect x) Q' E s)
  (h:∀ h' tk a e (out:Array Value) (ss':List Str),(∀ b o,s.heap.get? b=some o->h'.get? b=some o)->s.heap.objs.size≤a->h'.get? a=some (seqObj "list" out e)->StrsAre out.toList ss'->ss'.Perm ss->sortedS ss'=true->Q (.ref a) { s with heap:=h',toks:=tk }) :
  wpAny (model prog w) A (call (.builtin "sorted") [x]) Q E s:=by
 refine Calls.call_function_entry kind_sorted plain_sorted entry_sorted (args_sorted1 _) ?_
 unfold Builtin.«sorted»
 refine wpAny_bind (m:=checkCount "sorted" 1 1 _) (wpAny_pure ?_)
 refine wpAny_bind (hc _ _ rfl fun vs h1 tk hS k1 z1=>?_)
 refine wpAny_bind (wpAny_newList ?_)
 have hvl:vs.length<64:=by rw [← hS.strs,List.length_map] at h64; exact h64
 have hoL:(h1.push (seqObj "list" vs.toArray 0)).get? h1.objs.size=some (seqObj "list" vs.toArray 0):=Heap.get?_push_size _ rfl
 show wpAny _ _ _ _ _ { s with heap:=h1.push (seqObj "list" vs.toArray 0),toks:=tk }
 refine wpAny_bind (wpAny_holding (wpAny_call_entry slot_list_sort ⟨_,hoL,rfl⟩ entry_list_sort (list_sort_treeK strKind_oneLt hoL hS.keysOf (fun v₁ v₂ rest e=>keyKind_strs (by rw [← e]; exact hS)) hvl fun st' a1 a2=>⟨_,rfl,?_⟩) (args_list_sort _)))
 obtain ⟨ss',b1,b2,b3⟩:=sorted_out_str hS a1 a2
 obtain ⟨e,he⟩:=sortedHeap_at (out:=(arrOf st').map (·.2)) hoL
 refine wpAny_pure ⟨_,rfl,h _ tk _ e _ ss' (fun b o q=>?_) z1 he b1 b2 b3⟩
 have q1:=k1 _ _ q
 have lt:b<h1.objs.size:=Heap.lt_size q1
 rw [sortedHeap_old (Nat.ne_of_lt lt) (by rw [size_push']; exact Nat.lt_succ_of_lt lt)]
 exact Heap.get?_push_of_some _ q1
end
section
variable {X:Cx}
theorem Zq1 {P:Program} {w:World} {x:Str} {v:Value} (h:(Zbd P w).is (.inr x) v=true):∃ t,v=.str x t:=by
 rcases ZaY (show Zh9 (.inr x) v=true from h) with ⟨i,t,e,_⟩ | ⟨y,t,e,e2⟩
 ·cases e
 ·cases e
  exact ⟨t,e2⟩
theorem Zit:∀ {vs:List Value} {ss:List Str},vs.length=ss.length->(∀ (i:Nat) (v:Value),vs[i]?=some v->∃ x t,ss[i]?=some x∧v=.str x t)->StrsAre vs ss
 | [],[],_,_=>.nil
 | v :: vs,x :: ss,hl,h=>by
  obtain ⟨y,t,e,rfl⟩:=h 0 v rfl
  cases (show some x=some y from e)
  exact .cons x t (Zit (by simpa using hl) fun i u hu=>by
   obtain ⟨z,t',e1,e2⟩:=h (i+1) u (by simpa using hu)
   exact ⟨z,t',by simpa using e1,e2⟩)
theorem Zjq (hc:X.calm=true):Zd0 X (.builtin "sorted") (fun xs H Q=>∃ (l:Addr) (zs:List (Str × V)),xs=[.ref l]∧H l=some (.dK (zs.map fun p=>(.inr p.1,p.2)))∧zs.length<64∧∀ D zs',H D=none->zs'.Perm (zs.map (·.1))->sortedS zs'=true->Q (.ref D) (upd H D (.lst (zs'.map V.str)))):=by
 intro pins s σ H xs us Q I r h
 obtain ⟨l,zs,rfl,hq,hl,q⟩:=h
 obtain ⟨u,rfl,ru⟩:=Zfb r
 cases (show u=Value.ref l from ru)
 obtain ⟨z,hd,vs,rel,dd⟩:=Zp7 I.hok hq
 obtain ⟨ep,da⟩:=dd.dictAt
 have hlen:vs.length=zs.length:=by rw [← rel.length,List.length_map]
 have keyAt:∀ (i:Nat) (k:Key) (x:Value),vs[i]?=some (k,x)->∃ z,(zs.map (·.1))[i]?=some z∧k=.inr z:=by
  have go:∀ {ys:List (Str × V)} {ws:List (Key × Value)},KV (ys.map fun p=>((.inr p.1:Key),p.2)) ws->∀ (i:Nat) (k:Key) (x:Value),ws[i]?=some (k,x)->∃ z,(ys.map (·.1))[i]?=some z∧k=.inr z:=by
   intro ys
   induction ys with
   | nil=>intro ws r i k x e; cases r; cases e
   | cons y ys ih =>
    intro ws r i k x e
    cases r with
    | cons h t =>
     cases i with
     | zero =>
      rw [List.getElem?_cons_zero] at e
      cases e
      exact ⟨y.1,rfl,h.1.symm⟩
     | succ i =>
      rw [List.getElem?_cons_succ] at e
      obtain ⟨z,e1,e2⟩:=ih t i k x e
      exact ⟨z,by simpa using e1,e2⟩
  exact go rel
 have col:∀ (acc:Array Value),ItemsOf (fun i v=>∃ k x,vs[i]?=some (k,x)∧(Zbd X.prog X.w).is k v=true) acc vs.length->StrsAre acc.toList (zs.map (·.1)):=by
  intro acc hacc
  refine Zit (by rw [List.length_map,← hlen,Array.length_toList]; exact hacc.1) fun i v e=>?_
  obtain ⟨k,x,e1,e2⟩:=hacc.2 i v (by rw [← Array.getElem?_toList]; exact e)
  obtain ⟨z,e3,rfl⟩:=keyAt i k x e1
  obtain ⟨t,rfl⟩:=Zq1 e2
  exact ⟨z,t,e3,rfl⟩
 refine Zhi (ss:=zs.map (·.1)) (by rw [List.length_map]; exact hl) (fun A' Q' hA q'=>Zlr (kdl_dict hd) (by rw [hA]; exact I.ok.hd hc) da (by rw [hlen]; exact Nat.le_of_lt (Zaj (by omega))) fun h1 tk acc k1 z1 hacc=>q' _ h1 tk (col acc hacc) k1 z1) fun h' tk a e out zs' k1 z1 he so hp hs=>?_
 have hl2:zs'.length=zs.length:=by rw [hp.length_eq,List.length_map]
 exact ⟨.ref _,_,I.laid (t':=tk) (o:=.lst (zs'.map V.str)) k1 z1 (show ObjOk X.prog X.w _ _ _ (.lst (zs'.map V.str)) from ⟨by rw [List.length_map]; exact Nat.le_of_lt (Zaj (by omega)),out.toList,e,Zdc so,he⟩),rfl,q _ zs' (I.hok.fresh z1) hp hs⟩
end
end L2
namespace L2
open PySem PySem.Spec PyProof.Rows
theorem Zhb (val:Nat->Int):∀ k:Nat,argBest (fun i j=>decide (val i > val j)) k≤k∧∀ i,i≤k->val i≤val (argBest (fun i j=>decide (val i > val j)) k)
 | 0=>⟨Nat.le_refl _,fun i hi=>by cases (show i=0 by omega); exact Int.le_refl _⟩
 | k+1=>by
  obtain ⟨h1,h2⟩:=Zhb val k
  show (if decide (val (k+1) > val (argBest _ k))=true then k+1 else argBest _ k)≤k+1∧∀ i,i≤k+1->val i≤val (if decide (val (k+1) > val (argBest _ k))=true then k+1 else argBest _ k)
  by_cases h:val (k+1) > val (argBest (fun i j=>decide (val i > val j)) k)
  ·rw [if_pos (decide_eq_true h)]
   refine ⟨Nat.le_refl _,fun i hi=>?_⟩
   by_cases e:i=k+1
   ·subst e; exact Int.le_refl _
   ·have:=h2 i (by omega)
    omega
  ·rw [if_neg (by rw [decide_eq_false h]; decide)]
   refine ⟨by omega,fun i hi=>?_⟩
   by_cases e:i=k+1
   ·subst e; omega
   ·exact h2 i (by omega)
theorem Zkr:∀ {us:List Value} {is:List Int},Vals (is.map V.int) us->∃ ps:List (Int × Tok),us=ps.map (fun p=>Value.int p.1 p.2)∧ps.map (·.1)=is
 | us,[],r=>by cases r; exact ⟨[],rfl,rfl⟩
 | us,i :: is,r=>by
  cases r with
  | cons h t =>
   obtain ⟨tk,rfl⟩:=h
   obtain ⟨ps,rfl,e⟩:=Zkr t
   exact ⟨(i,tk) :: ps,rfl,by rw [List.map_cons,e]⟩
section
variable {X:Cx}
theorem ZnA (K:W.Frag) (hc:X.calm=true) (hK:X.K=K:=by rfl):Zd0 X (.builtin "max") (fun xs H Q=>∃ (l:Addr) (is:List Int),xs=[.ref l]∧SqL K H l (is.map V.int)∧is≠[]∧∀ m,m∈is->(∀ x∈is,x≤m)->Q (.int m) H):=by
 subst hK
 intro pins s σ H xs us Q I r h
 obtain ⟨l,is,rfl,hq,hne,q⟩:=h
 obtain ⟨u,rfl,ru⟩:=Zfb r
 cases (show u=Value.ref l from ru)
 obtain ⟨its,rv,pl,hz⟩:=I.list hq
 obtain ⟨ps,rfl,rfl⟩:=Zkr rv
 have hl:s.heap.IsList l (intItems ps.toArray):=by
  have:=pl.isList
  rwa [show (ps.map fun p=>Value.int p.1 p.2).toArray=intItems ps.toArray by simp [intItems]] at this
 have hpos:0<ps.length:=List.length_pos_iff.mpr (fun e=>hne (by rw [e]; rfl))
 refine max_intList (I.ok.hd hc) hl (by simpa using hpos) fun v h' tk e k=>?_
 obtain ⟨b1,b2⟩:=Zhb (numAt ps.toArray) (ps.toArray.size-1)
 obtain ⟨t,rfl⟩:=intItems_at e
 generalize argBest (fun i j=>decide (numAt ps.toArray i > numAt ps.toArray j)) (ps.toArray.size-1)=n at *
 have hn:n<ps.length:=by rw [List.size_toArray] at b1; omega
 have val:∀ i (hi:i<ps.length),numAt ps.toArray i=(ps[i]).1:=fun i hi=>by simp [numAt,hi]
 refine ⟨.int (numAt ps.toArray n),H,I.kept k,⟨t,rfl⟩,q _ ?_ fun x hx=>?_⟩
 ·rw [val n hn]
  exact List.mem_map.mpr ⟨ps[n],List.getElem_mem _,rfl⟩
 ·obtain ⟨p,hp,rfl⟩:=List.mem_map.mp hx
  obtain ⟨i,hi,rfl⟩:=List.getElem_of_mem hp
  rw [← val i hi]
  exact b2 i (by rw [List.size_toArray]; omega)
end
section
variable {X:Cx} {pins:List (Addr × Obj)} {σ:St} {H H':Hp} {s:Shared} {d:Addr} {kvs:List (Key × V)} {o:Obj}
theorem Inv.thaw (I:Inv X pins σ H s) (e:H d=some (.frz o (.dK kvs))) (n:∀ o u,X.H₀ d≠some (.frz o u)):Inv X pins σ (upd H d (.dK kvs)) s:=by
 have ne:∀ b,H b=none->b≠d:=fun b z q=>by subst q; rw [e] at z; cases z
 refine ⟨I.ok,I.os,I.bare,⟨I.base.keep,I.base.slot,fun b q h1 h2 h3=>?_,I.base.there,fun b xs h1=>?_,fun b q u h1=>?_,fun b ps h1=>?_⟩,I.loc,I.cell,?_,fun x c h1=>?_,fun p hp=>?_,fun b u h1=>?_,I.len⟩
 ·have:=I.base.free b q h1 h2 h3
  rw [Zak (ne b this)]; exact this
 ·have:=I.base.tups b xs h1
  rw [Zak (fun z=>by subst z; rw [e] at this; cases this)]; exact this
 ·have:=I.base.frzs b q u h1
  rw [Zak (fun z=>by subst z; exact n _ _ h1)]; exact this
 ·obtain ⟨more,this⟩:=I.base.tbls b ps h1
  exact ⟨more,by rw [Zak (fun z=>by subst z; rw [e] at this; cases this)]; exact this⟩
 ·rw [Zak (ne _ I.free)]; exact I.free
 ·have:=I.freeC x c h1
  rw [Zak (ne _ this)]; exact this
 ·obtain ⟨a1,a2,a3⟩:=I.pin p hp
  exact ⟨a1,by rw [Zak (ne _ a2)]; exact a2,a3⟩
 ·by_cases z:b=d
  ·subst z
   rw [Zab] at h1
   cases h1
   exact (show ObjOk X.prog X.w _ _ _ (.dK kvs) from (I.hok b _ e).2)
  ·rw [Zak z] at h1
   refine (I.hok b u h1).stay (fun c v hc q=>q) (fun c q=>?_) fun c xs q=>?_
   ·rw [Zak (fun z=>by subst z; rw [e] at q; cases q)]; exact q
   ·rw [Zak (fun z=>by subst z; rw [e] at q; cases q)]; exact q
end
theorem Zrn:∀ {kvs:List (Key × V)} {vs:List (Key × Value)},KV kvs vs->∀ (i:Nat) (p:Key × V),kvs[i]?=some p->∃ x,vs[i]?=some (p.1,x)
 | [],_,r,i,p,e=>by cases e
 | q :: kvs,_,r,i,p,e=>by
  cases r with
  | @cons _ y _ _ h t =>
   cases i with
   | zero =>
    cases (show some q=some p from e)
    exact ⟨y.2,by rw [List.getElem?_cons_zero,h.1]⟩
   | succ i =>
    rw [List.getElem?_cons_succ] at e
    obtain ⟨x,hx⟩:=Zrn t i p e
    exact ⟨x,by rw [List.getElem?_cons_succ]; exact hx⟩
theorem ZrV {k:Key} {v:Value} (h:Zh9 k v=true):RelV (kV k) v:=by
 rcases ZaY h with ⟨i,t,rfl,rfl⟩ | ⟨x,t,rfl,rfl⟩
 ·exact ⟨t,rfl⟩
 ·exact ⟨t,rfl⟩
noncomputable def Itd (d:Addr) (o:Obj) (kvs:List (Key × V)):It where
 go:=fun i H=>H d=some (.frz o (.dK kvs))∧i<kvs.length
 stop:=fun i H=>H d=some (.frz o (.dK kvs))∧kvs.length≤i
 yld:=fun i H x H'=>H'=H∧(kvs[i]?.map fun p=>kV p.1)=some x
theorem ZnW {P:Program} {w:World} {K:W.Frag} {tg:Expr} (d it:Addr) (o:Obj) (kvs:List (Key × V)) (es:Array DictEntry) (ep:Nat) (ho:o.data=.dict es ep):Turn P w K tg (Itd d o kvs) [it] it (fun i h=>h.IsKeyIter it d i kvs.length ep) where
 mem:=by simp
 obj:=fun i h st b hb=>by
  have e:b=it:=by simpa using hb
  subst e
  obtain ⟨o,e,c,d⟩:=st
  exact ⟨o,e,fun v z=>by rw [d] at z; cases z⟩
 keep:=fun i h h' st k=>st.at fun o e=>k it (by simp) o e
 item:=by
  intro X hP hw hK hc i pins s σ H E I hf st hg
  subst hP hw hK
  obtain ⟨hq,hi⟩:=hg
  obtain ⟨g1,g2⟩:=(show s.heap.get? d=some o∧ObjOk X.prog X.w H s.heap d (.dK kvs) from I.hok d _ hq)
  obtain ⟨z,hd,vs,rel,dd⟩:=(show kvs.length≤sizeLine∧(d == sysModules)=false∧∃ vs,KV kvs vs∧s.heap.DictOf (Zbd X.prog X.w) d vs from g2)
  obtain ⟨o2,es2,ep2,b1,b2,b3,b4⟩:=dd
  rw [g1] at b1
  cases b1
  rw [ho] at b3
  cases b3
  have da:s.heap.DictAt (Zbd X.prog X.w) d vs ep:=⟨o,es,g1,b2,ho,b4⟩
  have hlen:vs.length=kvs.length:=rel.length.symm
  obtain ⟨x,hx⟩:=Zrn rel i kvs[i] (List.getElem?_eq_getElem hi)
  obtain ⟨f0,f1,f2,f3,f4,f5⟩:=hf it (by simp)
  rw [← hlen] at st
  refine wpAny_pyNext_dict_item st da hx fun key h' hkey st' sb=>?_
  have I1:Inv X pins σ H { s with heap:=h' }:=I.turned (t':=s.toks) (fun b o hb e=>(sb.2 b hb).trans e) f0 f1 f3 f4 f5
  rw [hlen] at st'
  obtain ⟨o3,e3,c3,d3⟩:=id st'
  exact ⟨key,rfl,Zn8 (s:={ s with heap:=h' }) e3 c3 d3 (by decide) ⟨kV kvs[i].1,H,I1,ZrV hkey,⟨rfl,by rw [List.getElem?_eq_getElem hi]; rfl⟩,st',fun b hb=>(hf b hb).1⟩⟩
 done:=by
  intro X hP hw hK hc i pins s σ H E I hf st hg
  subst hP hw hK
  obtain ⟨hq,hi⟩:=hg
  obtain ⟨g1,g2⟩:=(show s.heap.get? d=some o∧ObjOk X.prog X.w H s.heap d (.dK kvs) from I.hok d _ hq)
  obtain ⟨z,hd,vs,rel,dd⟩:=(show kvs.length≤sizeLine∧(d == sysModules)=false∧∃ vs,KV kvs vs∧s.heap.DictOf (Zbd X.prog X.w) d vs from g2)
  obtain ⟨o2,es2,ep2,b1,b2,b3,b4⟩:=dd
  rw [g1] at b1
  cases b1
  rw [ho] at b3
  cases b3
  have da:s.heap.DictAt (Zbd X.prog X.w) d vs ep:=⟨o,es,g1,b2,ho,b4⟩
  have hlen:vs.length=kvs.length:=rel.length.symm
  obtain ⟨f0,f1,f2,f3,f4,f5⟩:=hf it (by simp)
  rw [← hlen] at st
  exact wpAny_pyNext_dict_end (I.ok.hd hc) st da (List.getElem?_eq_none (by omega)) fun h' eb=>⟨rfl,I.turned (t':=s.toks) (fun b o hb e=>eb b o hb e) f0 f1 f3 f4 f5⟩
 self:=fun _ _ _ _ _ st h=>wpAny_pyIter_keyiter st h
def Zsn (tl:TE):TI:=fun σ H R=>tl σ H fun x H1=>∃ a kvs,x=.ref a∧H1 a=some (.dK kvs)∧∀ o,R (Itd a o kvs) (upd H1 a (.frz o (.dK kvs)))
theorem Zqq {X:Cx} {tg l:Expr} {tl:TE} (hl:PE X l tl):PI X tg l (Zsn tl):=by
 intro pins s σ H R I h
 refine thn (hl pins s σ H _ I h) fun v s1 ⟨x,H1,I1,r1,q1⟩=>?_
 obtain ⟨a,kvs,e,ha,q⟩:=q1
 subst e
 cases r1
 obtain ⟨z,hd,vs,rel,dd⟩:=Zp7 I1.hok ha
 obtain ⟨o,es,ep,b1,b2,b3,b4⟩:=id dd
 have da:s1.heap.DictAt (Zbd X.prog X.w) a vs ep:=⟨o,es,b1,b2,b3,b4⟩
 have hlen:vs.length=kvs.length:=rel.length.symm
 have If:Inv X pins σ (upd H1 a (.frz o (.dK kvs))) s1 :=
  I1.write (x:=a) (e:=a) (o:=.frz o (.dK kvs)) (h':=s1.heap) (t':=s1.toks) (by rw [ha]; exact True.intro) (.inl rfl) (fun b u _ e=>e) ⟨o,b1⟩ ⟨b1,z,hd,vs,rel,dd⟩
 refine wpAny_pyIter_dict hd da ?_
 refine ⟨s1.heap.objs.size,[s1.heap.objs.size],_,_,_,rfl,If.kept (t':=s1.toks) fun b o e=>Heap.get?_push_of_some _ e,ZnW a _ o kvs es ep b3,⟨_,Heap.get?_push_size _ rfl,rfl,by rw [hlen]; rfl⟩,fun b hb=>?_,q o⟩
 have e:b=s1.heap.objs.size:=by simpa using hb
 subst e
 exact If.fpOk (Nat.le_refl _) (If.hok.fresh (Nat.le_refl _))
section
variable {X:Cx}
end
section
variable {X:Cx}
end
section
variable {X:Cx}
end
def Zs0 (D:Addr) (H H':Hp):Prop:=∀ b u,b≠D->H b=some u->H' b=some u
def Zsb (t:TS):TS:=fun D σ H=>∃ d kvs,H d=some (.dK kvs)∧t { nx:=fun σ' H'=>∃ o,H' d=some (.frz o (.dK kvs))∧D.nx σ' (upd H' d (.dK kvs)),rt:=fun _ _=>False } σ H
theorem Zqw {X:Cx} {st:Stmt} {t:TS} (hs:PS X st t):PS X st (Zsb t):=by
 intro pins s σ H D I h
 obtain ⟨d,kvs,hd,h⟩:=h
 have n:∀ o u,X.H₀ d≠some (.frz o u):=fun o u z=>by
  have:=I.base.frzs d o u z
  rw [hd] at this
  cases this
 refine thn (hs pins s σ H _ I h) fun fl s1 q=>?_
 cases fl with
 | next =>
  obtain ⟨σ1,H1,I1,o,e1,q1⟩:=q
  exact ⟨σ1,_,I1.thaw e1 n,q1⟩
 | brk=>obtain ⟨σ1,H1,I1,z⟩:=q; exact z.elim
 | cont=>obtain ⟨σ1,H1,I1,z⟩:=q; exact z.elim
 | ret u=>obtain ⟨v,σ1,H1,I1,r,z⟩:=q; exact z.elim
structure FunD (K:W.Frag) (x qual:Str) (st:Stmt) (f:Addr) (fd:FuncData) (dV:Value):Prop where
 ex:∃ (oc:Value) (od:Option Addr) (kV doc pm:Value) (an:Option Addr) (cdv ct:Value) (osl:Array (Option Value)),
  fd=W.fnOf x qual (ZbX st) (ZbG st) (Zal st) dV kV doc pm an cdv ct∧K.lookup f=some ⟨oc,od,.func fd,osl⟩∧W.codeIn K cdv qual=true
 kp:W.keepIn K (.ref f)=true
theorem FunD.okX {P : Program} {w : World} {K : W.Frag} {mg : Str → Option Value} {base : Heap} {CX : CXT} {x qual : Str} {st : Stmt} {f : Addr} {fd : FuncData} {dV : Value} {N ps : List Str} {k : Nat} {sp : Sp} (F : FunD K x qual st f fd dV) (S : FnScope N ps (Zal st))
  (len:∀ vs H Q E,sp vs H Q E->vs.length=ps.length)
  (hbody:∀ (cdv:Value) (A:Around) (outer:List Env) (s:Shared) (H:Hp) (vs:List V) (Q:VK) (E:XK),Room k (A.deeper (envOfC qual (Zal st) s.heap.objs.size f cdv))->sp vs H Q E →
   ∃ t,PSs (ZoB CX P w K mg base N qual (Zal st) f cdv A outer s H E) (ZbG st) t∧t { nx:=fun _ H'=>Q .non H',rt:=Q } (start N vs) H):FnOk P w K mg base CX (k+1) f fd ps sp:=by
 obtain ⟨oc,od,kV,doc,pm,an,cdv,ct,osl,rfl,lk,hcd⟩:=F.ex
 exact Zrz lk hcd S len fun A outer s H vs Q E hr hsp=>hbody cdv A outer s H vs Q E hr hsp
theorem Zgi {K : W.Frag} {x qual : Str} {st : Stmt} {f : Addr} {oc : Value} {od an : Option Addr} {osl : Array (Option Value)} {dV kV doc pm cdv ct : Value} (l : K.lookup f=some ⟨oc, od, .func (W.fnOf x qual (ZbX st) (ZbG st) (Zal st) dV kV doc pm an cdv ct), osl⟩)
  (c:W.codeIn K cdv qual=true) (k:W.keepIn K (.ref f)=true):FunD K x qual st f (W.fnOf x qual (ZbX st) (ZbG st) (Zal st) dV kV doc pm an cdv ct) dV:=⟨⟨oc,od,kV,doc,pm,an,cdv,ct,osl,rfl,l,c⟩,k⟩
theorem FunD.binds1 {K : W.Frag} {x qual : Str} {st : Stmt} {f T : Addr} {fd : FuncData} {ps : List Str} {o : Obj} {n : Nat} (F : FunD K x qual st f fd (.ref T)) (ho : K.lookup T=some o) (hs : o.data=.seq #[.none] n)
  (h:∀ (kV doc pm:Value) (an:Option Addr) (cdv ct:Value) (us:List Value),us.length+1=ps.length->∃ k:Option (Array Value)->Sem (List (Str × Value)),
   bindArgs (W.fnOf x qual (ZbX st) (ZbG st) (Zal st) (.ref T) kV doc pm an cdv ct) ⟨us,[]⟩=seqItems? (.ref T) >>= k∧k (some #[.none])=pure (ps.zip (us++[.none]))):Binds K fd ps [.none]:=by
 obtain ⟨oc,od,kV,doc,pm,an,cdv,ct,osl,rfl,lk,hcd⟩:=F.ex
 intro s us hin hl
 rw [List.length_append] at hl
 obtain ⟨k,h1,h2⟩:=h kV doc pm an cdv ct us hl
 exact W.binds_K hin rfl ho hs h1 h2
theorem ZgK {M : Model} {A : Around} {E : Value → Shared → Prop} {K : W.Frag} {nm q : Str} {C C' N : Addr} {bs bm : List Value} {hdct : Bool} {sn : List Str} {sub : List Value} {ab : Bool} {col : Option Bool} {dd : Option Addr} {k0 k1 k2 k3 k5 : Option Value} {newId : String}
  {h:Heap} {g:Array GenState} {d:Drawn} {t:Nat} {os:OsState} {e:Addr} {oe:Obj} {Q:Bool->Shared->Prop} (X:K.In h)
  (hC:h.get? C=some (excClassObj nm q C N bs bm hdct sn sub ab col dd k0 k1 k2 k3 k5 newId)) (he:h.get? e=some oe) (hcls:oe.cls=.ref C') (hbase:bm.contains (.type "BaseException")=true) (hm:W.mroIn K C' (.ref C)=some true)
  (hq:Q true ⟨h,g,d,t,os⟩):wpAny M A (excMatches (.ref e) (.ref C)) Q E ⟨h,g,d,t,os⟩:=by
 have hcB:(Value.ref C :: bm).contains (.type "BaseException")=true:=by rw [List.contains_cons,hbase,Bool.or_true]
 have f:=tc_notTuple
 unfold excMatches
 repeat (first | (with_reducible refine wpAny_loadPart_at he ?_; rw [hcls]) | with_reducible refine wpAny_loadPart_at hC ?_ | with_reducible refine (W.looks_mroIn X hm).at ?_ | (with_reducible refine wpAny_isSubtype_exc hC ?_; rw [hcB]) | wp_step)
 exact hq
noncomputable def Zl4 (K:W.Frag) (C:Addr) (i:Nat) (ts:TS) (D:Ends):XS:=fun σ cls _ H=>∃ C',cls=.ref C'∧W.mroIn K C' (.ref C)=some true∧∀ e,H e=none->ts (Zlo i D) (σ.set i (some (.ref e))) (upd H e (ZpN (.ref C') e))
def Zoj (K:W.Frag) (C:Addr) (i:Nat) (tb:XS->TS) (ts:TS):TS:=fun D σ H=>tb (Zl4 K C i ts D) D σ H
section
variable {X:Cx} {body suite:List Stmt} {b₀:Stmt} {x n:Str} {C:Addr} {np hpos pos:Pos} {bmB:List Value} {newId:String} {i:Nat} {tb:XS->TS} {ts:TS}
theorem Znp (hs : X.stack=X.env :: X.outer) (hf : X.env.frame=some X.env.locals) (hg : Gl X x) (hm : X.mg x=some (.ref C)) (q : PySem.W.excIn X.K C bmB newId=true) (hbase : bmB.contains (.type "BaseException")=true)
  (hN:X.N.Nodup) (hi:X.N[i]?=some n) (hk:X.env.scope.names.lookup n=some .local)
  (hb:∀ pins W E,ZdY (CX1 X.prog X.w) (X.tryIn pins W) E->PSs (X.tryIn pins W) body (tb E)) (hsu:∀ pins e,PSs (X.suite pins e) (b₀ :: suite) ts)
  (hd:(x == ("__debug__" : Str))=false:=by decide):PS X (.Try body [.ExceptHandler (some (.Name x np)) (some n) (b₀ :: suite) hpos] [] [] pos) (Zoj X.K C i tb ts):=by
 intro pins s σ H D I h
 refine wpAny_Try_except ?_
 refine wpAny_mono (hb pins (fun u s₁=>wpAny (model X.prog X.w) X.A (noteFrame u X.env) (fun _ s₂=>wpAny (model X.prog X.w) X.A (setFlight u none) (fun _ s₃ =>
  wpAny (model X.prog X.w) X.A (handleBy u X.env [.ExceptHandler (some (.Name x np)) (some n) (b₀ :: suite) hpos]) (SP X pins D) X.xe s₃) X.xe s₂) X.xe s₁) (Zl4 X.K C i ts D) ?_ [] s σ H D (I.tryIn _) h) ?_ fun _ _ z=>z
 ·rintro pins' σ1 H1 s1 u s' I1 ⟨e,cls,H',rfl,fl,C',rfl,hmro,hts⟩
  have J1:Inv X pins σ1 H1 s1:=I1.untry
  have fl:Flies X.prog X.w X.stack H1 H' s1 s' e (.ref C'):=fl
  obtain ⟨B,a0,f0,mv⟩:=fl.move
  rw [hs] at f0
  refine wpAny_looks_onW (by rw [I.ok.frames,hs]) hf f0 fun h4 held4 up4=>?_
  refine wpAny_landsW held4 fun h5 f5 up5=>?_
  have fl5:=mv h5 (by rw [hs]; exact f5) (up4.trans up5)
  have J5:=fl5.inv J1
  obtain ⟨ob,hob,hobc⟩:=f5.there
  refine wpAny_handleBy_cons (codeAny_handlers_test (ZoK J5 hg hm ?_ hd)) (by intro z; cases z)
  obtain ⟨bm,Nn,nm,qn,bs,hdct,sn,sub,ab,col,dd,k0,k1,k2,k3,k5,mN,hC,hNn,hni,T⟩:=ZpO I.mod.kin q
  refine ZgK (K:=X.K) J5.kIn (J5.bk _ _ hC) hob hobc (T.hasType hbase) hmro (codeAny_handlers_suite_as ?_)
  refine lands_againW f5 fun h6 f6 up6=>?_
  have fl6:=mv h6 (by rw [hs]; exact f6) ((up4.trans up5).trans up6)
  have J6:=fl6.caught J1
  refine Zi8 (X:=X.suite pins e) (v:=.ref e) (J6.suite e) hN hi (.inl hk) rfl (fun s7 J7=>?_) (.inr hk)
  refine wpAny_mono (hsu pins e [] s7 _ _ _ J7 (hts e fl6.new.1)) (fun f s8 r8=>?_) fun _ _ z=>False.elim z
  have r9:SP X pins (Zlo i D) f s8:=r8.unsuite I.ok.hd
  cases f with
  | next =>
   obtain ⟨σ9,H9,I9,q9⟩:=r9
   exact Zfq I9 hN hi hk fun s' J'=>⟨_,H9,J',q9⟩
  | brk =>
   obtain ⟨σ9,H9,I9,q9⟩:=r9
   exact Zfq I9 hN hi hk fun s' J'=>⟨_,H9,J',q9⟩
  | cont =>
   obtain ⟨σ9,H9,I9,q9⟩:=r9
   exact Zfq I9 hN hi hk fun s' J'=>⟨_,H9,J',q9⟩
  | ret u =>
   obtain ⟨v,σ9,H9,I9,rv,q9⟩:=r9
   exact Zfq I9 hN hi hk fun s' J'=>⟨v,_,H9,J',rv,q9⟩
 ·intro f s1 r1
  have r2:SP X pins D f s1:=r1.untry
  cases f with
  | next=>exact wpAny_execs_nil r2
  | brk=>exact r2
  | cont=>exact r2
  | ret u=>exact r2
end
theorem ZnJ {K : PySem.W.Frag} {C : Addr} {i : Nat} {tb : XS → TS} {ts : TS} {D : Ends} {σ : St} {H : Hp} (W : Addr → Prop) (σ' : St) (hW : ∀ c, W c → PySem.W.mroIn K c (.ref C)=some true) (hc : ∀ c H' e, W c → Same H H' → H' e=none → ts (Zlo i D) (σ'.set i (some (.ref e))) (upd H' e (ZpN (.ref c) e)))
  (hb:∀ E:XS,(∀ c H',W c->Same H H'->E σ' (.ref c) none H')->tb E D σ H):Zoj K C i tb ts D σ H :=
 hb _ fun c H' w s=>⟨c,rfl,hW c w,fun e he=>hc c H' e w s he⟩
end L2
namespace SA
open PySem PyProof.Rows
section
variable {M:Model} {A:Around} {E:Value->Shared->Prop} {s:Shared}
variable {O:KeyOrd} {key:Keyed->O.α} {D:Keyed->Prop} {kd:SortKind}
end
section
variable {M:Model} {A:Around} {E:Value->Shared->Prop} {s:Shared} {O:KeyOrd} {key:Keyed->O.α} {D:Keyed->Prop} {kd:SortKind}
end
section
variable {M:Model} {A:Around} {E:Value->Shared->Prop} {s:Shared} {O:KeyOrd} {key:Keyed->O.α} {D:Keyed->Prop} {kd:SortKind}
end
section
variable {O:KeyOrd} {key:Keyed->O.α}
end
section
variable {M:Model} {A:Around} {E:Value->Shared->Prop} {s:Shared} {O:KeyOrd} {key:Keyed->O.α} {D:Keyed->Prop} {kd:SortKind}
end
section
variable {M:Model} {A:Around} {E:Value->Shared->Prop} {s:Shared} {O:KeyOrd} {key:Keyed->O.α} {D:Keyed->Prop} {kd:SortKind}
end
section
variable {M:Model} {A:Around} {E:Value->Shared->Prop} {s:Shared} {O:KeyOrd} {key:Keyed->O.α} {D:Keyed->Prop} {kd:SortKind} {d:O.α}
end
section
variable {M:Model} {A:Around} {E:Value->Shared->Prop} {s:Shared} {O:KeyOrd} {key:Keyed->O.α} {D:Keyed->Prop} {kd:SortKind} {d:O.α}
end
section
variable {M:Model} {A:Around} {E:Value->Shared->Prop} {s:Shared} {O:KeyOrd} {key:Keyed->O.α} {D:Keyed->Prop} {kd:SortKind} {d:O.α} {a0:List Keyed}
end
section
variable {M:Model} {A:Around} {E:Value->Shared->Prop} {s:Shared} {O:KeyOrd} {key:Keyed->O.α} {D:Keyed->Prop} {kd:SortKind} {d:O.α} {a0:List Keyed}
end
end SA
namespace SA
open PySem PyProof.Rows PySem.W
section
variable {prog:Program} {w:World} {A:Around} {E:Value->Shared->Prop} {s:Shared}
end
end SA
namespace L2
open PySem PySem.Spec PyProof.Rows PySem.W
section
variable {prog:Program} {w:World} {A:Around} {E:Value->Shared->Prop} {s:Shared}
def Zl5 (h:Heap) (d:Addr) (es:Array DictEntry) (ep:Nat):Prop:=∃ o,h.get? d=some o∧o.cls=.type "dict"∧o.data=.dict es ep
theorem Zpy {v d : Addr} {es : Array DictEntry} {ep : Nat} {Q : Value → Shared → Prop} (hv : s.heap.IsValuesView v d) (hd : Zl5 s.heap d es ep)
  (q:Q (.ref s.heap.objs.size) { s with heap:=s.heap.push { cls:=.type "dict_valueiterator",data:=.fields #[.ref d,.int 0 0,.int es.size 0,.int ep 0] } }):wpAny (model prog w) A (pyIter (.ref v)) Q E s:=by
 have ty:=hv.typeIs
 obtain ⟨ov,g1,g2,g3⟩:=hv
 obtain ⟨od,d1,d2,d3⟩:=hd
 have own:Builtin.Dict_items.ownsTuple "dict_valueiterator"=false:=by decide
 refine wpAny_pyIter_slot ty F.slot_dict_values_iter (wpAny_call_entry F.slot_dict_values_iter ty F.entry_dict_values_iter ?_ (F.args_dict_values_iter_1 _))
 delta Builtin.«dict_values.__iter__»
 refine wpAny_bind (wpAny_pure (wpAny_bind ?_))
 delta Builtin.Dict_items.dictOf
 refine wpAny_bind (wpAny_field g1 g3 (x:=.ref d) rfl (wpAny_pure (wpAny_bind ?_)))
 delta Builtin.Dict_items.newIterator
 refine wpAny_bind (wpAny_dictEntries d1 d3 (wpAny_bind (wpAny_dictEpoch d1 d3 ?_)))
 simp only [own,Bool.false_eq_true,if_false]
 refine wpAny_newObj_type (wpAny_pure ⟨_,rfl,"dict_valueiterator",_,⟨_,Heap.get?_push_size _ rfl,rfl⟩,F.slot_dict_valueiterator_next.lookup,?_⟩)
 simpa [rawInt] using q
theorem ZgR {it:Addr} {Q:String->Shared->Prop} (hT:s.TypeIs (.ref it) "dict_valueiterator") (h:Q "dict_valueiterator" s):wpAny (model prog w) A (typeNameOfWhole (.ref it)) Q E s:=wpAny_typeNameOfWhole_valiter hT h
theorem Zpp {it d : Addr} {i ep : Nat} {es : Array DictEntry} {e : DictEntry} {Q : Option Value → Shared → Prop} (hit : s.heap.IsValIter it d i es.size ep) (hd : Zl5 s.heap d es ep) (he : es[i]?=some e)
  (q:∀ h',h'.IsValIter it d (i+1) es.size ep->Heap.SameBut it s.heap h'->Q (some e.val) { s with heap:=h' }):wpAny (model prog w) A (pyNext (.ref it)) Q E s:=by
 have ty:=hit.typeIs
 obtain ⟨o,o1,o2,o3⟩:=id hit
 obtain ⟨od,d1,d2,d3⟩:=hd
 have own:Builtin.Dict_items.ownsTuple "dict_valueiterator"=false:=by decide
 have hlt:i<es.size:=by
  rcases Nat.lt_or_ge i es.size with h | h
  ·exact h
  ·rw [Array.getElem?_eq_none h] at he; cases he
 have hv:es[i].val=e.val:=by rw [getElem?_pos es i hlt] at he; injection he with z; rw [z]
 delta pyNext
 refine wpAny_bind (wpAny_attempt (wpAny_callSpecial?_slot (name:=Str.ofString "__next__") ty F.slot_dict_valueiterator_next
  (wpAny_call_entry F.slot_dict_valueiterator_next ty F.entry_dict_valueiterator_next ?_ (F.args_dict_valueiterator_next_1 _))))
 refine wpAny_bind (wpAny_pure (wpAny_bind (wpAny_bind (wpAny_bind (ZgR ty (wpAny_pure (wpAny_bind (wpAny_fieldsOf o1 o3 ?_))))))))
 simp only [own,Bool.false_eq_true,if_false]
 have nn:(Value.ref d == Value.none)=false:=rfl
 show wpAny _ _ (if (Value.ref d == Value.none)=true then _ else _) _ _ s
 rw [nn,if_neg Bool.false_ne_true]
 refine wpAny_bind (wpAny_pure (wpAny_bind (wpAny_dictEntries d1 d3 ?_)))
 rw [if_neg (by simp)]
 refine wpAny_bind (wpAny_pure (wpAny_bind (wpAny_dictEpoch d1 d3 ?_)))
 rw [if_neg (by simp)]
 refine wpAny_pure ?_
 simp only [show ¬ ((i:Int)<0) from by omega,if_false,Int.toNat_natCast,Array.getElem?_eq_getElem hlt]
 refine wpAny_bind (wpAny_bind (ZgR ty (wpAny_pure (wpAny_bind (wpAny_isOneOf_valiter ty ?_)))))
 show wpAny _ _ (setField (.ref it) 1 (rawInt ((i:Int)+1)) >>= _) _ _ s
 obtain ⟨h',eh⟩:∃ z,z=s.heap.update it (Obj.mapFields (·.setIfInBounds 1 (rawInt ((i:Int)+1)))):=⟨_,rfl⟩
 refine wpAny_bind (wpAny_setField o1 o3 (by simp) ?_)
 rw [← eh]
 have hit':h'.IsValIter it d (i+1) es.size ep:=by
  rw [eh]
  exact ⟨_,Heap.get?_update_self _ o1 (Obj.isFreed_of_fields (Obj.data_mapFields o3 _)),(Obj.cls_mapFields ..).trans o2,by rw [Obj.data_mapFields o3]; simp [rawInt]⟩
 have ty':({ s with heap:=h' }:Shared).TypeIs (.ref it) "dict_valueiterator":=Heap.IsValIter.typeIs (s:={ s with heap:=h' }) hit'
 refine wpAny_bind (wpAny_holding (wpAny_bind (wpAny_isOneOf_valiter ty' (wpAny_bind (wpAny_isOneOf_valiter ty' ?_)))))
 show wpAny _ _ (pure es[i].val) _ _ _
 rw [hv]
 exact wpAny_pure (wpAny_pure ⟨_,rfl,wpAny_pure (q _ hit' (by rw [eh]; exact Heap.SameBut.update ..))⟩)
theorem ZqD {it d : Addr} {i ep : Nat} {es : Array DictEntry} {Q : Option Value → Shared → Prop} (hh : A.handled=none) (hit : s.heap.IsValIter it d i es.size ep) (hd : Zl5 s.heap d es ep) (he : es.size ≤ i)
  (q:∀ h',Heap.ExtBut it s.heap h'->Q none { s with heap:=h' }):wpAny (model prog w) A (pyNext (.ref it)) Q E s:=by
 have ty:=hit.typeIs
 obtain ⟨o,o1,o2,o3⟩:=id hit
 obtain ⟨od,d1,d2,d3⟩:=hd
 have own:Builtin.Dict_items.ownsTuple "dict_valueiterator"=false:=by decide
 delta pyNext
 refine wpAny_bind (wpAny_attempt (wpAny_callSpecial?_slot (name:=Str.ofString "__next__") ty F.slot_dict_valueiterator_next
  (wpAny_call_entry F.slot_dict_valueiterator_next ty F.entry_dict_valueiterator_next ?_ (F.args_dict_valueiterator_next_1 _))))
 refine wpAny_bind (wpAny_pure (wpAny_bind (wpAny_bind (wpAny_bind (ZgR ty (wpAny_pure (wpAny_bind (wpAny_fieldsOf o1 o3 ?_))))))))
 simp only [own,Bool.false_eq_true,if_false]
 have nn:(Value.ref d == Value.none)=false:=rfl
 show wpAny _ _ (if (Value.ref d == Value.none)=true then _ else _) _ _ s
 rw [nn,if_neg Bool.false_ne_true]
 refine wpAny_bind (wpAny_pure (wpAny_bind (wpAny_dictEntries d1 d3 ?_)))
 rw [if_neg (by simp)]
 refine wpAny_bind (wpAny_pure (wpAny_bind (wpAny_dictEpoch d1 d3 ?_)))
 rw [if_neg (by simp)]
 refine wpAny_pure ?_
 simp only [show ¬ ((i:Int)<0) from by omega,if_false,Int.toNat_natCast,Array.getElem?_eq_none he]
 refine wpAny_bind (wpAny_bind (ZgR ty (wpAny_pure ?_)))
 show wpAny _ _ (setField (.ref it) 0 .none >>= _) _ _ s
 refine wpAny_bind (wpAny_setField o1 o3 (by simp) ?_)
 show wpAny _ _ (newExc (.type "StopIteration") [] >>= _) _ _ _
 refine wpAny_bind ?_
 simp only [newExc,newTuple]
 refine wpAny_bind (wpAny_newObj_type (wpAny_bind (m:=firstArgMember _ _) (wpAny_of_eq (a:=Value.none) (by first | rfl | (simp only [firstArgMember]; rfl)) (wpAny_newObj_type ?_ (by size_fits)))) (by size_fits))
 simp only [raiseNew]
 refine wpAny_bind (wpAny_handled ?_)
 rw [show A.in1.handled=none from hh]
 refine wpAny_bind (wpAny_pure (wpAny_throw ?_))
 refine wpAny_bind (wpAny_isInstance (T:="StopIteration") (b:=true) ⟨_,Heap.get?_push_size _ rfl,rfl⟩ isSubtype_stop ?_)
 exact wpAny_pure (q _ (((Heap.SameBut.update ..).extBut.push _).push _))
theorem Zo0 {d : Addr} {es : Array DictEntry} {ep : Nat} {Q : Value → Shared → Prop} (lo : (d == sysModules)=false) (hd : Zl5 s.heap d es ep)
  (q:Q (.ref s.heap.objs.size) { s with heap:=s.heap.push { cls:=.type "dict_values",data:=.fields #[.ref d] } }):wpAny (model prog w) A (call (.builtin "dict.values") [.ref d]) Q E s:=by
 obtain ⟨od,d1,d2,d3⟩:=hd
 have ty:s.TypeIs (.ref d) "dict":=⟨od,d1,d2⟩
 refine call_meetsIn F.slot_dict_values ty F.entry_dict_values (F.args_dict_values_1 _) (S:=fun _ R s'=>s'=s∧R (.ok (.ret (.ref s'.heap.objs.size))) { s' with heap:=s'.heap.push { cls:=.type "dict_values",data:=.fields #[.ref d] } }) ?_ ⟨rfl,q⟩
 refine .of_wp fun A R s' h=>?_
 obtain ⟨rfl,h⟩:=h
 refine wpAny_bind ?_
 delta Builtin.Dict.noArgs
 refine wpAny_bind (wpAny_notOrdered_dict ty ?_)
 show wpAny _ _ (pure d) _ _ _
 refine wpAny_pure ?_
 show wpAny _ _ (Builtin.Dict.showsAll d >>= _) _ _ _
 delta Builtin.Dict.showsAll
 rw [if_neg (by rw [lo]; exact Bool.false_ne_true)]
 exact wpAny_bind (wpAny_pure (wpAny_bind (wpAny_newObj_type (wpAny_pure ⟨_,rfl,h⟩))))
end
end L2
namespace L2
open PySem PySem.Spec PyProof.Rows PySem.W SA
def Zfu (r a:Addr) (h:Heap):Prop:=h.IsValuesView r a
section
variable {prog:Program} {w:World} {A:Around} {E:Value->Shared->Prop} {s:Shared}
end
section
variable {X:Cx}
theorem Zn4:MtR X "dict.values" (fun x xs H Q=>∃ a kvs,x=.ref a∧xs=[]∧H a=some (.dT kvs)∧∀ r,H r=none->Q (.ref r) (upd H r (.ext (Zfu r a)))):=by
 intro pins s σ H x xs v us Q I rx r h
 obtain ⟨a,kvs,rfl,rfl,ha,q⟩:=h
 cases r
 obtain rfl:v=Value.ref a:=rx
 obtain ⟨z,hd,xs,rel,o,es,ep,h1,h2,h3,h4,h5⟩:=Zm2 I.hok ha
 refine Zo0 hd ⟨o,h1,h2.1,h3⟩ ⟨.ref s.heap.objs.size,_,I.laid (t':=s.toks) (o:=.ext (Zfu s.heap.objs.size a)) (fun b u e=>Heap.get?_push_of_some _ e) (Nat.le_refl _) ?_,rfl,q _ (I.hok.fresh (Nat.le_refl _))⟩
 have g:(s.heap.push { cls:=.type "dict_values",data:=.fields #[.ref a] }).get? s.heap.objs.size=some { cls:=.type "dict_values",data:=.fields #[.ref a] }:=Heap.get?_push_size _ rfl
 refine ⟨⟨_,g,rfl,rfl⟩,⟨_,g⟩,fun g1 g2 φ k=>?_⟩
 obtain ⟨o,o1,o2⟩:=φ
 exact ⟨o,k o o1,o2⟩
end
theorem FunD.binds2 {K : W.Frag} {x qual : Str} {st : Stmt} {f T : Addr} {fd : FuncData} {ps : List Str} {o : Obj} {n : Nat} (F : FunD K x qual st f fd (.ref T)) (ho : K.lookup T=some o) (hs : o.data=.seq #[.none] n)
  (h:∀ (kV doc pm:Value) (an:Option Addr) (cdv ct:Value) (us:List Value),us.length=ps.length->∃ k:Option (Array Value)->Sem (List (Str × Value)),
   bindArgs (W.fnOf x qual (ZbX st) (ZbG st) (Zal st) (.ref T) kV doc pm an cdv ct) ⟨us,[]⟩=seqItems? (.ref T) >>= k∧k (some #[.none])=pure (ps.zip us)):Binds K fd ps []:=by
 obtain ⟨oc,od,kV,doc,pm,an,cdv,ct,osl,rfl,lk,hcd⟩:=F.ex
 intro s us hin hl
 rw [List.append_nil] at hl ⊢
 obtain ⟨k,h1,h2⟩:=h kV doc pm an cdv ct us hl
 exact W.binds_K hin rfl ho hs h1 h2
section
variable {X:Cx}
end
section
variable {X:Cx} {pins:List (Addr × Obj)} {σ:St} {H H':Hp} {s:Shared} {d:Addr} {kvs:List (List Key × V)} {o:Obj}
theorem Inv.thawT (I:Inv X pins σ H s) (e:H d=some (.frz o (.dT kvs))) (n:∀ o u,X.H₀ d≠some (.frz o u)):Inv X pins σ (upd H d (.dT kvs)) s:=by
 have ne:∀ b,H b=none->b≠d:=fun b z q=>by subst q; rw [e] at z; cases z
 refine ⟨I.ok,I.os,I.bare,⟨I.base.keep,I.base.slot,fun b q h1 h2 h3=>?_,I.base.there,fun b xs h1=>?_,fun b q u h1=>?_,fun b ps h1=>?_⟩,I.loc,I.cell,?_,fun x c h1=>?_,fun p hp=>?_,fun b u h1=>?_,I.len⟩
 ·have:=I.base.free b q h1 h2 h3
  rw [Zak (ne b this)]; exact this
 ·have:=I.base.tups b xs h1
  rw [Zak (fun z=>by subst z; rw [e] at this; cases this)]; exact this
 ·have:=I.base.frzs b q u h1
  rw [Zak (fun z=>by subst z; exact n _ _ h1)]; exact this
 ·obtain ⟨more,this⟩:=I.base.tbls b ps h1
  exact ⟨more,by rw [Zak (fun z=>by subst z; rw [e] at this; cases this)]; exact this⟩
 ·rw [Zak (ne _ I.free)]; exact I.free
 ·have:=I.freeC x c h1
  rw [Zak (ne _ this)]; exact this
 ·obtain ⟨a1,a2,a3⟩:=I.pin p hp
  exact ⟨a1,by rw [Zak (ne _ a2)]; exact a2,a3⟩
 ·have st:∀ {b:Addr} {u:HO},ObjOk X.prog X.w H s.heap b u->ObjOk X.prog X.w (upd H d (.dT kvs)) s.heap b u:=fun x=>by
   refine x.stay (fun c v hc q=>q) (fun c q=>?_) fun c xs q=>?_
   ·rw [Zak (fun z=>by subst z; rw [e] at q; cases q)]; exact q
   ·rw [Zak (fun z=>by subst z; rw [e] at q; cases q)]; exact q
  by_cases z:b=d
  ·subst z
   rw [Zab] at h1
   cases h1
   exact st (show ObjOk X.prog X.w H s.heap b (.dT kvs) from (I.hok b _ e).2)
  ·rw [Zak z] at h1
   exact st (I.hok b u h1)
end
def Zrs (t:TS):TS:=fun D σ H=>∃ d kvs,H d=some (.dT kvs)∧t { nx:=fun σ' H'=>∃ o,H' d=some (.frz o (.dT kvs))∧D.nx σ' (upd H' d (.dT kvs)),rt:=fun _ _=>False } σ H
theorem ZoD {X:Cx} {st:Stmt} {t:TS} (hs:PS X st t):PS X st (Zrs t):=by
 intro pins s σ H D I h
 obtain ⟨d,kvs,hd,h⟩:=h
 have n:∀ o u,X.H₀ d≠some (.frz o u):=fun o u z=>by
  have:=I.base.frzs d o u z
  rw [hd] at this
  cases this
 refine thn (hs pins s σ H _ I h) fun fl s1 q=>?_
 cases fl with
 | next =>
  obtain ⟨σ1,H1,I1,o,e1,q1⟩:=q
  exact ⟨σ1,_,I1.thawT e1 n,q1⟩
 | brk=>obtain ⟨σ1,H1,I1,z⟩:=q; exact z.elim
 | cont=>obtain ⟨σ1,H1,I1,z⟩:=q; exact z.elim
 | ret u=>obtain ⟨v,σ1,H1,I1,r,z⟩:=q; exact z.elim
theorem ZqV {H:Hp}:∀ {kvs:List (List Key × V)} {xs:List (List Key × Addr × Value)},KT H kvs xs->∀ (i:Nat) (p:List Key × V),kvs[i]?=some p->∃ x,xs[i]?=some x∧RelV p.2 x.2.2
 | [],_,r,i,p,e=>by cases e
 | q :: kvs,_,r,i,p,e=>by
  cases r with
  | @cons _ y _ _ h t =>
   cases i with
   | zero =>
    cases (show some q=some p from e)
    exact ⟨y,rfl,h.2.2⟩
   | succ i =>
    rw [List.getElem?_cons_succ] at e
    obtain ⟨x,hx⟩:=ZqV t i p e
    exact ⟨x,by rw [List.getElem?_cons_succ]; exact hx.1,hx.2⟩
noncomputable def Zrg (d:Addr) (o:Obj) (kvs:List (List Key × V)):It where
 go:=fun i H=>H d=some (.frz o (.dT kvs))∧i<kvs.length
 stop:=fun i H=>H d=some (.frz o (.dT kvs))∧kvs.length≤i
 yld:=fun i H x H'=>H'=H∧(kvs[i]?.map fun p=>p.2)=some x
theorem ZnR {P:Program} {w:World} {K:W.Frag} {tg:Expr} (d it:Addr) (o:Obj) (kvs:List (List Key × V)) (es:Array DictEntry) (ep:Nat) (ho:o.data=.dict es ep) (hc:o.cls=.type "dict") (hz:es.size=kvs.length):Turn P w K tg (Zrg d o kvs) [it] it (fun i h=>h.IsValIter it d i es.size ep) where
 mem:=by simp
 obj:=fun i h st b hb=>by
  have e:b=it:=by simpa using hb
  subst e
  obtain ⟨o,e,c,d⟩:=st
  exact ⟨o,e,fun v z=>by rw [d] at z; cases z⟩
 keep:=fun i h h' st k=>by
  obtain ⟨o,e,c⟩:=st
  exact ⟨o,k it (by simp) o e,c⟩
 item:=by
  intro X hP hw hK hcalm i pins s σ H E I hf st hg
  subst hP hw hK
  obtain ⟨hq,hi⟩:=hg
  obtain ⟨g1,g2⟩:=(show s.heap.get? d=some o∧ObjOk X.prog X.w H s.heap d (.dT kvs) from I.hok d _ hq)
  obtain ⟨z,hd,xs,rel,o2,es2,ep2,h1,h2,h3,h4,h5⟩:=ZjP I.hok (.inr ⟨o,hq⟩)
  rw [g1] at h1
  cases h1
  rw [ho] at h3
  cases h3
  obtain ⟨x,hx,rx⟩:=ZqV rel i kvs[i] (List.getElem?_eq_getElem hi)
  have hen:∃ en,es[i]?=some en∧en.val=x.2.2:=by
   have e1:es.toList[i]?=es[i]?:=Array.getElem?_toList ..
   rw [h4,List.getElem?_map,hx] at e1
   exact ⟨_,e1.symm,rfl⟩
  obtain ⟨en,hen,ev⟩:=hen
  obtain ⟨f0,f1,f2,f3,f4,f5⟩:=hf it (by simp)
  refine Zpp st ⟨o,g1,hc,ho⟩ hen fun h' st' sb=>?_
  have I1:Inv X pins σ H { s with heap:=h' }:=I.turned (t':=s.toks) (fun b o hb e=>(sb.2 b hb).trans e) f0 f1 f3 f4 f5
  obtain ⟨o3,e3,c3,d3⟩:=id st'
  exact ⟨en.val,rfl,Zn8 (s:={ s with heap:=h' }) e3 c3 d3 (by decide) ⟨kvs[i].2,H,I1,by rw [ev]; exact rx,⟨rfl,by rw [List.getElem?_eq_getElem hi]; rfl⟩,st',fun b hb=>(hf b hb).1⟩⟩
 done:=by
  intro X hP hw hK hcalm i pins s σ H E I hf st hg
  subst hP hw hK
  obtain ⟨hq,hi⟩:=hg
  obtain ⟨g1,g2⟩:=(show s.heap.get? d=some o∧ObjOk X.prog X.w H s.heap d (.dT kvs) from I.hok d _ hq)
  obtain ⟨f0,f1,f2,f3,f4,f5⟩:=hf it (by simp)
  exact ZqD (I.ok.hd hcalm) st ⟨o,g1,hc,ho⟩ (by omega) fun h' eb=>⟨rfl,I.turned (t':=s.toks) (fun b o hb e=>eb b o hb e) f0 f1 f3 f4 f5⟩
 self:=fun _ _ _ _ _ st h=>wpAny_pyIter_valiter st h
def Zsg (tl:TE):TI:=fun σ H R=>tl σ H fun x H1=>∃ r a kvs,x=.ref r∧H1 r=some (.ext (Zfu r a))∧H1 a=some (.dT kvs)∧∀ o,R (Zrg a o kvs) (upd H1 a (.frz o (.dT kvs)))
theorem ZqI {X:Cx} {tg l:Expr} {tl:TE} (hl:PE X l tl):PI X tg l (Zsg tl):=by
 intro pins s σ H R I h
 refine thn (hl pins s σ H _ I h) fun v s1 ⟨x,H1,I1,r1,q1⟩=>?_
 obtain ⟨r,a,kvs,e,hr,ha,q⟩:=q1
 subst e
 cases r1
 have hview:s1.heap.IsValuesView r a:=(show ObjOk X.prog X.w H1 s1.heap r (.ext (Zfu r a)) from I1.hok r _ hr).1
 obtain ⟨z,hd,xs,rel,o,es,ep,h1,h2,h3,h4,h5⟩:=Zm2 I1.hok ha
 have hes:es.size=kvs.length:=by rw [← Array.length_toList,h4,List.length_map]; exact rel.length.symm
 have fz:∀ {c:Addr} {u:HO},ObjOk X.prog X.w H1 s1.heap c u->ObjOk X.prog X.w (upd H1 a (.frz o (.dT kvs))) s1.heap c u:=fun x=>by
  refine x.stay (fun c v hc qe=>qe) (fun c qe=>?_) fun c ys qe=>?_
  ·rw [Zak (fun z=>by subst z; rw [ha] at qe; cases qe)]; exact qe
  ·rw [Zak (fun z=>by subst z; rw [ha] at qe; cases qe)]; exact qe
 have If:Inv X pins σ (upd H1 a (.frz o (.dT kvs))) s1 :=
  I1.write (x:=a) (e:=a) (o:=.frz o (.dT kvs)) (h':=s1.heap) (t':=s1.toks) (by rw [ha]; exact True.intro) (.inl rfl) (fun b u _ e=>e) ⟨o,h1⟩ ⟨h1,fz (show ObjOk X.prog X.w H1 s1.heap a (.dT kvs) from I1.hok a _ ha)⟩
 refine Zpy hview ⟨o,h1,h2.1,h3⟩ ?_
 refine ⟨s1.heap.objs.size,[s1.heap.objs.size],_,_,_,rfl,If.kept (t':=s1.toks) fun b o e=>Heap.get?_push_of_some _ e,ZnR a _ o kvs es ep h3 h2.1 hes,⟨_,Heap.get?_push_size _ rfl,rfl,rfl⟩,fun b hb=>?_,q o⟩
 have e:b=s1.heap.objs.size:=by simpa using hb
 subst e
 exact If.fpOk (Nat.le_refl _) (If.hok.fresh (Nat.le_refl _))
theorem ZoZ {d : Addr} {o : Obj} {kvs : List (List Key × V)} {g : TG} {tb : TS} {D : Ends} {σ : St} {H : Hp} (Pv : Nat → St → Hp → Prop) (h0 : Pv 0 σ H) (hl : ∀ i σ H, i ≤ kvs.length → Pv i σ H → H d=some (.frz o (.dT kvs)))
  (hs:∀ i p σ H,kvs[i]?=some p->Pv i σ H->g p.2 σ H fun σ2 H2=>tb { D with nx:=Pv (i+1),ct:=Pv (i+1),bk:=D.nx } σ2 H2) (hd:∀ σ H,Pv kvs.length σ H->D.nx σ H) :
  ∃ W:Nat->Nat->St->Hp->Prop,(∃ m,W 0 m σ H)∧∀ i m σ H,W i m σ H →
   ((Zrg d o kvs).stop i H∧D.nx σ H)∨((Zrg d o kvs).go i H∧∃ N:St->Hp->Prop,(∀ σ' H',N σ' H'->∃ m',m'<m∧W (i+1) m' σ' H')∧∀ x H',(Zrg d o kvs).yld i H x H'->g x σ H' fun σ2 H2=>tb { D with nx:=N,ct:=N,bk:=D.nx } σ2 H2):=by
 refine ⟨fun i m σ H=>m=kvs.length-i∧i≤kvs.length∧Pv i σ H,⟨kvs.length,by simp,Nat.zero_le _,h0⟩,?_⟩
 rintro i m σ H ⟨rfl,hi,p⟩
 have q:=hl i σ H hi p
 by_cases hlt:i<kvs.length
 ·refine .inr ⟨⟨q,hlt⟩,Pv (i+1),fun σ' H' p'=>⟨kvs.length-(i+1),by omega,rfl,hlt,p'⟩,fun x H' y=>?_⟩
  obtain ⟨e,y⟩:=y
  subst e
  rw [List.getElem?_eq_getElem hlt] at y
  cases (show kvs[i].2=x from Option.some.inj y)
  exact hs i kvs[i] σ _ (List.getElem?_eq_getElem hlt) p
 ·have e:i=kvs.length:=by omega
  subst e
  exact .inl ⟨⟨q,Nat.le_refl _⟩,hd σ H p⟩
section
variable {prog:Program} {w:World} {A:Around} {E:Value->Shared->Prop}
end
theorem ZjH {α : Type} {J : It} {σ0 : St} {g : TG} {tt : TT} {te : TE} {Q : VK} {H1 : Hp} (sel : List (Option α)) (P : α → Hp → V → Prop) (mono : ∀ a H H' v D xs, P a H v → H D=some (.lst xs) → Zs0 D H H' → P a H' v) (hn : sel.length<sizeLine) (σP : St → Prop) (h0 : σP σ0)
  (go:∀ i H,i<sel.length->Same H1 H->J.go i H) (stop:∀ H,Same H1 H->J.stop sel.length H)
  (step:∀ i σ H x H' o,sel[i]?=some o->σP σ->Same H1 H->J.yld i H x H'->∀ C:Option V->St->Hp->Prop,(o=none->∀ σ2 H6,σP σ2->Same H H6->C none σ2 H6)->(∀ a,o=some a->∀ y σ2 H6,σP σ2->Same H H6->P a H6 y->C (some y) σ2 H6)->g x σ H' fun σ2 H4=>tt σ2 H4 fun c H5=>if c=true then te σ2 H5 fun y' H6=>C (some y') σ2 H6 else C none σ2 H5)
  (fin:∀ D ys H',H1 D=none->Same H1 H'->H' D=some (.lst ys)->ys.length=(sel.filterMap id).length->(∀ (j:Nat) (y:V) (a:α),ys[j]?=some y->(sel.filterMap id)[j]?=some a->P a H' y)->Q (.ref D) H'):Zpu J σ0 g tt te Q H1:=by
 intro D hD
 have keep:∀ {H:Hp} {o:HO},Same H1 H->Same H1 (upd H D o):=fun {H o} e b u q=>by
  rw [Zak (Zap q hD)]
  exact e b u q
 have fl:∀ i,((sel.take i).filterMap id).length≤sel.length:=fun i=>Nat.le_trans (List.length_filterMap_le _ _) (by rw [List.length_take]; omega)
 refine ⟨fun i m σ ys H=>i≤sel.length∧m=sel.length-i∧σP σ∧ys.length=((sel.take i).filterMap id).length∧(∀ (j:Nat) (y:V) (a:α),ys[j]?=some y->((sel.take i).filterMap id)[j]?=some a->P a H y)∧H D=some (.lst ys)∧Same H1 H,⟨_,Nat.zero_le _,rfl,h0,rfl,fun j y a e=>by simp at e,Zab,keep (Same.refl H1)⟩,?_⟩
 rintro i m σ ys H ⟨hi,rfl,p,hy,hP,hd,sm⟩
 refine ⟨hd,?_⟩
 by_cases lt:i<sel.length
 ·have e:sel[i]?=some sel[i]:=by simp [lt]
  have tk:(sel.take (i+1)).filterMap id=(sel.take i).filterMap id++(match sel[i] with | none=>[] | some a=>[a]):=by
   rw [List.take_succ_eq_append_getElem lt,List.filterMap_append]
   cases sel[i] <;> rfl
  refine .inr ⟨go i H lt sm,fun σ2 ys2 H3=>σP σ2∧ys2.length=((sel.take (i+1)).filterMap id).length∧(∀ (j:Nat) (y:V) (a:α),ys2[j]?=some y->((sel.take (i+1)).filterMap id)[j]?=some a->P a H3 y)∧H3 D=some (.lst ys2)∧Same H1 H3,fun σ2 ys2 H3 ⟨a,b,c,d,e⟩=>⟨_,by omega,lt,rfl,a,b,c,d,e⟩,fun x H3 y=>?_⟩
  refine step i σ H x H3 sel[i] e p sm y (fun o σ2 H6=>match o with
   | some y'=>H6 D=some (.lst ys)∧ys.length<sizeLine∧σP σ2∧(ys++[y']).length=((sel.take (i+1)).filterMap id).length∧(∀ (j:Nat) (z:V) (a:α),(ys++[y'])[j]?=some z->((sel.take (i+1)).filterMap id)[j]?=some a->P a (upd H6 D (.lst (ys++[y']))) z)∧upd H6 D (.lst (ys++[y'])) D=some (.lst (ys++[y']))∧Same H1 (upd H6 D (.lst (ys++[y'])))
   | none=>σP σ2∧ys.length=((sel.take (i+1)).filterMap id).length∧(∀ (j:Nat) (z:V) (a:α),ys[j]?=some z->((sel.take (i+1)).filterMap id)[j]?=some a->P a H6 z)∧H6 D=some (.lst ys)∧Same H1 H6) (fun on σ2 H6 p2 s6=>?_) (fun a oa y' σ2 H6 p2 s6 hp6=>?_)
  ·have tn:(sel.take (i+1)).filterMap id=(sel.take i).filterMap id:=by rw [tk,on]; exact List.append_nil _
   refine ⟨p2,by rw [tn]; exact hy,fun j z a e1 e2=>?_,s6 _ _ hd,sm.trans s6⟩
   rw [tn] at e2
   exact mono a H H6 z D ys (hP j z a e1 e2) hd fun b u _ q=>s6 b u q
  ·have ts:(sel.take (i+1)).filterMap id=(sel.take i).filterMap id++[a]:=by rw [tk,oa]
   have hd6:=s6 _ _ hd
   have bt:Zs0 D H6 (upd H6 D (.lst (ys++[y']))):=fun b u nb e=>by rw [Zak nb]; exact e
   have fi:=fl i
   refine ⟨hd6,by omega,p2,by rw [ts,List.length_append,List.length_append,hy]; rfl,fun j z b e1 e2=>?_,Zab,keep (sm.trans s6)⟩
   rw [ts] at e2
   by_cases jl:j<ys.length
   ·rw [List.getElem?_append_left jl] at e1
    rw [List.getElem?_append_left (by omega)] at e2
    exact mono b H _ z D _ (hP j z b e1 e2) hd (fun b u nb e=>bt b u nb (s6 b u e))
   ·have j0:j=ys.length:=by
     have:=(List.getElem?_eq_some_iff.mp e1).1
     simp at this
     omega
    subst j0
    rw [List.getElem?_append_right (Nat.le_refl _),Nat.sub_self] at e1
    rw [List.getElem?_append_right (by omega),hy,Nat.sub_self] at e2
    cases (show y'=z by simpa using e1)
    cases (show a=b by simpa using e2)
    exact mono a H6 _ _ D _ hp6 hd6 bt
 ·have e:i=sel.length:=by omega
  subst e
  rw [List.take_length] at hy hP
  exact .inl ⟨stop H sm,fin D ys H hD sm hd hy hP⟩
end L2
namespace L2
open PySem PySem.Spec PyProof.Rows PySem.W
noncomputable def Zcq (K:W.Frag) (f:Addr):FuncData:=match K.lookup f with
 | some ⟨_,_,.func fd,_⟩=>fd
 | _=>default
structure DefIn (K:W.Frag) (x q:Str) (st:Stmt) (f:Addr):Prop where
 ex:∃ (oc:Value) (od:Option Addr) (kV doc pm:Value) (an:Option Addr) (cdv ct:Value) (osl:Array (Option Value)),
  K.lookup f=some ⟨oc,od,.func (fnOf x q (ZbX st) (ZbG st) (Zal st) .none kV doc pm an cdv ct),osl⟩∧codeIn K cdv q=true
 kp:keepIn K (.ref f)=true
theorem DefIn.fn {K:W.Frag} {x q:Str} {st:Stmt} {f:Addr} (h:DefIn K x q st f):Fun K x q st f (Zcq K f):=by
 obtain ⟨oc,od,kV,doc,pm,an,cdv,ct,osl,lk,hc⟩:=h.ex
 have e:Zcq K f=fnOf x q (ZbX st) (ZbG st) (Zal st) .none kV doc pm an cdv ct:=by unfold Zcq; rw [lk]
 rw [e]
 exact ZrF lk hc h.kp
def Zn9 (x q:Str) (st:Stmt) (ps:List Str):Prop:=∀ (kV doc pm:Value) (an:Option Addr) (cdv ct:Value) (us:List Value),us.length=ps.length->bindArgs (fnOf x q (ZbX st) (ZbG st) (Zal st) .none kV doc pm an cdv ct) ⟨us,[]⟩=pure (ps.zip us)
structure Df (K:W.Frag) (mg:Str->Option Value) (x:Str) (st:Stmt) (ps:List Str) where
 a:Addr
 F:Fun K x x st a (Zcq K a)
 b:Binds K (Zcq K a) ps []
 m:mg x=some (.ref a)
structure Dm (K:W.Frag) (C:Addr) (x q:Str) (st:Stmt) (ps:List Str) where
 a:Addr
 F:Fun K x q st a (Zcq K a)
 b:Binds K (Zcq K a) ps []
 me:Meth K C x a
noncomputable def Df.of {K:W.Frag} {mg:Str->Option Value} {h:Heap} {x:Str} {st:Stmt} {ps:List Str} {f:Addr} (X:K.In h) (G:h.Ns mainGlobals mg) (a:nsIn K mainGlobals x=some (some (.ref f))) (l:DefIn K x x st f) (hb:Zn9 x x st ps):Df K mg x st ps:=⟨f,l.fn,l.fn.binds hb,mg_of X G a⟩
noncomputable def Dm.of {K:W.Frag} {C:Addr} {x q:Str} {st:Stmt} {ps:List Str} {f:Addr} (a:findIn K (.ref C) x=some (some (.ref f))) (i:isFn K (.ref f)=true) (l:DefIn K x q st f) (hb:Zn9 x q st ps):Dm K C x q st ps:=⟨f,l.fn,l.fn.binds hb,⟨a,i,l.kp⟩⟩
theorem un1 {P:List Value->Prop} (h:∀ a,P [a]):∀ us,us.length=1->P us
 | [_],_=>h _
theorem un2 {P:List Value->Prop} (h:∀ a b,P [a,b]):∀ us,us.length=2->P us
 | [_,_],_=>h _ _
theorem un3 {P:List Value->Prop} (h:∀ a b c,P [a,b,c]):∀ us,us.length=3->P us
 | [_,_,_],_=>h _ _ _
theorem un4 {P:List Value->Prop} (h:∀ a b c d,P [a,b,c,d]):∀ us,us.length=4->P us
 | [_,_,_,_],_=>h _ _ _ _
end L2
namespace TextG
open PySem
end TextG
namespace L2
open PySem PySem.Spec PyProof.Rows PySem.W
section
variable {X:Cx}
end
section
variable {X:Cx} {CX:CXT} {k1 k2 k3:Nat} {f1 C1 f2 C2 f3 C3:Addr} {fd1 fd2 fd3:FuncData} {ps1 ps2 ps3:List Str} {sp1 sp2 sp3:Sp} {E:XS} {m:Str} {pos apos:Pos} {o:Expr} {ta:TE}
end
end L2
namespace L2
open PySem PySem.Spec PyProof.Rows
section
variable {prog:Program} {w:World} {A:Around} {R:Result->Shared->Prop} {s:Shared}
end
section
variable {X:Cx} {pins:List (Addr × Obj)} {σ:St} {H:Hp} {s:Shared} {N:List Str} {sc:Scope} {cl:List (Str × Addr)} {σc:St->St} {fp:List Addr}
end
section
variable {X:Cx} {elt tg iter:Expr} {ifs:List Expr} {sc:Scope} {pos:Pos} {N:List Str} {cl:List (Str × Addr)} {σc:St->St} {wi:TI} {g:TG} {tt:TT} {te:TE}
end
section
variable {M:Model} {A:Around} {E:Value->Shared->Prop} {s:Shared}
end
section
variable {X:Cx} {pins:List (Addr × Obj)} {σ:St} {H H':Hp} {s s':Shared} {e:Addr} {cls:Value}
end
section
variable {P:Program} {w:World} {K:W.Frag} {mg:Str->Option Value} {base:Heap} {N:List Str} {qual:Str} {scope:Scope} {f:Addr} {cd:Value} {A:Around} {outer:List Env} {s:Shared} {H:Hp} {E:XK}
end
section
variable {X:Cx}
end
section
variable {prog:Program} {w:World} {A:Around} {E:Value->Shared->Prop} {s:Shared}
end
section
variable {prog:Program} {w:World} {κ:Type} [DecidableEq κ] {knd:KeyKind prog w κ} {A:Around} {s:Shared}
end
section
variable {X:Cx}
end
noncomputable def b01 (b:Bool):Int:=if b then 1 else 0
noncomputable def Zr6:Key->Value->Bool
 | .inl i,.bool b=>i == b01 b
 | k,v=>Zh9 k v
theorem ZbD {k:Key} {v:Value} (h:Zr6 k v=true):(∃ i t,k=Sum.inl i∧v=Value.int i t)∨(∃ x t,k=Sum.inr x∧v=Value.str x t)∨∃ b,k=Sum.inl (b01 b)∧v=Value.bool b:=by
 have go:Zh9 k v=true->(∃ i t,k=Sum.inl i∧v=Value.int i t)∨(∃ x t,k=Sum.inr x∧v=Value.str x t)∨∃ b,k=Sum.inl (b01 b)∧v=Value.bool b:=fun z=>(ZaY z).imp id .inl
 cases k with
 | inl i =>
  cases v with
  | bool b=>exact .inr (.inr ⟨b,by rw [show i=b01 b from by simpa [Zr6] using h],rfl⟩)
  | _=>exact go h
 | inr x=>exact go (by cases v <;> exact h)
theorem ZqO {a b:Bool}:(b01 a == b01 b)=(a == b):=by cases a <;> cases b <;> rfl
section
variable {prog:Program} {w:World} {A:Around} {E:Value->Shared->Prop} {s:Shared}
theorem ZkR {b:Bool} {Q:Int->Shared->Prop} (h:Q (hashInt (b01 b)) { s with toks:=s.toks+1 }):wpAny (model prog w) A (pyHash (.bool b)) Q E s:=by
 have hr:=rawHash_range (b01 b)
 have ty:s.TypeIs (.bool b) "bool":=rfl
 unfold pyHash
 have hv:[Value.bool b].any Value.onHeap=false:=rfl
 refine wpAny_bind ?_
 rw [cRoomFor,if_neg (by rw [hv]; exact Bool.false_ne_true)]; refine wpAny_pure ?_
 refine wpAny_bind (wpAny_specialOf ty PySem.F.slot_bool_hash.lookup ?_)
 show wpAny _ _ (if (some (Value.builtin "int.__hash__") == some Value.none)=true then _ else _) Q E s
 rw [if_neg (by rw [beq_builtin_none]; exact Bool.false_ne_true)]
 refine wpAny_bind (wpAny_specialOf ty PySem.F.slot_bool_hash.lookup ?_)
 show wpAny _ _ (callSpecialIfBoundUnlessNone? (.bool b) "__hash__" _ >>= _) Q E s
 refine wpAny_bind (wpAny_callSpecialIfBoundUnlessNone?_slot ty PySem.F.slot_bool_hash
  (wpAny_call_entry PySem.F.slot_bool_hash ty entry_int_hash
   (show wpAny _ _ (do ret (← mkInt (rawHash (b01 b)))) _ _ s from wpAny_ret_mkInt ?_) (args_int_hash _)))
 show wpAny _ _ (if (decide (-(2:Int) ^ 63≤rawHash (b01 b))&&decide (rawHash (b01 b)<2 ^ 63))=true then _ else _) Q E _
 rw [if_pos (by rw [decide_eq_true hr.1,decide_eq_true hr.2]; rfl)]
 exact wpAny_pure h
end
noncomputable def Zr5 (prog:Program) (w:World):PySem.KeyKind prog w Key where
 is:=Zr6
 hash:=ZsZ w
 inj:=fun v a b ha hb=>by
  rcases ZbD ha with ⟨i,t,rfl,rfl⟩ | ⟨x,t,rfl,rfl⟩ | ⟨c,rfl,rfl⟩
  ·rcases ZbD hb with ⟨j,u,rfl,e⟩ | ⟨y,u,rfl,e⟩ | ⟨d,rfl,e⟩
   ·injection e with e1 _; rw [e1]
   ·exact nomatch e
   ·exact nomatch e
  ·rcases ZbD hb with ⟨j,u,rfl,e⟩ | ⟨y,u,rfl,e⟩ | ⟨d,rfl,e⟩
   ·exact nomatch e
   ·injection e with e1 _; rw [e1]
   ·exact nomatch e
  ·rcases ZbD hb with ⟨j,u,rfl,e⟩ | ⟨y,u,rfl,e⟩ | ⟨d,rfl,e⟩
   ·exact nomatch e
   ·exact nomatch e
   ·injection e with e1; rw [e1]
 byValue:=fun k v h=>by
  rcases ZbD h with ⟨i,t,rfl,rfl⟩ | ⟨x,t,rfl,rfl⟩ | ⟨c,rfl,rfl⟩ <;> rfl
 pyHash:=fun hv h=>by
  rcases ZbD hv with ⟨i,t,rfl,rfl⟩ | ⟨x,t,rfl,rfl⟩ | ⟨c,rfl,rfl⟩
  ·exact wpAny_pyHash_int h
  ·exact wpAny_pyHash_str h
  ·exact ZkR h
 eqBool:=fun hu hv h=>by
  rcases ZbD hu with ⟨i,t,rfl,rfl⟩ | ⟨x,t,rfl,rfl⟩ | ⟨c,rfl,rfl⟩
  ·rcases ZbD hv with ⟨j,u,rfl,rfl⟩ | ⟨y,u,rfl,rfl⟩ | ⟨d,rfl,rfl⟩
   ·rw [Zj8] at h; exact wpAny_eqBool_int h
   ·rw [ZmY] at h; exact SeqAt.EqAt.int_str i t y u _ _ _ _ h
   ·rw [Zj8] at h; exact SeqAt.EqAt.int_bool i t d _ _ _ _ h
  ·rcases ZbD hv with ⟨j,u,rfl,rfl⟩ | ⟨y,u,rfl,rfl⟩ | ⟨d,rfl,rfl⟩
   ·rw [Zoh] at h; exact SeqAt.EqAt.str_int x t j u _ _ _ _ h
   ·rw [ZpI] at h; exact wpAny_eqBool_str h
   ·rw [Zoh] at h; exact SeqAt.EqAt.str_bool x t d _ _ _ _ h
  ·rcases ZbD hv with ⟨j,u,rfl,rfl⟩ | ⟨y,u,rfl,rfl⟩ | ⟨d,rfl,rfl⟩
   ·rw [Zj8] at h; exact SeqAt.EqAt.bool_int c j u _ _ _ _ h
   ·rw [ZmY] at h; exact SeqAt.EqAt.bool_str c y u _ _ _ _ h
   ·rw [Zj8,ZqO] at h; exact SeqAt.EqAt.bool_bool c d _ _ _ _ h
 «strs»:=fun k x t v h=>by
  rcases ZbD h with ⟨i,u,rfl,e⟩ | ⟨y,u,rfl,e⟩ | ⟨d,rfl,e⟩
  ·exact nomatch e
  ·injection e with e1 _
   subst e1
   cases v <;> rfl
  ·exact nomatch e
def KyV (k:Key) (v:V):Prop:=v=kV k∨∃ b,v=.bl b∧k=.inl (b01 b)
abbrev ZqQ:List Key->List V->Prop:=Paired KyV
theorem ZiJ {P:Program} {w:World}:∀ {ks:List Key} {ys:List V} {us:List Value},ZqQ ks ys->Vals ys us->ItemsAre (Zr5 P w) ks us
 | _,_,_,.nil,.nil=>.nil
 | _,_,_,.cons h t,.cons r rs=>by
  refine .cons ?_ (ZiJ t rs)
  rcases h with rfl | ⟨b,rfl,rfl⟩
  ·have z:(Zbd P w).is _ _=true:=Zls r
   show Zr6 _ _=true
   rcases ZaY z with ⟨i,t,rfl,rfl⟩ | ⟨x,t,rfl,rfl⟩ <;> exact z
  ·cases (show _=Value.bool b from r)
   show (b01 b == b01 b)=true
   simp
theorem ZlA {P:Program} {w:World} {H:Hp} {h:Heap} {a:Addr} {ks:List Key} {ys:List V} (ok:HOk P w H h) (e:H a=some (.tup ys)) (k:ZqQ ks ys):(tupleKind (Zr5 P w)).is h ks a:=by
 obtain ⟨_,its,r,o,h1,h2,n,h3⟩:=(show ObjOk P w H h a (.tup ys) from ok a _ e)
 exact ⟨o,its.toArray,n,h1,h2,h3,by simpa using ZiJ k r⟩
def Zc9 (P:Program) (w:World) (a:Addr) (xs:List (List Key × Addr × Value)) (h:Heap):Prop:=xs.length≤sizeLine∧(a == sysModules)=false ∧
 ∃ o es ep,h.get? a=some o∧o.ExactDict∧o.data=.dict es ep∧es.toList=xs.map (entryOfKey (tupleKind (Zr5 P w)))∧(xs.map (·.1)).Nodup
def KeysB (H:Hp) (xs:List (List Key × Addr × Value)):Prop:=∀ x∈xs,∃ ys,H x.2.1=some (.tup ys)∧ZqQ x.1 ys
theorem ZlY {X : Cx} {pins : List (Addr × Obj)} {σ : St} {H : Hp} {s : Shared} {a : Addr} {xs : List (List Key × Addr × Value)} (I : Inv X pins σ H s) (e : H a=some (.ext (Zc9 X.prog X.w a xs))) (k : KeysB H xs) :
  xs.length≤sizeLine∧(a == sysModules)=false∧s.heap.DictOfH (tupleKind (Zr5 X.prog X.w)) a xs:=by
 obtain ⟨⟨z,y,o,es,ep,h1,h2,h3,h4,h5⟩,_⟩:=(show ObjOk X.prog X.w H s.heap a (.ext (Zc9 X.prog X.w a xs)) from I.hok a _ e)
 refine ⟨z,y,o,es,ep,h1,h2,h3,h4,fun x hx=>?_,h5⟩
 obtain ⟨ys,e1,e2⟩:=k x hx
 exact ZlA I.hok e1 e2
theorem Zkg {P:Program} {w:World} {a:Addr} {xs:List (List Key × Addr × Value)} {H:Hp} {h:Heap} (d:Zc9 P w a xs h):ObjOk P w H h a (.ext (Zc9 P w a xs)):=by
 refine ⟨d,?_,fun h1 h2 φ k=>?_⟩
 ·obtain ⟨_,_,o,_,_,e,_⟩:=d
  exact ⟨o,e⟩
 ·obtain ⟨z,y,o,es,ep,e,r⟩:=φ
  exact ⟨z,y,o,es,ep,k o e,r⟩
noncomputable def ZqL (xs:List (List Key × Addr × Value)) (k:List Key):Bool:=xs.any fun x=>decide (x.1=k)
theorem ZnS (xs:List (List Key × Addr × Value)) (k:List Key):(atKey xs k).isSome=ZqL xs k:=by
 induction xs with
 | nil=>rfl
 | cons p xs ih =>
  unfold ZqL at ih ⊢
  rw [List.any_cons]
  by_cases c:p.1=k
  ·have b:atKey (p :: xs) k=some p.2:=by simp [atKey,List.find?_cons,c]
   rw [b,decide_eq_true c]; rfl
  ·have b:atKey (p :: xs) k=atKey xs k:=by simp [atKey,List.find?_cons,c]
   rw [b,ih,decide_eq_false c]; rfl
section
variable {X:Cx} {pos:Pos}
theorem Zpv (P:Program) (w:World) (hP:X.prog=P:=by rfl) (hw:X.w=w:=by rfl):PE X (.Dict [] [] pos) (fun _ H Q=>∀ p,H p=none->Q (.ref p) (upd H p (.ext (Zc9 P w p [])))):=by
 subst hP hw
 intro pins s σ H Q I h
 refine wpAny_Dict_empty ⟨.ref s.heap.objs.size,_,I.laid (a:=s.heap.objs.size) (o:=.ext (Zc9 X.prog X.w s.heap.objs.size [])) (t':=s.toks) (fun _ _ q=>Heap.get?_push_of_some _ q) (Nat.le_refl _) (Zkg ?_),rfl,h _ (I.hok.fresh (Nat.le_refl _))⟩
 obtain ⟨z,y,xs,r,o,es,ep,h1,h2,h3,h4,h5⟩:=Zl9 (P:=X.prog) (w:=X.w) (H:=H) s.heap I.big
 exact ⟨Nat.zero_le _,y,_,#[],0,Heap.get?_push_size _ rfl,⟨rfl,rfl,rfl⟩,rfl,rfl,.nil⟩
variable {i o value:Expr} {ty td tv:TE} {pos':Pos}
theorem Znq (P : Program) (w : World) (hu : X.A.units + 1<cLine) (hi : PE X i ty) (ho : PE X o td) (hP : X.prog=P := by rfl) (hw : X.w=w := by rfl) :
  PC X .NotIn i o (fun σ H Q=>ty σ H fun y H1=>td σ H1 fun x H2=>∃ (a b:Addr) (xs:List (List Key × Addr × Value)) (k:List Key) (ys:List V),x=.ref a∧y=.ref b∧H2 a=some (.ext (Zc9 P w a xs))∧KeysB H2 xs∧H2 b=some (.tup ys)∧ZqQ k ys∧Q (.bl (!ZqL xs k)) H2):=by
 subst hP hw
 intro pins s σ H Q I h
 refine thn (hi pins s σ H _ I h) fun iv s1 ⟨y,H1,I1,ry,q1⟩=>thn (ho pins s1 σ H1 _ I1 q1) fun u s2 ⟨x,H2,I2,rx,a,b,xs,k,ys,ex,ey,ea,kx,eb,kk,q2⟩=>?_
 subst ex ey
 obtain rfl:u=Value.ref a:=rx
 cases (show iv=Value.ref b from ry)
 obtain ⟨z,hd,dd⟩:=ZlY I2 ea kx
 refine wpAny_notIn_heap (tupleKind_room_in1 hu) (ZlA I2.hok eb kk) hd dd ⟨_,H2,I2.tok _,?_,q2⟩
 have e:=ZnS xs k
 show _=Value.bool _
 rw [e]
theorem Zqj (P : Program) (w : World) (hu : X.A.units + 1<cLine) (ho : PE X o td) (hi : PE X i ty) (hv : PE X value tv) (hs : swapsWith value (some (.Subscript o i pos')) pos.line X.env=pure false) (hP : X.prog=P := by rfl) (hw : X.w=w := by rfl) :
  PS X (.Assign [.Subscript o i pos'] value pos) (fun D σ H=>tv σ H fun v H1=>td σ H1 fun x H2=>ty σ H2 fun y H3=>∃ (a b:Addr) (xs:List (List Key × Addr × Value)) (k:List Key) (ys:List V),x=.ref a∧y=.ref b∧H3 a=some (.ext (Zc9 P w a xs))∧KeysB H3 xs∧H3 b=some (.tup ys)∧ZqQ k ys∧xs.length<sizeLine∧ZqL xs k=false∧∀ u,D.nx σ (upd H3 a (.ext (Zc9 P w a (xs++[(k,b,u)]))))):=by
 subst hP hw
 intro pins s σ H D I h
 refine wpAny_Assign_Subscript (thn (hv pins s σ H _ I h) fun r s1 ⟨v,H1,I1,rv,q1⟩=>thn (ho pins s1 σ H1 _ I1 q1) fun u s2 ⟨x,H2,I2,rx,q2⟩=>thn (hi pins s2 σ H2 _ I2 q2) fun iv s3 ⟨y,H3,I3,ry,a,b,xs,k,ys,ex,ey,ea,kx,eb,kk,hz,hn,q3⟩=>?_) hs
 subst ex ey
 obtain rfl:u=Value.ref a:=rx
 cases (show iv=Value.ref b from ry)
 obtain ⟨z,hd,dd⟩:=ZlY I3 ea kx
 refine wpAny_setItem_heap (hsz:=z) (tupleKind_room_in1 hu) (ZlA I3.hok eb kk) dd fun h' dd' hs=>⟨σ,_,?_,q3 r⟩
 have at0:atKey xs k=none:=by
  have e:=ZnS xs k
  rw [hn] at e
  cases ha:atKey xs k with
  | none=>rfl
  | some p=>rw [ha] at e; cases e
 rw [storedH_new at0] at dd'
 obtain ⟨q,es,ep,hq,h2,h3,h4,_,h5⟩:=dd'
 exact Zjd I3 (by rw [ea]; exact True.intro) hs ⟨q,hq⟩ (Zkg ⟨by rw [List.length_append]; exact hz,hd,q,es,ep,hq,h2,h3,h4,h5⟩)
end
noncomputable def Zr4 {α:Type} (us ws:List α):List α:=match us,ws with
 | [a,b],[c]=>[a,b,c]
 | _,_=>[]
theorem FunD.bindsK {K : W.Frag} {x qual : Str} {st : Stmt} {f T : Addr} {fd : FuncData} {p1 p2 p3 : Str} {o : Obj} {n : Nat} (F : FunD K x qual st f fd (.ref T)) (ho : K.lookup T=some o) (hs : o.data=.seq #[.none] n)
  (h:∀ (kV doc pm:Value) (an:Option Addr) (cdv ct:Value) (a b c:Value),∃ k:Option (Array Value)->Sem (List (Str × Value)),
   bindArgs (W.fnOf x qual (ZbX st) (ZbG st) (Zal st) (.ref T) kV doc pm an cdv ct) ⟨[a,b],[(p3,c)]⟩=seqItems? (.ref T) >>= k∧k (some #[.none])=pure [(p1,a),(p2,b),(p3,c)]):KBinds K fd [p1,p2,p3] [p3] Zr4 Zr4:=by
 obtain ⟨oc,od,kV,doc,pm,an,cdv,ct,osl,rfl,lk,hcd⟩:=F.ex
 refine ⟨fun s us ws hin hl=>?_,fun {vs us zs ws} r rz=>?_⟩
 ·match us,ws,hl with
  | [a,b],[c],_ =>
   obtain ⟨k,h1,h2⟩:=h kV doc pm an cdv ct a b c
   exact W.binds_K hin rfl ho hs h1 h2
 ·cases r with
  | nil=>exact .nil
  | cons r1 r=>cases r with
   | nil=>cases rz <;> exact .nil
   | cons r2 r=>cases r with
    | nil=>cases rz with
     | nil=>exact .nil
     | cons z1 rz=>cases rz with
      | nil=>exact .cons r1 (.cons r2 (.cons z1 .nil))
      | cons _ _=>exact .nil
    | cons _ _=>cases rz <;> exact .nil
end L2
set_option exponentiation.threshold 3000
seal L2.PSs L2.PS L2.PE L2.PT L2.PW L2.PA L2.PG L2.PI L2.PO
namespace K62
open PySem L2
noncomputable def top (i:Nat):Stmt:=PySem.Challenge.pw_heirbook_k62_the_living.main.body.getD i (.Pass ⟨0,0,0,0⟩)
noncomputable abbrev Zf2:Stmt:=top 11
noncomputable abbrev ZhP:Stmt:=top 18
noncomputable abbrev Zi3:Stmt:=top 19
noncomputable abbrev ZeU:Stmt:=top 20
noncomputable abbrev Zg6:Stmt:=top 21
noncomputable abbrev Ze3:Stmt:=top 22
noncomputable abbrev ZfY:Stmt:=top 24
noncomputable abbrev Zf3:Stmt:=top 25
noncomputable abbrev Zjn:Stmt:=top 26
noncomputable abbrev Zgh:Stmt:=top 27
noncomputable abbrev Zjr:Stmt:=top 28
noncomputable abbrev Zh1:Stmt:=top 29
noncomputable abbrev ZiX:Stmt:=top 30
noncomputable abbrev ZeZ:Stmt:=top 33
noncomputable abbrev Zg5:Stmt:=top 37
noncomputable abbrev Zc1:Stmt:=Zb5 (top 38) 0
noncomputable abbrev Zc3:Stmt:=Zb5 (top 38) 8
noncomputable abbrev Zdu:Stmt:=Zb5 (top 38) 11
noncomputable abbrev Zdq:Stmt:=Zb5 (top 38) 12
noncomputable abbrev Zct:Stmt:=Zb5 (top 38) 4
noncomputable abbrev Zff:Stmt:=Zb5 (top 38) 3
noncomputable abbrev Zd1:Stmt:=Zb5 (top 38) 2
noncomputable abbrev ZeY:Stmt:=Zb5 (top 38) 7
noncomputable abbrev ZcD:Stmt:=Zb5 (top 38) 5
noncomputable abbrev Zfe:Stmt:=Zb5 (top 38) 16
noncomputable abbrev Za0:Stmt:=Zb5 (top 38) 14
noncomputable abbrev Zc0:Stmt:=Zb5 (top 38) 6
noncomputable abbrev Zgf:Stmt:=Zb5 (top 38) 1
noncomputable abbrev ZdR:Stmt:=Zb5 (top 38) 10
noncomputable abbrev Zds:Stmt:=Zb5 (top 38) 13
noncomputable abbrev Zel:Stmt:=Zb5 (top 38) 17
noncomputable abbrev Zc4:Stmt:=top 13
noncomputable abbrev Zgb:Stmt:=top 14
noncomputable abbrev Za7:Stmt:=top 15
noncomputable abbrev Zeo:Stmt:=top 40
noncomputable abbrev Zer:Stmt:=top 41
noncomputable abbrev Zfa:Stmt:=top 42
noncomputable abbrev ZdK:Stmt:=top 43
noncomputable abbrev ZdW:Stmt:=top 44
noncomputable abbrev Zfh:Stmt:=top 45
noncomputable abbrev Zgr:Stmt:=top 46
noncomputable abbrev Ze8:Stmt:=top 47
noncomputable abbrev Zfk:Stmt:=top 48
noncomputable abbrev Zey:Stmt:=top 49
noncomputable abbrev ZcM:Stmt:=top 50
noncomputable abbrev Zdt:Stmt:=top 51
noncomputable abbrev Zf6:Stmt:=top 52
noncomputable abbrev ZdN:Stmt:=top 53
noncomputable abbrev Zdr:Stmt:=top 54
noncomputable abbrev Zp9:Stmt:=top 55
set_option genInjectivity false
set_option genSizeOf false
structure Tx (K:W.Frag) (w:World) (mg:Str->Option Value) where
 c_Book:Addr
 ZbR:Df K mg "is_whole" Zf2 ["thing"]
 ZaR:Df K mg "is_name" ZhP ["thing"]
 ZbI:Df K mg "is_day" Zi3 ["thing"]
 Zbt:Df K mg "is_amount" ZeU ["thing"]
 Zb8:Df K mg "is_sort" Zg6 ["thing"]
 Zbn:Df K mg "is_parent" Ze3 ["thing"]
 Zcy:Df K mg "has_form" ZfY ["parts","checks"]
 Zcz:Df K mg "is_entry" Zf3 ["thing"]
 ZcH:Df K mg "is_tie" Zjn ["entry"]
 ZbP:Df K mg "named_in" Zgh ["entry"]
 ZcI:Df K mg "day_of" Zjr ["entry"]
 Zca:Df K mg "as_told" Zh1 ["entry"]
 ZcE:Df K mg "key_of" ZiX ["entry"]
 Zcl:Df K mg "is_letter" ZeZ ["thing"]
 Zb7:Df K mg "pair_of" Zg5 ["one","other"]
 Zbo:Dm K c_Book "__init__" "Book.__init__" Zc1 ["self"]
 Zav:Dm K c_Book "birth_of" "Book.birth_of" Zc3 ["self","name"]
 ZbS:Dm K c_Book "sort_of" "Book.sort_of" Zdu ["self","name"]
 ZaO:Dm K c_Book "born_on" "Book.born_on" Zdq ["self","name"]
 ZaS:Dm K c_Book "parent_fits" "Book.parent_fits" Zct ["self","name","sort","day"]
 ZcC:Dm K c_Book "fits" "Book.fits" Zff ["self","entry"]
 Zb0:Dm K c_Book "refuse" "Book.refuse" Zd1 ["self","entry"]
 ZaK:Dm K c_Book "link" "Book.link" ZeY ["self","letter","begin","end"]
 Zbj:Dm K c_Book "note_birth" "Book.note_birth" ZcD ["self","entry"]
 Zcx:Dm K c_Book "step" "Book.step" Zfe ["self","letter","name"]
 a_Book_stands:Addr
 fd_Book_stands:FuncData
 dt_Book_stands:Addr
 F_Book_stands:FunD K "stands" "Book.stands" Za0 a_Book_stands fd_Book_stands (.ref dt_Book_stands)
 b_Book_stands:Binds K fd_Book_stands ["self","one","other","day"] [.none]
 ZbC:Dm K c_Book "note_tie" "Book.note_tie" Zc0 ["self","entry"]
 ZbQ:Dm K c_Book "put" "Book.put" Zgf ["self","entry"]
 Zb3:Dm K c_Book "people" "Book.people" ZdR ["self"]
 Zbi:Dm K c_Book "dead_on" "Book.dead_on" Zds ["self","name"]
 Zcn:Dm K c_Book "until" "Book.until" Zel ["self","day"]
 Zbm:Df K mg "book_of_death" Zc4 ["book","name"]
 Zcw:Df K mg "lives_in" Zgb ["day_book","name","living"]
 a_living_at:Addr
 fd_living_at:FuncData
 dt_living_at:Addr
 F_living_at:FunD K "living_at" "living_at" Za7 a_living_at fd_living_at (.ref dt_living_at)
 b_living_at:Binds K fd_living_at ["book","name","living"] [.none]
 b3_living_at:Binds K fd_living_at ["book","name","living"] []
 kb_living_at:KBinds K fd_living_at ["book","name","living"] ["living"] Zr4 Zr4
 m_living_at:mg "living_at"=some (.ref a_living_at)
 ZaT:Df K mg "_law_mixed" Zeo ["_law_script","_law_k"]
 ZbW:Df K mg "_law_names" Zer ["_law_cell"]
 Zbu:Df K mg "_law_pick" Zfa ["_law_some","_law_digit"]
 ZbF:Df K mg "_law_births" ZdK ["_law_cells","_law_names_here"]
 ZbH:Df K mg "_law_deaths" ZdW ["_law_cells","_law_births_here"]
 Zch:Df K mg "_law_ties" Zfh ["_law_cells","_law_births_here"]
 ZbN:Df K mg "_law_day" Zgr ["_law_row"]
 Zci:Df K mg "_law_book" Ze8 ["_law_rows_here"]
 Zcm:Df K mg "_law_rows" Zfk ["_law_script","_law_at","_law_most","_law_names_here"]
 ZbY:Df K mg "_law_until" Zey ["_law_rows_here","_law_day_here"]
 ZaA:Df K mg "_law_deaths_of" ZcM ["_law_rows_here"]
 ZaJ:Df K mg "_law_is_list" Zdt ["_law_found","_law_due_here"]
 Zbk:Df K mg "_law_due" Zf6 ["_law_rows_here","_law_dead","_law_day_here","_law_handed_here"]
 ZbK:Df K mg "_law_handed" ZdN ["_law_rows_here","_law_bits","_law_dead","_law_strange"]
 ZaU:Df K mg "_law_refused" Zdr ["_law_book_here","_law_one"]
 ZlE:Df K mg "law" Zp9 ["_law_script"]
 c_HeirError:Addr
 m_HeirError:mg "HeirError"=some (.ref c_HeirError)
 c_NoEntry:Addr
 m_NoEntry:mg "NoEntry"=some (.ref c_NoEntry)
 c_Full:Addr
 m_Full:mg "Full"=some (.ref c_Full)
 c_NoPerson:Addr
 m_NoPerson:mg "NoPerson"=some (.ref c_NoPerson)
 c_Twice:Addr
 m_Twice:mg "Twice"=some (.ref c_Twice)
 c_NoFit:Addr
 m_NoFit:mg "NoFit"=some (.ref c_NoFit)
 c_NoWay:Addr
 m_NoWay:mg "NoWay"=some (.ref c_NoWay)
 c_Alive:Addr
 m_Alive:mg "Alive"=some (.ref c_Alive)
 x_HeirError:W.excIn K c_HeirError EBm "ValueError.__new__"=true
 e_HeirError:ExcK K c_HeirError
 x_NoEntry:W.excIn K c_NoEntry EBm "ValueError.__new__"=true
 e_NoEntry:ExcK K c_NoEntry
 x_Full:W.excIn K c_Full EBm "ValueError.__new__"=true
 e_Full:ExcK K c_Full
 x_NoPerson:W.excIn K c_NoPerson EBm "ValueError.__new__"=true
 e_NoPerson:ExcK K c_NoPerson
 x_Twice:W.excIn K c_Twice EBm "ValueError.__new__"=true
 e_Twice:ExcK K c_Twice
 x_NoFit:W.excIn K c_NoFit EBm "ValueError.__new__"=true
 e_NoFit:ExcK K c_NoFit
 x_NoWay:W.excIn K c_NoWay EBm "ValueError.__new__"=true
 e_NoWay:ExcK K c_NoWay
 x_Alive:W.excIn K c_Alive EBm "ValueError.__new__"=true
 e_Alive:ExcK K c_Alive
 m_Book:mg "Book"=some (.ref c_Book)
 cl_Book:Cls K c_Book
 mk_Book:Mk K c_Book Zbo.a
 na_Book_kept:NoAttr K c_Book "kept"
 na_Book_births:NoAttr K c_Book "births"
 na_Book_links:NoAttr K c_Book "links"
 na_Book_ties:NoAttr K c_Book "ties"
 na_Book_sums:NoAttr K c_Book "sums"
 me_Book_stands:Meth K c_Book "stands" a_Book_stands
 n_ValueError:mg "ValueError"=none
 n_abs:mg "abs"=none
 n_all:mg "all"=none
 n_bool:mg "bool"=none
 n_int:mg "int"=none
 n_isinstance:mg "isinstance"=none
 n_len:mg "len"=none
 n_list:mg "list"=none
 n_max:mg "max"=none
 n_min:mg "min"=none
 n_range:mg "range"=none
 n_reversed:mg "reversed"=none
 n_sorted:mg "sorted"=none
 n_str:mg "str"=none
 n_tuple:mg "tuple"=none
 n_zip:mg "zip"=none
 k_int_int:W.kitOne K (.type "int") (.type "int")=some true
 k_int_str:W.kitOne K (.type "int") (.type "str")=some false
 k_int_tuple:W.kitOne K (.type "int") (.type "tuple")=some false
 k_int_bool:W.kitOne K (.type "int") (.type "bool")=some false
 k_str_int:W.kitOne K (.type "str") (.type "int")=some false
 k_str_str:W.kitOne K (.type "str") (.type "str")=some true
 k_str_tuple:W.kitOne K (.type "str") (.type "tuple")=some false
 k_bool_int:W.kitOne K (.type "bool") (.type "int")=some true
 k_bool_str:W.kitOne K (.type "bool") (.type "str")=some false
 k_bool_tuple:W.kitOne K (.type "bool") (.type "tuple")=some false
 k_bool_bool:W.kitOne K (.type "bool") (.type "bool")=some true
 k_NoneType_int:W.kitOne K (.type "NoneType") (.type "int")=some false
 k_NoneType_str:W.kitOne K (.type "NoneType") (.type "str")=some false
 k_NoneType_tuple:W.kitOne K (.type "NoneType") (.type "tuple")=some false
 k_tuple_int:W.kitOne K (.type "tuple") (.type "int")=some false
 k_tuple_str:W.kitOne K (.type "tuple") (.type "str")=some false
 k_tuple_tuple:W.kitOne K (.type "tuple") (.type "tuple")=some true
 k_list_int:W.kitOne K (.type "list") (.type "int")=some false
 k_list_str:W.kitOne K (.type "list") (.type "str")=some false
 k_list_tuple:W.kitOne K (.type "list") (.type "tuple")=some false
 k_dict_int:W.kitOne K (.type "dict") (.type "int")=some false
 k_dict_str:W.kitOne K (.type "dict") (.type "str")=some false
 k_dict_tuple:W.kitOne K (.type "dict") (.type "tuple")=some false
 kl_list:W.kitOne K (.type "list") (.type "list")=some true
 kx_Alive_Alive:W.kitOne K (.ref c_Alive) (.ref c_Alive)=some true
 kx_Alive_NoPerson:W.kitOne K (.ref c_Alive) (.ref c_NoPerson)=some false
 kx_NoPerson_Alive:W.kitOne K (.ref c_NoPerson) (.ref c_Alive)=some false
 kx_NoPerson_NoPerson:W.kitOne K (.ref c_NoPerson) (.ref c_NoPerson)=some true
 kv_Alive:W.kitOne K (.ref c_Alive) (.type "ValueError")=some true
 kv_NoPerson:W.kitOne K (.ref c_NoPerson) (.type "ValueError")=some true
 mr_Alive:W.mroIn K c_Alive (.ref c_HeirError)=some true
 mr_NoPerson:W.mroIn K c_NoPerson (.ref c_HeirError)=some true
 aF:Addr
 m_FORMS:mg "FORMS"=some (.ref aF)
 tkL:Tok
 m_LETTERS:mg "LETTERS"=some (.str "abcdefghijklmnopqrstuvwxyz" tkL)
 p0:Addr
 p1:Addr
 p2:Addr
 p3:Addr
 p4:Addr
 p5:Addr
 g0:Addr
 g1:Addr
 g2:Addr
 g3:Addr
 g4:Addr
 g5:Addr
 sF:∀ H,SqT K H aF [.ref p0,.ref p1,.ref p2,.ref p3,.ref p4,.ref p5]
 sp0:∀ H,SqT K H p0 [.str "born",.ref g0]
 sp1:∀ H,SqT K H p1 [.str "taken",.ref g1]
 sp2:∀ H,SqT K H p2 [.str "union",.ref g2]
 sp3:∀ H,SqT K H p3 [.str "parted",.ref g3]
 sp4:∀ H,SqT K H p4 [.str "dead",.ref g4]
 sp5:∀ H,SqT K H p5 [.str "given",.ref g5]
 sg0:∀ H,SqT K H g0 [.ref ZaR.a,.ref Zb8.a,.ref ZbI.a,.ref Zbn.a,.ref Zbn.a]
 sg1:∀ H,SqT K H g1 [.ref ZaR.a,.ref ZaR.a,.ref ZbI.a]
 sg2:∀ H,SqT K H g2 [.ref ZaR.a,.ref ZaR.a,.ref ZbI.a]
 sg3:∀ H,SqT K H g3 [.ref ZaR.a,.ref ZaR.a,.ref ZbI.a]
 sg4:∀ H,SqT K H g4 [.ref ZaR.a,.ref ZbI.a]
 sg5:∀ H,SqT K H g5 [.ref ZaR.a,.ref ZaR.a,.ref Zbt.a,.ref ZbI.a]
 a_STEP_LETTERS:Addr
 m_STEP_LETTERS:mg "STEP_LETTERS"=some (.ref a_STEP_LETTERS)
 ZeL:∀ H,SqT K H a_STEP_LETTERS [.str "F",.str "M",.str "T",.str "f",.str "m",.str "t",.str "S"]
 t_MOST_ENTRIES:Tok
 m_MOST_ENTRIES:mg "MOST_ENTRIES"=some (.int 400 t_MOST_ENTRIES)
 t_MOST_PEOPLE:Tok
 m_MOST_PEOPLE:mg "MOST_PEOPLE"=some (.int 60 t_MOST_PEOPLE)
def Zo4 (K:W.Frag):Sp:=fun vs H Q _=>∃ (a:Addr) (ns:List Int),vs=[.ref a]∧SqL K H a (ns.map V.int)∧ns.length≤63∧∀ H',Q (.bl true) H'
inductive Vk where
 | int (i:Int) | str (x:Str) | bl | non | tup | lst | dct
noncomputable def Vk.ty:Vk->Value
 | .int _=>.type "int"
 | .str _=>.type "str"
 | .bl=>.type "bool"
 | .non=>.type "NoneType"
 | .tup=>.type "tuple"
 | .lst=>.type "list"
 | .dct=>.type "dict"
noncomputable def Vk.isI:Vk->Bool
 | .int _=>true
 | _=>false
noncomputable def Vk.isB:Vk->Bool
 | .bl=>true
 | _=>false
noncomputable def Vk.isS:Vk->Bool
 | .str _=>true
 | _=>false
noncomputable def Vk.isT:Vk->Bool
 | .tup=>true
 | _=>false
def Vw (K:W.Frag) (H:Hp) (v:V):Vk->Prop
 | .int i=>v=.int i
 | .str x=>v=.str x∧x.length≤100
 | k=>Kd K H v k.ty
section
variable {K:W.Frag} {H H':Hp} {v:V} {t:Vk}
theorem Vw.kd (h:Vw K H v t):Kd K H v t.ty:=by
 cases t with
 | int i=>cases (show v=.int i from h); exact .of (.int i)
 | str x=>cases (show v=.str x from h.1); exact .of (.str x)
 | _=>exact h
theorem Vw.mono (h:Vw K H v t) (e:Same H H'):Vw K H' v t:=by
 cases t with
 | int i=>exact h
 | str x=>exact h
 | _=>exact e.kd h
end
def Vws (K:W.Frag) (H:Hp):List V->List Vk->Prop
 | [],[]=>True
 | x :: xs,t :: ts=>Vw K H x t∧Vws K H xs ts
 | _,_=>False
section
variable {K:W.Frag} {H H':Hp}
theorem Vws.length:∀ {xs:List V} {ts:List Vk},Vws K H xs ts->xs.length=ts.length
 | [],[],_=>rfl
 | x :: xs,t :: ts,h=>by rw [List.length_cons,List.length_cons,Vws.length h.2]
theorem Vws.mono (e:Same H H'):∀ {xs:List V} {ts:List Vk},Vws K H xs ts->Vws K H' xs ts
 | [],[],_=>True.intro
 | x :: xs,t :: ts,h=>⟨h.1.mono e,Vws.mono e h.2⟩
theorem Vws.get:∀ {xs:List V} {ts:List Vk} {i:Nat} {t:Vk},Vws K H xs ts->ts[i]?=some t->∃ x,xs[i]?=some x∧Vw K H x t
 | [],[],_,_,_,e=>by simp at e
 | x :: xs,t :: ts,0,t',h,e=>by
  cases (show some t=some t' by simpa using e)
  exact ⟨x,rfl,h.1⟩
 | x :: xs,t :: ts,i+1,t',h,e=>by
  obtain ⟨y,e1,e2⟩:=Vws.get (i:=i) h.2 (by simpa using e)
  exact ⟨y,by simpa using e1,e2⟩
end
def Tv (K:W.Frag) (H:Hp) (v:V) (ts:List Vk):Prop:=∃ a xs,v=.ref a∧SqT K H a xs∧Vws K H xs ts
noncomputable abbrev ZhB:Str:="abcdefghijklmnopqrstuvwxyz"
noncomputable def inL (c:Nat):Bool:=!(Builtin.Str.occurrences ZhB ⟨#[c]⟩ 0 ZhB.length 1).isEmpty
noncomputable def ZfD:Vk->Bool
 | .str x=>decide (1≤x.length)&&decide (x.length≤8)&&x.cps.toList.all inL
 | _=>false
noncomputable def Zqi:Vk->Bool
 | .int i=>decide ((if i<0 then -i else i)≤10 ^ 18)
 | _=>false
noncomputable def Zjo:Vk->Bool
 | .int i=>decide (1≤i)&&decide (i≤10 ^ 18)
 | _=>false
noncomputable def ZiU:Vk->Bool
 | .str x=>decide (x="he")||decide (x="she")||decide (x="")
 | _=>false
noncomputable def Zfz (t:Vk):Bool:=ZfD t||match t with
 | .str x=>decide (x="")
 | _=>false
inductive Chk where
 | name | sort | day | amount | parent
noncomputable def chk:Chk->Vk->Bool
 | .name=>ZfD
 | .sort=>ZiU
 | .day=>Zqi
 | .amount=>Zjo
 | .parent=>Zfz
noncomputable def Zib:List (Str × List Chk):=[("born",[.name,.sort,.day,.parent,.parent]),("taken",[.name,.name,.day]),("union",[.name,.name,.day]),("parted",[.name,.name,.day]),("dead",[.name,.day]),("given",[.name,.name,.amount,.day])]
noncomputable def Zfx (w:Str):Option (List Chk):=(Zib.find? fun p=>decide (w=p.1)).map (·.2)
noncomputable def Zc7:List Chk->List Vk->List Bool
 | c :: cs,t :: ts=>chk c t :: Zc7 cs ts
 | _,_=>[]
noncomputable def ZcZ (cs:List Chk) (ts:List Vk):Bool:=decide (ts.length=cs.length)&&(Zc7 cs ts).all id
noncomputable def Zei:List Vk->Bool
 | .str w :: ts=>((Zfx w).map fun cs=>ZcZ cs ts).getD false
 | _=>false
theorem ZcS (w:Str) (ts:List Vk):Zei (.str w :: ts)=((Zfx w).map fun cs=>ZcZ cs ts).getD false:=rfl
structure Nm (x:Str):Prop where
 lo:1≤x.length
 hi:x.length≤8
 all:x.cps.toList.all inL=true
theorem Nm.ok {x:Str} (h:Nm x):ZfD (.str x)=true:=by
 show (decide (1≤x.length)&&decide (x.length≤8)&&x.cps.toList.all inL)=true
 rw [decide_eq_true h.lo,decide_eq_true h.hi,h.all]
 rfl
section
variable {K:W.Frag} {mg:Str->Option Value}
noncomputable def Tx.ad (T:Tx K w mg):Chk->Addr
 | .name=>T.ZaR.a
 | .sort=>T.Zb8.a
 | .day=>T.ZbI.a
 | .amount=>T.Zbt.a
 | .parent=>T.Zbn.a
theorem kI (T:Tx K w mg):∀ t:Vk,W.kitOne K t.ty (.type "int")=some (t.isI||t.isB)
 | .int _=>T.k_int_int
 | .str _=>T.k_str_int
 | .bl=>T.k_bool_int
 | .non=>T.k_NoneType_int
 | .tup=>T.k_tuple_int
 | .lst=>T.k_list_int
 | .dct=>T.k_dict_int
theorem kS (T:Tx K w mg):∀ t:Vk,W.kitOne K t.ty (.type "str")=some t.isS
 | .int _=>T.k_int_str
 | .str _=>T.k_str_str
 | .bl=>T.k_bool_str
 | .non=>T.k_NoneType_str
 | .tup=>T.k_tuple_str
 | .lst=>T.k_list_str
 | .dct=>T.k_dict_str
theorem kT (T:Tx K w mg):∀ t:Vk,W.kitOne K t.ty (.type "tuple")=some t.isT
 | .int _=>T.k_int_tuple
 | .str _=>T.k_str_tuple
 | .bl=>T.k_bool_tuple
 | .non=>T.k_NoneType_tuple
 | .tup=>T.k_tuple_tuple
 | .lst=>T.k_list_tuple
 | .dct=>T.k_dict_tuple
end
theorem Zm5 {X : Cx} {N : List Str} {sc : Scope} {L : List (Str × NameKind)} {ns : St} (hk : sc.kind=.function) (hn : ∀ x ∈ sc.names, x.2=.local → sc.names.lookup x.1=some .local) (hc : ∀ y ∈ sc.names, y.2 ≠ .cell)
  (clos:closureFor sc X.env=pure []) (e:(relabel sc X.env).names=L) (hL:∀ y∈L,y.2≠.cell∧y.2≠.free) (hl:ns.length=N.length) (hs:∀ o∈ns,o=none):CompSc X N sc [] (fun _=>ns):=by
 have no:∀ (x:Str),¬ ((relabel sc X.env).names.lookup x=some .cell∨(relabel sc X.env).names.lookup x=some .free):=fun x h=>by
  rw [e] at h
  have lk:∀ (M:List (Str × NameKind)) (k:NameKind),M.lookup x=some k->∃ y∈M,y.2=k:=fun M k=>by
   induction M with
   | nil=>intro h; cases h
   | cons p r ih =>
    intro h
    rw [List.lookup_cons] at h
    split at h
    ·exact ⟨p,List.mem_cons_self ..,Option.some.inj h⟩
    ·obtain ⟨y,hy,q⟩:=ih h
     exact ⟨y,List.mem_cons_of_mem _ hy,q⟩
  rcases h with h | h
  ·obtain ⟨y,hy,q⟩:=lk _ _ h
   exact (hL y hy).1 q
  ·obtain ⟨y,hy,q⟩:=lk _ _ h
   exact (hL y hy).2 q
 refine ⟨hk,hn,hc,clos,(fun x c (h:([]:List (Str × Addr)).lookup x=some c)=>by cases h),fun x h=>absurd h (no x),fun _=>hl,fun σ i x v e1 e2=>?_⟩
 have:=hs _ (List.mem_of_getElem? e2)
 cases this
theorem nd1:(["sign"]:List Str).Nodup:=by decide +kernel
theorem nd2:(["check","part"]:List Str).Nodup:=by decide +kernel
theorem Zqz (z:Str):inV (.str z) [.str "he",.str "she",.str ""]=ZiU (.str z):=by
 unfold inV ZiU
 rw [Bool.eq_iff_iff]
 simp only [List.any_cons,List.any_nil,eqV,Bool.or_false,Bool.or_eq_true,beq_iff_eq,decide_eq_true_eq]
 constructor
 ·rintro (h | h | h)
  ·exact .inl (.inl h.symm)
  ·exact .inl (.inr h.symm)
  ·exact .inr h.symm
 ·rintro ((h | h) | h)
  ·exact .inl h.symm
  ·exact .inr (.inl h.symm)
  ·exact .inr (.inr h.symm)
theorem Zf0 (x:Str):ZfD (.str x)=(decide (1≤x.length)&&decide (x.length≤8)&&x.cps.toList.all inL):=rfl
theorem ZkG (i:Int):Zjo (.int i)=(decide (1≤i)&&decide (i≤10 ^ 18)):=rfl
theorem Zl3:∀ {cs:List Chk} {ts:List Vk},ts.length=cs.length->(Zc7 cs ts).length=cs.length
 | [],[],_=>rfl
 | c :: cs,t :: ts,h=>by
  show (Zc7 cs ts).length+1=cs.length+1
  rw [Zl3 (by simpa using h)]
theorem Zpc:∀ {cs:List Chk} {ts:List Vk} {i:Nat} {y:V},ts.length=cs.length->((Zc7 cs ts).map V.bl)[i]?=some y->∃ c t,cs[i]?=some c∧ts[i]?=some t∧y=.bl (chk c t):=by
 intro cs
 induction cs with
 | nil =>
  intro ts i y h e
  cases ts with
  | nil=>simp [Zc7] at e
  | cons t ts=>simp at h
 | cons c cs ih =>
  intro ts i y h e
  cases ts with
  | nil=>simp at h
  | cons t ts =>
   cases i with
   | zero=>exact ⟨c,t,rfl,rfl,by simpa [Zc7] using e.symm⟩
   | succ i =>
    obtain ⟨c',t',e1,e2,e3⟩:=ih (ts:=ts) (i:=i) (y:=y) (by simpa using h) (by simpa [Zc7] using e)
    exact ⟨c',t',by simpa using e1,by simpa using e2,e3⟩
theorem ZnX {α:Type} {f:α->Bool}:∀ {l:List α} {i:Nat} {p:α},l[i]?=some p->(∀ j,j<i->∀ p',l[j]?=some p'->f p'=false)->f p=true->l.find? f=some p
 | x :: l,0,p,e,_,h=>by
  have e':x=p:=by simpa using e
  subst e'
  rw [List.find?_cons,h]
 | x :: l,i+1,p,e,b,h=>by
  rw [List.find?_cons,b 0 (by omega) x rfl]
  exact ZnX (l:=l) (i:=i) (by simpa using e) (fun j hj p' e'=>b (j+1) (by omega) p' (by simpa using e')) h
theorem Znl {w:Str} {i:Nat} {p:Str × List Chk} (e:Zib[i]?=some p) (b:∀ j,j<i->∀ p',Zib[j]?=some p'->w≠p'.1) (h:w=p.1):Zfx w=some p.2:=by
 unfold Zfx
 rw [ZnX e (fun j hj p' e'=>decide_eq_false (b j hj p' e')) (decide_eq_true h)]
 rfl
theorem Zk5 {w:Str} (b:∀ j,j<6->∀ p',Zib[j]?=some p'->w≠p'.1):Zfx w=none:=by
 unfold Zfx
 rw [List.find?_eq_none.mpr]
 ·rfl
 ·intro p hp
  obtain ⟨j,hj,e⟩:=List.getElem_of_mem hp
  have:=b j hj p (by rw [← e]; exact List.getElem?_eq_getElem hj)
  simpa using this
theorem Zou:∀ p∈Zib,p.2.length≤10:=by decide +kernel
theorem ZqN {K : W.Frag} {mg : Str → Option Value} (T : Tx K w mg) {i : Nat} {p : Str × List Chk} (e : Zib[i]?=some p) :
  ∃ P G,[V.ref T.p0,.ref T.p1,.ref T.p2,.ref T.p3,.ref T.p4,.ref T.p5][i]?=some (.ref P)∧(∀ H,SqT K H P [.str p.1,.ref G])∧∀ H,SqT K H G (p.2.map fun c=>.ref (T.ad c)):=by
 match i,e with
 | 0,e=>cases e; exact ⟨_,_,rfl,T.sp0,T.sg0⟩
 | 1,e=>cases e; exact ⟨_,_,rfl,T.sp1,T.sg1⟩
 | 2,e=>cases e; exact ⟨_,_,rfl,T.sp2,T.sg2⟩
 | 3,e=>cases e; exact ⟨_,_,rfl,T.sp3,T.sg3⟩
 | 4,e=>cases e; exact ⟨_,_,rfl,T.sp4,T.sg4⟩
 | 5,e=>cases e; exact ⟨_,_,rfl,T.sp5,T.sg5⟩
 | n+6,e=>cases e
theorem ZoQ (x:V) (xs:List V):Znj (x :: xs) (some 1) none=xs:=by
 unfold Znj
 have e:HT.sIx (x :: xs).length 0 (some 1)=1:=by
  show HT.sIx (x :: xs).length 0 (some ((1:Nat):Int))=1
  rw [HT.sIx_nat,List.length_cons]
  omega
 rw [e]
 show (xs.take ((x :: xs).length-1))=xs
 simp
theorem few {n:Nat} (h:Nat.ble n 1000=true):n≤sizeLine:=Nat.le_of_lt (Zaj (Nat.le_of_ble_eq_true h))
theorem Zbe {b:Bool} {A B:Prop} (e:b=true) (h:A):if b=true then A else B:=by rw [if_pos e]; exact h
theorem ZaB {b:Bool} {A B:Prop} (e:b=false) (h:B):if b=true then A else B:=by rw [if_neg (by rw [e]; decide)]; exact h
theorem ZmQ {b:Bool} {A B:Prop} (h1:b=true->A) (h2:b=false->B):if b=true then A else B:=by
 cases b with
 | true=>exact Zex (h1 rfl)
 | false=>exact Zc8 (h2 rfl)
section
variable {K:W.Frag} {H:Hp} {xs ys:List V} {ts:List Vk} {a b:Addr} {Q:VK}
theorem ZjI {lo hi:Option Int} (ha:SqT K H a xs) (hn:¬ (HT.sIx xs.length 0 lo=0∧HT.sIx xs.length xs.length hi=xs.length)) (h:∀ H' p,Same H H'->SqT K H' p (Znj xs lo hi)->Q (.ref p) H'):ZsV K (.ref a) lo hi H Q :=
 ⟨a,xs,rfl,ha,hn,fun p np=>h _ p (Zag np) (.of Zab)⟩
end
theorem Zs2 {xs:List V} {i:Int} {x:V} (h0:0≤i) (e:xs[i.toNat]?=some x):atI xs i=some x:=by
 have:=Zgk e
 rwa [Int.toNat_of_nonneg h0] at this
theorem Zcj {x y:Str}:decide (V.str x=V.str y)=decide (x=y):=by
 rw [Bool.eq_iff_iff]
 simp
inductive Ent where
 | born (n s:Str) (d:Int) (f m:Str)
 | taken (c t:Str) (d:Int)
 | union (a b:Str) (d:Int)
 | parted (a b:Str) (d:Int)
 | dead (n:Str) (d:Int)
 | given (g t:Str) (a d:Int)
noncomputable def Ent.row:Ent->List Key
 | .born n s d f m=>[.inr "born",.inr n,.inr s,.inl d,.inr f,.inr m]
 | .taken c t d=>[.inr "taken",.inr c,.inr t,.inl d]
 | .union a b d=>[.inr "union",.inr a,.inr b,.inl d]
 | .parted a b d=>[.inr "parted",.inr a,.inr b,.inl d]
 | .dead n d=>[.inr "dead",.inr n,.inl d]
 | .given g t a d=>[.inr "given",.inr g,.inr t,.inl a,.inl d]
noncomputable def Ent.tie:Ent->Bool
 | .union ..=>true
 | .parted ..=>true
 | _=>false
noncomputable def Ent.named:Ent->List Str
 | .born _ _ _ f m=>[f,m].filter fun x:Str=>decide (x≠"")
 | .taken c t _=>[c,t]
 | .union a b _=>[a,b]
 | .parted a b _=>[a,b]
 | .dead n _=>[n]
 | .given g t _ _=>[g,t]
noncomputable def Ent.day:Ent->Int
 | .born _ _ d _ _=>d
 | .taken _ _ d=>d
 | .union _ _ d=>d
 | .parted _ _ d=>d
 | .dead _ d=>d
 | .given _ _ _ d=>d
def EntAt (K:W.Frag) (H:Hp) (v:V) (e:Ent):Prop:=∃ a,v=.ref a∧SqT K H a (e.row.map kV)
theorem EntAt.mono {K:W.Frag} {H H':Hp} {v:V} {e:Ent} (h:EntAt K H v e) (s:Same H H'):EntAt K H' v e:=by
 obtain ⟨a,rfl,q⟩:=h
 exact ⟨a,rfl,s.sqt q⟩
theorem Zaf {r:List V} {j:Nat} {x:V} (h:r[j]?=some x):atI r (j:Int)=some x:=Zgk h
noncomputable def ZqR (x:Str):Option V:=if x="" then none else some (.str x)
theorem ZlO:∀ l:List Str,(l.map ZqR).filterMap id=(l.filter fun x:Str=>decide (x≠"")).map V.str
 | []=>rfl
 | x :: r=>by
  have ih:=ZlO r
  by_cases h:x=""
  ·subst h
   simp only [List.map_cons,List.filterMap_cons,List.filter_cons]
   simpa [ZqR] using ih
  ·simp only [List.map_cons,List.filterMap_cons,List.filter_cons]
   simpa [ZqR,h] using ih
theorem Zbq {H H1:Hp} {D:Addr} (s:Same H H1) (n:H1 D=none):H D=none:=by
 cases e:H D with
 | none=>rfl
 | some o=>rw [s D o e] at n; cases n
noncomputable def Ent.key:Ent->List Key
 | .born n _ _ _ _=>[.inr "born",.inr n]
 | .taken c t _=>[.inr "taken",.inr c,.inr t]
 | .union a b d=>[.inr "tie",.inr a,.inr b,.inl d]
 | .parted a b d=>[.inr "tie",.inr a,.inr b,.inl d]
 | .dead n _=>[.inr "dead",.inr n]
 | .given g t _ d=>[.inr "given",.inr g,.inr t,.inl d]
noncomputable def Ent.bornName:Ent->Option Str
 | .born n _ _ _ _=>some n
 | _=>none
structure Bk where
 kept:List (Ent × Addr)
 links:List ((Str × Str) × Addr × List Str)
 ties:List ((Str × Str) × Addr × List (Int × Str))
 sums:List ((Str × Str) × Int)
noncomputable def two (p:Str × Str):List Key:=[.inr p.1,.inr p.2]
noncomputable def Bk.keptD (B:Bk):List (List Key × V):=B.kept.map fun p=>(p.1.key,.ref p.2)
noncomputable def Bk.bornD (l:List (Ent × Addr)):List (Key × V):=l.filterMap fun p=>p.1.bornName.map fun n=>(.inr n,.ref p.2)
noncomputable def Bk.linksD (B:Bk):List (List Key × V):=B.links.map fun q=>(two q.1,.ref q.2.1)
noncomputable def Bk.tiesD (B:Bk):List (List Key × V):=B.ties.map fun q=>(two q.1,.ref q.2.1)
noncomputable def Bk.sumsD (B:Bk):List (List Key × V):=B.sums.map fun q=>(two q.1,.int q.2)
noncomputable def bkF (k bi li ti su:Addr):List (Str × V):=[("kept",.ref k),("births",.ref bi),("links",.ref li),("ties",.ref ti),("sums",.ref su)]
structure BkAt (K:W.Frag) (C:Addr) (H:Hp) (b dx k bi li ti su:Addr) (B:Bk):Prop where
 ob:H b=some (.ins C dx (bkF k bi li ti su))
 ap:[k,li,ti,su].Nodup
 at':(bi :: B.ties.map (·.2.1)).Nodup
 ke:H k=some (.dT B.keptD)
 bi:H bi=some (.dK (Bk.bornD B.kept))
 li:H li=some (.dT B.linksD)
 ti:H ti=some (.dT B.tiesD)
 su:H su=some (.dT B.sumsD)
 en:∀ p∈B.kept,SqT K H p.2 (p.1.row.map kV)
 ll:∀ q∈B.links,H q.2.1=some (.lst (q.2.2.map V.str))
 tt:∀ q∈B.ties,H q.2.1=some (.dK (q.2.2.map fun r=>(.inl r.1,.str r.2)))
theorem BkAt.mono {K:W.Frag} {C:Addr} {H H':Hp} {b dx k bi li ti su:Addr} {B:Bk} (h:BkAt K C H b dx k bi li ti su B) (s:Same H H'):BkAt K C H' b dx k bi li ti su B :=
 ⟨s _ _ h.ob,h.ap,h.at',s _ _ h.ke,s _ _ h.bi,s _ _ h.li,s _ _ h.ti,s _ _ h.su,fun p hp=>s.sqt (h.en p hp),fun q hq=>s _ _ (h.ll q hq),fun q hq=>s _ _ (h.tt q hq)⟩
def BkHas (K:W.Frag) (C:Addr) (H:Hp) (v:V) (B:Bk):Prop:=∃ b dx k bi li ti su,v=.ref b∧BkAt K C H b dx k bi li ti su B
theorem BkHas.mono {K:W.Frag} {C:Addr} {H H':Hp} {v:V} {B:Bk} (h:BkHas K C H v B) (s:Same H H'):BkHas K C H' v B:=by
 obtain ⟨b,dx,k,bi,li,ti,su,e,h⟩:=h
 exact ⟨b,dx,k,bi,li,ti,su,e,h.mono s⟩
noncomputable def ZaD (n:Str):List (Ent × Addr)->Option (Ent × Addr)
 | []=>none
 | p :: r=>if p.1.bornName=some n then some p else ZaD n r
theorem Zet {n:Str}:∀ {l:List (Ent × Addr)} {p:Ent × Addr},ZaD n l=some p->p∈l∧p.1.bornName=some n
 | [],_,h=>by cases h
 | q :: r,p,h=>by
  unfold ZaD at h
  split at h
  ·cases h
   exact ⟨List.mem_cons_self ..,by assumption⟩
  ·obtain ⟨h1,h2⟩:=Zet h
   exact ⟨List.mem_cons_of_mem _ h1,h2⟩
theorem ZjE (n:Str):∀ l:List (Ent × Addr),Zdv (Bk.bornD l) (.inr n:Key)=(ZaD n l).map fun p=>.ref p.2
 | []=>rfl
 | p :: r=>by
  have ih:=ZjE n r
  unfold Bk.bornD ZaD
  rw [List.filterMap_cons]
  cases h:p.1.bornName with
  | none =>
   simp only [Option.map_none]
   rw [if_neg (by simp)]
   exact ih
  | some x =>
   simp only [Option.map_some]
   by_cases e:x=n
   ·subst e
    rw [Zcc rfl,if_pos rfl]
    rfl
   ·rw [Zbr (fun q=>e (Sum.inr.inj q)),if_neg (fun q=>e (Option.some.inj q))]
    exact ih
theorem Zhh {k bi li ti su:Addr}:(bkF k bi li ti su).lookup ("kept" : Str)=some (.ref k):=rfl
theorem Zem {k bi li ti su:Addr}:(bkF k bi li ti su).lookup ("births" : Str)=some (.ref bi):=rfl
theorem ZgV {k bi li ti su:Addr}:(bkF k bi li ti su).lookup ("links" : Str)=some (.ref li):=rfl
theorem Zn5 {k bi li ti su:Addr}:(bkF k bi li ti su).lookup ("ties" : Str)=some (.ref ti):=rfl
theorem Zom {k bi li ti su:Addr}:(bkF k bi li ti su).lookup ("sums" : Str)=some (.ref su):=rfl
noncomputable def ZlN (B:Bk) (n:Str):Option (Str × Int):=match ZaD n B.kept with
 | some (.born _ s d _ _,_)=>some (s,d)
 | _=>none
noncomputable def Zn7 (B:Bk) (n:Str):Str:=((ZlN B n).map (·.1)).getD ""
noncomputable def Zfn (B:Bk) (n:Str):Int:=((ZlN B n).map (·.2)).getD 0
theorem Zl7 {B:Bk} {n n' s f m:Str} {d:Int} {p:Ent × Addr} (h:ZaD n B.kept=some p) (e:p.1=.born n' s d f m):Zn7 B n=s:=by
 obtain ⟨e',a⟩:=p
 cases e
 unfold Zn7 ZlN
 rw [h]
 rfl
theorem Zhc {B:Bk} {n n' s f m:Str} {d:Int} {p:Ent × Addr} (h:ZaD n B.kept=some p) (e:p.1=.born n' s d f m):Zfn B n=d:=by
 obtain ⟨e',a⟩:=p
 cases e
 unfold Zfn ZlN
 rw [h]
 rfl
noncomputable def ZmK (B:Bk) (n s:Str) (d:Int):Bool:=decide (n="")||(decide (Zn7 B n=s)&&decide (Zfn B n<d))
def Known (B:Bk) (n:Str):Prop:=ZaD n B.kept≠none
noncomputable def Zhm (B:Bk) (e:Ent):Bool:=match e with
 | .born _ _ d f m=>ZmK B f "he" d&&ZmK B m "she" d
 | .taken c t d=>decide (c≠t)&&decide (Zfn B t<Zfn B c)&&e.named.all fun n=>decide (Zfn B n≤d)
 | .dead n d=>decide (Zfn B n≤d)
 | .union a b d=>decide (a≠b)&&e.named.all fun n=>decide (Zfn B n≤d)
 | .parted a b d=>decide (a≠b)&&e.named.all fun n=>decide (Zfn B n≤d)
 | .given a b _ d=>decide (a≠b)&&e.named.all fun n=>decide (Zfn B n≤d)
theorem ZdI {a b:TS} {D:Ends} {σ:St} {H:Hp} (J:St->Hp->Prop) (h1:∀ nx,(∀ σ H,J σ H->nx σ H)->a { D with nx:=nx } σ H) (h2:∀ σ H,J σ H->b D σ H):Zr2 a b D σ H:=h1 (b D) h2
noncomputable def Ent.isBorn:Ent->Bool
 | .born ..=>true
 | _=>false
noncomputable def Ent.same:Ent->Bool
 | .taken c t _=>decide (c=t)
 | .union a b _=>decide (a=b)
 | .parted a b _=>decide (a=b)
 | .given a b _ _=>decide (a=b)
 | _=>false
noncomputable def Ent.early (B:Bk):Ent->Bool
 | .taken c t _=>decide (Zfn B c≤Zfn B t)
 | _=>false
theorem ZfK {B:Bk} {e:Ent} (h:e.isBorn=false):Zhm B e=(!e.same&&!e.early B&&e.named.all fun n=>decide (Zfn B n≤e.day)):=by
 cases e with
 | born=>cases h
 | taken c t d =>
  unfold Zhm Ent.same Ent.early
  have h1:decide (c≠t)=!decide (c=t):=by simp
  have h2:decide (Zfn B t<Zfn B c)=!decide (Zfn B c≤Zfn B t):=by
   rw [Bool.eq_iff_iff]
   simp
  simp only [h1,h2]
  rfl
 | dead n d =>
  simp [Zhm,Ent.same,Ent.early,Ent.named,Ent.day]
  rfl
 | _ =>
  simp [Zhm,Ent.same,Ent.early,Ent.day]
  rfl
theorem ZqJ {k bi li ti su:Addr}:Zcr "sums" (.ref su) (Zcr "ties" (.ref ti) (Zcr "links" (.ref li) (Zcr "births" (.ref bi) (Zcr "kept" (.ref k) []))))=bkF k bi li ti su:=by
 rfl
noncomputable def bk0:Bk:=⟨[],[],[],[]⟩
theorem ZqT {H : Hp} {b dx C p : Addr} {fs : List (Str × V)} (f : Str) (o : HO) (h : H b=some (.ins C dx fs)) (n : H p=none) :
  (upd (upd H p o) b (.ins C dx (Zcr f (.ref p) fs))) b=some (.ins C dx (Zcr f (.ref p) fs))∧(upd (upd H p o) b (.ins C dx (Zcr f (.ref p) fs))) p=some o ∧
  (∀ c u,H c=some u->c≠b->(upd (upd H p o) b (.ins C dx (Zcr f (.ref p) fs))) c=some u)∧∀ c,(upd (upd H p o) b (.ins C dx (Zcr f (.ref p) fs))) c=none->H c=none:=by
 have pb:p≠b:=fun e=>by subst e; rw [h] at n; cases n
 refine ⟨Zab,(Zak pb).trans Zab,fun c u e cb=>(Zak cb).trans ((Zak (Zap e n)).trans e),fun c e=>?_⟩
 by_cases cb:c=b
 ·subst cb
  rw [Zab] at e
  cases e
 rw [Zak cb] at e
 by_cases cp:c=p
 ·subst cp
  exact n
 rw [Zak cp] at e
 exact e
noncomputable def Za3 (c:Str × Str):List ((Str × Str) × Addr × List Str)->Option (Addr × List Str)
 | []=>none
 | q :: r=>if q.1=c then some q.2 else Za3 c r
theorem Zfj {a b:Str × Str} (h:two a=two b):a=b:=by
 unfold two at h
 simp at h
 exact Prod.ext h.1 h.2
theorem Zja (c:Str × Str):∀ l:List ((Str × Str) × Addr × List Str),Zdv (l.map fun q=>(two q.1,V.ref q.2.1)) (two c)=(Za3 c l).map fun q=>.ref q.1
 | []=>rfl
 | q :: r=>by
  have ih:=Zja c r
  unfold Za3
  rw [List.map_cons]
  by_cases e:q.1=c
  ·subst e
   rw [Zcc rfl,if_pos rfl]
   rfl
  ·rw [Zbr (fun z=>e (Zfj z)),if_neg e]
   exact ih
theorem Zf9 {c:Str × Str}:∀ {l:List ((Str × Str) × Addr × List Str)} {x:Addr × List Str},Za3 c l=some x->∃ q∈l,q.2=x
 | [],_,h=>by cases h
 | q :: r,x,h=>by
  unfold Za3 at h
  split at h
  ·cases h
   exact ⟨q,List.mem_cons_self ..,rfl⟩
  ·obtain ⟨z,hz,e⟩:=Zf9 h
   exact ⟨z,List.mem_cons_of_mem _ hz,e⟩
noncomputable def Zb4 (B:Bk) (l n:Str):List Str:=((Za3 (l,n) B.links).map (·.2)).getD []
noncomputable def Zdb:List Str:=["F","M","T","f","m","t","S"]
noncomputable def ZmX (x:Str):Bool:=decide (x∈Zdb)
theorem Zd2 (x:Str):∀ l:List Str,inV (.str x) (l.map V.str)=decide (x∈l):=by
 intro l
 unfold inV
 induction l with
 | nil=>rfl
 | cons y r ih =>
  rw [List.map_cons,List.any_cons,ih]
  by_cases h:x=y
  ·subst h; simp [eqV]
  ·simp [eqV,h,Ne.symm h]
theorem Zcb {a b:Str} (h1:Zbb a b=false) (h2:Zbb b a=false):a=b:=by
 unfold Zbb at h1 h2
 have e:a.cps.toList=b.cps.toList:=by
  have l1:=of_decide_eq_false h1
  have l2:=of_decide_eq_false h2
  exact List.le_antisymm (List.not_lt.mp l2) (List.not_lt.mp l1)
 obtain ⟨a⟩:=a
 obtain ⟨b⟩:=b
 have e2:a=b:=Array.toList_inj.mp e
 rw [e2]
noncomputable def Zan (a b:Str):Str × Str:=if Zbb b a=true then (b,a) else (a,b)
theorem ZlR {a b:Str} {zs:List Str} (hp:zs.Perm [a,b]) (hs:PyProof.Rows.sortedS zs=true):zs=[(Zan a b).1,(Zan a b).2]:=by
 have hl:=hp.length_eq
 match zs,hl with
 | [x,y],_ =>
  have hs2:Zbb y x=false:=by
   have h3:(!PySem.Spec.ltCps y.cps.toList x.cps.toList&&true)=true:=hs
   rw [PyProof.Rows.ltCps_eq] at h3
   simpa [Zbb] using h3
  have hm:x∈[a,b]:=hp.subset (by simp)
  have hp2:(x=a∧y=b)∨(x=b∧y=a):=by
   rcases List.mem_cons.mp hm with rfl | hm
   ·have:=hp.cons_inv
    exact .inl ⟨rfl,by simpa using this⟩
   ·have e:x=b:=by simpa using hm
    subst e
    have h4:[x,y].Perm [x,a]:=hp.trans (List.Perm.swap ..)
    have:=h4.cons_inv
    exact .inr ⟨rfl,by simpa using this⟩
  unfold Zan
  rcases hp2 with ⟨rfl,rfl⟩ | ⟨rfl,rfl⟩
  ·rw [hs2]; rfl
  ·by_cases h:Zbb x y=true
   ·rw [if_pos h]
   ·rw [if_neg h,Zcb (Bool.eq_false_iff.mpr h) hs2]
noncomputable def Ent.told:Ent->Ent
 | .union a b d=>.union (Zan a b).1 (Zan a b).2 d
 | .parted a b d=>.parted (Zan a b).1 (Zan a b).2 d
 | e=>e
theorem Zqa (a b:Str):(if Zbb b a=true then b else a)=(Zan a b).1:=by
 unfold Zan
 by_cases h:Zbb b a=true
 ·rw [if_pos h,if_pos h]
 ·rw [if_neg h,if_neg h]
theorem ZpZ (a b:Str):(if Zbb a b=true then b else a)=(Zan a b).2:=by
 unfold Zan
 by_cases h:Zbb b a=true
 ·rw [if_pos h]
  by_cases h2:Zbb a b=true
  ·have l1:b.cps.toList<a.cps.toList:=of_decide_eq_true h
   have l2:a.cps.toList<b.cps.toList:=of_decide_eq_true h2
   exact absurd l1 (List.lt_asymm l2)
  ·rw [if_neg h2]
 ·rw [if_neg h]
  by_cases h2:Zbb a b=true
  ·rw [if_pos h2]
  ·rw [if_neg h2,Zcb (Bool.eq_false_iff.mpr h) (Bool.eq_false_iff.mpr h2)]
noncomputable def ZrK:Key->Vk
 | .inl i=>.int i
 | .inr x=>.str x
theorem Zi0 {K:W.Frag} {H:Hp}:∀ (l:List Key),(∀ x:Str,(.inr x:Key)∈l->x.length≤100)->Vws K H (l.map kV) (l.map ZrK)
 | [],_=>trivial
 | .inl i :: r,h=>⟨rfl,Zi0 r fun x hx=>h x (List.mem_cons_of_mem _ hx)⟩
 | .inr y :: r,h=>⟨⟨rfl,h y (List.mem_cons_self ..)⟩,Zi0 r fun x hx=>h x (List.mem_cons_of_mem _ hx)⟩
structure Ent.Ok (e:Ent):Prop where
 en:Zei (e.row.map ZrK)=true
 sh:∀ x:Str,(.inr x:Key)∈e.row->x.length≤100
theorem Ent.row_len (e:Ent):(e.row.map ZrK).length≤10:=by
 cases e <;> exact Nat.le_of_ble_eq_true rfl
theorem Ent.Ok.tv {e:Ent} (h:e.Ok) {K:W.Frag} {H:Hp} {a:Addr} (hE:SqT K H a (e.row.map kV)):Tv K H (.ref a) (e.row.map ZrK):=⟨a,_,rfl,hE,Zi0 _ h.sh⟩
inductive Rf where
 | full | person | twice | fit
noncomputable def Bk.full (B:Bk) (e:Ent):Bool:=decide (400≤B.kept.length)||(e.isBorn&&decide (60≤(Bk.bornD B.kept).length))
noncomputable def ZmR (B:Bk) (e:Ent):Option Rf :=
 if B.full e=true then some .full
 else if (e.named.all fun n=>(ZaD n B.kept).isSome)=false then some .person
 else if (Zdv B.keptD e.told.key).isSome=true then some .twice
 else if Zhm B e=true then none else some .fit
theorem ZjT {B:Bk} {e:Ent} (kn:∀ n∈e.named,Known B n):(e.named.all fun n=>(ZaD n B.kept).isSome)=true:=by
 rw [List.all_eq_true]
 intro n hn
 have:=kn n hn
 unfold Known at this
 exact Option.isSome_iff_ne_none.mpr this
theorem Zns {B:Bk} {e:Ent} (h:B.full e=false) (kn:∀ n∈e.named,Known B n) (t:(Zdv B.keptD e.told.key).isSome=false) (f:Zhm B e=true):ZmR B e=none:=by
 unfold ZmR
 rw [h,if_neg (by decide),ZjT kn,if_neg (by decide),t,if_neg (by decide),f,if_pos rfl]
theorem ZhG {a b c:Str} (h1:Zbb a b=true) (h2:Zbb b c=true):Zbb a c=true:=by
 unfold Zbb at *
 exact decide_eq_true (List.lt_trans (of_decide_eq_true h1) (of_decide_eq_true h2))
theorem Zmw (a:Str):Zbb a a=false:=by
 unfold Zbb
 exact decide_eq_false (List.lt_irrefl _)
noncomputable def ZjF (a b:Str):Bool:=!Zbb b a
theorem ZiE {a b c:Str} (h1:ZjF a b=true) (h2:ZjF b c=true):ZjF a c=true:=by
 unfold ZjF at *
 simp only [Bool.not_eq_true'] at *
 cases h:Zbb c a with
 | false=>rfl
 | true =>
  by_cases e:a=b
  ·subst e; rw [h] at h2; cases h2
  ·have hab:Zbb a b=true:=by
    cases h3:Zbb a b with
    | true=>rfl
    | false=>exact absurd (Zcb h3 h1) e
   rw [ZhG h hab] at h2
   cases h2
theorem Zmo (a b:Str):(ZjF a b||ZjF b a)=true:=by
 unfold ZjF
 cases h:Zbb b a with
 | false=>rfl
 | true =>
  cases h2:Zbb a b with
  | false=>rfl
  | true=>exact absurd (ZhG h2 h) (by rw [Zmw a]; decide)
noncomputable def ZaL (l:List Str):List Str:=l.mergeSort ZjF
theorem ZbB (l:List Str):(ZaL l).Perm l:=List.mergeSort_perm ..
theorem ZfS (l:List Str):(ZaL l).Pairwise fun a b=>ZjF a b=true:=List.pairwise_mergeSort (le:=ZjF) (fun _ _ _=>ZiE) Zmo l
theorem Zfv:∀ {l:List Str},PyProof.Rows.sortedS l=true->l.Pairwise fun a b=>ZjF a b=true
 | [],_=>.nil
 | [x],_=>.cons (by simp) .nil
 | x :: y :: r,h=>by
  have h':(!PySem.Spec.ltCps y.cps.toList x.cps.toList&&PyProof.Rows.risingS y r)=true:=h
  rw [Bool.and_eq_true] at h'
  obtain ⟨h1,h2⟩:=h'
  have ih:=Zfv (l:=y :: r) h2
  have hxy:ZjF x y=true:=by
   rw [PyProof.Rows.ltCps_eq] at h1
   exact h1
  refine .cons (fun z hz=>?_) ih
  rcases List.mem_cons.mp hz with rfl | hz
  ·exact hxy
  ·exact ZiE hxy (List.rel_of_pairwise_cons ih hz)
theorem Zjk:∀ {l m:List Str},l.Perm m->(l.Pairwise fun a b=>ZjF a b=true)->(m.Pairwise fun a b=>ZjF a b=true)->l=m
 | [],m,p,_,_=>p.nil_eq
 | x :: l,[],p,_,_=>absurd p.length_eq (by simp)
 | x :: l,y :: m,p,h1,h2=>by
  have e:x=y:=by
   by_cases e:x=y
   ·exact e
   have hx:x∈m:=by
    have:x∈y :: m:=p.subset (List.mem_cons_self ..)
    rcases List.mem_cons.mp this with h | h
    ·exact absurd h e
    ·exact h
   have hy:y∈l:=by
    have:y∈x :: l:=p.symm.subset (List.mem_cons_self ..)
    rcases List.mem_cons.mp this with h | h
    ·exact absurd h.symm e
    ·exact h
   have a1:=List.rel_of_pairwise_cons h1 hy
   have a2:=List.rel_of_pairwise_cons h2 hx
   unfold ZjF at a1 a2
   simp only [Bool.not_eq_true'] at a1 a2
   exact Zcb a2 a1
  subst e
  rw [Zjk p.cons_inv (List.pairwise_cons.mp h1).2 (List.pairwise_cons.mp h2).2]
theorem ZgT {zs l:List Str} (hp:zs.Perm l) (hs:PyProof.Rows.sortedS zs=true):zs=ZaL l:=Zjk (hp.trans (ZbB l).symm) (Zfv hs) (ZfS l)
structure But (S:List Addr) (H H':Hp):Prop where
 eq:∀ a o,a ∉ S->H a=some o->H' a=some o
 al:∀ a,H' a=none->H a=none
theorem But.of {H H':Hp} (S:List Addr) (s:Same H H'):But S H H':=⟨fun a o _ e=>s a o e,fun a n=>Zbq s n⟩
theorem But.trans {S:List Addr} {H H' H'':Hp} (h1:But S H H') (h2:But S H' H''):But S H H'':=⟨fun a o n e=>h2.eq a o n (h1.eq a o n e),fun a n=>h1.al a (h2.al a n)⟩
theorem But.put {S:List Addr} {H:Hp} {a:Addr} {o o':HO} (e:H a=some o) (h:a∈S):But S H (upd H a o'):=by
 refine ⟨fun c u n q=>(Zak (fun z:c=a=>n (by rw [z]; exact h))).trans q,fun c n=>?_⟩
 by_cases z:c=a
 ·subst z; rw [Zab] at n; cases n
 ·rw [Zak z] at n; exact n
noncomputable def Zba {κ α:Type} [DecidableEq κ] (l:List (κ × α)) (c:κ) (x:α):List (κ × α) :=
 if (l.any fun q=>decide (q.1=c))=true then l.map (fun q=>if q.1=c then (q.1,x) else q) else l++[(c,x)]
theorem ZgW {κ κ' α : Type} [DecidableEq κ] [DecidableEq κ'] {f : κ → κ'} (hf : ∀ a b, f a=f b → a=b) (g : α → V) (l : List (κ × α)) (c : κ) (x : α) :
  ZjG (l.map fun q=>(f q.1,g q.2)) (f c) (g x)=(Zba l c x).map fun q=>(f q.1,g q.2):=by
 have hd:∀ a:κ,decide (f a=f c)=decide (a=c):=fun a=>by
  by_cases e:a=c
  ·subst e; simp
  ·rw [decide_eq_false e,decide_eq_false (fun z=>e (hf _ _ z))]
 unfold ZjG Zba
 have e1:((l.map fun q=>(f q.1,g q.2)).any fun kv=>decide (kv.1=f c))=l.any fun q=>decide (q.1=c):=by
  rw [List.any_map]
  exact congrArg (fun z=>l.any z) (funext fun q=>hd q.1)
 rw [e1]
 by_cases h:(l.any fun q=>decide (q.1=c))=true
 ·rw [if_pos h,if_pos h,List.map_map,List.map_map]
  refine List.map_congr_left fun q _=>?_
  show (if f q.1=f c then (f q.1,g x) else (f q.1,g q.2))=(fun q=>(f q.1,g q.2)) (if q.1=c then (q.1,x) else q)
  by_cases e:q.1=c
  ·rw [if_pos e,if_pos (by rw [e])]
  ·rw [if_neg e,if_neg (fun z=>e (hf _ _ z))]
 ·rw [if_neg h,if_neg h,List.map_append]
  rfl
theorem ZgS {κ α:Type} [DecidableEq κ] {l:List (κ × α)} {c:κ} {x:α} {q:κ × α} (h:q∈Zba l c x):q=(c,x)∨q∈l:=by
 unfold Zba at h
 split at h
 ·obtain ⟨p,hp,e⟩:=List.mem_map.mp h
  split at e
  ·rename_i pc
   subst e
   exact .inl (by rw [pc])
  ·subst e
   exact .inr hp
 ·rcases List.mem_append.mp h with h | h
  ·exact .inr h
  ·exact .inl (by simpa using h)
theorem ZlF {k li ti su:Addr} (h:[k,li,ti,su].Nodup):k≠li∧k≠ti∧k≠su∧li≠ti∧li≠su∧ti≠su:=by
 simp at h
 exact ⟨h.1.1,h.1.2.1,h.1.2.2,h.2.1.1,h.2.1.2,h.2.2⟩
theorem ZaV {H:Hp} {a c:Addr} {o u:HO} (h1:H a=some o) (h2:H c=some u) (n:o≠u):a≠c:=fun e=>by
 subst e
 rw [h1] at h2
 exact n (Option.some.inj h2)
theorem ZcB {K:W.Frag} {H:Hp} {a c:Addr} {xs:List V} {o o':HO} (h:SqT K H a xs) (e:H c=some o) (no:∀ ys,o≠.tup ys) (nf:∀ x ys,o≠.frz x ys):SqT K (upd H c o') a xs:=by
 rcases h with h | h
 ·rcases h with h | ⟨x,h⟩
  ·exact .inl (.inl ((Zak (ZaV h e (fun z=>no _ z.symm))).trans h))
  ·exact .inl (.inr ⟨x,(Zak (ZaV h e (fun z=>nf _ _ z.symm))).trans h⟩)
 ·exact .inr h
theorem BkAt.links {K : W.Frag} {C : Addr} {H : Hp} {b dx k bi li ti su : Addr} {B : Bk} (h : BkAt K C H b dx k bi li ti su B) {l : List ((Str × Str) × Addr × List Str)}
  (hl:∀ q∈l,H q.2.1=some (.lst (q.2.2.map V.str))):BkAt K C (upd H li (.dT (l.map fun q=>(two q.1,V.ref q.2.1)))) b dx k bi li ti su { B with links:=l }:=by
 obtain ⟨n1,n2,n3,n4,n5,n6⟩:=ZlF h.ap
 have dk:∀ {c:Addr} {z:List (Key × V)},H c=some (.dK z)->c≠li:=fun e=>ZaV e h.li (fun z=>by cases z)
 exact ⟨(Zak (ZaV h.ob h.li (fun z=>by cases z))).trans h.ob,h.ap,h.at',(Zak n1).trans h.ke,(Zak (dk h.bi)).trans h.bi,Zab,(Zak n4.symm).trans h.ti,(Zak n5.symm).trans h.su,
  fun p hp=>ZcB (h.en p hp) h.li (fun _ z=>by cases z) (fun _ _ z=>by cases z),fun q hq=>(Zak (ZaV (hl q hq) h.li (fun z=>by cases z))).trans (hl q hq),fun q hq=>(Zak (dk (h.tt q hq))).trans (h.tt q hq)⟩
noncomputable def lk (ls:List ((Str × Str) × Addr × List Str)) (c:Str × Str):List Str:=((Za3 c ls).map (·.2)).getD []
noncomputable def Zb2 (f:Str × Str->List Str) (c:Str × Str) (m:Str):Str × Str->List Str:=fun x=>if x=c then ZaL (f c++[m]) else f x
theorem Zhn {c:Str × Str}:∀ {l:List ((Str × Str) × Addr × List Str)},(l.any fun q=>decide (q.1=c))=false->Za3 c l=none
 | [],_=>rfl
 | q :: r,h=>by
  rw [List.any_cons,Bool.or_eq_false_iff] at h
  unfold Za3
  rw [if_neg (of_decide_eq_false h.1)]
  exact Zhn h.2
theorem ZiK {c:Str × Str}:∀ {l m:List ((Str × Str) × Addr × List Str)},Za3 c (l++m)=(Za3 c l).or (Za3 c m)
 | [],m=>by simp [Za3]
 | q :: r,m=>by
  show (if q.1=c then some q.2 else Za3 c (r++m))=(if q.1=c then some q.2 else Za3 c r).or (Za3 c m)
  by_cases e:q.1=c
  ·rw [if_pos e,if_pos e]; rfl
  ·rw [if_neg e,if_neg e]; exact ZiK
theorem ZiT {c d:Str × Str} {x:Addr × List Str}:∀ {l:List ((Str × Str) × Addr × List Str)},Za3 d (l.map fun q=>if q.1=c then (q.1,x) else q)=if d=c then (Za3 c l).map (fun _=>x) else Za3 d l
 | []=>by by_cases e:d=c <;> simp [Za3,e]
 | q :: r=>by
  have ih:=ZiT (c:=c) (d:=d) (x:=x) (l:=r)
  rw [List.map_cons]
  by_cases e:q.1=c
  ·rw [if_pos e]
   by_cases e2:d=c
   ·subst e2
    rw [if_pos rfl]
    unfold Za3
    rw [if_pos e,if_pos e]
    rfl
   ·rw [if_neg e2] at ih ⊢
    unfold Za3
    rw [if_neg (fun z=>e2 (z.symm.trans e)),if_neg (fun z=>e2 (z.symm.trans e))]
    exact ih
  ·rw [if_neg e]
   by_cases e2:d=c
   ·subst e2
    rw [if_pos rfl] at ih ⊢
    unfold Za3
    rw [if_neg e,if_neg e]
    exact ih
   ·rw [if_neg e2] at ih ⊢
    unfold Za3
    by_cases e3:q.1=d
    ·rw [if_pos e3,if_pos e3]
    ·rw [if_neg e3,if_neg e3]; exact ih
theorem Ziv (l:List ((Str × Str) × Addr × List Str)) (c d:Str × Str) (x:Addr × List Str):Za3 d (Zba l c x)=if d=c then some x else Za3 d l:=by
 unfold Zba
 by_cases h:(l.any fun q=>decide (q.1=c))=true
 ·rw [if_pos h,ZiT]
  by_cases e:d=c
  ·rw [if_pos e,if_pos e]
   cases hk:Za3 c l with
   | some y=>rfl
   | none =>
    exfalso
    have:∀ {l:List ((Str × Str) × Addr × List Str)},Za3 c l=none->(l.any fun q=>decide (q.1=c))=false:=by
     intro l
     induction l with
     | nil=>intro _; rfl
     | cons q r ih =>
      intro hn
      unfold Za3 at hn
      by_cases e:q.1=c
      ·rw [if_pos e] at hn; cases hn
      ·rw [if_neg e] at hn
       rw [List.any_cons,ih hn,decide_eq_false e]; rfl
    rw [this hk] at h
    cases h
  ·rw [if_neg e,if_neg e]
 ·rw [if_neg h,ZiK]
  by_cases e:d=c
  ·subst e
   rw [if_pos rfl,Zhn (Bool.eq_false_iff.mpr h)]
   simp [Za3]
  ·rw [if_neg e]
   cases Za3 d l with
   | some y=>rfl
   | none=>simp [Za3,Ne.symm e]
theorem Zfw (l:List ((Str × Str) × Addr × List Str)) (c d:Str × Str) (D:Addr) (m:Str):lk (Zba l c (D,ZaL (lk l c++[m]))) d=Zb2 (lk l) c m d:=by
 unfold lk Zb2
 rw [Ziv]
 by_cases e:d=c
 ·rw [if_pos e,if_pos e]; rfl
 ·rw [if_neg e,if_neg e]
theorem Zcd {κ α:Type} [DecidableEq κ] (l:List (κ × α)) (c:κ) (x:α):(Zba l c x).length≤l.length+1:=by
 unfold Zba
 split
 ·rw [List.length_map]; omega
 ·rw [List.length_append]; exact Nat.le_refl _
theorem Zmg (B:Bk) (l n:Str):Zb4 B l n=lk B.links (l,n):=rfl
noncomputable def Zc2 (F:Str × Str->List Str) (n f m:Str):Str × Str->List Str :=
 let F1:=if f="" then F else Zb2 (Zb2 F ("F",n) f) ("f",f) n
 if m="" then F1 else Zb2 (Zb2 F1 ("M",n) m) ("m",m) n
theorem Zfp {F:Str × Str->List Str} {c d:Str × Str} {m:Str} (h:d.1≠c.1):Zb2 F c m d=F d:=if_neg fun e=>h (by rw [e])
theorem Zc5 {F G:Str × Str->List Str} (h:∀ c,F c=G c) (c:Str × Str) (m:Str) (d:Str × Str):Zb2 F c m d=Zb2 G c m d:=by
 unfold Zb2
 rw [h c,h d]
theorem Zos (l:List (Ent × Addr)) (n s:Str) (d:Int) (f m:Str) (a:Addr):Bk.bornD (l++[(.born n s d f m,a)])=Bk.bornD l++[(.inr n,.ref a)]:=by
 unfold Bk.bornD
 rw [List.filterMap_append]
 rfl
theorem ZnL (l:List (Ent × Addr)):(Bk.bornD l).length≤l.length:=List.length_filterMap_le ..
theorem But.mono {S S':List Addr} {H H':Hp} (h:But S H H') (i:∀ a∈S,a∈S'):But S' H H':=⟨fun a o n e=>h.eq a o (fun z=>n (i a z)) e,h.al⟩
noncomputable def Zek (l:List (Ent × Addr)):List (Str × V):=l.filterMap fun p=>p.1.bornName.map fun n=>(n,.ref p.2)
theorem Zhl (l:List (Ent × Addr)):Bk.bornD l=(Zek l).map fun p=>(.inr p.1,p.2):=by
 unfold Bk.bornD Zek
 rw [List.map_filterMap]
 congr 1
 funext p
 cases p.1.bornName <;> rfl
noncomputable def ZaG (l:List (Ent × Addr)):List Str:=l.filterMap fun p=>p.1.bornName
theorem Zft (l:List (Ent × Addr)):(Zek l).map (·.1)=ZaG l:=by
 unfold ZaG Zek
 rw [List.map_filterMap]
 congr 1
 funext p
 cases p.1.bornName <;> rfl
def Grows (H:Hp) (ls ls':List ((Str × Str) × Addr × List Str)):Prop:=∀ q∈ls',(∃ p∈ls,p.2.1=q.2.1)∨H q.2.1=none
theorem Grows.refl (H:Hp) (ls:List ((Str × Str) × Addr × List Str)):Grows H ls ls:=fun q hq=>.inl ⟨q,hq,rfl⟩
theorem Grows.put {H:Hp} {ls ls':List ((Str × Str) × Addr × List Str)} {c:Str × Str} {D:Addr} {x:List Str} (g:Grows H ls ls') (n:H D=none):Grows H ls (Zba ls' c (D,x)):=fun q hq=>by
 rcases ZgS hq with rfl | hq
 ·exact .inr n
 ·exact g q hq
theorem Grows.back {H H':Hp} {ls ls':List ((Str × Str) × Addr × List Str)} (g:Grows H' ls ls') (al:∀ a,H' a=none->H a=none):Grows H ls ls':=fun q hq=>(g q hq).imp id (al _)
noncomputable def ZaZ {κ α:Type} [DecidableEq κ] (c:κ):List (κ × α)->Option α
 | []=>none
 | q :: r=>if q.1=c then some q.2 else ZaZ c r
theorem ZiI {κ α:Type} [DecidableEq κ] {c:κ}:∀ {l:List (κ × α)},(l.any fun q=>decide (q.1=c))=false->ZaZ c l=none
 | [],_=>rfl
 | q :: r,h=>by
  rw [List.any_cons,Bool.or_eq_false_iff] at h
  unfold ZaZ
  rw [if_neg (of_decide_eq_false h.1)]
  exact ZiI h.2
theorem ZfR {κ α:Type} [DecidableEq κ] {c:κ}:∀ {l:List (κ × α)},ZaZ c l=none->(l.any fun q=>decide (q.1=c))=false
 | [],_=>rfl
 | q :: r,h=>by
  unfold ZaZ at h
  by_cases e:q.1=c
  ·rw [if_pos e] at h; cases h
  ·rw [if_neg e] at h
   rw [List.any_cons,ZfR h,decide_eq_false e]
   rfl
theorem Zfr {κ α:Type} [DecidableEq κ] {c:κ}:∀ {l m:List (κ × α)},ZaZ c (l++m)=(ZaZ c l).or (ZaZ c m)
 | [],m=>by simp [ZaZ]
 | q :: r,m=>by
  show (if q.1=c then some q.2 else ZaZ c (r++m))=(if q.1=c then some q.2 else ZaZ c r).or (ZaZ c m)
  by_cases e:q.1=c
  ·rw [if_pos e,if_pos e]; rfl
  ·rw [if_neg e,if_neg e]; exact Zfr
theorem Zkb {κ α:Type} [DecidableEq κ] {c d:κ} {x:α}:∀ {l:List (κ × α)},ZaZ d (l.map fun q=>if q.1=c then (q.1,x) else q)=if d=c then (ZaZ c l).map (fun _=>x) else ZaZ d l
 | []=>by by_cases e:d=c <;> simp [ZaZ,e]
 | q :: r=>by
  have ih:=Zkb (c:=c) (d:=d) (x:=x) (l:=r)
  rw [List.map_cons]
  by_cases e:q.1=c
  ·rw [if_pos e]
   by_cases e2:d=c
   ·subst e2
    rw [if_pos rfl]
    unfold ZaZ
    rw [if_pos e,if_pos e]
    rfl
   ·rw [if_neg e2] at ih ⊢
    unfold ZaZ
    rw [if_neg (fun z=>e2 (z.symm.trans e)),if_neg (fun z=>e2 (z.symm.trans e))]
    exact ih
  ·rw [if_neg e]
   by_cases e2:d=c
   ·subst e2
    rw [if_pos rfl] at ih ⊢
    unfold ZaZ
    rw [if_neg e,if_neg e]
    exact ih
   ·rw [if_neg e2] at ih ⊢
    unfold ZaZ
    by_cases e3:q.1=d
    ·rw [if_pos e3,if_pos e3]
    ·rw [if_neg e3,if_neg e3]; exact ih
theorem ZjL {κ α:Type} [DecidableEq κ] (l:List (κ × α)) (c d:κ) (x:α):ZaZ d (Zba l c x)=if d=c then some x else ZaZ d l:=by
 unfold Zba
 by_cases h:(l.any fun q=>decide (q.1=c))=true
 ·rw [if_pos h,Zkb]
  by_cases e:d=c
  ·rw [if_pos e,if_pos e]
   cases hk:ZaZ c l with
   | some y=>rfl
   | none=>rw [ZfR hk] at h; cases h
  ·rw [if_neg e,if_neg e]
 ·rw [if_neg h,Zfr]
  by_cases e:d=c
  ·subst e
   rw [if_pos rfl,ZiI (Bool.eq_false_iff.mpr h)]
   simp [ZaZ]
  ·rw [if_neg e]
   cases ZaZ d l with
   | some y=>rfl
   | none=>simp [ZaZ,Ne.symm e]
theorem ZdD {κ α:Type} [DecidableEq κ] {c:κ}:∀ {l:List (κ × α)} {x:α},ZaZ c l=some x->(c,x)∈l
 | [],_,h=>by cases h
 | q :: r,x,h=>by
  unfold ZaZ at h
  by_cases e:q.1=c
  ·rw [if_pos e] at h
   cases h
   rw [← e]
   exact List.mem_cons_self ..
  ·rw [if_neg e] at h
   exact List.mem_cons_of_mem _ (ZdD h)
theorem ZfV {κ κ' α:Type} [DecidableEq κ] [DecidableEq κ'] {f:κ->κ'} (hf:∀ a b,f a=f b->a=b) (g:α->V) (c:κ):∀ l:List (κ × α),Zdv (l.map fun q=>(f q.1,g q.2)) (f c)=(ZaZ c l).map g
 | []=>rfl
 | q :: r=>by
  have ih:=ZfV hf g c r
  unfold ZaZ
  rw [List.map_cons]
  by_cases e:q.1=c
  ·subst e
   rw [Zcc rfl,if_pos rfl]
   rfl
  ·rw [Zbr (fun z=>e (hf _ _ z)),if_neg e]
   exact ih
noncomputable def ZbV (B:Bk) (c:Str × Str):List (Int × Str):=((ZaZ c B.ties).map (·.2)).getD []
noncomputable def ZcW (l:List (Int × Str)):Bool:=match (l.map (·.1)).max? with
 | none=>false
 | some m=>decide (ZaZ m l=some ("union" : Str))
noncomputable def Zjy (B:Bk) (a b:Str):Bool:=ZcW (ZbV B (Zan a b))
noncomputable def Zip (l:List (Int × Str)):List (Key × V):=l.map fun r=>(.inl r.1,.str r.2)
theorem Zon:∀ a b:Int,(.inl a:Key)=.inl b->a=b:=fun _ _ h=>Sum.inl.inj h
theorem Zoc {l:List (Int × Str)} {m:Int} (h:m∈l.map (·.1)):∃ x,ZaZ m l=some x:=by
 cases e:ZaZ m l with
 | some x=>exact ⟨x,rfl⟩
 | none =>
  obtain ⟨q,hq,rfl⟩:=List.mem_map.mp h
  have:=ZfR e
  rw [List.any_eq_false] at this
  exact absurd (decide_eq_true rfl) (this q hq)
theorem Zli {l:List (Int × Str)} {m:Int} {x:Str} (hm:m∈l.map (·.1)) (hx:∀ y∈l.map (·.1),y≤m) (e:ZaZ m l=some x):ZcW l=decide (x="union"):=by
 have h:(l.map (·.1)).max?=some m:=List.max?_eq_some_iff.mpr ⟨hm,hx⟩
 unfold ZcW
 rw [h]
 show decide (ZaZ m l=some ("union" : Str))=_
 rw [e]
 simp
theorem Zf5 (a b:Str):Zan a b=Zan b a:=by
 unfold Zan
 by_cases h:Zbb b a=true
 ·by_cases h2:Zbb a b=true
  ·have l1:b.cps.toList<a.cps.toList:=of_decide_eq_true h
   have l2:a.cps.toList<b.cps.toList:=of_decide_eq_true h2
   exact absurd l1 (List.lt_asymm l2)
  ·rw [if_pos h,if_neg h2]
 ·by_cases h2:Zbb a b=true
  ·rw [if_neg h,if_pos h2]
  ·rw [if_neg h,if_neg h2,Zcb (Bool.eq_false_iff.mpr h) (Bool.eq_false_iff.mpr h2)]
noncomputable def Zbc (F:Str × Str->List Str) (st:Bool) (x y:Str):Str × Str->List Str:=fun c =>
 if c=(("S",x):Str × Str) then (if st=true then ZaL ((F c).filter (fun n=>decide (n≠y))++[y]) else (F c).filter fun n=>decide (n≠y)) else F c
noncomputable def Zjv (ts:List ((Str × Str) × Addr × List (Int × Str))) (c:Str × Str):List (Int × Str):=((ZaZ c ts).map (·.2)).getD []
theorem ZqK (B:Bk) (c:Str × Str):ZbV B c=Zjv B.ties c:=rfl
theorem ZiA {ts:List ((Str × Str) × Addr × List (Int × Str))} {c:Str × Str} {d:Addr} {l l':List (Int × Str)} (n:(ts.map (·.1)).Nodup) (h:ZaZ c ts=some (d,l)):(Zba ts c (d,l')).map (·.2.1)=ts.map (·.2.1)∧(Zba ts c (d,l')).map (·.1)=ts.map (·.1):=by
 have an:(ts.any fun q=>decide (q.1=c))=true:=by
  rw [List.any_eq_true]
  exact ⟨_,ZdD h,decide_eq_true rfl⟩
 unfold Zba
 rw [if_pos an,List.map_map,List.map_map]
 constructor
 ·refine List.map_congr_left fun q hq=>?_
  show (if q.1=c then (q.1,(d,l')) else q).2.1=q.2.1
  by_cases e:q.1=c
  ·rw [if_pos e]
   have:q.2=(d,l):=by
    have go:∀ {ts:List ((Str × Str) × Addr × List (Int × Str))},(ts.map (·.1)).Nodup->ZaZ c ts=some (d,l)->q∈ts->q.2=(d,l):=by
     intro ts
     induction ts with
     | nil=>intro _ _ h; cases h
     | cons p r ih =>
      intro n f m
      rw [List.map_cons,List.nodup_cons] at n
      unfold ZaZ at f
      by_cases e2:p.1=c
      ·rw [if_pos e2] at f
       rcases List.mem_cons.mp m with rfl | m
       ·exact Option.some.inj f
       ·exact absurd (List.mem_map.mpr ⟨q,m,e.trans e2.symm⟩) n.1
      ·rw [if_neg e2] at f
       rcases List.mem_cons.mp m with rfl | m
       ·exact absurd e e2
       ·exact ih n.2 f m
    exact go n h hq
   rw [this]
  ·rw [if_neg e]
 ·refine List.map_congr_left fun q hq=>?_
  show (if q.1=c then (q.1,(d,l')) else q).1=q.1
  split <;> rfl
theorem BkAt.newTie {K : W.Frag} {C : Addr} {H : Hp} {b dx k bi li ti su z : Addr} {B : Bk} (h : BkAt K C H b dx k bi li ti su B) (nz : H z=some (.dK [])) (fr : z ≠ bi ∧ ∀ q ∈ B.ties, q.2.1 ≠ z) (c : Str × Str) :
  BkAt K C (upd H ti (.dT (B.tiesD++[(two c,.ref z)]))) b dx k bi li ti su { B with ties:=B.ties++[(c,z,[])] }:=by
 obtain ⟨n1,n2,n3,n4,n5,n6⟩:=ZlF h.ap
 have dk:∀ {a:Addr} {w:List (Key × V)},H a=some (.dK w)->a≠ti:=fun e=>ZaV e h.ti (fun z=>by cases z)
 refine ⟨(Zak (ZaV h.ob h.ti (fun z=>by cases z))).trans h.ob,h.ap,?_,(Zak n2).trans h.ke,(Zak (dk h.bi)).trans h.bi,(Zak n4).trans h.li,?_,(Zak n6.symm).trans h.su,fun p hp=>ZcB (h.en p hp) h.ti (fun _ z=>by cases z) (fun _ _ z=>by cases z),
  fun q hq=>(Zak (ZaV (h.ll q hq) h.ti (fun z=>by cases z))).trans (h.ll q hq),fun q hq=>?_⟩
 ·show (bi :: (B.ties++[((c,z,[]):(Str × Str) × Addr × List (Int × Str))]).map (·.2.1)).Nodup
  rw [List.map_append,← List.cons_append,List.nodup_append]
  refine ⟨h.at',by simp,fun a ha x hx e=>?_⟩
  have ex:x=z:=by simpa using hx
  subst ex e
  rcases List.mem_cons.mp ha with rfl | ha
  ·exact fr.1 rfl
  ·obtain ⟨q,hq,rfl⟩:=List.mem_map.mp ha
   exact fr.2 q hq rfl
 ·rw [Zab]
  show some (HO.dT _)=some (.dT ((B.ties++[((c,z,[]):(Str × Str) × Addr × List (Int × Str))]).map fun q=>(two q.1,V.ref q.2.1)))
  rw [List.map_append]
  rfl
 ·rcases List.mem_append.mp hq with hq | hq
  ·exact (Zak (dk (h.tt q hq))).trans (h.tt q hq)
  ·have e:q=(c,z,[]):=by simpa using hq
   subst e
   exact (Zak (dk nz)).trans nz
theorem BkAt.putTie {K : W.Frag} {C : Addr} {H : Hp} {b dx k bi li ti su d : Addr} {B : Bk} {c : Str × Str} {l : List (Int × Str)} (h : BkAt K C H b dx k bi li ti su B) (n : (B.ties.map (·.1)).Nodup) (f : ZaZ c B.ties=some (d, l)) (l' : List (Int × Str)) :
  BkAt K C (upd H d (.dK (Zip l'))) b dx k bi li ti su { B with ties:=Zba B.ties c (d,l') }:=by
 have hm:=ZdD f
 have hd:H d=some (.dK (Zip l)):=h.tt _ hm
 have at2:=h.at'
 rw [List.nodup_cons] at at2
 have bd:bi≠d:=fun e=>at2.1 (List.mem_map.mpr ⟨_,hm,e.symm⟩)
 have dt:∀ {a:Addr} {w:List (List Key × V)},H a=some (.dT w)->a≠d:=fun e=>ZaV e hd (fun z=>by cases z)
 obtain ⟨pa1,pa2⟩:=ZiA (l':=l') n f
 refine ⟨(Zak (ZaV h.ob hd (fun z=>by cases z))).trans h.ob,h.ap,?_,(Zak (dt h.ke)).trans h.ke,(Zak bd).trans h.bi,(Zak (dt h.li)).trans h.li,?_,(Zak (dt h.su)).trans h.su,fun p hp=>ZcB (h.en p hp) hd (fun _ z=>by cases z) (fun _ _ z=>by cases z),
  fun q hq=>(Zak (ZaV (h.ll q hq) hd (fun z=>by cases z))).trans (h.ll q hq),fun q hq=>?_⟩
 ·show (bi :: (Zba B.ties c (d,l')).map (·.2.1)).Nodup
  rw [pa1]
  exact h.at'
 ·have e:(Zba B.ties c (d,l')).map (fun q=>(two q.1,V.ref q.2.1))=B.tiesD:=by
   have e1:(fun q:(Str × Str) × Addr × List (Int × Str)=>(two q.1,V.ref q.2.1))=(fun p:(Str × Str) × Addr=>(two p.1,V.ref p.2)) ∘ fun q=>(q.1,q.2.1):=rfl
   have e2:∀ ts:List ((Str × Str) × Addr × List (Int × Str)),ts.map (fun q=>(q.1,q.2.1))=(ts.map (·.1)).zip (ts.map (·.2.1)):=fun ts=>by
    induction ts with
    | nil=>rfl
    | cons q r ih=>simp [ih]
   unfold Bk.tiesD
   rw [e1,← List.map_map,← List.map_map,e2,e2,pa1,pa2]
  rw [Zak (dt h.ti)]
  show H ti=some (.dT ((Zba B.ties c (d,l')).map fun q=>(two q.1,V.ref q.2.1)))
  rw [e]
  exact h.ti
 ·rcases ZgS hq with rfl | hq2
  ·exact Zab
  ·by_cases e:q.2.1=d
   ·-- the same address: the same pair
    have:q=(c,d,l)∨q=(c,d,l'):=by
     have hnd:=(List.nodup_cons.mp h.at').2
     have go:∀ {ts:List ((Str × Str) × Addr × List (Int × Str))},(ts.map (·.2.1)).Nodup->(c,d,l)∈ts->q∈ts->q=(c,d,l):=by
      intro ts
      induction ts with
      | nil=>intro _ h; cases h
      | cons p r ih =>
       intro n h1 h2
       rw [List.map_cons,List.nodup_cons] at n
       rcases List.mem_cons.mp h1 with e1 | h1'
       ·rcases List.mem_cons.mp h2 with e2 | h2'
        ·rw [e2,e1]
        ·rw [← e1] at n
         exact absurd (List.mem_map.mpr ⟨q,h2',e⟩) n.1
       ·rcases List.mem_cons.mp h2 with e2 | h2'
        ·rw [← e2] at n
         exact absurd (List.mem_map.mpr ⟨(c,d,l),h1',e.symm⟩) n.1
        ·exact ih n.2 h1' h2'
     exact .inl (go hnd hm hq2)
    rcases this with rfl | rfl
    ·-- then it was told anew
     have an:(B.ties.any fun q=>decide (q.1=c))=true:=by
      rw [List.any_eq_true]
      exact ⟨_,hm,decide_eq_true rfl⟩
     unfold Zba at hq
     rw [if_pos an] at hq
     obtain ⟨p,hp,ep⟩:=List.mem_map.mp hq
     by_cases pc:p.1=c
     ·rw [if_pos pc] at ep
      have:l'=l:=by
       have:=congrArg (fun z=>z.2.2) ep
       exact this
      subst this
      exact Zab
     ·rw [if_neg pc] at ep
      subst ep
      exact absurd rfl pc
    ·exact Zab
   ·exact (Zak e).trans (h.tt q hq2)
theorem Zo5 (ts:List ((Str × Str) × Addr × List (Int × Str))) (c x:Str × Str) (d:Addr) (l:List (Int × Str)):Zjv (Zba ts c (d,l)) x=if x=c then l else Zjv ts x:=by
 unfold Zjv
 rw [ZjL]
 by_cases e:x=c
 ·rw [if_pos e,if_pos e]; rfl
 ·rw [if_neg e,if_neg e]
theorem Zpw (ts:List ((Str × Str) × Addr × List (Int × Str))) (c x:Str × Str) (d:Addr) (h:ZaZ c ts=none):Zjv (ts++[(c,d,[])]) x=Zjv ts x:=by
 unfold Zjv
 rw [Zfr]
 cases e:ZaZ x ts with
 | some y=>rfl
 | none =>
  unfold ZaZ
  by_cases e2:c=x
  ·rw [if_pos e2]; rfl
  ·rw [if_neg e2]; rfl
noncomputable def Zqb (y:Str) (n:Str):Option V:=if n=y then none else some (.str n)
theorem ZlZ (y:Str):∀ l:List Str,(l.map (Zqb y)).filterMap id=(l.filter fun n=>decide (n≠y)).map V.str
 | []=>rfl
 | n :: r=>by
  have ih:=ZlZ y r
  by_cases h:n=y
  ·subst h
   simp only [List.map_cons,List.filterMap_cons,List.filter_cons]
   simpa [Zqb] using ih
  ·simp only [List.map_cons,List.filterMap_cons,List.filter_cons]
   simpa [Zqb,h] using ih
theorem ZnO (l:List ((Str × Str) × Addr × List Str)) (c d:Str × Str) (D:Addr) (z:List Str):lk (Zba l c (D,z)) d=if d=c then z else lk l d:=by
 unfold lk
 rw [Ziv]
 by_cases e:d=c
 ·rw [if_pos e,if_pos e]; rfl
 ·rw [if_neg e,if_neg e]
theorem Zhd (F:Str × Str->List Str) (st:Bool) (x y:Str) (c:Str × Str):(Zbc F st x y c).length≤(F c).length+1:=by
 unfold Zbc
 have h:=List.length_filter_le (fun n=>decide (n≠y)) (F c)
 split
 ·split
  ·rw [(ZbB _).length_eq,List.length_append]
   show _+1≤_
   omega
  ·omega
 ·omega
theorem Zdg (a b:Str):Zan (Zan a b).1 (Zan a b).2=Zan a b:=by
 unfold Zan
 by_cases h:Zbb b a=true
 ·rw [if_pos h]
  show (if Zbb a b=true then (a,b) else (b,a))=(b,a)
  by_cases h2:Zbb a b=true
  ·have l1:b.cps.toList<a.cps.toList:=of_decide_eq_true h
   have l2:a.cps.toList<b.cps.toList:=of_decide_eq_true h2
   exact absurd l1 (List.lt_asymm l2)
  ·rw [if_neg h2]
 ·rw [if_neg h]
  show (if Zbb b a=true then (b,a) else (a,b))=(a,b)
  rw [if_neg h]
theorem ZcT (e:Ent):e.told.told=e.told:=by
 cases e with
 | union a b d=>show Ent.union (Zan (Zan a b).1 (Zan a b).2).1 (Zan (Zan a b).1 (Zan a b).2).2 d=_; rw [Zdg]; rfl
 | parted a b d=>show Ent.parted (Zan (Zan a b).1 (Zan a b).2).1 (Zan (Zan a b).1 (Zan a b).2).2 d=_; rw [Zdg]; rfl
 | _=>rfl
noncomputable def ZnI (F:Str × Str->List (Int × Str)):Ent->Str × Str->List (Int × Str)
 | .union a b d=>fun c=>if c=Zan a b then Zba (F (Zan a b)) d "union" else F c
 | .parted a b d=>fun c=>if c=Zan a b then Zba (F (Zan a b)) d "parted" else F c
 | _=>F
noncomputable def Zj4 (F:Str × Str->List Str) (G:Str × Str->List (Int × Str)):Ent->Str × Str->List Str
 | .born n _ _ f m=>Zc2 F n f m
 | .taken c t _=>Zb2 (Zb2 F ("T",c) t) ("t",t) c
 | .union a b d=>Zbc (Zbc F (ZcW (Zba (G (Zan a b)) d "union")) a b) (ZcW (Zba (G (Zan a b)) d "union")) b a
 | .parted a b d=>Zbc (Zbc F (ZcW (Zba (G (Zan a b)) d "parted")) a b) (ZcW (Zba (G (Zan a b)) d "parted")) b a
 | _=>F
noncomputable def ZjQ (ss:List ((Str × Str) × Int)) (c:Str × Str):Int:=(ZaZ c ss).getD 0
noncomputable def Zo1 (F:Str × Str->Int):Ent->Str × Str->Int
 | .given g t am _=>fun c=>if c=(g,t) then F c+am else F c
 | _=>F
theorem Zpa (ss:List ((Str × Str) × Int)) (g t:Str) (am d:Int) (c:Str × Str):ZjQ (Zba ss (g,t) (ZjQ ss (g,t)+am)) c=Zo1 (ZjQ ss) (.given g t am d) c:=by
 show _=if c=(g,t) then ZjQ ss c+am else ZjQ ss c
 unfold ZjQ
 rw [ZjL]
 by_cases e:c=(g,t)
 ·subst e
  rw [if_pos rfl,if_pos rfl]
  rfl
 ·rw [if_neg e,if_neg e]
def GrowsT (H:Hp) (ts ts':List ((Str × Str) × Addr × List (Int × Str))):Prop:=∀ a∈ts'.map (·.2.1),a∈ts.map (·.2.1)∨H a=none
theorem GrowsT.refl (H:Hp) (ts:List ((Str × Str) × Addr × List (Int × Str))):GrowsT H ts ts:=fun _ h=>.inl h
theorem GrowsT.back {H H':Hp} {ts ts':List ((Str × Str) × Addr × List (Int × Str))} (g:GrowsT H' ts ts') (al:∀ a,H' a=none->H a=none):GrowsT H ts ts':=fun a ha=>(g a ha).imp id (al a)
structure Put (B:Bk) (e:Ent) (B':Bk):Prop where
 su:∀ c,ZjQ B'.sums c=Zo1 (ZjQ B.sums) e.told c
 kept:∃ a,B'.kept=B.kept++[(e.told,a)]
 lks:∀ c,lk B'.links c=Zj4 (lk B.links) (Zjv B.ties) e.told c
 tis:∀ c,Zjv B'.ties c=ZnI (Zjv B.ties) e.told c
 nd:(B'.ties.map (·.1)).Nodup
 nl:B'.links.length≤B.links.length+4
 nt:B'.ties.length≤B.ties.length+1
 ns:B'.sums.length≤B.sums.length+1
structure Room1 (B:Bk):Prop where
 nd:(B.ties.map (·.1)).Nodup
 nl:B.links.length≤870
 nt:B.ties.length≤790
 ns:B.sums.length≤790
 ll:∀ c,(lk B.links c).length≤60
 tt:∀ c,(Zjv B.ties c).length≤790
theorem ZoN {H:Hp} {a:Addr} {o:HO} (h:H a=some o):upd H a o=H:=by
 funext c
 by_cases e:c=a
 ·subst e; rw [Zab,h]
 ·rw [Zak e]
theorem BkAt.kept {K : W.Frag} {C : Addr} {H : Hp} {b dx k bi li ti su a : Addr} {B : Bk} {e : Ent} (h : BkAt K C H b dx k bi li ti su B) (ha : SqT K H a (e.row.map kV)) :
  BkAt K C (upd (upd H k (.dT (B.keptD++[(e.key,.ref a)]))) bi (.dK (Bk.bornD (B.kept++[(e,a)])))) b dx k bi li ti su { B with kept:=B.kept++[(e,a)] }:=by
 obtain ⟨n1,n2,n3,n4,n5,n6⟩:=ZlF h.ap
 have kb:k≠bi:=ZaV h.ke h.bi (fun z=>by cases z)
 have at2:=List.nodup_cons.mp h.at'
 have dt:∀ {c:Addr} {w:List (List Key × V)},H c=some (.dT w)->c≠k->(upd (upd H k (.dT (B.keptD++[(e.key,.ref a)]))) bi (.dK (Bk.bornD (B.kept++[(e,a)])))) c=some (.dT w):=fun hc n=>(Zak (ZaV hc h.bi (fun z=>by cases z))).trans ((Zak n).trans hc)
 have sq:∀ {c:Addr} {xs:List V},SqT K H c xs->SqT K (upd (upd H k (.dT (B.keptD++[(e.key,.ref a)]))) bi (.dK (Bk.bornD (B.kept++[(e,a)])))) c xs:=fun {c xs} hc=>by
  have h1:SqT K (upd H k (.dT (B.keptD++[(e.key,.ref a)]))) c xs:=ZcB hc h.ke (fun _ z=>by cases z) (fun _ _ z=>by cases z)
  exact ZcB h1 ((Zak kb.symm).trans h.bi) (fun _ z=>by cases z) (fun _ _ z=>by cases z)
 refine ⟨(Zak (ZaV h.ob h.bi (fun z=>by cases z))).trans ((Zak (ZaV h.ob h.ke (fun z=>by cases z))).trans h.ob),h.ap,h.at',(Zak kb).trans ?_,Zab,dt h.li n1.symm,dt h.ti n2.symm,dt h.su n3.symm,fun p hp=>?_,fun q hq=>?_,fun q hq=>?_⟩
 ·rw [Zab]
  show some (HO.dT _)=some (.dT ((B.kept++[(e,a)]).map fun p=>(p.1.key,V.ref p.2)))
  rw [List.map_append]
  rfl
 ·rcases List.mem_append.mp hp with hp | hp
  ·exact sq (h.en p hp)
  ·have ep:p=(e,a):=by simpa using hp
   subst ep
   exact sq ha
 ·exact (Zak (ZaV (h.ll q hq) h.bi (fun z=>by cases z))).trans ((Zak (ZaV (h.ll q hq) h.ke (fun z=>by cases z))).trans (h.ll q hq))
 ·exact (Zak (fun z=>at2.1 (List.mem_map.mpr ⟨q,hq,z⟩))).trans ((Zak (ZaV (h.tt q hq) h.ke (fun z=>by cases z))).trans (h.tt q hq))
theorem Zoi {l:List (Ent × Addr)} {e:Ent} {a:Addr} (h:e.isBorn=false):Bk.bornD (l++[(e,a)])=Bk.bornD l:=by
 unfold Bk.bornD
 rw [List.filterMap_append]
 cases e with
 | born=>cases h
 | _=>simp [Ent.bornName]
theorem BkAt.sums {K : W.Frag} {C : Addr} {H : Hp} {b dx k bi li ti su : Addr} {B : Bk} (h : BkAt K C H b dx k bi li ti su B) (l : List ((Str × Str) × Int)) :
  BkAt K C (upd H su (.dT (l.map fun q=>(two q.1,V.int q.2)))) b dx k bi li ti su { B with sums:=l }:=by
 obtain ⟨n1,n2,n3,n4,n5,n6⟩:=ZlF h.ap
 have dk:∀ {c:Addr} {z:List (Key × V)},H c=some (.dK z)->c≠su:=fun e=>ZaV e h.su (fun z=>by cases z)
 exact ⟨(Zak (ZaV h.ob h.su (fun z=>by cases z))).trans h.ob,h.ap,h.at',(Zak n3).trans h.ke,(Zak (dk h.bi)).trans h.bi,(Zak n5).trans h.li,(Zak n6).trans h.ti,Zab,
  fun p hp=>ZcB (h.en p hp) h.su (fun _ z=>by cases z) (fun _ _ z=>by cases z),fun q hq=>(Zak (ZaV (h.ll q hq) h.su (fun z=>by cases z))).trans (h.ll q hq),fun q hq=>(Zak (dk (h.tt q hq))).trans (h.tt q hq)⟩
theorem ZmM {l:List (Ent × Addr)} {n s f m:Str} {d:Int} (h:Zdv (l.map fun p=>(p.1.key,V.ref p.2)) (Ent.born n s d f m).key=none):ZaD n l=none:=by
 induction l with
 | nil=>rfl
 | cons p r ih =>
  unfold ZaD
  rw [List.map_cons] at h
  by_cases e:p.1.bornName=some n
  ·exfalso
   have ek:p.1.key=(Ent.born n s d f m).key:=by
    cases hp:p.1 with
    | born n' s' d' f' m' =>
     rw [hp] at e
     cases (show n'=n from Option.some.inj e)
     rfl
    | _=>rw [hp] at e; cases e
   rw [Zcc ek] at h
   cases h
  ·rw [if_neg e]
   by_cases ek:p.1.key=(Ent.born n s d f m).key
   ·rw [Zcc ek] at h
    cases h
   ·rw [Zbr ek] at h
    exact ih h
theorem Zkc {B:Bk} {e:Ent} (h:ZmR B e=none):Zdv B.keptD e.told.key=none∧B.kept.length<400∧∀ n∈e.named,Known B n:=by
 unfold ZmR at h
 by_cases f:B.full e=true
 ·rw [if_pos f] at h; cases h
 rw [if_neg f] at h
 by_cases p:(e.named.all fun n=>(ZaD n B.kept).isSome)=false
 ·rw [if_pos p] at h; cases h
 rw [if_neg p] at h
 by_cases t:(Zdv B.keptD e.told.key).isSome=true
 ·rw [if_pos t] at h; cases h
 refine ⟨by simpa using t,?_,fun n hn=>?_⟩
 ·unfold Bk.full at f
  simp only [Bool.or_eq_true,decide_eq_true_eq,not_or] at f
  omega
 ·have:=p
  rw [Bool.not_eq_false] at this
  rw [List.all_eq_true] at this
  have:=this n hn
  unfold Known
  exact Option.isSome_iff_ne_none.mp this
theorem ZfZ (e:Ent) (n:Str):n∈e.told.named->n∈e.named:=by
 cases e with
 | union a b d =>
  show n∈[(Zan a b).1,(Zan a b).2]->n∈[a,b]
  unfold Zan
  split <;> simp <;> (intro h; rcases h with h | h <;> simp [h])
 | parted a b d =>
  show n∈[(Zan a b).1,(Zan a b).2]->n∈[a,b]
  unfold Zan
  split <;> simp <;> (intro h; rcases h with h | h <;> simp [h])
 | _=>exact id
theorem Zhv (n:Str):∀ (l m:List (Ent × Addr)),ZaD n (l++m)=(ZaD n l).or (ZaD n m)
 | [],m=>by simp [ZaD]
 | p :: r,m=>by
  show (if p.1.bornName=some n then some p else ZaD n (r++m))=(if p.1.bornName=some n then some p else ZaD n r).or (ZaD n m)
  by_cases e:p.1.bornName=some n
  ·rw [if_pos e,if_pos e]; rfl
  ·rw [if_neg e,if_neg e]; exact Zhv n r m
theorem Known.more {B B':Bk} {n:Str} {l:List (Ent × Addr)} (h:Known B n) (e:B'.kept=B.kept++l):Known B' n:=by
 unfold Known at *
 rw [e,Zhv]
 cases hb:ZaD n B.kept with
 | none=>exact absurd hb h
 | some p=>simp
noncomputable def Ziu (i:Int):Nat:=(97+i.fmod 26).toNat
theorem ZpM (i:Int):inL (Ziu i)=true:=by
 have h0:=Int.fmod_nonneg_of_pos i (show (0:Int)<26 by decide)
 have h1:=Int.fmod_lt_of_pos i (show (0:Int)<26 by decide)
 obtain ⟨m,hm,hl⟩:∃ m:Nat,i.fmod 26=(m:Int)∧m<26:=⟨(i.fmod 26).toNat,by omega,by omega⟩
 have e:Ziu i=97+m:=by unfold Ziu; rw [hm]; omega
 rw [e]
 have go:∀ m:Fin 26,inL (97+m.val)=true:=by decide +kernel
 exact go ⟨m,hl⟩
theorem Zp4 {i j:Int} (h:Ziu i=Ziu j):i.fmod 26=j.fmod 26:=by
 have h0:=Int.fmod_nonneg_of_pos i (show (0:Int)<26 by decide)
 have h1:=Int.fmod_nonneg_of_pos j (show (0:Int)<26 by decide)
 unfold Ziu at h
 omega
theorem ZrD (a b:Int) (h:a.fmod 26=b.fmod 26):∃ q,a-b=26*q:=by
 have e1:=Int.mul_fdiv_add_fmod a 26
 have e2:=Int.mul_fdiv_add_fmod b 26
 refine ⟨a.fdiv 26-b.fdiv 26,?_⟩
 rw [Int.mul_sub]
 omega
theorem ZoT {ns:List Int} {k:Nat} (h:k<ns.length):(ns.map V.int)[k]?=some (V.int (ns.getD k 0)):=by
 simp [List.getD,List.getElem?_eq_getElem h,h]
theorem ZjV {α β:Type} {f:α->β}:∀ {l:List α},(∀ a∈l,∀ b∈l,f a=f b->a=b)->l.Nodup->(l.map f).Nodup
 | [],_,_=>List.nodup_nil
 | a :: l,h,n=>by
  rw [List.nodup_cons] at n
  rw [List.map_cons,List.nodup_cons]
  refine ⟨fun m=>?_,ZjV (fun x hx y hy=>h x (List.mem_cons_of_mem _ hx) y (List.mem_cons_of_mem _ hy)) n.2⟩
  obtain ⟨b,hb,e⟩:=List.mem_map.mp m
  have:=h b (List.mem_cons_of_mem _ hb) a (List.mem_cons_self ..) e
  rw [this] at hb
  exact n.1 hb
theorem ZiD (i:Int):atI ZhB.cps.toList (i.fmod 26)=some (Ziu i):=by
 have h0:=Int.fmod_nonneg_of_pos i (show (0:Int)<26 by decide)
 have h1:=Int.fmod_lt_of_pos i (show (0:Int)<26 by decide)
 obtain ⟨m,hm,hl⟩:∃ m:Nat,i.fmod 26=(m:Int)∧m<26:=⟨(i.fmod 26).toNat,by omega,by omega⟩
 have e:Ziu i=97+m:=by unfold Ziu; rw [hm]; omega
 rw [e,hm]
 have go:∀ m:Fin 26,ZhB.cps.toList[m.val]?=some (97+m.val):=by decide +kernel
 exact Zgk (go ⟨m,hl⟩)
theorem ZlU (l:List Nat) (c:Nat):(⟨l.toArray⟩:Str)++⟨#[c]⟩=⟨(l++[c]).toArray⟩:=by
 show (⟨l.toArray++#[c]⟩:Str)=_
 rw [show l.toArray++#[c]=(l++[c]).toArray by simp]
theorem Zef (l:List Nat):(⟨l.toArray⟩:Str).length=l.length:=by
 show l.toArray.size=_
 rw [List.size_toArray]
theorem ZdB {H H1:Hp} {a:Addr} {o:HO} (e:Same H H1) (n:H a=none):Same H (upd H1 a o):=fun b u q=>by
 rw [Zak (Zap q n)]
 exact e b u q
noncomputable def ZaQ (bs:List (Ent × Addr)):List V:=bs.map fun p=>V.ref p.2
def RowsAt (K:W.Frag) (H:Hp) (bs:List (Ent × Addr)):Prop:=∀ p∈bs,SqT K H p.2 (p.1.row.map kV)
theorem RowsAt.mono {K:W.Frag} {H H':Hp} {bs:List (Ent × Addr)} (h:RowsAt K H bs) (s:Same H H'):RowsAt K H' bs:=fun p hp=>s.sqt (h p hp)
theorem Zk9 {d:Int} (h1:-10 ^ 18≤d) (h2:d≤10 ^ 18):Zqi (.int d)=true:=by
 show decide ((if d<0 then -d else d)≤10 ^ 18)=true
 exact decide_eq_true (by split <;> omega)
theorem Zj5 {x:Str} (h:x=""∨Nm x):Zfz (.str x)=true:=by
 rcases h with h | h
 ·subst h; decide +kernel
 ·unfold Zfz
  rw [h.ok]
  rfl
theorem Zp1 {s:Str} (h:s="he"∨s="she"∨s=""):ZiU (.str s)=true:=by
 rcases h with h | h | h <;> subst h <;> decide +kernel
theorem ZiM {x:Str} (h:Nm x):x.length≤100:=Nat.le_trans h.hi (by decide)
theorem ZqC {n s f m:Str} {d:Int} (hn:Nm n) (hs:s="he"∨s="she"∨s="") (d1:-10 ^ 18≤d) (d2:d≤10 ^ 18) (hf:f=""∨Nm f) (hm:m=""∨Nm m):(Ent.born n s d f m).Ok:=by
 refine ⟨?_,fun x hx=>?_⟩
 ·show Zei [.str "born",.str n,.str s,.int d,.str f,.str m]=true
  rw [ZcS,show Zfx "born"=some [.name,.sort,.day,.parent,.parent] by rfl]
  show ZcZ _ _=true
  unfold ZcZ Zc7
  simp [Zc7,chk,hn.ok,Zp1 hs,Zk9 d1 d2,Zj5 hf,Zj5 hm]
 ·have hf':f.length≤100:=hf.elim (fun h=>by subst h; decide +kernel) ZiM
  have hm':m.length≤100:=hm.elim (fun h=>by subst h; decide +kernel) ZiM
  have hs':s.length≤100:=by rcases hs with h | h | h <;> subst h <;> decide +kernel
  simp only [Ent.row,List.mem_cons,List.not_mem_nil,or_false] at hx
  rcases hx with h | h | h | h | h | h
  ·cases h; decide +kernel
  ·cases h; exact ZiM hn
  ·cases h; exact hs'
  ·cases h
  ·cases h; exact hf'
  ·cases h; exact hm'
theorem Zg9 {w a b:Str} {d:Int} (hw:w="taken"∨w="union"∨w="parted") (ha:Nm a) (hb:Nm b) (d1:-10 ^ 18≤d) (d2:d≤10 ^ 18):Zei [.str w,.str a,.str b,.int d]=true:=by
 rw [ZcS]
 have:Zfx w=some [.name,.name,.day]:=by rcases hw with h | h | h <;> subst h <;> rfl
 rw [this]
 show ZcZ _ _=true
 unfold ZcZ
 simp [Zc7,chk,ha.ok,hb.ok,Zk9 d1 d2]
theorem ZhT {w a b:Str} {d:Int} (hw:w.length≤100) (ha:Nm a) (hb:Nm b):∀ x:Str,(.inr x:Key)∈([.inr w,.inr a,.inr b,.inl d]:List Key)->x.length≤100:=fun x hx=>by
 simp only [List.mem_cons,List.not_mem_nil,or_false] at hx
 rcases hx with h | h | h | h
 ·cases h; exact hw
 ·cases h; exact ZiM ha
 ·cases h; exact ZiM hb
 ·cases h
theorem Zim {n s f m:Str} {d:Int}:∀ {l:List (Ent × Addr)},Ent.born n s d f m∈l.map (·.1)->(∀ {s' d' f' m'},Ent.born n s' d' f' m'∈l.map (·.1)->Ent.born n s' d' f' m'=.born n s d f m)->∃ a,ZaD n l=some (.born n s d f m,a)
 | [],h,_=>by cases h
 | p :: r,h,u=>by
  unfold ZaD
  by_cases e:p.1.bornName=some n
  ·rw [if_pos e]
   cases hp:p.1 with
   | born n' s' d' f' m' =>
    rw [hp] at e
    cases (show n'=n from Option.some.inj e)
    have:=u (s':=s') (d':=d') (f':=f') (m':=m') (by rw [List.map_cons,hp]; exact List.mem_cons_self ..)
    refine ⟨p.2,?_⟩
    rw [← this,← hp]
   | _=>rw [hp] at e; cases e
  ·rw [if_neg e]
   have h':Ent.born n s d f m∈r.map (·.1):=by
    rw [List.map_cons] at h
    rcases List.mem_cons.mp h with h | h
    ·exfalso
     rw [← h] at e
     exact e rfl
    ·exact h
   exact Zim h' fun hm=>u (by rw [List.map_cons]; exact List.mem_cons_of_mem _ hm)
abbrev LkT:=Str × Str->List Str
abbrev TiT:=Str × Str->List (Int × Str)
noncomputable def ZlV (p:LkT × TiT) (e:Ent):LkT × TiT:=(Zj4 p.1 p.2 e,ZnI p.2 e)
noncomputable def ZiO (es:List Ent):LkT × TiT:=es.foldl ZlV (fun _=>[],fun _=>[])
theorem ZfI (es:List Ent) (e:Ent):ZiO (es++[e])=ZlV (ZiO es) e:=by
 unfold ZiO
 rw [List.foldl_append]
 rfl
noncomputable def Zr3 (n:Str):Ent->List Str
 | .born n' _ _ f _=>if n'=n∧f≠"" then [f] else []
 | _=>[]
noncomputable def Zr7 (n:Str):Ent->List Str
 | .born n' _ _ _ m=>if n'=n∧m≠"" then [m] else []
 | _=>[]
noncomputable def Zr8 (n:Str):Ent->List Str
 | .born n' _ _ f _=>if f=n∧f≠"" then [n'] else []
 | _=>[]
noncomputable def Zsa (n:Str):Ent->List Str
 | .born n' _ _ _ m=>if m=n∧m≠"" then [n'] else []
 | _=>[]
noncomputable def Zr9 (n:Str):Ent->List Str
 | .taken c t _=>if c=n then [t] else []
 | _=>[]
noncomputable def Zr1 (n:Str):Ent->List Str
 | .taken c t _=>if t=n then [c] else []
 | _=>[]
theorem Zmb {l:List Str} (h:l.Pairwise fun a b=>ZjF a b=true):ZaL l=l:=Zjk (ZbB l) (ZfS l) h
theorem ZmF (l m:List Str):ZaL (ZaL l++m)=ZaL (l++m) :=
 Zjk ((ZbB _).trans (((ZbB l).append_right m).trans (ZbB _).symm)) (ZfS _) (ZfS _)
theorem Zbp (F:LkT) (l n l' n' m:Str):Zb2 F (l,n) m (l',n')=if l'=l∧n'=n then ZaL (F (l,n)++[m]) else F (l',n'):=by
 unfold Zb2
 by_cases h:l'=l∧n'=n
 ·obtain ⟨rfl,rfl⟩:=h
  rw [if_pos rfl,if_pos ⟨rfl,rfl⟩]
 ·rw [if_neg (fun e=>h (by injection e with a b; exact ⟨a,b⟩)),if_neg h]
theorem ZaM (F:LkT) (st:Bool) (x y l n:Str) (h:l≠"S"):Zbc F st x y (l,n)=F (l,n):=by
 unfold Zbc
 rw [if_neg (fun e=>h (by injection e))]
structure Adds (l:Str) (ad:Str->Ent->List Str):Prop where
 step:∀ (F:LkT) (G:TiT) (e:Ent) (n:Str),(F (l,n)).Pairwise (fun a b=>ZjF a b=true)->Zj4 F G e (l,n)=ZaL (F (l,n)++ad n e)
theorem Zam {l:List Str} (h:l.Pairwise fun a b=>ZjF a b=true):l=ZaL (l++[]):=by rw [List.append_nil,Zmb h]
theorem Zeh (F : LkT) (n f m l x : Str) : Zc2 F n f m (l, x) =
  if l="F"∧x=n∧f≠"" then ZaL (F ("F",n)++[f]) else if l="f"∧x=f∧f≠"" then ZaL (F ("f",f)++[n]) else
  if l="M"∧x=n∧m≠"" then ZaL (F ("M",n)++[m]) else if l="m"∧x=m∧m≠"" then ZaL (F ("m",m)++[n]) else F (l,x):=by
 have d1:("F" : Str)≠"f":=by decide +kernel
 have d2:("F" : Str)≠"M":=by decide +kernel
 have d3:("F" : Str)≠"m":=by decide +kernel
 have d4:("f" : Str)≠"M":=by decide +kernel
 have d5:("f" : Str)≠"m":=by decide +kernel
 have d6:("M" : Str)≠"m":=by decide +kernel
 unfold Zc2
 by_cases f0:f="" <;> by_cases m0:m="" <;> simp only [f0,m0,if_true,if_false,Zbp,ne_eq,not_true_eq_false,not_false_eq_true,and_false,and_true]
 ·by_cases h1:l="m"∧x=m
  ·obtain ⟨rfl,rfl⟩:=h1
   simp [d3.symm,d5.symm,d6.symm,d6]
  ·by_cases h2:l="M"∧x=n
   ·obtain ⟨rfl,rfl⟩:=h2
    simp [d6]
   ·simp [h1,h2]
 ·by_cases h1:l="f"∧x=f
  ·obtain ⟨rfl,rfl⟩:=h1
   simp [d1,d1.symm]
  ·by_cases h2:l="F"∧x=n
   ·obtain ⟨rfl,rfl⟩:=h2
    simp [d1]
   ·simp [h1,h2]
 ·by_cases h1:l="m"∧x=m
  ·obtain ⟨rfl,rfl⟩:=h1
   simp [d3.symm,d5.symm,d6.symm,d6,d3,d5]
  ·by_cases h2:l="M"∧x=n
   ·obtain ⟨rfl,rfl⟩:=h2
    simp [d6,d2,d4,d2.symm,d4.symm]
   ·by_cases h3:l="f"∧x=f
    ·obtain ⟨rfl,rfl⟩:=h3
     simp [d1,d1.symm,d4,d5]
    ·by_cases h4:l="F"∧x=n
     ·obtain ⟨rfl,rfl⟩:=h4
      simp [d1,d2,d3]
     ·simp [h1,h2,h3,h4]
theorem Zrm:Adds "F" Zr3:=⟨fun F G e n s=>by
 cases e with
 | born n' s' d f m =>
  show Zc2 F n' f m ("F",n)=_
  rw [Zeh]
  dsimp only [Zr3]
  by_cases h:n'=n∧f≠""
  ·rw [if_pos h,if_pos ⟨rfl,h.1.symm,h.2⟩,h.1]
  ·rw [if_neg h,if_neg (fun z=>h ⟨z.2.1.symm,z.2.2⟩),if_neg (fun z=>absurd z.1 (by decide +kernel)),if_neg (fun z=>absurd z.1 (by decide +kernel)),if_neg (fun z=>absurd z.1 (by decide +kernel))]
   exact Zam s
 | taken c t d=>show Zb2 (Zb2 F ("T",c) t) ("t",t) c ("F",n)=_; rw [Zbp,if_neg (fun z=>absurd z.1 (by decide +kernel)),Zbp,if_neg (fun z=>absurd z.1 (by decide +kernel))]; exact Zam s
 | union a b d=>show Zbc _ _ _ _ _=_; rw [ZaM _ _ _ _ _ _ (by decide +kernel),ZaM _ _ _ _ _ _ (by decide +kernel)]; exact Zam s
 | parted a b d=>show Zbc _ _ _ _ _=_; rw [ZaM _ _ _ _ _ _ (by decide +kernel),ZaM _ _ _ _ _ _ (by decide +kernel)]; exact Zam s
 | dead a d=>exact Zam s
 | given a b am d=>exact Zam s⟩
theorem ZrW:Adds "M" Zr7:=⟨fun F G e n s=>by
 cases e with
 | born n' s' d f m =>
  show Zc2 F n' f m ("M",n)=_
  rw [Zeh,if_neg (fun z=>absurd z.1 (by decide +kernel)),if_neg (fun z=>absurd z.1 (by decide +kernel))]
  dsimp only [Zr7]
  by_cases h:n'=n∧m≠""
  ·rw [if_pos h,if_pos ⟨rfl,h.1.symm,h.2⟩,h.1]
  ·rw [if_neg h,if_neg (fun z=>h ⟨z.2.1.symm,z.2.2⟩),if_neg (fun z=>absurd z.1 (by decide +kernel))]
   exact Zam s
 | taken c t d=>show Zb2 (Zb2 F ("T",c) t) ("t",t) c ("M",n)=_; rw [Zbp,if_neg (fun z=>absurd z.1 (by decide +kernel)),Zbp,if_neg (fun z=>absurd z.1 (by decide +kernel))]; exact Zam s
 | union a b d=>show Zbc _ _ _ _ _=_; rw [ZaM _ _ _ _ _ _ (by decide +kernel),ZaM _ _ _ _ _ _ (by decide +kernel)]; exact Zam s
 | parted a b d=>show Zbc _ _ _ _ _=_; rw [ZaM _ _ _ _ _ _ (by decide +kernel),ZaM _ _ _ _ _ _ (by decide +kernel)]; exact Zam s
 | dead a d=>exact Zam s
 | given a b am d=>exact Zam s⟩
theorem Zrr:Adds "f" Zr8:=⟨fun F G e n s=>by
 cases e with
 | born n' s' d f m =>
  show Zc2 F n' f m ("f",n)=_
  rw [Zeh,if_neg (fun z=>absurd z.1 (by decide +kernel))]
  dsimp only [Zr8]
  by_cases h:f=n∧f≠""
  ·rw [if_pos h,if_pos ⟨rfl,h.1.symm,h.2⟩,h.1]
  ·rw [if_neg h,if_neg (fun z=>h ⟨z.2.1.symm,z.2.2⟩),if_neg (fun z=>absurd z.1 (by decide +kernel)),if_neg (fun z=>absurd z.1 (by decide +kernel))]
   exact Zam s
 | taken c t d=>show Zb2 (Zb2 F ("T",c) t) ("t",t) c ("f",n)=_; rw [Zbp,if_neg (fun z=>absurd z.1 (by decide +kernel)),Zbp,if_neg (fun z=>absurd z.1 (by decide +kernel))]; exact Zam s
 | union a b d=>show Zbc _ _ _ _ _=_; rw [ZaM _ _ _ _ _ _ (by decide +kernel),ZaM _ _ _ _ _ _ (by decide +kernel)]; exact Zam s
 | parted a b d=>show Zbc _ _ _ _ _=_; rw [ZaM _ _ _ _ _ _ (by decide +kernel),ZaM _ _ _ _ _ _ (by decide +kernel)]; exact Zam s
 | dead a d=>exact Zam s
 | given a b am d=>exact Zam s⟩
theorem ZrT:Adds "m" Zsa:=⟨fun F G e n s=>by
 cases e with
 | born n' s' d f m =>
  show Zc2 F n' f m ("m",n)=_
  rw [Zeh,if_neg (fun z=>absurd z.1 (by decide +kernel)),if_neg (fun z=>absurd z.1 (by decide +kernel)),if_neg (fun z=>absurd z.1 (by decide +kernel))]
  dsimp only [Zsa]
  by_cases h:m=n∧m≠""
  ·rw [if_pos h,if_pos ⟨rfl,h.1.symm,h.2⟩,h.1]
  ·rw [if_neg h,if_neg (fun z=>h ⟨z.2.1.symm,z.2.2⟩)]
   exact Zam s
 | taken c t d=>show Zb2 (Zb2 F ("T",c) t) ("t",t) c ("m",n)=_; rw [Zbp,if_neg (fun z=>absurd z.1 (by decide +kernel)),Zbp,if_neg (fun z=>absurd z.1 (by decide +kernel))]; exact Zam s
 | union a b d=>show Zbc _ _ _ _ _=_; rw [ZaM _ _ _ _ _ _ (by decide +kernel),ZaM _ _ _ _ _ _ (by decide +kernel)]; exact Zam s
 | parted a b d=>show Zbc _ _ _ _ _=_; rw [ZaM _ _ _ _ _ _ (by decide +kernel),ZaM _ _ _ _ _ _ (by decide +kernel)]; exact Zam s
 | dead a d=>exact Zam s
 | given a b am d=>exact Zam s⟩
theorem ZeD (F:LkT) (n f m l x:Str) (h1:l≠"F") (h2:l≠"f") (h3:l≠"M") (h4:l≠"m"):Zc2 F n f m (l,x)=F (l,x):=by
 rw [Zeh,if_neg (fun z=>h1 z.1),if_neg (fun z=>h2 z.1),if_neg (fun z=>h3 z.1),if_neg (fun z=>h4 z.1)]
theorem ZrS:Adds "T" Zr9:=⟨fun F G e n s=>by
 cases e with
 | born n' s' d f m=>show Zc2 F n' f m ("T",n)=_; rw [ZeD _ _ _ _ _ _ (by decide +kernel) (by decide +kernel) (by decide +kernel) (by decide +kernel)]; exact Zam s
 | taken c t d =>
  show Zb2 (Zb2 F ("T",c) t) ("t",t) c ("T",n)=_
  rw [Zbp,if_neg (fun z=>absurd z.1 (by decide +kernel)),Zbp]
  dsimp only [Zr9]
  by_cases h:c=n
  ·rw [if_pos h,if_pos ⟨rfl,h.symm⟩,h]
  ·rw [if_neg h,if_neg (fun z=>h z.2.symm)]
   exact Zam s
 | union a b d=>show Zbc _ _ _ _ _=_; rw [ZaM _ _ _ _ _ _ (by decide +kernel),ZaM _ _ _ _ _ _ (by decide +kernel)]; exact Zam s
 | parted a b d=>show Zbc _ _ _ _ _=_; rw [ZaM _ _ _ _ _ _ (by decide +kernel),ZaM _ _ _ _ _ _ (by decide +kernel)]; exact Zam s
 | dead a d=>exact Zam s
 | given a b am d=>exact Zam s⟩
theorem Zri:Adds "t" Zr1:=⟨fun F G e n s=>by
 cases e with
 | born n' s' d f m=>show Zc2 F n' f m ("t",n)=_; rw [ZeD _ _ _ _ _ _ (by decide +kernel) (by decide +kernel) (by decide +kernel) (by decide +kernel)]; exact Zam s
 | taken c t d =>
  show Zb2 (Zb2 F ("T",c) t) ("t",t) c ("t",n)=_
  rw [Zbp]
  dsimp only [Zr1]
  by_cases h:t=n
  ·rw [if_pos h,if_pos ⟨rfl,h.symm⟩,Zbp,if_neg (fun z=>absurd z.1 (by decide +kernel)),h]
  ·rw [if_neg h,if_neg (fun z=>h z.2.symm),Zbp,if_neg (fun z=>absurd z.1 (by decide +kernel))]
   exact Zam s
 | union a b d=>show Zbc _ _ _ _ _=_; rw [ZaM _ _ _ _ _ _ (by decide +kernel),ZaM _ _ _ _ _ _ (by decide +kernel)]; exact Zam s
 | parted a b d=>show Zbc _ _ _ _ _=_; rw [ZaM _ _ _ _ _ _ (by decide +kernel),ZaM _ _ _ _ _ _ (by decide +kernel)]; exact Zam s
 | dead a d=>exact Zam s
 | given a b am d=>exact Zam s⟩
theorem Adds.all {l:Str} {ad:Str->Ent->List Str} (A:Adds l ad) (n:Str):∀ es:List Ent,(ZiO es).1 (l,n)=ZaL (es.flatMap (ad n)):=by
 intro es
 have go:∀ (es:List Ent) (p:LkT × TiT) (xs:List Str),p.1 (l,n)=ZaL xs->(es.foldl ZlV p).1 (l,n)=ZaL (xs++es.flatMap (ad n)):=by
  intro es
  induction es with
  | nil=>intro p xs h; rw [List.flatMap_nil,List.append_nil]; exact h
  | cons e es ih =>
   intro p xs h
   rw [List.foldl_cons,List.flatMap_cons,← List.append_assoc]
   refine ih _ (xs++ad n e) ?_
   show Zj4 p.1 p.2 e (l,n)=_
   rw [A.step p.1 p.2 e n (by rw [h]; exact ZfS _),h,ZmF]
 exact go es _ [] (Zmb .nil).symm
noncomputable def Ent.pr:Ent->Str × Str
 | .union a b _=>(a,b)
 | .parted a b _=>(a,b)
 | _=>("","")
noncomputable def Ent.kind:Ent->Str
 | .union ..=>"union"
 | .parted ..=>"parted"
 | _=>""
def Zko (e:Ent):Prop:=e.tie=true->e.pr.1≠e.pr.2
theorem ZoG {a b n w:Str} (h:Zan n w=Zan a b):(n=a∧w=b)∨(n=b∧w=a):=by
 unfold Zan at h
 split at h <;> split at h <;> injection h with h1 h2
 ·exact .inl ⟨h2,h1⟩
 ·exact .inr ⟨h2,h1⟩
 ·exact .inr ⟨h1,h2⟩
 ·exact .inl ⟨h1,h2⟩
noncomputable def tl (c:Str × Str) (es:List Ent):List (Int × Str):=es.filterMap fun e=>if e.tie=true∧Zan e.pr.1 e.pr.2=c then some (e.day,e.kind) else none
theorem ZlL {l:List (Int × Str)} {d:Int} {k:Str} (h:d ∉ l.map (·.1)):Zba l d k=l++[(d,k)]:=by
 unfold Zba
 rw [if_neg]
 intro z
 rw [List.any_eq_true] at z
 obtain ⟨q,hq,e⟩:=z
 exact h (List.mem_map.mpr ⟨q,hq,of_decide_eq_true e⟩)
theorem ZoI {G:TiT} {es:List Ent} {e:Ent} (hG:∀ c,G c=tl c es) (n:e.tie=true->e.day ∉ (tl (Zan e.pr.1 e.pr.2) es).map (·.1)) (c:Str × Str):ZnI G e c=tl c (es++[e]):=by
 have ap:tl c (es++[e])=tl c es++tl c [e]:=by unfold tl; rw [List.filterMap_append]
 rw [ap]
 cases e with
 | union a b d =>
  show (if c=Zan a b then Zba (G (Zan a b)) d "union" else G c)=_
  by_cases h:c=Zan a b
  ·subst h
   have n':d ∉ (tl (Zan a b) es).map (·.1):=n rfl
   rw [if_pos rfl,hG,ZlL n']
   simp [tl,Ent.tie,Ent.pr,Ent.day,Ent.kind]
  ·rw [if_neg h,hG]
   simp [tl,Ent.tie,Ent.pr,Ne.symm h]
 | parted a b d =>
  show (if c=Zan a b then Zba (G (Zan a b)) d "parted" else G c)=_
  by_cases h:c=Zan a b
  ·subst h
   have n':d ∉ (tl (Zan a b) es).map (·.1):=n rfl
   rw [if_pos rfl,hG,ZlL n']
   simp [tl,Ent.tie,Ent.pr,Ent.day,Ent.kind]
  ·rw [if_neg h,hG]
   simp [tl,Ent.tie,Ent.pr,Ne.symm h]
 | _=>rw [show ZnI G _ c=G c from rfl,hG]; simp [tl,Ent.tie]
def Once (es:List Ent):Prop:=∀ c,((tl c es).map (·.1)).Nodup
theorem Once.init {es:List Ent} {e:Ent} (h:Once (es++[e])):Once es∧(e.tie=true->e.day ∉ (tl (Zan e.pr.1 e.pr.2) es).map (·.1)):=by
 have ap:∀ c,tl c (es++[e])=tl c es++tl c [e]:=fun c=>by unfold tl; rw [List.filterMap_append]
 refine ⟨fun c=>?_,fun t m=>?_⟩
 ·have:=h c
  rw [ap,List.map_append,List.nodup_append] at this
  exact this.1
 ·have:=h (Zan e.pr.1 e.pr.2)
  rw [ap,List.map_append,List.nodup_append] at this
  have e1:tl (Zan e.pr.1 e.pr.2) [e]=[(e.day,e.kind)]:=by simp [tl,t]
  rw [e1] at this
  exact this.2.2 _ m _ (List.mem_cons_self ..) rfl
theorem ZrC {es:List Ent} (h:Once es) (c:Str × Str):(ZiO es).2 c=tl c es:=by
 have go:∀ n (es:List Ent),es.length=n->Once es->∀ c,(ZiO es).2 c=tl c es:=by
  intro n
  induction n with
  | zero =>
   intro es hl _ c
   rw [List.length_eq_zero_iff.mp hl]
   rfl
  | succ n ih =>
   intro es hl ho c
   obtain ⟨xs,x,rfl⟩:∃ xs x,es=xs++[x]:=⟨es.dropLast,es.getLast (by intro z; rw [z] at hl; cases hl),(List.dropLast_concat_getLast _).symm⟩
   obtain ⟨o1,o2⟩:=ho.init
   rw [ZfI]
   exact ZoI (ih xs (by rw [List.length_append] at hl; exact Nat.succ.inj hl) o1) o2 c
 exact go _ es rfl h c
theorem Zpg (e:Ent):e.told.tie=e.tie∧Zan e.told.pr.1 e.told.pr.2=Zan e.pr.1 e.pr.2∧e.told.day=e.day∧e.told.kind=e.kind:=by
 cases e with
 | union a b d=>exact ⟨rfl,Zdg a b,rfl,rfl⟩
 | parted a b d=>exact ⟨rfl,Zdg a b,rfl,rfl⟩
 | _=>exact ⟨rfl,rfl,rfl,rfl⟩
theorem Zmd {e:Ent} (h:Zko e):Zko e.told:=fun t=>by
 obtain ⟨h1,h2,_,_⟩:=Zpg e
 rw [h1] at t
 have ne:=h t
 intro z
 apply ne
 have:∀ a b:Str,(Zan a b).1=(Zan a b).2->a=b:=fun a b h=>by
  unfold Zan at h
  split at h
  ·exact h.symm
  ·exact h
 cases e with
 | union a b d=>exact this a b z
 | parted a b d=>exact this a b z
 | _=>cases t
theorem ZlS {f:Ent->List Str} (h:∀ e,(f e).length≤1):∀ l:List Ent,(l.flatMap f).length≤l.length
 | []=>Nat.le_refl _
 | e :: l=>by
  rw [List.flatMap_cons,List.length_append,List.length_cons]
  have:=ZlS h l
  have:=h e
  omega
theorem Zf1 (n:Str) (e:Ent):(Zr3 n e).length≤1∧(Zr7 n e).length≤1∧(Zr8 n e).length≤1∧(Zsa n e).length≤1∧(Zr9 n e).length≤1∧(Zr1 n e).length≤1:=by
 cases e <;> simp only [Zr3,Zr7,Zr8,Zsa,Zr9,Zr1] <;> refine ⟨?_,?_,?_,?_,?_,?_⟩ <;> (try split) <;> simp
theorem ZnV {es:List Ent} {l:Str} (h:l ∉ Zdb) (n:Str):(ZiO es).1 (l,n)=[]:=by
 have hh:l≠"F"∧l≠"M"∧l≠"T"∧l≠"f"∧l≠"m"∧l≠"t"∧l≠"S":=by simpa [Zdb] using h
 obtain ⟨h1,h2,h3,h4,h5,h6,h7⟩:=hh
 have go:∀ (es:List Ent) (p:LkT × TiT),p.1 (l,n)=[]->(es.foldl ZlV p).1 (l,n)=[]:=by
  intro es
  induction es with
  | nil=>intro p h; exact h
  | cons e es ih =>
   intro p h
   rw [List.foldl_cons]
   refine ih _ ?_
   show Zj4 p.1 p.2 e (l,n)=[]
   cases e with
   | born n' s d f m=>show Zc2 p.1 n' f m (l,n)=[]; rw [ZeD _ _ _ _ _ _ h1 h4 h2 h5]; exact h
   | taken c t d=>show Zb2 (Zb2 p.1 ("T",c) t) ("t",t) c (l,n)=[]; rw [Zbp,if_neg (fun z=>h6 z.1),Zbp,if_neg (fun z=>h3 z.1)]; exact h
   | union a b d=>show Zbc _ _ _ _ _=[]; rw [ZaM _ _ _ _ _ _ h7,ZaM _ _ _ _ _ _ h7]; exact h
   | parted a b d=>show Zbc _ _ _ _ _=[]; rw [ZaM _ _ _ _ _ _ h7,ZaM _ _ _ _ _ _ h7]; exact h
   | dead a d=>exact h
   | given a b am d=>exact h
 exact go es _ rfl
structure BSt (B:Bk) (es:List Ent):Prop where
 kept:B.kept.map (·.1)=es
 lks:lk B.links=(ZiO es).1
 tis:Zjv B.ties=(ZiO es).2
 nd:(B.ties.map (·.1)).Nodup
 nl:B.links.length≤4*es.length
 nt:B.ties.length≤es.length
 ns:B.sums.length≤es.length
theorem BSt.start:BSt bk0 []:=⟨rfl,rfl,rfl,.nil,Nat.le_refl _,Nat.le_refl _,Nat.le_refl _⟩
theorem BSt.put {B B':Bk} {es:List Ent} {e:Ent} (h:BSt B es) (p:Put B e B'):BSt B' (es++[e.told]):=by
 obtain ⟨a,hk⟩:=p.kept
 have l1:(es++[e.told]).length=es.length+1:=by rw [List.length_append]; rfl
 have n1:=p.nl
 have n2:=p.nt
 have n3:=p.ns
 have m1:=h.nl
 have m2:=h.nt
 have m3:=h.ns
 refine ⟨by rw [hk,List.map_append,h.kept]; rfl,?_,?_,p.nd,by omega,by omega,by omega⟩
 ·funext c
  rw [ZfI,p.lks,h.lks,h.tis]
  rfl
 ·funext c
  rw [ZfI,p.tis,h.tis]
  rfl
theorem Zq2 (c:Str × Str) (es:List Ent):(tl c es).length≤es.length:=List.length_filterMap_le ..
theorem ZjW {κ:Type} [DecidableEq κ] {k:κ}:∀ {l:List (κ × V)},(∀ p∈l,p.1≠k)->Zdv l k=none
 | [],_=>rfl
 | p :: l,h=>by
  rw [Zbr (h p (List.mem_cons_self ..))]
  exact ZjW fun q hq=>h q (List.mem_cons_of_mem _ hq)
theorem Zpq {B:Bk} {es:List Ent} (hk:B.kept.map (·.1)=es) {k:List Key} (h:∀ e∈es,e.key≠k):Zdv B.keptD k=none:=by
 refine ZjW fun p hp=>?_
 obtain ⟨q,hq,rfl⟩:=List.mem_map.mp hp
 exact h q.1 (by rw [← hk]; exact List.mem_map.mpr ⟨q,hq,rfl⟩)
theorem ZdL {B:Bk} {es:List Ent} (hk:B.kept.map (·.1)=es):B.kept.length=es.length:=by rw [← hk,List.length_map]
theorem ZdP {bs:List (Ent × Addr)} {i:Nat} {y:V} (h:(ZaQ bs)[i]?=some y):∃ p,bs[i]?=some p∧y=.ref p.2:=by
 unfold ZaQ at h
 rw [List.getElem?_map] at h
 obtain ⟨p,hp,e⟩:=Option.map_eq_some_iff.mp h
 exact ⟨p,hp,e.symm⟩
theorem ZaH (bs:List (Ent × Addr)):(ZaQ bs).length=bs.length:=by unfold ZaQ; rw [List.length_map]
theorem Zdo {K:W.Frag} {H:Hp}:∀ zs:List Str,IsL K H (zs.map D.str) (zs.map V.str)
 | []=>rfl
 | z :: zs=>⟨_,_,rfl,rfl,Zdo zs⟩
theorem ZfG:∀ zs:List Str,Zji (zs.map D.str)=0
 | []=>rfl
 | z :: zs=>by
  show max 0 (Zji (zs.map D.str))=0
  rw [ZfG zs]
  rfl
theorem ZfU:∀ a b:List Str,Zh2 (a.map D.str) (b.map D.str)=decide (a=b)
 | [],[]=>rfl
 | [],b :: bs=>by show false=_; rw [decide_eq_false (fun z=>by cases z)]
 | a :: as,[]=>by show false=_; rw [decide_eq_false (fun z=>by cases z)]
 | a :: as,b :: bs=>by
  show ((a == b)&&Zh2 (as.map D.str) (bs.map D.str))=_
  rw [ZfU as bs,Bool.eq_iff_iff]
  simp
theorem Zfs (l:List Str):(l.map V.str).all ZjD=true:=by
 rw [List.all_map,List.all_eq_true]
 intro x _
 rfl
def Zg0 (K:W.Frag) (H:Hp) (B:Bk) (x:V):Prop:=(∃ ty,Kd K H x ty∧W.kitOne K ty (.type "str")=some false)∨∃ n,x=.str n∧ZaD n B.kept=none
theorem ZpH {K:W.Frag} {H:Hp}:∀ zs:List Bool,IsL K H (zs.map D.bl) (zs.map V.bl)
 | []=>rfl
 | z :: zs=>⟨_,_,rfl,rfl,ZpH zs⟩
theorem ZiZ {K:W.Frag} {H:Hp} {a:Addr} {zs:List Bool} (h:SqL K H a (zs.map V.bl)):Is K H (.lst (zs.map D.bl)) (.ref a):=⟨a,_,rfl,h,ZpH zs⟩
structure Keeps (K:W.Frag) (H H':Hp):Prop where
 lst:∀ a xs,H a=some (.lst xs)->H' a=some (.lst xs)
 sql:∀ a xs,SqL K H a xs->SqL K H' a xs
 sqt:∀ a xs,SqT K H a xs->SqT K H' a xs
 al:∀ a,H' a=none->H a=none
theorem Znu {K:W.Frag} {C:Addr} {H H':Hp} {b dx k bi li ti su y:Addr} {B:Bk} (h:BkAt K C H b dx k bi li ti su B) (bt:But [k,bi,li,ti,su,y] H H') (hy:H y=none∨∃ w,H y=some (.dK w)):Keeps K H H':=by
 have off:∀ {a:Addr} {o:HO},H a=some o->(∀ w,o≠.dK w)->(∀ w,o≠.dT w)->a ∉ [k,bi,li,ti,su,y]:=fun {a o} e n1 n2 m=>by
  simp only [List.mem_cons,List.not_mem_nil,or_false] at m
  rcases m with rfl | rfl | rfl | rfl | rfl | rfl
  ·rw [h.ke] at e; cases e; exact n2 _ rfl
  ·rw [h.bi] at e; cases e; exact n1 _ rfl
  ·rw [h.li] at e; cases e; exact n2 _ rfl
  ·rw [h.ti] at e; cases e; exact n2 _ rfl
  ·rw [h.su] at e; cases e; exact n2 _ rfl
  ·rcases hy with hy | ⟨w,hy⟩ <;> rw [hy] at e <;> cases e
   exact n1 _ rfl
 refine ⟨fun a xs e=>bt.eq _ _ (off e (fun _ z=>by cases z) (fun _ z=>by cases z)) e,fun a xs q=>?_,fun a xs q=>?_,bt.al⟩
 ·rcases q with (e | ⟨o,e⟩) | e
  ·exact .inl (.inl (bt.eq _ _ (off e (fun _ z=>by cases z) (fun _ z=>by cases z)) e))
  ·exact .inl (.inr ⟨o,bt.eq _ _ (off e (fun _ z=>by cases z) (fun _ z=>by cases z)) e⟩)
  ·exact .inr e
 ·rcases q with (e | ⟨o,e⟩) | e
  ·exact .inl (.inl (bt.eq _ _ (off e (fun _ z=>by cases z) (fun _ z=>by cases z)) e))
  ·exact .inl (.inr ⟨o,bt.eq _ _ (off e (fun _ z=>by cases z) (fun _ z=>by cases z)) e⟩)
  ·exact .inr e
theorem ZnD {ds:List (Ent × Addr)} {i:Nat} {p:Ent × Addr} (h:ds[i]?=some p):ds.take (i+1)=ds.take i++[p]:=by
 rw [List.take_succ,h]
 rfl
theorem Zl0 {bs:List (Ent × Addr)} {i:Nat} {p:Ent × Addr} (h:bs[i]?=some p):(bs.take (i+1)).map (·.1)=(bs.take i).map (·.1)++[p.1]:=by
 rw [ZnD h,List.map_append]
 rfl
theorem ZlT {n:Str}:∀ {l:List (Ent × Addr)},(∀ p∈l,p.1.bornName≠some n)->ZaD n l=none
 | [],_=>rfl
 | p :: r,h=>by
  unfold ZaD
  rw [if_neg (h p (List.mem_cons_self ..))]
  exact ZlT fun q hq=>h q (List.mem_cons_of_mem _ hq)
noncomputable def Zco (n:Str):List (Ent × Addr)->Option (Int × Addr)
 | []=>none
 | p :: r=>match p.1 with
  | .dead n' d=>if n'=n then some (d,p.2) else Zco n r
  | _=>Zco n r
theorem ZlW (n:Str):∀ l:List (Ent × Addr),Zdv (l.map fun p=>(p.1.key,V.ref p.2)) ([.inr "dead",.inr n]:List Key)=(Zco n l).map fun q=>.ref q.2
 | []=>rfl
 | (e,a) :: r=>by
  have ih:=ZlW n r
  rw [List.map_cons]
  cases e with
  | dead n' d =>
   unfold Zco
   dsimp only
   by_cases h:n'=n
   ·subst h
    rw [Zcc (show ((Ent.dead n' d).key,V.ref a).1=([.inr "dead",.inr n']:List Key) from rfl),if_pos rfl]
    rfl
   ·rw [Zbr (fun z=>h (by simpa [Ent.key] using z)),if_neg h]
    exact ih
  | born=>rw [Zbr (fun z=>absurd (List.cons.inj z).1 (by decide +kernel))]; exact ih
  | taken=>rw [Zbr (fun z=>absurd (List.cons.inj z).1 (by decide +kernel))]; exact ih
  | union=>rw [Zbr (fun z=>absurd (List.cons.inj z).1 (by decide +kernel))]; exact ih
  | parted=>rw [Zbr (fun z=>absurd (List.cons.inj z).1 (by decide +kernel))]; exact ih
  | given=>rw [Zbr (fun z=>absurd (List.cons.inj z).1 (by decide +kernel))]; exact ih
theorem ZeE {n:Str} {d:Int} {a:Addr}:∀ {l:List (Ent × Addr)},Zco n l=some (d,a)->(Ent.dead n d,a)∈l
 | [],h=>by cases h
 | (e,b) :: r,h=>by
  cases e with
  | dead n' d' =>
   unfold Zco at h
   dsimp only at h
   by_cases e:n'=n
   ·rw [if_pos e] at h
    cases h
    subst e
    exact List.mem_cons_self ..
   ·rw [if_neg e] at h
    exact List.mem_cons_of_mem _ (ZeE h)
  | _=>exact List.mem_cons_of_mem _ (ZeE h)
theorem ZeW {n:Str}:∀ {l:List (Ent × Addr)},Zco n l=none->∀ p∈l,∀ d,p.1≠Ent.dead n d
 | [],_,p,hp,_=>by cases hp
 | (e,b) :: r,h,p,hp,d=>by
  cases e with
  | dead n' d' =>
   unfold Zco at h
   dsimp only at h
   by_cases e:n'=n
   ·rw [if_pos e] at h; cases h
   ·rw [if_neg e] at h
    rcases List.mem_cons.mp hp with rfl | hp
    ·intro z; cases z; exact e rfl
    ·exact ZeW h p hp d
  | _ =>
   rcases List.mem_cons.mp hp with rfl | hp
   ·intro z; cases z
   ·exact ZeW (l:=r) h p hp d
noncomputable def ZgH (B:Bk) (n:Str):V:=match Zco n B.kept with
 | none=>.non
 | some q=>.int q.1
theorem Zn3 (l:List (Ent × Addr)):(Bk.bornD l).length=(ZaG l).length:=by rw [Zhl,List.length_map,← Zft,List.length_map]
theorem ZpK {n:Str} {d:Int} (hn:Nm n) (d1:-10 ^ 18≤d) (d2:d≤10 ^ 18):(Ent.dead n d).Ok:=by
 refine ⟨?_,fun y hy=>?_⟩
 ·show Zei [.str "dead",.str n,.int d]=true
  rw [ZcS,show Zfx "dead"=some [.name,.day] by rfl]
  show ZcZ _ _=true
  unfold ZcZ
  simp [Zc7,chk,hn.ok,Zk9 d1 d2]
 ·simp only [Ent.row,List.mem_cons,List.not_mem_nil,or_false] at hy
  rcases hy with h | h | h
  ·cases h; decide +kernel
  ·cases h; exact ZiM hn
  ·cases h
theorem ZnY {K:W.Frag} {H:Hp} {B:Bk} {x:V} {P:Prop} {R:Str->Ent × Addr->Prop} (h:Zg0 K H B x) (e:P):(∃ ty,Kd K H x ty∧W.kitOne K ty (.type "str")=some false∧P)∨∃ n,x=.str n∧(ZaD n B.kept=none->P)∧∀ p,ZaD n B.kept=some p->R n p:=by
 rcases h with ⟨ty,a,b⟩ | ⟨n,rfl,hn⟩
 ·exact .inl ⟨ty,a,b,e⟩
 ·exact .inr ⟨n,rfl,fun _=>e,fun p hp=>absurd (hn.symm.trans hp) (by simp)⟩
theorem BkAt.but0 {K:W.Frag} {C:Addr} {H H':Hp} {b dx k bi li ti su:Addr} {S:List Addr} (h:BkAt K C H b dx k bi li ti su bk0) (bt:But S H H') (n:∀ a∈[b,k,bi,li,ti,su],a ∉ S):BkAt K C H' b dx k bi li ti su bk0 :=
 ⟨bt.eq _ _ (n _ (by simp)) h.ob,h.ap,h.at',bt.eq _ _ (n _ (by simp)) h.ke,bt.eq _ _ (n _ (by simp)) h.bi,bt.eq _ _ (n _ (by simp)) h.li,bt.eq _ _ (n _ (by simp)) h.ti,bt.eq _ _ (n _ (by simp)) h.su,fun p hp=>(by cases hp),fun q hq=>(by cases hq),fun q hq=>(by cases hq)⟩
noncomputable def amt (c:Str × Str):Ent->Int
 | .given g t am _=>if c=(g,t) then am else 0
 | _=>0
noncomputable def ZrL (c:Str × Str) (es:List Ent):Int:=(es.map (amt c)).sum
theorem Znd (c:Str × Str) (es:List Ent) (e:Ent):ZrL c (es++[e])=ZrL c es+amt c e:=by
 unfold ZrL
 rw [List.map_append,List.sum_append]
 simp
theorem ZlJ {F:Str × Str->List Str} {st:Bool} {a b:Str} (ne:a≠b) (c:Str × Str):(Zbc (Zbc F st a b) st b a c).length≤(F c).length+1:=by
 by_cases e:c=(("S",b):Str × Str)
 ·refine Nat.le_trans (Zhd ..) ?_
  have:Zbc F st a b c=F c:=by
   unfold Zbc
   rw [if_neg]
   intro z
   rw [e] at z
   injection z with _ z2
   exact ne z2.symm
  rw [this]
  exact Nat.le_refl _
 ·have:Zbc (Zbc F st a b) st b a c=Zbc F st a b c:=by
   show (if c=(("S",b):Str × Str) then _ else Zbc F st a b c)=_
   rw [if_neg e]
  rw [this]
  exact Zhd ..
theorem ZkP {x:Ent} (h:x.tie=true):x.told.key=[.inr "tie",.inr (Zan x.pr.1 x.pr.2).1,.inr (Zan x.pr.1 x.pr.2).2,.inl x.day]:=by
 cases x <;> first | rfl | cases h
theorem ZoU {x y:Ent} (hx:x.tie=true) (hy:y.tie=true):(x.told.key=y.told.key)↔(Zan x.pr.1 x.pr.2=Zan y.pr.1 y.pr.2∧x.day=y.day):=by
 rw [ZkP hx,ZkP hy]
 constructor
 ·intro h
  injection h with _ h
  injection h with h1 h
  injection h with h2 h
  injection h with h3
  exact ⟨Prod.ext (Sum.inr.inj h1) (Sum.inr.inj h2),Sum.inl.inj h3⟩
 ·rintro ⟨h1,h2⟩
  rw [h1,h2]
def D5 (pool:List Str) (e:Ent):Prop:=e.Ok∧(∀ n∈e.named,n∈pool)∧∀ n,e.bornName=some n->n∈pool
theorem Zez (x:Int) {n:Int} (h:0<n):0≤x.fmod n∧x.fmod n<n:=⟨Int.fmod_nonneg_of_pos x h,Int.fmod_lt_of_pos x h⟩
noncomputable def LBk (ks:List (Ent × Addr)):Bk:=⟨ks,[],[],[]⟩
structure KsOk (ks:List (Ent × Addr)):Prop where
 told:∀ p∈ks,p.1.told=p.1
 nd:(ZaG ks).Nodup
 len:ks.length≤60
noncomputable def Ent.word:Ent->Str
 | .born ..=>"born"
 | .taken ..=>"taken"
 | .union ..=>"union"
 | .parted ..=>"parted"
 | .dead ..=>"dead"
 | .given ..=>"given"
theorem ZhV (x:Ent):atI (x.row.map kV) 0=some (.str x.word):=by cases x <;> rfl
theorem ZiL {x y:Ent} (hx:x.tie=false) (hy:y.tie=true):x.told.key≠y.told.key:=by
 rw [ZkP hy]
 cases x with
 | union=>cases hx
 | parted=>cases hx
 | _=>intro z; exact absurd (List.cons.inj z).1 (by decide +kernel)
noncomputable def Ent.kw:Ent->Str
 | .born ..=>"born"
 | .taken ..=>"taken"
 | .union ..=>"tie"
 | .parted ..=>"tie"
 | .dead ..=>"dead"
 | .given ..=>"given"
theorem ZoE {x y:Ent} (h:x.kw≠y.kw):x.told.key≠y.told.key:=fun z=>by
 have g:∀ e:Ent,e.told.key.head?=some (.inr e.kw):=fun e=>by cases e <;> rfl
 have e1:=g x
 rw [z,g y] at e1
 exact h (Sum.inr.inj (Option.some.inj e1)).symm
theorem Zqc {k:List Key}:∀ {l m:List (Ent × Addr)},l.map (·.1)=m.map (·.1)->(Zdv (l.map fun p=>(p.1.key,V.ref p.2)) k).isSome=(Zdv (m.map fun p=>(p.1.key,V.ref p.2)) k).isSome:=by
 intro l
 induction l with
 | nil=>intro m h; cases m with
  | nil=>rfl
  | cons q m=>cases h
 | cons p l ih=>intro m h; cases m with
  | nil=>cases h
  | cons q m =>
   have h1:p.1=q.1:=(List.cons.inj h).1
   have h2:=(List.cons.inj h).2
   rw [List.map_cons,List.map_cons]
   by_cases c:p.1.key=k
   ·rw [Zcc (show (p.1.key,V.ref p.2).1=k from c),Zcc (show q.1.key=k by rw [← h1]; exact c)]
    rfl
   ·rw [Zbr (show ¬ (p.1.key,V.ref p.2).1=k from c),Zbr (show ¬ q.1.key=k by rw [← h1]; exact c)]
    exact ih h2
theorem Zqf {k:List Key}:∀ {ks:List (Ent × Addr)},(∃ p∈ks,p.1.key=k)->(Zdv (LBk ks).keptD k).isSome=true:=by
 intro ks
 induction ks with
 | nil=>rintro ⟨p,hp,_⟩; cases hp
 | cons q ks ih =>
  rintro ⟨p,hp,e⟩
  show (Zdv ((q.1.key,V.ref q.2) :: (LBk ks).keptD) k).isSome=true
  by_cases c:q.1.key=k
  ·rw [Zcc (show (q.1.key,V.ref q.2).1=k from c)]; rfl
  ·rw [Zbr (show ¬ (q.1.key,V.ref q.2).1=k from c)]
   rcases List.mem_cons.mp hp with rfl | hp
   ·exact absurd e c
   ·exact ih ⟨p,hp,e⟩
theorem ZmJ {l:List (Ent × Addr)} {n:Str} (h:n∈ZaG l):ZaD n l≠none:=by
 induction l with
 | nil=>cases h
 | cons p l ih =>
  unfold ZaD
  by_cases c:p.1.bornName=some n
  ·rw [if_pos c]; simp
  ·rw [if_neg c]
   refine ih ?_
   unfold ZaG at h ⊢
   rw [List.filterMap_cons] at h
   cases hb:p.1.bornName with
   | none=>rw [hb] at h; exact h
   | some z =>
    rw [hb] at h
    rcases List.mem_cons.mp h with rfl | h
    ·exact absurd hb c
    ·exact h
noncomputable def Zqx (p:Ent × Addr):Option V:=p.1.bornName.map V.str
theorem ZnT (ks:List (Ent × Addr)):(ks.map Zqx).filterMap id=(ZaG ks).map V.str:=by
 unfold ZaG Zqx
 rw [List.filterMap_map,List.map_filterMap]
 rfl
theorem ZsI:∀ {es:List Ent},(∀ e∈es,Zko e)->∀ n,((ZiO es).1 ("S",n)).length≤es.length:=by
 have go:∀ k (es:List Ent),es.length=k->(∀ e∈es,Zko e)->∀ n,((ZiO es).1 ("S",n)).length≤es.length:=by
  intro k
  induction k with
  | zero =>
   intro es h _ n
   have:es=[]:=List.eq_nil_of_length_eq_zero h
   subst this
   exact Nat.le_refl _
  | succ k ih =>
   intro es h ap n
   have ne:es≠[]:=fun z=>by rw [z] at h; cases h
   obtain ⟨xs,e,rfl⟩:∃ xs e,es=xs++[e]:=⟨_,_,(List.dropLast_concat_getLast ne).symm⟩
   have lx:xs.length=k:=by rw [List.length_append] at h; exact Nat.succ.inj h
   have ih:=ih xs lx (fun x hx=>ap x (List.mem_append.mpr (.inl hx))) n
   have ae:=ap e (List.mem_append.mpr (.inr (List.mem_singleton.mpr rfl)))
   rw [ZfI,List.length_append]
   have key:(Zj4 (ZiO xs).1 (ZiO xs).2 e ("S",n)).length≤((ZiO xs).1 ("S",n)).length+1:=by
    cases e with
    | born n' s d f m =>
     show (Zc2 (ZiO xs).1 n' f m ("S",n)).length≤_
     rw [ZeD _ _ _ _ _ _ (by decide +kernel) (by decide +kernel) (by decide +kernel) (by decide +kernel)]
     exact Nat.le_succ _
    | taken c t d =>
     show (Zb2 (Zb2 (ZiO xs).1 ("T",c) t) ("t",t) c ("S",n)).length≤_
     rw [Zbp,if_neg (fun z=>absurd z.1 (by decide +kernel)),Zbp,if_neg (fun z=>absurd z.1 (by decide +kernel))]
     exact Nat.le_succ _
    | union a b d=>exact ZlJ (ae rfl) _
    | parted a b d=>exact ZlJ (ae rfl) _
    | dead a d=>exact Nat.le_succ _
    | given a b am d=>exact Nat.le_succ _
   show (Zj4 (ZiO xs).1 (ZiO xs).2 e ("S",n)).length≤xs.length+1
   omega
 intro es h n
 exact go es.length es rfl h n
theorem ZrR {es:List Ent} (h:∀ e∈es,Zko e) (c:Str × Str):((ZiO es).1 c).length≤es.length:=by
 obtain ⟨l,n⟩:=c
 have six:∀ {ad:Str->Ent->List Str},Adds l ad->(∀ e,(ad n e).length≤1)->((ZiO es).1 (l,n)).length≤es.length:=fun A h1=>by
  rw [A.all,(ZbB _).length_eq]
  exact ZlS h1 es
 by_cases hl:l∈Zdb
 ·simp only [Zdb,List.mem_cons,List.not_mem_nil,or_false] at hl
  rcases hl with rfl | rfl | rfl | rfl | rfl | rfl | rfl
  ·exact six Zrm fun e=>(Zf1 n e).1
  ·exact six ZrW fun e=>(Zf1 n e).2.1
  ·exact six ZrS fun e=>(Zf1 n e).2.2.2.2.1
  ·exact six Zrr fun e=>(Zf1 n e).2.2.1
  ·exact six ZrT fun e=>(Zf1 n e).2.2.2.1
  ·exact six Zri fun e=>(Zf1 n e).2.2.2.2.2
  ·exact ZsI h n
 ·rw [ZnV hl]; exact Nat.zero_le _
theorem Znx {ds:List Ent} (h:(ds.map fun e=>e.told.key).Nodup):Once ds:=by
 intro c
 have go:∀ ds:List Ent,(ds.map fun e=>e.told.key).Nodup->((tl c ds).map (·.1)).Nodup:=by
  intro ds
  induction ds with
  | nil=>intro _; exact .nil
  | cons e ds ih =>
   intro n
   rw [List.map_cons,List.nodup_cons] at n
   have ih:=ih n.2
   unfold tl at ih ⊢
   rw [List.filterMap_cons]
   by_cases cc:e.tie=true∧Zan e.pr.1 e.pr.2=c
   ·rw [if_pos cc]
    show (_ :: _).Nodup
    rw [List.nodup_cons]
    refine ⟨fun m=>?_,ih⟩
    obtain ⟨q,hq,eq⟩:=List.mem_map.mp m
    obtain ⟨x,hx,ex⟩:=List.mem_filterMap.mp hq
    by_cases c2:x.tie=true∧Zan x.pr.1 x.pr.2=c
    ·rw [if_pos c2] at ex
     have:=Option.some.inj ex
     subst this
     refine n.1 (List.mem_map.mpr ⟨x,hx,?_⟩)
     have kk:∀ y:Ent,y.tie=true->y.told.key=[.inr "tie",.inr (Zan y.pr.1 y.pr.2).1,.inr (Zan y.pr.1 y.pr.2).2,.inl y.day]:=fun y hy=>by
      cases y with
      | union=>rfl
      | parted=>rfl
      | _=>cases hy
     rw [kk x c2.1,kk e cc.1,c2.2,cc.2,show x.day=e.day from eq]
    ·rw [if_neg c2] at ex
     cases ex
   ·rw [if_neg cc]
    exact ih
 exact go ds h
structure LI5 (pool:List Str) (B:Bk) (ks:List (Ent × Addr)):Prop where
 st:BSt B (ks.map (·.1))
 sus:∀ c,ZjQ B.sums c=ZrL c (ks.map (·.1))
 told:∀ p∈ks,p.1.told=p.1
 keys:(ks.map fun p=>p.1.told.key).Nodup
 inp:∀ p∈ks,∀ n,p.1.bornName=some n->n∈pool
 ap:∀ p∈ks,Zko p.1
theorem LI5.start (pool:List Str):LI5 pool bk0 []:=⟨BSt.start,fun _=>rfl,fun p hp=>(by cases hp),.nil,fun p hp=>(by cases hp),fun p hp=>(by cases hp)⟩
theorem LI5.ap' {pool:List Str} {B:Bk} {ks:List (Ent × Addr)} (h:LI5 pool B ks):∀ e∈ks.map (·.1),Zko e:=fun e he=>by
 obtain ⟨p,hp,rfl⟩:=List.mem_map.mp he
 exact h.ap p hp
theorem LI5.once {pool:List Str} {B:Bk} {ks:List (Ent × Addr)} (h:LI5 pool B ks):Once (ks.map (·.1)):=by
 refine Znx ?_
 rw [List.map_map]
 exact h.keys
theorem LI5.room {pool:List Str} {B:Bk} {ks:List (Ent × Addr)} (h:LI5 pool B ks) (l:ks.length≤60):Room1 B:=by
 have e:(ks.map (·.1)).length=ks.length:=List.length_map ..
 have m1:=h.st.nl
 have m2:=h.st.nt
 have m3:=h.st.ns
 refine ⟨h.st.nd,by omega,by omega,by omega,fun c=>?_,fun c=>?_⟩
 ·rw [h.st.lks]
  exact Nat.le_trans (ZrR h.ap' c) (by omega)
 ·rw [h.st.tis,ZrC h.once]
  exact Nat.le_trans (Zq2 c _) (by omega)
theorem ZfE (e:Ent):e.told.bornName=e.bornName:=by cases e <;> rfl
theorem ZmH {B:Bk} {e:Ent} (h:Zhm B e=true):Zko e:=fun t=>by
 cases e with
 | union a b d =>
  intro z
  rw [ZfK rfl,show (Ent.union a b d).same=true from decide_eq_true (show a=b from z)] at h
  cases h
 | parted a b d =>
  intro z
  rw [ZfK rfl,show (Ent.parted a b d).same=true from decide_eq_true (show a=b from z)] at h
  cases h
 | _=>cases t
theorem ZlP {B:Bk} {e:Ent} (h:ZmR B e=none):B.kept.length<400∧(e.isBorn=true->(Bk.bornD B.kept).length<60)∧(∀ n∈e.named,Known B n)∧Zdv B.keptD e.told.key=none∧Zhm B e=true:=by
 obtain ⟨h1,h2,h3⟩:=Zkc h
 unfold ZmR at h
 by_cases f:B.full e=true
 ·rw [if_pos f] at h; cases h
 ·rw [if_neg f,if_neg (by rw [ZjT h3]; decide),if_neg (by rw [h1]; decide)] at h
  refine ⟨h2,fun b=>?_,h3,h1,?_⟩
  ·unfold Bk.full at f
   rw [b,Bool.true_and,Bool.or_eq_true,not_or] at f
   have:=f.2
   rw [decide_eq_true_eq] at this
   omega
  ·cases hf:Zhm B e with
   | true=>rfl
   | false=>rw [hf,if_neg (by decide)] at h; cases h
theorem LI5.put {pool:List Str} {B B':Bk} {ks:List (Ent × Addr)} {e:Ent} (h:LI5 pool B ks) (p:Put B e B') (d:D5 pool e) (no:ZmR B e=none) (a:Addr):LI5 pool B' (ks++[(e.told,a)]):=by
 obtain ⟨_,_,_,hv,hf⟩:=ZlP no
 have st:=h.st.put p
 have em:(ks++[(e.told,a)]).map (·.1)=ks.map (·.1)++[e.told]:=by rw [List.map_append]; rfl
 rw [← em] at st
 have one:∀ q∈ks++[(e.told,a)],q∈ks∨q=(e.told,a):=fun q hq=>(List.mem_append.mp hq).imp id (fun z=>by simpa using z)
 refine ⟨st,fun c=>?_,fun q hq=>?_,?_,fun q hq n hn=>?_,fun q hq=>?_⟩
 ·rw [p.su c,em,Znd]
  generalize e.told=e' at *
  cases e' with
  | given x y am d =>
   show (if c=(x,y) then ZjQ B.sums c+am else ZjQ B.sums c)=ZrL c _+(if c=(x,y) then am else 0)
   rw [h.sus]
   split <;> simp
  | _=>rw [show Zo1 (ZjQ B.sums) _ c=ZjQ B.sums c from rfl,h.sus]; exact (Int.add_zero _).symm
 ·rcases one q hq with hq | rfl
  ·exact h.told q hq
  ·exact ZcT e
 ·rw [List.map_append,List.nodup_append]
  refine ⟨h.keys,by simp,fun x hx y hy z=>?_⟩
  have hy':y=e.told.told.key:=by simpa using hy
  obtain ⟨q,hq,rfl⟩:=List.mem_map.mp hx
  have kn:(Zdv (LBk ks).keptD e.told.key).isSome=true:=Zqf ⟨q,hq,by rw [h.told q hq] at z; rw [z,hy',ZcT]⟩
  have kv:(Zdv B.keptD e.told.key).isSome=(Zdv (LBk ks).keptD e.told.key).isSome:=Zqc (l:=B.kept) (m:=ks) h.st.kept
  rw [kn,hv] at kv
  cases kv
 ·rcases one q hq with hq | rfl
  ·exact h.inp q hq n hn
  ·exact d.2.2 n (by rw [← ZfE]; exact hn)
 ·rcases one q hq with hq | rfl
  ·exact h.ap q hq
  ·exact Zmd (ZmH hf)
theorem Zkx {l m:List Str} (h:l.Nodup) (s:∀ x∈l,x∈m):l.length≤m.length:=by
 induction l generalizing m with
 | nil=>exact Nat.zero_le _
 | cons a l ih =>
  have hn:=List.nodup_cons.mp h
  have am:=s a (List.mem_cons_self ..)
  have:=ih (m:=m.erase a) hn.2 fun x hx=>(List.mem_erase_of_ne (fun z=>hn.1 (by rw [← z]; exact hx))).mpr (s x (List.mem_cons_of_mem _ hx))
  rw [List.length_erase_of_mem am] at this
  have:=List.length_pos_of_mem am
  rw [List.length_cons]
  omega
theorem LI5.names {pool:List Str} {B:Bk} {ks:List (Ent × Addr)} (h:LI5 pool B ks):(ZaG ks).Nodup∧∀ n∈ZaG ks,n∈pool:=by
 refine ⟨?_,fun n hn=>?_⟩
 ·have k:=h.keys
  clear h
  induction ks with
  | nil=>exact .nil
  | cons p ks ih =>
   have kn:=List.nodup_cons.mp (show (p.1.told.key :: ks.map fun p=>p.1.told.key).Nodup from k)
   have ih:=ih kn.2
   unfold ZaG at ih ⊢
   rw [List.filterMap_cons]
   cases hb:p.1.bornName with
   | none=>exact ih
   | some n =>
    refine List.nodup_cons.mpr ⟨fun hm=>?_,ih⟩
    obtain ⟨q,hq,eq⟩:=List.mem_filterMap.mp hm
    refine kn.1 (List.mem_map.mpr ⟨q,hq,?_⟩)
    have bk:∀ e:Ent,e.bornName=some n->e.told.key=[.inr "born",.inr n]:=fun e he=>by
     cases e with
     | born n' s d f m=>cases he; rfl
     | _=>cases he
    rw [bk _ eq,bk _ hb]
 ·obtain ⟨q,hq,eq⟩:=List.mem_filterMap.mp hn
  exact h.inp q hq n eq
theorem LI5.ksok {pool:List Str} {B:Bk} {ks:List (Ent × Addr)} (h:LI5 pool B ks) (l:ks.length≤60) (p33:pool.length≤33):KsOk ks∧(ZaG ks).length<60:=by
 obtain ⟨n1,n2⟩:=h.names
 exact ⟨⟨h.told,n1,l⟩,Nat.lt_of_le_of_lt (Zkx n1 n2) (by omega)⟩
theorem Zpk {K:W.Frag} {H:Hp} {a c:Addr} {xs:List V} {o:Obj} {w:List (List Key × V)} {o':HO} (h:SqT K H a xs) (e:H c=some (.frz o (.dT w))):SqT K (upd H c o') a xs:=by
 rcases h with (h | ⟨x,h⟩) | h
 ·exact .inl (.inl ((Zak (ZaV h e (fun z=>by cases z))).trans h))
 ·exact .inl (.inr ⟨x,(Zak (ZaV h e (fun z=>by cases z))).trans h⟩)
 ·exact .inr h
theorem BkAt.thaw {K:W.Frag} {C:Addr} {H:Hp} {b dx k bi li ti su c:Addr} {B:Bk} {ob:Obj} {w:List (List Key × V)} {o:HO} (h:BkAt K C H b dx k bi li ti su B) (e:H c=some (.frz ob (.dT w))):BkAt K C (upd H c o) b dx k bi li ti su B:=by
 have off:∀ {a:Addr} {o':HO},H a=some o'->(∀ x y,o'≠.frz x y)->upd H c o a=some o':=fun {a o'} ea no=>(Zak (fun z=>by subst z; rw [e] at ea; cases ea; exact no _ _ rfl)).trans ea
 exact ⟨off h.ob (fun _ _ z=>by cases z),h.ap,h.at',off h.ke (fun _ _ z=>by cases z),off h.bi (fun _ _ z=>by cases z),off h.li (fun _ _ z=>by cases z),off h.ti (fun _ _ z=>by cases z),off h.su (fun _ _ z=>by cases z),
  fun p hp=>Zpk (h.en p hp) e,fun q hq=>off (h.ll q hq) (fun _ _ z=>by cases z),fun q hq=>off (h.tt q hq) (fun _ _ z=>by cases z)⟩
structure Fit (xs:List Ent) (e:Ent):Prop where
 kn:∀ n∈e.named,∃ s d f m,Ent.born n s d f m∈xs∧d≤e.day
 key:∀ x∈xs,x.key≠e.told.key
 par:∀ n s d f m,e=.born n s d f m->(f=""∨∃ d' f' m',Ent.born f "he" d' f' m'∈xs∧d'<d)∧(m=""∨∃ d' f' m',Ent.born m "she" d' f' m'∈xs∧d'<d)
 tk:∀ c t d,e=.taken c t d->∀ sc dc fc mc st dt ft mt,Ent.born c sc dc fc mc∈xs->Ent.born t st dt ft mt∈xs->dt<dc
 ap:e.same=false
def BU (xs:List Ent):Prop:=∀ {n s d f m s' d' f' m'},Ent.born n s d f m∈xs->Ent.born n s' d' f' m'∈xs->Ent.born n s d f m=.born n s' d' f' m'
theorem ZdV {B:Bk} {xs:List Ent} (h:B.kept.map (·.1)=xs) (u:BU xs) {n s f m:Str} {d:Int} (hm:Ent.born n s d f m∈xs):Known B n∧Zn7 B n=s∧Zfn B n=d:=by
 obtain ⟨a,ha⟩:=Zim (l:=B.kept) (by rw [h]; exact hm) fun {s' d' f' m'} hm'=>by
  rw [h] at hm'
  exact u hm' hm
 exact ⟨by unfold Known; rw [ha]; simp,Zl7 ha rfl,Zhc ha rfl⟩
theorem Zqy {B:Bk} {xs:List Ent} {e:Ent} (h:B.kept.map (·.1)=xs) (u:BU xs) (l:xs.length<400) (b:e.isBorn=true->(ZaG B.kept).length<60) (f:Fit xs e):ZmR B e=none:=by
 have kl:=ZdL h
 refine Zns ?_ (fun n hn=>?_) ?_ ?_
 ·unfold Bk.full
  rw [decide_eq_false (show ¬ 400≤B.kept.length by omega),Zn3]
  cases hb:e.isBorn with
  | false=>rfl
  | true=>rw [decide_eq_false (show ¬ 60≤(ZaG B.kept).length by have:=b hb; omega)]; rfl
 ·obtain ⟨s,d,f',m,h1,_⟩:=f.kn n hn
  exact (ZdV h u h1).1
 ·rw [Zpq h f.key]; rfl
 ·cases hi:e.isBorn with
  | true =>
   cases e with
   | born n s d fa mo =>
    obtain ⟨p1,p2⟩:=f.par n s d fa mo rfl
    have one:∀ {x so:Str},(x=""∨∃ d' f' m',Ent.born x so d' f' m'∈xs∧d'<d)->ZmK B x so d=true:=fun {x so} hx=>by
     unfold ZmK
     rcases hx with rfl | ⟨d',f',m',h1,h2⟩
     ·rfl
     ·obtain ⟨_,e1,e2⟩:=ZdV h u h1
      rw [e1,e2,decide_eq_true rfl,decide_eq_true h2,Bool.true_and,Bool.or_true]
    show (ZmK B fa "he" d&&ZmK B mo "she" d)=true
    rw [one p1,one p2]; rfl
   | _=>cases hi
  | false =>
   rw [ZfK hi,f.ap]
   have he:e.early B=false:=by
    cases e with
    | taken c t d =>
     obtain ⟨sc,dc,fc,mc,h1,_⟩:=f.kn c (by simp [Ent.named])
     obtain ⟨st,dt,ft,mt,h2,_⟩:=f.kn t (by simp [Ent.named])
     have h3:=f.tk c t d rfl _ _ _ _ _ _ _ _ h1 h2
     show decide (Zfn B c≤Zfn B t)=false
     rw [(ZdV h u h1).2.2,(ZdV h u h2).2.2]
     exact decide_eq_false (by omega)
    | _=>rfl
   rw [he]
   show (e.named.all fun n=>decide (Zfn B n≤e.day))=true
   rw [List.all_eq_true]
   intro n hn
   obtain ⟨s,d,f',m,h1,h2⟩:=f.kn n hn
   rw [(ZdV h u h1).2.2]
   exact decide_eq_true h2
theorem Fit.filt {xs:List Ent} {e:Ent} {d:Int} (f:Fit xs e) (hd:e.day≤d):Fit (xs.filter fun x=>decide (x.day≤d)) e:=by
 have up:∀ {n s f' m:Str} {d0:Int},Ent.born n s d0 f' m∈xs->d0≤d->Ent.born n s d0 f' m∈xs.filter fun x=>decide (x.day≤d):=fun h1 h2=>List.mem_filter.mpr ⟨h1,decide_eq_true h2⟩
 refine ⟨fun n hn=>?_,fun x hx=>f.key x (List.mem_filter.mp hx).1,fun n s d0 fa mo he=>?_,fun c t d0 he=>?_,f.ap⟩
 ·obtain ⟨s,d0,f',m,h1,h2⟩:=f.kn n hn
  exact ⟨s,d0,f',m,up h1 (by omega),h2⟩
 ·have hd0:d0≤d:=by rw [he] at hd; exact hd
  obtain ⟨p1,p2⟩:=f.par n s d0 fa mo he
  exact ⟨p1.imp id fun ⟨d',f',m',h1,h2⟩=>⟨d',f',m',up h1 (by omega),h2⟩,p2.imp id fun ⟨d',f',m',h1,h2⟩=>⟨d',f',m',up h1 (by omega),h2⟩⟩
 ·intro sc dc fc mc st dt ft mt h1 h2
  exact f.tk c t d0 he _ _ _ _ _ _ _ _ (List.mem_filter.mp h1).1 (List.mem_filter.mp h2).1
theorem Zjl (e:Ent):e.told.day=e.day:=by cases e <;> rfl
theorem Zm4 {e:Ent} (h:e.same=false):e.told.same=false:=by
 cases e with
 | union a b d =>
  show decide ((Zan a b).1=(Zan a b).2)=false
  have:a≠b:=of_decide_eq_false h
  unfold Zan
  split
  ·exact decide_eq_false fun z=>this z.symm
  ·exact decide_eq_false this
 | parted a b d =>
  show decide ((Zan a b).1=(Zan a b).2)=false
  have:a≠b:=of_decide_eq_false h
  unfold Zan
  split
  ·exact decide_eq_false fun z=>this z.symm
  ·exact decide_eq_false this
 | _=>exact h
theorem Fit.told {xs:List Ent} {e:Ent} (f:Fit xs e):Fit xs e.told:=by
 refine ⟨fun n hn=>?_,fun x hx=>by rw [ZcT]; exact f.key x hx,fun n s d fa mo he=>f.par n s d fa mo ?_,fun c t d he=>f.tk c t d ?_,Zm4 f.ap⟩
 ·rw [Zjl]; exact f.kn n (ZfZ e n hn)
 ·cases e <;> first | exact he | cases he
 ·cases e <;> first | exact he | cases he
inductive GdL (pool:List Str):List Ent->Prop
 | nil:GdL pool []
 | snoc {es:List Ent} {e:Ent} (h:GdL pool es) (d:D5 pool e) (d':D5 pool e.told) (f:Fit (es.map Ent.told) e):GdL pool (es++[e])
theorem GdL.last {pool:List Str} {l:List Ent} (h:GdL pool l) {xs:List Ent} {e:Ent} (el:l=xs++[e]):GdL pool xs∧D5 pool e∧D5 pool e.told∧Fit (xs.map Ent.told) e:=by
 cases h with
 | nil=>simp at el
 | snoc h d d' f =>
  obtain ⟨e1,e2⟩:=List.append_inj' el rfl
  obtain ⟨e3,_⟩:=List.cons.inj e2
  subst e1 e3
  exact ⟨h,d,d',f⟩
theorem GdL.take {pool:List Str} {l:List Ent} (h:GdL pool l):∀ i,GdL pool (l.take i):=by
 induction h with
 | nil=>intro i; rw [List.take_nil]; exact .nil
 | @snoc xs e h d d' f ih =>
  intro i
  by_cases il:i≤xs.length
  ·rw [List.take_append_of_le_length il]
   exact ih i
  ·rw [List.take_of_length_le (by rw [List.length_append]; show _+1≤_; omega)]
   exact .snoc h d d' f
theorem ZoF (es:List Ent):(es.map Ent.told).map Ent.told=es.map Ent.told:=by
 rw [List.map_map]
 exact List.map_congr_left fun e _=>ZcT e
theorem GdL.told {pool:List Str} {l:List Ent} (h:GdL pool l):GdL pool (l.map Ent.told):=by
 induction h with
 | nil=>exact .nil
 | @snoc xs e h d d' f ih =>
  rw [List.map_append]
  exact .snoc ih d' (by rw [ZcT]; exact d') (by rw [ZoF]; exact f.told)
theorem GdL.filt {pool:List Str} {l:List Ent} (h:GdL pool l) (d:Int):GdL pool (l.filter fun x=>decide (x.day≤d)):=by
 induction h with
 | nil=>exact .nil
 | @snoc xs e h d5 d' f ih =>
  rw [List.filter_append]
  by_cases hd:e.day≤d
  ·have e1:[e].filter (fun x=>decide (x.day≤d))=[e]:=by simp [hd]
   rw [e1]
   have e2:(xs.filter fun x=>decide (x.day≤d)).map Ent.told=(xs.map Ent.told).filter fun x=>decide (x.day≤d):=by
    rw [List.filter_map]
    congr 1
    exact List.filter_congr fun x _=>by show _=decide (x.told.day≤d); rw [Zjl]
   refine .snoc ih d5 d' ?_
   rw [e2]
   exact f.filt hd
  ·have e1:[e].filter (fun x=>decide (x.day≤d))=[]:=by simp [hd]
   rw [e1,List.append_nil]
   exact ih
theorem GdL.bu {pool:List Str} {l:List Ent} (h:GdL pool l):BU (l.map Ent.told):=by
 induction h with
 | nil=>intro n s d f m s' d' f' m' h1; cases h1
 | @snoc xs e h d5 d5' f ih =>
  intro n s d fa m s' d' f' m' h1 h2
  rw [List.map_append] at h1 h2
  have kb:∀ {x:Ent} {n s f m:Str} {d:Int},x=.born n s d f m->x.key=[.inr "born",.inr n]:=fun z=>by rw [z]; rfl
  rcases List.mem_append.mp h1 with h1 | h1 <;> rcases List.mem_append.mp h2 with h2 | h2
  ·exact ih h1 h2
  ·have e2:=List.mem_singleton.mp h2
   exact absurd (by rw [← e2]; rfl) (f.key _ h1)
  ·have e1:=List.mem_singleton.mp h1
   exact absurd (by rw [← e1]; rfl) (f.key _ h2)
  ·rw [List.mem_singleton.mp h1,List.mem_singleton.mp h2]
theorem GdL.d5 {pool:List Str} {l:List Ent} (h:GdL pool l):∀ e∈l,D5 pool e:=by
 induction h with
 | nil=>intro e he; cases he
 | snoc h d5 d' f ih =>
  intro e he
  rcases List.mem_append.mp he with he | he
  ·exact ih e he
  ·rw [List.mem_singleton.mp he]; exact d5
theorem LI5.put' {pool:List Str} {B B':Bk} {e:Ent} (h:LI5 pool B B.kept) (p:Put B e B') (d:D5 pool e) (no:ZmR B e=none):LI5 pool B' B'.kept∧B'.kept.map (·.1)=B.kept.map (·.1)++[e.told]:=by
 obtain ⟨a,ha⟩:=p.kept
 have z:=h.put p d no a
 rw [← ha] at z
 exact ⟨z,by rw [ha,List.map_append]; rfl⟩
theorem ZfH {es:List Ent} (h:∀ e∈es,e.told=e):es.map Ent.told=es:=by
 have:es.map Ent.told=es.map id:=List.map_congr_left fun e he=>h e he
 rw [this,List.map_id]
theorem GdL.ref {pool:List Str} {B:Bk} {es:List Ent} {e:Ent} (li:LI5 pool B B.kept) (hk:B.kept.map (·.1)=es.map Ent.told) (g:GdL pool (es++[e])) (l:B.kept.length≤60) (p33:pool.length≤33):ZmR B e=none∧D5 pool e∧Room1 B:=by
 obtain ⟨g0,d5,_,f⟩:=g.last rfl
 have kl:=ZdL hk
 refine ⟨Zqy hk g0.bu (by rw [← kl]; omega) (fun _=>(li.ksok l p33).2) f,d5,li.room l⟩
def UB (pool:List Str) (B:Bk):Prop:=GdL pool (B.kept.map (·.1))∧(∀ p∈B.kept,p.1.told=p.1)∧pool.length≤33∧B.kept.length≤60
noncomputable def Zjt (p:Str->Bool) (x:Str):Option V:=if p x=true then some (.str x) else none
theorem ZdJ (p:Str->Bool):∀ l:List Str,(l.map (Zjt p)).filterMap id=(l.filter p).map V.str
 | []=>rfl
 | x :: l=>by
  have ih:=ZdJ p l
  rw [List.map_cons,List.filterMap_cons,List.filter_cons]
  unfold Zjt at ih ⊢
  by_cases h:p x=true
  ·rw [if_pos h,if_pos h]
   simp only [id,List.map_cons]
   rw [ih]
  ·rw [if_neg h,if_neg h]
   simp only [id]
   exact ih
theorem Zis {l:List Str} {i:Nat} {v:V} (h:(l.map V.str)[i]?=some v):∃ x,l[i]?=some x∧v=.str x:=by
 rw [List.getElem?_map] at h
 obtain ⟨x,hx,rfl⟩:=Option.map_eq_some_iff.mp h
 exact ⟨x,hx,rfl⟩
noncomputable def ZqG (B:Bk) (o:Option (List Str)) (x:Str):Bool:=match o with
 | none=>(Zco x B.kept).isNone
 | some zs=>decide (x∈zs)
noncomputable def ZpG (B:Bk) (n:Str) (o:Option (List Str)):List Str:=((ZaL (ZaG B.kept)).filter fun x=>decide (x≠n)).filter (ZqG B o)
def LivAt (K:W.Frag) (H:Hp) (z:V) (o:Option (List Str)):Prop:=match o with
 | none=>z=.non
 | some zs=>∃ l,z=.ref l∧SqL K H l (zs.map V.str)
theorem LivAt.mono {K:W.Frag} {H H':Hp} {z:V} {o:Option (List Str)} (h:LivAt K H z o) (s:Same H H'):LivAt K H' z o:=by
 cases o with
 | none=>exact h
 | some zs=>obtain ⟨l,e,q⟩:=h; exact ⟨l,e,s.sql q⟩
noncomputable def Zdd (es:List Ent):List Str:=es.filterMap Ent.bornName
noncomputable def Zpd:Ent->Option (Str × Int)
 | .dead n d=>some (n,d)
 | _=>none
noncomputable def ZaP (es:List Ent):List (Str × Int):=es.filterMap Zpd
structure Nms (ns:List Str):Prop where
 len:ns.length=26
 nm:∀ n∈ns,Nm n
 nd:ns.Nodup
structure PB (ns:List Str) (es:List Ent):Prop where
 good:GdL (ns.take 20) es
 nm:∀ (i:Nat) (e:Ent),es[i]?=some e->∃ n s d f m,ns[i]?=some n∧e=.born n s d f m∧-10 ^ 17≤d∧d≤10 ^ 9*((i:Int)+1)
 up:∀ (i j:Nat) (e e':Ent),i≤j->es[i]?=some e->es[j]?=some e'->e.day≤e'.day
structure FitB (bs:List Ent) (e:Ent):Prop where
 nb:e.isBorn=false
 ok:e.Ok
 ok':e.told.Ok
 kn:∀ n∈e.named,∃ s d f m,Ent.born n s d f m∈bs∧d≤e.day
 tk:∀ c t d,e=.taken c t d->∀ sc dc fc mc st dt ft mt,Ent.born c sc dc fc mc∈bs->Ent.born t st dt ft mt∈bs->dt<dc
 ap:e.same=false
structure More (bs ds:List Ent):Prop where
 fit:∀ e∈ds,FitB bs e
 nd:(ds.map fun e=>e.told.key).Nodup
structure RwOk (ns:List Str) (es:List Ent):Prop where
 ex:∃ bs ds ts,es=bs++ds++ts∧PB ns bs∧0<bs.length∧bs.length≤20∧ds.length≤bs.length∧ts.length≤20∧(∀ e∈ds,e.kw="dead")∧∀ e∈ts,e.kw≠"born"∧e.kw≠"dead"
 good:GdL (ns.take 20) es
noncomputable def ZpA (es:List Ent) (dead:Str) (o:Option (List Str)) (x:Str):Bool:=match o with
 | none=>!decide (x∈(ZaP es).map (·.1))
 | some zs=>decide (x∈zs)&&decide (x≠dead)
noncomputable def Zqd (es:List Ent) (dead:Str) (d:Int) (o:Option (List Str)):List Str:=(ZaL (Zdd (es.filter fun e=>decide (e.day≤d)))).filter (ZpA (es.filter fun e=>decide (e.day≤d)) dead o)
theorem ZlI (l:List (Ent × Addr)):ZaG l=Zdd (l.map (·.1)):=by
 unfold ZaG Zdd
 rw [List.filterMap_map]
 rfl
theorem Zmj (es:List Ent):Zdd (es.map Ent.told)=Zdd es:=by
 unfold Zdd
 rw [List.filterMap_map]
 congr 1
 funext e
 exact ZfE e
theorem ZkA (es:List Ent) (d:Int):(es.map Ent.told).filter (fun e=>decide (e.day≤d))=(es.filter fun e=>decide (e.day≤d)).map Ent.told:=by
 rw [List.filter_map]
 congr 1
 exact List.filter_congr fun x _=>by show decide (x.told.day≤d)=_; rw [Zjl]
theorem ZmC (e:Ent):Zpd e.told=Zpd e:=by cases e <;> rfl
theorem ZiF (es:List Ent):ZaP (es.map Ent.told)=ZaP es:=by
 unfold ZaP
 rw [List.filterMap_map]
 congr 1
 funext e
 exact ZmC e
theorem Zga {n:Str}:∀ {l:List (Ent × Addr)},(Zco n l).isNone=!decide (n∈(ZaP (l.map (·.1))).map (·.1))
 | []=>rfl
 | (e,a) :: l=>by
  have ih:=Zga (n:=n) (l:=l)
  cases e with
  | dead n' d =>
   unfold Zco ZaP
   rw [List.map_cons,List.filterMap_cons]
   show (if n'=n then some (d,a) else Zco n l).isNone=!decide (n∈((n',d) :: ZaP (l.map (·.1))).map (·.1))
   rw [List.map_cons]
   by_cases e:n'=n
   ·rw [if_pos e,decide_eq_true (by rw [e]; exact List.mem_cons_self ..)]; rfl
   ·rw [if_neg e,ih]
    congr 1
    exact decide_eq_decide.mpr ⟨fun h=>List.mem_cons_of_mem _ h,fun h=>(List.mem_cons.mp h).resolve_left fun z=>e z.symm⟩
  | _=>exact ih
theorem Zld {B:Bk} {es:List Ent} {d:Int} {dead:Str} {o:Option (List Str)} (h:B.kept.map (·.1)=(es.map Ent.told).filter fun e=>decide (e.day≤d)) (hd:(dead,d)∈ZaP es):ZpG B dead o=Zqd es dead d o:=by
 have h1:ZaG B.kept=Zdd (es.filter fun e=>decide (e.day≤d)):=by rw [ZlI,h,ZkA,Zmj]
 have h2:ZaP (B.kept.map (·.1))=ZaP (es.filter fun e=>decide (e.day≤d)):=by rw [h,ZkA,ZiF]
 unfold ZpG Zqd
 rw [h1,List.filter_filter]
 refine List.filter_congr fun x _=>?_
 cases o with
 | none =>
  show ((Zco x B.kept).isNone&&decide (x≠dead))=!decide (x∈(ZaP (es.filter fun e=>decide (e.day≤d))).map (·.1))
  rw [Zga,h2]
  by_cases e:x=dead
  ·have:x∈(ZaP (es.filter fun e=>decide (e.day≤d))).map (·.1):=by
    refine List.mem_map.mpr ⟨(dead,d),?_,e.symm⟩
    obtain ⟨y,hy,ey⟩:=List.mem_filterMap.mp hd
    refine List.mem_filterMap.mpr ⟨y,List.mem_filter.mpr ⟨hy,?_⟩,ey⟩
    cases y with
    | dead n' d'=>cases ey; exact decide_eq_true (Int.le_refl _)
    | _=>cases ey
   rw [decide_eq_true this]
   rfl
  ·rw [decide_eq_true e,Bool.and_true]
 | some zs=>rfl
theorem GdL.more {pool:List Str}:∀ {ds es bs:List Ent},GdL pool es->(∀ n s d f m,Ent.born n s d f m∈es↔Ent.born n s d f m∈bs)->(∀ e∈ds,FitB bs e)->((es++ds).map fun e=>e.told.key).Nodup->GdL pool (es++ds)
 | [],es,bs,g,_,_,_=>by rw [List.append_nil]; exact g
 | e :: ds,es,bs,g,hb,hf,nd=>by
  have f:=hf e (List.mem_cons_self ..)
  have bt:∀ {n s f m:Str} {d:Int},Ent.born n s d f m∈es.map Ent.told↔Ent.born n s d f m∈bs:=fun {n s f m d}=>by
   rw [← hb]
   constructor
   ·intro h
    obtain ⟨x,hx,ex⟩:=List.mem_map.mp h
    cases x with
    | born n' s' d' f' m'=>rw [← ex]; exact hx
    | _=>cases ex
   ·intro h
    exact List.mem_map.mpr ⟨_,h,rfl⟩
  have inp:∀ n s d f m,Ent.born n s d f m∈bs->n∈pool:=fun n s d f m h=>(g.d5 _ ((hb ..).mpr h)).2.2 n rfl
  have bn:∀ x:Ent,x.isBorn=false->x.bornName=none:=fun x hx=>by cases x <;> first | rfl | cases hx
  have d5:D5 pool e:=⟨f.ok,fun n hn=>by obtain ⟨s,d,fa,m,h1,_⟩:=f.kn n hn; exact inp _ _ _ _ _ h1,fun n hn=>by rw [bn e f.nb] at hn; cases hn⟩
  have d5':D5 pool e.told:=⟨f.ok',fun n hn=>d5.2.1 n (ZfZ e n hn),fun n hn=>by rw [ZfE] at hn; exact d5.2.2 n hn⟩
  have nd2:(es.map fun e=>e.told.key).Nodup∧∀ x∈es,x.told.key≠e.told.key:=by
   rw [List.map_append,List.nodup_append] at nd
   exact ⟨nd.1,fun x hx=>nd.2.2 _ (List.mem_map.mpr ⟨x,hx,rfl⟩) _ (by rw [List.map_cons]; exact List.mem_cons_self ..)⟩
  have g1:GdL pool (es++[e]):=by
   refine .snoc g d5 d5' ⟨fun n hn=>?_,fun x hx=>?_,fun n s d fa m he=>?_,fun c t d he sc dc fc mc st dt ft mt h1 h2=>f.tk c t d he _ _ _ _ _ _ _ _ (bt.mp h1) (bt.mp h2),f.ap⟩
   ·obtain ⟨s,d,fa,m,h1,h2⟩:=f.kn n hn
    exact ⟨s,d,fa,m,bt.mpr h1,h2⟩
   ·obtain ⟨y,hy,rfl⟩:=List.mem_map.mp hx
    exact nd2.2 y hy
   ·have:=f.nb
    rw [he] at this
    cases this
  have r:=GdL.more (ds:=ds) (es:=es++[e]) (bs:=bs) g1 (fun n s d fa m=>by
   rw [List.mem_append]
   constructor
   ·rintro (h | h)
    ·exact (hb ..).mp h
    ·have:=f.nb
     rw [← List.mem_singleton.mp h] at this
     cases this
   ·intro h
    exact .inl ((hb ..).mpr h)) (fun x hx=>hf x (List.mem_cons_of_mem _ hx)) (by rw [List.append_assoc]; exact nd)
  rw [List.append_assoc] at r
  exact r
noncomputable def Zrt (d:Int) (p:Ent × Addr):Option V:=if decide (p.1.day≤d)=true then some (.ref p.2) else none
theorem ZlH (d:Int):∀ l:List (Ent × Addr),(l.map (Zrt d)).filterMap id=ZaQ (l.filter fun p=>decide (p.1.day≤d))
 | []=>rfl
 | p :: l=>by
  have ih:=ZlH d l
  rw [List.map_cons,List.filterMap_cons,List.filter_cons]
  unfold Zrt at ih ⊢
  by_cases h:decide (p.1.day≤d)=true
  ·rw [if_pos h,if_pos h]
   simp only [id]
   rw [ih]
   rfl
  ·rw [if_neg h,if_neg h]
   simp only [id]
   exact ih
theorem ZmE {K:W.Frag} {H:Hp}:∀ {ys:List V} {ms:List (Str × Int)},ys.length=ms.length->(∀ (j:Nat) (y:V) (a:Str × Int),ys[j]?=some y->ms[j]?=some a->∃ t,y=.ref t∧SqT K H t [.str a.1,.int a.2])->∃ qs:List (Addr × Str × Int),ys=qs.map (fun q=>V.ref q.1)∧qs.map (·.2)=ms∧∀ q∈qs,SqT K H q.1 [.str q.2.1,.int q.2.2]:=by
 intro ys
 induction ys with
 | nil=>intro ms hl _; cases ms with
  | nil=>exact ⟨[],rfl,rfl,fun p hp=>by cases hp⟩
  | cons a ms=>simp at hl
 | cons y ys ih=>intro ms hl h; cases ms with
  | nil=>simp at hl
  | cons a ms =>
   obtain ⟨t,rfl,ht⟩:=h 0 y a rfl rfl
   obtain ⟨ps,h1,h2,h3⟩:=ih (ms:=ms) (by simpa using hl) fun j y b e1 e2=>h (j+1) y b (by simpa using e1) (by simpa using e2)
   refine ⟨(t,a) :: ps,by rw [h1]; rfl,by rw [List.map_cons,h2],fun p hp=>?_⟩
   rcases List.mem_cons.mp hp with rfl | hp
   ·exact ht
   ·exact h3 p hp
theorem ZqU {nms:List Str} {z:Int} (h0:z<0) (h1:-(nms.length:Int)≤z):∃ n,n∈nms∧atI (nms.map V.str) z=some (.str n):=by
 have hi:((nms.length:Int)+z).toNat<nms.length:=by omega
 refine ⟨nms[((nms.length:Int)+z).toNat],List.getElem_mem hi,?_⟩
 unfold atI ixN
 rw [List.length_map,if_neg (by omega),if_pos h1]
 show (nms.map V.str)[_]?=_
 rw [List.getElem?_map]
 first
  | rw [List.getElem?_eq_getElem hi]; rfl
  | (rw [Int.add_comm,List.getElem?_eq_getElem hi]; rfl)
theorem ZhI {e:Ent} (h:decide (V.str e.word=V.str "born")=true):∃ n s d f m,e=.born n s d f m:=by
 have z:=V.str.inj (of_decide_eq_true h)
 cases e with
 | born n s d f m=>exact ⟨n,s,d,f,m,rfl⟩
 | taken=>exact absurd (show ("taken" : Str)="born" from z) (by decide +kernel)
 | union=>exact absurd (show ("union" : Str)="born" from z) (by decide +kernel)
 | parted=>exact absurd (show ("parted" : Str)="born" from z) (by decide +kernel)
 | dead=>exact absurd (show ("dead" : Str)="born" from z) (by decide +kernel)
 | given=>exact absurd (show ("given" : Str)="born" from z) (by decide +kernel)
theorem ZoY (zs:List Str) (lo hi:Option Int):∃ ws:List Str,Znj (zs.map V.str) lo hi=ws.map V.str∧ws.length≤zs.length:=by
 unfold Znj
 rw [← List.map_drop,← List.map_take]
 exact ⟨_,rfl,by rw [List.length_take,List.length_drop]; omega⟩
theorem Znb {H:Hp}:∀ {ys:List V} {ms:List Unit},ys.length=ms.length->(∀ (j:Nat) (y:V) (a:Unit),ys[j]?=some y->ms[j]?=some a->∃ z:Int,y=.int z∧0≤z)->∃ cs:List Int,ys=cs.map V.int∧(∀ c∈cs,0≤c)∧cs.length=ms.length:=by
 intro ys
 induction ys with
 | nil=>intro ms hl _; exact ⟨[],rfl,fun c hc=>(by cases hc),hl⟩
 | cons y ys ih=>intro ms hl h; cases ms with
  | nil=>simp at hl
  | cons a ms =>
   obtain ⟨z,rfl,hz⟩:=h 0 y a rfl rfl
   obtain ⟨cs,h1,h2,h3⟩:=ih (ms:=ms) (by simpa using hl) fun j y b e1 e2=>h (j+1) y b (by simpa using e1) (by simpa using e2)
   refine ⟨z :: cs,by rw [h1]; rfl,fun c hc=>?_,by rw [List.length_cons,List.length_cons,h3]⟩
   rcases List.mem_cons.mp hc with rfl | hc
   ·exact hz
   ·exact h2 c hc
theorem PB.key {ns:List Str} {bs:List Ent} (h:PB ns bs) (nm:Nms ns):(bs.map fun e=>e.told.key).Nodup:=by
 have go:∀ {l:List Ent},GdL (ns.take 20) l->(l.map fun e=>e.told.key).Nodup:=by
  intro l g
  induction g with
  | nil=>exact .nil
  | @snoc xs e g d d' f ih =>
   rw [List.map_append,List.nodup_append]
   refine ⟨ih,by simp,fun a ha b hb z=>?_⟩
   obtain ⟨x,hx,rfl⟩:=List.mem_map.mp ha
   have hb':b=e.told.key:=by simpa using hb
   exact f.key x.told (List.mem_map.mpr ⟨x,hx,rfl⟩) (by rw [z,hb'])
 exact go h.good
theorem PB.kw {ns:List Str} {bs:List Ent} (h:PB ns bs):∀ e∈bs,e.kw="born":=fun e he=>by
 obtain ⟨i,hi,rfl⟩:=List.mem_iff_getElem.mp he
 obtain ⟨n,s,d,f,m,_,e1,_⟩:=h.nm i _ (List.getElem?_eq_getElem hi)
 rw [e1]; rfl
theorem Zsy {ns:List Str} {bs ds ts:List Ent} (nm:Nms ns) (pb:PB ns bs) (b0:0<bs.length) (b20:bs.length≤20) (md:More bs ds) (mt:More bs ts) (dl:ds.length≤bs.length) (tl:ts.length≤20) (dk:∀ e∈ds,e.kw="dead") (tk:∀ e∈ts,e.kw≠"born"∧e.kw≠"dead"):RwOk ns (bs++ds++ts):=by
 refine ⟨⟨bs,ds,ts,rfl,pb,b0,b20,dl,tl,dk,tk⟩,?_⟩
 rw [List.append_assoc]
 refine pb.good.more (bs:=bs) (fun _ _ _ _ _=>Iff.rfl) (fun e he=>?_) ?_
 ·rcases List.mem_append.mp he with he | he
  ·exact md.fit e he
  ·exact mt.fit e he
 ·rw [List.map_append,List.map_append,List.nodup_append]
  refine ⟨pb.key nm,?_,fun a ha b hb z=>?_⟩
  ·rw [List.nodup_append]
   refine ⟨md.nd,mt.nd,fun a ha b hb z=>?_⟩
   obtain ⟨x,hx,rfl⟩:=List.mem_map.mp ha
   obtain ⟨y,hy,rfl⟩:=List.mem_map.mp hb
   exact ZoE (by rw [dk x hx]; exact fun w=>(tk y hy).2 w.symm) z
  ·obtain ⟨x,hx,rfl⟩:=List.mem_map.mp ha
   rcases List.mem_append.mp hb with hb | hb
   ·obtain ⟨y,hy,rfl⟩:=List.mem_map.mp hb
    exact ZoE (by rw [pb.kw x hx,dk y hy]; decide +kernel) z
   ·obtain ⟨y,hy,rfl⟩:=List.mem_map.mp hb
    exact ZoE (by rw [pb.kw x hx]; exact fun w=>(tk y hy).1 w.symm) z
theorem Zpo {x y:Str} (h:x.cps.toList=y.cps.toList):x=y:=by
 obtain ⟨a⟩:=x; obtain ⟨b⟩:=y
 have:a=b:=Array.toList_inj.mp h
 rw [this]
theorem Zix:∀ L:List Nat,(("" : Str).join (L.map fun c=>(⟨#[c]⟩:Str)))=⟨L.toArray⟩
 | []=>rfl
 | [c]=>rfl
 | c :: d :: L=>by
  have ih:=Zix (d :: L)
  show (⟨#[c]⟩:Str)++""++("" : Str).join ((d :: L).map fun c=>(⟨#[c]⟩:Str))=_
  rw [ih]
  refine Zpo ?_
  show ((#[c]++#[])++(d :: L).toArray).toList=(c :: d :: L).toArray.toList
  simp
theorem Zsz (L:List Nat) {k:Nat} (h:k≤L.length):Txt.slice ⟨L.toArray⟩ none (some (k:Int))=⟨(L.take k).toArray⟩:=by
 have hl:k≤(⟨L.toArray⟩:Str).length:=by rw [Zef]; exact h
 have e:Txt.slice ⟨L.toArray⟩ none (some (k:Int))=StrLaws.sliceText ⟨L.toArray⟩ (some ((0:Nat):Int)) (some (k:Int)):=by
  show StrLaws.sliceText _ none (some (k:Int))=_
  unfold StrLaws.sliceText
  rw [StrLaws.sliceIdx_none_lo]
  rfl
 rw [e,StrLaws.sliceText_nat _ (Nat.zero_le _) hl]
 refine Zpo ?_
 simp
theorem Zsj (L:List Nat) {k:Nat} (h:k≤L.length):Txt.slice ⟨L.toArray⟩ (some (k:Int)) none=⟨(L.drop k).toArray⟩:=by
 have hl:k≤(⟨L.toArray⟩:Str).length:=by rw [Zef]; exact h
 have e:Txt.slice ⟨L.toArray⟩ (some (k:Int)) none=StrLaws.sliceText ⟨L.toArray⟩ (some (k:Int)) (some (((⟨L.toArray⟩:Str).length:Nat):Int)):=by
  show StrLaws.sliceText _ (some (k:Int)) none=_
  unfold StrLaws.sliceText
  rw [StrLaws.sliceIdx_none_hi]
 rw [e,StrLaws.sliceText_nat _ hl (Nat.le_refl _),Zef]
 refine Zpo ?_
 show (((L.toArray.toList.drop k).take (L.length-k))).toArray.toList=(L.drop k).toArray.toList
 simp only [List.toList_toArray]
 exact List.take_of_length_le (by rw [List.length_drop]; exact Nat.le_refl _)
noncomputable def nam (L:List Nat) (p:Nat) (z:Int):Str:=⟨(L.take p++[Ziu z]++L.drop (p+1)).toArray⟩
noncomputable def Zcp (c:Int) (n:Nat):List Nat:=(List.range n).map fun j:Nat=>Ziu (c.fdiv 768+(j:Int)*j)
theorem ZcX (c:Int) (n:Nat):(Zcp c n).length=n:=by unfold Zcp; rw [List.length_map,List.length_range]
theorem ZrZ {c:Int} {n p:Nat} {z:Int} (h1:1≤n) (h8:n≤8) (hp:p<n):Nm (nam (Zcp c n) p z):=by
 have hl:(nam (Zcp c n) p z).length=n:=by
  unfold nam
  rw [Zef]
  simp only [List.length_append,List.length_take,List.length_drop,List.length_singleton,ZcX]
  omega
 refine ⟨by omega,by omega,?_⟩
 show ((Zcp c n).take p++[Ziu z]++(Zcp c n).drop (p+1)).toArray.toList.all inL=true
 rw [List.all_eq_true]
 intro x hx
 have hx':x∈(Zcp c n).take p++[Ziu z]++(Zcp c n).drop (p+1):=by simpa using hx
 have ib:∀ y∈Zcp c n,inL y=true:=fun y hy=>by
  unfold Zcp at hy
  obtain ⟨j,_,rfl⟩:=List.mem_map.mp hy
  exact ZpM _
 rcases List.mem_append.mp hx' with h | h
 ·rcases List.mem_append.mp h with h | h
  ·exact ib x (List.mem_of_mem_take h)
  ·rw [List.mem_singleton.mp h]; exact ZpM _
 ·exact ib x (List.mem_of_mem_drop h)
theorem Zqe {L:List Nat} {p:Nat} {z z':Int} (hp:p<L.length) (h:nam L p z=nam L p z'):z.fmod 26=z'.fmod 26:=by
 unfold nam at h
 have e:=congrArg (fun s:Str=>s.cps.toList[p]?) h
 have g:∀ y:Nat,(L.take p++[y]++L.drop (p+1))[p]?=some y:=fun y=>by
  have ht:(L.take p).length=p:=by rw [List.length_take]; omega
  rw [List.append_assoc,List.getElem?_append_right (by omega),ht,Nat.sub_self]
  rfl
 have e':(L.take p++[Ziu z]++L.drop (p+1))[p]?=(L.take p++[Ziu z']++L.drop (p+1))[p]?:=by simpa using e
 rw [g,g] at e'
 exact Zp4 (Option.some.inj e')
noncomputable def bys:List Int:=[1,3,5,7,9,11,15,17,19,21,23,25]
theorem Zq7 {b q:Int} (hb:b∈bys) {k k':Nat} (hk:k<26) (hk':k'<26) (h:((k:Int)*b+q).fmod 26=((k':Int)*b+q).fmod 26):k=k':=by
 obtain ⟨w,hw⟩:=ZrD _ _ h
 simp only [bys,List.mem_cons,List.not_mem_nil,or_false] at hb
 rcases hb with rfl | rfl | rfl | rfl | rfl | rfl | rfl | rfl | rfl | rfl | rfl | rfl <;> omega
theorem ZsC {z:Int} (h0:0≤z) (h1:z<12):∃ b∈bys,atI (bys.map V.int) z=some (.int b):=by
 obtain ⟨j,rfl⟩:∃ j:Nat,z=(j:Int):=⟨z.toNat,by omega⟩
 have hj:j<bys.length:=by show j<12; omega
 refine ⟨bys[j],List.getElem_mem hj,Zgk ?_⟩
 rw [List.getElem?_map,List.getElem?_eq_getElem hj]
 rfl
noncomputable def Zox (so:Str) (d:Int):Ent->Option Str
 | .born n s d0 _ _=>if s=so∧d0<d then some n else none
 | _=>none
noncomputable def Zp3 (es:List Ent) (so:Str) (d:Int):List Str:=es.filterMap (Zox so d)
theorem Zng (so:Str) (d:Int) (ks:List (Ent × Addr)):(ks.map fun p=>(Zox so d p.1).map V.str).filterMap id=(Zp3 (ks.map (·.1)) so d).map V.str:=by
 unfold Zp3
 rw [List.filterMap_map,List.filterMap_map,List.map_filterMap]
 rfl
theorem Zp5 {es:List Ent} {so x:Str} {d:Int} (h:x∈Zp3 es so d):∃ d0 f m,Ent.born x so d0 f m∈es∧d0<d:=by
 obtain ⟨e,he,ee⟩:=List.mem_filterMap.mp h
 cases e with
 | born n s d0 f m =>
  change (if s=so∧d0<d then some n else none)=some x at ee
  by_cases c:s=so∧d0<d
  ·rw [if_pos c] at ee
   cases ee
   rw [c.1] at he
   exact ⟨d0,f,m,he,c.2⟩
  ·rw [if_neg c] at ee; cases ee
 | _=>cases ee
theorem ZsB {z:Int} (h0:0≤z) (h1:z<5):∃ so:Str,atI [V.str "he",V.str "she",V.str "he",V.str "she",V.str ""] z=some (.str so)∧(so="he"∨so="she"∨so=""):=by
 obtain rfl | rfl | rfl | rfl | rfl:z=0∨z=1∨z=2∨z=3∨z=4:=by omega
 ·exact ⟨_,Zaf (j:=0) rfl,.inl rfl⟩
 ·exact ⟨_,Zaf (j:=1) rfl,.inr (.inl rfl)⟩
 ·exact ⟨_,Zaf (j:=2) rfl,.inl rfl⟩
 ·exact ⟨_,Zaf (j:=3) rfl,.inr (.inl rfl)⟩
 ·exact ⟨_,Zaf (j:=4) rfl,.inr (.inr rfl)⟩
theorem PB.mem {ns:List Str} {bs:List Ent} (h:PB ns bs) (nm:Nms ns) {n s f m:Str} {d:Int} (hm:Ent.born n s d f m∈bs):Nm n∧-10 ^ 17≤d∧d≤10 ^ 9*(bs.length:Int):=by
 obtain ⟨i,hi,e⟩:=List.mem_iff_getElem.mp hm
 obtain ⟨n',s',d',f',m',h1,h2,h3,h4⟩:=h.nm i _ (List.getElem?_eq_getElem hi)
 rw [e] at h2
 cases h2
 exact ⟨nm.nm _ (List.mem_of_getElem? h1),h3,by omega⟩
theorem PB.snoc {ns : List Str} {bs : List Ent} (h : PB ns bs) (nm : Nms ns) {n so f m : Str} {d : Int} (l : bs.length<20) (hn : ns[bs.length]?=some n) (hso : so="he" ∨ so="she" ∨ so="") (d1 : -10 ^ 17 ≤ d) (d2 : d ≤ 10 ^ 9*((bs.length : Int) + 1)) (d3 : ∀ e ∈ bs, e.day ≤ d)
  (hf:f=""∨f∈Zp3 bs "he" d) (hm:m=""∨m∈Zp3 bs "she" d):PB ns (bs++[.born n so d f m]):=by
 have tself:bs.map Ent.told=bs:=ZfH fun e he=>by
  obtain ⟨i,hi,rfl⟩:=List.mem_iff_getElem.mp he
  obtain ⟨n',s',d',f',m',h1,h2,_⟩:=h.nm i _ (List.getElem?_eq_getElem hi)
  rw [h2]; rfl
 have par:∀ {x sx:Str},(x=""∨x∈Zp3 bs sx d)->x=""∨∃ d' f' m',Ent.born x sx d' f' m'∈bs∧d'<d:=fun hx=>hx.imp id Zp5
 have pf:=par hf
 have pm:=par hm
 have inp:∀ {x sx f' m':Str} {d':Int},Ent.born x sx d' f' m'∈bs->x∈ns.take 20:=fun hx=>(h.good.d5 _ hx).2.2 _ rfl
 have np:n∈ns.take 20:=by
  have h1:(ns.take 20)[bs.length]?=some n:=by rw [List.getElem?_take,if_pos l]; exact hn
  exact List.mem_of_getElem? h1
 have nm1:=nm.nm n (List.mem_of_getElem? hn)
 have nf:f=""∨Nm f:=pf.imp id fun ⟨_,_,_,hx,_⟩=>(h.mem nm hx).1
 have nmo:m=""∨Nm m:=pm.imp id fun ⟨_,_,_,hx,_⟩=>(h.mem nm hx).1
 have named:∀ x∈(Ent.born n so d f m).named,∃ s d' f' m',Ent.born x s d' f' m'∈bs∧d'<d:=fun x hx=>by
  have hx':x∈[f,m].filter fun y:Str=>decide (y≠""):=hx
  obtain ⟨h1,h2⟩:=List.mem_filter.mp hx'
  have h3:x≠"":=of_decide_eq_true h2
  rcases List.mem_cons.mp h1 with rfl | h1
  ·obtain ⟨d',f',m',a,b⟩:=pf.resolve_left h3; exact ⟨_,d',f',m',a,b⟩
  ·rw [List.mem_singleton.mp h1] at h3 ⊢
   obtain ⟨d',f',m',a,b⟩:=pm.resolve_left h3; exact ⟨_,d',f',m',a,b⟩
 have d5:D5 (ns.take 20) (.born n so d f m):=⟨ZqC nm1 hso (by omega) (by omega) nf nmo,fun x hx=>by obtain ⟨s,d',f',m',a,_⟩:=named x hx; exact inp a,fun x hx=>by cases hx; exact np⟩
 refine ⟨.snoc h.good d5 d5 ?_,fun i e he=>?_,fun i j e e' ij he he'=>?_⟩
 ·rw [tself]
  refine ⟨fun x hx=>?_,fun x hx z=>?_,fun n' s' d' f' m' e=>?_,fun c t d' e=>(by cases e),rfl⟩
  ·obtain ⟨s,d',f',m',a,b⟩:=named x hx
   exact ⟨s,d',f',m',a,Int.le_of_lt b⟩
  ·obtain ⟨i,hi,rfl⟩:=List.mem_iff_getElem.mp hx
   obtain ⟨n',s',d',f',m',h1,h2,_⟩:=h.nm i _ (List.getElem?_eq_getElem hi)
   rw [h2] at z
   have z2:([.inr "born",.inr n']:List Key)=[.inr "born",.inr n]:=z
   have z3:n'=n:=by simpa using z2
   rw [z3] at h1
   have:=(List.getElem?_inj (List.getElem?_eq_some_iff.mp h1).1 nm.nd).mp (h1.trans hn.symm)
   omega
  ·cases e
   exact ⟨pf,pm⟩
 ·rcases Nat.lt_or_ge i bs.length with hi | hi
  ·rw [List.getElem?_append_left hi] at he
   exact h.nm i e he
  ·rw [List.getElem?_append_right hi] at he
   have hi0:i-bs.length=0:=by
    have:=(List.getElem?_eq_some_iff.mp he).1
    rw [List.length_singleton] at this
    omega
   rw [hi0] at he
   cases he
   have ei:i=bs.length:=by omega
   rw [ei]
   exact ⟨n,so,d,f,m,hn,rfl,d1,d2⟩
 ·have last:∀ {k:Nat} {x:Ent},(bs++[Ent.born n so d f m])[k]?=some x->(k<bs.length∧bs[k]?=some x)∨(k=bs.length∧x=.born n so d f m):=fun {k x} hk=>by
   rcases Nat.lt_or_ge k bs.length with hi | hi
   ·rw [List.getElem?_append_left hi] at hk
    exact .inl ⟨hi,hk⟩
   ·rw [List.getElem?_append_right hi] at hk
    have hi0:k-bs.length=0:=by
     have:=(List.getElem?_eq_some_iff.mp hk).1
     rw [List.length_singleton] at this
     omega
    rw [hi0] at hk
    cases hk
    exact .inr ⟨by omega,rfl⟩
  rcases last he with ⟨i1,a⟩ | ⟨i1,rfl⟩ <;> rcases last he' with ⟨j1,b⟩ | ⟨j1,rfl⟩
  ·exact h.up i j e e' ij a b
  ·exact d3 e (List.mem_of_getElem? a)
  ·omega
  ·exact Int.le_refl _
theorem More.nil (bs:List Ent):More bs []:=⟨fun e he=>(by cases he),.nil⟩
theorem More.snoc {bs ds:List Ent} {e:Ent} (h:More bs ds) (f:FitB bs e) (k:∀ x∈ds,x.told.key≠e.told.key):More bs (ds++[e]):=by
 refine ⟨fun x hx=>?_,?_⟩
 ·rcases List.mem_append.mp hx with hx | hx
  ·exact h.fit x hx
  ·rw [List.mem_singleton.mp hx]; exact f
 ·rw [List.map_append,List.nodup_append]
  refine ⟨h.nd,by simp,fun a ha b hb z=>?_⟩
  obtain ⟨x,hx,rfl⟩:=List.mem_map.mp ha
  have hb':b=e.told.key:=by simpa using hb
  exact k x hx (z.trans hb')
theorem ZiH {ks:List (Ent × Addr)} {z:Int} (h0:0≤z) (h1:z<(ks.length:Int)):∃ p,ks[z.toNat]?=some p∧atI (ZaQ ks) z=some (.ref p.2):=by
 have hi:z.toNat<ks.length:=by omega
 refine ⟨ks[z.toNat],List.getElem?_eq_getElem hi,Zs2 h0 ?_⟩
 unfold ZaQ
 rw [List.getElem?_map,List.getElem?_eq_getElem hi]
 rfl
theorem PB.at {ns:List Str} {ks:List (Ent × Addr)} (h:PB ns (ks.map (·.1))) {i:Nat} {p:Ent × Addr} (hp:ks[i]?=some p):∃ n s d f m,ns[i]?=some n∧p.1=.born n s d f m∧-10 ^ 17≤d∧d≤10 ^ 9*((i:Int)+1)∧Ent.born n s d f m∈ks.map (·.1):=by
 have h1:(ks.map (·.1))[i]?=some p.1:=by rw [List.getElem?_map,hp]; rfl
 obtain ⟨n,s,d,f,m,a,b,c,e⟩:=h.nm i _ h1
 exact ⟨n,s,d,f,m,a,b,c,e,by rw [← b]; exact List.mem_of_getElem? h1⟩
def TK (ns:List Str) (e:Ent) (k:List Key):Prop:=∃ (i j:Nat) (lo hi:Str),i<j∧ns[i]?=some lo∧ns[j]?=some hi∧((e.tie=true∧(e.pr=(lo,hi)∨e.pr=(hi,lo))∧k=[.inr lo,.inr hi,.inl 0,.inl e.day])∨∃ d,e=.taken hi lo d∧k=[.inr lo,.inr hi,.inl 1,.inl 0])
theorem TK.inj {ns:List Str} (nm:Nms ns) {e e':Ent} {k k':List Key} (h:TK ns e k) (h':TK ns e' k') (z:e.told.key=e'.told.key):k=k':=by
 obtain ⟨i,j,lo,hi,ij,a1,a2,h⟩:=h
 obtain ⟨i',j',lo',hi',ij',b1,b2,h'⟩:=h'
 have inj:∀ {a b:Nat} {x:Str},ns[a]?=some x->ns[b]?=some x->a=b:=fun ha hb=>(List.getElem?_inj (List.getElem?_eq_some_iff.mp ha).1 nm.nd).mp (ha.trans hb.symm)
 rcases h with ⟨t,pr,rfl⟩ | ⟨d,rfl,rfl⟩ <;> rcases h' with ⟨t',pr',rfl⟩ | ⟨d',rfl,rfl⟩
 ·obtain ⟨z1,z2⟩:=(ZoU t t').mp z
  have sw:Zan lo hi=Zan lo' hi':=by
   have u1:Zan e.pr.1 e.pr.2=Zan lo hi:=by
    rcases pr with pr | pr
    ·rw [pr]
    ·rw [pr]; exact Zf5 _ _
   have u2:Zan e'.pr.1 e'.pr.2=Zan lo' hi':=by
    rcases pr' with pr | pr
    ·rw [pr]
    ·rw [pr]; exact Zf5 _ _
   rw [← u1,← u2]; exact z1
  rcases ZoG sw with ⟨rfl,rfl⟩ | ⟨rfl,rfl⟩
  ·rw [z2]
  ·have:=inj a1 b2
   have:=inj a2 b1
   omega
 ·exact absurd z.symm (ZiL (x:=.taken hi' lo' d') rfl t)
 ·exact absurd z (ZiL (x:=.taken hi lo d) rfl t')
 ·have z2:([.inr "taken",.inr hi,.inr lo]:List Key)=[.inr "taken",.inr hi',.inr lo']:=z
  have z3:hi=hi'∧lo=lo':=by simpa using z2
  rw [z3.1,z3.2]
theorem KeysB.mono {H H':Hp} {xs:List (List Key × Addr × Value)} (h:KeysB H xs) (s:∀ a ys,H a=some (.tup ys)->H' a=some (.tup ys)):KeysB H' xs:=fun x hx=>by
 obtain ⟨ys,e,k⟩:=h x hx
 exact ⟨ys,s _ _ e,k⟩
theorem Zrk {a b:Str} {d:Int} (ha:Nm a) (hb:Nm b) (d1:-10 ^ 18≤d) (d2:d≤10 ^ 18):(Ent.taken a b d).Ok∧(Ent.union a b d).Ok∧(Ent.union a b d).told.Ok∧(Ent.parted a b d).Ok∧(Ent.parted a b d).told.Ok:=by
 refine ⟨⟨Zg9 (.inl rfl) ha hb d1 d2,ZhT (by decide +kernel) ha hb⟩,⟨Zg9 (.inr (.inl rfl)) ha hb d1 d2,ZhT (by decide +kernel) ha hb⟩,?_,⟨Zg9 (.inr (.inr rfl)) ha hb d1 d2,ZhT (by decide +kernel) ha hb⟩,?_⟩
 ·show (Ent.union (Zan a b).1 (Zan a b).2 d).Ok
  unfold Zan
  split
  ·exact ⟨Zg9 (.inr (.inl rfl)) hb ha d1 d2,ZhT (by decide +kernel) hb ha⟩
  ·exact ⟨Zg9 (.inr (.inl rfl)) ha hb d1 d2,ZhT (by decide +kernel) ha hb⟩
 ·show (Ent.parted (Zan a b).1 (Zan a b).2 d).Ok
  unfold Zan
  split
  ·exact ⟨Zg9 (.inr (.inr rfl)) hb ha d1 d2,ZhT (by decide +kernel) hb ha⟩
  ·exact ⟨Zg9 (.inr (.inr rfl)) ha hb d1 d2,ZhT (by decide +kernel) ha hb⟩
theorem PB.uniq {ns:List Str} {bs:List Ent} (h:PB ns bs) {n s f m s' f' m':Str} {d d':Int} (h1:Ent.born n s d f m∈bs) (h2:Ent.born n s' d' f' m'∈bs):d=d':=by
 have up:∀ {x:Ent},x∈bs->x.told∈bs.map Ent.told:=fun hx=>List.mem_map.mpr ⟨_,hx,rfl⟩
 have:=h.good.bu (up h1) (up h2)
 cases this
 rfl
theorem Zry {z:Int} (h:z=1∨z=2∨z=4):atI [V.str "",V.str "union",V.str "union",V.str "",V.str "parted"] z=some (.str (if z=4 then "parted" else "union")):=by
 rcases h with rfl | rfl | rfl
 ·exact Zaf (j:=1) rfl
 ·exact Zaf (j:=2) rfl
 ·exact Zaf (j:=4) rfl
theorem ZqM {ns : List Str} {bs : List Ent} (h : PB ns bs) (nm : Nms ns) {a b sa sb fa fb ma mb : Str} {da db d z : Int} (ha : Ent.born a sa da fa ma ∈ bs) (hb : Ent.born b sb db fb mb ∈ bs) (ne : a ≠ b) (la : da ≤ d) (lb : db ≤ d) (d1 : -10 ^ 18 ≤ d) (d2 : d ≤ 10 ^ 18) :
  ∃ e:Ent,e.row=[.inr (if z=4 then "parted" else "union"),.inr a,.inr b,.inl d]∧FitB bs e∧e.tie=true∧e.pr=(a,b)∧e.day=d∧e.kw="tie":=by
 obtain ⟨_,u1,u2,p1,p2⟩:=Zrk (h.mem nm ha).1 (h.mem nm hb).1 d1 d2
 have kn:∀ n∈[a,b],∃ s d' f m,Ent.born n s d' f m∈bs∧d'≤d:=fun n hn=>by
  rcases List.mem_cons.mp hn with rfl | hn
  ·exact ⟨_,_,_,_,ha,la⟩
  ·rw [List.mem_singleton.mp hn]; exact ⟨_,_,_,_,hb,lb⟩
 by_cases hz:z=4
 ·exact ⟨.parted a b d,by rw [if_pos hz]; rfl,⟨rfl,p1,p2,kn,fun c t d e=>(by cases e),decide_eq_false ne⟩,rfl,rfl,rfl,rfl⟩
 ·exact ⟨.union a b d,by rw [if_neg hz]; rfl,⟨rfl,u1,u2,kn,fun c t d e=>(by cases e),decide_eq_false ne⟩,rfl,rfl,rfl,rfl⟩
theorem Zqu {xs:List (List Key × Addr × Value)} {k:List Key} (h:ZqL xs k=false):∀ x∈xs,x.1≠k:=fun x hx z=>by
 have:ZqL xs k=true:=List.any_eq_true.mpr ⟨x,hx,decide_eq_true z⟩
 rw [h] at this
 cases this
theorem GdL.keys {pool:List Str} {l:List Ent} (g:GdL pool l):(l.map fun e=>e.told.key).Nodup:=by
 induction g with
 | nil=>exact .nil
 | @snoc xs e g d d' f ih =>
  rw [List.map_append,List.nodup_append]
  refine ⟨ih,by simp,fun a ha b hb z=>?_⟩
  obtain ⟨x,hx,rfl⟩:=List.mem_map.mp ha
  have hb':b=e.told.key:=by simpa using hb
  exact f.key x.told (List.mem_map.mpr ⟨x,hx,rfl⟩) (by rw [z,hb'])
theorem GdL.known {pool:List Str} {l:List Ent} (g:GdL pool l):∀ e∈l,∀ n∈e.named,∃ s d f m,Ent.born n s d f m∈l.map Ent.told:=by
 induction g with
 | nil=>intro e he; cases he
 | @snoc xs e g d d' f ih =>
  intro x hx n hn
  rw [List.map_append]
  rcases List.mem_append.mp hx with hx | hx
  ·obtain ⟨s,d,f,m,h⟩:=ih x hx n hn
   exact ⟨s,d,f,m,List.mem_append.mpr (.inl h)⟩
  ·rw [List.mem_singleton.mp hx] at hn
   obtain ⟨s,d,f,m,h,_⟩:=f.kn n hn
   exact ⟨s,d,f,m,List.mem_append.mpr (.inl h)⟩
theorem Zi5 {es:List Ent} {n:Str} {d:Int} (h:(n,d)∈ZaP es):Ent.dead n d∈es:=by
 obtain ⟨y,hy,ey⟩:=List.mem_filterMap.mp h
 cases y with
 | dead n' d'=>cases ey; exact hy
 | _=>cases ey
theorem ZiB {pool:List Str} {B:Bk} {es:List Ent} (hk:B.kept.map (·.1)=es.map Ent.told) (g:GdL pool es) {n:Str} {d:Int} (h:(n,d)∈ZaP es):Known B n∧ZgH B n=.int d:=by
 have hm:=Zi5 h
 obtain ⟨s,d0,f,m,hb⟩:=g.known _ hm n (by simp [Ent.named])
 refine ⟨(ZdV hk g.bu hb).1,?_⟩
 have hin:Ent.dead n d∈B.kept.map (·.1):=by rw [hk]; exact List.mem_map.mpr ⟨_,hm,rfl⟩
 unfold ZgH
 cases hd:Zco n B.kept with
 | none =>
  obtain ⟨p,hp,e⟩:=List.mem_map.mp hin
  exact absurd e (ZeW hd p hp d)
 | some r =>
  obtain ⟨d',a⟩:=r
  have h2:=ZeE hd
  have h3:Ent.dead n d'∈es.map Ent.told:=by rw [← hk]; exact List.mem_map.mpr ⟨_,h2,rfl⟩
  obtain ⟨y,hy,ey⟩:=List.mem_map.mp h3
  have kk:=g.keys
  have:y=.dead n d:=by
   obtain ⟨i,hi,ei⟩:=List.mem_iff_getElem.mp hy
   obtain ⟨j,hj,ej⟩:=List.mem_iff_getElem.mp hm
   have g1:(es.map fun e=>e.told.key)[i]?=some ([.inr "dead",.inr n]:List Key):=by rw [List.getElem?_map,List.getElem?_eq_getElem hi,ei]; show some y.told.key=_; rw [ey]; rfl
   have g2:(es.map fun e=>e.told.key)[j]?=some ([.inr "dead",.inr n]:List Key):=by rw [List.getElem?_map,List.getElem?_eq_getElem hj,ej]; rfl
   have ij:=(List.getElem?_inj (by rw [List.length_map]; exact hi) kk).mp (g1.trans g2.symm)
   subst ij
   rw [← ei,ej]
  rw [this] at ey
  cases ey
  rfl
theorem ZlB {pool:List Str} {B:Bk} {es:List Ent} (hk:B.kept.map (·.1)=es.map Ent.told) (g:GdL pool es) {n s f m:Str} {d:Int} (hb:Ent.born n s d f m∈es) (h:n ∉ (ZaP es).map (·.1)):Known B n∧ZgH B n=.non:=by
 refine ⟨(ZdV hk g.bu (List.mem_map.mpr ⟨_,hb,rfl⟩)).1,?_⟩
 have e:=Zga (n:=n) (l:=B.kept)
 rw [hk,ZiF,decide_eq_false h] at e
 unfold ZgH
 cases hd:Zco n B.kept with
 | none=>rfl
 | some r=>rw [hd] at e; cases e
theorem Zrc {pool:List Str} {B:Bk} {es:List Ent} (hk:B.kept.map (·.1)=es.map Ent.told) (g:GdL pool es) (li:LI5 pool B B.kept) (p:pool.length≤33) (l:es.length≤60):UB pool B:=by
 refine ⟨by rw [hk]; exact g.told,li.told,p,?_⟩
 have:=ZdL hk
 rw [List.length_map] at this
 omega
theorem Zlj (es:List Ent) (dead:Str) (d:Int) (o:Option (List Str)):(Zqd es dead d o).length≤es.length:=by
 unfold Zqd
 refine Nat.le_trans (List.length_filter_le ..) ?_
 rw [(ZbB _).length_eq]
 exact Nat.le_trans (List.length_filterMap_le ..) (List.length_filter_le ..)
theorem Zqh (B:Bk) (n:Str):ZpG B n (some [])=[]:=by
 unfold ZpG
 refine List.filter_eq_nil_iff.mpr fun x _=>?_
 show ¬ decide (x∈([]:List Str))=true
 simp
noncomputable def Zo8 (p:Ent × Addr):Option V:=if p.1.isBorn=true then some (.ref p.2) else none
theorem ZjX:∀ l:List (Ent × Addr),(l.map Zo8).filterMap id=ZaQ (l.filter fun p=>p.1.isBorn)
 | []=>rfl
 | p :: l=>by
  have ih:=ZjX l
  rw [List.map_cons,List.filterMap_cons,List.filter_cons]
  unfold Zo8 at ih ⊢
  by_cases h:p.1.isBorn=true
  ·rw [if_pos h,if_pos h]
   simp only [id]
   rw [ih]
   rfl
  ·rw [if_neg h,if_neg h]
   simp only [id]
   exact ih
theorem ZkO {e:Ent}:e.kw="born"↔e.isBorn=true:=by
 cases e with
 | born=>exact ⟨fun _=>rfl,fun _=>rfl⟩
 | taken=>exact ⟨fun h=>absurd h (by show ("taken" : Str)≠"born"; decide +kernel),fun h=>(by cases h)⟩
 | union=>exact ⟨fun h=>absurd h (by show ("tie" : Str)≠"born"; decide +kernel),fun h=>(by cases h)⟩
 | parted=>exact ⟨fun h=>absurd h (by show ("tie" : Str)≠"born"; decide +kernel),fun h=>(by cases h)⟩
 | dead=>exact ⟨fun h=>absurd h (by show ("dead" : Str)≠"born"; decide +kernel),fun h=>(by cases h)⟩
 | given=>exact ⟨fun h=>absurd h (by show ("given" : Str)≠"born"; decide +kernel),fun h=>(by cases h)⟩
theorem Zof {e:Ent} (h:e.kw="dead"):∃ n d,e=.dead n d:=by
 cases e with
 | dead n d=>exact ⟨n,d,rfl⟩
 | taken=>exact absurd h (by show ("taken" : Str)≠"dead"; decide +kernel)
 | union=>exact absurd h (by show ("tie" : Str)≠"dead"; decide +kernel)
 | parted=>exact absurd h (by show ("tie" : Str)≠"dead"; decide +kernel)
 | born=>exact absurd h (by show ("born" : Str)≠"dead"; decide +kernel)
 | given=>exact absurd h (by show ("given" : Str)≠"dead"; decide +kernel)
structure LS (ns:List Str) (bs ts xs es:List Ent):Prop where
 sp:∃ ds,es=bs++ds++ts++xs∧∀ e∈ds,e.kw="dead"
 pb:PB ns bs
 b20:bs.length≤20
 t20:ts.length≤20
 tk:∀ e∈ts,e.kw≠"born"∧e.kw≠"dead"
 xk:∀ e∈xs,e.kw="dead"
 good:GdL (ns.take 20) es
theorem LS.born {ns:List Str} {bs ts xs es:List Ent} (h:LS ns bs ts xs es) (n s:Str) (d:Int) (f m:Str):Ent.born n s d f m∈es↔Ent.born n s d f m∈bs:=by
 obtain ⟨ds,e,dk⟩:=h.sp
 rw [e]
 constructor
 ·intro hm
  have no:∀ {l:List Ent},(∀ e∈l,e.kw≠"born")->Ent.born n s d f m ∉ l:=fun hl hx=>hl _ hx rfl
  rcases List.mem_append.mp hm with hm | hm
  ·rcases List.mem_append.mp hm with hm | hm
   ·rcases List.mem_append.mp hm with hm | hm
    ·exact hm
    ·exact absurd hm (no fun e he=>by rw [dk e he]; decide +kernel)
   ·exact absurd hm (no fun e he=>(h.tk e he).1)
  ·exact absurd hm (no fun e he=>by rw [h.xk e he]; decide +kernel)
 ·intro hm
  exact List.mem_append.mpr (.inl (List.mem_append.mpr (.inl (List.mem_append.mpr (.inl hm)))))
theorem ZfM (a b:List Ent):ZaP (a++b)=ZaP a++ZaP b:=List.filterMap_append ..
theorem ZjS {l:List Ent} (h:∀ e∈l,e.kw="dead"):(ZaP l).length=l.length:=by
 induction l with
 | nil=>rfl
 | cons e l ih =>
  obtain ⟨n,d,rfl⟩:=Zof (h e (List.mem_cons_self ..))
  show ((n,d) :: ZaP l).length=_
  rw [List.length_cons,List.length_cons,ih fun e he=>h e (List.mem_cons_of_mem _ he)]
theorem GdL.deads {pool:List Str} {es:List Ent} (g:GdL pool es):((ZaP es).map (·.1)).Nodup∧∀ n∈(ZaP es).map (·.1),n∈pool:=by
 refine ⟨?_,fun n hn=>?_⟩
 ·have k:=g.keys
  clear g
  induction es with
  | nil=>exact .nil
  | cons e es ih =>
   have kn:=List.nodup_cons.mp (show (e.told.key :: es.map fun e=>e.told.key).Nodup from k)
   have ih:=ih kn.2
   cases e with
   | dead n d =>
    show (n :: (ZaP es).map (·.1)).Nodup
    refine List.nodup_cons.mpr ⟨fun hm=>?_,ih⟩
    obtain ⟨q,hq,eq⟩:=List.mem_map.mp hm
    have:=Zi5 (n:=q.1) (d:=q.2) hq
    refine kn.1 (List.mem_map.mpr ⟨_,this,?_⟩)
    rw [eq]; rfl
   | _=>exact ih
 ·obtain ⟨q,hq,rfl⟩:=List.mem_map.mp hn
  exact (g.d5 _ (Zi5 (n:=q.1) (d:=q.2) hq)).2.1 q.1 (by simp [Ent.named])
theorem LS.len {ns:List Str} {bs ts xs es:List Ent} (h:LS ns bs ts xs es):es.length≤60:=by
 obtain ⟨ds,e,dk⟩:=h.sp
 have ds1:=h.good.deads
 have l1:=Zkx ds1.1 ds1.2
 have l2:(ZaP es).length=(ZaP bs).length+ds.length+(ZaP ts).length+xs.length:=by
  rw [e,ZfM,ZfM,ZfM,List.length_append,List.length_append,List.length_append,ZjS dk,ZjS h.xk]
 rw [List.length_map,List.length_take] at l1
 have l3:es.length=bs.length+ds.length+ts.length+xs.length:=by rw [e,List.length_append,List.length_append,List.length_append]
 have:=h.b20
 have:=h.t20
 omega
theorem LS.put {ns:List Str} (nm:Nms ns) {bs ts xs es:List Ent} (h:LS ns bs ts xs es) {n s f m:Str} {d x:Int} (hb:Ent.born n s d f m∈bs) (hx:d≤x) (d2:x≤10 ^ 18) (no:n ∉ (ZaP es).map (·.1)):LS ns bs ts (xs++[.dead n x]) (es++[.dead n x]):=by
 obtain ⟨ds,e,dk⟩:=h.sp
 have mm:=h.pb.mem nm hb
 have ok:(Ent.dead n x).Ok:=ZpK mm.1 (by omega) d2
 refine ⟨⟨ds,by rw [e]; simp [List.append_assoc],dk⟩,h.pb,h.b20,h.t20,h.tk,fun y hy=>?_,?_⟩
 ·rcases List.mem_append.mp hy with hy | hy
  ·exact h.xk y hy
  ·rw [List.mem_singleton.mp hy]; rfl
 ·refine h.good.more (bs:=bs) (fun n s d f m=>h.born n s d f m) (fun y hy=>?_) ?_
  ·rw [List.mem_singleton.mp hy]
   refine ⟨rfl,ok,ok,fun k hk=>?_,fun c t d e=>(by cases e),rfl⟩
   rw [List.mem_singleton.mp (show k∈[n] from hk)]
   exact ⟨s,d,f,m,hb,hx⟩
  ·rw [List.map_append,List.nodup_append]
   refine ⟨h.good.keys,by simp,fun a ha b hb' z=>?_⟩
   obtain ⟨y,hy,rfl⟩:=List.mem_map.mp ha
   have hb2:b=([.inr "dead",.inr n]:List Key):=by
    have hb3:b=(Ent.dead n x).told.key:=by simpa using hb'
    exact hb3
   rw [hb2] at z
   by_cases yk:y.kw="dead"
   ·obtain ⟨n',d',rfl⟩:=Zof yk
    have z2:([.inr "dead",.inr n']:List Key)=[.inr "dead",.inr n]:=z
    have z3:n'=n:=by simpa using z2
    refine no (List.mem_map.mpr ⟨(n',d'),?_,z3⟩)
    exact List.mem_filterMap.mpr ⟨_,hy,rfl⟩
   ·exact ZoE (y:=.dead n x) (fun w=>yk w) z
theorem Zlz {ns:List Str} {pool:List Str} {B:Bk} {es:List Ent} (hk:B.kept.map (·.1)=es.map Ent.told) (g:GdL pool es) {n:Str} (hn:n ∉ pool):ZaD n B.kept=none:=by
 refine ZlT fun p hp e=>hn ?_
 have hm:p.1∈es.map Ent.told:=by rw [← hk]; exact List.mem_map.mpr ⟨p,hp,rfl⟩
 obtain ⟨y,hy,ey⟩:=List.mem_map.mp hm
 exact (g.d5 y hy).2.2 n (by rw [← ZfE,ey]; exact e)
def HeldOk (H:Hp) (v:V):Prop:=v=.non∨∃ (Lh f1 f2:Addr) (zs:List Str),v=.ref Lh∧H Lh=some (.lst [.ref f1,.ref f2])∧H f1=some (.lst (zs.map V.str))∧H f2=some (.lst (zs.map V.str))
theorem HeldOk.mono {H H':Hp} {v:V} (h:HeldOk H v) (s:∀ a xs,H a=some (.lst xs)->H' a=some (.lst xs)):HeldOk H' v:=by
 rcases h with h | ⟨Lh,f1,f2,zs,e,h1,h2,h3⟩
 ·exact .inl h
 ·exact .inr ⟨Lh,f1,f2,zs,e,s _ _ h1,s _ _ h2,s _ _ h3⟩
theorem ZkX {ks:List (Ent × Addr)} {bs ds ts:List Ent} (e:ks.map (·.1)=bs++ds++ts) (hb:∀ x∈bs,x.kw="born") (hd:∀ x∈ds,x.kw="dead") (ht:∀ x∈ts,x.kw≠"born"∧x.kw≠"dead"):(ks.filter fun p=>p.1.isBorn).map (·.1)=bs:=by
 have h:(ks.filter fun p=>p.1.isBorn).map (·.1)=(ks.map (·.1)).filter Ent.isBorn:=by rw [List.filter_map]; rfl
 rw [h,e,List.filter_append,List.filter_append]
 have a:bs.filter Ent.isBorn=bs:=List.filter_eq_self.mpr fun x hx=>ZkO.mp (hb x hx)
 have b:ds.filter Ent.isBorn=[]:=List.filter_eq_nil_iff.mpr fun x hx z=>by
  have:=ZkO.mpr z
  rw [hd x hx] at this
  exact absurd this (by decide +kernel)
 have c:ts.filter Ent.isBorn=[]:=List.filter_eq_nil_iff.mpr fun x hx z=>(ht x hx).1 (ZkO.mpr z)
 rw [a,b,c,List.append_nil,List.append_nil]
section
variable {K:W.Frag} {w:World} {mg:Str->Option Value}
theorem Zlv:FnScope ["thing"] ["thing"] (Zal Zf2):=⟨rfl,rfl,rfl,by decide +kernel,rfl,by decide +kernel,by decide +kernel⟩
def Zk7 (T:Tx K w mg):Sp:=fun vs H Q E=>vs.length=1∧(∃ x t,vs=[x]∧Vw K H x t∧∀ H',Same H H'->Q (.bl (Vk.isI t)) H')
theorem Zmr:FnScope ["thing"] ["thing"] (Zal ZhP):=⟨rfl,rfl,rfl,by decide +kernel,rfl,by decide +kernel,by decide +kernel⟩
def ZiQ (T:Tx K w mg):Sp:=fun vs H Q E=>vs.length=1∧(∃ x t,vs=[x]∧Vw K H x t∧∀ H',Same H H'->Q (.bl (ZfD t)) H')
theorem Zot:FnScope ["thing"] ["thing"] (Zal Zi3):=⟨rfl,rfl,rfl,by decide +kernel,rfl,by decide +kernel,by decide +kernel⟩
def Zke (T:Tx K w mg):Sp:=fun vs H Q E=>vs.length=1∧(∃ x t,vs=[x]∧Vw K H x t∧∀ H',Same H H'->Q (.bl (Zqi t)) H')
theorem ZkD:FnScope ["thing"] ["thing"] (Zal ZeU):=⟨rfl,rfl,rfl,by decide +kernel,rfl,by decide +kernel,by decide +kernel⟩
def ZgA (T:Tx K w mg):Sp:=fun vs H Q E=>vs.length=1∧(∃ x t,vs=[x]∧Vw K H x t∧∀ H',Same H H'->Q (.bl (Zjo t)) H')
theorem ZmD:FnScope ["thing"] ["thing"] (Zal Zg6):=⟨rfl,rfl,rfl,by decide +kernel,rfl,by decide +kernel,by decide +kernel⟩
def ZiS (T:Tx K w mg):Sp:=fun vs H Q E=>vs.length=1∧(∃ x t,vs=[x]∧Vw K H x t∧∀ H',Same H H'->Q (.bl (ZiU t)) H')
theorem Zkz:FnScope ["thing"] ["thing"] (Zal Ze3):=⟨rfl,rfl,rfl,by decide +kernel,rfl,by decide +kernel,by decide +kernel⟩
def Zgy (T:Tx K w mg):Sp:=fun vs H Q E=>vs.length=1∧(∃ x t,vs=[x]∧Vw K H x t∧∀ H',Same H H'->Q (.bl (Zfz t)) H')
theorem Zlb:FnScope ["parts","checks"] ["parts","checks"] (Zal ZfY):=⟨rfl,rfl,rfl,by decide +kernel,rfl,by decide +kernel,by decide +kernel⟩
def ZkS (T:Tx K w mg):Sp:=fun vs H Q E=>vs.length=2∧(∃ a b xs ts cs,vs=[.ref a,.ref b]∧SqT K H a xs∧Vws K H xs ts∧SqT K H b (cs.map fun c=>.ref (T.ad c))∧cs.length≤10∧∀ H',Same H H'->Q (.bl (ZcZ cs ts)) H')
theorem Ze5:FnScope ["thing","word","checks"] ["thing"] (Zal Zf3):=⟨rfl,rfl,rfl,by decide +kernel,rfl,by decide +kernel,by decide +kernel⟩
def ZlD (T:Tx K w mg):Sp:=fun vs H Q E=>vs.length=1∧(∃ x,vs=[x]∧((∃ t,Vw K H x t∧t.isT=false∧∀ H',Same H H'->Q (.bl false) H')∨∃ ts,Tv K H x ts∧ts.length≤10∧∀ H',Same H H'->Q (.bl (Zei ts)) H'))
theorem Zm1:FnScope ["entry"] ["entry"] (Zal Zjn):=⟨rfl,rfl,rfl,by decide +kernel,rfl,by decide +kernel,by decide +kernel⟩
def Zn1 (T:Tx K w mg):Sp:=fun vs H Q E=>vs.length=1∧(∃ v e,vs=[v]∧EntAt K H v e∧∀ H',Same H H'->Q (.bl e.tie) H')
theorem ZkV:FnScope ["entry"] ["entry"] (Zal Zgh):=⟨rfl,rfl,rfl,by decide +kernel,rfl,by decide +kernel,by decide +kernel⟩
def ZkU (T:Tx K w mg):Sp:=fun vs H Q E=>vs.length=1∧(∃ v e,vs=[v]∧EntAt K H v e∧∀ H' D,Same H H'->H D=none->SqL K H' D (e.named.map V.str)->Q (.ref D) H')
theorem Zna:FnScope ["entry"] ["entry"] (Zal Zjr):=⟨rfl,rfl,rfl,by decide +kernel,rfl,by decide +kernel,by decide +kernel⟩
def Zn6 (T:Tx K w mg):Sp:=fun vs H Q E=>vs.length=1∧(∃ v e,vs=[v]∧EntAt K H v e∧Q (.int e.day) H)
theorem ZiC:FnScope ["entry","names"] ["entry"] (Zal Zh1):=⟨rfl,rfl,rfl,by decide +kernel,rfl,by decide +kernel,by decide +kernel⟩
def ZmN (T:Tx K w mg):Sp:=fun vs H Q E=>vs.length=1∧(∃ v e,vs=[v]∧EntAt K H v e∧∀ H' u,Same H H'->EntAt K H' u e.told->Q u H')
theorem Znf:FnScope ["entry"] ["entry"] (Zal ZiX):=⟨rfl,rfl,rfl,by decide +kernel,rfl,by decide +kernel,by decide +kernel⟩
def ZnN (T:Tx K w mg):Sp:=fun vs H Q E=>vs.length=1∧(∃ v e,vs=[v]∧EntAt K H v e∧∀ H' p,Same H H'->H p=none->H' p=some (.tup (e.told.key.map kV))->Q (.ref p) H')
theorem Zks:FnScope ["thing"] ["thing"] (Zal ZeZ):=⟨rfl,rfl,rfl,by decide +kernel,rfl,by decide +kernel,by decide +kernel⟩
def Zkp (T:Tx K w mg):Sp:=fun vs H Q E=>vs.length=1∧(∃ x,vs=[x]∧((∃ ty,Kd K H x ty∧W.kitOne K ty (.type "str")=some false∧Q (.bl false) H)∨∃ l,x=.str l∧Q (.bl (ZmX l)) H))
theorem ZmB:FnScope ["one","other"] ["one","other"] (Zal Zg5):=⟨rfl,rfl,rfl,by decide +kernel,rfl,by decide +kernel,by decide +kernel⟩
def Zmh (T:Tx K w mg):Sp:=fun vs H Q E=>vs.length=2∧(∃ a b,vs=[.str a,.str b]∧∀ H' p,Same H H'->H p=none->H' p=some (.tup [.str (Zan a b).1,.str (Zan a b).2])->Q (.ref p) H')
theorem ZgQ:FnScope ["self"] ["self"] (Zal Zc1):=⟨rfl,rfl,rfl,by decide +kernel,rfl,by decide +kernel,by decide +kernel⟩
def ZgN (T:Tx K w mg):Sp:=fun vs H Q E=>vs.length=1∧(∃ b dx,vs=[.ref b]∧H b=some (.ins T.c_Book dx [])∧∀ H' k bi li ti su,BkAt K T.c_Book H' b dx k bi li ti su bk0->(∀ c o,H c=some o->c≠b->H' c=some o)->H k=none->H bi=none->H li=none->H ti=none->H su=none->Q .non H')
theorem ZgE:FnScope ["self","name"] ["self","name"] (Zal Zc3):=⟨rfl,rfl,rfl,by decide +kernel,rfl,by decide +kernel,by decide +kernel⟩
def ZgD (T:Tx K w mg):Sp:=fun vs H Q E=>vs.length=2∧(∃ v x B,vs=[v,x]∧BkHas K T.c_Book H v B∧((∃ ty,Kd K H x ty∧W.kitOne K ty (.type "str")=some false∧E (.ref T.c_NoPerson) none H)∨∃ n,x=.str n∧(ZaD n B.kept=none->E (.ref T.c_NoPerson) none H)∧∀ p,ZaD n B.kept=some p->Q (.ref p.2) H))
theorem ZhW:FnScope ["self","name"] ["self","name"] (Zal Zdu):=⟨rfl,rfl,rfl,by decide +kernel,rfl,by decide +kernel,by decide +kernel⟩
def Zg7 (T:Tx K w mg):Sp:=fun vs H Q E=>vs.length=2∧(∃ v x B,vs=[v,x]∧BkHas K T.c_Book H v B∧((∃ ty,Kd K H x ty∧W.kitOne K ty (.type "str")=some false∧E (.ref T.c_NoPerson) none H)∨∃ n,x=.str n∧(ZaD n B.kept=none->E (.ref T.c_NoPerson) none H)∧∀ p,ZaD n B.kept=some p->∀ n' s d f m,p.1=.born n' s d f m->Q (.str s) H))
theorem ZhS:FnScope ["self","name"] ["self","name"] (Zal Zdq):=⟨rfl,rfl,rfl,by decide +kernel,rfl,by decide +kernel,by decide +kernel⟩
def ZhQ (T:Tx K w mg):Sp:=fun vs H Q E=>vs.length=2∧(∃ v x B,vs=[v,x]∧BkHas K T.c_Book H v B∧((∃ ty,Kd K H x ty∧W.kitOne K ty (.type "str")=some false∧E (.ref T.c_NoPerson) none H)∨∃ n,x=.str n∧(ZaD n B.kept=none->E (.ref T.c_NoPerson) none H)∧∀ p,ZaD n B.kept=some p->∀ n' s d f m,p.1=.born n' s d f m->Q (.int d) H))
theorem Ze1:FnScope ["self","name","sort","day"] ["self","name","sort","day"] (Zal Zct):=⟨rfl,rfl,rfl,by decide +kernel,rfl,by decide +kernel,by decide +kernel⟩
def Zfc (T:Tx K w mg):Sp:=fun vs H Q E=>vs.length=4∧(∃ v n s d B,vs=[v,.str n,.str s,.int d]∧BkHas K T.c_Book H v B∧(n≠""->Known B n)∧Q (.bl (ZmK B n s d)) H)
theorem Zgv:FnScope ["self","entry","names"] ["self","entry"] (Zal Zff):=⟨rfl,rfl,rfl,by decide +kernel,rfl,by decide +kernel,by decide +kernel⟩
def Zkf (T:Tx K w mg):Sp:=fun vs H Q E=>vs.length=2∧(∃ v x B e,vs=[v,x]∧BkHas K T.c_Book H v B∧EntAt K H x e∧(∀ n∈e.named,Known B n)∧∀ H',Same H H'->Q (.bl (Zhm B e)) H')
theorem ZeM:FnScope ["self","entry","name"] ["self","entry"] (Zal Zd1):=⟨rfl,rfl,rfl,by decide +kernel,rfl,by decide +kernel,by decide +kernel⟩
def Zie (T:Tx K w mg):Sp:=fun vs H Q E=>vs.length=2∧(∃ v x B e,vs=[v,x]∧BkHas K T.c_Book H v B∧EntAt K H x e∧e.Ok∧ZmR B e=none∧∀ H',Same H H'->Q .non H')
theorem ZjO:FnScope ["self","letter","begin","end"] ["self","letter","begin","end"] (Zal ZeY):=⟨rfl,rfl,rfl,by decide +kernel,rfl,by decide +kernel,by decide +kernel⟩
def Zki (T:Tx K w mg):Sp:=fun vs H Q E=>vs.length=4∧(∃ b dx k bi li ti su B l n m,vs=[.ref b,.str l,.str n,.str m]∧BkAt K T.c_Book H b dx k bi li ti su B∧(Zb4 B l n).length≤61∧B.links.length≤900∧∀ H' D,BkAt K T.c_Book H' b dx k bi li ti su { B with links:=Zba B.links (l,n) (D,ZaL (Zb4 B l n++[m])) }->But [li] H H'->H D=none->Q .non H')
theorem ZfT:FnScope ["self","entry"] ["self","entry"] (Zal ZcD):=⟨rfl,rfl,rfl,by decide +kernel,rfl,by decide +kernel,by decide +kernel⟩
def ZfL (T:Tx K w mg):Sp:=fun vs H Q E=>vs.length=2∧(∃ b dx k bi li ti su B0 B n s d f m a,vs=[.ref b,.ref a]∧B.kept=B0++[(.born n s d f m,a)]∧H b=some (.ins T.c_Book dx (bkF k bi li ti su))∧H bi=some (.dK (Bk.bornD B0))∧ZaD n B0=none∧B0.length≤900∧SqT K H a ((Ent.born n s d f m).row.map kV)∧BkAt K T.c_Book (upd H bi (.dK (Bk.bornD B.kept))) b dx k bi li ti su B∧B.links.length≤890∧(∀ c,(lk B.links c).length≤61)∧∀ H' ls,BkAt K T.c_Book H' b dx k bi li ti su { B with links:=ls }->(∀ c,lk ls c=Zc2 (lk B.links) n f m c)->ls.length≤B.links.length+4->But [bi,li] H H'->Grows H B.links ls->Q .non H')
theorem ZjK:FnScope ["self","letter","name"] ["self","letter","name"] (Zal Zfe):=⟨rfl,rfl,rfl,by decide +kernel,rfl,by decide +kernel,by decide +kernel⟩
def ZjN (T:Tx K w mg):Sp:=fun vs H Q E=>vs.length=3∧(∃ v x y B,vs=[v,x,y]∧BkHas K T.c_Book H v B∧((∃ ty,Kd K H x ty∧W.kitOne K ty (.type "str")=some false∧E (.ref T.c_NoWay) none H)∨∃ l,x=.str l∧(ZmX l=false->E (.ref T.c_NoWay) none H)∧(ZmX l=true->((∃ ty,Kd K H y ty∧W.kitOne K ty (.type "str")=some false∧E (.ref T.c_NoPerson) none H)∨∃ n,y=.str n∧(ZaD n B.kept=none->E (.ref T.c_NoPerson) none H)∧(Known B n->∀ H' D,Same H H'->H D=none->H' D=some (.lst ((Zb4 B l n).map V.str))->Q (.ref D) H')))))
theorem Zdp:FnScope ["self","one","other","day","ties","days"] ["self","one","other","day"] (Zal Za0):=⟨rfl,rfl,rfl,by decide +kernel,rfl,by decide +kernel,by decide +kernel⟩
def Zh7 (T:Tx K w mg):Sp:=fun vs H Q E=>vs.length=4∧(∃ v a c B,vs=[v,.str a,.str c,.non]∧BkHas K T.c_Book H v B∧Known B a∧Known B c∧(ZbV B (Zan a c)).length≤900∧∀ H',Same H H'->Q (.bl (Zjy B a c)) H')
theorem Zce:FnScope ["self","entry","days","begin","end"] ["self","entry"] (Zal Zc0):=⟨rfl,rfl,rfl,by decide +kernel,rfl,by decide +kernel,by decide +kernel⟩
def ZgI (T:Tx K w mg):Sp:=fun vs H Q E=>vs.length=2∧(∃ b dx k bi li ti su B a kd p1 p2 d,vs=[.ref b,.ref a]∧SqT K H a [.str kd,.str p1,.str p2,.int d]∧BkAt K T.c_Book H b dx k bi li ti su B∧Known B p1∧Known B p2∧(B.ties.map (·.1)).Nodup∧B.ties.length≤800∧(ZbV B (Zan p1 p2)).length≤800∧B.links.length≤880∧(∀ c,(lk B.links c).length≤60)∧∀ H' ls ts y,BkAt K T.c_Book H' b dx k bi li ti su { B with links:=ls,ties:=ts }->(ts.map (·.1)).Nodup->ts.length≤B.ties.length+1->(∀ c,Zjv ts c=if c=Zan p1 p2 then Zba (ZbV B (Zan p1 p2)) d kd else ZbV B c)->(∀ c,lk ls c=Zbc (Zbc (lk B.links) (ZcW (Zba (ZbV B (Zan p1 p2)) d kd)) p1 p2) (ZcW (Zba (ZbV B (Zan p1 p2)) d kd)) p2 p1 c)->ls.length≤B.links.length+4->But [li,ti,y] H H'->(H y=none∨y∈B.ties.map (·.2.1))->GrowsT H B.ties ts->Grows H B.links ls->Q .non H')
theorem Ze0:FnScope ["self","entry","told","given"] ["self","entry"] (Zal Zgf):=⟨rfl,rfl,rfl,by decide +kernel,rfl,by decide +kernel,by decide +kernel⟩
def ZkT (T:Tx K w mg):Sp:=fun vs H Q E=>vs.length=2∧(∃ b dx k bi li ti su B x e,vs=[.ref b,x]∧BkAt K T.c_Book H b dx k bi li ti su B∧EntAt K H x e∧e.Ok∧ZmR B e=none∧Room1 B∧∀ H' B' y,BkAt K T.c_Book H' b dx k bi li ti su B'->Put B e B'->But [k,bi,li,ti,su,y] H H'->(H y=none∨y=bi∨y∈B.ties.map (·.2.1))->Grows H B.links B'.links->GrowsT H B.ties B'.ties->Q .non H')
theorem Zij:FnScope ["self"] ["self"] (Zal ZdR):=⟨rfl,rfl,rfl,by decide +kernel,rfl,by decide +kernel,by decide +kernel⟩
def Zh3 (T:Tx K w mg):Sp:=fun vs H Q E=>vs.length=1∧(∃ v B,vs=[v]∧BkHas K T.c_Book H v B∧(ZaG B.kept).length<64∧∀ H' D,Same H H'->H D=none->H' D=some (.lst ((ZaL (ZaG B.kept)).map V.str))->Q (.ref D) H')
theorem Zep:FnScope ["self","name","death"] ["self","name"] (Zal Zds):=⟨rfl,rfl,rfl,by decide +kernel,rfl,by decide +kernel,by decide +kernel⟩
def ZhX (T:Tx K w mg):Sp:=fun vs H Q E=>vs.length=2∧(∃ v x B,vs=[v,x]∧BkHas K T.c_Book H v B∧((Zg0 K H B x∧E (.ref T.c_NoPerson) none H)∨∃ n,x=.str n∧Known B n∧∀ H',Same H H'->Q (ZgH B n) H'))
theorem ZdX:FnScope ["self","day","book","entry"] ["self","day"] (Zal Zel):=⟨rfl,rfl,rfl,by decide +kernel,rfl,by decide +kernel,by decide +kernel⟩
def ZjA (T:Tx K w mg):Sp:=fun vs H Q E=>vs.length=2∧(∃ b dx k bi li ti su B d pool,vs=[.ref b,.int d]∧BkAt K T.c_Book H b dx k bi li ti su B∧GdL pool (B.kept.map (·.1))∧(∀ p∈B.kept,p.1.told=p.1)∧pool.length≤33∧B.kept.length≤60∧∀ H' b' dx' k' bi' li' ti' su' B',BkAt K T.c_Book H' b' dx' k' bi' li' ti' su' B'->B'.kept.map (·.1)=(B.kept.map (·.1)).filter (fun e=>decide (e.day≤d))->Same H H'->Q (.ref b') H')
theorem Zd8:FnScope ["book","name","day"] ["book","name"] (Zal Zc4):=⟨rfl,rfl,rfl,by decide +kernel,rfl,by decide +kernel,by decide +kernel⟩
def ZgG (T:Tx K w mg):Sp:=fun vs H Q E=>vs.length=2∧(∃ b dx k bi li ti su B x,vs=[.ref b,x]∧BkAt K T.c_Book H b dx k bi li ti su B∧((Zg0 K H B x∧E (.ref T.c_NoPerson) none H)∨∃ n,x=.str n∧Known B n∧((ZgH B n=.non∧∀ H',Same H H'->E (.ref T.c_Alive) none H')∨∃ d pool,ZgH B n=.int d∧UB pool B∧∀ H' b' dx' k' bi' li' ti' su' B',BkAt K T.c_Book H' b' dx' k' bi' li' ti' su' B'->B'.kept.map (·.1)=(B.kept.map (·.1)).filter (fun e=>decide (e.day≤d))->Same H H'->Q (.ref b') H')))
theorem Zg1:FnScope ["day_book","name","living","people"] ["day_book","name","living"] (Zal Zgb):=⟨rfl,rfl,rfl,by decide +kernel,rfl,by decide +kernel,by decide +kernel⟩
def Zlq (T:Tx K w mg):Sp:=fun vs H Q E=>vs.length=3∧(∃ v n z o B,vs=[v,.str n,z]∧BkHas K T.c_Book H v B∧(ZaG B.kept).length<64∧LivAt K H z o∧∀ H' D,Same H H'->H D=none->H' D=some (.lst ((ZpG B n o).map V.str))->Q (.ref D) H')
theorem Zj1:FnScope ["book","name","living"] ["book","name","living"] (Zal Za7):=⟨rfl,rfl,rfl,by decide +kernel,rfl,by decide +kernel,by decide +kernel⟩
def Zj9 (T:Tx K w mg):Sp:=fun vs H Q E=>vs.length=3∧(∃ b dx k bi li ti su B x z,vs=[.ref b,x,z]∧BkAt K T.c_Book H b dx k bi li ti su B∧((Zg0 K H B x∧E (.ref T.c_NoPerson) none H)∨∃ n,x=.str n∧Known B n∧((ZgH B n=.non∧∀ H',Same H H'->E (.ref T.c_Alive) none H')∨∃ d pool o,ZgH B n=.int d∧UB pool B∧LivAt K H z o∧∀ H' D B',Same H H'->H D=none->B'.kept.map (·.1)=(B.kept.map (·.1)).filter (fun e=>decide (e.day≤d))->H' D=some (.lst ((ZpG B' n o).map V.str))->Q (.ref D) H')))
theorem ZdO:FnScope ["_law_script","_law_k","_law_number"] ["_law_script","_law_k"] (Zal Zeo):=⟨rfl,rfl,rfl,by decide +kernel,rfl,by decide +kernel,by decide +kernel⟩
def Zjg (T:Tx K w mg):Sp:=fun vs H Q E=>vs.length=2∧(∃ (l:Addr) (ns:List Int) (k:Int),vs=[.ref l,.int k]∧SqL K H l (ns.map V.int)∧ns.length≤63∧0≤k∧∀ z:Int,0≤z->Q (.int z) H)
theorem Zbf:FnScope ["_law_cell","_law_letters","_law_size","_law_place","_law_by","_law_base","_law_found","_law_k","_law_sign"] ["_law_cell"] (Zal Zer):=⟨rfl,rfl,rfl,by decide +kernel,rfl,by decide +kernel,by decide +kernel⟩
def Zjs (T:Tx K w mg):Sp:=fun vs H Q E=>vs.length=1∧(∃ c:Int,vs=[.int c]∧∀ H' D' (ns:List Str),Same H H'->H D'=none->H' D'=some (.lst (ns.map V.str))->Nms ns->Q (.ref D') H')
theorem Zkq:FnScope ["_law_some","_law_digit"] ["_law_some","_law_digit"] (Zal Zfa):=⟨rfl,rfl,rfl,by decide +kernel,rfl,by decide +kernel,by decide +kernel⟩
def Zky (T:Tx K w mg):Sp:=fun vs H Q E=>vs.length=2∧(∃ (l:Addr) (xs:List Str) (d:Int),vs=[.ref l,.int d]∧SqL K H l (xs.map V.str)∧xs.length≤100∧0≤d∧∀ H' (x:Str),Same H H'->(x=""∨x∈xs)->Q (.str x) H')
theorem Za1:FnScope ["_law_cells","_law_names_here","_law_rows_here","_law_day_here","_law_k","_law_c","_law_men","_law_women","_law_sort"] ["_law_cells","_law_names_here"] (Zal ZdK):=⟨rfl,rfl,rfl,by decide +kernel,rfl,by decide +kernel,by decide +kernel⟩
def Zh6 (T:Tx K w mg):Sp:=fun vs H Q E=>vs.length=2∧(∃ (lc ln:Addr) (cs:List Int) (ns:List Str),vs=[.ref lc,.ref ln]∧SqL K H lc (cs.map V.int)∧0<cs.length∧cs.length≤20∧(∀ c∈cs,0≤c)∧SqL K H ln (ns.map V.str)∧Nms ns∧∀ H' D' ks,Same H H'->H D'=none->H' D'=some (.lst (ZaQ ks))->RowsAt K H' ks->PB ns (ks.map (·.1))->ks.length=cs.length->Q (.ref D') H')
theorem ZbO:FnScope ["_law_cells","_law_births_here","_law_rows_here","_law_k","_law_c","_law_digit","_law_late"] ["_law_cells","_law_births_here"] (Zal ZdW):=⟨rfl,rfl,rfl,by decide +kernel,rfl,by decide +kernel,by decide +kernel⟩
def Zia (T:Tx K w mg):Sp:=fun vs H Q E=>vs.length=2∧(∃ (lc D:Addr) (cs:List Int) (ks:List (Ent × Addr)) (ns:List Str),vs=[.ref lc,.ref D]∧SqL K H lc (cs.map V.int)∧0<cs.length∧cs.length≤20∧(∀ c∈cs,0≤c)∧SqL K H D (ZaQ ks)∧RowsAt K H ks∧Nms ns∧PB ns (ks.map (·.1))∧ks.length=cs.length∧∀ H' D' (ds:List (Ent × Addr)),Same H H'->H D'=none->H' D'=some (.lst (ZaQ ds))->RowsAt K H' ds->More (ks.map (·.1)) (ds.map (·.1))->ds.length≤cs.length->(∀ p∈ds,p.1.kw="dead")->Q (.ref D') H')
theorem Za2:FnScope ["_law_cells","_law_births_here","_law_rows_here","_law_told","_law_k","_law_c","_law_at","_law_way","_law_low","_law_high","_law_day_here","_law_key"] ["_law_cells","_law_births_here"] (Zal Zfh):=⟨rfl,rfl,rfl,by decide +kernel,rfl,by decide +kernel,by decide +kernel⟩
def Zj6 (T:Tx K w mg):Sp:=fun vs H Q E=>vs.length=2∧(∃ (lc D:Addr) (cs:List Int) (ks:List (Ent × Addr)) (ns:List Str),vs=[.ref lc,.ref D]∧SqL K H lc (cs.map V.int)∧0<cs.length∧cs.length≤20∧(∀ c∈cs,0≤c)∧SqL K H D (ZaQ ks)∧RowsAt K H ks∧Nms ns∧PB ns (ks.map (·.1))∧ks.length=cs.length∧∀ H' D' (ds:List (Ent × Addr)),Same H H'->H D'=none->H' D'=some (.lst (ZaQ ds))->RowsAt K H' ds->More (ks.map (·.1)) (ds.map (·.1))->ds.length≤cs.length->(∀ p∈ds,p.1.kw≠"born"∧p.1.kw≠"dead")->Q (.ref D') H')
theorem Zla:FnScope ["_law_row"] ["_law_row"] (Zal Zgr):=⟨rfl,rfl,rfl,by decide +kernel,rfl,by decide +kernel,by decide +kernel⟩
def Zlw (T:Tx K w mg):Sp:=fun vs H Q E=>vs.length=1∧(∃ v e,vs=[v]∧EntAt K H v e∧Q (.int e.day) H)
theorem Zed:FnScope ["_law_rows_here","_law_book_here","_law_row"] ["_law_rows_here"] (Zal Ze8):=⟨rfl,rfl,rfl,by decide +kernel,rfl,by decide +kernel,by decide +kernel⟩
def ZjZ (T:Tx K w mg):Sp:=fun vs H Q E=>vs.length=1∧(∃ (D:Addr) (ks:List (Ent × Addr)) (pool:List Str),vs=[.ref D]∧SqL K H D (ZaQ ks)∧RowsAt K H ks∧GdL pool (ks.map (·.1))∧pool.length≤33∧ks.length≤60∧∀ H' b dx k bi li ti su B,BkAt K T.c_Book H' b dx k bi li ti su B->LI5 pool B B.kept->B.kept.map (·.1)=(ks.map (·.1)).map Ent.told->Same H H'->Q (.ref b) H')
theorem Zea:FnScope ["_law_script","_law_at","_law_most","_law_names_here","_law_cells","_law_births_here"] ["_law_script","_law_at","_law_most","_law_names_here"] (Zal Zfk):=⟨rfl,rfl,rfl,by decide +kernel,rfl,by decide +kernel,by decide +kernel⟩
def Zkl (T:Tx K w mg):Sp:=fun vs H Q E=>vs.length=4∧(∃ (l ln:Addr) (ss:List Int) (ns:List Str),vs=[.ref l,.int 2,.int 20,.ref ln]∧SqL K H l (ss.map V.int)∧ss.length≤63∧SqL K H ln (ns.map V.str)∧Nms ns∧∀ H' D' ks,Same H H'->H D'=none->H' D'=some (.lst (ZaQ ks))->RowsAt K H' ks->RwOk ns (ks.map (·.1))->Q (.ref D') H')
theorem ZiY:FnScope ["_law_rows_here","_law_day_here"] ["_law_rows_here","_law_day_here"] (Zal Zey):=⟨rfl,rfl,rfl,by decide +kernel,rfl,by decide +kernel,by decide +kernel⟩
def Zjh (T:Tx K w mg):Sp:=fun vs H Q E=>vs.length=2∧(∃ (D:Addr) (ks:List (Ent × Addr)) (d:Int),vs=[.ref D,.int d]∧SqL K H D (ZaQ ks)∧RowsAt K H ks∧ks.length≤100∧∀ H' D',Same H H'->H D'=none->H' D'=some (.lst (ZaQ (ks.filter fun p=>decide (p.1.day≤d))))->Q (.ref D') H')
theorem Zgl:FnScope ["_law_rows_here"] ["_law_rows_here"] (Zal ZcM):=⟨rfl,rfl,rfl,by decide +kernel,rfl,by decide +kernel,by decide +kernel⟩
def ZfX (T:Tx K w mg):Sp:=fun vs H Q E=>vs.length=1∧(∃ (D:Addr) (ks:List (Ent × Addr)),vs=[.ref D]∧SqL K H D (ZaQ ks)∧RowsAt K H ks∧ks.length≤100∧∀ H' D' (qs:List (Addr × Str × Int)),Same H H'->H D'=none->H' D'=some (.lst (qs.map fun q=>V.ref q.1))->(∀ q∈qs,SqT K H' q.1 [.str q.2.1,.int q.2.2])->qs.map (·.2)=ZaP (ks.map (·.1))->Q (.ref D') H')
theorem Zhz:FnScope ["_law_found","_law_due_here"] ["_law_found","_law_due_here"] (Zal Zdt):=⟨rfl,rfl,rfl,by decide +kernel,rfl,by decide +kernel,by decide +kernel⟩
def Zg3 (T:Tx K w mg):Sp:=fun vs H Q E=>vs.length=2∧(∃ (l m:Addr) (xs:List Str),vs=[.ref l,.ref m]∧SqL K H l (xs.map V.str)∧SqL K H m (xs.map V.str)∧xs.length≤100∧∀ H',Same H H'->Q (.bl true) H')
theorem ZdZ:FnScope ["_law_rows_here","_law_dead","_law_day_here","_law_handed_here","_law_then","_law_people","_law_gone"] ["_law_rows_here","_law_dead","_law_day_here","_law_handed_here"] (Zal Zf6):=⟨rfl,rfl,rfl,by decide +kernel,rfl,by decide +kernel,by decide +kernel⟩
def Zk3 (T:Tx K w mg):Sp:=fun vs H Q E=>vs.length=4∧(∃ (D:Addr) (ks:List (Ent × Addr)) (dead:Str) (d:Int) (z:V) (o:Option (List Str)),vs=[.ref D,.str dead,.int d,z]∧SqL K H D (ZaQ ks)∧RowsAt K H ks∧ks.length≤63∧LivAt K H z o∧∀ H' D',Same H H'->H D'=none->H' D'=some (.lst ((Zqd (ks.map (·.1)) dead d o).map V.str))->Q (.ref D') H')
theorem ZcG:FnScope ["_law_rows_here","_law_bits","_law_dead","_law_strange","_law_some","_law_row"] ["_law_rows_here","_law_bits","_law_dead","_law_strange"] (Zal ZdN):=⟨rfl,rfl,rfl,by decide +kernel,rfl,by decide +kernel,by decide +kernel⟩
def Zh4 (T:Tx K w mg):Sp:=fun vs H Q E=>vs.length=4∧(∃ (D:Addr) (ks:List (Ent × Addr)) (bits:Int) (dead strange:Str),vs=[.ref D,.int bits,.str dead,.str strange]∧SqL K H D (ZaQ ks)∧RowsAt K H ks∧ks.length≤100∧∀ H' D' (zs:List Str),Same H H'->H D'=none->H' D'=some (.lst (zs.map V.str))->zs.length≤300->Q (.ref D') H')
theorem Zes:FnScope ["_law_book_here","_law_one","e"] ["_law_book_here","_law_one"] (Zal Zdr):=⟨rfl,rfl,rfl,by decide +kernel,rfl,by decide +kernel,by decide +kernel⟩
def Zht (T:Tx K w mg):Sp:=fun vs H Q E=>vs.length=2∧(∃ b dx k bi li ti su B x,vs=[.ref b,x]∧BkAt K T.c_Book H b dx k bi li ti su B∧((Zg0 K H B x∧∀ H' D',Same H H'->H D'=none->H' D'=some (.lst ([.bl false,.bl true]))->Q (.ref D') H')∨∃ n,x=.str n∧Known B n∧ZgH B n=.non∧∀ H' D',Same H H'->H D'=none->H' D'=some (.lst ([.bl true,.bl false]))->Q (.ref D') H'))
theorem Zcs:FnScope ["_law_script","_law_names_here","_law_bits","_law_rows_here","_law_book_here","_law_held","_law_dead","_law_day_here","_law_found","_law_handed_here","_law_copy","_law_gone","_law_last","_law_row","_law_strange"] ["_law_script"] (Zal Zp9):=⟨rfl,rfl,rfl,by decide +kernel,rfl,by decide +kernel,by decide +kernel⟩
def ZpC (T:Tx K w mg):Sp:=fun vs H Q E=>vs.length=1∧(∃ (l:Addr) (ns:List Int),vs=[.ref l]∧SqL K H l (ns.map V.int)∧ns.length≤63∧∀ H',Q (.bl true) H')
abbrev Zf7 (P:Program) (base:Heap) (T:Tx K w mg):Prop:=FnOk P w K mg base (CX1 P w) 1 T.ZbR.a (Zcq K T.ZbR.a) ["thing"] (Zk7 T)
abbrev Zh0 (P:Program) (base:Heap) (T:Tx K w mg):Prop:=FnOk P w K mg base (CX1 P w) 1 T.ZaR.a (Zcq K T.ZaR.a) ["thing"] (ZiQ T)
abbrev ZlK (P:Program) (base:Heap) (T:Tx K w mg):Prop:=FnOk P w K mg base (CX1 P w) 2 T.ZbI.a (Zcq K T.ZbI.a) ["thing"] (Zke T)
abbrev ZhM (P:Program) (base:Heap) (T:Tx K w mg):Prop:=FnOk P w K mg base (CX1 P w) 2 T.Zbt.a (Zcq K T.Zbt.a) ["thing"] (ZgA T)
abbrev ZkF (P:Program) (base:Heap) (T:Tx K w mg):Prop:=FnOk P w K mg base (CX1 P w) 1 T.Zb8.a (Zcq K T.Zb8.a) ["thing"] (ZiS T)
abbrev Zha (P:Program) (base:Heap) (T:Tx K w mg):Prop:=FnOk P w K mg base (CX1 P w) 2 T.Zbn.a (Zcq K T.Zbn.a) ["thing"] (Zgy T)
abbrev Zin (P:Program) (base:Heap) (T:Tx K w mg):Prop:=FnOk P w K mg base (CX1 P w) 3 T.Zcy.a (Zcq K T.Zcy.a) ["parts","checks"] (ZkS T)
abbrev ZiG (P:Program) (base:Heap) (T:Tx K w mg):Prop:=FnOk P w K mg base (CX1 P w) 4 T.Zcz.a (Zcq K T.Zcz.a) ["thing"] (ZlD T)
abbrev Zi4 (P:Program) (base:Heap) (T:Tx K w mg):Prop:=FnOk P w K mg base (CX1 P w) 1 T.ZcH.a (Zcq K T.ZcH.a) ["entry"] (Zn1 T)
abbrev Zf8 (P:Program) (base:Heap) (T:Tx K w mg):Prop:=FnOk P w K mg base (CX1 P w) 1 T.ZbP.a (Zcq K T.ZbP.a) ["entry"] (ZkU T)
abbrev Zjf (P:Program) (base:Heap) (T:Tx K w mg):Prop:=FnOk P w K mg base (CX1 P w) 1 T.ZcI.a (Zcq K T.ZcI.a) ["entry"] (Zn6 T)
abbrev ZhZ (P:Program) (base:Heap) (T:Tx K w mg):Prop:=FnOk P w K mg base (CX1 P w) 2 T.Zca.a (Zcq K T.Zca.a) ["entry"] (ZmN T)
abbrev Zje (P:Program) (base:Heap) (T:Tx K w mg):Prop:=FnOk P w K mg base (CX1 P w) 3 T.ZcE.a (Zcq K T.ZcE.a) ["entry"] (ZnN T)
abbrev Zhy (P:Program) (base:Heap) (T:Tx K w mg):Prop:=FnOk P w K mg base (CX1 P w) 1 T.Zcl.a (Zcq K T.Zcl.a) ["thing"] (Zkp T)
abbrev Zhr (P:Program) (base:Heap) (T:Tx K w mg):Prop:=FnOk P w K mg base (CX1 P w) 1 T.Zb7.a (Zcq K T.Zb7.a) ["one","other"] (Zmh T)
abbrev ZcU (P:Program) (base:Heap) (T:Tx K w mg):Prop:=FnOk P w K mg base (CX1 P w) 1 T.Zbo.a (Zcq K T.Zbo.a) ["self"] (ZgN T)
abbrev Zbl (P:Program) (base:Heap) (T:Tx K w mg):Prop:=FnOk P w K mg base (CX1 P w) 1 T.Zav.a (Zcq K T.Zav.a) ["self","name"] (ZgD T)
abbrev ZeO (P:Program) (base:Heap) (T:Tx K w mg):Prop:=FnOk P w K mg base (CX1 P w) 2 T.ZbS.a (Zcq K T.ZbS.a) ["self","name"] (Zg7 T)
abbrev Zdl (P:Program) (base:Heap) (T:Tx K w mg):Prop:=FnOk P w K mg base (CX1 P w) 2 T.ZaO.a (Zcq K T.ZaO.a) ["self","name"] (ZhQ T)
abbrev Zdk (P:Program) (base:Heap) (T:Tx K w mg):Prop:=FnOk P w K mg base (CX1 P w) 3 T.ZaS.a (Zcq K T.ZaS.a) ["self","name","sort","day"] (Zfc T)
abbrev ZhF (P:Program) (base:Heap) (T:Tx K w mg):Prop:=FnOk P w K mg base (CX1 P w) 4 T.ZcC.a (Zcq K T.ZcC.a) ["self","entry"] (Zkf T)
abbrev ZfO (P:Program) (base:Heap) (T:Tx K w mg):Prop:=FnOk P w K mg base (CX1 P w) 5 T.Zb0.a (Zcq K T.Zb0.a) ["self","entry"] (Zie T)
abbrev ZdQ (P:Program) (base:Heap) (T:Tx K w mg):Prop:=FnOk P w K mg base (CX1 P w) 1 T.ZaK.a (Zcq K T.ZaK.a) ["self","letter","begin","end"] (Zki T)
abbrev ZdE (P:Program) (base:Heap) (T:Tx K w mg):Prop:=FnOk P w K mg base (CX1 P w) 2 T.Zbj.a (Zcq K T.Zbj.a) ["self","entry"] (ZfL T)
abbrev Zhu (P:Program) (base:Heap) (T:Tx K w mg):Prop:=FnOk P w K mg base (CX1 P w) 2 T.Zcx.a (Zcq K T.Zcx.a) ["self","letter","name"] (ZjN T)
abbrev ZfC (P:Program) (base:Heap) (T:Tx K w mg):Prop:=FnOk P w K mg base (CX1 P w) 2 T.a_Book_stands T.fd_Book_stands ["self","one","other","day"] (Zh7 T)
abbrev Zej (P:Program) (base:Heap) (T:Tx K w mg):Prop:=FnOk P w K mg base (CX1 P w) 3 T.ZbC.a (Zcq K T.ZbC.a) ["self","entry"] (ZgI T)
abbrev ZeH (P:Program) (base:Heap) (T:Tx K w mg):Prop:=FnOk P w K mg base (CX1 P w) 6 T.ZbQ.a (Zcq K T.ZbQ.a) ["self","entry"] (ZkT T)
abbrev ZfP (P:Program) (base:Heap) (T:Tx K w mg):Prop:=FnOk P w K mg base (CX1 P w) 1 T.Zb3.a (Zcq K T.Zb3.a) ["self"] (Zh3 T)
abbrev Zdn (P:Program) (base:Heap) (T:Tx K w mg):Prop:=FnOk P w K mg base (CX1 P w) 2 T.Zbi.a (Zcq K T.Zbi.a) ["self","name"] (ZhX T)
abbrev ZgB (P:Program) (base:Heap) (T:Tx K w mg):Prop:=FnOk P w K mg base (CX1 P w) 7 T.Zcn.a (Zcq K T.Zcn.a) ["self","day"] (ZjA T)
abbrev Zeg (P:Program) (base:Heap) (T:Tx K w mg):Prop:=FnOk P w K mg base (CX1 P w) 8 T.Zbm.a (Zcq K T.Zbm.a) ["book","name"] (ZgG T)
abbrev Ziz (P:Program) (base:Heap) (T:Tx K w mg):Prop:=FnOk P w K mg base (CX1 P w) 3 T.Zcw.a (Zcq K T.Zcw.a) ["day_book","name","living"] (Zlq T)
abbrev ZeS (P:Program) (base:Heap) (T:Tx K w mg):Prop:=FnOk P w K mg base (CX1 P w) 9 T.a_living_at T.fd_living_at ["book","name","living"] (Zj9 T)
abbrev Zeq (P:Program) (base:Heap) (T:Tx K w mg):Prop:=FnOk P w K mg base (CX1 P w) 1 T.ZaT.a (Zcq K T.ZaT.a) ["_law_script","_law_k"] (Zjg T)
abbrev Zgx (P:Program) (base:Heap) (T:Tx K w mg):Prop:=FnOk P w K mg base (CX1 P w) 1 T.ZbW.a (Zcq K T.ZbW.a) ["_law_cell"] (Zjs T)
abbrev Zg2 (P:Program) (base:Heap) (T:Tx K w mg):Prop:=FnOk P w K mg base (CX1 P w) 1 T.Zbu.a (Zcq K T.Zbu.a) ["_law_some","_law_digit"] (Zky T)
abbrev ZfJ (P:Program) (base:Heap) (T:Tx K w mg):Prop:=FnOk P w K mg base (CX1 P w) 2 T.ZbF.a (Zcq K T.ZbF.a) ["_law_cells","_law_names_here"] (Zh6 T)
abbrev ZfB (P:Program) (base:Heap) (T:Tx K w mg):Prop:=FnOk P w K mg base (CX1 P w) 1 T.ZbH.a (Zcq K T.ZbH.a) ["_law_cells","_law_births_here"] (Zia T)
abbrev Zhk (P:Program) (base:Heap) (T:Tx K w mg):Prop:=FnOk P w K mg base (CX1 P w) 1 T.Zch.a (Zcq K T.Zch.a) ["_law_cells","_law_births_here"] (Zj6 T)
abbrev Zgp (P:Program) (base:Heap) (T:Tx K w mg):Prop:=FnOk P w K mg base (CX1 P w) 1 T.ZbN.a (Zcq K T.ZbN.a) ["_law_row"] (Zlw T)
abbrev ZhR (P:Program) (base:Heap) (T:Tx K w mg):Prop:=FnOk P w K mg base (CX1 P w) 7 T.Zci.a (Zcq K T.Zci.a) ["_law_rows_here"] (ZjZ T)
abbrev ZgY (P:Program) (base:Heap) (T:Tx K w mg):Prop:=FnOk P w K mg base (CX1 P w) 3 T.Zcm.a (Zcq K T.Zcm.a) ["_law_script","_law_at","_law_most","_law_names_here"] (Zkl T)
abbrev Zgs (P:Program) (base:Heap) (T:Tx K w mg):Prop:=FnOk P w K mg base (CX1 P w) 2 T.ZbY.a (Zcq K T.ZbY.a) ["_law_rows_here","_law_day_here"] (Zjh T)
abbrev ZcK (P:Program) (base:Heap) (T:Tx K w mg):Prop:=FnOk P w K mg base (CX1 P w) 1 T.ZaA.a (Zcq K T.ZaA.a) ["_law_rows_here"] (ZfX T)
abbrev ZeN (P:Program) (base:Heap) (T:Tx K w mg):Prop:=FnOk P w K mg base (CX1 P w) 1 T.ZaJ.a (Zcq K T.ZaJ.a) ["_law_found","_law_due_here"] (Zg3 T)
abbrev Ziq (P:Program) (base:Heap) (T:Tx K w mg):Prop:=FnOk P w K mg base (CX1 P w) 3 T.Zbk.a (Zcq K T.Zbk.a) ["_law_rows_here","_law_dead","_law_day_here","_law_handed_here"] (Zk3 T)
abbrev Zfl (P:Program) (base:Heap) (T:Tx K w mg):Prop:=FnOk P w K mg base (CX1 P w) 1 T.ZbK.a (Zcq K T.ZbK.a) ["_law_rows_here","_law_bits","_law_dead","_law_strange"] (Zh4 T)
abbrev ZeP (P:Program) (base:Heap) (T:Tx K w mg):Prop:=FnOk P w K mg base (CX1 P w) 10 T.ZaU.a (Zcq K T.ZaU.a) ["_law_book_here","_law_one"] (Zht T)
abbrev ZrH (P:Program) (base:Heap) (T:Tx K w mg):Prop:=FnOk P w K mg base (CX1 P w) 11 T.ZlE.a (Zcq K T.ZlE.a) ["_law_script"] (ZpC T)
theorem Zth:(["name"]:List Str).Nodup:=by decide +kernel
theorem Zts:(["name","entry","self"]:List Str).Nodup:=by decide +kernel
theorem Ztn:(["tied_on","day"]:List Str).Nodup:=by decide +kernel
theorem Zs6:(["name","end"]:List Str).Nodup:=by decide +kernel
theorem Zti:(["one","living"]:List Str).Nodup:=by decide +kernel
theorem Zs5:(["one","day_book"]:List Str).Nodup:=by decide +kernel
theorem Zs7:(["one","name"]:List Str).Nodup:=by decide +kernel
theorem Ztv:(["_law_j","_law_letters","_law_cell"]:List Str).Nodup:=by decide +kernel
theorem Zsr:(["_law_row","_law_day_here"]:List Str).Nodup:=by decide +kernel
theorem Ztw:(["_law_k","_law_script","_law_at"]:List Str).Nodup:=by decide +kernel
theorem ZpY:(["_law_row"]:List Str).Nodup:=by decide +kernel
theorem Zso:(["_law_one"]:List Str).Nodup:=by decide +kernel
theorem ZsL:(["_law_one","_law_handed_here","_law_dead"]:List Str).Nodup:=by decide +kernel
theorem Zse:(["_law_one","_law_gone"]:List Str).Nodup:=by decide +kernel
theorem Zo6:(["_law_one","_law_when"]:List Str).Nodup:=by decide +kernel
end
section
variable {K:W.Frag} {mg:Str->Option Value}
def spC (K:W.Frag) (f:Vk->Bool):Sp:=fun vs H Q _=>vs.length=1∧∃ x t,vs=[x]∧Vw K H x t∧∀ H',Same H H'->Q (.bl (f t)) H'
def Fam (T:Tx K w mg):Addr->Sp->Prop:=fun f sp=>∃ c,f=T.ad c∧sp=spC K (chk c)
theorem Zq9 {P : Program} {w : World} {base : Heap} {X : Cx} (T : Tx K w mg) (h1 : FnOk P w K mg base (CX1 P w) 1 T.ZaR.a (Zcq K T.ZaR.a) ["thing"] (ZiQ T)) (h2 : FnOk P w K mg base (CX1 P w) 1 T.Zb8.a (Zcq K T.Zb8.a) ["thing"] (ZiS T))
  (h3:FnOk P w K mg base (CX1 P w) 2 T.ZbI.a (Zcq K T.ZbI.a) ["thing"] (Zke T)) (h4:FnOk P w K mg base (CX1 P w) 2 T.Zbt.a (Zcq K T.Zbt.a) ["thing"] (ZgA T)) (h5:FnOk P w K mg base (CX1 P w) 2 T.Zbn.a (Zcq K T.Zbn.a) ["thing"] (Zgy T))
  (hr:Room 2 X.A) (e1:X.prog=P) (e2:X.w=w) (e3:X.K=K) (e4:X.mg=mg) (e5:X.base=base):Zq8 X (CX1 P w) (Fam T):=by
 subst e1 e2 e3 e4 e5
 rintro f sp ⟨c,rfl,rfl⟩
 cases c with
 | name=>exact ⟨1,_,_,h1,hr.mono (by decide),T.ZaR.F.kp,T.ZaR.b⟩
 | sort=>exact ⟨1,_,_,h2,hr.mono (by decide),T.Zb8.F.kp,T.Zb8.b⟩
 | day=>exact ⟨2,_,_,h3,hr,T.ZbI.F.kp,T.ZbI.b⟩
 | amount=>exact ⟨2,_,_,h4,hr,T.Zbt.F.kp,T.Zbt.b⟩
 | parent=>exact ⟨2,_,_,h5,hr,T.Zbn.F.kp,T.Zbn.b⟩
end
section
variable {P:Program} {w:World} {K:W.Frag} {mg:Str->Option Value} {base:Heap}
theorem Zlt (T:Tx K w mg)  : Zf7 P base T:=by
 refine Fun.okX (k:=0) T.ZbR.F Zlv (fun vs H Q E h=>h.1) (fun cdv A outer s H vs Q E hr h=>?_)
 obtain ⟨-,h⟩:=h
 obtain ⟨x,t,rfl,hv,q⟩:=h
 refine ⟨_,(Zah (Zax (Zec (Zda K (by rfl) T.n_isinstance (Zaa (pv 0) (Zaa (ZcN (v:=.ty "int") (by rfl) T.n_int ZpT rfl) Zac))) (Zdw (ZqW (Zda K (by rfl) T.n_isinstance (Zaa (pv 0) (Zaa (ZcN (v:=.ty "bool") (by rfl) T.n_bool ZqH rfl) Zac)))))))),?_⟩
 refine ⟨_,rfl,_,.ty "int",_,_,rfl,rfl,hv.kd,kI T t,_,rfl,?_⟩
 cases t with
 | int i=>exact Zex ⟨_,rfl,_,.ty "bool",_,_,rfl,rfl,hv.kd,T.k_int_bool,_,rfl,q _ (Same.refl H)⟩
 | bl=>exact Zex ⟨_,rfl,_,.ty "bool",_,_,rfl,rfl,hv.kd,T.k_bool_bool,_,rfl,q _ (Same.refl H)⟩
 | _=>exact Zc8 (q _ (Same.refl H))
theorem ZmG (T:Tx K w mg)  : Zh0 P base T:=by
 refine Fun.okX (k:=0) T.ZaR.F Zmr (fun vs H Q E h=>h.1) (fun cdv A outer s H vs Q E hr h=>?_)
 obtain ⟨-,h⟩:=h
 obtain ⟨x,t,rfl,hv,q⟩:=h
 refine ⟨_, (Zae (Za8 (PW.pt (Zi6 (Zdx (ZcO (Zda K (by rfl) T.n_isinstance (Zaa (pv 0) (Zaa (ZcN (v := .ty "str") (by rfl) T.n_str ZgX rfl) Zac))))) (Zi6 (Zaq Zmt (Zaz ZgC (by rfl) T.n_len Zcu (Zaa (pv 0) Zac)) Zad (Zau _)) (Zho (Zaq Zoa (Zaz ZgC (by rfl) T.n_len Zcu (Zaa (pv 0) Zac)) Zad (Zau _)))))) (Zah (Zax Zeu)) Zay)
   (Zah (Zax (Zaz (Zjz rfl) (by rfl) T.n_all ZmZ (Zaa (Zb6 (N:=["sign"]) (cl:=[]) (σc:=fun _=>[none]) rfl (Zm5 (L:=[(".0",.local),("sign",.local),("LETTERS",.globalImplicit)]) (by rfl) (by decide +kernel) (by decide +kernel) (by rfl) (by rfl) (by decide) (by rfl) (by simp)) (Zq6 (pv 0)) (fun _ _ _=>(ZaF (i:=0) nd1 rfl (Or.inl rfl))) (fun _ _ _=>Ze4) (fun _ _ _=>(Zbz Zm8 (pv 0) (Zfi (v:=.str ZhB) (by rfl) T.m_LETTERS ⟨_,rfl⟩) (by rfl)))) Zac))))),?_⟩
 refine ⟨_,rfl,_,.ty "str",_,_,rfl,rfl,hv.kd,kS T t,_,rfl,?_⟩
 cases t with
 | str z =>
  obtain ⟨e,hz⟩:=hv
  subst e
  have hs:z.length≤sizeLine:=Nat.le_of_lt (Zaj (by omega))
  refine Zc8 ⟨_,rfl,z,rfl,hs,_,_,rfl,rfl,_,rfl,?_⟩
  by_cases h1:((z.length:Nat):Int)<1
  ·rw [decide_eq_true h1]
   have e:ZfD (.str z)=false:=by
    rw [Zf0]
    rw [decide_eq_false (show ¬ 1≤z.length by omega)]
    rfl
   rw [e] at q
   exact Zex (q _ (Same.refl H))
  rw [decide_eq_false h1]
  refine Zc8 ⟨_,rfl,z,rfl,hs,_,_,rfl,rfl,_,rfl,?_⟩
  by_cases h2:(8:Int)<((z.length:Nat):Int)
  ·rw [decide_eq_true h2]
   have e:ZfD (.str z)=false:=by
    rw [Zf0]
    rw [decide_eq_false (show ¬ z.length≤8 by omega),Bool.and_false]
    rfl
   rw [e] at q
   exact Zex (q _ (Same.refl H))
  rw [decide_eq_false h2]
  have e:ZfD (.str z)=(z.cps.toList.map inL).all id:=by
   rw [Zf0]
   rw [decide_eq_true (show 1≤z.length by omega),decide_eq_true (show z.length≤8 by omega),List.all_map]
   rfl
  rw [e] at q
  have hl:z.cps.size=z.length:=rfl
  refine Zc8 ⟨_,rfl,z,rfl,?_⟩
  refine ZeG ((z.cps.toList.map inL).map V.bl) (by simp only [List.length_map,Array.length_toList]; exact Nat.lt_of_le_of_lt (Nat.le_of_eq hl) (Zaj (by omega))) (fun σ=>∃ o,σ=[o]) ⟨none,rfl⟩ ?_ ?_ ?_ ?_
  ·intro i H2 hi _
   show i<z.cps.size
   simpa using hi
  ·intro H2 _
   show (((z.cps.toList.map inL).map V.bl).length:Nat)=z.cps.size
   simp
  ·rintro i σ H2 v H3 y hy ⟨o,rfl⟩ s2 ⟨e3,c,hc,ev⟩ C hC
   subst e3 ev
   have ey:y=.bl (inL c):=by
    have hc':z.cps.toList[i]?=some c:=by simpa using hc
    rw [List.getElem?_map,List.getElem?_map,hc'] at hy
    exact (Option.some.inj hy).symm
   subst ey
   exact ⟨_,rfl,_,_,rfl,rfl,hC _ _ ⟨_,rfl⟩ (Same.refl _)⟩
  ·intro D H2 hD s2 hl2
   exact ⟨D,_,rfl,hl2,q _ s2⟩
 | _=>exact Zex (q _ (Same.refl H))
theorem Zog (T:Tx K w mg) (ZcR:Zf7 P base T):ZlK P base T:=by
 refine Fun.okX (k:=1) T.ZbI.F Zot (fun vs H Q E h=>h.1) (fun cdv A outer s H vs Q E hr h=>?_)
 obtain ⟨-,h⟩:=h
 obtain ⟨x,t,rfl,hv,q⟩:=h
 refine ⟨_,(Zah (Zax (Zec (Zas ZcR (hr.mono (by decide)) (by rfl) T.ZbR.m T.ZbR.F.kp T.ZbR.b .nil Zai (Zaa (pv 0) Zac)) (Zdw (Zbz Zop (Zaz ZoS (by rfl) T.n_abs ZrG (Zaa (pv 0) Zac)) (ZaI Zir Zad Zad) (Zau _)))))),?_⟩
 refine ⟨_,rfl,rfl,x,t,rfl,hv,fun H1 s1=>⟨_,rfl,?_⟩⟩
 cases t with
 | int i =>
  cases (show x=.int i from hv)
  exact Zex ⟨_,rfl,i,rfl,_,_,rfl,rfl,(show Zp6 10 18 from ⟨by decide,by decide,by decide +kernel⟩),_,_,rfl,rfl,q _ s1⟩
 | _=>exact Zc8 (q _ s1)
theorem Zka (T:Tx K w mg) (ZcR:Zf7 P base T):ZhM P base T:=by
 refine Fun.okX (k:=1) T.Zbt.F ZkD (fun vs H Q E h=>h.1) (fun cdv A outer s H vs Q E hr h=>?_)
 obtain ⟨-,h⟩:=h
 obtain ⟨x,t,rfl,hv,q⟩:=h
 refine ⟨_,(Zah (Zax (Zec (Zas ZcR (hr.mono (by decide)) (by rfl) T.ZbR.m T.ZbR.F.kp T.ZbR.b .nil Zai (Zaa (pv 0) Zac)) (Zec (Zbz ZnF (pv 0) Zad (Zau _)) (Zdw (Zbz Zop (pv 0) (ZaI Zir Zad Zad) (Zau _))))))),?_⟩
 refine ⟨_,rfl,rfl,x,t,rfl,hv,fun H1 s1=>⟨_,rfl,?_⟩⟩
 cases t with
 | int i =>
  cases (show x=.int i from hv)
  refine Zex ⟨_,rfl,_,_,rfl,rfl,_,rfl,?_⟩
  have q1:=q _ s1
  rw [ZkG] at q1
  by_cases h1:1≤i
  ·rw [decide_eq_true h1] at q1 ⊢
   exact Zex ⟨_,rfl,_,_,rfl,rfl,(show Zp6 10 18 from ⟨by decide,by decide,by decide +kernel⟩),_,_,rfl,rfl,q1⟩
  ·rw [decide_eq_false h1] at q1 ⊢
   exact Zc8 q1
 | _=>exact Zc8 (q _ s1)
theorem Zmy (T:Tx K w mg)  : ZkF P base T:=by
 refine Fun.okX (k:=0) T.Zb8.F ZmD (fun vs H Q E h=>h.1) (fun cdv A outer s H vs Q E hr h=>?_)
 obtain ⟨-,h⟩:=h
 obtain ⟨x,t,rfl,hv,q⟩:=h
 refine ⟨_,(Zah (Zax (Zec (Zda K (by rfl) T.n_isinstance (Zaa (pv 0) (Zaa (ZcN (v:=.ty "str") (by rfl) T.n_str ZgX rfl) Zac))) (Zdw (Zbz Zeb (pv 0) (Zby (Zaa Zaw (Zaa Zaw (Zaa Zaw Zac)))) (by rfl)))))),?_⟩
 refine ⟨_,rfl,_,.ty "str",_,_,rfl,rfl,hv.kd,kS T t,_,rfl,?_⟩
 cases t with
 | str z =>
  cases (show x=.str z from hv.1)
  refine Zex ⟨_,rfl,by decide,fun p hp=>⟨p,_,rfl,.inr (.of Zab),rfl,rfl,?_⟩⟩
  have e:(if false=true then !inV (.str z) [.str "he",.str "she",.str ""] else inV (.str z) [.str "he",.str "she",.str ""])=ZiU (.str z):=by
   rw [if_neg (by decide)]
   exact Zqz z
  rw [e]
  exact q _ (Zag hp)
 | _=>exact Zc8 (q _ (Same.refl H))
theorem Zku (T:Tx K w mg) (ZdF:Zh0 P base T):Zha P base T:=by
 refine Fun.okX (k:=1) T.Zbn.F Zkz (fun vs H Q E h=>h.1) (fun cdv A outer s H vs Q E hr h=>?_)
 obtain ⟨-,h⟩:=h
 obtain ⟨x,t,rfl,hv,q⟩:=h
 refine ⟨_,(Zah (Zax (Zqt (Zas ZdF (hr.mono (by decide)) (by rfl) T.ZaR.m T.ZaR.F.kp T.ZaR.b .nil Zai (Zaa (pv 0) Zac)) (Zdw (Zec (Zda K (by rfl) T.n_isinstance (Zaa (pv 0) (Zaa (ZcN (v:=.ty "str") (by rfl) T.n_str ZgX rfl) Zac))) (Zdw (Zbz Zcg (pv 0) Zaw (Zau _)))))))),?_⟩
 refine ⟨_,rfl,rfl,x,t,rfl,hv,fun H1 s1=>⟨_,rfl,?_⟩⟩
 have q1:=q _ s1
 unfold Zfz at q1
 cases hn:ZfD t with
 | true =>
  rw [hn] at q1
  exact Zex q1
 | false =>
  rw [hn,Bool.false_or] at q1
  refine Zc8 ⟨_,rfl,_,.ty "str",_,_,rfl,rfl,(hv.mono s1).kd,kS T t,_,rfl,?_⟩
  cases t with
  | str z =>
   cases (show x=.str z from hv.1)
   have e:decide (V.str z=V.str "")=decide (z=""):=by
    rw [Bool.eq_iff_iff]
    simp
   exact Zex ⟨_,rfl,rfl,by rw [e]; exact q1⟩
  | _=>exact Zc8 q1
theorem Zlh (T:Tx K w mg) (ZdF:Zh0 P base T) (Zju:ZlK P base T) (Ze2:ZhM P base T) (Zhj:ZkF P base T) (ZeV:Zha P base T):Zin P base T:=by
 refine Fun.okX (k:=2) T.Zcy.F Zlb (fun vs H Q E h=>h.1) (fun cdv A outer s H vs Q E hr h=>?_)
 obtain ⟨-,h⟩:=h
 obtain ⟨a,b,xs,ts,cs,rfl,ha,hx,hb,hc,q⟩:=h
 refine ⟨_, (Zae (Za8 (Zaq Zid (Zaz ZaN (by rfl) T.n_len Zcu (Zaa (pv 0) Zac)) (Zaz ZaN (by rfl) T.n_len Zcu (Zaa (pv 1) Zac)) (Zau _)) (Zah (Zax Zeu)) Zay)
   (Zah (Zax (Zaz (Zjz rfl) (by rfl) T.n_all ZmZ (Zaa (Zb6 (N:=["check","part"]) (cl:=[]) (σc:=fun _=>[none,none]) rfl (Zm5 (L:=[(".0",.local),("check",.local),("part",.local)]) (by rfl) (by decide +kernel) (by decide +kernel) (by rfl) (by rfl) (by decide) (by rfl) (by simp)) (Zrq K (by rfl) T.n_zip (Zaa (pv 1) (Zaa (pv 0) Zac))) (fun _ _ _=>(Zlg (n:=2) K rfl (Zcf (ZaF (i:=0) nd2 rfl (Or.inl rfl)) (Zcf (ZaF (i:=1) nd2 rfl (Or.inl rfl)) Zgd)))) (fun _ _ _=>Ze4) (fun _ _ _=>(Zpi (Fam:=Fam T) (i:=0) (Zq9 T ZdF Zhj Zju Ze2 ZeV (hr.mono (by decide)) rfl rfl rfl rfl rfl) rfl (Or.inl rfl) Zai (Zaa (pv 1) Zac)))) Zac))))),?_⟩
 have lx:=hx.length
 refine ⟨_,rfl,a,_,rfl,.inr ha,_,rfl,b,_,rfl,.inr hb,rfl,_,rfl,?_⟩
 have e0:(!decide (V.int (xs.length:Nat)=V.int ((cs.map fun c=>V.ref (T.ad c)).length:Nat)))=!decide (ts.length=cs.length):=by
  rw [lx,List.length_map]
  congr 1
  rw [Bool.eq_iff_iff]
  simp only [decide_eq_true_eq,V.int.injEq]
  omega
 rw [e0]
 unfold ZcZ at q
 by_cases hl:ts.length=cs.length
 ·rw [decide_eq_true hl] at q ⊢
  rw [Bool.true_and] at q
  have lo:(Zc7 cs ts).length=cs.length:=Zl3 hl
  refine Zc8 ⟨_,rfl,_,rfl,b,a,rfl,⟨_,hb⟩,⟨_,ha⟩,?_⟩
  refine ZeG ((Zc7 cs ts).map V.bl) (by rw [List.length_map,lo]; exact Zaj (by omega)) (fun σ=>∃ o u,σ=[o,u]) ⟨none,none,rfl⟩ ?_ ?_ ?_ ?_
  ·intro i H2 hi s2
   rw [List.length_map,lo] at hi
   have h1:i<(cs.map fun c=>V.ref (T.ad c)).length:=by rw [List.length_map]; exact hi
   have h2:i<xs.length:=by omega
   exact ⟨_,_,_,_,s2.sqt hb,s2.sqt ha,List.getElem?_eq_getElem h1,List.getElem?_eq_getElem h2⟩
  ·intro H2 s2
   exact ⟨_,s2.sqt hb,by rw [List.length_map,List.length_map,lo]⟩
  ·rintro i σ H2 v H3 y hy ⟨o,u,rfl⟩ s2 ⟨A',x1,x2,nA,rfl,f1,f2,rfl⟩ C hC
   obtain ⟨c,t,e1,e2,e3⟩:=Zpc hl hy
   have g1:=f1 _ (s2.sqt hb)
   have g2:=f2 _ (s2.sqt ha)
   rw [List.getElem?_map,e1] at g1
   have g1':x1=.ref (T.ad c):=(Option.some.inj g1).symm
   obtain ⟨x,ex,vx⟩:=hx.get e2
   rw [ex] at g2
   have g2':x2=x:=(Option.some.inj g2).symm
   subst g1' g2' e3
   have sA:=Zag (o:=.tup [.ref (T.ad c),x2]) nA
   refine ⟨A',_,rfl,.of Zab,rfl,?_⟩
   refine ⟨_,_,rfl,_,_,rfl,rfl,?_⟩
   refine ⟨_,_,rfl,⟨c,rfl,rfl⟩,_,rfl,rfl,x2,t,rfl,(vx.mono s2).mono sA,fun H5 s5=>hC _ _ ⟨_,_,rfl⟩ (sA.trans s5)⟩
  ·intro D H2 hD s2 hl2
   exact ⟨D,_,rfl,hl2,q _ s2⟩
 ·rw [decide_eq_false hl] at q ⊢
  exact Zex (q _ (Same.refl H))
theorem Zlk (T:Tx K w mg) (Zgn:Zin P base T):ZiG P base T:=by
 refine Fun.okX (k:=3) T.Zcz.F Ze5 (fun vs H Q E h=>h.1) (fun cdv A outer s H vs Q E hr h=>?_)
 obtain ⟨-,h⟩:=h
 obtain ⟨x,rfl,h⟩:=h
 refine ⟨_, (Zae (Za8 (PW.pt (Zi6 (Zdx (ZcO (Zda K (by rfl) T.n_isinstance (Zaa (pv 0) (Zaa (ZcN (v := .ty "tuple") (by rfl) T.n_tuple Zpb rfl) Zac))))) (Zi6 (Zaq Zcg (Zaz ZaN (by rfl) T.n_len Zcu (Zaa (pv 0) Zac)) Zad (Zau _)) (Zho (Zdx (ZcO (Zda K (by rfl) T.n_isinstance (Zaa (Zar Zao (pv 0) Zad (fun _ _ => rfl)) (Zaa (ZcN (v := .ty "str") (by rfl) T.n_str ZgX rfl) Zac))))))))) (Zah (Zax Zeu)) Zay)
   (Zae (Zd7 PassesOwn.leaving rfl (Zoq (Zfi (v:=.ref T.aF) (by rfl) T.m_FORMS rfl)) (ZlX rfl (Zcf (ZaF (i:=1) Ze5.nd rfl (Or.inl rfl)) (Zcf (ZaF (i:=2) Ze5.nd rfl (Or.inl rfl)) Zgd)))
    (Zah (Za8 (Zaq Zcg (Zar Zao (pv 0) Zad (fun _ _=>rfl)) (pv 1) (Zau _)) (Zah (Zax (Zas Zgn (hr.mono (by decide)) (by rfl) T.Zcy.m T.Zcy.F.kp T.Zcy.b .nil Zai (Zaa (Zd5 Zl2 (pv 0) (ZeA Zad) Zgj) (Zaa (pv 2) Zac))))) Zay)))
   (Zah (Zax Zeu)))),?_⟩
 rcases h with ⟨t,hv,ht,q⟩ | ⟨ts,⟨a,xs,rfl,hS,hx⟩,hl,q⟩
 ·have k:=kT T t
  rw [ht] at k
  exact ⟨_,rfl,_,.ty "tuple",_,_,rfl,rfl,hv.kd,k,_,rfl,Zex (q _ (Same.refl H))⟩
 refine ⟨_,rfl,_,.ty "tuple",_,_,rfl,rfl,.sqt hS,T.k_tuple_tuple,_,rfl,?_⟩
 refine Zc8 ⟨_,rfl,a,_,rfl,.inr hS,rfl,_,rfl,?_⟩
 match xs,ts,hx with
 | [],[],_=>exact Zex (q _ (Same.refl H))
 | x :: xs,t :: ts,hx =>
  have e0:decide (V.int ((x :: xs).length:Nat)=V.int 0)=false:=by
   rw [List.length_cons]
   exact decide_eq_false fun z=>by
    have:=V.int.inj z
    omega
  rw [e0]
  have at0:atI (x :: xs) 0=some x:=Zgk (j:=0) rfl
  refine Zc8 ⟨_,rfl,a,_,_,_,rfl,rfl,hS,at0,_,.ty "str",_,_,rfl,rfl,hx.1.kd,kS T t,_,rfl,?_⟩
  cases t with
  | str w =>
   have ex:x=.str w:=hx.1.1
   refine Zc8 ⟨T.aF,rfl,⟨_,T.sF _⟩,ZnH (fun i σ H2=>∃ v1 v2,σ=[some (.ref a),v1,v2]∧Same H H2∧∀ j,j<i->∀ p',Zib[j]?=some p'->w≠p'.1) ⟨none,none,rfl,Same.refl H,fun j hj=>by omega⟩ (fun _ _ _ _ _=>T.sF _) ?turn ?done⟩
   case done =>
    rintro σ H2 ⟨v1,v2,rfl,s2,b⟩
    have e:Zei (.str w :: ts)=false:=by
     rw [ZcS,Zk5 b]
     rfl
    rw [e] at q
    exact q _ s2
   case turn =>
    rintro i y σ H2 hy ⟨v1,v2,rfl,s2,b⟩
    have hi:i<6:=(List.getElem?_eq_some_iff.mp hy).1
    have hf:Zib[i]?=some (Zib[i]'hi):=List.getElem?_eq_getElem hi
    generalize Zib[i]'hi=p at hf
    obtain ⟨P,G,e1,e2,e3⟩:=ZqN T hf
    rw [hy] at e1
    have ey:y=.ref P:=Option.some.inj e1
    subst ey
    refine ⟨P,_,rfl,e2 _,rfl,_,_,rfl,_,_,rfl,rfl,?_⟩
    refine ⟨_,rfl,a,_,_,_,rfl,rfl,s2.sqt hS,at0,_,rfl,by rw [ex]; rfl,_,rfl,?_⟩
    rw [ex]
    have ed:decide (V.str w=V.str p.1)=decide (w=p.1):=by
     rw [Bool.eq_iff_iff]
     simp
    rw [ed]
    by_cases hw:w=p.1
    ·rw [decide_eq_true hw]
     have e:Zei (.str w :: ts)=ZcZ p.2 ts:=by
      rw [ZcS,Znl hf b hw]
      rfl
     rw [e] at q
     refine Zex ⟨_,rfl,_,rfl,a,_,rfl,s2.sqt hS,?_,fun n hn=>?_⟩
     ·rintro ⟨z,_⟩
      have:HT.sIx (x :: xs).length 0 (some ((1:Nat):Int))=0:=z
      rw [HT.sIx_nat,List.length_cons] at this
      omega
     ·rw [ZoQ]
      have sn:=Zag (o:=.tup xs) hn
      refine ⟨_,rfl,rfl,n,G,xs,ts,p.2,rfl,.of Zab,(hx.2.mono s2).mono sn,e3 _,Zou p (List.mem_of_getElem? hf),fun H5 s5=>q _ (s2.trans (sn.trans s5))⟩
    ·rw [decide_eq_false hw]
     refine Zc8 ⟨_,_,rfl,s2,fun j hj p' e'=>?_⟩
     by_cases hji:j<i
     ·exact b j hji p' e'
     ·have:j=i:=by omega
      subst this
      rw [hf] at e'
      cases e'
      exact hw
  | _=>exact Zex (q _ (Same.refl H))
theorem Zok (T:Tx K w mg)  : Zi4 P base T:=by
 refine Fun.okX (k:=0) T.ZcH.F Zm1 (fun vs H Q E h=>h.1) (fun cdv A outer s H vs Q E hr h=>?_)
 obtain ⟨-,h⟩:=h
 obtain ⟨v,e,rfl,⟨a,rfl,hE⟩,q⟩:=h
 refine ⟨_,(Zah (Zax (Zbz Zeb (Zar Zao (pv 0) Zad (fun _ _=>rfl)) (Zby (Zaa Zaw (Zaa Zaw Zac))) (by rfl)))),?_⟩
 cases e with
 | born n s d f m=>exact ⟨_,rfl,a,_,_,_,rfl,rfl,hE,Zaf (j:=0) rfl,few rfl,fun p np=>⟨p,_,rfl,.inr (.of Zab),rfl,rfl,q _ (Zag np)⟩⟩
 | taken c t d=>exact ⟨_,rfl,a,_,_,_,rfl,rfl,hE,Zaf (j:=0) rfl,few rfl,fun p np=>⟨p,_,rfl,.inr (.of Zab),rfl,rfl,q _ (Zag np)⟩⟩
 | union x y d=>exact ⟨_,rfl,a,_,_,_,rfl,rfl,hE,Zaf (j:=0) rfl,few rfl,fun p np=>⟨p,_,rfl,.inr (.of Zab),rfl,rfl,q _ (Zag np)⟩⟩
 | parted x y d=>exact ⟨_,rfl,a,_,_,_,rfl,rfl,hE,Zaf (j:=0) rfl,few rfl,fun p np=>⟨p,_,rfl,.inr (.of Zab),rfl,rfl,q _ (Zag np)⟩⟩
 | dead n d=>exact ⟨_,rfl,a,_,_,_,rfl,rfl,hE,Zaf (j:=0) rfl,few rfl,fun p np=>⟨p,_,rfl,.inr (.of Zab),rfl,rfl,q _ (Zag np)⟩⟩
 | given x y z d=>exact ⟨_,rfl,a,_,_,_,rfl,rfl,hE,Zaf (j:=0) rfl,few rfl,fun p np=>⟨p,_,rfl,.inr (.of Zab),rfl,rfl,q _ (Zag np)⟩⟩
theorem ZlC (T:Tx K w mg)  : Zf8 P base T:=by
 refine Fun.okX (k:=0) T.ZbP.F ZkV (fun vs H Q E h=>h.1) (fun cdv A outer s H vs Q E hr h=>?_)
 obtain ⟨-,h⟩:=h
 obtain ⟨v,e,rfl,⟨a,rfl,hE⟩,q⟩:=h
 refine ⟨_, (Zae (Za8 (Zaq Zcg (Zar Zao (pv 0) Zad (fun _ _ => rfl)) Zaw (Zau _)) (Zah (Zax (Zb6 rfl (Za5 (N := ["name"]) [] [none] rfl (by decide +kernel) (by decide +kernel) (by rfl) (by rfl) (by rfl) (by rfl) (by rfl)) (Zoq (Zd5 Zl2 (pv 0) (ZeA Zad) Zgj)) (fun _ _ _ => (ZaF (i := 0) Zth rfl (Or.inl rfl))) (fun _ _ _ => (Zck (Zaq Zid (pv 0) Zaw (Zau _)))) (fun _ _ _ => (pv 0))))) Zay)
   (Zae (Za8 (Zaq Zcg (Zar Zao (pv 0) Zad (fun _ _=>rfl)) Zaw (Zau _)) (Zah (Zax (ZbL (Zaa (Zar Zao (pv 0) Zad (fun _ _=>rfl)) Zac)))) Zay)
   (Zah (Zax (ZbL (Zaa (Zar Zao (pv 0) Zad (fun _ _=>rfl)) (Zaa (Zar Zao (pv 0) Zad (fun _ _=>rfl)) Zac))))))),?_⟩
 cases e with
 | born n s d f m =>
  refine ⟨_,rfl,a,_,_,_,rfl,rfl,hE,Zaf (j:=0) rfl,rfl,_,rfl,Zbe (by decide +kernel) ⟨_,rfl,_,rfl,?_⟩⟩
  dsimp only [Zjc]
  refine ZjI hE (fun h=>absurd h.1 (show ¬ (4:Nat)=0 by decide)) fun H1 p s1 hp=>?_
  have hp':SqT K H1 p ([f,m].map V.str):=hp
  refine ⟨p,rfl,⟨_,hp'⟩,Zbs ([f,m].map ZqR) (Zaj (by simp)) (fun σ=>∃ v,σ=[v]) ⟨_,rfl⟩ (fun i H2 hi sm=>?go) (fun H2 sm=>?stop) (fun i σ H2 x H3 o ho hσ sm hx C hC=>?step) (fun D H2 nD sm hD=>?fin)⟩
  case go =>
   have hi':i<([f,m].map V.str).length:=hi
   exact ⟨_,_,sm.sqt hp',List.getElem?_eq_getElem hi'⟩
  case stop=>exact ⟨_,sm.sqt hp',by simp⟩
  case step =>
   obtain ⟨v,rfl⟩:=hσ
   obtain ⟨rfl,hx⟩:=hx
   have e1:=hx _ (sm.sqt hp')
   rw [List.getElem?_map] at e1 ho
   obtain ⟨z,hz,rfl⟩:=Option.map_eq_some_iff.mp e1
   rw [hz] at ho
   obtain rfl:ZqR z=o:=Option.some.inj ho
   refine ⟨_,rfl,rfl,_,rfl,?_⟩
   by_cases hz0:z=""
   ·subst hz0
    exact ZaB (by decide +kernel) (hC _ _ ⟨_,rfl⟩ (Same.refl _))
   ·have e2:ZqR z=some (.str z):=if_neg hz0
    rw [e2] at hC
    exact Zbe (by rw [Zcj,decide_eq_false hz0]; rfl) ⟨_,rfl,hC _ _ ⟨_,rfl⟩ (Same.refl _)⟩
  case fin =>
   rw [ZlO] at hD
   exact q _ D (s1.trans sm) (Zbq s1 nD) (.of hD)
 | dead n d=>exact ⟨_,rfl,a,_,_,_,rfl,rfl,hE,Zaf (j:=0) rfl,rfl,_,rfl,ZaB (by decide +kernel) ⟨_,rfl,a,_,_,_,rfl,rfl,hE,Zaf (j:=0) rfl,rfl,_,rfl,Zbe (by decide +kernel) ⟨_,rfl,a,_,_,_,rfl,rfl,hE,Zaf (j:=1) rfl,few rfl,fun D nD=>q _ D (Zag nD) nD (.of Zab)⟩⟩⟩
 | taken c t d=>exact ⟨_,rfl,a,_,_,_,rfl,rfl,hE,Zaf (j:=0) rfl,rfl,_,rfl,ZaB (by decide +kernel) ⟨_,rfl,a,_,_,_,rfl,rfl,hE,Zaf (j:=0) rfl,rfl,_,rfl,ZaB (by decide +kernel) ⟨_,rfl,a,_,_,_,rfl,rfl,hE,Zaf (j:=1) rfl,_,rfl,a,_,_,_,rfl,rfl,hE,Zaf (j:=2) rfl,few rfl,fun D nD=>q _ D (Zag nD) nD (.of Zab)⟩⟩⟩
 | union x y d=>exact ⟨_,rfl,a,_,_,_,rfl,rfl,hE,Zaf (j:=0) rfl,rfl,_,rfl,ZaB (by decide +kernel) ⟨_,rfl,a,_,_,_,rfl,rfl,hE,Zaf (j:=0) rfl,rfl,_,rfl,ZaB (by decide +kernel) ⟨_,rfl,a,_,_,_,rfl,rfl,hE,Zaf (j:=1) rfl,_,rfl,a,_,_,_,rfl,rfl,hE,Zaf (j:=2) rfl,few rfl,fun D nD=>q _ D (Zag nD) nD (.of Zab)⟩⟩⟩
 | parted x y d=>exact ⟨_,rfl,a,_,_,_,rfl,rfl,hE,Zaf (j:=0) rfl,rfl,_,rfl,ZaB (by decide +kernel) ⟨_,rfl,a,_,_,_,rfl,rfl,hE,Zaf (j:=0) rfl,rfl,_,rfl,ZaB (by decide +kernel) ⟨_,rfl,a,_,_,_,rfl,rfl,hE,Zaf (j:=1) rfl,_,rfl,a,_,_,_,rfl,rfl,hE,Zaf (j:=2) rfl,few rfl,fun D nD=>q _ D (Zag nD) nD (.of Zab)⟩⟩⟩
 | given x y z d=>exact ⟨_,rfl,a,_,_,_,rfl,rfl,hE,Zaf (j:=0) rfl,rfl,_,rfl,ZaB (by decide +kernel) ⟨_,rfl,a,_,_,_,rfl,rfl,hE,Zaf (j:=0) rfl,rfl,_,rfl,ZaB (by decide +kernel) ⟨_,rfl,a,_,_,_,rfl,rfl,hE,Zaf (j:=1) rfl,_,rfl,a,_,_,_,rfl,rfl,hE,Zaf (j:=2) rfl,few rfl,fun D nD=>q _ D (Zag nD) nD (.of Zab)⟩⟩⟩
theorem Zm7 (T:Tx K w mg)  : Zjf P base T:=by
 refine Fun.okX (k:=0) T.ZcI.F Zna (fun vs H Q E h=>h.1) (fun cdv A outer s H vs Q E hr h=>?_)
 obtain ⟨-,h⟩:=h
 obtain ⟨v,e,rfl,⟨a,rfl,hE⟩,q⟩:=h
 refine ⟨_, (Zae (Za8 (Zaq Zcg (Zar Zao (pv 0) Zad (fun _ _ => rfl)) Zaw (Zau _)) (Zah (Zax (Zar Zao (pv 0) Zad (fun _ _ => rfl)))) Zay)
   (Zah (Zax (Zar Zao (pv 0) (Zpe Zma Zad) (fun _ _=>rfl))))),?_⟩
 cases e with
 | born n s d f m=>exact ⟨_,rfl,a,_,_,_,rfl,rfl,hE,Zaf (j:=0) rfl,rfl,_,rfl,Zbe (by decide +kernel) ⟨_,rfl,a,_,_,_,rfl,rfl,hE,Zaf (j:=3) rfl,q⟩⟩
 | taken c t d=>exact ⟨_,rfl,a,_,_,_,rfl,rfl,hE,Zaf (j:=0) rfl,rfl,_,rfl,ZaB (by decide +kernel) ⟨_,rfl,_,rfl,a,_,_,_,rfl,rfl,hE,rfl,q⟩⟩
 | union x y d=>exact ⟨_,rfl,a,_,_,_,rfl,rfl,hE,Zaf (j:=0) rfl,rfl,_,rfl,ZaB (by decide +kernel) ⟨_,rfl,_,rfl,a,_,_,_,rfl,rfl,hE,rfl,q⟩⟩
 | parted x y d=>exact ⟨_,rfl,a,_,_,_,rfl,rfl,hE,Zaf (j:=0) rfl,rfl,_,rfl,ZaB (by decide +kernel) ⟨_,rfl,_,rfl,a,_,_,_,rfl,rfl,hE,rfl,q⟩⟩
 | dead n d=>exact ⟨_,rfl,a,_,_,_,rfl,rfl,hE,Zaf (j:=0) rfl,rfl,_,rfl,ZaB (by decide +kernel) ⟨_,rfl,_,rfl,a,_,_,_,rfl,rfl,hE,rfl,q⟩⟩
 | given x y z d=>exact ⟨_,rfl,a,_,_,_,rfl,rfl,hE,Zaf (j:=0) rfl,rfl,_,rfl,ZaB (by decide +kernel) ⟨_,rfl,_,rfl,a,_,_,_,rfl,rfl,hE,rfl,q⟩⟩
theorem Zmq (T:Tx K w mg) (ZeK:Zi4 P base T):ZhZ P base T:=by
 refine Fun.okX (k:=1) T.Zca.F ZiC (fun vs H Q E h=>h.1) (fun cdv A outer s H vs Q E hr h=>?_)
 obtain ⟨-,h⟩:=h
 obtain ⟨v,e,rfl,hx,q⟩:=h
 refine ⟨_, (Zae (Za8 (Zdx (ZcO (Zas ZeK (hr.mono (by decide)) (by rfl) T.ZcH.m T.ZcH.F.kp T.ZcH.b .nil Zai (Zaa (pv 0) Zac)))) (Zah (Zax (pv 0))) Zay)
   (Zae (ZaC (i:=1) ZiC.nd rfl (Or.inl rfl) (Zaz (Zi7 K) (by rfl) T.n_sorted ZfQ (Zaa (Zd5 Zl2 (pv 0) (ZeA Zad) (ZeA Zad)) Zac)))
   (Zah (Zax (Zby (Zaa (Zar Zao (pv 0) Zad (fun _ _=>rfl)) (Zaa (Zar ZaW (pv 1) Zad (fun _ _=>rfl)) (Zaa (Zar ZaW (pv 1) Zad (fun _ _=>rfl)) (Zaa (Zar Zao (pv 0) Zad (fun _ _=>rfl)) Zac))))))))),?_⟩
 obtain ⟨a,rfl,hE⟩:=id hx
 refine ⟨_,rfl,rfl,.ref a,e,rfl,hx,fun H1 s1=>⟨_,rfl,?_⟩⟩
 have hE1:=s1.sqt hE
 cases e with
 | born n s d f m=>exact Zex ⟨_,rfl,q _ _ s1 (hx.mono s1)⟩
 | taken c t d=>exact Zex ⟨_,rfl,q _ _ s1 (hx.mono s1)⟩
 | union x y d =>
  refine Zc8 ⟨_,rfl,_,rfl,_,rfl,?_⟩
  refine ZjI hE1 (fun h=>absurd h.1 (show ¬ (1:Nat)=0 by decide)) fun H2 p s2 hp=>?_
  have hp':SqT K H2 p ([x,y].map V.str):=hp
  refine ⟨p,[x,y],rfl,hp',Nat.le_of_ble_eq_true rfl,fun D zs nD perm so=>?_⟩
  rw [ZlR perm so]
  have s3:=Zag (o:=.lst ([(Zan x y).1,(Zan x y).2].map V.str)) nD
  have hE3:=s3.sqt (s2.sqt hE1)
  have hD:SqL K (upd H2 D (.lst ([(Zan x y).1,(Zan x y).2].map V.str))) D ([(Zan x y).1,(Zan x y).2].map V.str):=.of Zab
  refine ⟨_,rfl,a,_,_,_,rfl,rfl,hE3,Zaf (j:=0) rfl,_,rfl,D,_,_,_,rfl,rfl,hD,Zaf (j:=0) rfl,_,rfl,D,_,_,_,rfl,rfl,hD,Zaf (j:=1) rfl,_,rfl,a,_,_,_,rfl,rfl,hE3,Zaf (j:=3) rfl,few rfl,fun t nt=>?_⟩
  exact q _ _ (s1.trans (s2.trans (s3.trans (Zag nt)))) ⟨t,rfl,.of Zab⟩
 | parted x y d =>
  refine Zc8 ⟨_,rfl,_,rfl,_,rfl,?_⟩
  refine ZjI hE1 (fun h=>absurd h.1 (show ¬ (1:Nat)=0 by decide)) fun H2 p s2 hp=>?_
  have hp':SqT K H2 p ([x,y].map V.str):=hp
  refine ⟨p,[x,y],rfl,hp',Nat.le_of_ble_eq_true rfl,fun D zs nD perm so=>?_⟩
  rw [ZlR perm so]
  have s3:=Zag (o:=.lst ([(Zan x y).1,(Zan x y).2].map V.str)) nD
  have hE3:=s3.sqt (s2.sqt hE1)
  have hD:SqL K (upd H2 D (.lst ([(Zan x y).1,(Zan x y).2].map V.str))) D ([(Zan x y).1,(Zan x y).2].map V.str):=.of Zab
  refine ⟨_,rfl,a,_,_,_,rfl,rfl,hE3,Zaf (j:=0) rfl,_,rfl,D,_,_,_,rfl,rfl,hD,Zaf (j:=0) rfl,_,rfl,D,_,_,_,rfl,rfl,hD,Zaf (j:=1) rfl,_,rfl,a,_,_,_,rfl,rfl,hE3,Zaf (j:=3) rfl,few rfl,fun t nt=>?_⟩
  exact q _ _ (s1.trans (s2.trans (s3.trans (Zag nt)))) ⟨t,rfl,.of Zab⟩
 | dead n d=>exact Zex ⟨_,rfl,q _ _ s1 (hx.mono s1)⟩
 | given x y z d=>exact Zex ⟨_,rfl,q _ _ s1 (hx.mono s1)⟩
theorem Zni (T:Tx K w mg) (ZdC:ZhZ P base T):Zje P base T:=by
 refine Fun.okX (k:=2) T.ZcE.F Znf (fun vs H Q E h=>h.1) (fun cdv A outer s H vs Q E hr h=>?_)
 obtain ⟨-,h⟩:=h
 obtain ⟨v,e,rfl,hx,q⟩:=h
 refine ⟨_, (Zae (Za8 (Zaq Zeb (Zar Zao (pv 0) Zad (fun _ _ => rfl)) (Zby (Zaa Zaw (Zaa Zaw Zac))) (by rfl)) (Zah (Zax (Zby (Zaa (Zar Zao (pv 0) Zad (fun _ _ => rfl)) (Zaa (Zar Zao (pv 0) Zad (fun _ _ => rfl)) Zac))))) Zay)
   (Zae (Za8 (Zaq Zcg (Zar Zao (pv 0) Zad (fun _ _=>rfl)) Zaw (Zau _)) (Zah (Zax (Zby (Zaa (Zar Zao (pv 0) Zad (fun _ _=>rfl)) (Zaa (Zar Zao (pv 0) Zad (fun _ _=>rfl)) (Zaa (Zar Zao (pv 0) Zad (fun _ _=>rfl)) Zac)))))) Zay)
   (Zae (Za8 (Zaq Zcg (Zar Zao (pv 0) Zad (fun _ _=>rfl)) Zaw (Zau _)) (Zah (Zax (Zby (Zaa (Zar Zao (pv 0) Zad (fun _ _=>rfl)) (Zaa (Zar Zao (pv 0) Zad (fun _ _=>rfl)) (Zaa (Zar Zao (pv 0) Zad (fun _ _=>rfl)) (Zaa (Zar Zao (pv 0) Zad (fun _ _=>rfl)) Zac))))))) Zay)
   (Zah (Zax (ZaI Zqm (Zby (Zaa Zaw Zac)) (Zd5 Zl2 (Zas ZdC (hr.mono (by decide)) (by rfl) T.Zca.m T.Zca.F.kp T.Zca.b .nil Zai (Zaa (pv 0) Zac)) (ZeA Zad) Zgj))))))),?_⟩
 obtain ⟨a,rfl,hE⟩:=id hx
 cases e with
 | born n s d f m =>
  refine ⟨_,rfl,a,_,_,_,rfl,rfl,hE,Zaf (j:=0) rfl,few rfl,fun p np=>⟨p,_,rfl,.inr (.of Zab),rfl,rfl,_,rfl,Zbe (by decide +kernel) ?_⟩⟩
  have s1:=Zag (o:=.tup [.str "born",.str "dead"]) np
  have hE1:=s1.sqt hE
  exact ⟨_,rfl,a,_,_,_,rfl,rfl,hE1,Zaf (j:=0) rfl,_,rfl,a,_,_,_,rfl,rfl,hE1,Zaf (j:=1) rfl,few rfl,fun t nt=>q _ t (s1.trans (Zag nt)) (Zbq s1 nt) Zab⟩
 | taken c t d =>
  refine ⟨_,rfl,a,_,_,_,rfl,rfl,hE,Zaf (j:=0) rfl,few rfl,fun p np=>⟨p,_,rfl,.inr (.of Zab),rfl,rfl,_,rfl,ZaB (by decide +kernel) ?_⟩⟩
  have s1:=Zag (o:=.tup [.str "born",.str "dead"]) np
  have hE1:=s1.sqt hE
  refine ⟨_,rfl,a,_,_,_,rfl,rfl,hE1,Zaf (j:=0) rfl,rfl,_,rfl,Zbe (by decide +kernel) ?_⟩
  exact ⟨_,rfl,a,_,_,_,rfl,rfl,hE1,Zaf (j:=0) rfl,_,rfl,a,_,_,_,rfl,rfl,hE1,Zaf (j:=1) rfl,_,rfl,a,_,_,_,rfl,rfl,hE1,Zaf (j:=2) rfl,few rfl,fun t nt=>q _ t (s1.trans (Zag nt)) (Zbq s1 nt) Zab⟩
 | union x y d =>
  refine ⟨_,rfl,a,_,_,_,rfl,rfl,hE,Zaf (j:=0) rfl,few rfl,fun p np=>⟨p,_,rfl,.inr (.of Zab),rfl,rfl,_,rfl,ZaB (by decide +kernel) ?_⟩⟩
  have s1:=Zag (o:=.tup [.str "born",.str "dead"]) np
  have hE1:=s1.sqt hE
  refine ⟨_,rfl,a,_,_,_,rfl,rfl,hE1,Zaf (j:=0) rfl,rfl,_,rfl,ZaB (by decide +kernel) ?_⟩
  refine ⟨_,rfl,a,_,_,_,rfl,rfl,hE1,Zaf (j:=0) rfl,rfl,_,rfl,ZaB (by decide +kernel) ?_⟩
  refine ⟨few rfl,fun t nt=>⟨_,rfl,rfl,.ref a,_,rfl,(hx.mono s1).mono (Zag nt),fun H2 u s2 hu=>?_⟩⟩
  obtain ⟨b,rfl,hb⟩:=hu
  refine ⟨_,rfl,?_⟩
  dsimp only [Zjc]
  refine ZjI hb (fun h=>absurd h.1 (show ¬ (1:Nat)=0 by decide)) fun H3 c s3 hc=>?_
  refine ⟨t,c,[.str "tie"],[.str (Zan x y).1,.str (Zan x y).2,.int d],rfl,rfl,.of (s3 _ _ (s2 _ _ Zab)),hc,by simp,few rfl,fun h=>absurd h (by simp),fun _ z nz=>?_⟩
  have s4:=(s1.trans (Zag nt)).trans (s2.trans s3)
  exact q _ z (s4.trans (Zag nz)) (Zbq s4 nz) Zab
 | parted x y d =>
  refine ⟨_,rfl,a,_,_,_,rfl,rfl,hE,Zaf (j:=0) rfl,few rfl,fun p np=>⟨p,_,rfl,.inr (.of Zab),rfl,rfl,_,rfl,ZaB (by decide +kernel) ?_⟩⟩
  have s1:=Zag (o:=.tup [.str "born",.str "dead"]) np
  have hE1:=s1.sqt hE
  refine ⟨_,rfl,a,_,_,_,rfl,rfl,hE1,Zaf (j:=0) rfl,rfl,_,rfl,ZaB (by decide +kernel) ?_⟩
  refine ⟨_,rfl,a,_,_,_,rfl,rfl,hE1,Zaf (j:=0) rfl,rfl,_,rfl,ZaB (by decide +kernel) ?_⟩
  refine ⟨few rfl,fun t nt=>⟨_,rfl,rfl,.ref a,_,rfl,(hx.mono s1).mono (Zag nt),fun H2 u s2 hu=>?_⟩⟩
  obtain ⟨b,rfl,hb⟩:=hu
  refine ⟨_,rfl,?_⟩
  dsimp only [Zjc]
  refine ZjI hb (fun h=>absurd h.1 (show ¬ (1:Nat)=0 by decide)) fun H3 c s3 hc=>?_
  refine ⟨t,c,[.str "tie"],[.str (Zan x y).1,.str (Zan x y).2,.int d],rfl,rfl,.of (s3 _ _ (s2 _ _ Zab)),hc,by simp,few rfl,fun h=>absurd h (by simp),fun _ z nz=>?_⟩
  have s4:=(s1.trans (Zag nt)).trans (s2.trans s3)
  exact q _ z (s4.trans (Zag nz)) (Zbq s4 nz) Zab
 | dead n d =>
  refine ⟨_,rfl,a,_,_,_,rfl,rfl,hE,Zaf (j:=0) rfl,few rfl,fun p np=>⟨p,_,rfl,.inr (.of Zab),rfl,rfl,_,rfl,Zbe (by decide +kernel) ?_⟩⟩
  have s1:=Zag (o:=.tup [.str "born",.str "dead"]) np
  have hE1:=s1.sqt hE
  exact ⟨_,rfl,a,_,_,_,rfl,rfl,hE1,Zaf (j:=0) rfl,_,rfl,a,_,_,_,rfl,rfl,hE1,Zaf (j:=1) rfl,few rfl,fun t nt=>q _ t (s1.trans (Zag nt)) (Zbq s1 nt) Zab⟩
 | given x y z d =>
  refine ⟨_,rfl,a,_,_,_,rfl,rfl,hE,Zaf (j:=0) rfl,few rfl,fun p np=>⟨p,_,rfl,.inr (.of Zab),rfl,rfl,_,rfl,ZaB (by decide +kernel) ?_⟩⟩
  have s1:=Zag (o:=.tup [.str "born",.str "dead"]) np
  have hE1:=s1.sqt hE
  refine ⟨_,rfl,a,_,_,_,rfl,rfl,hE1,Zaf (j:=0) rfl,rfl,_,rfl,ZaB (by decide +kernel) ?_⟩
  refine ⟨_,rfl,a,_,_,_,rfl,rfl,hE1,Zaf (j:=0) rfl,rfl,_,rfl,Zbe (by decide +kernel) ?_⟩
  exact ⟨_,rfl,a,_,_,_,rfl,rfl,hE1,Zaf (j:=0) rfl,_,rfl,a,_,_,_,rfl,rfl,hE1,Zaf (j:=1) rfl,_,rfl,a,_,_,_,rfl,rfl,hE1,Zaf (j:=2) rfl,_,rfl,a,_,_,_,rfl,rfl,hE1,Zaf (j:=4) rfl,few rfl,fun t nt=>q _ t (s1.trans (Zag nt)) (Zbq s1 nt) Zab⟩
theorem ZjR (T:Tx K w mg)  : Zhy P base T:=by
 refine Fun.okX (k:=0) T.Zcl.F Zks (fun vs H Q E h=>h.1) (fun cdv A outer s H vs Q E hr h=>?_)
 obtain ⟨-,h⟩:=h
 obtain ⟨x,rfl,h⟩:=h
 refine ⟨_,(Zah (Zax (Zec (Zda K (by rfl) T.n_isinstance (Zaa (pv 0) (Zaa (ZcN (v:=.ty "str") (by rfl) T.n_str ZgX rfl) Zac))) (Zdw (Zbz Zeb (pv 0) (Zfi (v:=.ref T.a_STEP_LETTERS) (by rfl) T.m_STEP_LETTERS rfl) (by rfl)))))),?_⟩
 rcases h with ⟨ty,hk,ks,q⟩ | ⟨l,rfl,q⟩
 ·exact ⟨_,rfl,_,.ty "str",_,_,rfl,rfl,hk,ks,_,rfl,Zc8 q⟩
 refine ⟨_,rfl,_,.ty "str",_,_,rfl,rfl,.of (.str _),T.k_str_str,_,rfl,Zex ⟨_,rfl,T.a_STEP_LETTERS,_,rfl,.inr (T.ZeL _),rfl,rfl,?_⟩⟩
 have e:(if false=true then !inV (.str l) (Zdb.map V.str) else inV (.str l) (Zdb.map V.str))=ZmX l:=Zd2 l Zdb
 rw [← e] at q
 exact q
theorem Zmx (T:Tx K w mg)  : Zhr P base T:=by
 refine Fun.okX (k:=0) T.Zb7.F ZmB (fun vs H Q E h=>h.1) (fun cdv A outer s H vs Q E hr h=>?_)
 obtain ⟨-,h⟩:=h
 obtain ⟨a,b,rfl,q⟩:=h
 refine ⟨_,(Zah (Zax (Zby (Zaa (Zaz (Zmn rfl) (by rfl) T.n_min Zl6 (Zaa (pv 0) (Zaa (pv 1) Zac))) (Zaa (Zaz (ZmA rfl) (by rfl) T.n_max ZlM (Zaa (pv 0) (Zaa (pv 1) Zac))) Zac))))),?_⟩
 refine ⟨_,rfl,_,rfl,_,_,rfl,_,rfl,_,rfl,_,_,rfl,few rfl,fun p np=>?_⟩
 rw [Zqa,ZpZ]
 exact q _ p (Zag np) np Zab
theorem ZgO (T:Tx K w mg)  : ZcU P base T:=by
 refine Fun.okX (k:=0) T.Zbo.F ZgQ (fun vs H Q E h=>h.1) (fun cdv A outer s H vs Q E hr h=>?_)
 obtain ⟨-,h⟩:=h
 obtain ⟨b,dx,rfl,h0,q⟩:=h
 refine ⟨_, (Zae (Zkd (pv 0) ZgU rfl)
   (Zae (Zkd (pv 0) Zi1 rfl)
   (Zae (Zkd (pv 0) ZgU rfl)
   (Zae (Zkd (pv 0) ZgU rfl)
   (Zah (Zkd (pv 0) ZgU rfl)))))),?_⟩
 refine fun k nk=>⟨_,rfl,b,T.c_Book,dx,[],rfl,(Zak (Zap h0 nk)).trans h0,T.cl_Book,T.na_Book_kept,Nat.lt_of_lt_of_le (m:=10) (Nat.le_of_ble_eq_true rfl) (by decide),?_⟩
 obtain ⟨g1,p1,s1,m1⟩:=ZqT (fs:=[]) "kept" (.dT []) h0 nk
 generalize hH1:upd (upd H k (.dT [])) b (.ins T.c_Book dx (Zcr "kept" (.ref k) ([])))=H1 at *
 refine fun bi nbi=>⟨_,rfl,b,T.c_Book,dx,Zcr "kept" (.ref k) [],rfl,(Zak (Zap g1 nbi)).trans g1,T.cl_Book,T.na_Book_births,Nat.lt_of_lt_of_le (m:=10) (Nat.le_of_ble_eq_true rfl) (by decide),?_⟩
 obtain ⟨g2,p2,s2,m2⟩:=ZqT (fs:=Zcr "kept" (.ref k) []) "births" (.dK []) g1 nbi
 generalize hH2:upd (upd H1 bi (.dK [])) b (.ins T.c_Book dx (Zcr "births" (.ref bi) (Zcr "kept" (.ref k) [])))=H2 at *
 refine fun li nli=>⟨_,rfl,b,T.c_Book,dx,Zcr "births" (.ref bi) (Zcr "kept" (.ref k) []),rfl,(Zak (Zap g2 nli)).trans g2,T.cl_Book,T.na_Book_links,Nat.lt_of_lt_of_le (m:=10) (Nat.le_of_ble_eq_true rfl) (by decide),?_⟩
 obtain ⟨g3,p3,s3,m3⟩:=ZqT (fs:=Zcr "births" (.ref bi) (Zcr "kept" (.ref k) [])) "links" (.dT []) g2 nli
 generalize hH3:upd (upd H2 li (.dT [])) b (.ins T.c_Book dx (Zcr "links" (.ref li) (Zcr "births" (.ref bi) (Zcr "kept" (.ref k) []))))=H3 at *
 refine fun ti nti=>⟨_,rfl,b,T.c_Book,dx,Zcr "links" (.ref li) (Zcr "births" (.ref bi) (Zcr "kept" (.ref k) [])),rfl,(Zak (Zap g3 nti)).trans g3,T.cl_Book,T.na_Book_ties,Nat.lt_of_lt_of_le (m:=10) (Nat.le_of_ble_eq_true rfl) (by decide),?_⟩
 obtain ⟨g4,p4,s4,m4⟩:=ZqT (fs:=Zcr "links" (.ref li) (Zcr "births" (.ref bi) (Zcr "kept" (.ref k) []))) "ties" (.dT []) g3 nti
 generalize hH4:upd (upd H3 ti (.dT [])) b (.ins T.c_Book dx (Zcr "ties" (.ref ti) (Zcr "links" (.ref li) (Zcr "births" (.ref bi) (Zcr "kept" (.ref k) [])))))=H4 at *
 refine fun su nsu=>⟨_,rfl,b,T.c_Book,dx,Zcr "ties" (.ref ti) (Zcr "links" (.ref li) (Zcr "births" (.ref bi) (Zcr "kept" (.ref k) []))),rfl,(Zak (Zap g4 nsu)).trans g4,T.cl_Book,T.na_Book_sums,Nat.lt_of_lt_of_le (m:=10) (Nat.le_of_ble_eq_true rfl) (by decide),?_⟩
 obtain ⟨g5,p5,s5,m5⟩:=ZqT (fs:=Zcr "ties" (.ref ti) (Zcr "links" (.ref li) (Zcr "births" (.ref bi) (Zcr "kept" (.ref k) [])))) "sums" (.dT []) g4 nsu
 generalize hH5:upd (upd H4 su (.dT [])) b (.ins T.c_Book dx (Zcr "sums" (.ref su) (Zcr "ties" (.ref ti) (Zcr "links" (.ref li) (Zcr "births" (.ref bi) (Zcr "kept" (.ref k) []))))))=H5 at *
 have kb:∀ {c:Addr} {o:HO} {Hx:Hp},Hx c=some o->(∀ fs,o≠.ins T.c_Book dx fs)->∀ {fs},Hx b=some (.ins T.c_Book dx fs)->c≠b:=fun e no fs eb z=>by subst z; rw [eb] at e; cases e; exact no _ rfl
 have dT:∀ fs,HO.dT []≠.ins T.c_Book dx fs:=fun _ z=>by cases z
 have dK:∀ fs,HO.dK []≠.ins T.c_Book dx fs:=fun _ z=>by cases z
 have a1:=s5 _ _ (s4 _ _ (s3 _ _ (s2 _ _ p1 (kb p1 dT g1)) (kb (s2 _ _ p1 (kb p1 dT g1)) dT g2)) (kb (s3 _ _ (s2 _ _ p1 (kb p1 dT g1)) (kb (s2 _ _ p1 (kb p1 dT g1)) dT g2)) dT g3)) (kb p1 dT g1)
 have a2:=s5 _ _ (s4 _ _ (s3 _ _ p2 (kb p2 dK g2)) (kb p2 dK g2)) (kb p2 dK g2)
 have a3:=s5 _ _ (s4 _ _ p3 (kb p3 dT g3)) (kb p3 dT g3)
 have a4:=s5 _ _ p4 (kb p4 dT g4)
 rw [ZqJ] at g5
 have kli:k≠li:=Zap (s2 _ _ p1 (kb p1 dT g1)) nli
 have kti:k≠ti:=Zap (s3 _ _ (s2 _ _ p1 (kb p1 dT g1)) (kb (s2 _ _ p1 (kb p1 dT g1)) dT g2)) nti
 have ksu:k≠su:=Zap (s4 _ _ (s3 _ _ (s2 _ _ p1 (kb p1 dT g1)) (kb (s2 _ _ p1 (kb p1 dT g1)) dT g2)) (kb (s3 _ _ (s2 _ _ p1 (kb p1 dT g1)) (kb (s2 _ _ p1 (kb p1 dT g1)) dT g2)) dT g3)) nsu
 have liti:li≠ti:=Zap p3 nti
 have lisu:li≠su:=Zap (s4 _ _ p3 (kb p3 dT g3)) nsu
 have tisu:ti≠su:=Zap p4 nsu
 exact q H5 k bi li ti su ⟨g5,by simp [kli,kti,ksu,liti,lisu,tisu],by simp [bk0],a1,a2,a3,a4,p5,fun _ h=>(nomatch h),fun _ h=>(nomatch h),fun _ h=>(nomatch h)⟩ (fun c o e cb=>s5 _ _ (s4 _ _ (s3 _ _ (s2 _ _ (s1 _ _ e cb) cb) cb) cb) cb) nk (m1 _ nbi) (m1 _ (m2 _ nli)) (m1 _ (m2 _ (m3 _ nti))) (m1 _ (m2 _ (m3 _ (m4 _ nsu))))
theorem ZgM (T:Tx K w mg)  : Zbl P base T:=by
 refine Fun.okX (k:=0) T.Zav.F ZgE (fun vs H Q E h=>h.1) (fun cdv A outer s H vs Q E hr h=>?_)
 obtain ⟨-,h⟩:=h
 obtain ⟨v,x,B,rfl,⟨b,dx,k,bi,li,ti,su,rfl,hB⟩,h⟩:=h
 refine ⟨_, (Zae (Za8 (PW.pt (Zi6 (Zdx (ZcO (Zda K (by rfl) T.n_isinstance (Zaa (pv 1) (Zaa (ZcN (v := .ty "str") (by rfl) T.n_str ZgX rfl) Zac))))) (Zho (ZnP (Znc (Zd9 hr) (pv 1) (Zcv (pv 0) rfl)))))) (Zah (Zdh (by rfl) T.m_NoPerson T.x_NoPerson EB rfl Zdj (Zaa Zaw Zac))) Zay)
   (Zah (Zax (Znn (Zd9 hr) (Zcv (pv 0) rfl) (pv 1) (fun _ _=>rfl))))),?_⟩
 rcases h with ⟨ty,hk,ks,qe⟩ | ⟨n,rfl,qe,q⟩
 ·exact ⟨_,rfl,_,.ty "str",_,_,rfl,rfl,hk,ks,_,rfl,Zex (Zex ⟨few rfl,qe⟩)⟩
 have dg:=DGet.k (k:=.inr n) hB.bi
 rw [ZjE] at dg
 refine ⟨_,rfl,_,.ty "str",_,_,rfl,rfl,.of (.str _),T.k_str_str,_,rfl,Zc8 ⟨_,rfl,_,rfl,b,T.c_Book,dx,_,_,rfl,hB.ob,T.cl_Book,T.na_Book_births,Zem,bi,_,rfl,dg,_,rfl,?_⟩⟩
 cases hb:ZaD n B.kept with
 | none=>exact Zex ⟨few rfl,qe hb⟩
 | some p =>
  rw [hb] at dg
  exact Zc8 ⟨_,rfl,b,T.c_Book,dx,_,_,rfl,hB.ob,T.cl_Book,T.na_Book_births,Zem,_,rfl,bi,.ref p.2,rfl,dg,q p hb⟩
theorem ZhE (T:Tx K w mg) (Zat:Zbl P base T):ZeO P base T:=by
 refine Fun.okX (k:=1) T.ZbS.F ZhW (fun vs H Q E h=>h.1) (fun cdv A outer s H vs Q E hr h=>?_)
 obtain ⟨-,h⟩:=h
 obtain ⟨v,x,B,rfl,hv,h⟩:=h
 refine ⟨_,(Zah (Zax (Zar Zao (ZaE (pv 0) T.cl_Book T.Zav.me Zat (hr.mono (by decide)) T.Zav.b .nil ZbT (Zaa (pv 1) Zac)) Zad (fun _ _=>rfl)))),?_⟩
 obtain ⟨b,dx,k,bi,li,ti,su,rfl,hB⟩:=id hv
 refine ⟨_,rfl,b,dx,_,rfl,hB.ob,rfl,_,rfl,rfl,.ref b,x,B,rfl,hv,?_⟩
 rcases h with ⟨ty,hk,ks,qe⟩ | ⟨n,rfl,qe,q⟩
 ·exact .inl ⟨ty,hk,ks,qe⟩
 refine .inr ⟨n,rfl,qe,fun p hp=>?_⟩
 obtain ⟨hm,hn⟩:=Zet hp
 have hE:=hB.en p hm
 obtain ⟨n',s,d,f,m,he⟩:∃ n' s d f m,p.1=.born n' s d f m:=by
  cases e:p.1 with
  | born n' s d f m=>exact ⟨n',s,d,f,m,rfl⟩
  | _=>rw [e] at hn; cases hn
 rw [he] at hE
 exact ⟨p.2,_,_,_,rfl,rfl,hE,Zaf (j:=2) rfl,q p hp n' s d f m he⟩
theorem Zhe (T:Tx K w mg) (Zat:Zbl P base T):Zdl P base T:=by
 refine Fun.okX (k:=1) T.ZaO.F ZhS (fun vs H Q E h=>h.1) (fun cdv A outer s H vs Q E hr h=>?_)
 obtain ⟨-,h⟩:=h
 obtain ⟨v,x,B,rfl,hv,h⟩:=h
 refine ⟨_,(Zah (Zax (Zar Zao (ZaE (pv 0) T.cl_Book T.Zav.me Zat (hr.mono (by decide)) T.Zav.b .nil ZbT (Zaa (pv 1) Zac)) Zad (fun _ _=>rfl)))),?_⟩
 obtain ⟨b,dx,k,bi,li,ti,su,rfl,hB⟩:=id hv
 refine ⟨_,rfl,b,dx,_,rfl,hB.ob,rfl,_,rfl,rfl,.ref b,x,B,rfl,hv,?_⟩
 rcases h with ⟨ty,hk,ks,qe⟩ | ⟨n,rfl,qe,q⟩
 ·exact .inl ⟨ty,hk,ks,qe⟩
 refine .inr ⟨n,rfl,qe,fun p hp=>?_⟩
 obtain ⟨hm,hn⟩:=Zet hp
 have hE:=hB.en p hm
 obtain ⟨n',s,d,f,m,he⟩:∃ n' s d f m,p.1=.born n' s d f m:=by
  cases e:p.1 with
  | born n' s d f m=>exact ⟨n',s,d,f,m,rfl⟩
  | _=>rw [e] at hn; cases hn
 rw [he] at hE
 exact ⟨p.2,_,_,_,rfl,rfl,hE,Zaf (j:=3) rfl,q p hp n' s d f m he⟩
theorem Ze9 (T:Tx K w mg) (Zdm:ZeO P base T) (Zbg:Zdl P base T):Zdk P base T:=by
 refine Fun.okX (k:=2) T.ZaS.F Ze1 (fun vs H Q E h=>h.1) (fun cdv A outer s H vs Q E hr h=>?_)
 obtain ⟨-,h⟩:=h
 obtain ⟨v,n,s,d,B,rfl,hv,kn,q⟩:=h
 refine ⟨_,(Zah (Zax (Zqt (Zbz Zcg (pv 1) Zaw (Zau _)) (Zdw (Zec (Zbz Zcg (ZaE (pv 0) T.cl_Book T.ZbS.me Zdm (hr.mono (by decide)) T.ZbS.b .nil ZbT (Zaa (pv 1) Zac)) (pv 2) (Zau _)) (Zdw (Zbz Zmt (ZaE (pv 0) T.cl_Book T.ZaO.me Zbg (hr.mono (by decide)) T.ZaO.b .nil ZbT (Zaa (pv 1) Zac)) (pv 3) (Zau _)))))))),?_⟩
 obtain ⟨b,dx,k,bi,li,ti,su,rfl,hB⟩:=id hv
 refine ⟨_,rfl,rfl,_,rfl,?_⟩
 by_cases hn:n=""
 ·have e:ZmK B n s d=true:=by unfold ZmK; rw [decide_eq_true hn]; rfl
  rw [e] at q
  exact Zbe (by rw [Zcj]; exact decide_eq_true hn) q
 refine ZaB (by rw [Zcj]; exact decide_eq_false hn) ?_
 have e0:ZmK B n s d=(decide (Zn7 B n=s)&&decide (Zfn B n<d)):=by unfold ZmK; rw [decide_eq_false hn]; rfl
 rw [e0] at q
 refine ⟨_,rfl,b,dx,_,rfl,hB.ob,rfl,_,rfl,rfl,.ref b,.str n,B,rfl,hv,.inr ⟨n,rfl,fun no=>absurd no (kn hn),fun p hp n' s' d' f m he=>?_⟩⟩
 rw [Zl7 hp he] at q
 refine ⟨_,rfl,rfl,_,rfl,?_⟩
 by_cases hs:s'=s
 ·rw [decide_eq_true hs,Bool.true_and] at q
  refine Zbe (by rw [Zcj]; exact decide_eq_true hs) ?_
  refine ⟨_,rfl,b,dx,_,rfl,hB.ob,rfl,_,rfl,rfl,.ref b,.str n,B,rfl,hv,.inr ⟨n,rfl,fun no=>absurd no (kn hn),fun p2 hp2 n2 s2 d2 f2 m2 he2=>?_⟩⟩
  rw [Zhc hp2 he2] at q
  exact ⟨_,rfl,_,_,rfl,rfl,q⟩
 ·rw [decide_eq_false hs,Bool.false_and] at q
  exact ZaB (by rw [Zcj]; exact decide_eq_false hs) q
theorem Zkj (T:Tx K w mg) (ZcP:Zf8 P base T) (ZeI:Zjf P base T) (Zbg:Zdl P base T) (ZbU:Zdk P base T):ZhF P base T:=by
 refine Fun.okX (k:=3) T.ZcC.F Zgv (fun vs H Q E h=>h.1) (fun cdv A outer s H vs Q E hr h=>?_)
 obtain ⟨-,h⟩:=h
 obtain ⟨v,x,B,e,rfl,hv,hx,kn,q⟩:=h
 refine ⟨_, (Zae (Za8 (Zaq Zcg (Zar Zao (pv 1) Zad (fun _ _ => rfl)) Zaw (Zau _)) (Zah (Zax (Zec (ZaE (pv 0) T.cl_Book T.ZaS.me ZbU (hr.mono (by decide)) T.ZaS.b .nil ZbT (Zaa (Zar Zao (pv 1) Zad (fun _ _ => rfl)) (Zaa Zaw (Zaa (Zar Zao (pv 1) Zad (fun _ _ => rfl)) Zac)))) (Zdw (ZaE (pv 0) T.cl_Book T.ZaS.me ZbU (hr.mono (by decide)) T.ZaS.b .nil ZbT (Zaa (Zar Zao (pv 1) Zad (fun _ _ => rfl)) (Zaa Zaw (Zaa (Zar Zao (pv 1) Zad (fun _ _ => rfl)) Zac)))))))) Zay)
   (Zae (ZaC (i:=2) Zgv.nd rfl (Or.inl rfl) (Zas ZcP (hr.mono (by decide)) (by rfl) T.ZbP.m T.ZbP.F.kp T.ZbP.b .nil Zai (Zaa (pv 1) Zac)))
   (Zae (Za8 (PW.pt (Zfo (Zaq Zcg (Zaz ZaN (by rfl) T.n_len Zcu (Zaa (pv 2) Zac)) Zad (Zau _)) (Zew (Zaq Zcg (Zar ZaW (pv 2) Zad (fun _ _=>rfl)) (Zar ZaW (pv 2) Zad (fun _ _=>rfl)) (Zau _))))) (Zah (Zax Zeu)) Zay)
   (Zae (Za8 (PW.pt (Zfo (Zaq Zcg (Zar Zao (pv 1) Zad (fun _ _=>rfl)) Zaw (Zau _)) (Zew (Zaq ZnF (ZaE (pv 0) T.cl_Book T.ZaO.me Zbg (hr.mono (by decide)) T.ZaO.b .nil ZbT (Zaa (Zar Zao (pv 1) Zad (fun _ _=>rfl)) Zac)) (ZaE (pv 0) T.cl_Book T.ZaO.me Zbg (hr.mono (by decide)) T.ZaO.b .nil ZbT (Zaa (Zar Zao (pv 1) Zad (fun _ _=>rfl)) Zac)) (Zau _))))) (Zah (Zax Zeu)) Zay)
   (Zah (Zax (Zaz (Zjz rfl) (by rfl) T.n_all ZmZ (Zaa (Zb6 rfl (Za5 (N:=["name","entry","self"]) ["self","entry"] [none,some 1,some 0] rfl (by decide +kernel) (by decide +kernel) (by rfl) (by rfl) (by rfl) (by rfl) (by rfl)) (Zbv (pv 2)) (fun _ _ _=>(ZaF (i:=0) Zts rfl (Or.inl rfl))) (fun _ _ _=>Ze4) (fun _ _ _=>(Zbz ZnF (Zas ZeI (hr.mono (by decide)) (by rfl) T.ZcI.m T.ZcI.F.kp T.ZcI.b .nil Zai (Zaa (pv 1) Zac)) (ZaE (pv 2) T.cl_Book T.ZaO.me Zbg (hr.mono (by decide)) T.ZaO.b .nil Zai (Zaa (pv 0) Zac)) (Zau _)))) Zac)))))))),?_⟩
 obtain ⟨b,dx,k,bi,li,ti,su,rfl,hB⟩:=id hv
 obtain ⟨a,rfl,hE⟩:=id hx
 by_cases hb:e.isBorn=true
 ·cases e with
  | born n s d f m =>
   have kf:f≠""->Known B f:=fun h=>kn f (by simp [Ent.named,h])
   have km:m≠""->Known B m:=fun h=>kn m (by simp [Ent.named,h])
   have q1:=q _ (Same.refl H)
   have ef:Zhm B (.born n s d f m)=(ZmK B f "he" d&&ZmK B m "she" d):=rfl
   rw [ef] at q1
   refine ⟨_,rfl,a,_,_,_,rfl,rfl,hE,Zaf (j:=0) rfl,rfl,_,rfl,Zbe (by decide +kernel) ⟨_,rfl,b,dx,_,rfl,hB.ob,rfl,_,rfl,a,_,_,_,rfl,rfl,hE,Zaf (j:=4) rfl,_,rfl,a,_,_,_,rfl,rfl,hE,Zaf (j:=3) rfl,rfl,.ref b,f,"he",d,B,rfl,hv,kf,_,rfl,ZmQ (fun h1=>?_) (fun h1=>?_)⟩⟩
   ·rw [h1,Bool.true_and] at q1
    exact ⟨_,rfl,b,dx,_,rfl,hB.ob,rfl,_,rfl,a,_,_,_,rfl,rfl,hE,Zaf (j:=5) rfl,_,rfl,a,_,_,_,rfl,rfl,hE,Zaf (j:=3) rfl,rfl,.ref b,m,"she",d,B,rfl,hv,km,q1⟩
   ·rw [h1,Bool.false_and] at q1
    exact q1
  | _=>cases hb
 replace hb:=Bool.eq_false_iff.mpr hb
 rw [ZfK hb] at q
 have w0:∃ w:Str,(e.row.map kV)[0]?=some (.str w)∧w≠"born":=by
  cases e with
  | born=>cases hb
  | _=>exact ⟨_,rfl,by decide +kernel⟩
 obtain ⟨w,hw,hwb⟩:=w0
 refine ⟨_,rfl,a,_,_,_,rfl,rfl,hE,Zaf hw,rfl,_,rfl,ZaB (by rw [Zcj]; exact decide_eq_false hwb) ?_⟩
 refine ⟨_,rfl,rfl,.ref a,e,rfl,hx,fun H1 D s1 nD hD=>?_⟩
 dsimp only [ZbE]
 refine ZdI (fun σ H2=>σ=[some (.ref b),some (.ref a),some (.ref D)]∧H2=H1∧e.same=false) (fun nx rest=>?_) (fun σ H2 hJ=>?_)
 ·cases e with
  | born=>cases hb
  | dead n d =>
   exact ⟨_,rfl,D,_,rfl,.inl hD,rfl,_,rfl,ZaB rfl (Zc8 (rest _ _ ⟨rfl,rfl,rfl⟩))⟩
  | _ =>
   refine ⟨_,rfl,D,_,rfl,.inl hD,rfl,_,rfl,Zbe rfl ⟨_,rfl,D,_,_,_,rfl,rfl,hD,Zaf (j:=0) rfl,_,rfl,D,_,_,_,rfl,rfl,hD,Zaf (j:=1) rfl,rfl,_,rfl,?_⟩⟩
   refine ZmQ (fun h1=>?_) (fun h1=>rest _ _ ⟨rfl,rfl,?_⟩)
   ·have q1:=q _ s1
    rw [Zcj] at h1
    simp only [Ent.same,h1,Bool.not_true,Bool.false_and] at q1
    exact q1
   ·rw [Zcj] at h1
    exact h1
 obtain ⟨rfl,rfl,hsame⟩:=hJ
 have hv2:=hv.mono s1
 have hB2:=hB.mono s1
 have hE2:=s1.sqt hE
 have kn2:∀ n∈e.named,∀ {P:Prop},ZaD n B.kept=none->P:=fun n h _ no=>absurd no (kn n h)
 rw [hsame] at q
 refine ZdI (fun σ H3=>σ=[some (.ref b),some (.ref a),some (.ref D)]∧H3=H2∧e.early B=false) (fun nx rest=>?_) (fun σ H3 hJ=>?_)
 ·cases e with
  | born=>cases hb
  | taken c t d =>
   refine ⟨_,rfl,a,_,_,_,rfl,rfl,hE2,Zaf (j:=0) rfl,rfl,_,rfl,Zbe (by decide +kernel) ?_⟩
   refine ⟨_,rfl,b,dx,_,rfl,hB2.ob,rfl,_,rfl,a,_,_,_,rfl,rfl,hE2,Zaf (j:=2) rfl,rfl,.ref b,.str t,B,rfl,hv2,.inr ⟨t,rfl,kn2 t (by simp [Ent.named]),fun p hp n' s' d' f m he=>?_⟩⟩
   refine ⟨_,rfl,b,dx,_,rfl,hB2.ob,rfl,_,rfl,a,_,_,_,rfl,rfl,hE2,Zaf (j:=1) rfl,rfl,.ref b,.str c,B,rfl,hv2,.inr ⟨c,rfl,kn2 c (by simp [Ent.named]),fun p2 hp2 n2 s2 d2 f2 m2 he2=>?_⟩⟩
   have e1:=Zhc hp he
   have e2:=Zhc hp2 he2
   refine ⟨_,_,rfl,rfl,_,rfl,ZmQ (fun h1=>?_) (fun h1=>rest _ _ ⟨rfl,rfl,?_⟩)⟩
   ·have q1:=q _ s1
    have e3:(Ent.taken c t d).early B=true:=by
     show decide (Zfn B c≤Zfn B t)=true
     rw [e1,e2]
     exact h1
    rw [e3] at q1
    exact q1
   ·show decide (Zfn B c≤Zfn B t)=false
    rw [e1,e2]
    exact h1
  | _=>exact ⟨_,rfl,a,_,_,_,rfl,rfl,hE2,Zaf (j:=0) rfl,rfl,_,rfl,ZaB (by decide +kernel) (Zc8 (rest _ _ ⟨rfl,rfl,rfl⟩))⟩
 obtain ⟨rfl,rfl,hearly⟩:=hJ
 rw [hearly] at q
 refine ⟨_,rfl,D,rfl,⟨_,hD⟩,ZeG (e.named.map fun n=>V.bl (decide (Zfn B n≤e.day))) ?len (fun σ=>∃ v,σ=[v,some (.ref a),some (.ref b)]) ⟨_,rfl⟩ (fun i H3 hi sm=>?go) (fun H3 sm=>?stop) (fun i σ H3 x H4 y hy hσ sm hx2 C hC=>?step) (fun D2 H3 nD2 sm hD2=>?fin)⟩
 case len =>
  refine Zaj ?_
  rw [List.length_map]
  cases e with
  | born=>cases hb
  | _=>exact Nat.le_of_ble_eq_true rfl
 case go =>
  have hi':i<(e.named.map V.str).length:=by rw [List.length_map] at hi ⊢; exact hi
  exact ⟨_,_,sm.sql hD,List.getElem?_eq_getElem hi'⟩
 case stop=>exact ⟨_,sm.sql hD,by simp⟩
 case step =>
  obtain ⟨v,rfl⟩:=hσ
  obtain ⟨rfl,hx3⟩:=hx2
  have e1:=hx3 _ (sm.sql hD)
  rw [List.getElem?_map] at e1 hy
  obtain ⟨n,hn,rfl⟩:=Option.map_eq_some_iff.mp e1
  rw [hn] at hy
  obtain rfl:V.bl (decide (Zfn B n≤e.day))=y:=Option.some.inj hy
  have hB3:=hB2.mono sm
  refine ⟨_,rfl,rfl,.ref a,e,rfl,hx.mono (s1.trans sm),_,rfl,b,dx,_,rfl,hB3.ob,rfl,_,rfl,rfl,.ref b,.str n,B,rfl,hv2.mono sm,.inr ⟨n,rfl,kn2 n (List.mem_of_getElem? hn),fun p hp n' s' d' f m he=>⟨_,_,rfl,rfl,?_⟩⟩⟩
  rw [Zhc hp he] at hC
  exact hC _ _ ⟨_,rfl⟩ (Same.refl _)
 case fin =>
  refine ⟨D2,e.named.map fun n=>decide (Zfn B n≤e.day),rfl,by rw [hD2,List.map_map]; rfl,?_⟩
  have q1:=q _ (s1.trans sm)
  rw [List.all_map]
  exact q1
theorem Zh8 (T:Tx K w mg) (Zgm:ZiG P base T) (ZcP:Zf8 P base T) (ZeF:Zje P base T) (Zat:Zbl P base T) (Ze6:ZhF P base T):ZfO P base T:=by
 refine Fun.okX (k:=4) T.Zb0.F ZeM (fun vs H Q E h=>h.1) (fun cdv A outer s H vs Q E hr h=>?_)
 obtain ⟨-,h⟩:=h
 obtain ⟨v,x,B,e,rfl,hv,hx,hok,no,q⟩:=h
 refine ⟨_, (Zae (Za8 (Zdx (ZcO (Zas Zgm (hr.mono (by decide)) (by rfl) T.Zcz.m T.Zcz.F.kp T.Zcz.b .nil Zai (Zaa (pv 1) Zac)))) (Zah (Zdh (by rfl) T.m_NoEntry T.x_NoEntry EB rfl Zdj (Zaa Zaw Zac))) Zay)
   (Zae (Za8 (Zaq ZnF (Zaz ZmL (by rfl) T.n_len Zcu (Zaa (Zcv (pv 0) rfl) Zac)) (Zfi (v:=.int 400) (by rfl) T.m_MOST_ENTRIES ⟨_,rfl⟩) (Zau _)) (Zah (Zdh (by rfl) T.m_Full T.x_Full EB rfl Zdj (Zaa Zaw Zac))) Zay)
   (Zae (Za8 (PW.pt (Zfo (Zaq Zcg (Zar Zao (pv 1) Zad (fun _ _=>rfl)) Zaw (Zau _)) (Zew (Zaq ZnF (Zaz ZmU (by rfl) T.n_len Zcu (Zaa (Zcv (pv 0) rfl) Zac)) (Zfi (v:=.int 60) (by rfl) T.m_MOST_PEOPLE ⟨_,rfl⟩) (Zau _))))) (Zah (Zdh (by rfl) T.m_Full T.x_Full EB rfl Zdj (Zaa Zaw Zac))) Zay)
   (Zae (Zd7 PassesOwn.leaving rfl (Zbv (Zas ZcP (hr.mono (by decide)) (by rfl) T.ZbP.m T.ZbP.F.kp T.ZbP.b .nil Zai (Zaa (pv 1) Zac))) (ZaF (i:=2) ZeM.nd rfl (Or.inl rfl))
    (Zah (Za9 (ZaE (pv 0) T.cl_Book T.Zav.me Zat (hr.mono (by decide)) T.Zav.b .nil ZbT (Zaa (pv 2) Zac)))))
   (Zae (Za8 (ZnP (Zre (Zd9 hr) (Zas ZeF (hr.mono (by decide)) (by rfl) T.ZcE.m T.ZcE.F.kp T.ZcE.b .nil Zai (Zaa (pv 1) Zac)) (Zcv (pv 0) rfl))) (Zah (Zdh (by rfl) T.m_Twice T.x_Twice EB rfl Zdj (Zaa Zaw Zac))) Zay)
   (Zah (Za8 (Zdx (ZcO (ZaE (pv 0) T.cl_Book T.ZcC.me Ze6 (hr.mono (by decide)) T.ZcC.b .nil ZbT (Zaa (pv 1) Zac)))) (Zah (Zdh (by rfl) T.m_NoFit T.x_NoFit EB rfl Zdj (Zaa Zaw Zac))) Zay))))))),?_⟩
 obtain ⟨b,dx,k,bi,li,ti,su,rfl,hB⟩:=id hv
 obtain ⟨h400,h60,kn',h1,hf⟩:=ZlP no
 obtain ⟨a,rfl,hE⟩:=id hx
 refine ⟨_,rfl,rfl,.ref a,rfl,.inr ⟨e.row.map ZrK,hok.tv hE,e.row_len,fun H1 s1=>⟨_,rfl,?_⟩⟩⟩
 rw [hok.en]
 have hB1:=hB.mono s1
 have hE1:=s1.sqt hE
 have hlen:B.keptD.length=B.kept.length:=List.length_map ..
 refine Zc8 ⟨_,rfl,b,T.c_Book,dx,_,_,rfl,hB1.ob,T.cl_Book,T.na_Book_kept,Zhh,k,_,rfl,hB1.ke,_,_,rfl,rfl,_,rfl,ZaB (decide_eq_false (by rw [hlen]; omega)) ?_⟩
 dsimp only [ZnC]
 refine ZdI (fun σ H2=>σ=[some (.ref b),some (.ref a),none]∧H2=H1) (fun nx rest=>?_) (fun σ H2 hJ=>?_)
 ·cases e with
  | born n s d f m=>exact ⟨_,rfl,a,_,_,_,rfl,rfl,hE1,Zaf (j:=0) rfl,rfl,_,rfl,Zbe (by decide +kernel) ⟨_,rfl,b,T.c_Book,dx,_,_,rfl,hB1.ob,T.cl_Book,T.na_Book_births,Zem,bi,_,rfl,hB1.bi,_,_,rfl,rfl,_,rfl,ZaB (decide_eq_false (by have:=h60 rfl; omega)) (rest _ _ ⟨rfl,rfl⟩)⟩⟩
  | _=>exact ⟨_,rfl,a,_,_,_,rfl,rfl,hE1,Zaf (j:=0) rfl,rfl,_,rfl,ZaB (by decide +kernel) (Zc8 (rest _ _ ⟨rfl,rfl⟩))⟩
 obtain ⟨rfl,rfl⟩:=hJ
 refine ⟨_,rfl,rfl,.ref a,e,rfl,hx.mono s1,fun H2 D s2 nD hD=>⟨D,rfl,⟨_,hD⟩,ZfN (xs:=e.named.map V.str) (fun i σ H3=>(∃ v,σ=[some (.ref b),some (.ref a),v])∧Same H2 H3) ⟨⟨_,rfl⟩,Same.refl _⟩ ?sq ?turn ?done⟩⟩
 case sq =>
  rintro i σ H3 hi ⟨_,s3⟩
  exact s3.sql hD
 case turn =>
  rintro i x σ H3 hx3 ⟨⟨v,rfl⟩,s3⟩
  rw [List.getElem?_map] at hx3
  obtain ⟨n,hn,rfl⟩:=Option.map_eq_some_iff.mp hx3
  have sa:=s1.trans (s2.trans s3)
  have hB3:=hB.mono sa
  exact ⟨_,rfl,b,dx,_,rfl,hB3.ob,rfl,_,rfl,rfl,.ref b,.str n,B,rfl,hv.mono sa,.inr ⟨n,rfl,fun no=>absurd no (kn' n (List.mem_of_getElem? hn)),fun p hp=>⟨⟨_,rfl⟩,s3⟩⟩⟩
 case done =>
  rintro σ H3 ⟨⟨v,rfl⟩,s3⟩
  have sa:=s1.trans (s2.trans s3)
  refine ⟨_,rfl,rfl,.ref a,e,rfl,hx.mono sa,fun H4 p s4 np hp=>?_⟩
  have sb:=sa.trans s4
  have hB4:=hB.mono sb
  have dg:=DGet.t hB4.ke hp
  rw [h1] at dg
  refine ⟨_,rfl,b,T.c_Book,dx,_,_,rfl,hB4.ob,T.cl_Book,T.na_Book_kept,Zhh,k,_,rfl,dg,_,rfl,Zc8 ?_⟩
  refine ⟨_,rfl,b,dx,_,rfl,hB4.ob,rfl,_,rfl,rfl,.ref b,.ref a,B,e,rfl,hv.mono sb,hx.mono sb,kn',fun H5 s5=>⟨_,rfl,?_⟩⟩
  rw [hf]
  exact Zc8 (q _ (sb.trans s5))
theorem ZkN (T:Tx K w mg)  : ZdQ P base T:=by
 refine Fun.okX (k:=0) T.ZaK.F ZjO (fun vs H Q E h=>h.1) (fun cdv A outer s H vs Q E hr h=>?_)
 obtain ⟨-,h⟩:=h
 obtain ⟨b,dx,k,bi,li,ti,su,B,l,n,m,rfl,hB,hl,hz,q⟩:=h
 refine ⟨_,(Zah (Zgq (Zd9 hr) (Zcv (pv 0) rfl) (Zby (Zaa (pv 1) (Zaa (pv 2) Zac))) (Zaz (Zgt K) (by rfl) T.n_sorted ZfQ (Zaa (ZaI Zio (Zfm (Zd9 hr) (Zcv (pv 0) rfl) (Zby (Zaa (pv 1) (Zaa (pv 2) Zac))) (ZbL Zac) ⟨rfl,rfl,rfl,rfl⟩) (ZbL (Zaa (pv 3) Zac))) Zac)) rfl)),?_⟩
 refine ⟨_,rfl,b,T.c_Book,dx,_,_,rfl,hB.ob,T.cl_Book,T.na_Book_links,ZgV,li,rfl,.inr ⟨_,.inl hB.li⟩,_,rfl,_,rfl,few rfl,fun t nt=>⟨few rfl,fun z nz=>?_⟩⟩
 have s1:=Zag (o:=.tup [.str l,.str n]) nt
 have s2:=Zag (o:=.lst []) nz
 have s3:=s1.trans s2
 have hz0:(upd (upd H t (.tup [.str l,.str n])) z (.lst [])) z=some (.lst []):=Zab
 have dg:=DGet.t (k:=two (l,n)) (s3 _ _ hB.li) (s2 _ _ (Zab (o:=.tup [.str l,.str n])))
 generalize upd (upd H t (.tup [.str l,.str n])) z (.lst [])=H2 at *
 rw [show B.linksD=B.links.map fun q=>(two q.1,V.ref q.2.1) from rfl,Zja] at dg
 have rest:∀ (D:Addr) (H3:Hp),Same H H3->H D=none->H3 D=some (.lst ((ZaL (Zb4 B l n++[m])).map V.str))->ZsN K (Zrv 0) "links" (L2.start ["self","letter","begin","end"] [.ref b,.str l,.str n,.str m]) H3 fun x H4=>(ZsR (Zpj (Zrv 1) (Zpj (Zrv 2) Zrb))) (L2.start ["self","letter","begin","end"] [.ref b,.str l,.str n,.str m]) H4 fun y H5=>∃ a H6,x=.ref a∧DPut H5 a y (.ref D) H6∧Q .non H6:=by
  intro D H3 sA nD0 hD
  have hB3:=hB.mono sA
  refine ⟨_,rfl,b,T.c_Book,dx,_,_,rfl,hB3.ob,T.cl_Book,T.na_Book_links,ZgV,_,rfl,_,rfl,few rfl,fun t2 nt2=>?_⟩
  have sB:=Zag (o:=.tup [.str l,.str n]) nt2
  have hB4:=hB3.mono sB
  refine ⟨li,_,rfl,DPut.t (k:=two (l,n)) hB4.li Zab ?_,?_⟩
  ·rw [show B.linksD.length=B.links.length from List.length_map ..]
   exact Zaj (by omega)
  rw [show B.linksD=B.links.map fun q=>(two q.1,V.ref q.2.1) from rfl,ZgW (f:=two) (fun _ _=>Zfj) (fun p:Addr × List Str=>V.ref p.1) B.links (l,n) (D,ZaL (Zb4 B l n++[m]))]
  refine q _ D (hB4.links fun q hq=>?_) ((But.of [li] (sA.trans sB)).trans (But.put hB4.li (by simp))) nD0
  rcases ZgS hq with rfl | hq
  ·exact sB _ _ hD
  ·exact hB4.ll q hq
 refine ⟨_,dg,?_⟩
 cases hk:Za3 (l,n) B.links with
 | none =>
   have e:Zb4 B l n=[]:=by unfold Zb4; rw [hk]; rfl
   have hX:H2 z=some (.lst ((Zb4 B l n).map V.str)):=by rw [e]; exact hz0
   refine ⟨_,rfl,few rfl,fun y ny=>⟨z,y,_,_,rfl,rfl,(Zak (Zap hX ny)).trans hX,Zab,?len,fun p np=>⟨p,Zb4 B l n++[m],rfl,.of (by rw [Zab,List.map_append]; rfl),?len2,fun D zs nD perm so=>?go⟩⟩⟩
   case len=>rw [List.length_map]; exact Nat.le_of_lt (Zaj (by show _+1≤1000; omega))
   case len2=>rw [List.length_append]; show _+1<64; omega
   have s4:=(s3.trans (Zag ny)).trans ((Zag np).trans (Zag (o:=.lst (zs.map V.str)) nD))
   have hDD:(upd (upd (upd H2 y (.lst [V.str m])) p (.lst ((Zb4 B l n).map V.str++[V.str m]))) D (.lst (zs.map V.str))) D=some (.lst (zs.map V.str)):=Zab
   rw [ZgT perm so] at hDD s4 ⊢
   exact rest D _ s4 (Zbq ((s3.trans (Zag ny)).trans (Zag np)) nD) hDD
 | some x =>
   have e:Zb4 B l n=x.2:=by unfold Zb4; rw [hk]; rfl
   obtain ⟨y0,hy0,ey⟩:=Zf9 hk
   have hl2:=hB.ll y0 hy0
   rw [ey] at hl2
   have hX:H2 x.1=some (.lst ((Zb4 B l n).map V.str)):=by rw [e]; exact (s3 _ _ hl2)
   refine ⟨_,rfl,few rfl,fun y ny=>⟨x.1,y,_,_,rfl,rfl,(Zak (Zap hX ny)).trans hX,Zab,?lenb,fun p np=>⟨p,Zb4 B l n++[m],rfl,.of (by rw [Zab,List.map_append]; rfl),?len2b,fun D zs nD perm so=>?gob⟩⟩⟩
   case lenb=>rw [List.length_map]; exact Nat.le_of_lt (Zaj (by show _+1≤1000; omega))
   case len2b=>rw [List.length_append]; show _+1<64; omega
   have s4:=(s3.trans (Zag ny)).trans ((Zag np).trans (Zag (o:=.lst (zs.map V.str)) nD))
   have hDD:(upd (upd (upd H2 y (.lst [V.str m])) p (.lst ((Zb4 B l n).map V.str++[V.str m]))) D (.lst (zs.map V.str))) D=some (.lst (zs.map V.str)):=Zab
   rw [ZgT perm so] at hDD s4 ⊢
   exact rest D _ s4 (Zbq ((s3.trans (Zag ny)).trans (Zag np)) nD) hDD
theorem Zfy (T:Tx K w mg) (ZaX:ZdQ P base T):ZdE P base T:=by
 refine Fun.okX (k:=1) T.Zbj.F ZfT (fun vs H Q E h=>h.1) (fun cdv A outer s H vs Q E hr h=>?_)
 obtain ⟨-,h⟩:=h
 obtain ⟨b,dx,k,bi,li,ti,su,B0,B,n,s,d,f,m,a,rfl,hk,hb,hbi,no,hl0,hE,hB,hz,hc,q⟩:=h
 refine ⟨_, (Zae (Zgq (Zd9 hr) (Zcv (pv 0) rfl) (Zar Zao (pv 1) Zad (fun _ _ => rfl)) (pv 1) rfl)
   (Zae (Za8 (Zaq Zid (Zar Zao (pv 1) Zad (fun _ _=>rfl)) Zaw (Zau _)) (Zae (Za9 (ZaE (pv 0) T.cl_Book T.ZaK.me ZaX (hr.mono (by decide)) T.ZaK.b .nil Zai (Zaa Zaw (Zaa (Zar Zao (pv 1) Zad (fun _ _=>rfl)) (Zaa (Zar Zao (pv 1) Zad (fun _ _=>rfl)) Zac)))))
   (Zah (Za9 (ZaE (pv 0) T.cl_Book T.ZaK.me ZaX (hr.mono (by decide)) T.ZaK.b .nil Zai (Zaa Zaw (Zaa (Zar Zao (pv 1) Zad (fun _ _=>rfl)) (Zaa (Zar Zao (pv 1) Zad (fun _ _=>rfl)) Zac))))))) Zay)
   (Zah (Za8 (Zaq Zid (Zar Zao (pv 1) Zad (fun _ _=>rfl)) Zaw (Zau _)) (Zae (Za9 (ZaE (pv 0) T.cl_Book T.ZaK.me ZaX (hr.mono (by decide)) T.ZaK.b .nil Zai (Zaa Zaw (Zaa (Zar Zao (pv 1) Zad (fun _ _=>rfl)) (Zaa (Zar Zao (pv 1) Zad (fun _ _=>rfl)) Zac)))))
   (Zah (Za9 (ZaE (pv 0) T.cl_Book T.ZaK.me ZaX (hr.mono (by decide)) T.ZaK.b .nil Zai (Zaa Zaw (Zaa (Zar Zao (pv 1) Zad (fun _ _=>rfl)) (Zaa (Zar Zao (pv 1) Zad (fun _ _=>rfl)) Zac))))))) Zay)))),?_⟩
 have hb0:Zdv (Bk.bornD B0) (.inr n:Key)=none:=by rw [ZjE,no]; rfl
 refine ⟨_,rfl,_,rfl,b,T.c_Book,dx,_,_,rfl,hb,T.cl_Book,T.na_Book_births,Zem,_,rfl,a,_,_,_,rfl,rfl,hE,Zaf (j:=1) rfl,bi,_,rfl,DPut.k (k:=.inr n) hbi (Zaj (Nat.le_trans (Nat.le_trans (ZnL B0) hl0) (by decide))),?_⟩
 rw [Zjp _ hb0,← Zos B0 n s d f m a,← hk]
 have bt0:But [bi,li] H (upd H bi (.dK (Bk.bornD B.kept))):=But.put hbi (by simp)
 generalize upd H bi (.dK (Bk.bornD B.kept))=H3 at *
 have hmem:(Ent.born n s d f m,a)∈B.kept:=by rw [hk]; simp
 dsimp only [ZnC]
 refine ZdI (fun σ H4=>σ=[some (.ref b),some (.ref a)]∧∃ ls,BkAt K T.c_Book H4 b dx k bi li ti su { B with links:=ls }∧(∀ c,lk ls c=(if f="" then lk B.links else Zb2 (Zb2 (lk B.links) ("F",n) f) ("f",f) n) c)∧ls.length≤B.links.length+2∧But [bi,li] H H4∧Grows H B.links ls) (fun nx rest=>?_) (fun σ H4 hJ=>?_)
 ·have hE3:=hB.en _ hmem
  refine ⟨_,rfl,a,_,_,_,rfl,rfl,hE3,Zaf (j:=4) rfl,rfl,_,rfl,?_⟩
  by_cases f0:f=""
  ·refine ZaB (by show (!decide (V.str f=V.str ""))=false; rw [Zcj,decide_eq_true f0]; rfl) (rest _ _ ⟨rfl,B.links,hB,fun c=>by rw [if_pos f0],by omega,bt0,Grows.refl _ _⟩)
  have ⟨ls,hls,hB4,hF⟩:∃ ls,ls=B.links∧BkAt K T.c_Book H3 b dx k bi li ti su { B with links:=ls }∧∀ c,lk ls c=lk B.links c:=⟨B.links,rfl,hB,fun c=>rfl⟩
  have hz2:ls.length≤890:=by rw [hls]; exact hz
  have hz3:ls.length≤B.links.length:=by rw [hls]; exact Nat.le_refl _
  refine Zbe (by show (!decide (V.str f=V.str ""))=true; rw [Zcj,decide_eq_false f0]; rfl) ?_
  have hE4:=hB4.en _ hmem
  refine ⟨_,rfl,b,dx,_,rfl,hB4.ob,rfl,_,rfl,a,_,_,_,rfl,rfl,hE4,Zaf (j:=1) rfl,_,rfl,a,_,_,_,rfl,rfl,hE4,Zaf (j:=4) rfl,rfl,b,dx,k,bi,li,ti,su,{ B with links:=ls },"F",n,f,rfl,hB4,?p1,?p2,fun H5 D5 hB5 bt5 nD5=>?p3⟩
  case p1=>rw [Zmg,hF]; exact hc _
  case p2=>show ls.length≤900; omega
  have hE5:=hB5.en _ hmem
  refine ⟨_,rfl,b,dx,_,rfl,hB5.ob,rfl,_,rfl,a,_,_,_,rfl,rfl,hE5,Zaf (j:=4) rfl,_,rfl,a,_,_,_,rfl,rfl,hE5,Zaf (j:=1) rfl,rfl,b,dx,k,bi,li,ti,su,_,"f",f,n,rfl,hB5,?p4,?p5,fun H6 D6 hB6 bt6 nD6=>?p6⟩
  case p4 =>
   rw [Zmg]
   show (lk (Zba ls _ (D5,ZaL (lk ls ("F",n)++[f]))) _).length≤61
   rw [Zfw,Zfp (show Str.ofString "f"≠Str.ofString "F" by decide +kernel),hF]
   exact hc _
  case p5 =>
   have:=Zcd ls ("F",n) (D5,ZaL (lk ls ("F",n)++[f]))
   show (Zba ls _ (D5,ZaL (lk ls ("F",n)++[f]))).length≤900
   omega
  refine rest _ _ ⟨rfl,_,hB6,fun c=>?_,?_,?_,((hls ▸ Grows.refl _ _:Grows H B.links ls).put (bt0.al _ nD5)).put (bt0.al _ (bt5.al _ nD6))⟩
  ·show lk (Zba (Zba ls ("F",n) (D5,ZaL (lk ls ("F",n)++[f]))) ("f",f) (D6,ZaL (lk (Zba ls ("F",n) (D5,ZaL (lk ls ("F",n)++[f]))) ("f",f)++[n]))) c=_
   rw [Zfw]
   rw [if_neg f0]
   exact Zc5 (fun c=>(Zfw ..).trans (Zc5 hF ..)) ..
  ·have a1:=Zcd ls ("F",n) (D5,ZaL (lk ls ("F",n)++[f]))
   have a2:=Zcd (Zba ls ("F",n) (D5,ZaL (lk ls ("F",n)++[f]))) ("f",f) (D6,ZaL (lk (Zba ls ("F",n) (D5,ZaL (lk ls ("F",n)++[f]))) ("f",f)++[n]))
   show (Zba (Zba ls ("F",n) (D5,ZaL (lk ls ("F",n)++[f]))) ("f",f) (D6,ZaL (lk (Zba ls ("F",n) (D5,ZaL (lk ls ("F",n)++[f]))) ("f",f)++[n]))).length≤_
   omega
  ·exact bt0.trans ((bt5.mono (by simp)).trans (bt6.mono (by simp)))
 obtain ⟨rfl,ls,hB4,hF,hl4,bt4,gr⟩:=hJ
 have hE3:=hB4.en _ hmem
 refine ⟨_,rfl,a,_,_,_,rfl,rfl,hE3,Zaf (j:=5) rfl,rfl,_,rfl,?_⟩
 by_cases m0:m=""
 ·refine ZaB (by show (!decide (V.str m=V.str ""))=false; rw [Zcj,decide_eq_true m0]; rfl) (q _ ls hB4 (fun c=>?_) (by omega) bt4 gr)
  unfold Zc2
  rw [if_pos m0]
  exact hF c
 ·have h1:∀ c:Str × Str,c.1≠"F"->c.1≠"f"->((if f="" then lk B.links else Zb2 (Zb2 (lk B.links) ("F",n) f) ("f",f) n) c).length≤61:=by
   intro c c1 c2
   by_cases f0:f=""
   ·rw [if_pos f0]; exact hc c
   ·rw [if_neg f0,Zfp c2,Zfp c1]; exact hc c
  refine Zbe (by show (!decide (V.str m=V.str ""))=true; rw [Zcj,decide_eq_false m0]; rfl) ?_
  have hE4:=hB4.en _ hmem
  refine ⟨_,rfl,b,dx,_,rfl,hB4.ob,rfl,_,rfl,a,_,_,_,rfl,rfl,hE4,Zaf (j:=1) rfl,_,rfl,a,_,_,_,rfl,rfl,hE4,Zaf (j:=5) rfl,rfl,b,dx,k,bi,li,ti,su,{ B with links:=ls },"M",n,m,rfl,hB4,?r1,?r2,fun H5 D5 hB5 bt5 nD5=>?r3⟩
  case r1=>rw [Zmg,hF]; exact (h1 _ (show Str.ofString "M"≠Str.ofString "F" by decide +kernel) (show Str.ofString "M"≠Str.ofString "f" by decide +kernel))
  case r2=>show ls.length≤900; omega
  have hE5:=hB5.en _ hmem
  refine ⟨_,rfl,b,dx,_,rfl,hB5.ob,rfl,_,rfl,a,_,_,_,rfl,rfl,hE5,Zaf (j:=5) rfl,_,rfl,a,_,_,_,rfl,rfl,hE5,Zaf (j:=1) rfl,rfl,b,dx,k,bi,li,ti,su,_,"m",m,n,rfl,hB5,?r4,?r5,fun H6 D6 hB6 bt6 nD6=>?r6⟩
  case r4 =>
   rw [Zmg]
   show (lk (Zba ls _ (D5,ZaL (lk ls ("M",n)++[m]))) _).length≤61
   rw [Zfw,Zfp (show Str.ofString "m"≠Str.ofString "M" by decide +kernel),hF]
   exact (h1 _ (show Str.ofString "m"≠Str.ofString "F" by decide +kernel) (show Str.ofString "m"≠Str.ofString "f" by decide +kernel))
  case r5 =>
   have:=Zcd ls ("M",n) (D5,ZaL (lk ls ("M",n)++[m]))
   show (Zba ls _ (D5,ZaL (lk ls ("M",n)++[m]))).length≤900
   omega
  refine q _ _ hB6 (fun c=>?_) ?_ ?_ ((gr.put (bt4.al _ nD5)).put (bt4.al _ (bt5.al _ nD6)))
  ·show lk (Zba (Zba ls ("M",n) (D5,ZaL (lk ls ("M",n)++[m]))) ("m",m) (D6,ZaL (lk (Zba ls ("M",n) (D5,ZaL (lk ls ("M",n)++[m]))) ("m",m)++[n]))) c=_
   rw [Zfw]
   unfold Zc2
   rw [if_neg m0]
   exact Zc5 (fun c=>(Zfw ..).trans (Zc5 hF ..)) ..
  ·have a1:=Zcd ls ("M",n) (D5,ZaL (lk ls ("M",n)++[m]))
   have a2:=Zcd (Zba ls ("M",n) (D5,ZaL (lk ls ("M",n)++[m]))) ("m",m) (D6,ZaL (lk (Zba ls ("M",n) (D5,ZaL (lk ls ("M",n)++[m]))) ("m",m)++[n]))
   show (Zba (Zba ls ("M",n) (D5,ZaL (lk ls ("M",n)++[m]))) ("m",m) (D6,ZaL (lk (Zba ls ("M",n) (D5,ZaL (lk ls ("M",n)++[m]))) ("m",m)++[n]))).length≤_
   omega
  ·exact bt4.trans ((bt5.mono (by simp)).trans (bt6.mono (by simp)))
theorem Zkh (T:Tx K w mg) (ZeX:Zhy P base T) (Zat:Zbl P base T):Zhu P base T:=by
 refine Fun.okX (k:=1) T.Zcx.F ZjK (fun vs H Q E h=>h.1) (fun cdv A outer s H vs Q E hr h=>?_)
 obtain ⟨-,h⟩:=h
 obtain ⟨v,x,y,B,rfl,hv,h⟩:=h
 refine ⟨_, (Zae (Za8 (Zdx (ZcO (Zas ZeX (hr.mono (by decide)) (by rfl) T.Zcl.m T.Zcl.F.kp T.Zcl.b .nil Zai (Zaa (pv 1) Zac)))) (Zah (Zdh (by rfl) T.m_NoWay T.x_NoWay EB rfl Zdj (Zaa Zaw Zac))) Zay)
   (Zae (Za9 (ZaE (pv 0) T.cl_Book T.Zav.me Zat (hr.mono (by decide)) T.Zav.b .nil ZbT (Zaa (pv 2) Zac)))
   (Zah (Zax (ZeB Zde (by rfl) T.n_list Zgc (Zaa (Zfm (Zd9 hr) (Zcv (pv 0) rfl) (Zby (Zaa (pv 1) (Zaa (pv 2) Zac))) (ZbL Zac) ⟨rfl,rfl,rfl,rfl⟩) Zac)))))),?_⟩
 obtain ⟨b,dx,k,bi,li,ti,su,rfl,hB⟩:=id hv
 rcases h with ⟨ty,hk,ks,qe⟩ | ⟨l,rfl,q1,q23⟩
 ·exact ⟨_,rfl,rfl,x,rfl,.inl ⟨ty,hk,ks,_,rfl,Zex ⟨few rfl,qe⟩⟩⟩
 refine ⟨_,rfl,rfl,.str l,rfl,.inr ⟨l,rfl,_,rfl,?_⟩⟩
 cases hl:ZmX l with
 | false=>exact Zex ⟨few rfl,q1 hl⟩
 | true =>
  refine Zc8 ⟨_,rfl,b,dx,_,rfl,hB.ob,rfl,_,rfl,rfl,.ref b,y,B,rfl,hv,?_⟩
  rcases q23 hl with ⟨ty,hk,ks,qe⟩ | ⟨n,rfl,q2,q3⟩
  ·exact .inl ⟨ty,hk,ks,qe⟩
  refine .inr ⟨n,rfl,q2,fun p hp=>?_⟩
  have kn:Known B n:=by unfold Known; rw [hp]; simp
  refine ⟨_,rfl,b,T.c_Book,dx,_,_,rfl,hB.ob,T.cl_Book,T.na_Book_links,ZgV,li,rfl,.inr ⟨_,.inl hB.li⟩,_,rfl,_,rfl,few rfl,fun t nt=>⟨few rfl,fun z nz=>?_⟩⟩
  have s1:=Zag (o:=.tup [.str l,.str n]) nt
  have s2:=Zag (o:=.lst []) nz
  have s3:=s1.trans s2
  have dg:=DGet.t (k:=two (l,n)) (s3 _ _ hB.li) (s2 _ _ (Zab (o:=.tup [.str l,.str n])))
  rw [show B.linksD=B.links.map fun q=>(two q.1,V.ref q.2.1) from rfl,Zja] at dg
  refine ⟨_,dg,?_⟩
  cases hk:Za3 (l,n) B.links with
  | none =>
   have e:Zb4 B l n=[]:=by unfold Zb4; rw [hk]; rfl
   rw [e] at q3
   exact ⟨z,[],rfl,.inl (.of Zab),fun D nD=>q3 kn _ D (s3.trans (Zag nD)) (Zbq s3 nD) Zab⟩
  | some x =>
   have e:Zb4 B l n=x.2:=by unfold Zb4; rw [hk]; rfl
   rw [e] at q3
   obtain ⟨y,hy,ey⟩:=Zf9 hk
   have hl2:=hB.ll y hy
   rw [ey] at hl2
   exact ⟨x.1,_,rfl,.inl (.of (s3 _ _ hl2)),fun D nD=>q3 kn _ D (s3.trans (Zag nD)) (Zbq s3 nD) Zab⟩
theorem Zik (T:Tx K w mg) (Zdz:Zhr P base T) (Zat:Zbl P base T):ZfC P base T:=by
 refine FunD.okX (k:=1) T.F_Book_stands Zdp (fun vs H Q E h=>h.1) (fun cdv A outer s H vs Q E hr h=>?_)
 obtain ⟨-,h⟩:=h
 obtain ⟨v,a,c,B,rfl,hv,ka,kc,hlen,q⟩:=h
 refine ⟨_, (Zae (Za9 (ZaE (pv 0) T.cl_Book T.Zav.me Zat (hr.mono (by decide)) T.Zav.b .nil ZbT (Zaa (pv 1) Zac)))
   (Zae (Za9 (ZaE (pv 0) T.cl_Book T.Zav.me Zat (hr.mono (by decide)) T.Zav.b .nil ZbT (Zaa (pv 2) Zac)))
   (Zae (ZaC (i:=4) Zdp.nd rfl (Or.inl rfl) (Zfm (Zd9 hr) (Zcv (pv 0) rfl) (Zas Zdz (hr.mono (by decide)) (by rfl) T.Zb7.m T.Zb7.F.kp T.Zb7.b .nil Zai (Zaa (pv 1) (Zaa (pv 2) Zac))) Zi1 ⟨rfl,rfl,rfl,rfl⟩))
   (Zae (Zqw (Zgg (i:=5) rfl  Zdp.nd rfl (Or.inl rfl) (Za5 (N:=["tied_on","day"]) ["day"] [none,some 3] rfl (by decide +kernel) (by decide +kernel) (by rfl) (by rfl) (by rfl) (by rfl) (by rfl)) (Zqq (pv 4)) (fun _ _ _=>(ZaF (i:=0) Ztn rfl (Or.inl rfl))) (fun _ _ _=>(Zck (PW.pt (Zi6 (Zaq Zgz (pv 1) ZcJ (Zau _)) (Zho (Zaq Zop (pv 0) (pv 1) (Zau _))))))) (fun _ _ _=>(pv 0))))
   (Zah (Zax (Zec (Zbz Zoa (Zaz ZaN (by rfl) T.n_len Zcu (Zaa (pv 5) Zac)) Zad (Zau _)) (Zdw (Zbz Zcg (Znn (Zd9 hr) (pv 4) (Zaz (ZnA K rfl) (by rfl) T.n_max ZlM (Zaa (pv 5) Zac)) (fun _ _=>rfl)) Zaw (Zau _)))))))))),?_⟩
 obtain ⟨b,dx,k,bi,li,ti,su,rfl,hB⟩:=id hv
 refine ⟨_,rfl,b,dx,_,rfl,hB.ob,rfl,_,rfl,rfl,.ref b,.str a,B,rfl,hv,.inr ⟨a,rfl,fun no=>absurd no ka,fun p1 hp1=>?_⟩⟩
 refine ⟨_,rfl,b,dx,_,rfl,hB.ob,rfl,_,rfl,rfl,.ref b,.str c,B,rfl,hv,.inr ⟨c,rfl,fun no=>absurd no kc,fun p2 hp2=>?_⟩⟩
 dsimp only
 refine ZdI (fun σ' H'=>∃ d,σ'=[some (.ref b),some (.str a),some (.str c),some .non,some (.ref d),none]∧Same H H'∧H' d=some (.dK (Zip (ZbV B (Zan a c))))) (fun nx hnx=>?_) ?_
 ·refine ⟨_,rfl,b,T.c_Book,dx,_,_,rfl,hB.ob,T.cl_Book,T.na_Book_ties,Zn5,ti,rfl,.inr ⟨_,.inl hB.ti⟩,_,rfl,_,rfl,rfl,a,c,rfl,fun H1 t s1 nt ht=>fun z nz=>?_⟩
  have s2:=Zag (o:=.dK []) nz
  have s3:=s1.trans s2
  have dg:=DGet.t (k:=two (Zan a c)) (s3 _ _ hB.ti) (s2 _ _ ht)
  rw [show B.tiesD=B.ties.map fun q=>(two q.1,V.ref q.2.1) from rfl,ZfV (f:=two) (fun _ _=>Zfj) (fun p:Addr × List (Int × Str)=>V.ref p.1)] at dg
  refine ⟨_,dg,?_⟩
  cases hk:ZaZ (Zan a c) B.ties with
  | none =>
   refine hnx _ _ ⟨z,rfl,s3,?_⟩
   have e:ZbV B (Zan a c)=[]:=by unfold ZbV; rw [hk]; rfl
   rw [e]
   exact Zab
  | some x =>
   refine hnx _ _ ⟨x.1,rfl,s3,?_⟩
   have e:ZbV B (Zan a c)=x.2:=by unfold ZbV; rw [hk]; rfl
   rw [e]
   exact s3 _ _ (hB.tt _ (ZdD hk))
 rintro σ' H2 ⟨d,rfl,s2,hd⟩
 have est:Zjy B a c=ZcW (ZbV B (Zan a c)):=rfl
 rw [est] at q
 generalize ZbV B (Zan a c)=l at *
 have llen:(Zip l).length=l.length:=List.length_map ..
 refine ⟨d,Zip l,hd,_,rfl,d,Zip l,rfl,hd,fun o=>Zbs (l.map fun r=>some (V.int r.1)) (Zaj (by rw [List.length_map]; omega)) (fun σ=>∃ w,σ=[w,some .non]) ⟨_,rfl⟩ (fun i H3 hi sm=>?go) (fun H3 sm=>?stop) (fun i σ H3 x H4 y hy hσ sm hx C hC=>?step) (fun D H3 nD sm hD=>?fin)⟩
 case go=>exact ⟨sm _ _ Zab,by rw [llen]; rw [List.length_map] at hi; exact hi⟩
 case stop=>exact ⟨sm _ _ Zab,by rw [llen,List.length_map]; exact Nat.le_refl _⟩
 case step =>
  obtain ⟨w,rfl⟩:=hσ
  obtain ⟨rfl,hx2⟩:=hx
  rw [List.getElem?_map] at hy
  obtain ⟨r,hr2,rfl⟩:=Option.map_eq_some_iff.mp hy
  have ex:x=.int r.1:=by
   unfold Zip at hx2
   rw [List.getElem?_map,hr2] at hx2
   exact (Option.some.inj hx2).symm
  subst ex
  refine ⟨_,rfl,rfl,_,rfl,Zbe (by rfl) (Zex ⟨_,rfl,hC _ _ ⟨_,rfl⟩ (Same.refl _)⟩)⟩
 case fin =>
  have ef:(l.map fun r=>some (V.int r.1)).filterMap id=(l.map (·.1)).map V.int:=by
   rw [List.filterMap_map,List.map_map]
   exact List.filterMap_eq_map ▸ rfl
  rw [ef] at hD
  refine ⟨o,sm _ _ Zab,?_⟩
  have nDd:D≠d:=fun e=>by subst e; rw [Zab] at nD; cases nD
  have hD4:(upd H3 d (.dK (Zip l))) D=some (.lst ((l.map (·.1)).map V.int)):=(Zak nDd).trans hD
  have hd4:(upd H3 d (.dK (Zip l))) d=some (.dK (Zip l)):=Zab
  have s4:Same H2 (upd H3 d (.dK (Zip l))):=fun x u e=>by
   by_cases xd:x=d
   ·subst xd; rw [hd] at e; cases e; exact hd4
   ·rw [Zak xd]
    exact sm _ _ ((Zak xd).trans e)
  generalize upd H3 d (.dK (Zip l))=H5 at *
  refine ⟨_,rfl,D,_,rfl,.inl (.of hD4),_,_,rfl,rfl,_,rfl,?_⟩
  rw [List.length_map,List.length_map]
  cases l with
  | nil=>exact Zc8 (q _ (s2.trans s4))
  | cons r0 l0 =>
   refine Zbe (decide_eq_true (by rw [List.length_cons]; omega)) ⟨_,rfl,_,rfl,D,(r0 :: l0).map (·.1),rfl,.of hD4,by simp,fun m hm hx=>?_⟩
   obtain ⟨x,ex⟩:=Zoc hm
   have dg:=DGet.k (k:=.inl m) hd4
   rw [show Zip (r0 :: l0)=(r0 :: l0).map fun q=>((.inl q.1:Key),V.str q.2) from rfl,ZfV (f:=(Sum.inl:Int->Key)) Zon V.str,ex] at dg
   have q2:=q _ (s2.trans s4)
   rw [Zli hm hx ex] at q2
   refine ⟨d,.str x,rfl,dg,rfl,?_⟩
   rw [Zcj]
   exact q2
theorem ZgF (T:Tx K w mg) (Zdz:Zhr P base T) (ZaX:ZdQ P base T) (Ze7:Zhu P base T) (ZdS:ZfC P base T):Zej P base T:=by
 refine Fun.okX (k:=2) T.ZbC.F Zce (fun vs H Q E h=>h.1) (fun cdv A outer s H vs Q E hr h=>?_)
 obtain ⟨-,h⟩:=h
 obtain ⟨b,dx,k,bi,li,ti,su,B,a,kd,p1,p2,d,rfl,hE,hB,k1,k2,nd,tl,dl,ll,lf,q⟩:=h
 refine ⟨_, (Zae (ZaC (i := 2) Zce.nd rfl (Or.inl rfl) (Zpf (Zd9 hr) (Zcv (pv 0) rfl) (Zas Zdz (hr.mono (by decide)) (by rfl) T.Zb7.m T.Zb7.F.kp T.Zb7.b .nil Zai (Zaa (Zar Zao (pv 1) Zad (fun _ _ => rfl)) (Zaa (Zar Zao (pv 1) Zad (fun _ _ => rfl)) Zac))) Zi1 ⟨rfl, rfl, rfl, rfl⟩))
   (Zae (Zgq (Zd9 hr) (pv 2) (Zar Zao (pv 1) Zad (fun _ _=>rfl)) (Zar Zao (pv 1) Zad (fun _ _=>rfl)) rfl)
   (Zah (Zd7 PassesOwn.leaving rfl (Zoq (Zby (Zaa (Zby (Zaa (Zar Zao (pv 1) Zad (fun _ _=>rfl)) (Zaa (Zar Zao (pv 1) Zad (fun _ _=>rfl)) Zac))) (Zaa (Zby (Zaa (Zar Zao (pv 1) Zad (fun _ _=>rfl)) (Zaa (Zar Zao (pv 1) Zad (fun _ _=>rfl)) Zac))) Zac)))) (ZlX rfl (Zcf (ZaF (i:=3) Zce.nd rfl (Or.inl rfl)) (Zcf (ZaF (i:=4) Zce.nd rfl (Or.inr rfl)) Zgd)))
    (Zae (Zgq (Zd9 hr) (Zcv (pv 0) rfl) (Zby (Zaa Zaw (Zaa (pv 3) Zac))) (Zb6 rfl (Za5 (N:=["name","end"]) ["end"] [none,some 4] rfl (by decide +kernel) (by decide +kernel) (by rfl) (by rfl) (by rfl) (by rfl) (by rfl)) (Zbv (ZaE (pv 0) T.cl_Book T.Zcx.me Ze7 (hr.mono (by decide)) T.Zcx.b .nil Zai (Zaa Zaw (Zaa (pv 3) Zac)))) (fun _ _ _=>(ZaF (i:=0) Zs6 rfl (Or.inl rfl))) (fun _ _ _=>(Zck (Zaq Zid (pv 0) (pv 1) (Zau _)))) (fun _ _ _=>(pv 0))) rfl)
   (Zah (Za8 (ZcO (ZaE (pv 0) T.cl_Book T.me_Book_stands ZdS (hr.mono (by decide)) T.b_Book_stands (.cons (show RelV V.non Value.none from rfl) .nil) Zai (Zaa (pv 3) (Zaa (pv 4) Zac)))) (Zah (Za9 (ZaE (pv 0) T.cl_Book T.ZaK.me ZaX (hr.mono (by decide)) T.ZaK.b .nil Zai (Zaa Zaw (Zaa (pv 3) (Zaa (pv 4) Zac)))))) Zay))))))),?_⟩
 refine ZdI (fun σ' H'=>∃ y ts,σ'=[some (.ref b),some (.ref a),some (.ref y),none,none]∧BkAt K T.c_Book H' b dx k bi li ti su { B with ties:=ts }∧(ts.map (·.1)).Nodup∧ts.length≤B.ties.length+1∧ZaZ (Zan p1 p2) ts=some (y,ZbV B (Zan p1 p2))∧(∀ c,Zjv ts c=ZbV B c)∧But [li,ti,y] H H'∧(H y=none∨y∈B.ties.map (·.2.1))∧GrowsT H B.ties ts∧SqT K H' a [.str kd,.str p1,.str p2,.int d]) (fun nx hnx=>?_) ?_
 ·refine ⟨_,rfl,b,T.c_Book,dx,_,_,rfl,hB.ob,T.cl_Book,T.na_Book_ties,Zn5,ti,rfl,.inr ⟨_,.inl hB.ti⟩,_,rfl,a,_,_,_,rfl,rfl,hE,Zaf (j:=1) rfl,_,rfl,a,_,_,_,rfl,rfl,hE,Zaf (j:=2) rfl,rfl,p1,p2,rfl,fun H1 t s1 nt ht=>fun z nz=>?_⟩
  have s2:=Zag (o:=.dK []) nz
  have s3:=s1.trans s2
  have hB1:=hB.mono s1
  have hB3:=hB.mono s3
  have hlen:B.tiesD.length=B.ties.length:=List.length_map ..
  have hval:Zdv B.tiesD (two (Zan p1 p2))=(ZaZ (Zan p1 p2) B.ties).map fun p=>V.ref p.1:=ZfV (f:=two) (fun _ _=>Zfj) (fun p:Addr × List (Int × Str)=>V.ref p.1) _ _
  refine ⟨_,two (Zan p1 p2),t,hB3.ti,rfl,s2 _ _ ht,by rw [hlen]; exact Zaj (by omega),fun v hv=>?_,fun hn=>?_⟩
  ·rw [hval] at hv
   obtain ⟨x,hk,rfl⟩:=Option.map_eq_some_iff.mp hv
   have e:ZbV B (Zan p1 p2)=x.2:=by unfold ZbV; rw [hk]; rfl
   exact hnx _ _ ⟨x.1,B.ties,rfl,hB3,nd,by omega,by rw [hk,e],fun c=>rfl,But.of _ s3,.inr (List.mem_map.mpr ⟨_,ZdD hk,rfl⟩),GrowsT.refl _ _,s3.sqt hE⟩
  ·rw [hval] at hn
   have hk:ZaZ (Zan p1 p2) B.ties=none:=by simpa using hn
   have e:ZbV B (Zan p1 p2)=[]:=by unfold ZbV; rw [hk]; rfl
   have zn:∀ {x:Addr} {o:HO},H1 x=some o->x≠z:=fun h=>Zap h nz
   refine hnx _ _ ⟨z,B.ties++[(Zan p1 p2,z,[])],rfl,hB3.newTie Zab ⟨(zn hB1.bi).symm,fun q hq=>zn (hB1.tt q hq)⟩ _,?_,by rw [List.length_append]; exact Nat.le_refl _,?_,fun c=>Zpw _ _ _ _ hk,?_,.inl (Zbq s1 nz),(fun a ha=>by rw [List.map_append] at ha; exact (List.mem_append.mp ha).imp id (fun ha=>by rw [show a=z by simpa using ha]; exact Zbq s1 nz)),?_⟩
   ·rw [List.map_append,List.nodup_append]
    refine ⟨nd,by simp,fun x hx w hw ex=>?_⟩
    have ew:w=Zan p1 p2:=by simpa using hw
    subst ew ex
    obtain ⟨p,hp,ep⟩:=List.mem_map.mp hx
    have:=ZfR hk
    rw [List.any_eq_false] at this
    exact absurd (decide_eq_true ep) (this p hp)
   ·rw [Zfr,hk,e]
    unfold ZaZ
    rw [if_pos rfl]
    rfl
   ·exact (But.of _ s3).trans (But.put hB3.ti (by simp))
   ·exact ZcB (s3.sqt hE) hB3.ti (fun _ z=>by cases z) (fun _ _ z=>by cases z)
 rintro σ' H1 ⟨y,ts,rfl,hB1,nd1,tl1,hf,htf,bt1,hy0,grT,hE1⟩
 generalize hl:ZbV B (Zan p1 p2)=l at *
 have hy:H1 y=some (.dK (Zip l)):=hB1.tt _ (ZdD hf)
 have hB2:=hB1.putTie nd1 hf (Zba l d kd)
 obtain ⟨pa1,pa2⟩:=ZiA (l':=Zba l d kd) nd1 hf
 have grT2:GrowsT H B.ties (Zba ts (Zan p1 p2) (y,Zba l d kd)):=fun a ha=>grT a (by rw [← pa1]; exact ha)
 have tl2:(Zba ts (Zan p1 p2) (y,Zba l d kd)).length=ts.length:=by
  have:=congrArg List.length pa1
  rwa [List.length_map,List.length_map] at this
 have htf2:∀ c,Zjv (Zba ts (Zan p1 p2) (y,Zba l d kd)) c=if c=Zan p1 p2 then Zba l d kd else ZbV B c:=fun c=>by rw [Zo5,htf]
 have nd2:((Zba ts (Zan p1 p2) (y,Zba l d kd)).map (·.1)).Nodup:=by rw [pa2]; exact nd1
 have hE2:SqT K (upd H1 y (.dK (Zip (Zba l d kd)))) a [.str kd,.str p1,.str p2,.int d]:=ZcB hE1 hy (fun _ z=>by cases z) (fun _ _ z=>by cases z)
 have bt2:But [li,ti,y] H (upd H1 y (.dK (Zip (Zba l d kd)))):=bt1.trans (But.put hy (by simp))
 have dlen:(Zip l).length=l.length:=List.length_map ..
 refine ⟨_,rfl,a,_,_,_,rfl,rfl,hE1,Zaf (j:=0) rfl,_,rfl,_,rfl,a,_,_,_,rfl,rfl,hE1,Zaf (j:=3) rfl,y,_,rfl,DPut.k (k:=.inl d) hy (by rw [dlen]; exact Zaj (by omega)),?_⟩
 rw [show ZjG (Zip l) (.inl d) (.str kd)=Zip (Zba l d kd) from ZgW (f:=(Sum.inl:Int->Key)) Zon V.str l d kd]
 generalize upd H1 y (.dK (Zip (Zba l d kd)))=H2 at *
 generalize Zba ts (Zan p1 p2) (y,Zba l d kd)=ts2 at *
 generalize hst:ZcW (Zba l d kd)=st at *
 have ldl:(Zba l d kd).length≤801:=by have:=Zcd l d kd; omega
 refine ⟨_,rfl,a,_,_,_,rfl,rfl,hE2,Zaf (j:=1) rfl,_,rfl,a,_,_,_,rfl,rfl,hE2,Zaf (j:=2) rfl,few rfl,fun t1 nt1=>?_⟩
 have s1:=Zag (o:=.tup [.str p1,.str p2]) nt1
 refine ⟨_,rfl,a,_,_,_,rfl,rfl,(s1.sqt hE2),Zaf (j:=2) rfl,_,rfl,a,_,_,_,rfl,rfl,(s1.sqt hE2),Zaf (j:=1) rfl,few rfl,fun t2 nt2=>?_⟩
 have s2:=Zag (o:=.tup [.str p2,.str p1]) nt2
 refine ⟨few rfl,fun t3 nt3=>?_⟩
 have s3:=Zag (o:=.tup [.ref t1,.ref t2]) nt3
 have s123:=s1.trans (s2.trans s3)
 refine ⟨t3,rfl,⟨_,.of Zab⟩,ZnH (xs:=[.ref t1,.ref t2]) (fun i σ H5=>∃ ls v3 v4,σ=[some (.ref b),some (.ref a),some (.ref y),v3,v4]∧BkAt K T.c_Book H5 b dx k bi li ti su { B with links:=ls,ties:=ts2 }∧(∀ c,lk ls c=(match i with | 0=>lk B.links | 1=>Zbc (lk B.links) st p1 p2 | _=>Zbc (Zbc (lk B.links) st p1 p2) st p2 p1) c)∧ls.length≤B.links.length+2*i∧But [li,ti,y] H H5∧SqT K H5 t1 [.str p1,.str p2]∧SqT K H5 t2 [.str p2,.str p1]∧SqT K H5 t3 [.ref t1,.ref t2]∧Grows H B.links ls) ?start ?list ?turn ?done⟩
 case start=>exact ⟨B.links,none,none,rfl,hB2.mono s123,fun c=>rfl,by omega,bt2.trans (But.of _ s123),(s2.trans s3).sqt (.of Zab),s3.sqt (.of Zab),.of Zab,Grows.refl _ _⟩
 case list =>
  rintro i σ H5 _ ⟨ls,v3,v4,rfl,_,_,_,_,_,_,h3,_⟩
  exact h3
 case done =>
  rintro σ H5 ⟨ls,v3,v4,rfl,hB5,hlk,hls,bt5,_,_,_,gr⟩
  exact q H5 ls ts2 y hB5 nd2 (by omega) htf2 hlk (by simp at hls; omega) bt5 hy0 grT2 gr
 case turn =>
  rintro i x σ H5 hx ⟨ls,v3,v4,rfl,hB5,hlk,hls,bt5,h1,h2,h3,gr⟩
  have pick:∃ tq u w,x=.ref tq∧SqT K H5 tq [.str u,.str w]∧Known B u∧Known B w∧Zan u w=Zan p1 p2∧i≤1∧∀ F:Str × Str->List Str,(∀ c,F c=Zbc (match i with | 0=>lk B.links | 1=>Zbc (lk B.links) st p1 p2 | _=>Zbc (Zbc (lk B.links) st p1 p2) st p2 p1) st u w c)->∀ c,F c=(match i+1 with | 0=>lk B.links | 1=>Zbc (lk B.links) st p1 p2 | _=>Zbc (Zbc (lk B.links) st p1 p2) st p2 p1) c:=by
   match i,hx with
   | 0,hx=>exact ⟨t1,p1,p2,(Option.some.inj hx).symm,h1,k1,k2,rfl,by omega,fun F hF=>hF⟩
   | 1,hx=>exact ⟨t2,p2,p1,(Option.some.inj hx).symm,h2,k2,k1,Zf5 p2 p1,by omega,fun F hF=>hF⟩
  obtain ⟨tq,u,w,rfl,hq,ku,kw,hpr,i1,hG⟩:=pick
  have gl:∀ c,((match i with | 0=>lk B.links | 1=>Zbc (lk B.links) st p1 p2 | _=>Zbc (Zbc (lk B.links) st p1 p2) st p2 p1) c).length≤61:=by
   intro c
   match i,i1 with
   | 0,_=>have:=lf c; exact Nat.le_succ_of_le this
   | 1,_=>exact Nat.le_trans (Zhd ..) (by have:=lf c; omega)
  generalize (match i with | 0=>lk B.links | 1=>Zbc (lk B.links) st p1 p2 | _=>Zbc (Zbc (lk B.links) st p1 p2) st p2 p1)=G at *
  refine ⟨tq,_,rfl,hq,rfl,_,_,rfl,_,_,rfl,rfl,?_⟩
  dsimp only [ZbE]
  refine ZdI (fun σ' H'=>∃ D2,σ'=[some (.ref b),some (.ref a),some (.ref y),some (.str u),some (.str w)]∧BkAt K T.c_Book H' b dx k bi li ti su { B with links:=Zba ls ("S",u) (D2,(G ("S",u)).filter fun n=>decide (n≠w)),ties:=ts2 }∧But [li,ti,y] H H'∧SqT K H' t1 [.str p1,.str p2]∧SqT K H' t2 [.str p2,.str p1]∧SqT K H' t3 [.ref t1,.ref t2]∧H D2=none) (fun nx hnx=>?_) ?_
  ·refine ⟨_,rfl,b,dx,_,rfl,hB5.ob,rfl,_,rfl,rfl,.ref b,.str "S",.str u,_,rfl,⟨b,dx,k,bi,li,ti,su,rfl,hB5⟩,.inr ⟨"S",rfl,fun h=>absurd h (by decide +kernel),fun _=>.inr ⟨u,rfl,fun no=>absurd no ku,fun _ H6 D s6 nD hD0=>?_⟩⟩⟩
   have eL:Zb4 { B with links:=ls,ties:=ts2 } "S" u=G ("S",u):=hlk ("S",u)
   rw [eL] at hD0
   have hD:SqL K H6 D ((G ("S",u)).map V.str):=.of hD0
   refine ⟨D,rfl,⟨_,hD⟩,Zbs ((G ("S",u)).map (Zqb w)) (Zaj (by rw [List.length_map]; have:=gl ("S",u); omega)) (fun σ=>∃ v,σ=[v,some (.str w)]) ⟨_,rfl⟩ (fun j H7 hj sm=>?go) (fun H7 sm=>?stop) (fun j σ H7 x H8 o ho hσ sm hx C hC=>?step) (fun D2 H7 nD2 sm hD2=>?fin)⟩
   case go=>exact ⟨_,_,sm.sql hD,List.getElem?_eq_getElem (by rw [List.length_map] at hj ⊢; exact hj)⟩
   case stop=>exact ⟨_,sm.sql hD,by rw [List.length_map,List.length_map]; exact Nat.le_refl _⟩
   case step =>
    obtain ⟨v,rfl⟩:=hσ
    obtain ⟨rfl,hx2⟩:=hx
    have e1:=hx2 _ (sm.sql hD)
    rw [List.getElem?_map] at e1 ho
    obtain ⟨n,hn,rfl⟩:=Option.map_eq_some_iff.mp e1
    rw [hn] at ho
    obtain rfl:Zqb w n=o:=Option.some.inj ho
    refine ⟨_,rfl,_,rfl,rfl,_,rfl,?_⟩
    by_cases hz0:n=w
    ·have e2:Zqb w n=none:=if_pos hz0
     rw [e2] at hC
     exact ZaB (by show (!decide (V.str n=V.str w))=false; rw [Zcj,decide_eq_true hz0]; rfl) (hC _ _ ⟨_,rfl⟩ (Same.refl _))
    ·have e2:Zqb w n=some (.str n):=if_neg hz0
     rw [e2] at hC
     exact Zbe (by show (!decide (V.str n=V.str w))=true; rw [Zcj,decide_eq_false hz0]; rfl) ⟨_,rfl,hC _ _ ⟨_,rfl⟩ (Same.refl _)⟩
   case fin =>
    rw [ZlZ] at hD2
    have s67:=s6.trans sm
    have hB7:=hB5.mono s67
    refine ⟨_,rfl,b,T.c_Book,dx,_,_,rfl,hB7.ob,T.cl_Book,T.na_Book_links,ZgV,_,rfl,few rfl,fun t nt=>?_⟩
    have s8:=Zag (o:=.tup [.str "S",.str u]) nt
    have hB8:=hB7.mono s8
    have llen:({ B with links:=ls,ties:=ts2 }:Bk).linksD.length=ls.length:=List.length_map ..
    refine ⟨li,_,rfl,DPut.t (k:=two ("S",u)) hB8.li Zab (by rw [llen]; exact Zaj (by omega)),?_⟩
    rw [show ({ B with links:=ls,ties:=ts2 }:Bk).linksD=ls.map fun q=>(two q.1,V.ref q.2.1) from rfl,ZgW (f:=two) (fun _ _=>Zfj) (fun p:Addr × List Str=>V.ref p.1) ls ("S",u) (D2,(G ("S",u)).filter fun n=>decide (n≠w))]
    have li8:=hB8.li
    have kp:∀ {c:Addr} {xs:List V},SqT K H5 c xs->SqT K (upd (upd H7 t (.tup [.str "S",.str u])) li (.dT ((Zba ls ("S",u) (D2,(G ("S",u)).filter fun n=>decide (n≠w))).map fun q=>(two q.1,V.ref q.2.1)))) c xs:=fun h=>ZcB ((s67.trans s8).sqt h) li8 (fun _ z=>by cases z) (fun _ _ z=>by cases z)
    refine hnx _ _ ⟨D2,rfl,hB8.links fun q hq=>?_,bt5.trans ((But.of _ (s67.trans s8)).trans (But.put li8 (by simp))),kp h1,kp h2,kp h3,bt5.al _ (Zbq s6 nD2)⟩
    rcases ZgS hq with rfl | hq
    ·exact s8 _ _ hD2
    ·exact hB8.ll q hq
  ·rintro σ' H6 ⟨D2,rfl,hB6,bt6,g1,g2,g3,n2⟩
   have pl:=Zcd ls ("S",u) (D2,(G ("S",u)).filter fun n=>decide (n≠w))
   have lk6:∀ c,lk (Zba ls ("S",u) (D2,(G ("S",u)).filter fun n=>decide (n≠w))) c=if c=(("S",u):Str × Str) then (G ("S",u)).filter (fun n=>decide (n≠w)) else G c:=fun c=>by rw [ZnO,hlk]
   have et:ZbV { B with links:=Zba ls ("S",u) (D2,(G ("S",u)).filter fun n=>decide (n≠w)),ties:=ts2 } (Zan u w)=Zba l d kd:=by
    rw [ZqK]
    show Zjv ts2 (Zan u w)=_
    rw [htf2,if_pos hpr]
   have es:Zjy { B with links:=Zba ls ("S",u) (D2,(G ("S",u)).filter fun n=>decide (n≠w)),ties:=ts2 } u w=st:=by
    unfold Zjy
    rw [et,hst]
   refine ⟨_,rfl,b,dx,_,rfl,hB6.ob,rfl,_,rfl,_,rfl,rfl,.ref b,u,w,_,rfl,⟨b,dx,k,bi,li,ti,su,rfl,hB6⟩,ku,kw,by rw [et]; omega,fun H7 s7=>⟨_,rfl,?_⟩⟩
   rw [es]
   have hB7:=hB6.mono s7
   have bt7:=bt6.trans (But.of _ s7)
   refine ZmQ (fun hs=>?_) (fun hs=>?_)
   ·have la:Zb4 { B with links:=Zba ls ("S",u) (D2,(G ("S",u)).filter fun n=>decide (n≠w)),ties:=ts2 } "S" u=(G ("S",u)).filter fun n=>decide (n≠w):=by
     rw [Zmg]
     show lk (Zba ls ("S",u) _) ("S",u)=_
     rw [lk6,if_pos rfl]
    refine ⟨_,rfl,b,dx,_,rfl,hB7.ob,rfl,_,rfl,_,rfl,rfl,b,dx,k,bi,li,ti,su,_,"S",u,w,rfl,hB7,?_,?_,fun H8 D8 hB8 bt8 nD8=>?_⟩
    ·rw [la]
     exact Nat.le_trans (List.length_filter_le ..) (gl _)
    ·show (Zba ls ("S",u) _).length≤900
     omega
    ·have li7:=hB7.li
     have kp:∀ {c:Addr} {xs:List V},SqT K H7 c xs->SqT K H8 c xs:=fun {c xs} h=>by
      rcases h with (h | ⟨o,h⟩) | h
      ·exact .inl (.inl (bt8.eq _ _ (fun z=>by rw [show c=li by simpa using z,li7] at h; cases h) h))
      ·exact .inl (.inr ⟨o,bt8.eq _ _ (fun z=>by rw [show c=li by simpa using z,li7] at h; cases h) h⟩)
      ·exact .inr h
     rw [la] at hB8
     refine ⟨_,_,_,rfl,hB8,hG _ fun c=>?_,?_,bt7.trans (bt8.mono (by simp)),kp (s7.sqt g1),kp (s7.sqt g2),kp (s7.sqt g3),(gr.put n2).put (bt7.al _ nD8)⟩
     ·rw [ZnO]
      unfold Zbc
      by_cases ec:c=(("S",u):Str × Str)
      ·subst ec
       rw [if_pos rfl,if_pos rfl,if_pos hs]
      ·rw [if_neg ec,if_neg ec,lk6,if_neg ec]
     ·have p2:=Zcd (Zba ls ("S",u) (D2,(G ("S",u)).filter fun n=>decide (n≠w))) ("S",u) (D8,ZaL ((G ("S",u)).filter (fun n=>decide (n≠w))++[w]))
      show (Zba (Zba ls ("S",u) _) ("S",u) _).length≤_
      omega
   ·refine ⟨_,_,_,rfl,hB7,hG _ fun c=>?_,by show (Zba ls ("S",u) _).length≤_; omega,bt7,s7.sqt g1,s7.sqt g2,s7.sqt g3,gr.put n2⟩
    rw [lk6]
    unfold Zbc
    by_cases ec:c=(("S",u):Str × Str)
    ·subst ec
     rw [if_pos rfl,if_pos rfl,if_neg (by rw [hs]; decide)]
    ·rw [if_neg ec,if_neg ec]
theorem ZkW (T:Tx K w mg) (ZeK:Zi4 P base T) (ZdC:ZhZ P base T) (ZeF:Zje P base T) (Zd6:ZfO P base T) (ZaX:ZdQ P base T) (ZcA:ZdE P base T) (ZcY:Zej P base T):ZeH P base T:=by
 refine Fun.okX (k:=5) T.ZbQ.F Ze0 (fun vs H Q E h=>h.1) (fun cdv A outer s H vs Q E hr h=>?_)
 obtain ⟨-,h⟩:=h
 obtain ⟨b,dx,k,bi,li,ti,su,B,x,e,rfl,hB,hx,ok,no,rm,q⟩:=h
 refine ⟨_, (Zae (Za9 (ZaE (pv 0) T.cl_Book T.Zb0.me Zd6 (hr.mono (by decide)) T.Zb0.b .nil ZbT (Zaa (pv 1) Zac)))
   (Zae (ZaC (i:=2) Ze0.nd rfl (Or.inl rfl) (Zas ZdC (hr.mono (by decide)) (by rfl) T.Zca.m T.Zca.F.kp T.Zca.b .nil Zai (Zaa (pv 1) Zac)))
   (Zae (Zgq (Zd9 hr) (Zcv (pv 0) rfl) (Zas ZeF (hr.mono (by decide)) (by rfl) T.ZcE.m T.ZcE.F.kp T.ZcE.b .nil Zai (Zaa (pv 2) Zac)) (pv 2) rfl)
   (Zah (Za8 (Zaq Zcg (Zar Zao (pv 2) Zad (fun _ _=>rfl)) Zaw (Zau _)) (Zah (Za9 (ZaE (pv 0) T.cl_Book T.Zbj.me ZcA (hr.mono (by decide)) T.Zbj.b .nil Zai (Zaa (pv 2) Zac)))) (Zah (Za8 (Zaq Zcg (Zar Zao (pv 2) Zad (fun _ _=>rfl)) Zaw (Zau _)) (Zae (Za9 (ZaE (pv 0) T.cl_Book T.ZaK.me ZaX (hr.mono (by decide)) T.ZaK.b .nil Zai (Zaa Zaw (Zaa (Zar Zao (pv 2) Zad (fun _ _=>rfl)) (Zaa (Zar Zao (pv 2) Zad (fun _ _=>rfl)) Zac)))))
   (Zah (Za9 (ZaE (pv 0) T.cl_Book T.ZaK.me ZaX (hr.mono (by decide)) T.ZaK.b .nil Zai (Zaa Zaw (Zaa (Zar Zao (pv 2) Zad (fun _ _=>rfl)) (Zaa (Zar Zao (pv 2) Zad (fun _ _=>rfl)) Zac))))))) (Zah (Za8 (Zaq Zcg (Zar Zao (pv 2) Zad (fun _ _=>rfl)) Zaw (Zau _)) (Zae (ZaC (i:=3) Ze0.nd rfl (Or.inl rfl) (Zby (Zaa (Zar Zao (pv 2) Zad (fun _ _=>rfl)) (Zaa (Zar Zao (pv 2) Zad (fun _ _=>rfl)) Zac))))
   (Zah (Zgq (Zd9 hr) (Zcv (pv 0) rfl) (pv 3) (ZaI Zdi (Zfm (Zd9 hr) (Zcv (pv 0) rfl) (pv 3) Zad ⟨rfl,rfl,rfl,rfl⟩) (Zar Zao (pv 2) Zad (fun _ _=>rfl))) rfl))) (Zah (Za8 (ZcO (Zas ZeK (hr.mono (by decide)) (by rfl) T.ZcH.m T.ZcH.F.kp T.ZcH.b .nil Zai (Zaa (pv 2) Zac))) (Zah (Za9 (ZaE (pv 0) T.cl_Book T.ZbC.me ZcY (hr.mono (by decide)) T.ZbC.b .nil Zai (Zaa (pv 2) Zac)))) Zay))))))))))),?_⟩
 refine ⟨_,rfl,b,dx,_,rfl,hB.ob,rfl,_,rfl,rfl,.ref b,x,B,e,rfl,⟨b,dx,k,bi,li,ti,su,rfl,hB⟩,hx,ok,no,fun H1 s1=>?_⟩
 obtain ⟨hno,hk400,kn⟩:=Zkc no
 refine ⟨_,rfl,rfl,x,e,rfl,hx.mono s1,fun H2 u s2 hu=>?_⟩
 obtain ⟨a,rfl,hA⟩:=hu
 have s12:=s1.trans s2
 have hB2:=hB.mono s12
 have klen:B.keptD.length=B.kept.length:=List.length_map ..
 refine ⟨_,rfl,_,rfl,b,T.c_Book,dx,_,_,rfl,hB2.ob,T.cl_Book,T.na_Book_kept,Zhh,_,rfl,rfl,.ref a,e.told,rfl,⟨a,rfl,hA⟩,fun H3 p s3 np hp=>⟨k,_,rfl,DPut.t (k:=e.told.told.key) (s3 _ _ hB2.ke) hp (by rw [klen]; exact Zaj (by omega)),?_⟩⟩
 rw [ZcT,Zjp _ hno]
 have s13:=s12.trans s3
 have hB3:=hB.mono s13
 have hA3:=s3.sqt hA
 have kn2:∀ n∈e.told.named,Known B n:=fun n hn=>kn n (ZfZ e n hn)
 have tk:∀ (e':Ent),e.told=e'->e'.told=e':=fun e' h=>by rw [← h,ZcT]
 have pt:∀ {B':Bk} (e':Ent),e.told=e'->(∀ c,ZjQ B'.sums c=Zo1 (ZjQ B.sums) e' c)->(∃ a,B'.kept=B.kept++[(e',a)])->(∀ c,lk B'.links c=Zj4 (lk B.links) (Zjv B.ties) e' c)->(∀ c,Zjv B'.ties c=ZnI (Zjv B.ties) e' c)->(B'.ties.map (·.1)).Nodup->B'.links.length≤B.links.length+4->B'.ties.length≤B.ties.length+1->B'.sums.length≤B.sums.length+1->Put B e B':=fun {B'} e' h=>by
  subst h
  exact Put.mk
 generalize e.told=e' at *
 have hK:=hB3.kept (e:=e') hA3
 have kb:k≠bi:=ZaV hB3.ke hB3.bi (fun z=>by cases z)
 have hA4:SqT K (upd H3 k (.dT (B.keptD++[(e'.key,.ref a)]))) a (e'.row.map kV):=ZcB hA3 hB3.ke (fun _ z=>by cases z) (fun _ _ z=>by cases z)
 have btk:But [k,bi,li,ti,su] H (upd H3 k (.dT (B.keptD++[(e'.key,.ref a)]))):=(But.of _ s13).trans (But.put hB3.ke (by simp))
 have hbi:(upd H3 k (.dT (B.keptD++[(e'.key,.ref a)]))) bi=some (.dK (Bk.bornD B.kept)):=(Zak kb.symm).trans hB3.bi
 have hob:(upd H3 k (.dT (B.keptD++[(e'.key,.ref a)]))) b=some (.ins T.c_Book dx (bkF k bi li ti su)):=(Zak (ZaV hB3.ob hB3.ke (fun z=>by cases z))).trans hB3.ob
 have hKn:e'.isBorn=false->BkAt K T.c_Book (upd H3 k (.dT (B.keptD++[(e'.key,.ref a)]))) b dx k bi li ti su { B with kept:=B.kept++[(e',a)] }:=fun nb=>by
  rw [Zoi nb,ZoN hbi] at hK
  exact hK
 have fresh:∀ {y:Addr},H3 y=none->(H y=none∨∃ w,H y=some (.dK w)):=fun h=>.inl (Zbq s13 h)
 generalize hH4:upd H3 k (.dT (B.keptD++[(e'.key,.ref a)]))=H4 at *
 dsimp only
 have hbiH:∃ w,H bi=some (.dK w):=⟨_,hB.bi⟩
 cases e' with
 | born n s d f m =>
  refine ⟨_,rfl,a,_,_,_,rfl,rfl,hA4,Zaf (j:=0) rfl,rfl,_,rfl,Zbe (by decide +kernel) ?_⟩
  refine ⟨_,rfl,b,dx,_,rfl,hob,rfl,_,rfl,rfl,b,dx,k,bi,li,ti,su,B.kept,{ B with kept:=B.kept++[(.born n s d f m,a)] },n,s,d,f,m,a,rfl,rfl,hob,hbi,ZmM hno,by omega,hA4,hK,Nat.le_trans rm.nl (by omega),fun c=>Nat.le_trans (rm.ll c) (by omega),fun H5 ls hB5 hlk hls bt5 gr5=>?_⟩
  exact q H5 _ bi hB5 (pt _ rfl (fun c=>rfl) ⟨a,rfl⟩ hlk (fun c=>rfl) rm.nd hls (Nat.le_succ _) (Nat.le_succ _)) ((btk.mono (by simp)).trans (bt5.mono (by simp))) (.inr (.inl rfl)) (gr5.back btk.al) (GrowsT.refl _ _)
 | taken c t d =>
  have hB4:=hKn rfl
  have hmem:((.taken c t d,a):Ent × Addr)∈B.kept++[(.taken c t d,a)]:=by simp
  refine ⟨_,rfl,a,_,_,_,rfl,rfl,hA4,Zaf (j:=0) rfl,rfl,_,rfl,ZaB (by decide +kernel) ⟨_,rfl,a,_,_,_,rfl,rfl,hA4,Zaf (j:=0) rfl,rfl,_,rfl,Zbe (by decide +kernel) ?_⟩⟩
  refine ⟨_,rfl,b,dx,_,rfl,hob,rfl,_,rfl,a,_,_,_,rfl,rfl,hA4,Zaf (j:=1) rfl,_,rfl,a,_,_,_,rfl,rfl,hA4,Zaf (j:=2) rfl,rfl,b,dx,k,bi,li,ti,su,_,"T",c,t,rfl,hB4,Nat.le_trans (rm.ll _) (by omega),Nat.le_trans rm.nl (by omega),fun H5 D5 hB5 bt5 nD5=>?_⟩
  have hA5:=hB5.en _ hmem
  have l5:lk (Zba B.links ("T",c) (D5,ZaL (lk B.links ("T",c)++[t]))) ("t",t)=lk B.links ("t",t):=by
   rw [Zfw]
   exact Zfp (show ("t" : Str)≠"T" by decide +kernel)
  have n5:=Zcd B.links ("T",c) (D5,ZaL (lk B.links ("T",c)++[t]))
  have rl:=rm.nl
  refine ⟨_,rfl,b,dx,_,rfl,hB5.ob,rfl,_,rfl,a,_,_,_,rfl,rfl,hA5,Zaf (j:=2) rfl,_,rfl,a,_,_,_,rfl,rfl,hA5,Zaf (j:=1) rfl,rfl,b,dx,k,bi,li,ti,su,_,"t",t,c,rfl,hB5,?_,?_,fun H6 D6 hB6 bt6 nD6=>?_⟩
  ·rw [Zmg]
   show (lk (Zba B.links ("T",c) (D5,ZaL (lk B.links ("T",c)++[t]))) ("t",t)).length≤61
   rw [l5]
   exact Nat.le_trans (rm.ll _) (by omega)
  ·show (Zba B.links ("T",c) (D5,ZaL (lk B.links ("T",c)++[t]))).length≤900
   omega
  ·refine q H6 _ bi hB6 (pt _ rfl (fun c=>rfl) ⟨a,rfl⟩ (fun x=>?_) (fun c=>rfl) rm.nd ?_ (Nat.le_succ _) (Nat.le_succ _)) ((btk.mono (by simp)).trans ((bt5.mono (by simp)).trans (bt6.mono (by simp)))) (.inr (.inl rfl)) (((Grows.refl _ _).put (btk.al _ nD5)).put (btk.al _ (bt5.al _ nD6))) (GrowsT.refl _ _)
   ·show lk (Zba (Zba B.links ("T",c) (D5,ZaL (lk B.links ("T",c)++[t]))) ("t",t) (D6,ZaL (lk (Zba B.links ("T",c) (D5,ZaL (lk B.links ("T",c)++[t]))) ("t",t)++[c]))) x=_
    rw [Zfw]
    exact Zc5 (fun y=>Zfw ..) ..
   ·have n6:=Zcd (Zba B.links ("T",c) (D5,ZaL (lk B.links ("T",c)++[t]))) ("t",t) (D6,ZaL (lk (Zba B.links ("T",c) (D5,ZaL (lk B.links ("T",c)++[t]))) ("t",t)++[c]))
    show (Zba (Zba B.links ("T",c) (D5,ZaL (lk B.links ("T",c)++[t]))) ("t",t) (D6,ZaL (lk (Zba B.links ("T",c) (D5,ZaL (lk B.links ("T",c)++[t]))) ("t",t)++[c]))).length≤_
    omega
 | given g t am d =>
  have hB4:=hKn rfl
  have rs:=rm.ns
  refine ⟨_,rfl,a,_,_,_,rfl,rfl,hA4,Zaf (j:=0) rfl,rfl,_,rfl,ZaB (by decide +kernel) ⟨_,rfl,a,_,_,_,rfl,rfl,hA4,Zaf (j:=0) rfl,rfl,_,rfl,ZaB (by decide +kernel) ⟨_,rfl,a,_,_,_,rfl,rfl,hA4,Zaf (j:=0) rfl,rfl,_,rfl,Zbe (by decide +kernel) ?_⟩⟩⟩
  refine ⟨_,rfl,a,_,_,_,rfl,rfl,hA4,Zaf (j:=1) rfl,_,rfl,a,_,_,_,rfl,rfl,hA4,Zaf (j:=2) rfl,few rfl,fun pg npg=>?_⟩
  have s5:=Zag (o:=.tup [.str g,.str t]) npg
  have hB5:=hB4.mono s5
  have hA5:=s5.sqt hA4
  have dg:=DGet.t (k:=two (g,t)) hB5.su (Zab (o:=.tup [.str g,.str t]))
  have hval:Zdv ({ B with kept:=B.kept++[(.given g t am d,a)] }:Bk).sumsD (two (g,t))=(ZaZ (g,t) B.sums).map V.int:=ZfV (f:=two) (fun _ _=>Zfj) V.int _ _
  rw [hval] at dg
  have slen:({ B with kept:=B.kept++[(.given g t am d,a)] }:Bk).sumsD.length=B.sums.length:=List.length_map ..
  have iv:∃ i:Int,((ZaZ (g,t) B.sums).map V.int).getD (.int 0)=.int i:=by
   cases ZaZ (g,t) B.sums with
   | none=>exact ⟨0,rfl⟩
   | some i=>exact ⟨i,rfl⟩
  obtain ⟨i,hi⟩:=iv
  refine ⟨_,rfl,b,T.c_Book,dx,_,_,rfl,hB5.ob,T.cl_Book,T.na_Book_sums,Zom,su,rfl,.inr ⟨_,.inl hB5.su⟩,_,rfl,_,dg,_,rfl,a,_,_,_,rfl,rfl,hA5,Zaf (j:=3) rfl,i,am,hi,rfl,_,rfl,b,T.c_Book,dx,_,_,rfl,hB5.ob,T.cl_Book,T.na_Book_sums,Zom,_,rfl,su,_,rfl,DPut.t (k:=two (g,t)) hB5.su (Zab (o:=.tup [.str g,.str t])) (by rw [slen]; exact Zaj (by omega)),?_⟩
  rw [show ZjG ({ B with kept:=B.kept++[(.given g t am d,a)] }:Bk).sumsD (two (g,t)) (V.int (i+am))=(Zba B.sums (g,t) (i+am)).map fun q=>(two q.1,V.int q.2) from ZgW (f:=two) (fun _ _=>Zfj) V.int B.sums (g,t) (i+am)]
  have ei:i=ZjQ B.sums (g,t):=by
   unfold ZjQ
   cases hf:ZaZ (g,t) B.sums with
   | none=>rw [hf] at hi; exact (V.int.inj hi).symm
   | some j=>rw [hf] at hi; exact (V.int.inj hi).symm
  exact q _ _ bi (hB5.sums _) (pt _ rfl (fun c=>by rw [ei]; exact Zpa B.sums g t am d c) ⟨a,rfl⟩ (fun c=>rfl) (fun c=>rfl) rm.nd (Nat.le_add_right ..) (Nat.le_succ _) (Zcd ..)) ((btk.mono (by simp)).trans ((But.of _ s5).trans (But.put hB5.su (by simp)))) (.inr (.inl rfl)) (Grows.refl _ _) (GrowsT.refl _ _)
 | dead n d =>
  have hB4:=hKn rfl
  refine ⟨_,rfl,a,_,_,_,rfl,rfl,hA4,Zaf (j:=0) rfl,rfl,_,rfl,ZaB (by decide +kernel) ⟨_,rfl,a,_,_,_,rfl,rfl,hA4,Zaf (j:=0) rfl,rfl,_,rfl,ZaB (by decide +kernel) ⟨_,rfl,a,_,_,_,rfl,rfl,hA4,Zaf (j:=0) rfl,rfl,_,rfl,ZaB (by decide +kernel) ?_⟩⟩⟩
  refine ⟨_,rfl,rfl,.ref a,.dead n d,rfl,⟨a,rfl,hA4⟩,fun H5 s5=>⟨_,rfl,Zc8 ?_⟩⟩
  exact q _ _ bi (hB4.mono s5) (pt _ rfl (fun c=>rfl) ⟨a,rfl⟩ (fun c=>rfl) (fun c=>rfl) rm.nd (Nat.le_add_right ..) (Nat.le_succ _) (Nat.le_succ _)) ((btk.mono (by simp)).trans (But.of _ s5)) (.inr (.inl rfl)) (Grows.refl _ _) (GrowsT.refl _ _)
 | union x y d =>
  have hB4:=hKn rfl
  refine ⟨_,rfl,a,_,_,_,rfl,rfl,hA4,Zaf (j:=0) rfl,rfl,_,rfl,ZaB (by decide +kernel) ⟨_,rfl,a,_,_,_,rfl,rfl,hA4,Zaf (j:=0) rfl,rfl,_,rfl,ZaB (by decide +kernel) ⟨_,rfl,a,_,_,_,rfl,rfl,hA4,Zaf (j:=0) rfl,rfl,_,rfl,ZaB (by decide +kernel) ?_⟩⟩⟩
  refine ⟨_,rfl,rfl,.ref a,.union x y d,rfl,⟨a,rfl,hA4⟩,fun H5 s5=>⟨_,rfl,Zex ?_⟩⟩
  have hB5:=hB4.mono s5
  have rl:=rm.nl
  have rt:=rm.nt
  refine ⟨_,rfl,b,dx,_,rfl,hB5.ob,rfl,_,rfl,rfl,b,dx,k,bi,li,ti,su,_,a,"union",x,y,d,rfl,s5.sqt hA4,hB5,(kn2 x (by simp [Ent.named])).more rfl,(kn2 y (by simp [Ent.named])).more rfl,rm.nd,Nat.le_trans rm.nt (by omega),Nat.le_trans (rm.tt _) (by omega),Nat.le_trans rm.nl (by omega),rm.ll,fun H6 ls ts z hB6 nd6 tl6 htf hlk hls bt6 hz grT6 gr6=>?_⟩
  exact q H6 _ z hB6 (pt _ rfl (fun c=>rfl) ⟨a,rfl⟩ hlk htf nd6 hls tl6 (Nat.le_succ _)) ((btk.mono (by simp)).trans ((But.of _ s5).trans (bt6.mono (by simp)))) (hz.imp (fun h=>btk.al _ (Zbq s5 h)) .inr) (gr6.back fun a n=>btk.al a (Zbq s5 n)) (grT6.back fun a n=>btk.al a (Zbq s5 n))
 | parted x y d =>
  have hB4:=hKn rfl
  refine ⟨_,rfl,a,_,_,_,rfl,rfl,hA4,Zaf (j:=0) rfl,rfl,_,rfl,ZaB (by decide +kernel) ⟨_,rfl,a,_,_,_,rfl,rfl,hA4,Zaf (j:=0) rfl,rfl,_,rfl,ZaB (by decide +kernel) ⟨_,rfl,a,_,_,_,rfl,rfl,hA4,Zaf (j:=0) rfl,rfl,_,rfl,ZaB (by decide +kernel) ?_⟩⟩⟩
  refine ⟨_,rfl,rfl,.ref a,.parted x y d,rfl,⟨a,rfl,hA4⟩,fun H5 s5=>⟨_,rfl,Zex ?_⟩⟩
  have hB5:=hB4.mono s5
  have rl:=rm.nl
  have rt:=rm.nt
  refine ⟨_,rfl,b,dx,_,rfl,hB5.ob,rfl,_,rfl,rfl,b,dx,k,bi,li,ti,su,_,a,"parted",x,y,d,rfl,s5.sqt hA4,hB5,(kn2 x (by simp [Ent.named])).more rfl,(kn2 y (by simp [Ent.named])).more rfl,rm.nd,Nat.le_trans rm.nt (by omega),Nat.le_trans (rm.tt _) (by omega),Nat.le_trans rm.nl (by omega),rm.ll,fun H6 ls ts z hB6 nd6 tl6 htf hlk hls bt6 hz grT6 gr6=>?_⟩
  exact q H6 _ z hB6 (pt _ rfl (fun c=>rfl) ⟨a,rfl⟩ hlk htf nd6 hls tl6 (Nat.le_succ _)) ((btk.mono (by simp)).trans ((But.of _ s5).trans (bt6.mono (by simp)))) (hz.imp (fun h=>btk.al _ (Zbq s5 h)) .inr) (gr6.back fun a n=>btk.al a (Zbq s5 n)) (grT6.back fun a n=>btk.al a (Zbq s5 n))
theorem Zic (T:Tx K w mg)  : ZfP P base T:=by
 refine Fun.okX (k:=0) T.Zb3.F Zij (fun vs H Q E h=>h.1) (fun cdv A outer s H vs Q E hr h=>?_)
 obtain ⟨-,h⟩:=h
 obtain ⟨v,B,rfl,⟨b,dx,k,bi,li,ti,su,rfl,hB⟩,hl,q⟩:=h
 refine ⟨_,(Zah (Zax (Zaz (Zjq rfl) (by rfl) T.n_sorted ZfQ (Zaa (Zcv (pv 0) rfl) Zac)))),?_⟩
 have hbi:=hB.bi
 rw [Zhl] at hbi
 rw [← Zft] at hl q
 rw [List.length_map] at hl
 refine ⟨_,rfl,b,T.c_Book,dx,_,_,rfl,hB.ob,T.cl_Book,T.na_Book_births,Zem,bi,Zek B.kept,rfl,hbi,hl,fun D zs nD perm so=>?_⟩
 rw [ZgT perm so]
 exact q _ D (Zag nD) nD Zab
theorem ZhK (T:Tx K w mg) (Zat:Zbl P base T):Zdn P base T:=by
 refine Fun.okX (k:=1) T.Zbi.F Zep (fun vs H Q E h=>h.1) (fun cdv A outer s H vs Q E hr h=>?_)
 obtain ⟨-,h⟩:=h
 obtain ⟨v,x,B,rfl,hv,h⟩:=h
 refine ⟨_, (Zae (Za9 (ZaE (pv 0) T.cl_Book T.Zav.me Zat (hr.mono (by decide)) T.Zav.b .nil ZbT (Zaa (pv 1) Zac)))
   (Zae (ZaC (i:=2) Zep.nd rfl (Or.inl rfl) (Zfm (Zd9 hr) (Zcv (pv 0) rfl) (Zby (Zaa Zaw (Zaa (pv 1) Zac))) ZcJ ⟨rfl,rfl,rfl,rfl⟩))
   (Zah (Zax (ZoP (Zaq Zgz (pv 2) ZcJ (Zau _)) ZcJ (Zar Zao (pv 2) Zad (fun _ _=>rfl))))))),?_⟩
 obtain ⟨b,dx,k,bi,li,ti,su,rfl,hB⟩:=id hv
 rcases h with ⟨hx,hE⟩ | ⟨n,rfl,kn,q⟩
 ·exact ⟨_,rfl,b,dx,_,rfl,hB.ob,rfl,_,rfl,rfl,.ref b,x,B,rfl,hv,ZnY hx hE⟩
 refine ⟨_,rfl,b,dx,_,rfl,hB.ob,rfl,_,rfl,rfl,.ref b,.str n,B,rfl,hv,.inr ⟨n,rfl,fun no=>absurd no kn,fun p0 hp0=>?_⟩⟩
 refine ⟨_,rfl,b,T.c_Book,dx,_,_,rfl,hB.ob,T.cl_Book,T.na_Book_kept,Zhh,k,rfl,.inr ⟨_,.inl hB.ke⟩,_,rfl,few rfl,fun t nt=>?_⟩
 have s1:=Zag (o:=.tup [.str "dead",.str n]) nt
 have dg:=DGet.t (k:=([.inr "dead",.inr n]:List Key)) (s1 _ _ hB.ke) Zab
 rw [show B.keptD=B.kept.map fun p=>(p.1.key,V.ref p.2) from rfl,ZlW] at dg
 refine ⟨_,dg,?_⟩
 have q1:=q _ s1
 unfold ZgH at q1
 cases hd:Zco n B.kept with
 | none =>
  rw [hd] at q1
  exact ⟨_,rfl,rfl,_,rfl,Zbe (by rfl) q1⟩
 | some r =>
  obtain ⟨d,a⟩:=r
  rw [hd] at q1
  exact ⟨_,rfl,rfl,_,rfl,ZaB (by rfl) ⟨_,rfl,a,_,_,_,rfl,rfl,s1.sqt (hB.en _ (ZeE hd)),Zaf (j:=2) rfl,q1⟩⟩
theorem ZiW (T:Tx K w mg) (ZeI:Zjf P base T) (ZbA:ZcU P base T) (Zb1:ZeH P base T):ZgB P base T:=by
 refine Fun.okX (k:=6) T.Zcn.F ZdX (fun vs H Q E h=>h.1) (fun cdv A outer s H vs Q E hr h=>?_)
 obtain ⟨-,h⟩:=h
 obtain ⟨b,dx,k,bi,li,ti,su,B,d,pool,rfl,hB,gd,tds,p33,l60,q⟩:=h
 refine ⟨_, (Zae (ZaC (i := 2) ZdX.nd rfl (Or.inl rfl) (ZkJ T.mk_Book ZbA (hr.mono (by decide)) (by rfl) T.m_Book T.Zbo.b .nil Zai))
   (Zae (ZoD (Zd7 PassesOwn.leaving rfl (ZqI (ZqB K PySem.F.plainAttrs_dict PySem.F.slot_dict_values PySem.F.type_dict_values Zn4 (Zcv (pv 0) rfl))) (ZaF (i:=3) ZdX.nd rfl (Or.inl rfl))
    (Zah (Za8 (Zaq Zop (Zas ZeI (hr.mono (by decide)) (by rfl) T.ZcI.m T.ZcI.F.kp T.ZcI.b .nil Zai (Zaa (pv 3) Zac)) (pv 1) (Zau _)) (Zah (Za9 (ZaE (pv 2) T.cl_Book T.ZbQ.me Zb1 (hr.mono (by decide)) T.ZbQ.b .nil Zai (Zaa (pv 3) Zac)))) Zay))))
   (Zah (Zax (pv 2))))),?_⟩
 refine fun b2 dx2 nb ndx nn=>⟨rfl,b2,dx2,rfl,Zab,fun H2 k2 bi2 li2 ti2 su2 hB2 keep nk nbi nli nti nsu=>⟨rfl,?_⟩⟩
 have sb:Same H (upd (upd H dx2 (.own b2)) b2 (.ins T.c_Book dx2 [])):=fun c o e=>by rw [Zak (Zap e nb),Zak (Zap e ndx)]; exact e
 have s2:Same H H2:=fun c o e=>keep c o (sb c o e) (Zap e nb)
 have hBm:=hB.mono s2
 have hk:=hBm.ke
 refine ⟨k,B.keptD,hk,_,rfl,b,T.c_Book,dx,_,_,rfl,hBm.ob,T.cl_Book,T.na_Book_kept,Zhh,.inr (.inr (.inl ⟨rfl,.inr ⟨_,hk⟩⟩)),k,_,rfl,rfl,hk,fun r nr=>?_⟩
 have sr:=Zag (o:=.ext (Zfu r k)) nr
 refine ⟨r,k,B.keptD,rfl,Zab,sr _ _ hk,fun o=>?_⟩
 have hBr:=hB2.mono sr
 have kk:k≠k2:=fun z=>by have e:=hB.ke; rw [z,Zbq sb nk] at e; cases e
 have n5:∀ c∈[k2,bi2,li2,ti2,su2],H c=none:=fun c hc=>by
  simp only [List.mem_cons,List.not_mem_nil,or_false] at hc
  rcases hc with rfl | rfl | rfl | rfl | rfl
  ·exact Zbq sb nk
  ·exact Zbq sb nbi
  ·exact Zbq sb nli
  ·exact Zbq sb nti
  ·exact Zbq sb nsu
 have kH:∃ w,H k=some w:=⟨_,hB.ke⟩
 have k5:k ∉ [k2,bi2,li2,ti2,su2]:=fun z=>by obtain ⟨w,e⟩:=kH; rw [n5 k z] at e; cases e
 have hBf : BkAt K T.c_Book (upd (upd H2 r (.ext (Zfu r k))) k (.frz o (.dT B.keptD))) b2 dx2 k2 bi2 li2 ti2 su2 bk0 := hBr.but0 (S := [k]) ⟨fun a u na e => (Zak (fun z => na (by rw [z]; simp))).trans e, fun a e => by
   by_cases z:a=k
   ·subst z; rw [Zab] at e; cases e
   ·rw [Zak z] at e; exact e⟩ (fun a ha z=>by
  have ea:a=k:=by simpa using z
  subst ea
  rcases List.mem_cons.mp ha with e | e
  ·have e1:=hB.ke; rw [e,nb] at e1; cases e1
  ·exact k5 e)
 have sf:∀ c u,c≠k->H c=some u->(upd (upd H2 r (.ext (Zfu r k))) k (.frz o (.dT B.keptD))) c=some u:=fun c u nc e=>(Zak nc).trans (sr _ _ (s2 _ _ e))
 have fk:(upd (upd H2 r (.ext (Zfu r k))) k (.frz o (.dT B.keptD))) k=some (.frz o (.dT B.keptD)):=Zab
 generalize upd (upd H2 r (.ext (Zfu r k))) k (.frz o (.dT B.keptD))=Hf at *
 have klen:B.keptD.length=B.kept.length:=List.length_map ..
 refine ZoZ (fun i σ Hc=>∃ (B2:Bk) (v3:Option V),σ=[some (.ref b),some (.int d),some (.ref b2),v3]∧BkAt K T.c_Book Hc b2 dx2 k2 bi2 li2 ti2 su2 B2∧LI5 pool B2 B2.kept∧B2.kept.map (·.1)=(((B.kept.take i).map (·.1)).filter fun e=>decide (e.day≤d))∧(∀ c u,c≠k->H c=some u->Hc c=some u)∧Hc k=some (.frz o (.dT B.keptD))∧(∀ c∈B2.ties.map (·.2.1),H c=none)) ?start ?list ?turn ?done
 case start=>exact ⟨bk0,none,rfl,hBf,LI5.start pool,rfl,sf,fk,fun c hc=>(by cases hc)⟩
 case list =>
  rintro i σ Hc _ ⟨B2,v3,rfl,_,_,_,_,fk,_⟩
  exact fk
 case done =>
  rintro σ Hc ⟨B2,v3,rfl,hBc,li5,sbk,sf,fk,ft⟩
  rw [klen,List.take_length] at sbk
  refine ⟨o,fk,?_⟩
  have sZ:Same H (upd Hc k (.dT B.keptD)):=fun c u e=>by
   by_cases z:c=k
   ·subst z; rw [hB.ke] at e; cases e; exact Zab
   ·rw [Zak z]; exact sf c u z e
  exact ⟨_,rfl,q _ b2 dx2 k2 bi2 li2 ti2 su2 B2 (hBc.thaw fk) sbk sZ⟩
 case turn =>
  rintro i p σ Hc hp ⟨B2,v3,rfl,hBc,li5,sbk,sf,fk,ft⟩
  unfold Bk.keptD at hp
  rw [List.getElem?_map] at hp
  obtain ⟨⟨e,a⟩,he,rfl⟩:=Option.map_eq_some_iff.mp hp
  have hm:=List.mem_of_getElem? he
  have row:SqT K Hc a (e.row.map kV):=by
   rcases hB.en _ hm with (h | ⟨x,h⟩) | h
   ·exact .inl (.inl (sf _ _ (ZaV h hB.ke (fun z=>by cases z)) h))
   ·exact .inl (.inr ⟨x,sf _ _ (ZaV h hB.ke (fun z=>by cases z)) h⟩)
   ·exact .inr h
  have tk:(B.kept.take (i+1)).map (·.1)=(B.kept.take i).map (·.1)++[e]:=Zl0 he
  have gt:GdL pool (((B.kept.take (i+1)).map (·.1)).filter fun e=>decide (e.day≤d)):=by rw [List.map_take]; exact (gd.take _).filt d
  refine ⟨_,rfl,rfl,.ref a,e,rfl,⟨a,rfl,row⟩,_,rfl,_,_,rfl,rfl,_,rfl,?_⟩
  by_cases hd:e.day≤d
  ·refine Zbe (decide_eq_true hd) ?_
   have ef:((B.kept.take (i+1)).map (·.1)).filter (fun e=>decide (e.day≤d))=((B.kept.take i).map (·.1)).filter (fun e=>decide (e.day≤d))++[e]:=by
    rw [tk,List.filter_append]
    congr 1
    simp [hd]
   rw [ef] at gt
   have tes:(((B.kept.take i).map (·.1)).filter fun e=>decide (e.day≤d)).map Ent.told=((B.kept.take i).map (·.1)).filter fun e=>decide (e.day≤d):=ZfH fun x hx=>by
    obtain ⟨p,hp,rfl⟩:=List.mem_map.mp (List.mem_filter.mp hx).1
    exact tds p (List.mem_of_mem_take hp)
   have hkl:B2.kept.length≤60:=by
    have:=ZdL sbk
    have f1:=List.length_filter_le (fun e:Ent=>decide (e.day≤d)) ((B.kept.take i).map (·.1))
    rw [List.length_map,List.length_take] at f1
    omega
   obtain ⟨no,d5,rm⟩:=GdL.ref li5 (sbk.trans tes.symm) gt hkl p33
   refine ⟨_,rfl,b2,dx2,_,rfl,hBc.ob,rfl,_,rfl,rfl,b2,dx2,k2,bi2,li2,ti2,su2,B2,.ref a,e,rfl,hBc,⟨a,rfl,row⟩,d5.1,no,rm,fun H3 B3 y hB3 hput bt hy gr grT=>?_⟩
   obtain ⟨li3,sb3⟩:=li5.put' hput d5 no
   rw [tds _ hm,sbk,← ef] at sb3
   have ny:∀ c u,c≠k->H c=some u->c ∉ [k2,bi2,li2,ti2,su2,y]:=fun c u nc e m=>by
    have m':c∈[k2,bi2,li2,ti2,su2]∨c=y:=by
     simp only [List.mem_cons,List.not_mem_nil,or_false] at m ⊢
     rcases m with h | h | h | h | h | h <;> simp [h]
    rcases m' with h | h
    ·rw [n5 c h] at e; cases e
    ·rcases hy with z | z | z
     ·have:=sf c u nc e; rw [h,z] at this; cases this
     ·rw [h,z,n5 bi2 (by simp)] at e; cases e
     ·rw [h,ft y z] at e; cases e
   have nk5:k ∉ [k2,bi2,li2,ti2,su2,y]:=fun m=>by
    have m':k∈[k2,bi2,li2,ti2,su2]∨k=y:=by
     simp only [List.mem_cons,List.not_mem_nil,or_false] at m ⊢
     rcases m with h | h | h | h | h | h <;> simp [h]
    rcases m' with h | h
    ·exact k5 h
    ·obtain ⟨w,ew⟩:=kH
     rcases hy with z | z | z
     ·rw [← h,fk] at z; cases z
     ·exact k5 (by rw [h,z]; simp)
     ·rw [h,ft y z] at ew; cases ew
   refine ⟨B3,_,rfl,hB3,li3,sb3,fun c u nc e=>bt.eq c u (ny c u nc e) (sf c u nc e),bt.eq _ _ nk5 fk,fun c hc=>?_⟩
   rcases grT c hc with h | h
   ·exact ft c h
   ·cases hH:H c with
    | none=>rfl
    | some u =>
     by_cases z:c=k
     ·rw [z,fk] at h; cases h
     ·rw [sf c u z hH] at h; cases h
  ·refine ZaB (decide_eq_false hd) ⟨B2,_,rfl,hBc,li5,?_,sf,fk,ft⟩
   rw [tk,List.filter_append]
   have e0:[e].filter (fun e=>decide (e.day≤d))=[]:=by simp [hd]
   rw [e0,List.append_nil]
   exact sbk
theorem ZgJ (T:Tx K w mg) (ZbM:Zdn P base T) (Zen:ZgB P base T):Zeg P base T:=by
 refine Fun.okX (k:=7) T.Zbm.F Zd8 (fun vs H Q E h=>h.1) (fun cdv A outer s H vs Q E hr h=>?_)
 obtain ⟨-,h⟩:=h
 obtain ⟨b,dx,k,bi,li,ti,su,B,x,rfl,hB,h⟩:=h
 refine ⟨_, (Zae (ZaC (i := 2) Zd8.nd rfl (Or.inl rfl) (ZaE (pv 0) T.cl_Book T.Zbi.me ZbM (hr.mono (by decide)) T.Zbi.b .nil ZbT (Zaa (pv 1) Zac)))
   (Zae (Za8 (Zaq Zgz (pv 2) ZcJ (Zau _)) (Zah (Zdh (by rfl) T.m_Alive T.x_Alive EB rfl Zdj (Zaa Zaw Zac))) Zay)
   (Zah (Zax (ZaE (pv 0) T.cl_Book T.Zcn.me Zen (hr.mono (by decide)) T.Zcn.b .nil Zai (Zaa (pv 2) Zac)))))),?_⟩
 have hv:BkHas K T.c_Book H (.ref b) B:=⟨b,dx,k,bi,li,ti,su,rfl,hB⟩
 rcases h with ⟨hx,hE⟩ | ⟨n,rfl,kn,h⟩
 ·exact ⟨_,rfl,b,dx,_,rfl,hB.ob,rfl,_,rfl,rfl,.ref b,x,B,rfl,hv,.inl ⟨hx,hE⟩⟩
 refine ⟨_,rfl,b,dx,_,rfl,hB.ob,rfl,_,rfl,rfl,.ref b,.str n,B,rfl,hv,.inr ⟨n,rfl,kn,fun H1 s1=>?_⟩⟩
 rcases h with ⟨e,hE⟩ | ⟨d,pool,e,ub,q⟩
 ·rw [e]
  exact ⟨_,rfl,rfl,_,rfl,Zbe (by rfl) ⟨few rfl,hE _ s1⟩⟩
 ·rw [e]
  have hB1:=hB.mono s1
  exact ⟨_,rfl,rfl,_,rfl,ZaB (by rfl) ⟨_,rfl,b,dx,_,rfl,hB1.ob,rfl,_,rfl,rfl,b,dx,k,bi,li,ti,su,B,d,pool,rfl,hB1,ub.1,ub.2.1,ub.2.2.1,ub.2.2.2,fun H2 b2 dx2 k2 bi2 li2 ti2 su2 B2 h2 e2 s2=>q _ _ _ _ _ _ _ _ _ h2 e2 (s1.trans s2)⟩⟩
theorem Zk8 (T:Tx K w mg) (Zd3:ZfP P base T) (ZbM:Zdn P base T):Ziz P base T:=by
 refine Fun.okX (k:=2) T.Zcw.F Zg1 (fun vs H Q E h=>h.1) (fun cdv A outer s H vs Q E hr h=>?_)
 obtain ⟨-,h⟩:=h
 obtain ⟨v,n,z0,o,B,rfl,hv,hl,hz0,q⟩:=h
 refine ⟨_, (Zae (Zgg (i := 3) rfl  Zg1.nd rfl (Or.inl rfl) (Za5 (N := ["one", "name"]) ["name"] [none, some 1] rfl (by decide +kernel) (by decide +kernel) (by rfl) (by rfl) (by rfl) (by rfl) (by rfl)) (Zbv (ZmT (pv 0) T.cl_Book T.Zb3.me Zd3 (hr.mono (by decide)) T.Zb3.b .nil Zai)) (fun _ _ _ => (ZaF (i := 0) Zs7 rfl (Or.inl rfl))) (fun _ _ _ => (Zck (Zaq Zid (pv 0) (pv 1) (Zau _)))) (fun _ _ _ => (pv 0)))
   (Zae (Za8 (Zaq Zgz (pv 2) ZcJ (Zau _)) (Zah (Zax (Zb6 rfl (Za5 (N:=["one","day_book"]) ["day_book"] [none,some 0] rfl (by decide +kernel) (by decide +kernel) (by rfl) (by rfl) (by rfl) (by rfl) (by rfl)) (Zbv (pv 3)) (fun _ _ _=>(ZaF (i:=0) Zs5 rfl (Or.inl rfl))) (fun _ _ _=>(Zck (Zaq Zgz (ZaE (pv 1) T.cl_Book T.Zbi.me ZbM (hr.mono (by decide)) T.Zbi.b .nil Zai (Zaa (pv 0) Zac)) ZcJ (Zau _)))) (fun _ _ _=>(pv 0))))) Zay)
   (Zah (Zax (Zb6 rfl (Za5 (N:=["one","living"]) ["living"] [none,some 2] rfl (by decide +kernel) (by decide +kernel) (by rfl) (by rfl) (by rfl) (by rfl) (by rfl)) (Zbv (pv 3)) (fun _ _ _=>(ZaF (i:=0) Zti rfl (Or.inl rfl))) (fun _ _ _=>(Zck (Zaq (ZpB K rfl) (pv 0) (pv 1) (by rfl)))) (fun _ _ _=>(pv 0))))))),?_⟩
 obtain ⟨b,dx,k,bi,li,ti,su,rfl,hB⟩:=id hv
 have ql:∀ (S:List Str),ZpG B n o=S->∀ H' D,Same H H'->H D=none->H' D=some (.lst (S.map V.str))->Q (.ref D) H':=fun S e=>e ▸ q
 unfold ZpG at ql
 refine ⟨_,rfl,b,dx,_,rfl,hB.ob,rfl,rfl,.ref b,B,rfl,hv,hl,fun H0 D0 s0 nD0 hD0=>?_⟩
 have sl:(ZaL (ZaG B.kept)).length<64:=by rw [(ZbB _).length_eq]; exact hl
 have kn:∀ y∈ZaL (ZaG B.kept),Known B y:=fun y hy=>ZmJ ((ZbB _).mem_iff.mp hy)
 generalize ZaL (ZaG B.kept)=ps at *
 refine ⟨D0,rfl,⟨_,.of hD0⟩,Zbs ((ps).map (Zjt (fun x=>decide (x≠n)))) (Zaj (by rw [List.length_map]; omega)) (fun σ=>∃ w,σ=[w,some (.str n)]) ⟨_,rfl⟩ (fun j H4 hj sm=>?go) (fun H4 sm=>?stop) (fun j σ H4 x H5 z hz hσ sm hx C hC=>?step) (fun P1 H1 nP s1 hP=>?fin)⟩
 case go=>exact ⟨_,_,sm.sql (.of hD0),List.getElem?_eq_getElem (by rw [List.length_map]; rw [List.length_map] at hj; exact hj)⟩
 case stop=>exact ⟨_,sm.sql (.of hD0),by rw [List.length_map,List.length_map]; exact Nat.le_refl _⟩
 case step =>
  obtain ⟨w,rfl⟩:=hσ
  obtain ⟨rfl,hx2⟩:=hx
  obtain ⟨y,hy,rfl⟩:=Zis (hx2 _ (sm.sql (.of hD0)))
  rw [List.getElem?_map,hy] at hz
  obtain rfl:=Option.some.inj hz
  refine ⟨_,rfl,_,rfl,rfl,_,rfl,?_⟩
  by_cases e:y=n
  ·rw [show Zjt (fun x=>decide (x≠n)) y=none from if_neg (by show ¬ decide (y≠n)=true; rw [decide_eq_false (fun z=>z e)]; decide)] at hC
   exact ZaB (by show (!decide (V.str y=V.str n))=false; rw [e,decide_eq_true rfl]; rfl) (hC _ _ ⟨_,rfl⟩ (Same.refl _))
  ·rw [show Zjt (fun x=>decide (x≠n)) y=some (.str y) from if_pos (decide_eq_true e)] at hC
   exact Zbe (by show (!decide (V.str y=V.str n))=true; rw [decide_eq_false (fun z=>e (V.str.inj z))]; rfl) ⟨_,rfl,hC _ _ ⟨_,rfl⟩ (Same.refl _)⟩
 case fin =>
 rw [ZdJ] at hP
 have fl:(ps.filter fun x=>decide (x≠n)).length<64:=Nat.lt_of_le_of_lt (List.length_filter_le ..) sl
 have kn2:∀ y∈ps.filter (fun x=>decide (x≠n)),Known B y:=fun y hy=>kn y (List.mem_filter.mp hy).1
 generalize ps.filter (fun x=>decide (x≠n))=qs at *
 have s01:=s0.trans s1
 have hB1:=hB.mono s01
 cases o with
 | none =>
  cases (show z0=.non from hz0)
  refine ⟨_,rfl,rfl,_,rfl,Zbe (by rfl) ⟨_,rfl,P1,rfl,⟨_,.of hP⟩,Zbs ((qs).map (Zjt (ZqG B none))) (Zaj (by rw [List.length_map]; omega)) (fun σ=>∃ w,σ=[w,some (.ref b)]) ⟨_,rfl⟩ (fun j H4 hj sm=>?go2) (fun H4 sm=>?stop2) (fun j σ H4 x H5 z hz hσ sm hx C hC=>?step2) (fun P2 H2 nP2 s2 hP2=>?fin2)⟩⟩
  case go2=>exact ⟨_,_,sm.sql (.of hP),List.getElem?_eq_getElem (by rw [List.length_map]; rw [List.length_map] at hj; exact hj)⟩
  case stop2=>exact ⟨_,sm.sql (.of hP),by rw [List.length_map,List.length_map]; exact Nat.le_refl _⟩
  case step2 =>
   obtain ⟨w,rfl⟩:=hσ
   obtain ⟨rfl,hx2⟩:=hx
   obtain ⟨y,hy,rfl⟩:=Zis (hx2 _ (sm.sql (.of hP)))
   rw [List.getElem?_map,hy] at hz
   obtain rfl:=Option.some.inj hz
   have hv5:=(hv.mono s01).mono sm
   have hB5:=hB1.mono sm
   refine ⟨_,rfl,b,dx,_,rfl,hB5.ob,rfl,_,rfl,rfl,.ref b,.str y,B,rfl,hv5,.inr ⟨y,rfl,kn2 y (List.mem_of_getElem? hy),fun H6 s6=>⟨rfl,_,rfl,?_⟩⟩⟩
   unfold ZgH
   cases hd:Zco y B.kept with
   | none =>
    rw [show Zjt (ZqG B none) y=some (.str y) from if_pos (by show (Zco y B.kept).isNone=true; rw [hd]; rfl)] at hC
    exact Zbe (by rfl) ⟨_,rfl,hC _ _ ⟨_,rfl⟩ s6⟩
   | some r =>
    rw [show Zjt (ZqG B none) y=none from if_neg (by show ¬ (Zco y B.kept).isNone=true; rw [hd]; exact fun z=>by cases z)] at hC
    exact ZaB (by rfl) (hC _ _ ⟨_,rfl⟩ s6)
  case fin2 =>
   rw [ZdJ] at hP2
   exact ql _ rfl _ _ (s01.trans s2) (Zbq s01 nP2) hP2
 | some zs =>
  obtain ⟨l,rfl,hzl⟩:=hz0
  refine ⟨_,rfl,rfl,_,rfl,ZaB (by rfl) ⟨_,rfl,P1,rfl,⟨_,.of hP⟩,Zbs ((qs).map (Zjt (ZqG B (some zs)))) (Zaj (by rw [List.length_map]; omega)) (fun σ=>∃ w,σ=[w,some (.ref l)]) ⟨_,rfl⟩ (fun j H4 hj sm=>?go3) (fun H4 sm=>?stop3) (fun j σ H4 x H5 z hz hσ sm hx C hC=>?step3) (fun P2 H2 nP2 s2 hP2=>?fin3)⟩⟩
  case go3=>exact ⟨_,_,sm.sql (.of hP),List.getElem?_eq_getElem (by rw [List.length_map]; rw [List.length_map] at hj; exact hj)⟩
  case stop3=>exact ⟨_,sm.sql (.of hP),by rw [List.length_map,List.length_map]; exact Nat.le_refl _⟩
  case step3 =>
   obtain ⟨w,rfl⟩:=hσ
   obtain ⟨rfl,hx2⟩:=hx
   obtain ⟨y,hy,rfl⟩:=Zis (hx2 _ (sm.sql (.of hP)))
   rw [List.getElem?_map,hy] at hz
   obtain rfl:=Option.some.inj hz
   refine ⟨_,rfl,_,rfl,l,_,rfl,.inl ((s01.trans sm).sql hzl),rfl,Zfs _,_,rfl,?_⟩
   by_cases e:y∈zs
   ·rw [show Zjt (ZqG B (some zs)) y=some (.str y) from if_pos (decide_eq_true e)] at hC
    exact Zbe (by show inV (.str y) (zs.map V.str)=true; rw [Zd2]; exact decide_eq_true e) ⟨_,rfl,hC _ _ ⟨_,rfl⟩ (Same.refl _)⟩
   ·rw [show Zjt (ZqG B (some zs)) y=none from if_neg (by show ¬ decide (y∈zs)=true; rw [decide_eq_false e]; decide)] at hC
    exact ZaB (by show inV (.str y) (zs.map V.str)=false; rw [Zd2]; exact decide_eq_false e) (hC _ _ ⟨_,rfl⟩ (Same.refl _))
  case fin3 =>
   rw [ZdJ] at hP2
   exact ql _ rfl _ _ (s01.trans s2) (Zbq s01 nP2) hP2
theorem ZkK (T:Tx K w mg) (Zc6:Zeg P base T) (Zf4:Ziz P base T):ZeS P base T:=by
 refine FunD.okX (k:=8) T.F_living_at Zj1 (fun vs H Q E h=>h.1) (fun cdv A outer s H vs Q E hr h=>?_)
 obtain ⟨-,h⟩:=h
 obtain ⟨b,dx,k,bi,li,ti,su,B,x,z,rfl,hB,h⟩:=h
 refine ⟨_,(Zah (Zax (Zas Zf4 (hr.mono (by decide)) (by rfl) T.Zcw.m T.Zcw.F.kp T.Zcw.b .nil ZbT (Zaa (Zas Zc6 (hr.mono (by decide)) (by rfl) T.Zbm.m T.Zbm.F.kp T.Zbm.b .nil ZbT (Zaa (pv 0) (Zaa (pv 1) Zac))) (Zaa (pv 1) (Zaa (pv 2) Zac)))))),?_⟩
 rcases h with ⟨hx,hE⟩ | ⟨n,rfl,kn,h⟩
 ·exact ⟨_,rfl,_,rfl,rfl,b,dx,k,bi,li,ti,su,B,x,rfl,hB,.inl ⟨hx,hE⟩⟩
 refine ⟨_,rfl,_,rfl,rfl,b,dx,k,bi,li,ti,su,B,.str n,rfl,hB,.inr ⟨n,rfl,kn,?_⟩⟩
 rcases h with ⟨e,hE⟩ | ⟨d,pool,o,e,ub,hz,q⟩
 ·exact .inl ⟨e,hE⟩
 refine .inr ⟨d,pool,e,ub,fun H1 b1 dx1 k1 bi1 li1 ti1 su1 B1 hB1 e1 s1=>?_⟩
 have bl:(ZaG B1.kept).length<64:=by
  have h1:(ZaG B1.kept).length≤B1.kept.length:=List.length_filterMap_le ..
  have h2:=ZdL e1
  have h3:=List.length_filter_le (fun e:Ent=>decide (e.day≤d)) (B.kept.map (·.1))
  rw [List.length_map] at h3
  have:=ub.2.2.2
  omega
 exact ⟨_,rfl,_,rfl,rfl,.ref b1,n,z,o,B1,rfl,⟨b1,dx1,k1,bi1,li1,ti1,su1,rfl,hB1⟩,bl,hz.mono s1,fun H2 D s2 nD hD=>q _ D B1 (s1.trans s2) (Zbq s1 nD) e1 hD⟩
theorem Zi2 (T:Tx K w mg)  : Zeq P base T:=by
 refine Fun.okX (k:=0) T.ZaT.F ZdO (fun vs H Q E h=>h.1) (fun cdv A outer s H vs Q E hr h=>?_)
 obtain ⟨-,h⟩:=h
 obtain ⟨l,ns,k,rfl,hl,hlen,k0,q⟩:=h
 refine ⟨_, (Zae (ZaC (i := 2) ZdO.nd rfl (Or.inl rfl) Zad)
   (Zae (Za8 (Zaq Zmt (pv 1) (Zaz ZaN (by rfl) T.n_len Zcu (Zaa (pv 0) Zac)) (Zau _)) (Zah (ZaC (i:=2) ZdO.nd rfl (Or.inl rfl) (Zar ZaW (pv 0) (pv 1) (fun _ _=>rfl)))) Zay)
   (Zah (Zax (ZaI Zbw (ZaI Zl1 (pv 2) Zad) (ZaI Zir Zad Zad)))))),?_⟩
 have zd:∀ n:Int,1≤n->n≤20000000->n≠0∧n.natAbs<2 ^ 1000:=fun n h1 h2=>⟨by omega,Nat.lt_of_le_of_lt (show n.natAbs≤20000000 by omega) (by decide +kernel)⟩
 have cp:Zp6 10 24:=⟨by decide,by decide,by decide +kernel⟩
 refine ZdI (fun σ' H'=>σ'=[some (.ref l),some (.int k),some (.int 0)]∧H'=H) (fun nx hnx=>hnx _ _ ⟨rfl,rfl⟩) ?_
 rintro σ' H' ⟨rfl,rfl⟩
 refine ZdI (fun σ' H2=>H2=H'∧∃ z:Int,σ'=[some (.ref l),some (.int k),some (.int z)]) (fun nx hnx=>?_) ?_
 ·refine ⟨_,rfl,_,rfl,l,_,rfl,.inl hl,_,_,rfl,rfl,_,rfl,?_⟩
  by_cases kl:k<((ns.map V.int).length:Int)
  ·rw [decide_eq_true kl]
   obtain ⟨j,rfl⟩:∃ j:Nat,k=(j:Int):=⟨k.toNat,by omega⟩
   exact Zex ⟨_,rfl,_,rfl,l,_,_,_,rfl,rfl,hl,Zgk (ZoT (by rw [List.length_map] at kl; omega)),hnx _ _ ⟨rfl,_,rfl⟩⟩
  ·rw [decide_eq_false kl]
   exact Zc8 (hnx _ _ ⟨rfl,0,rfl⟩)
 rintro σ' H2 ⟨rfl,z,rfl⟩
 exact ⟨_,rfl,_,_,rfl,rfl,.inr ⟨by decide,by decide⟩,_,_,rfl,rfl,cp,_,_,rfl,rfl,(by decide:(10:Int) ^ (24:Int).toNat≠0),q _ (Int.fmod_nonneg_of_pos _ (by decide))⟩
theorem Zjj (T:Tx K w mg)  : Zgx P base T:=by
 refine Fun.okX (k:=0) T.ZbW.F Zbf (fun vs H Q E h=>h.1) (fun cdv A outer s H vs Q E hr h=>?_)
 obtain ⟨-,h⟩:=h
 obtain ⟨c,rfl,q⟩:=h
 refine ⟨_, (Zae (ZaC (i := 1) Zbf.nd rfl (Or.inr rfl) Zaw)
   (Zae (ZaC (i:=2) Zbf.nd rfl (Or.inl rfl) (ZaI Zdi Zad (ZaI Zbw (pv 0) Zad)))
   (Zae (ZaC (i:=3) Zbf.nd rfl (Or.inl rfl) (ZaI Zbw (ZaI Zbx (pv 0) Zad) (pv 2)))
   (Zae (ZaC (i:=4) Zbf.nd rfl (Or.inl rfl) (Zar ZaW (ZbL (Zaa Zad (Zaa Zad (Zaa Zad (Zaa Zad (Zaa Zad (Zaa Zad (Zaa Zad (Zaa Zad (Zaa Zad (Zaa Zad (Zaa Zad (Zaa Zad Zac))))))))))))) (ZaI Zbw (ZaI Zbx (pv 0) Zad) Zad) (fun _ _=>rfl)))
   (Zae (ZaC (i:=5) Zbf.nd rfl (Or.inl rfl) (Zll PySem.F.plainAttrs_str PySem.F.slot_str_join PySem.F.type_str_join (ZqF K) Zaw (Zaa (Zb6 rfl (Za5 (N:=["_law_j","_law_letters","_law_cell"]) ["_law_letters","_law_cell"] [none,some 1,some 0] rfl (by decide +kernel) (by decide +kernel) (by rfl) (by rfl) (by rfl) (by rfl) (by rfl)) (Zdy (by rfl) T.n_range (Zaa (pv 2) Zac)) (fun _ _ _=>(ZaF (i:=0) Ztv rfl (Or.inl rfl))) (fun _ _ _=>Ze4) (fun _ _ _=>(Zar ZpJ (pv 1) (ZaI Zbw (ZaI Zdi (ZaI Zbx (pv 2) Zad) (ZaI Zl1 (pv 0) (pv 0))) Zad) (fun _ _=>rfl)))) Zac)))
   (Zae (ZaC (i:=6) Zbf.nd rfl (Or.inl rfl) (ZbL Zac))
   (Zae (Zd7 PassesOwn.leaving rfl (Zdy (by rfl) T.n_range (Zaa Zad Zac)) (ZaF (i:=7) Zbf.nd rfl (Or.inl rfl))
    (Zae (ZaC (i:=8) Zbf.nd rfl (Or.inl rfl) (Zar ZpJ (pv 1) (ZaI Zbw (ZaI Zdi (ZaI Zl1 (pv 7) (pv 4)) (ZaI Zbx (pv 0) Zad)) Zad) (fun _ _=>rfl)))
   (Zah (Za9 (Zll PySem.F.plainAttrs_list PySem.F.slot_list_append PySem.F.type_list_append ZcV (pv 6) (Zaa (ZaI ZiN (ZaI ZiN (Zd5 ZpP (pv 5) Zgj (ZeA (pv 3))) (pv 8)) (Zd5 ZpP (pv 5) (ZeA (ZaI Zdi (pv 3) Zad)) Zgj)) Zac))))))
   (Zah (Zax (pv 6)))))))))),?_⟩
 have zd:∀ n:Int,1≤n->n≤20000000->n≠0∧n.natAbs<2 ^ 1000:=fun n h1 h2=>⟨by omega,Nat.lt_of_le_of_lt (show n.natAbs≤20000000 by omega) (by decide +kernel)⟩
 have s0:=Int.fmod_nonneg_of_pos c (show (0:Int)<8 by decide)
 have s1:=Int.fmod_lt_of_pos c (show (0:Int)<8 by decide)
 refine ⟨_,rfl,_,_,rfl,rfl,(by decide:(8:Int)≠0),_,_,rfl,rfl,?_⟩
 try dsimp only
 obtain ⟨n,hn⟩:∃ n:Nat,1+c.fmod 8=(n:Int):=⟨(1+c.fmod 8).toNat,by omega⟩
 rw [hn]
 have n1:1≤n∧n≤8:=by omega
 have a0:=Int.fmod_nonneg_of_pos (c.fdiv 8) (show (0:Int)<n by omega)
 have a1:=Int.fmod_lt_of_pos (c.fdiv 8) (show (0:Int)<n by omega)
 refine ⟨_,rfl,_,_,rfl,rfl,zd 8 (by decide) (by decide),_,rfl,_,_,rfl,rfl,(show (n:Int)≠0 by omega),?_⟩
 try dsimp only
 obtain ⟨p,hp⟩:∃ p:Nat,(c.fdiv 8).fmod n=(p:Int):=⟨((c.fdiv 8).fmod n).toNat,by omega⟩
 rw [hp]
 have pn:p<n:=by omega
 have b0:=Int.fmod_nonneg_of_pos (c.fdiv 64) (show (0:Int)<12 by decide)
 have b1:=Int.fmod_lt_of_pos (c.fdiv 64) (show (0:Int)<12 by decide)
 obtain ⟨by',hby,aty⟩:=ZsC b0 b1
 refine ⟨few rfl,fun Lb nLb=>⟨_,rfl,_,_,rfl,rfl,zd 64 (by decide) (by decide),_,_,rfl,rfl,(by decide:(12:Int)≠0),Lb,_,_,_,rfl,rfl,.of Zab,aty,?_⟩⟩
 dsimp only [ZbE]
 have sb:Same H (upd H Lb (.lst (bys.map V.int))):=Zag nLb
 change Zr2 _ _ _ _ (upd H Lb (.lst (bys.map V.int)))
 generalize upd H Lb (.lst (bys.map V.int))=H1 at *
 refine ⟨rfl,_,rfl,n,rfl,by omega,by omega,ZeG ((Zcp c n).map fun x=>V.str ⟨#[x]⟩) (Zaj (by rw [List.length_map,ZcX]; omega)) (fun σ=>∃ w,σ=[w,some (.str "abcdefghijklmnopqrstuvwxyz"),some (.int c)]) ⟨_,rfl⟩ (fun i H3 hi sm=>?go) (fun H3 sm=>?stop) (fun i σ H3 x H4 y hy hσ sm hx C hC=>?step) (fun D2 H3 nD2 sm hD2=>?fin)⟩
 case go =>
  rw [List.length_map,ZcX] at hi
  show i<(n:Int).toNat
  omega
 case stop =>
  rw [List.length_map,ZcX]
  show (n:Int).toNat≤n
  omega
 case step =>
  obtain ⟨w,rfl⟩:=hσ
  obtain ⟨rfl,rfl⟩:=hx
  have il:i<n:=by
   have:=(List.getElem?_eq_some_iff.mp hy).1
   rwa [List.length_map,ZcX] at this
  obtain rfl:V.str ⟨#[Ziu (c.fdiv 768+(i:Int)*i)]⟩=y:=by
   unfold Zcp at hy
   rw [List.getElem?_map,List.getElem?_map,List.getElem?_range il] at hy
   exact Option.some.inj hy
  rw [show (0:Int)+(i:Int)=i from Int.zero_add _]
  have cm:CMul (i:Int) (i:Int):=.inl ⟨by omega,by omega⟩
  exact ⟨_,rfl,_,rfl,_,_,rfl,rfl,zd 768 (by decide) (by decide),_,rfl,_,rfl,_,_,rfl,rfl,cm,_,_,rfl,rfl,_,_,rfl,rfl,(by decide:(26:Int)≠0),_,_,_,rfl,rfl,few rfl,ZiD _,hC _ _ ⟨_,rfl⟩ (Same.refl _)⟩
 case fin =>
 have hbl:=ZcX c n
 refine ⟨_,D2,(Zcp c n).map fun x=>(⟨#[x]⟩:Str),rfl,rfl,.inl (.of (by rw [hD2,List.map_map]; rfl)),?bound,?_⟩
 case bound =>
  rw [List.length_map,ZcX,List.map_map]
  have:((Zcp c n).map ((fun x:Str=>x.length) ∘ fun x:Nat=>(⟨#[x]⟩:Str))).sum=n:=by
   have e1:(Zcp c n).map ((fun x:Str=>x.length) ∘ fun x:Nat=>(⟨#[x]⟩:Str))=(Zcp c n).map fun _=>1:=List.map_congr_left fun x _=>rfl
   rw [e1,List.map_const',hbl]
   simp
  rw [this]
  show n+n*0≤16777216
  omega
 rw [Zix]
 dsimp only [ZbE]
 refine ⟨few rfl,fun Df nDf=>?_⟩
 have tf:=Zag (o:=.lst []) nDf
 have s3:=sb.trans sm
 let nm:Nat->Str:=fun k=>nam (Zcp c n) p ((k:Int)*by'+c.fdiv 19968)
 refine ⟨26,rfl,by decide,by decide,ZfF (fun i σ Hc=>∃ v7 v8,σ=[some (.int c),some (.str "abcdefghijklmnopqrstuvwxyz"),some (.int n),some (.int p),some (.int by'),some (.str ⟨(Zcp c n).toArray⟩),some (.ref Df),v7,v8]∧Same H3 Hc∧Hc Df=some (.lst (((List.range i).map nm).map V.str))) ?start ?turn ?done⟩
 case start=>exact ⟨none,none,rfl,tf,Zab⟩
 case done =>
  rintro σ Hc ⟨v7,v8,rfl,sc,hDf⟩
  refine ⟨_,rfl,q _ Df _ (s3.trans sc) (Zbq s3 nDf) hDf ⟨by rw [List.length_map,List.length_range]; rfl,fun x hx=>?_,?_⟩⟩
  ·obtain ⟨k,_,rfl⟩:=List.mem_map.mp hx
   exact ZrZ n1.1 n1.2 pn
  ·refine ZjV (fun k hk k' hk' e=>?_) List.nodup_range
   exact Zq7 hby (List.mem_range.mp hk) (List.mem_range.mp hk') (Zqe (by rw [hbl]; exact pn) e)
 case turn =>
  rintro i σ Hc hi ⟨v7,v8,rfl,sc,hDf⟩
  rw [show (0:Int)+(i:Int)=i from Int.zero_add _]
  have hi':i<26:=hi
  have cm:CMul (i:Int) by':=.inl ⟨by omega,by omega⟩
  refine ⟨_,rfl,_,rfl,_,rfl,_,_,rfl,rfl,cm,_,rfl,_,_,rfl,rfl,zd 19968 (by decide) (by decide),_,_,rfl,rfl,_,_,rfl,rfl,(by decide:(26:Int)≠0),_,_,_,rfl,rfl,few rfl,ZiD _,?_⟩
  dsimp only [ZbE]
  have e1:=Zsz (Zcp c n) (k:=p) (by rw [hbl]; omega)
  have e2:=Zsj (Zcp c n) (k:=p+1) (by rw [hbl]; omega)
  have lt1:((Zcp c n).take p).length≤8:=by rw [List.length_take,hbl]; omega
  have lt2:((Zcp c n).drop (p+1)).length≤8:=by rw [List.length_drop,hbl]; omega
  have bl:(⟨(Zcp c n).toArray⟩:Str).length≤sizeLine:=by rw [Zef,hbl]; exact Nat.le_of_lt (Zaj (by omega))
  have k1:(Txt.slice ⟨(Zcp c n).toArray⟩ none (some (p:Int))).length+(⟨#[Ziu ((i:Int)*by'+c.fdiv 19968)]⟩:Str).length≤sizeLine:=by rw [e1,Zef]; exact Nat.le_of_lt (Zaj (by show _+1≤_; omega))
  have k2:(Txt.slice ⟨(Zcp c n).toArray⟩ none (some (p:Int))++(⟨#[Ziu ((i:Int)*by'+c.fdiv 19968)]⟩:Str)).length+(Txt.slice ⟨(Zcp c n).toArray⟩ (some ((p:Int)+1)) none).length≤sizeLine:=by
   rw [e1,show ((p:Int)+1)=((p+1:Nat):Int) from rfl,e2,ZlU,Zef,Zef,List.length_append]
   exact Nat.le_of_lt (Zaj (by show _+1+_≤_; omega))
  refine ⟨_,rfl,.inl ⟨rfl,_,.of hDf⟩,_,rfl,_,rfl,_,rfl,_,rfl,bl,_,rfl,_,_,rfl,rfl,k1,_,rfl,_,rfl,_,_,rfl,rfl,_,rfl,_,rfl,bl,_,_,rfl,rfl,k2,Df,_,_,rfl,rfl,hDf,Zaj (by rw [List.length_map,List.length_map,List.length_range]; omega),?_⟩
  refine ⟨_,_,rfl,ZdB sc nDf,?_⟩
  rw [Zab,List.range_succ,List.map_append,List.map_append]
  have en:Txt.slice ⟨(Zcp c n).toArray⟩ none (some (p:Int))++(⟨#[Ziu ((i:Int)*by'+c.fdiv 19968)]⟩:Str)++Txt.slice ⟨(Zcp c n).toArray⟩ (some ((p:Int)+1)) none=nm i:=by
   rw [e1,show ((p:Int)+1)=((p+1:Nat):Int) from rfl,e2,ZlU]
   refine Zpo ?_
   show (((Zcp c n).take p++[Ziu ((i:Int)*by'+c.fdiv 19968)]).toArray++((Zcp c n).drop (p+1)).toArray).toList=_
   simp [nm,nam]
  rw [en]
  rfl
theorem Zj0 (T:Tx K w mg)  : Zg2 P base T:=by
 refine Fun.okX (k:=0) T.Zbu.F Zkq (fun vs H Q E h=>h.1) (fun cdv A outer s H vs Q E hr h=>?_)
 obtain ⟨-,h⟩:=h
 obtain ⟨l,xs,d,rfl,hl,hlen,d0,q⟩:=h
 refine ⟨_, (Zae (Za8 (PW.pt (Zi6 (Zaq Zcg (pv 1) Zad (Zau _)) (Zho (Zaq (Znw hr.units) (pv 0) (ZbL Zac) (Zau _))))) (Zah (Zax Zaw)) Zay)
   (Zah (Zax (Zar ZaW (pv 0) (ZaI ZhL (ZaI ZhL Zad Zad) (ZaI Zbw (pv 1) (Zaz ZaN (by rfl) T.n_len Zcu (Zaa (pv 0) Zac)))) (fun _ _=>rfl))))),?_⟩
 refine ⟨_,rfl,rfl,_,rfl,ZmQ (fun h=>Zex (q _ "" (Same.refl _) (.inl rfl))) (fun h=>?_)⟩
 refine ⟨_,rfl,few rfl,fun L1 n1=>?_⟩
 have s1:=Zag (o:=.lst []) n1
 have i1:Is K (upd H L1 (.lst [])) (.lst (xs.map D.str)) (.ref l):=⟨l,_,rfl,s1.sql hl,Zdo xs⟩
 have i2:Is K (upd H L1 (.lst [])) (.lst ([]:List D)) (.ref L1):=⟨L1,_,rfl,.of Zab,rfl⟩
 refine ⟨_,_,i1,i2,.inr ⟨_,_,rfl,rfl⟩,by show Zji (xs.map D.str)+1≤60; rw [ZfG]; decide,_,rfl,?_⟩
 show if Zh2 (xs.map D.str) (([]:List Str).map D.str)=true then _ else _
 rw [ZfU]
 by_cases hx:xs=[]
 ·exact Zbe (decide_eq_true hx) (q _ "" s1 (.inl rfl))
 refine ZaB (decide_eq_false hx) ?_
 have hlx:0<xs.length:=List.length_pos_iff.mpr hx
 have m0:=Int.fmod_nonneg_of_pos d (show (0:Int)<xs.length by omega)
 have m1:=Int.fmod_lt_of_pos d (show (0:Int)<xs.length by omega)
 have ll:((((xs.map V.str).length:Nat):Int))=xs.length:=by rw [List.length_map]
 obtain ⟨n,hn,atn⟩:=ZqU (nms:=xs) (z:=0-1-d.fmod xs.length) (by omega) (by omega)
 refine ⟨_,rfl,_,_,rfl,rfl,_,rfl,_,rfl,l,_,rfl,.inl (s1.sql hl),_,_,rfl,rfl,by rw [ll]; omega,_,_,rfl,rfl,l,_,_,_,rfl,rfl,s1.sql hl,?_,q _ n s1 (.inr hn)⟩
 rw [ll]
 exact atn
theorem Zif (T:Tx K w mg) (Zd4:Zg2 P base T):ZfJ P base T:=by
 refine Fun.okX (k:=1) T.ZbF.F Za1 (fun vs H Q E h=>h.1) (fun cdv A outer s H vs Q E hr h=>?_)
 obtain ⟨-,h⟩:=h
 obtain ⟨lc,ln,cs,ns,rfl,hc,c0,c20,cp0,hn,nms,q⟩:=h
 refine ⟨_, (Zae (ZaC (i := 2) Za1.nd rfl (Or.inl rfl) (ZbL Zac))
   (Zae (ZaC (i:=3) Za1.nd rfl (Or.inr rfl) (Zar ZaW (ZbL (Zaa (ZaI ZhL Zad (ZaI Zir Zad Zad)) (Zaa (Zpe Zma Zad) (Zaa Zad (Zaa (ZaI ZhL Zad (ZaI Zir Zad Zad)) Zac))))) (ZaI Zbw (ZaI Zbx (Zar ZaW (pv 0) Zad (fun _ _=>rfl)) Zad) Zad) (fun _ _=>rfl)))
   (Zae (Zd7 PassesOwn.leaving rfl (Zdy (by rfl) T.n_range (Zaa (Zaz ZaN (by rfl) T.n_len Zcu (Zaa (pv 0) Zac)) Zac)) (ZaF (i:=4) Za1.nd rfl (Or.inl rfl))
    (Zae (ZaC (i:=5) Za1.nd rfl (Or.inl rfl) (Zar ZaW (pv 0) (pv 4) (fun _ _=>rfl)))
   (Zae (Za8 (Zaq Zoa (ZaI Zbw (ZaI Zbx (pv 5) Zad) Zad) Zad (Zau _)) (Zah (ZaC (i:=3) Za1.nd rfl (Or.inr rfl) (ZaI Zdi (ZaI Zdi (pv 3) Zad) (ZaI Zbw (ZaI Zbx (pv 5) Zad) (ZaI Zir Zad Zad))))) Zay)
   (Zae (Zgg (i:=6) rfl  Za1.nd rfl (Or.inl rfl) (Za5 (N:=["_law_row","_law_day_here"]) ["_law_day_here"] [none,some 3] rfl (by decide +kernel) (by decide +kernel) (by rfl) (by rfl) (by rfl) (by rfl) (by rfl)) (Zbv (pv 2)) (fun _ _ _=>(ZaF (i:=0) Zsr rfl (Or.inl rfl))) (fun _ _ _=>(Zck (PW.pt (Zfo (Zaq Zcg (Zar (ZcL K rfl) (pv 0) Zad (fun _ _=>rfl)) Zaw (Zau _)) (Zew (Zaq Zmt (Zar (ZcL K rfl) (pv 0) Zad (fun _ _=>rfl)) (pv 1) (Zau _))))))) (fun _ _ _=>(Zar (ZcL K rfl) (pv 0) Zad (fun _ _=>rfl))))
   (Zae (Zgg (i:=7) rfl  Za1.nd rfl (Or.inl rfl) (Za5 (N:=["_law_row","_law_day_here"]) ["_law_day_here"] [none,some 3] rfl (by decide +kernel) (by decide +kernel) (by rfl) (by rfl) (by rfl) (by rfl) (by rfl)) (Zbv (pv 2)) (fun _ _ _=>(ZaF (i:=0) Zsr rfl (Or.inl rfl))) (fun _ _ _=>(Zck (PW.pt (Zfo (Zaq Zcg (Zar (ZcL K rfl) (pv 0) Zad (fun _ _=>rfl)) Zaw (Zau _)) (Zew (Zaq Zmt (Zar (ZcL K rfl) (pv 0) Zad (fun _ _=>rfl)) (pv 1) (Zau _))))))) (fun _ _ _=>(Zar (ZcL K rfl) (pv 0) Zad (fun _ _=>rfl))))
   (Zae (ZaC (i:=8) Za1.nd rfl (Or.inl rfl) (Zar ZaW (ZbL (Zaa Zaw (Zaa Zaw (Zaa Zaw (Zaa Zaw (Zaa Zaw Zac)))))) (ZaI Zbw (pv 5) Zad) (fun _ _=>rfl)))
   (Zah (Za9 (Zll PySem.F.plainAttrs_list PySem.F.slot_list_append PySem.F.type_list_append ZcV (pv 2) (Zaa (Zby (Zaa Zaw (Zaa (Zar ZaW (pv 1) (pv 4) (fun _ _=>rfl)) (Zaa (pv 8) (Zaa (pv 3) (Zaa (Zas Zd4 (hr.mono (by decide)) (by rfl) T.Zbu.m T.Zbu.F.kp T.Zbu.b .nil Zai (Zaa (pv 6) (Zaa (ZaI Zbw (ZaI Zbx (pv 5) Zad) Zad) Zac))) (Zaa (Zas Zd4 (hr.mono (by decide)) (by rfl) T.Zbu.m T.Zbu.F.kp T.Zbu.b .nil Zai (Zaa (pv 7) (Zaa (ZaI Zbw (ZaI Zbx (pv 5) Zad) Zad) Zac))) Zac))))))) Zac))))))))))
   (Zah (Zax (pv 2)))))),?_⟩
 have zd:∀ n:Int,1≤n->n≤20000000->n≠0∧n.natAbs<2 ^ 1000:=fun n h1 h2=>⟨by omega,Nat.lt_of_le_of_lt (show n.natAbs≤20000000 by omega) (by decide +kernel)⟩
 have cp17:Zp6 10 17:=⟨by decide,by decide,by decide +kernel⟩
 have cp16:Zp6 10 16:=⟨by decide,by decide,by decide +kernel⟩
 have cp9:Zp6 10 9:=⟨by decide,by decide,by decide +kernel⟩
 refine ⟨few rfl,fun D nD=>?_⟩
 have sD:=Zag (o:=.lst []) nD
 dsimp only [ZbE]
 refine ZdI (fun σ' H'=>∃ d0:Int,σ'=[some (.ref lc),some (.ref ln),some (.ref D),some (.int d0),none,none,none,none,none]∧Same H H'∧H' D=some (.lst [])∧-10 ^ 17≤d0∧d0≤0) (fun nx hnx=>?_) ?_
 ·refine ⟨_,_,rfl,rfl,cp17,_,_,rfl,rfl,_,rfl,_,_,rfl,rfl,cp16,_,_,rfl,rfl,few rfl,fun L1 n1=>?_⟩
  have t1:=Zag (o:=.lst [V.int (0-10 ^ (17:Int).toNat),.int (-1),.int 0,.int (0-10 ^ (16:Int).toNat)]) n1
  have h0:cs[0]?=some cs[0]:=List.getElem?_eq_getElem c0
  generalize cs[0]=x at h0
  have z0:=Int.fmod_nonneg_of_pos (x.fdiv 7) (show (0:Int)<4 by decide)
  have z1:=Int.fmod_lt_of_pos (x.fdiv 7) (show (0:Int)<4 by decide)
  have hc1:=(sD.trans t1).sql hc
  have hD1:=t1 _ _ (Zab (H:=H) (a:=D) (o:=.lst []))
  refine ⟨_,rfl,lc,_,_,_,rfl,rfl,hc1,Zaf (j:=0) (by rw [List.getElem?_map,h0]; rfl),_,_,rfl,rfl,zd 7 (by decide) (by decide),_,_,rfl,rfl,(by decide:(4:Int)≠0),?_⟩
  dsimp only
  generalize (x.fdiv 7).fmod 4=z at *
  obtain rfl | rfl | rfl | rfl:z=0∨z=1∨z=2∨z=3:=by omega
  ·exact ⟨L1,_,_,_,rfl,rfl,.of Zab,Zaf (j:=0) rfl,hnx _ _ ⟨_,rfl,sD.trans t1,hD1,by decide,by decide⟩⟩
  ·exact ⟨L1,_,_,_,rfl,rfl,.of Zab,Zaf (j:=1) rfl,hnx _ _ ⟨_,rfl,sD.trans t1,hD1,by decide,by decide⟩⟩
  ·exact ⟨L1,_,_,_,rfl,rfl,.of Zab,Zaf (j:=2) rfl,hnx _ _ ⟨_,rfl,sD.trans t1,hD1,by decide,by decide⟩⟩
  ·exact ⟨L1,_,_,_,rfl,rfl,.of Zab,Zaf (j:=3) rfl,hnx _ _ ⟨_,rfl,sD.trans t1,hD1,by decide,by decide⟩⟩
 rintro σ' H0 ⟨d0,rfl,s0,hD0,dl,dh⟩
 have ll:((((cs.map V.int).length:Nat):Int))=cs.length:=by rw [List.length_map]
 refine ⟨_,rfl,lc,_,rfl,.inl (s0.sql hc),(cs.length:Int),by rw [ll],by omega,by omega,ZfF (fun i σ Hc=>∃ (d:Int) (ks:List (Ent × Addr)) (v4 v5 v6 v7 v8:Option V),σ=[some (.ref lc),some (.ref ln),some (.ref D),some (.int d),v4,v5,v6,v7,v8]∧Same H Hc∧Hc D=some (.lst (ZaQ ks))∧RowsAt K Hc ks∧ks.length=i∧PB ns (ks.map (·.1))∧-10 ^ 17≤d∧d≤10 ^ 9*(i:Int)∧∀ e∈ks.map (·.1),e.day≤d) ?start ?turn ?done⟩
 case start=>exact ⟨d0,[],none,none,none,none,none,rfl,s0,hD0,fun p hp=>(by cases hp),rfl,⟨.nil,fun i e h=>by simp at h,fun i j e e' _ h=>by simp at h⟩,dl,by omega,fun e he=>(by cases he)⟩
 case done =>
  rintro σ Hc ⟨d,ks,v4,v5,v6,v7,v8,rfl,sc,hDc,hR,kl,pb,_,_,_⟩
  exact ⟨_,rfl,q _ D ks sc nD hDc hR pb (by rw [kl]; omega)⟩
 case turn =>
  rintro i σ Hc hi ⟨d,ks,v4,v5,v6,v7,v8,rfl,sc,hDc,hR,kl,pb,d1,d2,d3⟩
  rw [show (0:Int)+(i:Int)=i from Int.zero_add _]
  have il:i<cs.length:=by
   have:i<(cs.length:Int).toNat:=hi
   omega
  have hci:cs[i]?=some cs[i]:=List.getElem?_eq_getElem il
  have c00:=cp0 _ (List.mem_of_getElem? hci)
  generalize cs[i]=c at *
  refine ⟨_,rfl,_,rfl,lc,_,_,_,rfl,rfl,sc.sql hc,Zaf (j:=i) (by rw [List.getElem?_map,hci]; rfl),?_⟩
  dsimp only [ZbE]
  refine ZdI (fun σ' H'=>H'=Hc∧∃ d':Int,σ'=[some (.ref lc),some (.ref ln),some (.ref D),some (.int d'),some (.int i),some (.int c),v6,v7,v8]∧-10 ^ 17≤d'∧d'≤10 ^ 9*((i:Int)+1)∧d≤d') (fun nx hnx=>?_) ?_
  ·have n9:(10:Int) ^ (9:Int).toNat≠0:=by decide
   have e9:(10:Int) ^ (9:Int).toNat=10 ^ 9:=rfl
   have x9:=Zez (c.fdiv 19660800) (show (0:Int)<10 ^ (9:Int).toNat by decide)
   refine ⟨_,rfl,_,_,rfl,rfl,zd 5 (by decide) (by decide),_,_,rfl,rfl,(by decide:(4:Int)≠0),_,_,rfl,rfl,_,rfl,ZmQ (fun _=>?_) (fun _=>hnx _ _ ⟨rfl,d,rfl,d1,by omega,Int.le_refl _⟩)⟩
   refine ⟨_,rfl,_,_,rfl,rfl,_,rfl,_,_,rfl,rfl,zd 19660800 (by decide) (by decide),_,_,rfl,rfl,cp9,_,_,rfl,rfl,n9,_,_,rfl,rfl,hnx _ _ ⟨rfl,_,rfl,?_,?_,?_⟩⟩
   ·show -10 ^ 17≤d+1+(c.fdiv 19660800).fmod (10 ^ (9:Int).toNat)
    omega
   ·show d+1+(c.fdiv 19660800).fmod (10 ^ (9:Int).toNat)≤10 ^ 9*((i:Int)+1)
    rw [e9] at *; omega
   ·show d≤d+1+(c.fdiv 19660800).fmod (10 ^ (9:Int).toNat)
    omega
  rintro σ' H' ⟨rfl,d',rfl,dl',dh',dd'⟩
  refine ⟨_,rfl,D,rfl,⟨_,.of hDc⟩,Zbs (ks.map fun p=>(Zox "he" d' p.1).map V.str) (Zaj (by rw [List.length_map]; omega)) (fun σ=>∃ w,σ=[w,some (.int d')]) ⟨_,rfl⟩ (fun j H4 hj sm=>?go6) (fun H4 sm=>?stop6) (fun j σ H4 x H5 z hz hσ sm hx C hC=>?step6) (fun Lm H2 nLm s2 hLm=>?fin6)⟩
  case go6=>exact ⟨_,_,sm.sql (.of hDc),List.getElem?_eq_getElem (by rw [ZaH]; rw [List.length_map] at hj; exact hj)⟩
  case stop6=>exact ⟨_,sm.sql (.of hDc),by rw [ZaH,List.length_map]; exact Nat.le_refl _⟩
  case step6 =>
   obtain ⟨w,rfl⟩:=hσ
   obtain ⟨rfl,hx2⟩:=hx
   obtain ⟨p,hp,rfl⟩:=ZdP (hx2 _ (sm.sql (.of hDc)))
   have pm:=List.mem_of_getElem? hp
   rw [List.getElem?_map,hp] at hz
   obtain rfl:=Option.some.inj hz
   have hp2:=sm.sqt (hR p pm)
   obtain ⟨n,s,d0,f,m,_,e1,_⟩:=pb.at hp
   obtain ⟨x,u⟩:=p
   cases (show x=_ from e1)
   refine ⟨_,rfl,u,_,_,_,rfl,rfl,hp2,Zaf (j:=2) rfl,rfl,_,rfl,?_⟩
   by_cases e:s="he"
   ·refine Zbe (by show decide (V.str s=V.str "he")=true; rw [e]; exact decide_eq_true rfl) ⟨_,rfl,u,_,_,_,rfl,rfl,hp2,Zaf (j:=3) rfl,_,rfl,_,_,rfl,rfl,_,rfl,?_⟩
    by_cases e2:d0<d'
    ·have es:(Zox "he" d' (.born n s d0 f m)).map V.str=some (.str n):=by show (if s="he"∧d0<d' then some n else none:Option Str).map V.str=_; rw [if_pos ⟨e,e2⟩]; rfl
     dsimp only at hC
     rw [es] at hC
     exact Zbe (decide_eq_true e2) ⟨_,rfl,u,_,_,_,rfl,rfl,hp2,Zaf (j:=1) rfl,hC _ _ ⟨_,rfl⟩ (Same.refl _)⟩
    ·have es:(Zox "he" d' (.born n s d0 f m)).map V.str=none:=by show (if s="he"∧d0<d' then some n else none:Option Str).map V.str=_; rw [if_neg (fun z=>e2 z.2)]; rfl
     dsimp only at hC
     rw [es] at hC
     exact ZaB (decide_eq_false e2) (hC _ _ ⟨_,rfl⟩ (Same.refl _))
   ·have es:(Zox "he" d' (.born n s d0 f m)).map V.str=none:=by show (if s="he"∧d0<d' then some n else none:Option Str).map V.str=_; rw [if_neg (fun z=>e z.1)]; rfl
    dsimp only at hC
    rw [es] at hC
    exact ZaB (by show decide (V.str s=V.str "he")=false; exact decide_eq_false (fun z=>e (V.str.inj z))) (Zc8 (hC _ _ ⟨_,rfl⟩ (Same.refl _)))
  case fin6 =>
  rw [Zng] at hLm
  have hD2:=s2 _ _ hDc
  have hR2:RowsAt K H2 ks:=hR.mono s2
  refine ⟨_,rfl,D,rfl,⟨_,.of hD2⟩,Zbs (ks.map fun p=>(Zox "she" d' p.1).map V.str) (Zaj (by rw [List.length_map]; omega)) (fun σ=>∃ w,σ=[w,some (.int d')]) ⟨_,rfl⟩ (fun j H4 hj sm=>?go7) (fun H4 sm=>?stop7) (fun j σ H4 x H5 z hz hσ sm hx C hC=>?step7) (fun Lw H3 nLw s3 hLw=>?fin7)⟩
  case go7=>exact ⟨_,_,sm.sql (.of hD2),List.getElem?_eq_getElem (by rw [ZaH]; rw [List.length_map] at hj; exact hj)⟩
  case stop7=>exact ⟨_,sm.sql (.of hD2),by rw [ZaH,List.length_map]; exact Nat.le_refl _⟩
  case step7 =>
   obtain ⟨w,rfl⟩:=hσ
   obtain ⟨rfl,hx2⟩:=hx
   obtain ⟨p,hp,rfl⟩:=ZdP (hx2 _ (sm.sql (.of hD2)))
   have pm:=List.mem_of_getElem? hp
   rw [List.getElem?_map,hp] at hz
   obtain rfl:=Option.some.inj hz
   have hp2:=sm.sqt (hR2 p pm)
   obtain ⟨n,s,d0,f,m,_,e1,_⟩:=pb.at hp
   obtain ⟨x,u⟩:=p
   cases (show x=_ from e1)
   refine ⟨_,rfl,u,_,_,_,rfl,rfl,hp2,Zaf (j:=2) rfl,rfl,_,rfl,?_⟩
   by_cases e:s="she"
   ·refine Zbe (by show decide (V.str s=V.str "she")=true; rw [e]; exact decide_eq_true rfl) ⟨_,rfl,u,_,_,_,rfl,rfl,hp2,Zaf (j:=3) rfl,_,rfl,_,_,rfl,rfl,_,rfl,?_⟩
    by_cases e2:d0<d'
    ·have es:(Zox "she" d' (.born n s d0 f m)).map V.str=some (.str n):=by show (if s="she"∧d0<d' then some n else none:Option Str).map V.str=_; rw [if_pos ⟨e,e2⟩]; rfl
     dsimp only at hC
     rw [es] at hC
     exact Zbe (decide_eq_true e2) ⟨_,rfl,u,_,_,_,rfl,rfl,hp2,Zaf (j:=1) rfl,hC _ _ ⟨_,rfl⟩ (Same.refl _)⟩
    ·have es:(Zox "she" d' (.born n s d0 f m)).map V.str=none:=by show (if s="she"∧d0<d' then some n else none:Option Str).map V.str=_; rw [if_neg (fun z=>e2 z.2)]; rfl
     dsimp only at hC
     rw [es] at hC
     exact ZaB (decide_eq_false e2) (hC _ _ ⟨_,rfl⟩ (Same.refl _))
   ·have es:(Zox "she" d' (.born n s d0 f m)).map V.str=none:=by show (if s="she"∧d0<d' then some n else none:Option Str).map V.str=_; rw [if_neg (fun z=>e z.1)]; rfl
    dsimp only at hC
    rw [es] at hC
    exact ZaB (by show decide (V.str s=V.str "she")=false; exact decide_eq_false (fun z=>e (V.str.inj z))) (Zc8 (hC _ _ ⟨_,rfl⟩ (Same.refl _)))
  case fin7 =>
  rw [Zng] at hLw
  dsimp only [ZbE]
  have m0:=Int.fmod_nonneg_of_pos c (show (0:Int)<5 by decide)
  have m1:=Int.fmod_lt_of_pos c (show (0:Int)<5 by decide)
  obtain ⟨so,atso,hso⟩:=ZsB m0 m1
  refine ⟨few rfl,fun L5 n5=>⟨_,rfl,_,_,rfl,rfl,(by decide:(5:Int)≠0),L5,_,_,_,rfl,rfl,.of Zab,atso,?_⟩⟩
  dsimp only [ZbE]
  have t5:=Zag (o:=.lst [V.str "he",.str "she",.str "he",.str "she",.str ""]) n5
  have s25:=s2.trans (s3.trans t5)
  have hD5:=s25 _ _ hDc
  have hLm5:=(s3.trans t5) _ _ hLm
  have hLw5:=t5 _ _ hLw
  have sc5:=sc.trans s25
  have hR5:RowsAt K _ ks:=hR.mono s25
  generalize upd H3 L5 (.lst [V.str "he",.str "she",.str "he",.str "she",.str ""])=H5 at *
  have nl:i<ns.length:=by have:=nms.len; omega
  have hni:ns[i]?=some ns[i]:=List.getElem?_eq_getElem nl
  generalize ns[i]=nme at hni
  have ml:∀ so,(Zp3 (ks.map (·.1)) so d').length≤100:=fun so=>Nat.le_trans (List.length_filterMap_le ..) (by rw [List.length_map]; omega)
  have p20:=Zez (c.fdiv 20) (show (0:Int)<16 by decide)
  have p320:=Zez (c.fdiv 320) (show (0:Int)<16 by decide)
  refine ⟨_,rfl,.inl ⟨rfl,_,.of hD5⟩,_,rfl,_,rfl,ln,_,_,_,rfl,rfl,sc5.sql hn,Zaf (j:=i) (by rw [List.getElem?_map,hni]; rfl),_,rfl,_,rfl,_,rfl,_,rfl,_,_,rfl,rfl,zd 20 (by decide) (by decide),_,_,rfl,rfl,(by decide:(16:Int)≠0),rfl,Lm,_,_,rfl,.of hLm5,ml _,p20.1,fun H6 f s6 hf=>?_⟩
  refine ⟨_,rfl,_,rfl,_,_,rfl,rfl,zd 320 (by decide) (by decide),_,_,rfl,rfl,(by decide:(16:Int)≠0),rfl,Lw,_,_,rfl,.of (s6 _ _ hLw5),ml _,p320.1,fun H7 mo s7 hm=>⟨few rfl,fun a na=>?_⟩⟩
  have s57:=s6.trans s7
  have ta:=Zag (o:=.tup [V.str "born",.str nme,.str so,.int d',.str f,.str mo]) na
  have hD8:=(s57.trans ta) _ _ hD5
  have sc8:=sc5.trans (s57.trans ta)
  have hR8:RowsAt K _ ks:=hR5.mono (s57.trans ta)
  have ha8:=Zab (H:=H7) (a:=a) (o:=.tup [V.str "born",.str nme,.str so,.int d',.str f,.str mo])
  generalize upd H7 a (.tup [V.str "born",.str nme,.str so,.int d',.str f,.str mo])=H8 at *
  refine ⟨D,_,_,rfl,rfl,hD8,Zaj (by rw [ZaH]; omega),?_⟩
  have el:(ks.map (·.1)).length=i:=by rw [List.length_map,kl]
  refine ⟨d',ks++[(.born nme so d' f mo,a)],_,_,_,_,_,rfl,ZdB sc8 nD,?_,fun p hp=>?_,by rw [List.length_append,kl]; rfl,?_,dl',dh',fun e he=>?_⟩
  ·rw [Zab]; unfold ZaQ; rw [List.map_append]; rfl
  ·refine ZcB ?_ hD8 (fun _ z=>by cases z) (fun _ _ z=>by cases z)
   rcases List.mem_append.mp hp with hp | hp
   ·exact hR8 p hp
   ·rw [List.mem_singleton.mp hp]; exact .of ha8
  ·rw [List.map_append]
   exact pb.snoc nms (by omega) (by rw [el]; exact hni) hso dl' (by rw [el]; exact dh') (fun e he=>Int.le_trans (d3 e he) dd') hf hm
  ·rw [List.map_append] at he
   rcases List.mem_append.mp he with he | he
   ·exact Int.le_trans (d3 e he) dd'
   ·rw [List.mem_singleton.mp he]; exact Int.le_refl _
theorem Zii (T:Tx K w mg)  : ZfB P base T:=by
 refine Fun.okX (k:=0) T.ZbH.F ZbO (fun vs H Q E h=>h.1) (fun cdv A outer s H vs Q E hr h=>?_)
 obtain ⟨-,h⟩:=h
 obtain ⟨lc,D,cs,ks,ns,rfl,hc,c0,c20,cp0,hD,hR,nms,pb,kl,q⟩:=h
 refine ⟨_, (Zae (ZaC (i := 2) ZbO.nd rfl (Or.inl rfl) (ZbL Zac))
   (Zae (Zd7 PassesOwn.leaving rfl (Zdy (by rfl) T.n_range (Zaa (Zaz ZaN (by rfl) T.n_len Zcu (Zaa (pv 0) Zac)) Zac)) (ZaF (i:=3) ZbO.nd rfl (Or.inl rfl))
    (Zae (ZaC (i:=4) ZbO.nd rfl (Or.inl rfl) (Zar ZaW (pv 0) (pv 3) (fun _ _=>rfl)))
   (Zae (ZaC (i:=5) ZbO.nd rfl (Or.inl rfl) (ZaI Zbw (ZaI Zbx (pv 4) Zad) Zad))
   (Zah (Za8 (Zaq Zoa (pv 5) Zad (Zau _)) (Zae (ZaC (i:=6) ZbO.nd rfl (Or.inl rfl) (Zar Zao (Zar ZaW (pv 1) (Zaz (Zhg rfl) (by rfl) T.n_min Zl6 (Zaa (ZaI ZhL (ZaI Zdi (pv 3) (pv 5)) Zad) (Zaa (ZaI ZhL (Zaz ZaN (by rfl) T.n_len Zcu (Zaa (pv 1) Zac)) Zad) Zac))) (fun _ _=>rfl)) Zad (fun _ _=>rfl)))
   (Zah (Za9 (Zll PySem.F.plainAttrs_list PySem.F.slot_list_append PySem.F.type_list_append ZcV (pv 2) (Zaa (Zby (Zaa Zaw (Zaa (Zar Zao (Zar ZaW (pv 1) (pv 3) (fun _ _=>rfl)) Zad (fun _ _=>rfl)) (Zaa (ZaI Zdi (pv 6) (ZaI Zbw (ZaI Zbx (pv 4) Zad) Zad)) Zac)))) Zac))))) Zay)))))
   (Zah (Zax (pv 2))))),?_⟩
 have zd:∀ n:Int,1≤n->n≤20000000->n≠0∧n.natAbs<2 ^ 1000:=fun n h1 h2=>⟨by omega,Nat.lt_of_le_of_lt (show n.natAbs≤20000000 by omega) (by decide +kernel)⟩
 refine ⟨few rfl,fun L nL=>?_⟩
 have sL:=Zag (o:=.lst []) nL
 dsimp only [ZbE]
 have ll:((((cs.map V.int).length:Nat):Int))=cs.length:=by rw [List.length_map]
 have rl:(((ZaQ ks).length:Nat):Int)=ks.length:=by rw [ZaH]
 refine ⟨_,rfl,lc,_,rfl,.inl (sL.sql hc),(cs.length:Int),by rw [ll],by omega,by omega,ZfF (fun i σ Hc=>∃ (ds:List (Ent × Addr)) (v3 v4 v5 v6:Option V),σ=[some (.ref lc),some (.ref D),some (.ref L),v3,v4,v5,v6]∧Same H Hc∧Hc L=some (.lst (ZaQ ds))∧RowsAt K Hc ds∧ds.length≤i∧More (ks.map (·.1)) (ds.map (·.1))∧∀ p∈ds,∃ j n x,j<i∧ns[j]?=some n∧p.1=.dead n x) ?start ?turn ?done⟩
 case start=>exact ⟨[],none,none,none,none,rfl,sL,Zab,fun p hp=>(by cases hp),Nat.le_refl _,More.nil _,fun p hp=>(by cases hp)⟩
 case done =>
  rintro σ Hc ⟨ds,v3,v4,v5,v6,rfl,sc,hLc,hRd,dl,mo,dn⟩
  refine ⟨_,rfl,q _ L ds sc nL hLc hRd mo (by have:ds.length≤(cs.length:Int).toNat:=dl; omega) fun p hp=>?_⟩
  obtain ⟨j,n,x,_,_,e⟩:=dn p hp
  rw [e]; rfl
 case turn =>
  rintro i σ Hc hi ⟨ds,v3,v4,v5,v6,rfl,sc,hLc,hRd,dl,mo,dn⟩
  rw [show (0:Int)+(i:Int)=i from Int.zero_add _]
  have il:i<cs.length:=by
   have:i<(cs.length:Int).toNat:=hi
   omega
  have hci:cs[i]?=some cs[i]:=List.getElem?_eq_getElem il
  have c00:=cp0 _ (List.mem_of_getElem? hci)
  generalize cs[i]=c at *
  have g0:=Zez (c.fdiv 5120) (show (0:Int)<8 by decide)
  refine ⟨_,rfl,_,rfl,lc,_,_,_,rfl,rfl,sc.sql hc,Zaf (j:=i) (by rw [List.getElem?_map,hci]; rfl),?_⟩
  dsimp only [ZbE]
  refine ⟨_,rfl,_,_,rfl,rfl,zd 5120 (by decide) (by decide),_,_,rfl,rfl,(by decide:(8:Int)≠0),?_⟩
  dsimp only [ZbE]
  generalize (c.fdiv 5120).fmod 8=g at *
  refine ⟨_,rfl,_,_,rfl,rfl,_,rfl,ZmQ (fun hg=>?_) (fun hg=>⟨ds,_,_,_,_,rfl,sc,hLc,hRd,by omega,mo,fun p hp=>?_⟩)⟩
  rotate_left
  ·obtain ⟨j,n,x,h1,h2⟩:=dn p hp
   exact ⟨j,n,x,by omega,h2⟩
  have g3:3<g:=of_decide_eq_true hg
  obtain ⟨z,hz⟩:∃ z:Int,(if (ks.length:Int)-1<(i:Int)+g-4 then (ks.length:Int)-1 else (i:Int)+g-4)=z:=⟨_,rfl⟩
  have zb:(i:Int)≤z∧z<ks.length:=by
   rw [← hz]
   split <;> omega
  obtain ⟨p2,hp2,at2⟩:=ZiH (ks:=ks) (z:=z) (by omega) zb.2
  obtain ⟨n2,s2,dd2,f2,m2,hn2,e2,lo2,hi2,mem2⟩:=pb.at hp2
  have r2:=sc.sqt (hR p2 (List.mem_of_getElem? hp2))
  rw [e2] at r2
  obtain ⟨p1,hp1,at1⟩:=ZiH (ks:=ks) (z:=(i:Int)) (by omega) (by omega)
  rw [Int.toNat_natCast] at hp1
  obtain ⟨n1,s1,dd1,f1,m1,hn1,e1,lo1,hi1,mem1⟩:=pb.at hp1
  have r1:=sc.sqt (hR p1 (List.mem_of_getElem? hp1))
  rw [e1] at r1
  have up:dd1≤dd2:=by
   have a1:(ks.map (·.1))[i]?=some (.born n1 s1 dd1 f1 m1):=by rw [List.getElem?_map,hp1,← e1]; rfl
   have a2:(ks.map (·.1))[z.toNat]?=some (.born n2 s2 dd2 f2 m2):=by rw [List.getElem?_map,hp2,← e2]; rfl
   exact pb.up i z.toNat _ _ (by omega) a1 a2
  have hz2:=Zez (c.fdiv 40960) (show (0:Int)<2 by decide)
  have zl:(z.toNat:Int)≤19:=by omega
  refine ⟨_,rfl,_,rfl,_,rfl,_,_,rfl,rfl,_,_,rfl,rfl,_,rfl,D,_,rfl,.inl (sc.sql hD),_,_,rfl,rfl,_,_,rfl,D,_,_,_,rfl,rfl,sc.sql hD,(by rw [rl,hz]; exact at2),p2.2,_,_,_,rfl,rfl,r2,Zaf (j:=3) rfl,?_⟩
  dsimp only [ZbE]
  refine ⟨_,rfl,.inl ⟨rfl,_,.of hLc⟩,_,rfl,_,rfl,D,_,_,_,rfl,rfl,sc.sql hD,at1,p1.2,_,_,_,rfl,rfl,r1,Zaf (j:=1) rfl,_,rfl,_,rfl,_,_,rfl,rfl,zd 40960 (by decide) (by decide),_,_,rfl,rfl,(by decide:(2:Int)≠0),_,_,rfl,rfl,few rfl,fun a na=>?_⟩
  have ta:=Zag (o:=.tup [V.str "dead",.str n1,.int (dd2+(c.fdiv 40960).fmod 2)]) na
  have hL8:=ta _ _ hLc
  have sc8:=sc.trans ta
  have hR8:RowsAt K _ ds:=hRd.mono ta
  have ha8:=Zab (H:=Hc) (a:=a) (o:=.tup [V.str "dead",.str n1,.int (dd2+(c.fdiv 40960).fmod 2)])
  have ok:(Ent.dead n1 (dd2+(c.fdiv 40960).fmod 2)).Ok:=ZpK (nms.nm _ (List.mem_of_getElem? hn1)) (by omega) (by omega)
  refine ⟨L,_,_,rfl,rfl,hL8,Zaj (by rw [ZaH]; omega),ds++[(.dead n1 (dd2+(c.fdiv 40960).fmod 2),a)],_,_,_,_,rfl,ZdB sc8 nL,?_,fun p hp=>?_,by rw [List.length_append]; show _+1≤_; omega,?_,fun p hp=>?_⟩
  ·rw [Zab]; unfold ZaQ; rw [List.map_append]; rfl
  ·refine ZcB ?_ hL8 (fun _ z=>by cases z) (fun _ _ z=>by cases z)
   rcases List.mem_append.mp hp with hp | hp
   ·exact hR8 p hp
   ·rw [List.mem_singleton.mp hp]; exact .of ha8
  ·rw [List.map_append]
   refine mo.snoc ⟨rfl,ok,ok,fun n hn=>?_,fun c t d e=>(by cases e),rfl⟩ fun y hy z=>?_
   ·rw [List.mem_singleton.mp (show n∈[n1] from hn)]
    exact ⟨s1,dd1,f1,m1,mem1,by show dd1≤(dd2+(c.fdiv 40960).fmod 2); omega⟩
   ·obtain ⟨p,hp,rfl⟩:=List.mem_map.mp hy
    obtain ⟨j,n',x',jl,hn',e'⟩:=dn p hp
    rw [e'] at z
    have z2:([.inr "dead",.inr n']:List Key)=[.inr "dead",.inr n1]:=z
    have z3:n'=n1:=by simpa using z2
    rw [z3] at hn'
    have:=(List.getElem?_inj (List.getElem?_eq_some_iff.mp hn').1 nms.nd).mp (hn'.trans hn1.symm)
    omega
  ·rcases List.mem_append.mp hp with hp | hp
   ·obtain ⟨j,n,x',h1,h2⟩:=dn p hp
    exact ⟨j,n,x',by omega,h2⟩
   ·rw [List.mem_singleton.mp hp]
    exact ⟨i,n1,_,by omega,hn1,rfl⟩
theorem ZjJ (T:Tx K w mg)  : Zhk P base T:=by
 refine Fun.okX (k:=0) T.Zch.F Za2 (fun vs H Q E h=>h.1) (fun cdv A outer s H vs Q E hr h=>?_)
 obtain ⟨-,h⟩:=h
 obtain ⟨lc,D,cs,ks,ns,rfl,hc,c0,c20,cp0,hD,hR,nms,pb,kl,q⟩:=h
 refine ⟨_, (Zae (ZaC (i := 2) Za2.nd rfl (Or.inl rfl) (ZbL Zac))
   (Zae (ZaC (i:=3) Za2.nd rfl (Or.inl rfl) (Zpv P w rfl rfl))
   (Zae (Zd7 PassesOwn.leaving rfl (Zdy (by rfl) T.n_range (Zaa (Zaz ZaN (by rfl) T.n_len Zcu (Zaa (pv 0) Zac)) Zac)) (ZaF (i:=4) Za2.nd rfl (Or.inl rfl))
    (Zae (ZaC (i:=5) Za2.nd rfl (Or.inl rfl) (Zar ZaW (pv 0) (pv 4) (fun _ _=>rfl)))
   (Zae (ZaC (i:=6) Za2.nd rfl (Or.inl rfl) (ZaI Zbw (ZaI Zbw (ZaI Zbx (pv 5) Zad) Zad) (Zaz ZaN (by rfl) T.n_len Zcu (Zaa (pv 1) Zac))))
   (Zae (ZaC (i:=7) Za2.nd rfl (Or.inl rfl) (ZaI Zbw (ZaI Zbx (pv 5) Zad) Zad))
   (Zae (ZaC (i:=8) Za2.nd rfl (Or.inl rfl) (Zar ZaW (pv 1) (Zaz (Zhg rfl) (by rfl) T.n_min Zl6 (Zaa (pv 4) (Zaa (pv 6) Zac))) (fun _ _=>rfl)))
   (Zae (ZaC (i:=9) Za2.nd rfl (Or.inl rfl) (Zar ZaW (pv 1) (Zaz (Zj7 rfl) (by rfl) T.n_max ZlM (Zaa (pv 4) (Zaa (pv 6) Zac))) (fun _ _=>rfl)))
   (Zae (ZaC (i:=10) Za2.nd rfl (Or.inl rfl) (ZaI Zdi (Zar Zao (pv 9) Zad (fun _ _=>rfl)) (ZaI Zbw (ZaI Zbx (pv 5) Zad) Zad)))
   (Zae (ZaC (i:=11) Za2.nd rfl (Or.inl rfl) (Zby (Zaa (Zar Zao (pv 8) Zad (fun _ _=>rfl)) (Zaa (Zar Zao (pv 9) Zad (fun _ _=>rfl)) (Zaa (Zbz Zcg (pv 7) Zad (Zau _)) (Zaa (ZaI Zl1 (pv 10) (ZeB ZnM (by rfl) T.n_int ZpT (Zaa (Zbz Zid (pv 7) Zad (Zau _)) Zac))) Zac))))))
   (Zah (Za8 (PW.pt (Zfo (Zaq Zid (pv 4) (pv 6) (Zau _)) (Zfo (Zaq Zoa (pv 7) Zad (Zau _)) (Zew (ZnP (Znq P w (Zd9 hr) (pv 11) (pv 3) rfl rfl)))))) (Zae (Zqj P w (Zd9 hr) (pv 3) (pv 11) Zeu rfl rfl rfl)
   (Zah (Za8 (Zaq Zid (pv 7) Zad (Zau _)) (Zah (Za9 (Zll PySem.F.plainAttrs_list PySem.F.slot_list_append PySem.F.type_list_append ZcV (pv 2) (Zaa (Zby (Zaa (Zar ZaW (ZbL (Zaa Zaw (Zaa Zaw (Zaa Zaw (Zaa Zaw (Zaa Zaw Zac)))))) (pv 7) (fun _ _=>rfl)) (Zaa (Zar Zao (Zar ZaW (pv 1) (pv 4) (fun _ _=>rfl)) Zad (fun _ _=>rfl)) (Zaa (Zar Zao (Zar ZaW (pv 1) (pv 6) (fun _ _=>rfl)) Zad (fun _ _=>rfl)) (Zaa (pv 10) Zac))))) Zac)))) (Zah (Za8 (Zaq Zmt (Zar Zao (pv 8) Zad (fun _ _=>rfl)) (Zar Zao (pv 9) Zad (fun _ _=>rfl)) (Zau _)) (Zah (Za9 (Zll PySem.F.plainAttrs_list PySem.F.slot_list_append PySem.F.type_list_append ZcV (pv 2) (Zaa (Zby (Zaa Zaw (Zaa (Zar Zao (pv 9) Zad (fun _ _=>rfl)) (Zaa (Zar Zao (pv 8) Zad (fun _ _=>rfl)) (Zaa (pv 10) Zac))))) Zac)))) Zay))))) Zay))))))))))
   (Zah (Zax (pv 2)))))),?_⟩
 have zd:∀ n:Int,1≤n->n≤20000000->n≠0∧n.natAbs<2 ^ 1000:=fun n h1 h2=>⟨by omega,Nat.lt_of_le_of_lt (show n.natAbs≤20000000 by omega) (by decide +kernel)⟩
 refine ⟨few rfl,fun L nL=>?_⟩
 have sL:=Zag (o:=.lst []) nL
 dsimp only [ZbE]
 refine fun Dt nt=>?_
 dsimp only [ZbE]
 have st:=Zag (o:=.ext (Zc9 P w Dt [])) nt
 have ll:((((cs.map V.int).length:Nat):Int))=cs.length:=by rw [List.length_map]
 have rl:(((ZaQ ks).length:Nat):Int)=ks.length:=by rw [ZaH]
 have LDt:L≠Dt:=Zap (Zab (H:=H)) nt
 have nDt:H Dt=none:=Zbq sL nt
 refine ⟨_,rfl,lc,_,rfl,.inl ((sL.trans st).sql hc),(cs.length:Int),by rw [ll],by omega,by omega,ZfF (fun i σ Hc=>∃ (ds:List (Ent × Addr)) (xs:List (List Key × Addr × Value)) (v4 v5 v6 v7 v8 v9 v10 v11:Option V),σ=[some (.ref lc),some (.ref D),some (.ref L),some (.ref Dt),v4,v5,v6,v7,v8,v9,v10,v11]∧Same H Hc∧Hc L=some (.lst (ZaQ ds))∧RowsAt K Hc ds∧ds.length≤i∧More (ks.map (·.1)) (ds.map (·.1))∧(∀ p∈ds,p.1.kw≠"born"∧p.1.kw≠"dead")∧Hc Dt=some (.ext (Zc9 P w Dt xs))∧KeysB Hc xs∧xs.length≤i∧∀ p∈ds,∃ x∈xs,TK ns p.1 x.1) ?start ?turn ?done⟩
 case start=>exact ⟨[],[],none,none,none,none,none,none,none,none,rfl,sL.trans st,st _ _ Zab,fun p hp=>(by cases hp),Nat.le_refl _,More.nil _,fun p hp=>(by cases hp),Zab,fun x hx=>(by cases hx),Nat.le_refl _,fun p hp=>(by cases hp)⟩
 case done =>
  rintro σ Hc ⟨ds,xs,v4,v5,v6,v7,v8,v9,v10,v11,rfl,sc,hLc,hRd,dl,mo,kwd,_,_,_,_⟩
  exact ⟨_,rfl,q _ L ds sc nL hLc hRd mo (by have:ds.length≤(cs.length:Int).toNat:=dl; omega) kwd⟩
 case turn =>
  rintro i σ Hc hi ⟨ds,xs,v4,v5,v6,v7,v8,v9,v10,v11,rfl,sc,hLc,hRd,dl,mo,kwd,hT,hK,xl,tkx⟩
  rw [show (0:Int)+(i:Int)=i from Int.zero_add _]
  have il:i<cs.length:=by
   have:i<(cs.length:Int).toNat:=hi
   omega
  have hci:cs[i]?=some cs[i]:=List.getElem?_eq_getElem il
  have c00:=cp0 _ (List.mem_of_getElem? hci)
  generalize cs[i]=c at *
  refine ⟨_,rfl,_,rfl,lc,_,_,_,rfl,rfl,sc.sql hc,Zaf (j:=i) (by rw [List.getElem?_map,hci]; rfl),?_⟩
  dsimp only [ZbE]
  refine ⟨_,rfl,_,_,rfl,rfl,zd 81920 (by decide) (by decide),_,_,rfl,rfl,(by decide:(16:Int)≠0),_,rfl,D,_,rfl,.inl (sc.sql hD),_,_,rfl,rfl,(by rw [rl]; omega),?_⟩
  dsimp only [ZbE]
  rw [rl]
  have a0:=Zez ((c.fdiv 81920).fmod 16) (show (0:Int)<ks.length by omega)
  obtain ⟨a',ha'⟩:∃ a':Nat,((c.fdiv 81920).fmod 16).fmod ks.length=(a':Int):=⟨(((c.fdiv 81920).fmod 16).fmod ks.length).toNat,by omega⟩
  rw [ha'] at a0 ⊢
  refine ⟨_,rfl,_,_,rfl,rfl,zd 1310720 (by decide) (by decide),_,_,rfl,rfl,(by decide:(5:Int)≠0),?_⟩
  dsimp only [ZbE]
  have w0:=Zez (c.fdiv 1310720) (show (0:Int)<5 by decide)
  generalize (c.fdiv 1310720).fmod 5=way at *
  obtain ⟨il',hlo⟩:∃ il':Nat,(if (a':Int)<(i:Int) then (a':Int) else (i:Int))=(il':Int):=⟨(if (a':Int)<(i:Int) then (a':Int) else (i:Int)).toNat,by split <;> omega⟩
  obtain ⟨ih',hhi⟩:∃ ih':Nat,(if (a':Int) > (i:Int) then (a':Int) else (i:Int))=(ih':Int):=⟨(if (a':Int) > (i:Int) then (a':Int) else (i:Int)).toNat,by split <;> omega⟩
  have lh:il'<ks.length∧ih'<ks.length∧il'≤ih'∧((a'=il'∧i=ih')∨(a'=ih'∧i=il')):=by
   have h1:=hlo
   have h2:=hhi
   split at h1 <;> split at h2 <;> omega
  obtain ⟨plo,hplo,atlo⟩:=ZiH (ks:=ks) (z:=(il':Int)) (by omega) (by omega)
  obtain ⟨phi,hphi,athi⟩:=ZiH (ks:=ks) (z:=(ih':Int)) (by omega) (by omega)
  rw [Int.toNat_natCast] at hplo hphi
  obtain ⟨lo,sl,dlo,fl,ml,hnlo,elo,lo1,lo2,memlo⟩:=pb.at hplo
  obtain ⟨hi',sh,dhi,fh,mh,hnhi,ehi,hi1,hi2,memhi⟩:=pb.at hphi
  have rlo:=sc.sqt (hR plo (List.mem_of_getElem? hplo))
  have rhi:=sc.sqt (hR phi (List.mem_of_getElem? hphi))
  rw [elo] at rlo
  rw [ehi] at rhi
  refine ⟨_,rfl,_,rfl,_,rfl,_,_,rfl,D,_,_,_,rfl,rfl,sc.sql hD,(by rw [hlo]; exact atlo),?_⟩
  dsimp only [ZbE]
  refine ⟨_,rfl,_,rfl,_,rfl,_,_,rfl,D,_,_,_,rfl,rfl,sc.sql hD,(by rw [hhi]; exact athi),?_⟩
  dsimp only [ZbE]
  have d3:=Zez (c.fdiv 6553600) (show (0:Int)<3 by decide)
  refine ⟨_,rfl,phi.2,_,_,_,rfl,rfl,rhi,Zaf (j:=3) rfl,_,rfl,_,_,rfl,rfl,zd 6553600 (by decide) (by decide),_,_,rfl,rfl,(by decide:(3:Int)≠0),dhi,_,rfl,rfl,?_⟩
  dsimp only [ZbE]
  have up:dlo≤dhi:=by
   have a1:(ks.map (·.1))[il']?=some (.born lo sl dlo fl ml):=by rw [List.getElem?_map,hplo,← elo]; rfl
   have a2:(ks.map (·.1))[ih']?=some (.born hi' sh dhi fh mh):=by rw [List.getElem?_map,hphi,← ehi]; rfl
   exact pb.up il' ih' _ _ lh.2.2.1 a1 a2
  obtain ⟨day,hday⟩:∃ day:Int,dhi+(c.fdiv 6553600).fmod 3=day:=⟨_,rfl⟩
  rw [hday]
  have db:-10 ^ 17≤day∧day≤10 ^ 12:=by
   have:(ih':Int)≤19:=by omega
   omega
  refine ⟨_,rfl,plo.2,_,_,_,rfl,rfl,rlo,Zaf (j:=1) (x:=.str lo) rfl,_,rfl,phi.2,_,_,_,rfl,rfl,rhi,Zaf (j:=1) (x:=.str hi') rfl,_,rfl,rfl,_,rfl,_,rfl,rfl,.inr ⟨_,rfl,_,_,rfl,rfl,.inl ⟨by omega,by omega⟩,few rfl,fun kt nkt=>?_⟩⟩
  have tk:=Zag (o:=.tup [V.str lo,.str hi',.bl (decide (V.int way=V.int 3)),.int (day*(if (!decide (V.int way=V.int 3))=true then 1 else 0))]) nkt
  have hkt:=Zab (H:=Hc) (a:=kt) (o:=.tup [V.str lo,.str hi',.bl (decide (V.int way=V.int 3)),.int (day*(if (!decide (V.int way=V.int 3))=true then 1 else 0))])
  have sck:=sc.trans tk
  have hLk:=tk _ _ hLc
  have hRk:RowsAt K _ ds:=hRd.mono tk
  have hTk:=tk _ _ hT
  have hKk:KeysB _ xs:=KeysB.mono hK fun a ys e=>tk _ _ e
  have rlok:=tk.sqt rlo
  have rhik:=tk.sqt rhi
  generalize upd Hc kt (.tup [V.str lo,.str hi',.bl (decide (V.int way=V.int 3)),.int (day*(if (!decide (V.int way=V.int 3))=true then 1 else 0))])=Hk at *
  have kvs:ZqQ [.inr lo,.inr hi',.inl (b01 (decide (V.int way=V.int 3))),.inl (day*(if (!decide (V.int way=V.int 3))=true then 1 else 0))] [V.str lo,.str hi',.bl (decide (V.int way=V.int 3)),.int (day*(if (!decide (V.int way=V.int 3))=true then 1 else 0))]:=.cons (.inl rfl) (.cons (.inl rfl) (.cons (.inr ⟨_,rfl,rfl⟩) (.cons (.inl rfl) .nil)))
  dsimp only [ZbE]
  have skip:∀ (v:Option V),∃ (ds:List (Ent × Addr)) (xs:List (List Key × Addr × Value)) (v4 v5 v6 v7 v8 v9 v10 v11:Option V),[some (.ref lc),some (.ref D),some (.ref L),some (.ref Dt),some (.int i),some (.int c),some (.int a'),some (.int way),some (.ref plo.2),some (.ref phi.2),some (.int day),v]=[some (.ref lc),some (.ref D),some (.ref L),some (.ref Dt),v4,v5,v6,v7,v8,v9,v10,v11]∧Same H Hk∧Hk L=some (.lst (ZaQ ds))∧RowsAt K Hk ds∧ds.length≤i+1∧More (ks.map (·.1)) (ds.map (·.1))∧(∀ p∈ds,p.1.kw≠"born"∧p.1.kw≠"dead")∧Hk Dt=some (.ext (Zc9 P w Dt xs))∧KeysB Hk xs∧xs.length≤i+1∧∀ p∈ds,∃ x∈xs,TK ns p.1 x.1:=fun v=>⟨ds,xs,_,_,_,_,_,_,_,_,rfl,sck,hLk,hRk,by omega,mo,kwd,hTk,hKk,by omega,tkx⟩
  refine ⟨_,rfl,_,rfl,rfl,_,rfl,?_⟩
  by_cases ia:i=a'
  ·exact ZaB (by show (!decide (V.int (i:Int)=V.int (a':Int)))=false; rw [ia,decide_eq_true rfl]; rfl) (Zc8 (skip _))
  refine Zbe (by show (!decide (V.int (i:Int)=V.int (a':Int)))=true; rw [decide_eq_false (fun z=>ia (by have:=V.int.inj z; omega))]; rfl) ⟨_,rfl,_,_,rfl,rfl,_,rfl,?_⟩
  by_cases wp:0<way
  rotate_left
  ·exact ZaB (decide_eq_false wp) (Zc8 (skip _))
  refine Zbe (decide_eq_true wp) ⟨_,rfl,_,rfl,Dt,kt,xs,_,_,rfl,rfl,hTk,hKk,hkt,kvs,_,rfl,?_⟩
  cases hh:ZqL xs [.inr lo,.inr hi',.inl (b01 (decide (V.int way=V.int 3))),.inl (day*(if (!decide (V.int way=V.int 3))=true then 1 else 0))] with
  | true=>exact Zc8 (skip _)
  | false =>
  refine Zex ?_
  refine ⟨_,rfl,_,rfl,Dt,kt,xs,_,_,rfl,rfl,hTk,hKk,hkt,kvs,Zaj (by omega),hh,fun u=>?_⟩
  generalize hkk:([.inr lo,.inr hi',.inl (b01 (decide (V.int way=V.int 3))),.inl (day*(if (!decide (V.int way=V.int 3))=true then 1 else 0))]:List Key)=kk at *
  have off:∀ {a:Addr} {o:HO},Hk a=some o->(∀ φ,o≠.ext φ)->(upd Hk Dt (.ext (Zc9 P w Dt (xs++[(kk,kt,u)])))) a=some o:=fun {a o} e no=>(Zak (fun z=>by subst z; rw [hTk] at e; cases e; exact no _ rfl)).trans e
  have sqo:∀ {a ys},SqT K Hk a ys->SqT K (upd Hk Dt (.ext (Zc9 P w Dt (xs++[(kk,kt,u)])))) a ys:=fun {a ys} h=>by
   rcases h with (h | ⟨x,h⟩) | h
   ·exact .inl (.inl (off h (fun _ z=>by cases z)))
   ·exact .inl (.inr ⟨x,off h (fun _ z=>by cases z)⟩)
   ·exact .inr h
  have sqlo:∀ {a ys},SqL K Hk a ys->SqL K (upd Hk Dt (.ext (Zc9 P w Dt (xs++[(kk,kt,u)])))) a ys:=fun {a ys} h=>by
   rcases h with (h | ⟨x,h⟩) | h
   ·exact .inl (.inl (off h (fun _ z=>by cases z)))
   ·exact .inl (.inr ⟨x,off h (fun _ z=>by cases z)⟩)
   ·exact .inr h
  have scp:Same H (upd Hk Dt (.ext (Zc9 P w Dt (xs++[(kk,kt,u)])))):=ZdB sck nDt
  have hLp:=off hLk (fun _ z=>by cases z)
  have hRp:RowsAt K (upd Hk Dt (.ext (Zc9 P w Dt (xs++[(kk,kt,u)])))) ds:=fun p hp=>sqo (hRk p hp)
  have hTp:=Zab (H:=Hk) (a:=Dt) (o:=.ext (Zc9 P w Dt (xs++[(kk,kt,u)])))
  have hKp:KeysB (upd Hk Dt (.ext (Zc9 P w Dt (xs++[(kk,kt,u)])))) (xs++[(kk,kt,u)]):=fun x hx=>by
   rcases List.mem_append.mp hx with hx | hx
   ·obtain ⟨ys,e,k⟩:=hKk x hx
    exact ⟨ys,off e (fun _ z=>by cases z),k⟩
   ·rw [List.mem_singleton.mp hx]
    exact ⟨_,off hkt (fun _ z=>by cases z),kvs⟩
  have rlop:=sqo rlok
  have rhip:=sqo rhik
  have xlp:(xs++[(kk,kt,u)]).length≤i+1:=by rw [List.length_append]; show _+1≤_; omega
  have tkp:∀ p∈ds,∃ x∈xs++[(kk,kt,u)],TK ns p.1 x.1:=fun p hp=>by
   obtain ⟨x,hx,t⟩:=tkx p hp
   exact ⟨x,List.mem_append.mpr (.inl hx),t⟩
  have fresh:∀ e,TK ns e kk->∀ y∈ds.map (·.1),y.told.key≠e.told.key:=fun e te y hy z=>by
   obtain ⟨p,hp,rfl⟩:=List.mem_map.mp hy
   obtain ⟨x,hx,t⟩:=tkx p hp
   exact Zqu hh x hx (t.inj nms te z)
  clear tkx hTk hKk hkt hLk hRk sck rlok rhik skip
  generalize upd Hk Dt (.ext (Zc9 P w Dt (xs++[(kk,kt,u)])))=Hp' at *
  have add : ∀ (e : Ent) (a : Addr) (H8 : Hp) (v : Option V), Same Hp' H8 → SqT K H8 a (e.row.map kV) → FitB (ks.map (·.1)) e → TK ns e kk → (e.kw ≠ "born" ∧ e.kw ≠ "dead") →
    ∃ (ds':List (Ent × Addr)) (xs:List (List Key × Addr × Value)) (v4 v5 v6 v7 v8 v9 v10 v11:Option V),[some (.ref lc),some (.ref D),some (.ref L),some (.ref Dt),some (.int i),some (.int c),some (.int a'),some (.int way),some (.ref plo.2),some (.ref phi.2),some (.int day),v]=[some (.ref lc),some (.ref D),some (.ref L),some (.ref Dt),v4,v5,v6,v7,v8,v9,v10,v11]∧Same H (upd H8 L (.lst (ZaQ ds++[V.ref a])))∧(upd H8 L (.lst (ZaQ ds++[V.ref a]))) L=some (.lst (ZaQ ds'))∧RowsAt K (upd H8 L (.lst (ZaQ ds++[V.ref a]))) ds'∧ds'.length≤i+1∧More (ks.map (·.1)) (ds'.map (·.1))∧(∀ p∈ds',p.1.kw≠"born"∧p.1.kw≠"dead")∧(upd H8 L (.lst (ZaQ ds++[V.ref a]))) Dt=some (.ext (Zc9 P w Dt xs))∧KeysB (upd H8 L (.lst (ZaQ ds++[V.ref a]))) xs∧xs.length≤i+1∧∀ p∈ds',∃ x∈xs,TK ns p.1 x.1:=fun e a H8 v s8 r8 fit te ke=>by
   have hL8:=s8 _ _ hLp
   have one:∀ p∈ds++[(e,a)],p∈ds∨p=(e,a):=fun p hp=>(List.mem_append.mp hp).imp id (fun z=>by simpa using z)
   refine ⟨ds++[(e,a)],xs++[(kk,kt,u)],_,_,_,_,_,_,_,_,rfl,ZdB (scp.trans s8) nL,by rw [Zab]; unfold ZaQ; rw [List.map_append]; rfl,fun p hp=>ZcB ?_ hL8 (fun _ z=>by cases z) (fun _ _ z=>by cases z),by rw [List.length_append]; show _+1≤_; omega,by rw [List.map_append]; exact mo.snoc fit (fresh e te),fun p hp=>?_,(Zak LDt.symm).trans (s8 _ _ hTp),KeysB.mono hKp fun b ys e=>(Zak (fun z=>by subst z; rw [hLp] at e; cases e)).trans (s8 _ _ e),xlp,fun p hp=>?_⟩
   ·rcases one p hp with hp | rfl
    ·exact s8.sqt (hRp p hp)
    ·exact r8
   ·rcases one p hp with hp | rfl
    ·exact kwd p hp
    ·exact ke
   ·rcases one p hp with hp | rfl
    ·exact tkp p hp
    ·exact ⟨(kk,kt,u),List.mem_append.mpr (.inr (List.mem_singleton.mpr rfl)),te⟩
  have noadd:∀ (v:Option V),∃ (ds:List (Ent × Addr)) (xs:List (List Key × Addr × Value)) (v4 v5 v6 v7 v8 v9 v10 v11:Option V),[some (.ref lc),some (.ref D),some (.ref L),some (.ref Dt),some (.int i),some (.int c),some (.int a'),some (.int way),some (.ref plo.2),some (.ref phi.2),some (.int day),v]=[some (.ref lc),some (.ref D),some (.ref L),some (.ref Dt),v4,v5,v6,v7,v8,v9,v10,v11]∧Same H Hp'∧Hp' L=some (.lst (ZaQ ds))∧RowsAt K Hp' ds∧ds.length≤i+1∧More (ks.map (·.1)) (ds.map (·.1))∧(∀ p∈ds,p.1.kw≠"born"∧p.1.kw≠"dead")∧Hp' Dt=some (.ext (Zc9 P w Dt xs))∧KeysB Hp' xs∧xs.length≤i+1∧∀ p∈ds,∃ x∈xs,TK ns p.1 x.1:=fun v=>⟨ds,_,_,_,_,_,_,_,_,_,rfl,scp,hLp,hRp,by omega,mo,kwd,hTp,hKp,xlp,tkp⟩
  have lt':il'<ih':=by omega
  have b1:-10 ^ 18≤day∧day≤10 ^ 18:=by omega
  refine ⟨_,rfl,rfl,_,rfl,?_⟩
  by_cases w3:way=3
  ·refine ZaB (by show (!decide (V.int way=V.int 3))=false; rw [w3,decide_eq_true rfl]; rfl) ?_
   refine ⟨_,rfl,plo.2,_,_,_,rfl,rfl,rlop,Zaf (j:=3) (x:=.int dlo) rfl,_,rfl,phi.2,_,_,_,rfl,rfl,rhip,Zaf (j:=3) (x:=.int dhi) rfl,_,_,rfl,rfl,_,rfl,ZmQ (fun hlt=>?_) (fun _=>noadd _)⟩
   have hlt':dlo<dhi:=of_decide_eq_true hlt
   refine ⟨_,rfl,.inl ⟨rfl,_,.of hLp⟩,_,rfl,phi.2,_,_,_,rfl,rfl,rhip,Zaf (j:=1) (x:=.str hi') rfl,_,rfl,plo.2,_,_,_,rfl,rfl,rlop,Zaf (j:=1) (x:=.str lo) rfl,_,rfl,few rfl,fun a na=>?_⟩
   have ta:=Zag (o:=.tup [V.str "taken",.str hi',.str lo,.int day]) na
   have ok:=(Zrk (d:=day) (pb.mem nms memhi).1 (pb.mem nms memlo).1 b1.1 b1.2).1
   have ne:hi'≠lo:=fun z=>by
    rw [z] at hnhi
    have:=(List.getElem?_inj (List.getElem?_eq_some_iff.mp hnlo).1 nms.nd).mp (hnlo.trans hnhi.symm)
    omega
   refine ⟨L,_,_,rfl,rfl,ta _ _ hLp,Zaj (by rw [ZaH]; omega),add (.taken hi' lo day) a _ _ ta (.of Zab) ⟨rfl,ok,ok,fun n hn=>?_,fun c' t' d' e sc' dc' fc' mc' st' dt' ft' mt' h1 h2=>?_,decide_eq_false ne⟩ ⟨il',ih',lo,hi',lt',hnlo,hnhi,.inr ⟨day,rfl,?_⟩⟩ ⟨show ("taken" : Str)≠"born" by decide +kernel,show ("taken" : Str)≠"dead" by decide +kernel⟩⟩
   ·have hn':n∈[hi',lo]:=hn
    rcases List.mem_cons.mp hn' with rfl | hn'
    ·exact ⟨_,_,_,_,memhi,by show dhi≤day; omega⟩
    ·rw [List.mem_singleton.mp hn']
     exact ⟨_,_,_,_,memlo,by show dlo≤day; omega⟩
   ·cases e
    rw [pb.uniq h1 memhi,pb.uniq h2 memlo]
    exact hlt'
   ·rw [← hkk,w3,decide_eq_true rfl]
    simp [b01]
  ·refine Zbe (by show (!decide (V.int way=V.int 3))=true; rw [decide_eq_false (fun z=>w3 (V.int.inj z))]; rfl) ?_
   obtain ⟨pi,hpi,ati⟩:=ZiH (ks:=ks) (z:=(i:Int)) (by omega) (by omega)
   obtain ⟨pa,hpa,ata⟩:=ZiH (ks:=ks) (z:=(a':Int)) (by omega) (by omega)
   rw [Int.toNat_natCast] at hpi hpa
   obtain ⟨ni,si,di,fi,mi,hni,ei,_,_,memi⟩:=pb.at hpi
   obtain ⟨na,sa,da,fa,ma,hna,ea,_,_,mema⟩:=pb.at hpa
   refine ⟨_,rfl,.inl ⟨rfl,_,.of hLp⟩,few rfl,fun Lw nLw=>?_⟩
   have tw:=Zag (o:=.lst [V.str "",.str "union",.str "union",.str "",.str "parted"]) nLw
   have ri:=(scp.trans tw).sqt (hR pi (List.mem_of_getElem? hpi))
   have ra:=(scp.trans tw).sqt (hR pa (List.mem_of_getElem? hpa))
   rw [ei] at ri
   rw [ea] at ra
   refine ⟨_,rfl,Lw,_,_,_,rfl,rfl,.of Zab,Zry (show way=1∨way=2∨way=4 by omega),_,rfl,_,rfl,D,_,_,_,rfl,rfl,(scp.trans tw).sql hD,ati,pi.2,_,_,_,rfl,rfl,ri,Zaf (j:=1) (x:=.str ni) rfl,_,rfl,_,rfl,D,_,_,_,rfl,rfl,(scp.trans tw).sql hD,ata,pa.2,_,_,_,rfl,rfl,ra,Zaf (j:=1) (x:=.str na) rfl,_,rfl,few rfl,fun a nna=>?_⟩
   have ta:=Zag (o:=.tup [V.str (if way=4 then "parted" else "union"),.str ni,.str na,.int day]) nna
   have inj:∀ {a b:Nat} {x:Str},ns[a]?=some x->ns[b]?=some x->a=b:=fun ha hb=>(List.getElem?_inj (List.getElem?_eq_some_iff.mp ha).1 nms.nd).mp (ha.trans hb.symm)
   have ne:ni≠na:=fun z=>by rw [← z] at hna; exact ia (inj hni hna)
   have le2:di≤day∧da≤day∧((ni,na)=(lo,hi')∨(ni,na)=(hi',lo)):=by
    rcases lh.2.2.2 with ⟨e1,e2⟩ | ⟨e1,e2⟩
    ·rw [e1] at hpa hna; rw [e2] at hpi hni
     have x1:na=lo:=Option.some.inj (hna.symm.trans hnlo)
     have x2:ni=hi':=Option.some.inj (hni.symm.trans hnhi)
     subst x1 x2
     have y1:=pb.uniq mema memlo
     have y2:=pb.uniq memi memhi
     exact ⟨by omega,by omega,.inr rfl⟩
    ·rw [e1] at hpa hna; rw [e2] at hpi hni
     have x1:na=hi':=Option.some.inj (hna.symm.trans hnhi)
     have x2:ni=lo:=Option.some.inj (hni.symm.trans hnlo)
     subst x1 x2
     have y1:=pb.uniq mema memhi
     have y2:=pb.uniq memi memlo
     exact ⟨by omega,by omega,.inl rfl⟩
   obtain ⟨e,erow,fit,et,ep,ed,ek⟩:=ZqM (z:=way) pb nms memi mema ne le2.1 le2.2.1 b1.1 b1.2
   refine ⟨L,_,_,rfl,rfl,(tw.trans ta) _ _ hLp,Zaj (by rw [ZaH]; omega),add e a _ _ (tw.trans ta) (by rw [erow]; exact .of Zab) fit ⟨il',ih',lo,hi',lt',hnlo,hnhi,.inl ⟨et,by rw [ep]; exact le2.2.2,?_⟩⟩ ⟨by rw [ek]; decide +kernel,by rw [ek]; decide +kernel⟩⟩
   rw [← hkk,decide_eq_false (fun z=>w3 (V.int.inj z)),ed]
   simp [b01]
theorem Zlx (T:Tx K w mg)  : Zgp P base T:=by
 refine Fun.okX (k:=0) T.ZbN.F Zla (fun vs H Q E h=>h.1) (fun cdv A outer s H vs Q E hr h=>?_)
 obtain ⟨-,h⟩:=h
 obtain ⟨v,e,rfl,⟨a,rfl,hE⟩,q⟩:=h
 refine ⟨_, (Zae (Za8 (Zaq Zcg (Zar Zao (pv 0) Zad (fun _ _ => rfl)) Zaw (Zau _)) (Zah (Zax (Zar Zao (pv 0) Zad (fun _ _ => rfl)))) Zay)
   (Zah (Zax (Zar Zao (pv 0) (Zpe Zma Zad) (fun _ _=>rfl))))),?_⟩
 cases e with
 | born n s d f m=>exact ⟨_,rfl,a,_,_,_,rfl,rfl,hE,Zaf (j:=0) rfl,rfl,_,rfl,Zbe (by decide +kernel) ⟨_,rfl,a,_,_,_,rfl,rfl,hE,Zaf (j:=3) rfl,q⟩⟩
 | taken c t d=>exact ⟨_,rfl,a,_,_,_,rfl,rfl,hE,Zaf (j:=0) rfl,rfl,_,rfl,ZaB (by decide +kernel) ⟨_,rfl,_,rfl,a,_,_,_,rfl,rfl,hE,rfl,q⟩⟩
 | union x y d=>exact ⟨_,rfl,a,_,_,_,rfl,rfl,hE,Zaf (j:=0) rfl,rfl,_,rfl,ZaB (by decide +kernel) ⟨_,rfl,_,rfl,a,_,_,_,rfl,rfl,hE,rfl,q⟩⟩
 | parted x y d=>exact ⟨_,rfl,a,_,_,_,rfl,rfl,hE,Zaf (j:=0) rfl,rfl,_,rfl,ZaB (by decide +kernel) ⟨_,rfl,_,rfl,a,_,_,_,rfl,rfl,hE,rfl,q⟩⟩
 | dead n d=>exact ⟨_,rfl,a,_,_,_,rfl,rfl,hE,Zaf (j:=0) rfl,rfl,_,rfl,ZaB (by decide +kernel) ⟨_,rfl,_,rfl,a,_,_,_,rfl,rfl,hE,rfl,q⟩⟩
 | given g t am d=>exact ⟨_,rfl,a,_,_,_,rfl,rfl,hE,Zaf (j:=0) rfl,rfl,_,rfl,ZaB (by decide +kernel) ⟨_,rfl,_,rfl,a,_,_,_,rfl,rfl,hE,rfl,q⟩⟩
theorem Zkm (T:Tx K w mg) (ZbA:ZcU P base T) (Zb1:ZeH P base T):ZhR P base T:=by
 refine Fun.okX (k:=6) T.Zci.F Zed (fun vs H Q E h=>h.1) (fun cdv A outer s H vs Q E hr h=>?_)
 obtain ⟨-,h⟩:=h
 obtain ⟨D,ks,pool,rfl,hD,hR,gd,p33,l60,q⟩:=h
 refine ⟨_, (Zae (ZaC (i := 1) Zed.nd rfl (Or.inl rfl) (ZkJ T.mk_Book ZbA (hr.mono (by decide)) (by rfl) T.m_Book T.Zbo.b .nil Zai))
   (Zae (Zd7 PassesOwn.leaving rfl (Zbv (pv 0)) (ZaF (i:=2) Zed.nd rfl (Or.inl rfl))
    (Zah (Za9 (ZaE (pv 1) T.cl_Book T.ZbQ.me Zb1 (hr.mono (by decide)) T.ZbQ.b .nil Zai (Zaa (pv 2) Zac)))))
   (Zah (Zax (pv 1))))),?_⟩
 refine fun b dx nb ndx nn=>⟨rfl,b,dx,rfl,Zab,fun H2 k bi li ti su hB2 keep nk nbi nli nti nsu=>⟨rfl,?_⟩⟩
 have sb:Same H (upd (upd H dx (.own b)) b (.ins T.c_Book dx [])):=fun c o e=>by rw [Zak (Zap e nb),Zak (Zap e ndx)]; exact e
 have s2:Same H H2:=fun c o e=>keep c o (sb c o e) (Zap e nb)
 have n5:∀ c∈[k,bi,li,ti,su],H c=none:=fun c hc=>by
  simp only [List.mem_cons,List.not_mem_nil,or_false] at hc
  rcases hc with rfl | rfl | rfl | rfl | rfl
  ·exact Zbq sb nk
  ·exact Zbq sb nbi
  ·exact Zbq sb nli
  ·exact Zbq sb nti
  ·exact Zbq sb nsu
 refine ⟨_,rfl,D,rfl,⟨_,s2.sql hD⟩,ZfN (xs:=ZaQ ks) (fun i σ Hc=>∃ (B:Bk) (v:Option V),σ=[some (.ref D),some (.ref b),v]∧BkAt K T.c_Book Hc b dx k bi li ti su B∧LI5 pool B B.kept∧B.kept.map (·.1)=((ks.take i).map (·.1)).map Ent.told∧Same H Hc∧(∀ c∈B.ties.map (·.2.1),H c=none)) ?start ?list ?turn ?done⟩
 case start=>exact ⟨bk0,none,rfl,hB2,LI5.start pool,rfl,s2,fun c hc=>(by cases hc)⟩
 case list =>
  rintro i σ Hc _ ⟨B,v,rfl,_,_,_,sc,_⟩
  exact sc.sql hD
 case done =>
  rintro σ Hc ⟨B,v,rfl,hB,li5,hk,sc,_⟩
  rw [ZaH,List.take_length] at hk
  exact ⟨_,rfl,q _ _ _ _ _ _ _ _ B hB li5 hk sc⟩
 case turn =>
  rintro i y σ Hc hy ⟨B,v,rfl,hB,li5,hk,sc,ft⟩
  obtain ⟨p,hp,rfl⟩:=ZdP hy
  obtain ⟨e,a⟩:=p
  have il:=(List.getElem?_eq_some_iff.mp hp).1
  have row:=sc.sqt (hR _ (List.mem_of_getElem? hp))
  have tk:(ks.take (i+1)).map (·.1)=(ks.take i).map (·.1)++[e]:=Zl0 hp
  have gt:GdL pool ((ks.take i).map (·.1)++[e]):=by rw [← tk,List.map_take]; exact gd.take _
  have hkl:B.kept.length≤60:=by
   have:=ZdL hk
   rw [List.length_map,List.length_map,List.length_take] at this
   omega
  obtain ⟨no,d5,rm⟩:=GdL.ref li5 hk gt hkl p33
  refine ⟨_,rfl,b,dx,_,rfl,hB.ob,rfl,_,rfl,rfl,b,dx,k,bi,li,ti,su,B,.ref a,e,rfl,hB,⟨a,rfl,row⟩,d5.1,no,rm,fun H3 B3 y hB3 hput bt hy gr grT=>?_⟩
  obtain ⟨li3,sb3⟩:=li5.put' hput d5 no
  have hk3:B3.kept.map (·.1)=((ks.take (i+1)).map (·.1)).map Ent.told:=by rw [sb3,tk,List.map_append,hk]; rfl
  have ny:∀ c u,H c=some u->c ∉ [k,bi,li,ti,su,y]:=fun c u e m=>by
   have m':c∈[k,bi,li,ti,su]∨c=y:=by
    simp only [List.mem_cons,List.not_mem_nil,or_false] at m ⊢
    rcases m with h | h | h | h | h | h <;> simp [h]
   rcases m' with h | h
   ·rw [n5 c h] at e; cases e
   ·rcases hy with z | z | z
    ·have:=sc c u e; rw [h,z] at this; cases this
    ·rw [h,z,n5 bi (by simp)] at e; cases e
    ·rw [h,ft y z] at e; cases e
  refine ⟨B3,_,rfl,hB3,li3,hk3,fun c u e=>bt.eq c u (ny c u e) (sc c u e),fun c hc=>?_⟩
  rcases grT c hc with h | h
  ·exact ft c h
  ·exact Zbq sc h
theorem ZjY (T:Tx K w mg) (ZbZ:Zeq P base T) (ZdU:ZfJ P base T) (ZdM:ZfB P base T) (Zfd:Zhk P base T):ZgY P base T:=by
 refine Fun.okX (k:=2) T.Zcm.F Zea (fun vs H Q E h=>h.1) (fun cdv A outer s H vs Q E hr h=>?_)
 obtain ⟨-,h⟩:=h
 obtain ⟨l,ln,ss,ns,rfl,hl,hlen,hn,nms,q⟩:=h
 refine ⟨_, (Zae (Zgg (i := 4) rfl  Zea.nd rfl (Or.inl rfl) (Za5 (N := ["_law_k", "_law_script", "_law_at"]) ["_law_script", "_law_at"] [none, some 0, some 1] rfl (by decide +kernel) (by decide +kernel) (by rfl) (by rfl) (by rfl) (by rfl) (by rfl)) (Zdy (by rfl) T.n_range (Zaa (Zaz (Zj7 rfl) (by rfl) T.n_max ZlM (Zaa Zad (Zaa (Zaz (Zhg rfl) (by rfl) T.n_min Zl6 (Zaa (pv 2) (Zaa (ZaI ZhL (Zaz ZaN (by rfl) T.n_len Zcu (Zaa (pv 0) Zac)) (pv 1)) Zac))) Zac))) Zac)) (fun _ _ _ => (ZaF (i := 0) Ztw rfl (Or.inl rfl))) (fun _ _ _ => Ze4) (fun _ _ _ => (Zas ZbZ (hr.mono (by decide)) (by rfl) T.ZaT.m T.ZaT.F.kp T.ZaT.b .nil Zai (Zaa (pv 1) (Zaa (ZaI Zdi (pv 2) (pv 0)) Zac)))))
   (Zae (ZaC (i:=5) Zea.nd rfl (Or.inl rfl) (Zas ZdU (hr.mono (by decide)) (by rfl) T.ZbF.m T.ZbF.F.kp T.ZbF.b .nil Zai (Zaa (pv 4) (Zaa (pv 3) Zac))))
   (Zah (Zax (ZaI Zio (ZaI Zio (pv 5) (Zas ZdM (hr.mono (by decide)) (by rfl) T.ZbH.m T.ZbH.F.kp T.ZbH.b .nil Zai (Zaa (pv 4) (Zaa (pv 5) Zac)))) (Zas Zfd (hr.mono (by decide)) (by rfl) T.Zch.m T.Zch.F.kp T.Zch.b .nil Zai (Zaa (pv 4) (Zaa (pv 5) Zac)))))))),?_⟩
 have ll:((((ss.map V.int).length:Nat):Int))=ss.length:=by rw [List.length_map]
 obtain ⟨N,hN⟩:∃ N:Nat,(if (if (ss.length:Int)-2<20 then (ss.length:Int)-2 else 20) > 2 then (if (ss.length:Int)-2<20 then (ss.length:Int)-2 else 20) else 2)=(N:Int):=⟨(if (if (ss.length:Int)-2<20 then (ss.length:Int)-2 else 20) > 2 then (if (ss.length:Int)-2<20 then (ss.length:Int)-2 else 20) else 2).toNat,by split <;> split <;> omega⟩
 have N0:2≤N∧N≤20:=by
  revert hN
  split <;> split <;> intro hN <;> omega
 refine ⟨_,rfl,_,rfl,l,_,rfl,.inl hl,_,rfl,_,_,rfl,rfl,_,_,rfl,_,_,rfl,(N:Int),by rw [ll,hN],by omega,by omega,?_⟩
 refine ZjH (List.replicate N (some ())) (fun _ H v=>∃ z:Int,v=.int z∧0≤z) (fun _ _ _ _ _ _ h _ _=>h) (Zaj (by rw [List.length_replicate]; omega)) (fun σ=>∃ w,σ=[w,some (.ref l),some (.int 2)]) ⟨_,rfl⟩ (fun j H4 hj sm=>?go) (fun H4 sm=>?stop) (fun j σ H4 x H5 z hz hσ sm hx C hC0 hC=>?step) (fun lc ys H1 n1 s1 hF yl hP=>?fin)
 case go =>
  rw [List.length_replicate] at hj
  show j<(N:Int).toNat
  omega
 case stop =>
  rw [List.length_replicate]
  show (N:Int).toNat≤N
  omega
 case step =>
  obtain ⟨w,rfl⟩:=hσ
  obtain rfl:some ()=z:=by
   rw [List.getElem?_replicate] at hz
   split at hz <;> first | exact Option.some.inj hz | cases hz
  obtain ⟨rfl,rfl⟩:=hx
  dsimp only [ZsJ,ZbE]
  exact Zex ⟨_,rfl,_,rfl,_,rfl,_,_,rfl,rfl,rfl,l,ss,_,rfl,sm.sql hl,hlen,by omega,fun z z0=>hC () rfl _ _ _ ⟨_,rfl⟩ (Same.refl _) ⟨z,rfl,z0⟩⟩
 case fin =>
  obtain ⟨cs,e1,e2,e3⟩:=Znb (H:=H) yl hP
  rw [e1] at hF
  have el:((List.replicate N (some ())).filterMap id).length=N:=by simp
  rw [el] at e3
  refine ⟨_,rfl,_,rfl,rfl,lc,ln,cs,ns,rfl,.of hF,by omega,by omega,e2,s1.sql hn,nms,fun H2 Db bs s2 n2 h2 hR2 pb bl=>?_⟩
  refine ⟨_,rfl,_,rfl,_,rfl,rfl,lc,Db,cs,bs,ns,rfl,.of (s2 _ _ hF),by omega,by omega,e2,.of h2,hR2,nms,pb,bl,fun H3 Dd ds s3 n3 h3 hR3 md dl dk=>?_⟩
  refine ⟨Db,Dd,_,_,rfl,rfl,s3 _ _ h2,h3,Nat.le_of_lt (Zaj (by rw [ZaH,ZaH]; omega)),fun R3 n4=>?_⟩
  have t4:=Zag (o:=.lst (ZaQ bs++ZaQ ds)) n4
  have hR23:RowsAt K (upd H3 R3 (.lst (ZaQ bs++ZaQ ds))) bs:=fun p hp=>(s3.trans t4).sqt (hR2 p hp)
  refine ⟨_,rfl,_,rfl,rfl,lc,Db,cs,bs,ns,rfl,.of ((s2.trans (s3.trans t4)) _ _ hF),by omega,by omega,e2,.of ((s3.trans t4) _ _ h2),hR23,nms,pb,bl,fun H5 Dt ts s5 n5 h5 hR5 mt tl tk=>?_⟩
  refine ⟨R3,Dt,_,_,rfl,rfl,s5 _ _ Zab,h5,Nat.le_of_lt (Zaj (by rw [List.length_append,ZaH,ZaH,ZaH]; omega)),fun R6 n6=>?_⟩
  have sa:=s1.trans (s2.trans (s3.trans (t4.trans s5)))
  have t6:=Zag (o:=.lst (ZaQ bs++ZaQ ds++ZaQ ts)) n6
  have er:ZaQ bs++ZaQ ds++ZaQ ts=ZaQ (bs++ds++ts):=by unfold ZaQ; rw [List.map_append,List.map_append]
  refine q _ _ (bs++ds++ts) (sa.trans t6) (Zbq sa n6) (by rw [Zab,er]) (fun p hp=>?_) ?_
  ·rcases List.mem_append.mp hp with hp | hp
   ·rcases List.mem_append.mp hp with hp | hp
    ·exact (s5.trans t6).sqt (hR23 p hp)
    ·exact (t4.trans (s5.trans t6)).sqt (hR3 p hp)
   ·exact t6.sqt (hR5 p hp)
  ·rw [List.map_append,List.map_append]
   have lb:(bs.map (·.1)).length=bs.length:=List.length_map ..
   have ld:(ds.map (·.1)).length=ds.length:=List.length_map ..
   have lt:(ts.map (·.1)).length=ts.length:=List.length_map ..
   refine Zsy nms pb (by omega) (by omega) md mt (by omega) (by omega) (fun e he=>?_) (fun e he=>?_)
   ·obtain ⟨p,hp,rfl⟩:=List.mem_map.mp he; exact dk p hp
   ·obtain ⟨p,hp,rfl⟩:=List.mem_map.mp he; exact tk p hp
theorem Zjx (T:Tx K w mg) (ZcQ:Zgp P base T):Zgs P base T:=by
 refine Fun.okX (k:=1) T.ZbY.F ZiY (fun vs H Q E h=>h.1) (fun cdv A outer s H vs Q E hr h=>?_)
 obtain ⟨-,h⟩:=h
 obtain ⟨D,ks,d,rfl,hD,hR,hl,q⟩:=h
 refine ⟨_,(Zah (Zax (Zb6 rfl (Za5 (N:=["_law_row","_law_day_here"]) ["_law_day_here"] [none,some 1] rfl (by decide +kernel) (by decide +kernel) (by rfl) (by rfl) (by rfl) (by rfl) (by rfl)) (Zbv (pv 0)) (fun _ _ _=>(ZaF (i:=0) Zsr rfl (Or.inl rfl))) (fun _ _ _=>(Zck (Zaq Zop (Zas ZcQ (hr.mono (by decide)) (by rfl) T.ZbN.m T.ZbN.F.kp T.ZbN.b .nil Zai (Zaa (pv 0) Zac)) (pv 1) (Zau _)))) (fun _ _ _=>(pv 0))))),?_⟩
 refine ⟨_,rfl,D,rfl,⟨_,hD⟩,Zbs (ks.map (Zrt d)) (Zaj (by rw [List.length_map]; omega)) (fun σ=>∃ w,σ=[w,some (.int d)]) ⟨_,rfl⟩ (fun j H4 hj sm=>?go) (fun H4 sm=>?stop) (fun j σ H4 x H5 z hz hσ sm hx C hC=>?step) (fun F1 H1 n1 s1 hF=>?fin)⟩
 case go=>exact ⟨_,_,sm.sql hD,List.getElem?_eq_getElem (by rw [ZaH]; rw [List.length_map] at hj; exact hj)⟩
 case stop=>exact ⟨_,sm.sql hD,by rw [ZaH,List.length_map]; exact Nat.le_refl _⟩
 case step =>
  obtain ⟨w,rfl⟩:=hσ
  obtain ⟨rfl,hx2⟩:=hx
  obtain ⟨p,hp,rfl⟩:=ZdP (hx2 _ (sm.sql hD))
  have pm:=List.mem_of_getElem? hp
  rw [List.getElem?_map,hp] at hz
  obtain rfl:=Option.some.inj hz
  have hp2:=sm.sqt (hR p pm)
  refine ⟨_,rfl,rfl,.ref p.2,p.1,rfl,⟨p.2,rfl,hp2⟩,_,rfl,_,_,rfl,rfl,_,rfl,?_⟩
  by_cases e:p.1.day≤d
  ·rw [show Zrt d p=some (.ref p.2) from if_pos (decide_eq_true e)] at hC
   exact Zbe (decide_eq_true e) ⟨_,rfl,hC _ _ ⟨_,rfl⟩ (Same.refl _)⟩
  ·rw [show Zrt d p=none from if_neg (by rw [decide_eq_false e]; decide)] at hC
   exact ZaB (decide_eq_false e) (hC _ _ ⟨_,rfl⟩ (Same.refl _))
 case fin =>
  rw [ZlH] at hF
  exact q _ _ s1 n1 hF
theorem Zgo (T:Tx K w mg)  : ZcK P base T:=by
 refine Fun.okX (k:=0) T.ZaA.F Zgl (fun vs H Q E h=>h.1) (fun cdv A outer s H vs Q E hr h=>?_)
 obtain ⟨-,h⟩:=h
 obtain ⟨D,ks,rfl,hD,hR,hl,q⟩:=h
 refine ⟨_,(Zah (Zax (Zb6 rfl (Za5 (N:=["_law_row"]) [] [none] rfl (by decide +kernel) (by decide +kernel) (by rfl) (by rfl) (by rfl) (by rfl) (by rfl)) (Zbv (pv 0)) (fun _ _ _=>(ZaF (i:=0) ZpY rfl (Or.inl rfl))) (fun _ _ _=>(Zck (Zaq Zcg (Zar (ZcL K rfl) (pv 0) Zad (fun _ _=>rfl)) Zaw (Zau _)))) (fun _ _ _=>(Zby (Zaa (Zar (ZcL K rfl) (pv 0) Zad (fun _ _=>rfl)) (Zaa (Zar (ZcL K rfl) (pv 0) Zad (fun _ _=>rfl)) Zac))))))),?_⟩
 refine ⟨_,rfl,D,rfl,⟨_,hD⟩,ZjH (ks.map fun p=>Zpd p.1) (fun p H v=>∃ t,v=.ref t∧SqT K H t [.str p.1,.int p.2]) ?mono (Zaj (by rw [List.length_map]; omega)) (fun σ=>∃ w,σ=[w]) ⟨_,rfl⟩ (fun j H4 hj sm=>?go) (fun H4 sm=>?stop) (fun j σ H4 x H5 z hz hσ sm hx C hC0 hC=>?step) (fun F1 ys H1 n1 s1 hF yl hP=>?fin)⟩
 case mono =>
  rintro p Ha Hb v Dx xs ⟨t,rfl,ht⟩ hDx bt
  refine ⟨t,rfl,?_⟩
  rcases ht with (ht | ⟨o,ht⟩) | ht
  ·exact .inl (.inl (bt _ _ (ZaV ht hDx (fun z=>by cases z)) ht))
  ·exact .inl (.inr ⟨o,bt _ _ (ZaV ht hDx (fun z=>by cases z)) ht⟩)
  ·exact .inr ht
 case go=>exact ⟨_,_,sm.sql hD,List.getElem?_eq_getElem (by rw [ZaH]; rw [List.length_map] at hj; exact hj)⟩
 case stop=>exact ⟨_,sm.sql hD,by rw [ZaH,List.length_map]; exact Nat.le_refl _⟩
 case step =>
  obtain ⟨w,rfl⟩:=hσ
  obtain ⟨rfl,hx2⟩:=hx
  obtain ⟨p,hp,rfl⟩:=ZdP (hx2 _ (sm.sql hD))
  have pm:=List.mem_of_getElem? hp
  rw [List.getElem?_map,hp] at hz
  obtain rfl:=Option.some.inj hz
  have hp2:=sm.sqt (hR p pm)
  obtain ⟨x,u⟩:=p
  refine ⟨_,rfl,u,_,_,_,rfl,rfl,hp2,ZhV x,rfl,_,rfl,?_⟩
  cases x with
  | dead n d =>
   refine Zbe (by show decide (V.str "dead"=V.str "dead")=true; decide +kernel) ⟨_,rfl,u,_,_,_,rfl,rfl,hp2,Zaf (j:=1) rfl,_,rfl,u,_,_,_,rfl,rfl,hp2,Zaf (j:=2) rfl,few rfl,fun t nt=>?_⟩
   exact hC (n,d) rfl _ _ _ ⟨_,rfl⟩ (Zag nt) ⟨t,rfl,.of Zab⟩
  | born n s d f m=>exact ZaB (by show decide (V.str "born"=V.str "dead")=false; decide +kernel) (hC0 rfl _ _ ⟨_,rfl⟩ (Same.refl _))
  | taken c t d=>exact ZaB (by show decide (V.str "taken"=V.str "dead")=false; decide +kernel) (hC0 rfl _ _ ⟨_,rfl⟩ (Same.refl _))
  | union x y d=>exact ZaB (by show decide (V.str "union"=V.str "dead")=false; decide +kernel) (hC0 rfl _ _ ⟨_,rfl⟩ (Same.refl _))
  | parted x y d=>exact ZaB (by show decide (V.str "parted"=V.str "dead")=false; decide +kernel) (hC0 rfl _ _ ⟨_,rfl⟩ (Same.refl _))
  | given g t am d=>exact ZaB (by show decide (V.str "given"=V.str "dead")=false; decide +kernel) (hC0 rfl _ _ ⟨_,rfl⟩ (Same.refl _))
 case fin =>
  obtain ⟨qs,e1,e2,e3⟩:=ZmE yl hP
  rw [e1] at hF
  refine q _ _ qs s1 n1 hF e3 ?_
  rw [e2]
  unfold ZaP
  rw [List.filterMap_map,List.filterMap_map]
  rfl
theorem ZhA (T:Tx K w mg)  : ZeN P base T:=by
 refine Fun.okX (k:=0) T.ZaJ.F Zhz (fun vs H Q E h=>h.1) (fun cdv A outer s H vs Q E hr h=>?_)
 obtain ⟨-,h⟩:=h
 obtain ⟨l,m,xs,rfl,hl,hm,hlen,q⟩:=h
 refine ⟨_, (Zae (Za8 (PW.pt (Zi6 (Zdx (ZcO (Zda K (by rfl) T.n_isinstance (Zaa (pv 0) (Zaa (ZcN (v := .ty "list") (by rfl) T.n_list Zgc rfl) Zac))))) (Zho (Zaq (Zl8 hr.units) (pv 0) (pv 1) (Zau _))))) (Zah (Zax Zeu)) Zay)
   (Zah (Zax (Zbz Zcg (Zaz ZaN (by rfl) T.n_len Zcu (Zaa (Zb6 rfl (Za5 (N:=["_law_one"]) [] [none] rfl (by decide +kernel) (by decide +kernel) (by rfl) (by rfl) (by rfl) (by rfl) (by rfl)) (Zbv (pv 0)) (fun _ _ _=>(ZaF (i:=0) Zso rfl (Or.inl rfl))) (fun _ _ _=>(Zck (ZcO (Zda K (by rfl) T.n_isinstance (Zaa (pv 0) (Zaa (ZcN (v:=.ty "str") (by rfl) T.n_str ZgX rfl) Zac)))))) (fun _ _ _=>(pv 0))) Zac)) (Zaz ZaN (by rfl) T.n_len Zcu (Zaa (pv 1) Zac)) (Zau _))))),?_⟩
 have i1:Is K H (.lst (xs.map D.str)) (.ref l):=⟨l,_,rfl,hl,Zdo xs⟩
 have i2:Is K H (.lst (xs.map D.str)) (.ref m):=⟨m,_,rfl,hm,Zdo xs⟩
 refine ⟨_,rfl,_,.ty "list",_,_,rfl,rfl,.sql hl,T.kl_list,_,rfl,Zc8 ⟨_,rfl,_,rfl,_,_,i1,i2,by rw [ZfG]; decide,_,rfl,?_⟩⟩
 show if (!Zh2 (xs.map D.str) (xs.map D.str))=true then _ else _
 rw [ZfU,decide_eq_true rfl]
 refine Zc8 ?_
 refine ⟨_,rfl,l,rfl,⟨_,hl⟩,Zbs ((xs).map (Zjt (fun _=>true))) (Zaj (by rw [List.length_map]; omega)) (fun σ=>∃ w,σ=[w]) ⟨_,rfl⟩ (fun j H4 hj sm=>?go) (fun H4 sm=>?stop) (fun j σ H4 x H5 z hz hσ sm hx C hC=>?step) (fun P2 H2 nP2 s2 hP2=>?fin)⟩
 case go=>exact ⟨_,_,sm.sql hl,List.getElem?_eq_getElem (by rw [List.length_map]; rw [List.length_map] at hj; exact hj)⟩
 case stop=>exact ⟨_,sm.sql hl,by rw [List.length_map,List.length_map]; exact Nat.le_refl _⟩
 case step =>
  obtain ⟨w,rfl⟩:=hσ
  obtain ⟨rfl,hx2⟩:=hx
  obtain ⟨y,hy,rfl⟩:=Zis (hx2 _ (sm.sql hl))
  rw [List.getElem?_map,hy] at hz
  obtain rfl:=Option.some.inj hz
  exact ⟨_,rfl,_,.ty "str",_,_,rfl,rfl,.of (.str _),T.k_str_str,_,rfl,Zex ⟨_,rfl,hC _ _ ⟨_,rfl⟩ (Same.refl _)⟩⟩
 case fin =>
  rw [ZdJ,List.filter_eq_self.mpr (fun _ _=>rfl)] at hP2
  refine ⟨P2,_,rfl,.inl (.of hP2),_,rfl,m,_,rfl,.inl (s2.sql hm),rfl,?_⟩
  have:=q _ s2
  rw [show (true:Bool)=decide (V.int ((xs.map V.str).length:Nat)=V.int ((xs.map V.str).length:Nat)) from (decide_eq_true rfl).symm] at this
  exact this
theorem ZkQ (T:Tx K w mg) (Zee:Zgs P base T) (Za6:ZcK P base T):Ziq P base T:=by
 refine Fun.okX (k:=2) T.Zbk.F ZdZ (fun vs H Q E h=>h.1) (fun cdv A outer s H vs Q E hr h=>?_)
 obtain ⟨-,h⟩:=h
 obtain ⟨D,ks,dead,d,z0,o,rfl,hD,hR,hl,hz0,q⟩:=h
 refine ⟨_, (Zae (ZaC (i := 4) ZdZ.nd rfl (Or.inl rfl) (Zas Zee (hr.mono (by decide)) (by rfl) T.ZbY.m T.ZbY.F.kp T.ZbY.b .nil Zai (Zaa (pv 0) (Zaa (pv 2) Zac))))
   (Zae (ZaC (i:=5) ZdZ.nd rfl (Or.inl rfl) (Zaz (Zgt K) (by rfl) T.n_sorted ZfQ (Zaa (Zb6 rfl (Za5 (N:=["_law_row"]) [] [none] rfl (by decide +kernel) (by decide +kernel) (by rfl) (by rfl) (by rfl) (by rfl) (by rfl)) (Zbv (pv 4)) (fun _ _ _=>(ZaF (i:=0) ZpY rfl (Or.inl rfl))) (fun _ _ _=>(Zck (Zaq Zcg (Zar (ZcL K rfl) (pv 0) Zad (fun _ _=>rfl)) Zaw (Zau _)))) (fun _ _ _=>(Zar (ZcL K rfl) (pv 0) Zad (fun _ _=>rfl)))) Zac)))
   (Zae (ZaC (i:=6) ZdZ.nd rfl (Or.inr rfl) (Zb6 rfl (Za5 (N:=["_law_one","_law_when"]) [] [none,none] rfl (by decide +kernel) (by decide +kernel) (by rfl) (by rfl) (by rfl) (by rfl) (by rfl)) (Zbv (Zas Za6 (hr.mono (by decide)) (by rfl) T.ZaA.m T.ZaA.F.kp T.ZaA.b .nil Zai (Zaa (pv 4) Zac))) (fun _ _ _=>(Zlg (n:=2) K rfl (Zcf (ZaF (i:=0) Zo6 rfl (Or.inl rfl)) (Zcf (ZaF (i:=1) Zo6 rfl (Or.inl rfl)) Zgd)))) (fun _ _ _=>Ze4) (fun _ _ _=>(pv 0))))
   (Zae (Za8 (Zaq Zgz (pv 3) ZcJ (Zau _)) (Zah (Zax (Zb6 rfl (Za5 (N:=["_law_one","_law_gone"]) ["_law_gone"] [none,some 6] rfl (by decide +kernel) (by decide +kernel) (by rfl) (by rfl) (by rfl) (by rfl) (by rfl)) (Zbv (pv 5)) (fun _ _ _=>(ZaF (i:=0) Zse rfl (Or.inl rfl))) (fun _ _ _=>(Zck (Zaq (ZnE K rfl) (pv 0) (pv 1) (by rfl)))) (fun _ _ _=>(pv 0))))) Zay)
   (Zah (Zax (Zb6 rfl (Za5 (N:=["_law_one","_law_handed_here","_law_dead"]) ["_law_handed_here","_law_dead"] [none,some 3,some 1] rfl (by decide +kernel) (by decide +kernel) (by rfl) (by rfl) (by rfl) (by rfl) (by rfl)) (Zbv (pv 5)) (fun _ _ _=>(ZaF (i:=0) ZsL rfl (Or.inl rfl))) (fun _ _ _=>(Zck (PW.pt (Zfo (Zaq (ZpB K rfl) (pv 0) (pv 1) (by rfl)) (Zew (Zaq Zid (pv 0) (pv 2) (Zau _))))))) (fun _ _ _=>(pv 0))))))))),?_⟩
 refine ⟨_,rfl,_,rfl,rfl,D,ks,d,rfl,hD,hR,by omega,fun H1 D1 s1 n1 h1=>?_⟩
 have hR1:RowsAt K H1 (ks.filter fun p=>decide (p.1.day≤d)):=fun p hp=>s1.sqt (hR p (List.mem_filter.mp hp).1)
 have l1:(ks.filter fun p=>decide (p.1.day≤d)).length≤63:=Nat.le_trans (List.length_filter_le ..) hl
 have e1:(ks.filter fun p=>decide (p.1.day≤d)).map (·.1)=(ks.map (·.1)).filter fun e=>decide (e.day≤d):=by rw [List.filter_map]; rfl
 unfold Zqd at q
 rw [← e1] at q
 generalize ks.filter (fun p=>decide (p.1.day≤d))=ts at *
 refine ⟨_,rfl,D1,rfl,⟨_,.of h1⟩,Zbs (ts.map Zqx) (Zaj (by rw [List.length_map]; omega)) (fun σ=>∃ w,σ=[w]) ⟨_,rfl⟩ (fun j H4 hj sm=>?go) (fun H4 sm=>?stop) (fun j σ H4 x H5 z hz hσ sm hx C hC=>?step) (fun P H2 nP s2 hP=>?fin)⟩
 case go=>exact ⟨_,_,sm.sql (.of h1),List.getElem?_eq_getElem (by rw [ZaH]; rw [List.length_map] at hj; exact hj)⟩
 case stop=>exact ⟨_,sm.sql (.of h1),by rw [ZaH,List.length_map]; exact Nat.le_refl _⟩
 case step =>
  obtain ⟨w,rfl⟩:=hσ
  obtain ⟨rfl,hx2⟩:=hx
  obtain ⟨p,hp,rfl⟩:=ZdP (hx2 _ (sm.sql (.of h1)))
  have pm:=List.mem_of_getElem? hp
  rw [List.getElem?_map,hp] at hz
  obtain rfl:=Option.some.inj hz
  have hp2:=sm.sqt (hR1 p pm)
  obtain ⟨x,u⟩:=p
  refine ⟨_,rfl,u,_,_,_,rfl,rfl,hp2,ZhV x,rfl,_,rfl,?_⟩
  cases x with
  | born n s d f m=>exact Zbe (by show decide (V.str "born"=V.str "born")=true; decide +kernel) ⟨_,rfl,u,_,_,_,rfl,rfl,hp2,Zaf (j:=1) rfl,hC _ _ ⟨_,rfl⟩ (Same.refl _)⟩
  | dead n d=>exact ZaB (by show decide (V.str "dead"=V.str "born")=false; decide +kernel) (hC _ _ ⟨_,rfl⟩ (Same.refl _))
  | taken c t d=>exact ZaB (by show decide (V.str "taken"=V.str "born")=false; decide +kernel) (hC _ _ ⟨_,rfl⟩ (Same.refl _))
  | union x y d=>exact ZaB (by show decide (V.str "union"=V.str "born")=false; decide +kernel) (hC _ _ ⟨_,rfl⟩ (Same.refl _))
  | parted x y d=>exact ZaB (by show decide (V.str "parted"=V.str "born")=false; decide +kernel) (hC _ _ ⟨_,rfl⟩ (Same.refl _))
  | given g t am d=>exact ZaB (by show decide (V.str "given"=V.str "born")=false; decide +kernel) (hC _ _ ⟨_,rfl⟩ (Same.refl _))
 case fin =>
 rw [ZnT,ZlI] at hP
 have bl:(Zdd (ts.map (·.1))).length≤ts.length:=Nat.le_trans (List.length_filterMap_le ..) (by rw [List.length_map]; exact Nat.le_refl _)
 refine ⟨P,Zdd (ts.map (·.1)),rfl,.of hP,by omega,fun P3 zs n3 pm so=>?_⟩
 rw [ZgT pm so]
 have t3:=Zag (o:=.lst ((ZaL (Zdd (ts.map (·.1)))).map V.str)) n3
 have hP3:=Zab (H:=H2) (a:=P3) (o:=.lst ((ZaL (Zdd (ts.map (·.1)))).map V.str))
 have pl:(ZaL (Zdd (ts.map (·.1)))).length<64:=by rw [(ZbB _).length_eq]; omega
 have s13:=s1.trans (s2.trans t3)
 generalize upd H2 P3 (.lst ((ZaL (Zdd (ts.map (·.1)))).map V.str))=H3 at *
 generalize ZaL (Zdd (ts.map (·.1)))=ps at *
 refine ⟨_,rfl,rfl,D1,ts,rfl,.of ((s2.trans t3) _ _ h1),fun p hp=>(s2.trans t3).sqt (hR1 p hp),by omega,fun H4 D4 qs s4 n4 h4 hq eq4=>?_⟩
 have ql:qs.length≤ts.length:=by
  have:=congrArg List.length eq4
  rw [List.length_map] at this
  rw [this]
  exact Nat.le_trans (List.length_filterMap_le ..) (by rw [List.length_map]; exact Nat.le_refl _)
 refine ⟨D4,rfl,⟨_,.of h4⟩,ZeG ((qs.map (·.2.1)).map V.str) (Zaj (by rw [List.length_map,List.length_map]; omega)) (fun σ=>∃ w v,σ=[w,v]) ⟨_,_,rfl⟩ (fun j H5 hj sm=>?go4) (fun H5 sm=>?stop4) (fun j σ H5 x H6 y hy hσ sm hx C hC=>?step4) (fun G H5 nG s5 hG=>?fin4)⟩
 case go4=>exact ⟨_,_,sm.sql (.of h4),List.getElem?_eq_getElem (by rw [List.length_map]; rw [List.length_map,List.length_map] at hj; exact hj)⟩
 case stop4=>exact ⟨_,sm.sql (.of h4),by rw [List.length_map,List.length_map,List.length_map]; exact Nat.le_refl _⟩
 case step4 =>
  obtain ⟨w,v,rfl⟩:=hσ
  obtain ⟨rfl,hx2⟩:=hx
  have hx3:=hx2 _ (sm.sql (.of h4))
  rw [List.getElem?_map] at hx3
  obtain ⟨p,hp,rfl⟩:=Option.map_eq_some_iff.mp hx3
  rw [List.getElem?_map,List.getElem?_map,hp] at hy
  obtain rfl:=Option.some.inj hy
  exact ⟨p.1,_,rfl,sm.sqt (hq p (List.mem_of_getElem? hp)),rfl,_,_,rfl,_,_,rfl,rfl,_,rfl,hC _ _ ⟨_,_,rfl⟩ (Same.refl _)⟩
 case fin4 =>
 have en:qs.map (·.2.1)=(ZaP (ts.map (·.1))).map (·.1):=by rw [← eq4,List.map_map]; rfl
 rw [en] at hG
 have s35:=s4.trans s5
 have hP5:=s35 _ _ hP3
 have s15:=s13.trans s35
 cases o with
 | none =>
  cases (show z0=.non from hz0)
  refine ⟨_,rfl,rfl,_,rfl,Zbe (by rfl) ⟨_,rfl,P3,rfl,⟨_,.of hP5⟩,Zbs ((ps).map (Zjt (ZpA (ts.map (·.1)) dead none))) (Zaj (by rw [List.length_map]; omega)) (fun σ=>∃ w,σ=[w,some (.ref G)]) ⟨_,rfl⟩ (fun j H4 hj sm=>?go5) (fun H4 sm=>?stop5) (fun j σ H4 x H5 z hz hσ sm hx C hC=>?step5) (fun F6 H6 n6 s6 h6=>?fin5)⟩⟩
  case go5=>exact ⟨_,_,sm.sql (.of hP5),List.getElem?_eq_getElem (by rw [List.length_map]; rw [List.length_map] at hj; exact hj)⟩
  case stop5=>exact ⟨_,sm.sql (.of hP5),by rw [List.length_map,List.length_map]; exact Nat.le_refl _⟩
  case step5 =>
   obtain ⟨w,rfl⟩:=hσ
   obtain ⟨rfl,hx2⟩:=hx
   obtain ⟨y,hy,rfl⟩:=Zis (hx2 _ (sm.sql (.of hP5)))
   rw [List.getElem?_map,hy] at hz
   obtain rfl:=Option.some.inj hz
   refine ⟨_,rfl,_,rfl,G,_,rfl,.inl (.of (sm _ _ hG)),rfl,Zfs _,_,rfl,?_⟩
   by_cases e:y∈(ZaP (ts.map (·.1))).map (·.1)
   ·rw [show Zjt (ZpA (ts.map (·.1)) dead none) y=none from if_neg (by show ¬ (!decide (y∈(ZaP (ts.map (·.1))).map (·.1)))=true; rw [decide_eq_true e]; decide)] at hC
    exact ZaB (by show (!inV (.str y) (((ZaP (ts.map (·.1))).map (·.1)).map V.str))=false; rw [Zd2,decide_eq_true e]; rfl) (hC _ _ ⟨_,rfl⟩ (Same.refl _))
   ·rw [show Zjt (ZpA (ts.map (·.1)) dead none) y=some (.str y) from if_pos (by show (!decide (y∈(ZaP (ts.map (·.1))).map (·.1)))=true; rw [decide_eq_false e]; rfl)] at hC
    exact Zbe (by show (!inV (.str y) (((ZaP (ts.map (·.1))).map (·.1)).map V.str))=true; rw [Zd2,decide_eq_false e]; rfl) ⟨_,rfl,hC _ _ ⟨_,rfl⟩ (Same.refl _)⟩
  case fin5 =>
   rw [ZdJ] at h6
   exact q _ _ (s15.trans s6) (Zbq s15 n6) h6
 | some zz =>
  obtain ⟨lz,rfl,hzl⟩:=hz0
  refine ⟨_,rfl,rfl,_,rfl,ZaB (by rfl) ⟨_,rfl,P3,rfl,⟨_,.of hP5⟩,Zbs ((ps).map (Zjt (ZpA (ts.map (·.1)) dead (some zz)))) (Zaj (by rw [List.length_map]; omega)) (fun σ=>∃ w,σ=[w,some (.ref lz),some (.str dead)]) ⟨_,rfl⟩ (fun j H4 hj sm=>?go6) (fun H4 sm=>?stop6) (fun j σ H4 x H5 z hz hσ sm hx C hC=>?step6) (fun F6 H6 n6 s6 h6=>?fin6)⟩⟩
  case go6=>exact ⟨_,_,sm.sql (.of hP5),List.getElem?_eq_getElem (by rw [List.length_map]; rw [List.length_map] at hj; exact hj)⟩
  case stop6=>exact ⟨_,sm.sql (.of hP5),by rw [List.length_map,List.length_map]; exact Nat.le_refl _⟩
  case step6 =>
   obtain ⟨w,rfl⟩:=hσ
   obtain ⟨rfl,hx2⟩:=hx
   obtain ⟨y,hy,rfl⟩:=Zis (hx2 _ (sm.sql (.of hP5)))
   rw [List.getElem?_map,hy] at hz
   obtain rfl:=Option.some.inj hz
   refine ⟨_,rfl,_,rfl,lz,_,rfl,.inl ((s15.trans sm).sql hzl),rfl,Zfs _,_,rfl,?_⟩
   by_cases e:y∈zz
   ·refine Zbe (by show inV (.str y) (zz.map V.str)=true; rw [Zd2]; exact decide_eq_true e) ⟨_,rfl,_,rfl,rfl,_,rfl,?_⟩
    by_cases e2:y=dead
    ·rw [show Zjt (ZpA (ts.map (·.1)) dead (some zz)) y=none from if_neg (by show ¬ (decide (y∈zz)&&decide (y≠dead))=true; rw [decide_eq_false (show ¬ (y≠dead) from fun z=>z e2),Bool.and_false]; decide)] at hC
     exact ZaB (by show (!decide (V.str y=V.str dead))=false; rw [e2,decide_eq_true rfl]; rfl) (hC _ _ ⟨_,rfl⟩ (Same.refl _))
    ·rw [show Zjt (ZpA (ts.map (·.1)) dead (some zz)) y=some (.str y) from if_pos (by show (decide (y∈zz)&&decide (y≠dead))=true; rw [decide_eq_true e,decide_eq_true e2]; rfl)] at hC
     exact Zbe (by show (!decide (V.str y=V.str dead))=true; rw [decide_eq_false (fun z=>e2 (V.str.inj z))]; rfl) ⟨_,rfl,hC _ _ ⟨_,rfl⟩ (Same.refl _)⟩
   ·rw [show Zjt (ZpA (ts.map (·.1)) dead (some zz)) y=none from if_neg (by show ¬ (decide (y∈zz)&&decide (y≠dead))=true; rw [decide_eq_false e,Bool.false_and]; decide)] at hC
    exact ZaB (by show inV (.str y) (zz.map V.str)=false; rw [Zd2]; exact decide_eq_false e) (Zc8 (hC _ _ ⟨_,rfl⟩ (Same.refl _)))
  case fin6 =>
   rw [ZdJ] at h6
   exact q _ _ (s15.trans s6) (Zbq s15 n6) h6
theorem Zih (T:Tx K w mg)  : Zfl P base T:=by
 refine Fun.okX (k:=0) T.ZbK.F ZcG (fun vs H Q E h=>h.1) (fun cdv A outer s H vs Q E hr h=>?_)
 obtain ⟨-,h⟩:=h
 obtain ⟨D,ks,bits,dead,strange,rfl,hD,hR,hl,q⟩:=h
 refine ⟨_, (Zae (ZaC (i := 4) ZcG.nd rfl (Or.inl rfl) (ZbL Zac))
   (Zae (Zd7 PassesOwn.leaving rfl (Zbv (pv 0)) (ZaF (i:=5) ZcG.nd rfl (Or.inl rfl))
    (Zah (Za8 (Zaq Zcg (Zar Zao (pv 5) Zad (fun _ _=>rfl)) Zaw (Zau _)) (Zae (Za8 (Zaq Zcg (ZaI Zbw (pv 1) Zad) Zad (Zau _)) (Zah (Za9 (Zll PySem.F.plainAttrs_list PySem.F.slot_list_append PySem.F.type_list_append ZcV (pv 4) (Zaa (Zar Zao (pv 5) Zad (fun _ _=>rfl)) Zac)))) Zay)
   (Zah (ZaC (i:=1) ZcG.nd rfl (Or.inl rfl) (ZaI Zbx (pv 1) Zad)))) Zay)))
   (Zah (Zax (ZaI Zio (ZaI Zio (Zmu K rfl (by rfl) T.n_list (by rfl) T.n_reversed (Zaa (pv 4) Zac)) (ZbL (Zaa (pv 2) (Zaa (pv 3) Zac)))) (Zd5 Zqk (pv 4) Zgj (ZeA Zad))))))),?_⟩
 refine ⟨few rfl,fun L nL=>?_⟩
 have sL:=Zag (o:=.lst []) nL
 refine ⟨_,rfl,D,rfl,⟨_,sL.sql hD⟩,ZfN (xs:=ZaQ ks) (fun i σ Hc=>∃ (zs:List Str) (z:Int) (v:Option V),σ=[some (.ref D),some (.int z),some (.str dead),some (.str strange),some (.ref L),v]∧Same H Hc∧Hc L=some (.lst (zs.map V.str))∧zs.length≤i) ?start ?list ?turn ?done⟩
 case start=>exact ⟨[],bits,none,rfl,sL,Zab,Nat.le_refl _⟩
 case list =>
  rintro i σ Hc _ ⟨zs,z,v,rfl,sc,_,_⟩
  exact sc.sql hD
 case turn =>
  rintro i y σ Hc hy ⟨zs,z,v,rfl,sc,hL,zl⟩
  obtain ⟨p,hp,rfl⟩:=ZdP hy
  have il:=(List.getElem?_eq_some_iff.mp hp).1
  have row:=sc.sqt (hR _ (List.mem_of_getElem? hp))
  obtain ⟨e,a⟩:=p
  refine ⟨_,rfl,a,_,_,_,rfl,rfl,row,ZhV e,rfl,_,rfl,ZmQ (fun hb=>?_) (fun _=>⟨zs,z,_,rfl,sc,hL,by omega⟩)⟩
  obtain ⟨n,s',d',f',m',rfl⟩:=ZhI hb
  refine ZdI (fun σ' H'=>∃ zs':List Str,σ'=[some (.ref D),some (.int z),some (.str dead),some (.str strange),some (.ref L),some (.ref a)]∧Same H H'∧H' L=some (.lst (zs'.map V.str))∧zs'.length≤i+1) (fun nx hnx=>?_) ?_
  ·refine ⟨_,rfl,_,_,rfl,rfl,(by decide:(2:Int)≠0),rfl,_,rfl,ZmQ (fun _=>?_) (fun _=>hnx _ _ ⟨zs,rfl,sc,hL,by omega⟩)⟩
   refine ⟨_,rfl,.inl ⟨rfl,_,.of hL⟩,_,rfl,a,_,_,_,rfl,rfl,row,Zaf (j:=1) rfl,L,_,_,rfl,rfl,hL,Zaj (by rw [List.length_map]; omega),hnx _ _ ⟨zs++[n],rfl,ZdB sc nL,?_,by rw [List.length_append]; show _+1≤_; omega⟩⟩
   rw [Zab,List.map_append]
   rfl
  ·rintro σ' H' ⟨zs',rfl,sc',hL',zl'⟩
   exact ⟨_,rfl,_,_,rfl,rfl,⟨by decide,by decide +kernel⟩,zs',_,_,rfl,sc',hL',zl'⟩
 case done =>
  rintro σ Hc ⟨zs,z,v,rfl,sc,hL,zl⟩
  rw [ZaH] at zl
  refine ⟨_,rfl,L,_,rfl,.of hL,fun R1 n1=>?_⟩
  have t1:=Zag (o:=.lst (zs.map V.str).reverse) n1
  refine ⟨_,rfl,_,rfl,few rfl,fun R2 n2=>?_⟩
  have t2:=Zag (o:=.lst [V.str dead,.str strange]) n2
  refine ⟨R1,R2,_,_,rfl,rfl,t2 _ _ Zab,Zab,Nat.le_of_lt (Zaj (by rw [List.length_reverse,List.length_map]; show _+2≤_; omega)),fun R3 n3=>?_⟩
  have t3:=Zag (o:=.lst ((zs.map V.str).reverse++[V.str dead,.str strange])) n3
  refine ⟨_,rfl,_,rfl,L,_,rfl,.of ((t1.trans (t2.trans t3)) _ _ hL),fun R4 n4=>?_⟩
  obtain ⟨ws,ew,wl⟩:=ZoY zs none (some 1)
  rw [ew]
  have t4:=Zag (o:=.lst (ws.map V.str)) n4
  refine ⟨R3,R4,_,_,rfl,rfl,t4 _ _ Zab,Zab,Nat.le_of_lt (Zaj (by simp only [List.length_append,List.length_reverse,List.length_map]; show _+2+_≤_; omega)),fun R5 n5=>?_⟩
  have sa:=sc.trans (t1.trans (t2.trans (t3.trans t4)))
  refine q _ _ (zs.reverse++[dead,strange]++ws) (sa.trans (Zag n5)) (Zbq sa n5) ?_ ?_
  ·rw [Zab,List.map_append,List.map_append,List.map_reverse]
   rfl
  ·simp only [List.length_append,List.length_reverse]
   show _+2+_≤_
   omega
theorem Zg4 (T:Tx K w mg) (ZbJ:ZeS P base T):ZeP P base T:=by
 refine Fun.okX (k:=9) T.ZaU.F Zes (fun vs H Q E h=>h.1) (fun cdv A outer s H vs Q E hr h=>?_)
 obtain ⟨-,h⟩:=h
 obtain ⟨b,dx,k,bi,li,ti,su,B,x,rfl,hB,h⟩:=h
 refine ⟨_, (Zae (Znp rfl rfl (by rfl) T.m_HeirError T.x_HeirError EBb (i := 2) Zes.nd rfl rfl (fun pins W E hE => (Zah (Za9 (Zas ZbJ (hr.mono (by decide)) (by rfl) T.m_living_at T.F_living_at.kp T.b_living_at (.cons (show RelV V.non Value.none from rfl) .nil) hE (Zaa (pv 0) (Zaa (pv 1) Zac)))))) (fun pins e => (Zae (Za8 (Zdx (ZcO (Zda K (by rfl) T.n_isinstance (Zaa (pv 2) (Zaa (ZcN (v := .ty "ValueError") (by rfl) T.n_ValueError Zjb rfl) Zac))))) (Zah (Zax ZcJ)) Zay)
   (Zah (Zax (ZbL (Zaa (Zda K (by rfl) T.n_isinstance (Zaa (pv 2) (Zaa (Zfi (v:=.ref T.c_Alive) (by rfl) T.m_Alive rfl) Zac))) (Zaa (Zda K (by rfl) T.n_isinstance (Zaa (pv 2) (Zaa (Zfi (v:=.ref T.c_NoPerson) (by rfl) T.m_NoPerson rfl) Zac))) Zac))))))))
   (Zah (Zax ZcJ))),?_⟩
 dsimp only [ZbE,Zr2]
 rcases h with ⟨hx,q⟩ | ⟨n,rfl,kn,nd,q⟩
 ·refine ZnJ (fun c=>c=T.c_NoPerson) [some (.ref b),some x,none] (fun c z=>by rw [z]; exact T.mr_NoPerson) (fun c H1 e z s1 he=>?_) (fun E' caught=>?_)
  ·subst z
   refine ⟨_,rfl,_,.ty "ValueError",_,_,rfl,rfl,.exc T.e_NoPerson Zab,T.kv_NoPerson,_,rfl,Zc8 ⟨_,rfl,_,.ref T.c_Alive,_,_,rfl,rfl,.exc T.e_NoPerson Zab,T.kx_NoPerson_Alive,_,rfl,_,.ref T.c_NoPerson,_,_,rfl,rfl,.exc T.e_NoPerson Zab,T.kx_NoPerson_NoPerson,few rfl,fun L1 n1=>?_⟩⟩
   have sE:=s1.trans (Zag (o:=ZpN (.ref T.c_NoPerson) e) he)
   exact q _ _ (sE.trans (Zag n1)) (Zbq sE n1) Zab
  ·exact ⟨_,rfl,_,rfl,rfl,b,dx,k,bi,li,ti,su,B,x,.non,rfl,hB,.inl ⟨hx,caught _ _ rfl (Same.refl _)⟩⟩
 ·refine ZnJ (fun c=>c=T.c_Alive) [some (.ref b),some (.str n),none] (fun c z=>by rw [z]; exact T.mr_Alive) (fun c H1 e z s1 he=>?_) (fun E' caught=>?_)
  ·subst z
   refine ⟨_,rfl,_,.ty "ValueError",_,_,rfl,rfl,.exc T.e_Alive Zab,T.kv_Alive,_,rfl,Zc8 ⟨_,rfl,_,.ref T.c_Alive,_,_,rfl,rfl,.exc T.e_Alive Zab,T.kx_Alive_Alive,_,rfl,_,.ref T.c_NoPerson,_,_,rfl,rfl,.exc T.e_Alive Zab,T.kx_Alive_NoPerson,few rfl,fun L1 n1=>?_⟩⟩
   have sE:=s1.trans (Zag (o:=ZpN (.ref T.c_Alive) e) he)
   exact q _ _ (sE.trans (Zag n1)) (Zbq sE n1) Zab
  ·exact ⟨_,rfl,_,rfl,rfl,b,dx,k,bi,li,ti,su,B,(.str n),.non,rfl,hB,.inr ⟨n,rfl,kn,.inl ⟨nd,fun H2 s2=>caught _ _ rfl s2⟩⟩⟩
theorem ZrN (T:Tx K w mg) (Zb1:ZeH P base T) (ZbJ:ZeS P base T) (ZbZ:Zeq P base T) (ZeC:Zgx P base T) (ZcQ:Zgp P base T) (ZeR:ZhR P base T) (Zfg:ZgY P base T) (Za6:ZcK P base T) (Zb9:ZeN P base T) (ZdG:Ziq P base T) (ZdT:Zfl P base T) (ZcF:ZeP P base T):ZrH P base T:=by
 refine Fun.okX (k:=10) T.ZlE.F Zcs (fun vs H Q E h=>h.1) (fun cdv A outer s H vs Q E hr h=>?_)
 obtain ⟨-,h⟩:=h
 obtain ⟨l,ss,rfl,hl,hlen,q⟩:=h
 refine ⟨_, (Zae (ZaC (i := 1) Zcs.nd rfl (Or.inl rfl) (Zas ZeC (hr.mono (by decide)) (by rfl) T.ZbW.m T.ZbW.F.kp T.ZbW.b .nil Zai (Zaa (Zas ZbZ (hr.mono (by decide)) (by rfl) T.ZaT.m T.ZaT.F.kp T.ZaT.b .nil Zai (Zaa (pv 0) (Zaa Zad Zac))) Zac)))
   (Zae (ZaC (i:=2) Zcs.nd rfl (Or.inl rfl) (Zas ZbZ (hr.mono (by decide)) (by rfl) T.ZaT.m T.ZaT.F.kp T.ZaT.b .nil Zai (Zaa (pv 0) (Zaa Zad Zac))))
   (Zae (ZaC (i:=3) Zcs.nd rfl (Or.inl rfl) (Zas Zfg (hr.mono (by decide)) (by rfl) T.Zcm.m T.Zcm.F.kp T.Zcm.b .nil Zai (Zaa (pv 0) (Zaa Zad (Zaa Zad (Zaa (pv 1) Zac))))))
   (Zae (ZaC (i:=4) Zcs.nd rfl (Or.inl rfl) (Zas ZeR (hr.mono (by decide)) (by rfl) T.Zci.m T.Zci.F.kp T.Zci.b .nil Zai (Zaa (pv 3) Zac)))
   (Zae (ZaC (i:=5) Zcs.nd rfl (Or.inl rfl) ZcJ)
   (Zae (Zd7 PassesOwn.leaving rfl (Zbv (Zas Za6 (hr.mono (by decide)) (by rfl) T.ZaA.m T.ZaA.F.kp T.ZaA.b .nil Zai (Zaa (pv 3) Zac))) (ZlX rfl (Zcf (ZaF (i:=6) Zcs.nd rfl (Or.inl rfl)) (Zcf (ZaF (i:=7) Zcs.nd rfl (Or.inl rfl)) Zgd)))
    (Zae (ZaC (i:=8) Zcs.nd rfl (Or.inl rfl) (Zas ZbJ (hr.mono (by decide)) (by rfl) T.m_living_at T.F_living_at.kp T.b_living_at (.cons (show RelV V.non Value.none from rfl) .nil) Zai (Zaa (pv 4) (Zaa (pv 6) Zac))))
   (Zae (Za8 (Zaq Zgz (pv 5) ZcJ (Zau _)) (Zah (ZaC (i:=5) Zcs.nd rfl (Or.inl rfl) (ZbL (Zaa (pv 8) (Zaa (ZeB Zde (by rfl) T.n_list Zgc (Zaa (pv 8) Zac)) Zac))))) Zay)
   (Zae (Za8 (Zdx (ZcO (Zas Zb9 (hr.mono (by decide)) (by rfl) T.ZaJ.m T.ZaJ.F.kp T.ZaJ.b .nil Zai (Zaa (pv 8) (Zaa (Zas ZdG (hr.mono (by decide)) (by rfl) T.Zbk.m T.Zbk.F.kp T.Zbk.b .nil Zai (Zaa (pv 3) (Zaa (pv 6) (Zaa (pv 7) (Zaa ZcJ Zac))))) Zac))))) (Zah (Zax Zeu)) Zay)
   (Zae (ZaC (i:=9) Zcs.nd rfl (Or.inl rfl) (Zas ZdT (hr.mono (by decide)) (by rfl) T.ZbK.m T.ZbK.F.kp T.ZbK.b .nil Zai (Zaa (pv 3) (Zaa (ZaI Zbx (pv 2) Zad) (Zaa (pv 6) (Zaa (Zar ZaW (pv 1) Zad (fun _ _=>rfl)) Zac))))))
   (Zae (ZaC (i:=10) Zcs.nd rfl (Or.inl rfl) (ZeB Zde (by rfl) T.n_list Zgc (Zaa (pv 9) Zac)))
   (Zae (ZaC (i:=8) Zcs.nd rfl (Or.inl rfl) (ZoW ZbJ (hr.mono (by decide)) (by rfl) T.m_living_at T.F_living_at.kp T.kb_living_at ZrX (Zaa (pv 4) (Zaa (pv 6) Zac)) (ZpW (pv 9) ZrP)))
   (Zae (Za8 (PW.pt (Zi6 (Zdx (ZcO (Zas Zb9 (hr.mono (by decide)) (by rfl) T.ZaJ.m T.ZaJ.F.kp T.ZaJ.b .nil Zai (Zaa (pv 8) (Zaa (Zas ZdG (hr.mono (by decide)) (by rfl) T.Zbk.m T.Zbk.F.kp T.Zbk.b .nil Zai (Zaa (pv 3) (Zaa (pv 6) (Zaa (pv 7) (Zaa (pv 10) Zac))))) Zac))))) (Zho (Zaq (Zl8 hr.units) (pv 9) (pv 10) (Zau _))))) (Zah (Zax Zeu)) Zay)
   (Zah (Za8 (Zaq (Zl8 hr.units) (Zas ZbJ (hr.mono (by decide)) (by rfl) T.m_living_at T.F_living_at.kp T.b3_living_at .nil Zai (Zaa (pv 4) (Zaa (pv 6) (Zaa (ZbL Zac) Zac)))) (ZbL Zac) (Zau _)) (Zah (Zax Zeu)) Zay))))))))))
   (Zae (Zgg (i:=11) rfl  Zcs.nd rfl (Or.inl rfl) (Za5 (N:=["_law_one","_law_when"]) [] [none,none] rfl (by decide +kernel) (by decide +kernel) (by rfl) (by rfl) (by rfl) (by rfl) (by rfl)) (Zbv (Zas Za6 (hr.mono (by decide)) (by rfl) T.ZaA.m T.ZaA.F.kp T.ZaA.b .nil Zai (Zaa (pv 3) Zac))) (fun _ _ _=>(Zlg (n:=2) K rfl (Zcf (ZaF (i:=0) Zo6 rfl (Or.inl rfl)) (Zcf (ZaF (i:=1) Zo6 rfl (Or.inl rfl)) Zgd)))) (fun _ _ _=>Ze4) (fun _ _ _=>(pv 0)))
   (Zae (ZaC (i:=12) Zcs.nd rfl (Or.inl rfl) (Zas ZcQ (hr.mono (by decide)) (by rfl) T.ZbN.m T.ZbN.F.kp T.ZbN.b .nil Zai (Zaa (Zar ZaW (Zb6 rfl (Za5 (N:=["_law_row"]) [] [none] rfl (by decide +kernel) (by decide +kernel) (by rfl) (by rfl) (by rfl) (by rfl) (by rfl)) (Zbv (pv 3)) (fun _ _ _=>(ZaF (i:=0) ZpY rfl (Or.inl rfl))) (fun _ _ _=>(Zck (Zaq Zcg (Zar (ZcL K rfl) (pv 0) Zad (fun _ _=>rfl)) Zaw (Zau _)))) (fun _ _ _=>(pv 0))) (Zpe Zma Zad) (fun _ _=>rfl)) Zac)))
   (Zae (Zd7 PassesOwn.leaving rfl (Zbv (ZeB Zde (by rfl) T.n_list Zgc (Zaa (pv 3) Zac))) (ZaF (i:=13) Zcs.nd rfl (Or.inl rfl))
    (Zah (Za8 (PW.pt (Zfo (Zaq Zcg (Zar Zao (pv 13) Zad (fun _ _=>rfl)) Zaw (Zau _)) (Zew (Zaq Zgu (Zar Zao (pv 13) Zad (fun _ _=>rfl)) (pv 11) (by rfl))))) (Zae (Za8 (Zaq (Zl8 hr.units) (Zas ZcF (hr.mono (by decide)) (by rfl) T.ZaU.m T.ZaU.F.kp T.ZaU.b .nil Zai (Zaa (pv 4) (Zaa (Zar Zao (pv 13) Zad (fun _ _=>rfl)) Zac))) (ZbL (Zaa Zeu (Zaa Zeu Zac))) (Zau _)) (Zah (Zax Zeu)) Zay)
   (Zae (Za9 (ZaE (pv 4) T.cl_Book T.ZbQ.me Zb1 (hr.mono (by decide)) T.ZbQ.b .nil Zai (Zaa (Zby (Zaa Zaw (Zaa (Zar Zao (pv 13) Zad (fun _ _=>rfl)) (Zaa (ZaI Zdi (pv 12) Zad) Zac)))) Zac)))
   (Zae (ZaC (i:=3) Zcs.nd rfl (Or.inl rfl) (ZaI Zio (pv 3) (ZbL (Zaa (Zby (Zaa Zaw (Zaa (Zar Zao (pv 13) Zad (fun _ _=>rfl)) (Zaa (ZaI Zdi (pv 12) Zad) Zac)))) Zac))))
   (Zae (ZaC (i:=8) Zcs.nd rfl (Or.inl rfl) (Zas ZbJ (hr.mono (by decide)) (by rfl) T.m_living_at T.F_living_at.kp T.b3_living_at .nil Zai (Zaa (pv 4) (Zaa (Zar Zao (pv 13) Zad (fun _ _=>rfl)) (Zaa ZcJ Zac)))))
   (Zah (Za8 (Zdx (ZcO (Zas Zb9 (hr.mono (by decide)) (by rfl) T.ZaJ.m T.ZaJ.F.kp T.ZaJ.b .nil Zai (Zaa (pv 8) (Zaa (Zas ZdG (hr.mono (by decide)) (by rfl) T.Zbk.m T.Zbk.F.kp T.Zbk.b .nil Zai (Zaa (pv 3) (Zaa (Zar Zao (pv 13) Zad (fun _ _=>rfl)) (Zaa (ZaI Zdi (pv 12) Zad) (Zaa ZcJ Zac))))) Zac))))) (Zah (Zax Zeu)) Zay)))))) Zay)))
   (Zae (ZaC (i:=14) Zcs.nd rfl (Or.inl rfl) (Zar ZaW (ZbL (Zaa (Zar ZaW (pv 1) Zad (fun _ _=>rfl)) (Zaa Zaw (Zaa ZcJ (Zaa Zad (Zaa (Zby (Zaa (Zar ZaW (pv 1) Zad (fun _ _=>rfl)) Zac)) (Zaa (ZbL (Zaa (Zar ZaW (pv 1) Zad (fun _ _=>rfl)) Zac)) Zac))))))) (ZaI Zbw (pv 2) Zad) (fun _ _=>rfl)))
   (Zah (Zax (Zec (Zbz (Znw hr.units) (Zas ZcF (hr.mono (by decide)) (by rfl) T.ZaU.m T.ZaU.F.kp T.ZaU.b .nil Zai (Zaa (pv 4) (Zaa (pv 14) Zac))) (ZbL (Zaa Zeu (Zaa Zeu Zac))) (Zau _)) (Zdw (Zqt (Zbz Zgz (pv 5) ZcJ (Zau _)) (Zdw (Zbz (Znw hr.units) (Zar ZaW (pv 5) Zad (fun _ _=>rfl)) (Zar ZaW (pv 5) Zad (fun _ _=>rfl)) (Zau _)))))))))))))))))),?_⟩
 have zd:∀ n:Int,1≤n->n≤20000000->n≠0∧n.natAbs<2 ^ 1000:=fun n h1 h2=>⟨by omega,Nat.lt_of_le_of_lt (show n.natAbs≤20000000 by omega) (by decide +kernel)⟩
 refine ⟨_,rfl,rfl,l,ss,0,rfl,hl,hlen,by decide,fun z0 z0p=>⟨rfl,z0,rfl,fun H1 Dn ns s1 nDn hDn nms=>?_⟩⟩
 dsimp only [ZbE]
 refine ⟨_,rfl,rfl,l,ss,1,rfl,s1.sql hl,hlen,by decide,fun bits bp=>?_⟩
 dsimp only [ZbE]
 refine ⟨_,rfl,_,rfl,rfl,l,Dn,ss,ns,rfl,s1.sql hl,hlen,.of hDn,nms,fun H2 Dr ks s2 nDr hDr hR rw0=>?_⟩
 dsimp only [ZbE]
 obtain ⟨bs,ds0,ts,ees,pb,b0,b20,dl0,t20,dk0,tk0⟩:=rw0.ex
 have pl:(ns.take 20).length≤33:=by rw [List.length_take]; omega
 have ls0:LS ns bs ts [] (ks.map (·.1)):=⟨⟨ds0,by rw [ees,List.append_nil],dk0⟩,pb,b20,t20,tk0,fun e he=>(by cases he),rw0.good⟩
 have kl:ks.length≤60:=by have:=ls0.len; rwa [List.length_map] at this
 refine ⟨_,rfl,rfl,Dr,ks,ns.take 20,rfl,.of hDr,hR,ls0.good,pl,kl,fun H3 b dx k bi li ti su B hB li5 hk s3=>?_⟩
 dsimp only [ZbE]
 have hDr3:=s3 _ _ hDr
 have hDn3:=(s2.trans s3) _ _ hDn
 have hR3:RowsAt K H3 ks:=hR.mono s3
 have ub:=Zrc hk ls0.good li5 pl ls0.len
 refine ⟨_,rfl,rfl,Dr,ks,rfl,.of hDr3,hR3,by omega,fun H4 Dq qs s4 nDq hDq hq eq4=>?_⟩
 have el60:(ks.map (·.1)).length≤60:=ls0.len
 have hDr4:=s4 _ _ hDr3
 have hDn4:=s4 _ _ hDn3
 have hR4:RowsAt K H4 ks:=hR3.mono s4
 have hB4:=hB.mono s4
 have atns:∀ j:Nat,j<26->∃ x,ns[j]?=some x∧atI (ns.map V.str) (j:Int)=some (.str x):=fun j hj=>by
  have hj':j<ns.length:=by rw [nms.len]; exact hj
  exact ⟨ns[j],List.getElem?_eq_getElem hj',Zaf (by rw [List.getElem?_map,List.getElem?_eq_getElem hj']; rfl)⟩
 obtain ⟨x25,_,at25⟩:=atns 25 (by decide)
 refine ⟨Dq,rfl,⟨_,.of hDq⟩,ZfN (xs:=qs.map fun q=>V.ref q.1) (fun i σ Hc=>∃ (hv:V) (v6 v7 v8 v9 v10:Option V),σ=[some (.ref l),some (.ref Dn),some (.int bits),some (.ref Dr),some (.ref b),some hv,v6,v7,v8,v9,v10,none,none,none,none]∧Same H4 Hc∧HeldOk Hc hv) ?start ?list ?turn ?done⟩
 case start=>exact ⟨.non,none,none,none,none,none,rfl,Same.refl _,.inl rfl⟩
 case list =>
  rintro i σ Hc _ ⟨hv,v6,v7,v8,v9,v10,rfl,sc,_⟩
  exact sc.sql (.of hDq)
 case turn =>
  rintro i y σ Hc hy ⟨hv,v6,v7,v8,v9,v10,rfl,sc,hh⟩
  rw [List.getElem?_map] at hy
  obtain ⟨p,hp,rfl⟩:=Option.map_eq_some_iff.mp hy
  have hm:=List.mem_of_getElem? hp
  have hmem:p.2∈ZaP (ks.map (·.1)):=by rw [← eq4]; exact List.mem_map.mpr ⟨p,hm,rfl⟩
  have hqp:=sc.sqt (hq p hm)
  obtain ⟨pa,n,d⟩:=p
  dsimp only at hmem hqp
  obtain ⟨kn,dv⟩:=ZiB hk ls0.good hmem
  have hBc:=hB4.mono sc
  refine ⟨pa,_,rfl,hqp,rfl,_,_,rfl,_,_,rfl,rfl,?_⟩
  refine ⟨_,rfl,_,rfl,rfl,b,dx,k,bi,li,ti,su,B,.str n,.non,rfl,hBc,.inr ⟨n,rfl,kn,.inr ⟨d,ns.take 20,none,dv,ub,rfl,fun H5 F5 B5 s5 n5 e5 h5=>?_⟩⟩⟩
  rw [hk] at e5
  rw [Zld (o:=none) e5 hmem] at h5
  dsimp only [ZbE]
  have hh5:=hh.mono fun a xs e=>s5 a _ e
  refine ZdI (fun σ' H'=>∃ hv':V,σ'=[some (.ref l),some (.ref Dn),some (.int bits),some (.ref Dr),some (.ref b),some hv',some (.str n),some (.int d),some (.ref F5),v9,v10,none,none,none,none]∧Same H5 H'∧HeldOk H' hv') (fun nx hnx=>?_) ?_
  ·rcases hh5 with rfl | hh5
   ·refine ⟨_,rfl,rfl,_,rfl,Zbe (by rfl) ⟨_,rfl,_,rfl,F5,_,rfl,.inl (.of h5),fun f2 nf2=>⟨few rfl,fun Lh nLh=>?_⟩⟩⟩
    have t1:=Zag (o:=.lst ((Zqd (ks.map (·.1)) n d none).map V.str)) nf2
    have t2:=Zag (o:=.lst [V.ref F5,.ref f2]) nLh
    exact hnx _ _ ⟨.ref Lh,rfl,t1.trans t2,.inr ⟨Lh,F5,f2,_,rfl,Zab,(t1.trans t2) _ _ h5,t2 _ _ Zab⟩⟩
   ·obtain ⟨Lh,f1,f2,zs,rfl,hr2⟩:=id hh5
    exact ⟨_,rfl,rfl,_,rfl,ZaB (by rfl) (hnx _ _ ⟨_,rfl,Same.refl _,.inr hh5⟩)⟩
  rintro σ' H6 ⟨hv',rfl,s6,hh6⟩
  have sc6:=sc.trans (s5.trans s6)
  have hF6:=s6 _ _ h5
  have dul:=Zlj (ks.map (·.1)) n d none
  refine ⟨_,rfl,_,rfl,_,rfl,_,rfl,rfl,Dr,ks,n,d,.non,none,rfl,.of (sc6 _ _ hDr4),hR4.mono sc6,by omega,rfl,fun H7 G7 s7 n7 h7=>?_⟩
  refine ⟨rfl,F5,G7,_,rfl,.of (s7 _ _ hF6),.of h7,by omega,fun H8 s8=>⟨_,rfl,Zc8 ?_⟩⟩
  have sc8:=sc6.trans (s7.trans s8)
  refine ⟨_,rfl,_,rfl,_,_,rfl,rfl,zd 8 (by decide) (by decide),_,rfl,_,rfl,Dn,_,_,_,rfl,rfl,.of (sc8 _ _ hDn4),at25,rfl,Dr,ks,_,n,x25,rfl,.of (sc8 _ _ hDr4),hR4.mono sc8,by omega,fun H9 G9 zs s9 n9 h9 zl=>?_⟩
  dsimp only [ZbE]
  refine ⟨_,rfl,G9,_,rfl,.inl (.of h9),fun G10 n10=>?_⟩
  dsimp only [ZbE]
  have t10:=Zag (o:=.lst (zs.map V.str)) n10
  have hG10:=Zab (H:=H9) (a:=G10) (o:=.lst (zs.map V.str))
  have h9':=t10 _ _ h9
  have sc10:=sc8.trans (s9.trans t10)
  have hh10:=hh6.mono fun a xs e=>(s7.trans (s8.trans (s9.trans t10))) a _ e
  generalize upd H9 G10 (.lst (zs.map V.str))=H10 at *
  refine ⟨_,rfl,_,rfl,_,rfl,rfl,b,dx,k,bi,li,ti,su,B,.str n,.ref G9,rfl,hB4.mono sc10,.inr ⟨n,rfl,kn,.inr ⟨d,ns.take 20,some zs,dv,ub,⟨G9,rfl,.of h9'⟩,fun H11 F11 B11 s11 n11 e11 h11=>?_⟩⟩⟩
  rw [hk] at e11
  rw [Zld (o:=some zs) e11 hmem] at h11
  dsimp only [ZbE]
  have sc11:=sc10.trans s11
  have dul2:=Zlj (ks.map (·.1)) n d (some zs)
  refine ⟨_,rfl,_,rfl,_,rfl,_,rfl,_,rfl,rfl,Dr,ks,n,d,.ref G10,some zs,rfl,.of (sc11 _ _ hDr4),hR4.mono sc11,by omega,⟨G10,rfl,.of (s11 _ _ hG10)⟩,fun H12 G12 s12 n12 h12=>?_⟩
  refine ⟨rfl,F11,G12,_,rfl,.of (s12 _ _ h11),.of h12,by omega,fun H13 s13=>⟨_,rfl,Zc8 ?_⟩⟩
  have s1013:=s11.trans (s12.trans s13)
  have i1:Is K H13 (.lst (zs.map D.str)) (.ref G9):=⟨G9,_,rfl,.of (s1013 _ _ h9'),Zdo zs⟩
  have i2:Is K H13 (.lst (zs.map D.str)) (.ref G10):=⟨G10,_,rfl,.of (s1013 _ _ hG10),Zdo zs⟩
  refine ⟨_,rfl,_,rfl,_,_,i1,i2,by rw [ZfG]; decide,_,rfl,?_⟩
  show if (!Zh2 (zs.map D.str) (zs.map D.str))=true then _ else _
  rw [ZfU,decide_eq_true rfl]
  refine Zc8 ?_
  dsimp only [ZnC]
  refine ⟨_,rfl,_,rfl,few rfl,fun L14 n14=>?_⟩
  have t14:=Zag (o:=.lst []) n14
  have hL14:=Zab (H:=H13) (a:=L14) (o:=.lst [])
  have sc14:=sc10.trans (s1013.trans t14)
  have hh14:=hh10.mono fun a xs e=>(s1013.trans t14) a _ e
  generalize upd H13 L14 (.lst [])=H14 at *
  refine ⟨rfl,b,dx,k,bi,li,ti,su,B,.str n,.ref L14,rfl,hB4.mono sc14,.inr ⟨n,rfl,kn,.inr ⟨d,ns.take 20,some [],dv,ub,⟨L14,rfl,.of hL14⟩,fun H15 F15 B15 s15 n15 e15 h15=>?_⟩⟩⟩
  rw [Zqh] at h15
  refine ⟨few rfl,fun L16 n16=>?_⟩
  have t16:=Zag (o:=.lst []) n16
  have i3:Is K (upd H15 L16 (.lst [])) (.lst (([]:List Str).map D.str)) (.ref F15):=⟨F15,_,rfl,.of (t16 _ _ h15),Zdo []⟩
  have i4:Is K (upd H15 L16 (.lst [])) (.lst (([]:List Str).map D.str)) (.ref L16):=⟨L16,_,rfl,.of Zab,Zdo []⟩
  refine ⟨_,_,i3,i4,by decide,_,rfl,?_⟩
  refine ZaB (by rfl) ?_
  exact ⟨hv',_,_,_,_,_,rfl,sc14.trans (s15.trans t16),hh14.mono fun a xs e=>(s15.trans t16) a _ e⟩
 case done =>
  rintro σ Hc ⟨hv,v6,v7,v8,v9,v10,rfl,sc,hh⟩
  have hDrc:=sc _ _ hDr4
  have hRc:RowsAt K Hc ks:=hR4.mono sc
  refine ⟨_,rfl,rfl,Dr,ks,rfl,.of hDrc,hRc,by omega,fun H5 D5' qs2 s5 n5 h5 hq2 eq5=>?_⟩
  have ql:qs2.length≤ks.length:=by
   have:=congrArg List.length eq5
   rw [List.length_map] at this
   rw [this]
   exact Nat.le_trans (List.length_filterMap_le ..) (by rw [List.length_map]; exact Nat.le_refl _)
  refine ⟨D5',rfl,⟨_,.of h5⟩,ZeG ((qs2.map (·.2.1)).map V.str) (Zaj (by rw [List.length_map,List.length_map]; omega)) (fun σ=>∃ w v,σ=[w,v]) ⟨_,_,rfl⟩ (fun j H6 hj sm=>?go4) (fun H6 sm=>?stop4) (fun j σ H6 x H7 y hy hσ sm hx C hC=>?step4) (fun G H6 nG s6 hG=>?fin4)⟩
  case go4=>exact ⟨_,_,sm.sql (.of h5),List.getElem?_eq_getElem (by rw [List.length_map]; rw [List.length_map,List.length_map] at hj; exact hj)⟩
  case stop4=>exact ⟨_,sm.sql (.of h5),by rw [List.length_map,List.length_map,List.length_map]; exact Nat.le_refl _⟩
  case step4 =>
   obtain ⟨w,v,rfl⟩:=hσ
   obtain ⟨rfl,hx2⟩:=hx
   have hx3:=hx2 _ (sm.sql (.of h5))
   rw [List.getElem?_map] at hx3
   obtain ⟨p,hp,rfl⟩:=Option.map_eq_some_iff.mp hx3
   rw [List.getElem?_map,List.getElem?_map,hp] at hy
   obtain rfl:=Option.some.inj hy
   exact ⟨p.1,_,rfl,sm.sqt (hq2 p (List.mem_of_getElem? hp)),rfl,_,_,rfl,_,_,rfl,rfl,_,rfl,hC _ _ ⟨_,_,rfl⟩ (Same.refl _)⟩
  case fin4 =>
  have en:qs2.map (·.2.1)=(ZaP (ks.map (·.1))).map (·.1):=by rw [← eq5,List.map_map]; rfl
  rw [en] at hG
  dsimp only [ZbE]
  have s56:=s5.trans s6
  have hDr6:=s56 _ _ hDrc
  have hR6:RowsAt K H6 ks:=hRc.mono s56
  refine ⟨_,rfl,Dr,rfl,⟨_,.of hDr6⟩,Zbs (ks.map Zo8) (Zaj (by rw [List.length_map]; omega)) (fun σ=>∃ w,σ=[w]) ⟨_,rfl⟩ (fun j H4 hj sm=>?go5) (fun H4 sm=>?stop5) (fun j σ H4 x H5 z hz hσ sm hx C hC=>?step5) (fun P5 H7 nP5 s7 hP5=>?fin5)⟩
  case go5=>exact ⟨_,_,sm.sql (.of hDr6),List.getElem?_eq_getElem (by rw [ZaH]; rw [List.length_map] at hj; exact hj)⟩
  case stop5=>exact ⟨_,sm.sql (.of hDr6),by rw [ZaH,List.length_map]; exact Nat.le_refl _⟩
  case step5 =>
   obtain ⟨w,rfl⟩:=hσ
   obtain ⟨rfl,hx2⟩:=hx
   obtain ⟨p,hp,rfl⟩:=ZdP (hx2 _ (sm.sql (.of hDr6)))
   have pm:=List.mem_of_getElem? hp
   rw [List.getElem?_map,hp] at hz
   obtain rfl:=Option.some.inj hz
   have hp2:=sm.sqt (hR6 p pm)
   obtain ⟨x,u⟩:=p
   refine ⟨_,rfl,u,_,_,_,rfl,rfl,hp2,ZhV x,rfl,_,rfl,ZmQ (fun hb=>?_) (fun hb=>?_)⟩
   ·obtain ⟨n,s,d,f,m,rfl⟩:=ZhI hb
    exact ⟨_,rfl,hC _ _ ⟨_,rfl⟩ (Same.refl _)⟩
   ·have:Zo8 (x,u)=none:=by
     cases x with
     | born n s d f m=>exact absurd hb (by show ¬ decide (V.str "born"=V.str "born")=false; rw [decide_eq_true rfl]; simp)
     | _=>rfl
    rw [this] at hC
    exact hC _ _ ⟨_,rfl⟩ (Same.refl _)
  case fin5 =>
  rw [ZjX] at hP5
  have bf:=ZkX ees pb.kw dk0 tk0
  have sub:∀ p∈ks.filter (fun p=>p.1.isBorn),p∈ks:=fun p hp=>(List.mem_filter.mp hp).1
  generalize ks.filter (fun p=>p.1.isBorn)=fs at *
  have fne:fs≠[]:=fun z=>by rw [z] at bf; rw [← bf] at b0; exact absurd b0 (by decide)
  obtain ⟨fi,pl9,efs⟩:∃ fi pl9,fs=fi++[pl9]:=⟨_,_,(List.dropLast_concat_getLast fne).symm⟩
  have plm:pl9∈ks:=sub pl9 (by rw [efs]; simp)
  have ebs:bs=fi.map (·.1)++[pl9.1]:=by rw [← bf,efs,List.map_append]; rfl
  obtain ⟨dl,hdl⟩:∃ dl,pl9.1.day=dl:=⟨_,rfl⟩
  have lasti:bs[fi.length]?=some pl9.1:=by rw [ebs,List.getElem?_append_right (by rw [List.length_map]; exact Nat.le_refl _),List.length_map,Nat.sub_self]; rfl
  have dmax:∀ x∈bs,x.day≤dl:=fun x hx=>by
   obtain ⟨j,hj,ej⟩:=List.mem_iff_getElem.mp hx
   have bl:bs.length=fi.length+1:=by rw [ebs,List.length_append,List.length_map]; rfl
   rw [← hdl]
   exact pb.up j fi.length x _ (by omega) (by rw [List.getElem?_eq_getElem hj,ej]) lasti
  have dlb:-10 ^ 17≤dl∧dl≤10 ^ 12:=by
   obtain ⟨n',s',d',f',m',_,e',h1,h2⟩:=pb.nm _ _ lasti
   have bl:bs.length=fi.length+1:=by rw [ebs,List.length_append,List.length_map]; rfl
   rw [e'] at hdl
   have:d'=dl:=hdl
   omega
  rw [efs,show ZaQ (fi++[pl9])=ZaQ fi++[V.ref pl9.2] by unfold ZaQ; rw [List.map_append]; rfl] at hP5
  refine ⟨_,rfl,P5,_,_,_,rfl,rfl,.of hP5,Zo9 _ _,rfl,.ref pl9.2,pl9.1,rfl,⟨pl9.2,rfl,s7.sqt (hR6 pl9 plm)⟩,?_⟩
  rw [hdl]
  dsimp only [ZbE]
  have hDr7:=s7 _ _ hDr6
  refine ⟨_,rfl,Dr,_,rfl,.inl (.of hDr7),fun Lr nLr=>?_⟩
  have tr:=Zag (o:=.lst (ZaQ ks)) nLr
  have hLr:=Zab (H:=H7) (a:=Lr) (o:=.lst (ZaQ ks))
  have s78:=s7.trans tr
  have sc8:=s56.trans s78
  have hDr8:=s78 _ _ hDr6
  have hR8:RowsAt K _ ks:=hR6.mono s78
  have hG8:=s78 _ _ hG
  have hB8:=hB4.mono (sc.trans sc8)
  have hDn8:=(sc.trans sc8) _ _ hDn4
  have hh8:=hh.mono fun a xs e=>sc8 a _ e
  generalize upd H7 Lr (.lst (ZaQ ks))=H8 at *
  refine ⟨Lr,rfl,⟨_,.of hLr⟩,ZfN (xs:=ZaQ ks) (fun i σ Hc=>∃ (B:Bk) (ks':List (Ent × Addr)) (xs:List Ent) (Dr':Addr) (v6 v7 v8 v9 v10 v13:Option V),σ=[some (.ref l),some (.ref Dn),some (.int bits),some (.ref Dr'),some (.ref b),some hv,v6,v7,v8,v9,v10,some (.ref G),some (.int dl),v13,none]∧BkAt K T.c_Book Hc b dx k bi li ti su B∧LI5 (ns.take 20) B B.kept∧B.kept.map (·.1)=(ks'.map (·.1)).map Ent.told∧Hc Dr'=some (.lst (ZaQ ks'))∧RowsAt K Hc ks'∧LS ns bs ts xs (ks'.map (·.1))∧(∀ n∈(ZaP (ks'.map (·.1))).map (·.1),n∈(ZaP (ks.map (·.1))).map (·.1)∨∃ j q,j<i∧ks[j]?=some q∧q.1.bornName=some n)∧(∀ c zs,H8 c=some (.lst zs)->Hc c=some (.lst zs))∧∀ a ys,SqT K H8 a ys->SqT K Hc a ys) ?start6 ?list6 ?turn6 ?done6⟩
  case start6=>exact ⟨B,ks,[],Dr,_,_,_,_,_,_,rfl,hB8,li5,hk,hDr8,hR8,ls0,fun n hn=>.inl hn,fun c zs e=>e,fun a ys e=>e⟩
  case list6 =>
   rintro i σ Hc _ ⟨B,ks',xs,Dr',v6,v7,v8,v9,v10,v13,rfl,_,_,_,_,_,_,_,kL,_⟩
   exact .of (kL _ _ hLr)
  case turn6 =>
   rintro i y σ Hc hy ⟨B,ks',xs,Dr',v6,v7,v8,v9,v10,v13,rfl,hBc,li5,hk,hDrc,hRc,ls,dn,kL,kT⟩
   obtain ⟨p,hp,rfl⟩:=ZdP hy
   have pm:=List.mem_of_getElem? hp
   have row:=kT _ _ (hR8 p pm)
   obtain ⟨e,a⟩:=p
   have hGc:=kL _ _ hG8
   have keep:∀ v:Option V,∃ (B:Bk) (ks':List (Ent × Addr)) (xs:List Ent) (Dr'':Addr) (v6 v7 v8 v9 v10 v13:Option V),[some (.ref l),some (.ref Dn),some (.int bits),some (.ref Dr'),some (.ref b),some hv,_,_,_,_,_,some (.ref G),some (.int dl),v,none]=[some (.ref l),some (.ref Dn),some (.int bits),some (.ref Dr''),some (.ref b),some hv,v6,v7,v8,v9,v10,some (.ref G),some (.int dl),v13,none]∧BkAt K T.c_Book Hc b dx k bi li ti su B∧LI5 (ns.take 20) B B.kept∧B.kept.map (·.1)=(ks'.map (·.1)).map Ent.told∧Hc Dr''=some (.lst (ZaQ ks'))∧RowsAt K Hc ks'∧LS ns bs ts xs (ks'.map (·.1))∧(∀ n∈(ZaP (ks'.map (·.1))).map (·.1),n∈(ZaP (ks.map (·.1))).map (·.1)∨∃ j q,j<i+1∧ks[j]?=some q∧q.1.bornName=some n)∧(∀ c zs,H8 c=some (.lst zs)->Hc c=some (.lst zs))∧∀ a ys,SqT K H8 a ys->SqT K Hc a ys:=fun v=>⟨B,ks',xs,Dr',v6,v7,v8,v9,v10,v,rfl,hBc,li5,hk,hDrc,hRc,ls,fun n hn=>(dn n hn).imp id (fun ⟨j,q,h1,h2⟩=>⟨j,q,by omega,h2⟩),kL,kT⟩
   refine ⟨_,rfl,a,_,_,_,rfl,rfl,row,ZhV e,rfl,_,rfl,ZmQ (fun hb=>?_) (fun _=>Zc8 (keep _))⟩
   obtain ⟨n,sx,d,f,m,rfl⟩:=ZhI hb
   refine ⟨_,rfl,a,_,_,_,rfl,rfl,row,Zaf (j:=1) (x:=.str n) rfl,_,rfl,G,_,rfl,.inl (.of hGc),rfl,Zfs _,_,rfl,?_⟩
   by_cases hg:n∈(ZaP (ks.map (·.1))).map (·.1)
   ·exact ZaB (by show (!inV (.str n) (((ZaP (ks.map (·.1))).map (·.1)).map V.str))=false; rw [Zd2,decide_eq_true hg]; rfl) (keep _)
   refine Zbe (by show (!inV (.str n) (((ZaP (ks.map (·.1))).map (·.1)).map V.str))=true; rw [Zd2,decide_eq_false hg]; rfl) ?_
   have hbs:Ent.born n sx d f m∈bs:=(ls0.born ..).mp (List.mem_map.mpr ⟨_,pm,rfl⟩)
   have no:n ∉ (ZaP (ks'.map (·.1))).map (·.1):=fun z=>by
    rcases dn n z with z | ⟨j,q,jl,hq',eq'⟩
    ·exact hg z
    ·have g1:((ks.map (·.1)).map fun e=>e.told.key)[i]?=some ([.inr "born",.inr n]:List Key):=by rw [List.getElem?_map,List.getElem?_map,hp]; rfl
     have g2:((ks.map (·.1)).map fun e=>e.told.key)[j]?=some ([.inr "born",.inr n]:List Key):=by
      rw [List.getElem?_map,List.getElem?_map,hq']
      show some q.1.told.key=_
      cases hq1:q.1 with
      | born n' s' d' f' m'=>rw [hq1] at eq'; cases eq'; rfl
      | _=>rw [hq1] at eq'; cases eq'
     have ij:=(List.getElem?_inj (List.getElem?_eq_some_iff.mp g1).1 ls0.good.keys).mp (g1.trans g2.symm)
     omega
   obtain ⟨kn,dv⟩:=ZlB hk ls.good ((ls.born ..).mpr hbs) no
   refine ⟨_,rfl,_,rfl,a,_,_,_,rfl,rfl,row,Zaf (j:=1) (x:=.str n) rfl,rfl,b,dx,k,bi,li,ti,su,B,.str n,rfl,hBc,.inr ⟨n,rfl,kn,dv,fun H9 R9 s9 n9 h9=>⟨few rfl,fun L10 n10=>?_⟩⟩⟩
   have t10:=Zag (o:=.lst [V.bl true,.bl false]) n10
   have i1:Is K (upd H9 L10 (.lst [V.bl true,.bl false])) (.lst ([true,false].map D.bl)) (.ref R9):=ZiZ (.of (t10 _ _ h9))
   have i2:Is K (upd H9 L10 (.lst [V.bl true,.bl false])) (.lst ([true,false].map D.bl)) (.ref L10):=ZiZ (.of Zab)
   refine ⟨_,_,i1,i2,by decide,_,rfl,ZaB (by rfl) ?_⟩
   dsimp only [ZnC]
   have sc10:=s9.trans t10
   have hB10:=hBc.mono sc10
   have row10:=sc10.sqt row
   have hDr10:=sc10 _ _ hDrc
   have hR10:RowsAt K _ ks':=hRc.mono sc10
   have kL10:∀ c zs,H8 c=some (.lst zs)->upd H9 L10 (.lst [V.bl true,.bl false]) c=some (.lst zs):=fun c zs e=>sc10 _ _ (kL c zs e)
   have kT10:∀ a ys,SqT K H8 a ys->SqT K (upd H9 L10 (.lst [V.bl true,.bl false])) a ys:=fun a ys e=>sc10.sqt (kT a ys e)
   clear i1 i2 h9 t10 keep
   generalize upd H9 L10 (.lst [V.bl true,.bl false])=H10 at *
   have dn9:d≤dl:=dmax _ hbs
   have ls2:=ls.put nms hbs (x:=dl+9) (by omega) (by omega) no
   have hkl:B.kept.length≤60:=by
    have h1:=ZdL hk
    have h2:=ls.len
    rw [List.length_map] at h1
    omega
   obtain ⟨no2,d5,rm⟩:=GdL.ref li5 hk ls2.good hkl pl
   refine ⟨_,rfl,b,dx,_,rfl,hB10.ob,rfl,_,rfl,a,_,_,_,rfl,rfl,row10,Zaf (j:=1) (x:=.str n) rfl,_,rfl,_,_,rfl,rfl,few rfl,fun t nt=>?_⟩
   have tt:=Zag (o:=(.tup [V.str "dead",.str n,.int (dl+9)])) nt
   refine ⟨rfl,b,dx,k,bi,li,ti,su,B,.ref t,.dead n (dl+9),rfl,hB10.mono tt,⟨t,rfl,.of Zab⟩,d5.1,no2,rm,fun H12 B12 y hB12 hput bt hy gr grT=>?_⟩
   have kp:=Znu (hB10.mono tt) bt (hy.imp id fun h=>by
    rcases h with h | h
    ·rw [h]; exact ⟨_,(hB10.mono tt).bi⟩
    ·obtain ⟨q,hq',rfl⟩:=List.mem_map.mp h
     exact ⟨_,(hB10.mono tt).tt q hq'⟩)
   obtain ⟨li12,sb12⟩:=li5.put' hput d5 no2
   have hk12:B12.kept.map (·.1)=(ks'.map (·.1)++[Ent.dead n (dl+9)]).map Ent.told:=by rw [sb12,hk,List.map_append]; rfl
   have row12:=kp.sqt _ _ (tt.sqt row10)
   have hDr12:=kp.lst _ _ (tt _ _ hDr10)
   have hR12:RowsAt K H12 ks':=fun p hp=>kp.sqt _ _ (tt.sqt (hR10 p hp))
   have kL12:∀ c zs,H8 c=some (.lst zs)->H12 c=some (.lst zs):=fun c zs e=>kp.lst _ _ (tt _ _ (kL10 c zs e))
   have kT12:∀ a ys,SqT K H8 a ys->SqT K H12 a ys:=fun a ys e=>kp.sqt _ _ (tt.sqt (kT10 a ys e))
   refine ⟨_,rfl,_,rfl,a,_,_,_,rfl,rfl,row12,Zaf (j:=1) (x:=.str n) rfl,_,rfl,_,_,rfl,rfl,few rfl,fun t2 nt2=>⟨few rfl,fun L13 n13=>?_⟩⟩
   have u1:=Zag (o:=(.tup [V.str "dead",.str n,.int (dl+9)])) nt2
   have u2:=Zag (o:=.lst [V.ref t2]) n13
   refine ⟨Dr',L13,_,_,rfl,rfl,(u1.trans u2) _ _ hDr12,Zab,Nat.le_of_lt (Zaj (by rw [ZaH]; have:=ls.len; rw [List.length_map] at this; show _+1≤_; omega)),fun Dr2 nDr2=>?_⟩
   have u3:=Zag (o:=.lst (ZaQ ks'++[V.ref t2])) nDr2
   have er:ZaQ ks'++[V.ref t2]=ZaQ (ks'++[(.dead n (dl+9),t2)]):=by unfold ZaQ; rw [List.map_append]; rfl
   have u13:=u1.trans (u2.trans u3)
   have hB16:=hB12.mono u13
   have row16:=u13.sqt row12
   have hDr16:(upd (upd (upd H12 t2 (.tup [V.str "dead",.str n,.int (dl+9)])) L13 (.lst [V.ref t2])) Dr2 (.lst (ZaQ ks'++[V.ref t2]))) Dr2=some (.lst (ZaQ (ks'++[(.dead n (dl+9),t2)]))):=by rw [Zab,er]
   have hR16:RowsAt K (upd (upd (upd H12 t2 (.tup [V.str "dead",.str n,.int (dl+9)])) L13 (.lst [V.ref t2])) Dr2 (.lst (ZaQ ks'++[V.ref t2]))) (ks'++[(.dead n (dl+9),t2)]):=fun p hp=>by
    rcases List.mem_append.mp hp with hp | hp
    ·exact u13.sqt (hR12 p hp)
    ·rw [List.mem_singleton.mp hp]
     exact (u2.trans u3).sqt (.of Zab)
   have kL16:∀ c zs,H8 c=some (.lst zs)->(upd (upd (upd H12 t2 (.tup [V.str "dead",.str n,.int (dl+9)])) L13 (.lst [V.ref t2])) Dr2 (.lst (ZaQ ks'++[V.ref t2]))) c=some (.lst zs):=fun c zs e=>u13 _ _ (kL12 c zs e)
   have kT16:∀ a ys,SqT K H8 a ys->SqT K (upd (upd (upd H12 t2 (.tup [V.str "dead",.str n,.int (dl+9)])) L13 (.lst [V.ref t2])) Dr2 (.lst (ZaQ ks'++[V.ref t2]))) a ys:=fun a ys e=>u13.sqt (kT12 a ys e)
   generalize upd (upd (upd H12 t2 (.tup [V.str "dead",.str n,.int (dl+9)])) L13 (.lst [V.ref t2])) Dr2 (.lst (ZaQ ks'++[V.ref t2]))=H16 at *
   dsimp only [ZbE]
   have em:(ks'++[((.dead n (dl+9):Ent),t2)]).map (·.1)=ks'.map (·.1)++[Ent.dead n (dl+9)]:=by rw [List.map_append]; rfl
   rw [← em] at ls2 hk12
   have dmem:(n,dl+9)∈ZaP ((ks'++[((.dead n (dl+9):Ent),t2)]).map (·.1)):=List.mem_filterMap.mpr ⟨.dead n (dl+9),by rw [em]; simp,rfl⟩
   obtain ⟨kn2,dv2⟩:=ZiB hk12 ls2.good dmem
   have ub2:=Zrc hk12 ls2.good li12 pl ls2.len
   have l2:=ls2.len
   have l2':(ks'++[((.dead n (dl+9):Ent),t2)]).length≤60:=by rwa [List.length_map] at l2
   refine ⟨_,rfl,_,rfl,a,_,_,_,rfl,rfl,row16,Zaf (j:=1) (x:=.str n) rfl,rfl,b,dx,k,bi,li,ti,su,B12,.str n,.non,rfl,hB16,.inr ⟨n,rfl,kn2,.inr ⟨dl+9,ns.take 20,none,dv2,ub2,rfl,fun H17 F17 B17 s17 n17 e17 h17=>?_⟩⟩⟩
   rw [hk12] at e17
   rw [Zld (o:=none) e17 dmem] at h17
   dsimp only [ZbE]
   have dul:=Zlj ((ks'++[((.dead n (dl+9):Ent),t2)]).map (·.1)) n (dl+9) none
   refine ⟨_,rfl,_,rfl,_,rfl,a,_,_,_,rfl,rfl,(s17.sqt row16),Zaf (j:=1) (x:=.str n) rfl,_,rfl,_,_,rfl,rfl,rfl,Dr2,_,n,dl+9,.non,none,rfl,.of (s17 _ _ hDr16),hR16.mono s17,by omega,rfl,fun H18 G18 s18 n18 h18=>?_⟩
   refine ⟨rfl,F17,G18,_,rfl,.of (s18 _ _ h17),.of h18,by omega,fun H19 s19=>⟨_,rfl,Zc8 ?_⟩⟩
   have sE:=s17.trans (s18.trans s19)
   refine ⟨B12,_,_,Dr2,_,_,_,_,_,_,rfl,hB16.mono sE,li12,hk12,sE _ _ hDr16,hR16.mono sE,ls2,fun n' hn'=>?_,fun c zs e=>sE _ _ (kL16 c zs e),fun a ys e=>sE.sqt (kT16 a ys e)⟩
   rw [em,ZfM,List.map_append] at hn'
   rcases List.mem_append.mp hn' with hn' | hn'
   ·exact (dn n' hn').imp id fun ⟨j,q,h1,h2⟩=>⟨j,q,by omega,h2⟩
   ·have:n'=n:=List.mem_singleton.mp (show n'∈[n] from hn')
    rw [this]
    exact .inr ⟨i,_,by omega,hp,rfl⟩
  case done6 =>
   rintro σ Hc ⟨B,ks',xs,Dr',v6,v7,v8,v9,v10,v13,rfl,hBc,li5,hk,hDrc,hRc,ls,dn,kL,kT⟩
   have hDnc:=kL _ _ hDn8
   obtain ⟨x24,hx24,at24⟩:=atns 24 (by decide)
   obtain ⟨x0,hx0,at0⟩:=atns 0 (by decide)
   refine ⟨_,rfl,Dn,_,_,_,rfl,rfl,.of hDnc,at24,_,rfl,Dn,_,_,_,rfl,rfl,.of hDnc,at0,few rfl,fun t1 nt1=>?_⟩
   have u1:=Zag (o:=.tup [V.str x0]) nt1
   refine ⟨_,rfl,Dn,_,_,_,rfl,rfl,.of (u1 _ _ hDnc),at0,few rfl,fun t2 nt2=>⟨few rfl,fun L3 n3=>?_⟩⟩
   have u2:=Zag (o:=.lst [V.str x0]) nt2
   have u3:=Zag (o:=.lst [V.str x24,.str "",.non,.int 3,.ref t1,.ref t2]) n3
   have hL3:=Zab (H:=upd (upd Hc t1 (.tup [V.str x0])) t2 (.lst [V.str x0])) (a:=L3) (o:=.lst [V.str x24,.str "",.non,.int 3,.ref t1,.ref t2])
   have ht1:=(u2.trans u3) _ _ (Zab (H:=Hc) (a:=t1) (o:=.tup [V.str x0]))
   have ht2:=u3 _ _ (Zab (H:=upd Hc t1 (.tup [V.str x0])) (a:=t2) (o:=.lst [V.str x0]))
   have u13:=u1.trans (u2.trans u3)
   have hBs:=hBc.mono u13
   have hhs:=(hh8.mono kL).mono fun a xs e=>u13 a _ e
   generalize upd (upd (upd Hc t1 (.tup [V.str x0])) t2 (.lst [V.str x0])) L3 (.lst [V.str x24,.str "",.non,.int 3,.ref t1,.ref t2])=Hs at *
   have z0':=Int.fmod_nonneg_of_pos bits (show (0:Int)<6 by decide)
   have z1':=Int.fmod_lt_of_pos bits (show (0:Int)<6 by decide)
   have nb:∀ {x:Str},x ∉ ns.take 20->Zg0 K Hs B (.str x):=fun {x} hx=>.inr ⟨x,rfl,Zlz (ns:=ns) hk ls.good hx⟩
   have nx24:x24 ∉ ns.take 20:=fun z=>by
    obtain ⟨j,hj,ej⟩:=List.mem_iff_getElem.mp z
    rw [List.getElem_take] at ej
    rw [List.length_take] at hj
    have hj2:j<ns.length:=by omega
    have g1:ns[j]?=some x24:=by rw [List.getElem?_eq_getElem hj2,ej]
    have:=(List.getElem?_inj hj2 nms.nd).mp (g1.trans hx24.symm)
    omega
   have nemp:("" : Str) ∉ ns.take 20:=fun z=>by
    have:=(nms.nm _ (List.mem_of_mem_take z)).lo
    exact absurd this (by decide +kernel)
   obtain ⟨x,atx,nbx⟩:∃ x,atI [V.str x24,.str "",.non,.int 3,.ref t1,.ref t2] (bits.fmod 6)=some x∧Zg0 K Hs B x:=by
    generalize bits.fmod 6=z at *
    obtain rfl | rfl | rfl | rfl | rfl | rfl:z=0∨z=1∨z=2∨z=3∨z=4∨z=5:=by omega
    ·exact ⟨_,Zaf (j:=0) rfl,nb nx24⟩
    ·exact ⟨_,Zaf (j:=1) rfl,nb nemp⟩
    ·exact ⟨_,Zaf (j:=2) rfl,.inl ⟨_,.of .non,T.k_NoneType_str⟩⟩
    ·exact ⟨_,Zaf (j:=3) rfl,.inl ⟨_,.of (.int _),T.k_int_str⟩⟩
    ·exact ⟨_,Zaf (j:=4) rfl,.inl ⟨_,.sqt (.of ht1),T.k_tuple_str⟩⟩
    ·exact ⟨_,Zaf (j:=5) rfl,.inl ⟨_,.sql (.of ht2),T.k_list_str⟩⟩
   refine ⟨_,rfl,_,_,rfl,rfl,(by decide:(6:Int)≠0),L3,_,_,_,rfl,rfl,.of hL3,atx,?_⟩
   dsimp only [ZbE]
   refine ⟨_,rfl,_,rfl,rfl,b,dx,k,bi,li,ti,su,B,x,rfl,hBs,.inl ⟨nbx,fun H20 R20 s20 n20 h20=>⟨few rfl,fun L21 n21=>?_⟩⟩⟩
   have u4:=Zag (o:=.lst [V.bl false,.bl true]) n21
   have i1:Is K (upd H20 L21 (.lst [V.bl false,.bl true])) (.lst ([false,true].map D.bl)) (.ref R20):=ZiZ (.of (u4 _ _ h20))
   have i2:Is K (upd H20 L21 (.lst [V.bl false,.bl true])) (.lst ([false,true].map D.bl)) (.ref L21):=ZiZ (.of Zab)
   refine ⟨_,_,i1,i2,.inr ⟨_,_,rfl,rfl⟩,by decide,_,rfl,?_⟩
   refine Zbe (by rfl) ?_
   have hhe:=hhs.mono fun a xs e=>(s20.trans u4) a _ e
   rcases hhe with rfl | ⟨Lh,f1,f2,zs,rfl,g1,g2,g3⟩
   ·exact ⟨_,rfl,rfl,_,rfl,Zbe (by rfl) (q _)⟩
   ·refine ⟨_,rfl,rfl,_,rfl,ZaB (by rfl) ⟨_,rfl,Lh,_,_,_,rfl,rfl,.of g1,Zaf (j:=0) rfl,_,rfl,Lh,_,_,_,rfl,rfl,.of g1,Zaf (j:=1) rfl,?_⟩⟩
    have i3:Is K (upd H20 L21 (.lst [V.bl false,.bl true])) (.lst (zs.map D.str)) (.ref f1):=⟨f1,_,rfl,.of g2,Zdo zs⟩
    have i4:Is K (upd H20 L21 (.lst [V.bl false,.bl true])) (.lst (zs.map D.str)) (.ref f2):=⟨f2,_,rfl,.of g3,Zdo zs⟩
    refine ⟨_,_,i3,i4,.inr ⟨_,_,rfl,rfl⟩,by show Zji (zs.map D.str)+1≤60; rw [ZfG]; decide,?_⟩
    show Q (.bl (Zh2 (zs.map D.str) (zs.map D.str))) _
    rw [ZfU,decide_eq_true rfl]
    exact q _
end
theorem ZrO {P:Program} {w:World} {K:W.Frag} {mg:Str->Option Value} {base:Heap} (T:Tx K w mg):ZrH P base T:=by
 have ZcR:=Zlt (P:=P) (w:=w) (base:=base) T
 have ZdF:=ZmG (P:=P) (w:=w) (base:=base) T
 have Zju:=Zog (P:=P) (w:=w) (base:=base) T ZcR
 have Ze2:=Zka (P:=P) (w:=w) (base:=base) T ZcR
 have Zhj:=Zmy (P:=P) (w:=w) (base:=base) T
 have ZeV:=Zku (P:=P) (w:=w) (base:=base) T ZdF
 have Zgn:=Zlh (P:=P) (w:=w) (base:=base) T ZdF Zju Ze2 Zhj ZeV
 have Zgm:=Zlk (P:=P) (w:=w) (base:=base) T Zgn
 have ZeK:=Zok (P:=P) (w:=w) (base:=base) T
 have ZcP:=ZlC (P:=P) (w:=w) (base:=base) T
 have ZeI:=Zm7 (P:=P) (w:=w) (base:=base) T
 have ZdC:=Zmq (P:=P) (w:=w) (base:=base) T ZeK
 have ZeF:=Zni (P:=P) (w:=w) (base:=base) T ZdC
 have ZeX:=ZjR (P:=P) (w:=w) (base:=base) T
 have Zdz:=Zmx (P:=P) (w:=w) (base:=base) T
 have ZbA:=ZgO (P:=P) (w:=w) (base:=base) T
 have Zat:=ZgM (P:=P) (w:=w) (base:=base) T
 have Zdm:=ZhE (P:=P) (w:=w) (base:=base) T Zat
 have Zbg:=Zhe (P:=P) (w:=w) (base:=base) T Zat
 have ZbU:=Ze9 (P:=P) (w:=w) (base:=base) T Zdm Zbg
 have Ze6:=Zkj (P:=P) (w:=w) (base:=base) T ZcP ZeI Zbg ZbU
 have Zd6:=Zh8 (P:=P) (w:=w) (base:=base) T Zgm ZcP ZeF Zat Ze6
 have ZaX:=ZkN (P:=P) (w:=w) (base:=base) T
 have ZcA:=Zfy (P:=P) (w:=w) (base:=base) T ZaX
 have Ze7:=Zkh (P:=P) (w:=w) (base:=base) T ZeX Zat
 have ZdS:=Zik (P:=P) (w:=w) (base:=base) T Zdz Zat
 have ZcY:=ZgF (P:=P) (w:=w) (base:=base) T Zdz ZaX Ze7 ZdS
 have Zb1:=ZkW (P:=P) (w:=w) (base:=base) T ZeK ZdC ZeF Zd6 ZaX ZcA ZcY
 have Zd3:=Zic (P:=P) (w:=w) (base:=base) T
 have ZbM:=ZhK (P:=P) (w:=w) (base:=base) T Zat
 have Zen:=ZiW (P:=P) (w:=w) (base:=base) T ZeI ZbA Zb1
 have Zc6:=ZgJ (P:=P) (w:=w) (base:=base) T ZbM Zen
 have Zf4:=Zk8 (P:=P) (w:=w) (base:=base) T Zd3 ZbM
 have ZbJ:=ZkK (P:=P) (w:=w) (base:=base) T Zc6 Zf4
 have ZbZ:=Zi2 (P:=P) (w:=w) (base:=base) T
 have ZeC:=Zjj (P:=P) (w:=w) (base:=base) T
 have Zd4:=Zj0 (P:=P) (w:=w) (base:=base) T
 have ZdU:=Zif (P:=P) (w:=w) (base:=base) T Zd4
 have ZdM:=Zii (P:=P) (w:=w) (base:=base) T
 have Zfd:=ZjJ (P:=P) (w:=w) (base:=base) T
 have ZcQ:=Zlx (P:=P) (w:=w) (base:=base) T
 have ZeR:=Zkm (P:=P) (w:=w) (base:=base) T ZbA Zb1
 have Zfg:=ZjY (P:=P) (w:=w) (base:=base) T ZbZ ZdU ZdM Zfd
 have Zee:=Zjx (P:=P) (w:=w) (base:=base) T ZcQ
 have Za6:=Zgo (P:=P) (w:=w) (base:=base) T
 have Zb9:=ZhA (P:=P) (w:=w) (base:=base) T
 have ZdG:=ZkQ (P:=P) (w:=w) (base:=base) T Zee Za6
 have ZdT:=Zih (P:=P) (w:=w) (base:=base) T
 have ZcF:=Zg4 (P:=P) (w:=w) (base:=base) T ZbJ
 have Zsd:=ZrN (P:=P) (w:=w) (base:=base) T Zb1 ZbJ ZbZ ZeC ZcQ ZeR Zfg Za6 Zb9 ZdG ZdT ZcF
 exact Zsd
theorem ZqX {K:W.Frag} {w:World} {mg:Str->Option Value} (T:Tx K w mg) {vs:List V} {H:Hp} {Q:VK} {E:XK} (h:Zo4 K vs H Q E):ZpC T vs H Q E:=by
 obtain ⟨a,ns,rfl,r⟩:=h
 exact ⟨rfl,a,ns,rfl,r⟩
theorem all_mk {l : W.OpenLaw} {w : World} {K : W.Frag} {h : Heap} {mg : Str → Option Value} {fa : Addr} (X : K.In h) (G : h.Ns mainGlobals mg) (hfa : mg "law"=some (.ref fa))
  {OC_Book:Addr}
  {f0:Addr}
  {f1:Addr}
  {f2:Addr}
  {f3:Addr}
  {f4:Addr}
  {f5:Addr}
  {f6:Addr}
  {f7:Addr}
  {f8:Addr}
  {f9:Addr}
  {f10:Addr}
  {f11:Addr}
  {f12:Addr}
  {f13:Addr}
  {f14:Addr}
  {f15:Addr}
  {f16:Addr}
  {f17:Addr}
  {f18:Addr}
  {f19:Addr}
  {f20:Addr}
  {f21:Addr}
  {f22:Addr}
  {f23:Addr}
  {f24:Addr}
  {f25:Addr}
  {od25 an25:Option Addr} {sl25:Array (Option Value)} {oc25 kV25 dc25 pm25 cd25 ct25:Value}
  {DT25:Addr} {odD25:Option Addr} {nD25:Nat} {slD25:Array (Option Value)}
  {f26:Addr}
  {f27:Addr}
  {f28:Addr}
  {f29:Addr}
  {f30:Addr}
  {f31:Addr}
  {f32:Addr}
  {f33:Addr}
  {od33 an33:Option Addr} {sl33:Array (Option Value)} {oc33 kV33 dc33 pm33 cd33 ct33:Value}
  {DT33:Addr} {odD33:Option Addr} {nD33:Nat} {slD33:Array (Option Value)}
  {f34:Addr}
  {f35:Addr}
  {f36:Addr}
  {f37:Addr}
  {f38:Addr}
  {f39:Addr}
  {f40:Addr}
  {f41:Addr}
  {f42:Addr}
  {f43:Addr}
  {f44:Addr}
  {f45:Addr}
  {f46:Addr}
  {f47:Addr}
  {f48:Addr}
  {f49:Addr}
  {C0:Addr}
  {C1:Addr}
  {C2:Addr}
  {C3:Addr}
  {C4:Addr}
  {C5:Addr}
  {C6:Addr}
  {C7:Addr}
  {F0:Addr} {odF:Option Addr} {nF:Nat} {slF:Array (Option Value)} {tL:Tok}
  {P0 G0:Addr} {tp0:Tok} {odp0 odg0:Option Addr} {np0 ng0:Nat} {slp0 slg0:Array (Option Value)}
  {P1 G1:Addr} {tp1:Tok} {odp1 odg1:Option Addr} {np1 ng1:Nat} {slp1 slg1:Array (Option Value)}
  {P2 G2:Addr} {tp2:Tok} {odp2 odg2:Option Addr} {np2 ng2:Nat} {slp2 slg2:Array (Option Value)}
  {P3 G3:Addr} {tp3:Tok} {odp3 odg3:Option Addr} {np3 ng3:Nat} {slp3 slg3:Array (Option Value)}
  {P4 G4:Addr} {tp4:Tok} {odp4 odg4:Option Addr} {np4 ng4:Nat} {slp4 slg4:Array (Option Value)}
  {P5 G5:Addr} {tp5:Tok} {odp5 odg5:Option Addr} {np5 ng5:Nat} {slp5 slg5:Array (Option Value)}
  {KT0:Addr} {odT0:Option Addr} {nT0:Nat} {slT0:Array (Option Value)} {tt0_0:Tok} {tt0_1:Tok} {tt0_2:Tok} {tt0_3:Tok} {tt0_4:Tok} {tt0_5:Tok} {tt0_6:Tok}
  {ti0:Tok}
  {ti1:Tok}
  (ao0:W.nsIn K mainGlobals "Book"=some (some (.ref OC_Book)))
  (a0:W.nsIn K mainGlobals "is_whole"=some (some (.ref f0)))
  (l0:DefIn K "is_whole" "is_whole" Zf2 f0)
  (a1:W.nsIn K mainGlobals "is_name"=some (some (.ref f1)))
  (l1:DefIn K "is_name" "is_name" ZhP f1)
  (a2:W.nsIn K mainGlobals "is_day"=some (some (.ref f2)))
  (l2:DefIn K "is_day" "is_day" Zi3 f2)
  (a3:W.nsIn K mainGlobals "is_amount"=some (some (.ref f3)))
  (l3:DefIn K "is_amount" "is_amount" ZeU f3)
  (a4:W.nsIn K mainGlobals "is_sort"=some (some (.ref f4)))
  (l4:DefIn K "is_sort" "is_sort" Zg6 f4)
  (a5:W.nsIn K mainGlobals "is_parent"=some (some (.ref f5)))
  (l5:DefIn K "is_parent" "is_parent" Ze3 f5)
  (a6:W.nsIn K mainGlobals "has_form"=some (some (.ref f6)))
  (l6:DefIn K "has_form" "has_form" ZfY f6)
  (a7:W.nsIn K mainGlobals "is_entry"=some (some (.ref f7)))
  (l7:DefIn K "is_entry" "is_entry" Zf3 f7)
  (a8:W.nsIn K mainGlobals "is_tie"=some (some (.ref f8)))
  (l8:DefIn K "is_tie" "is_tie" Zjn f8)
  (a9:W.nsIn K mainGlobals "named_in"=some (some (.ref f9)))
  (l9:DefIn K "named_in" "named_in" Zgh f9)
  (a10:W.nsIn K mainGlobals "day_of"=some (some (.ref f10)))
  (l10:DefIn K "day_of" "day_of" Zjr f10)
  (a11:W.nsIn K mainGlobals "as_told"=some (some (.ref f11)))
  (l11:DefIn K "as_told" "as_told" Zh1 f11)
  (a12:W.nsIn K mainGlobals "key_of"=some (some (.ref f12)))
  (l12:DefIn K "key_of" "key_of" ZiX f12)
  (a13:W.nsIn K mainGlobals "is_letter"=some (some (.ref f13)))
  (l13:DefIn K "is_letter" "is_letter" ZeZ f13)
  (a14:W.nsIn K mainGlobals "pair_of"=some (some (.ref f14)))
  (l14:DefIn K "pair_of" "pair_of" Zg5 f14)
  (a15:W.findIn K (.ref OC_Book) "__init__"=some (some (.ref f15))) (i15:W.isFn K (.ref f15)=true)
  (l15:DefIn K "__init__" "Book.__init__" Zc1 f15)
  (a16:W.findIn K (.ref OC_Book) "birth_of"=some (some (.ref f16))) (i16:W.isFn K (.ref f16)=true)
  (l16:DefIn K "birth_of" "Book.birth_of" Zc3 f16)
  (a17:W.findIn K (.ref OC_Book) "sort_of"=some (some (.ref f17))) (i17:W.isFn K (.ref f17)=true)
  (l17:DefIn K "sort_of" "Book.sort_of" Zdu f17)
  (a18:W.findIn K (.ref OC_Book) "born_on"=some (some (.ref f18))) (i18:W.isFn K (.ref f18)=true)
  (l18:DefIn K "born_on" "Book.born_on" Zdq f18)
  (a19:W.findIn K (.ref OC_Book) "parent_fits"=some (some (.ref f19))) (i19:W.isFn K (.ref f19)=true)
  (l19:DefIn K "parent_fits" "Book.parent_fits" Zct f19)
  (a20:W.findIn K (.ref OC_Book) "fits"=some (some (.ref f20))) (i20:W.isFn K (.ref f20)=true)
  (l20:DefIn K "fits" "Book.fits" Zff f20)
  (a21:W.findIn K (.ref OC_Book) "refuse"=some (some (.ref f21))) (i21:W.isFn K (.ref f21)=true)
  (l21:DefIn K "refuse" "Book.refuse" Zd1 f21)
  (a22:W.findIn K (.ref OC_Book) "link"=some (some (.ref f22))) (i22:W.isFn K (.ref f22)=true)
  (l22:DefIn K "link" "Book.link" ZeY f22)
  (a23:W.findIn K (.ref OC_Book) "note_birth"=some (some (.ref f23))) (i23:W.isFn K (.ref f23)=true)
  (l23:DefIn K "note_birth" "Book.note_birth" ZcD f23)
  (a24:W.findIn K (.ref OC_Book) "step"=some (some (.ref f24))) (i24:W.isFn K (.ref f24)=true)
  (l24:DefIn K "step" "Book.step" Zfe f24)
  (a25:W.findIn K (.ref OC_Book) "stands"=some (some (.ref f25))) (i25:W.isFn K (.ref f25)=true)
  (l25:K.lookup f25=some ⟨oc25,od25,.func (W.fnOf "stands" "Book.stands" (ZbX Za0) (ZbG Za0) (Zal Za0) (.ref DT25) kV25 dc25 pm25 an25 cd25 ct25),sl25⟩)
  (cc25:W.codeIn K cd25 "Book.stands"=true) (k25:W.keepIn K (.ref f25)=true)
  (ldt25:K.lookup DT25=some ⟨.type "tuple",odD25,.seq #[.none] nD25,slD25⟩)
  (a26:W.findIn K (.ref OC_Book) "note_tie"=some (some (.ref f26))) (i26:W.isFn K (.ref f26)=true)
  (l26:DefIn K "note_tie" "Book.note_tie" Zc0 f26)
  (a27:W.findIn K (.ref OC_Book) "put"=some (some (.ref f27))) (i27:W.isFn K (.ref f27)=true)
  (l27:DefIn K "put" "Book.put" Zgf f27)
  (a28:W.findIn K (.ref OC_Book) "people"=some (some (.ref f28))) (i28:W.isFn K (.ref f28)=true)
  (l28:DefIn K "people" "Book.people" ZdR f28)
  (a29:W.findIn K (.ref OC_Book) "dead_on"=some (some (.ref f29))) (i29:W.isFn K (.ref f29)=true)
  (l29:DefIn K "dead_on" "Book.dead_on" Zds f29)
  (a30:W.findIn K (.ref OC_Book) "until"=some (some (.ref f30))) (i30:W.isFn K (.ref f30)=true)
  (l30:DefIn K "until" "Book.until" Zel f30)
  (a31:W.nsIn K mainGlobals "book_of_death"=some (some (.ref f31)))
  (l31:DefIn K "book_of_death" "book_of_death" Zc4 f31)
  (a32:W.nsIn K mainGlobals "lives_in"=some (some (.ref f32)))
  (l32:DefIn K "lives_in" "lives_in" Zgb f32)
  (a33:W.nsIn K mainGlobals "living_at"=some (some (.ref f33)))
  (l33:K.lookup f33=some ⟨oc33,od33,.func (W.fnOf "living_at" "living_at" (ZbX Za7) (ZbG Za7) (Zal Za7) (.ref DT33) kV33 dc33 pm33 an33 cd33 ct33),sl33⟩)
  (cc33:W.codeIn K cd33 "living_at"=true) (k33:W.keepIn K (.ref f33)=true)
  (ldt33:K.lookup DT33=some ⟨.type "tuple",odD33,.seq #[.none] nD33,slD33⟩)
  (a34:W.nsIn K mainGlobals "_law_mixed"=some (some (.ref f34)))
  (l34:DefIn K "_law_mixed" "_law_mixed" Zeo f34)
  (a35:W.nsIn K mainGlobals "_law_names"=some (some (.ref f35)))
  (l35:DefIn K "_law_names" "_law_names" Zer f35)
  (a36:W.nsIn K mainGlobals "_law_pick"=some (some (.ref f36)))
  (l36:DefIn K "_law_pick" "_law_pick" Zfa f36)
  (a37:W.nsIn K mainGlobals "_law_births"=some (some (.ref f37)))
  (l37:DefIn K "_law_births" "_law_births" ZdK f37)
  (a38:W.nsIn K mainGlobals "_law_deaths"=some (some (.ref f38)))
  (l38:DefIn K "_law_deaths" "_law_deaths" ZdW f38)
  (a39:W.nsIn K mainGlobals "_law_ties"=some (some (.ref f39)))
  (l39:DefIn K "_law_ties" "_law_ties" Zfh f39)
  (a40:W.nsIn K mainGlobals "_law_day"=some (some (.ref f40)))
  (l40:DefIn K "_law_day" "_law_day" Zgr f40)
  (a41:W.nsIn K mainGlobals "_law_book"=some (some (.ref f41)))
  (l41:DefIn K "_law_book" "_law_book" Ze8 f41)
  (a42:W.nsIn K mainGlobals "_law_rows"=some (some (.ref f42)))
  (l42:DefIn K "_law_rows" "_law_rows" Zfk f42)
  (a43:W.nsIn K mainGlobals "_law_until"=some (some (.ref f43)))
  (l43:DefIn K "_law_until" "_law_until" Zey f43)
  (a44:W.nsIn K mainGlobals "_law_deaths_of"=some (some (.ref f44)))
  (l44:DefIn K "_law_deaths_of" "_law_deaths_of" ZcM f44)
  (a45:W.nsIn K mainGlobals "_law_is_list"=some (some (.ref f45)))
  (l45:DefIn K "_law_is_list" "_law_is_list" Zdt f45)
  (a46:W.nsIn K mainGlobals "_law_due"=some (some (.ref f46)))
  (l46:DefIn K "_law_due" "_law_due" Zf6 f46)
  (a47:W.nsIn K mainGlobals "_law_handed"=some (some (.ref f47)))
  (l47:DefIn K "_law_handed" "_law_handed" ZdN f47)
  (a48:W.nsIn K mainGlobals "_law_refused"=some (some (.ref f48)))
  (l48:DefIn K "_law_refused" "_law_refused" Zdr f48)
  (a49:W.nsIn K mainGlobals "law"=some (some (.ref f49)))
  (l49:DefIn K "law" "law" Zp9 f49)
  (pg0:W.plainGet K OC_Book Str.empty=true) (hd0:W.hasDictIn K OC_Book=true) (po0:W.plainOver K OC_Book=true) (sa0:W.findIn K (.ref OC_Book) "__setattr__"=some (some (.builtin "object.__setattr__"))) (mk0:W.makesIn K OC_Book=true) (kc0:W.keepIn K (.ref OC_Book)=true)
  (na0_kept:W.findIn K (.ref OC_Book) "kept"=some none)
  (na0_births:W.findIn K (.ref OC_Book) "births"=some none)
  (na0_links:W.findIn K (.ref OC_Book) "links"=some none)
  (na0_ties:W.findIn K (.ref OC_Book) "ties"=some none)
  (na0_sums:W.findIn K (.ref OC_Book) "sums"=some none)
  (ac0:W.nsIn K mainGlobals "HeirError"=some (some (.ref C0)))
  (xc0:W.excIn K C0 EBm "ValueError.__new__"=true)
  (e1_0:W.findIn K (.ref C0) "__getattribute__"=some (some (.builtin "BaseException.__getattribute__"))) (e2_0:W.findIn K (.ref C0) "__getattr__"=some none) (e3_0:W.findIn K (.ref C0) "__class__"=some (some (.builtin "object.__class__"))) (e4_0:W.mroIn K C0 (.type "BaseException")=some true) (e5_0:W.mroIn K C0 (.type "object")=some true)
  (ac1:W.nsIn K mainGlobals "NoEntry"=some (some (.ref C1)))
  (xc1:W.excIn K C1 EBm "ValueError.__new__"=true)
  (e1_1:W.findIn K (.ref C1) "__getattribute__"=some (some (.builtin "BaseException.__getattribute__"))) (e2_1:W.findIn K (.ref C1) "__getattr__"=some none) (e3_1:W.findIn K (.ref C1) "__class__"=some (some (.builtin "object.__class__"))) (e4_1:W.mroIn K C1 (.type "BaseException")=some true) (e5_1:W.mroIn K C1 (.type "object")=some true)
  (ac2:W.nsIn K mainGlobals "Full"=some (some (.ref C2)))
  (xc2:W.excIn K C2 EBm "ValueError.__new__"=true)
  (e1_2:W.findIn K (.ref C2) "__getattribute__"=some (some (.builtin "BaseException.__getattribute__"))) (e2_2:W.findIn K (.ref C2) "__getattr__"=some none) (e3_2:W.findIn K (.ref C2) "__class__"=some (some (.builtin "object.__class__"))) (e4_2:W.mroIn K C2 (.type "BaseException")=some true) (e5_2:W.mroIn K C2 (.type "object")=some true)
  (ac3:W.nsIn K mainGlobals "NoPerson"=some (some (.ref C3)))
  (xc3:W.excIn K C3 EBm "ValueError.__new__"=true)
  (e1_3:W.findIn K (.ref C3) "__getattribute__"=some (some (.builtin "BaseException.__getattribute__"))) (e2_3:W.findIn K (.ref C3) "__getattr__"=some none) (e3_3:W.findIn K (.ref C3) "__class__"=some (some (.builtin "object.__class__"))) (e4_3:W.mroIn K C3 (.type "BaseException")=some true) (e5_3:W.mroIn K C3 (.type "object")=some true)
  (ac4:W.nsIn K mainGlobals "Twice"=some (some (.ref C4)))
  (xc4:W.excIn K C4 EBm "ValueError.__new__"=true)
  (e1_4:W.findIn K (.ref C4) "__getattribute__"=some (some (.builtin "BaseException.__getattribute__"))) (e2_4:W.findIn K (.ref C4) "__getattr__"=some none) (e3_4:W.findIn K (.ref C4) "__class__"=some (some (.builtin "object.__class__"))) (e4_4:W.mroIn K C4 (.type "BaseException")=some true) (e5_4:W.mroIn K C4 (.type "object")=some true)
  (ac5:W.nsIn K mainGlobals "NoFit"=some (some (.ref C5)))
  (xc5:W.excIn K C5 EBm "ValueError.__new__"=true)
  (e1_5:W.findIn K (.ref C5) "__getattribute__"=some (some (.builtin "BaseException.__getattribute__"))) (e2_5:W.findIn K (.ref C5) "__getattr__"=some none) (e3_5:W.findIn K (.ref C5) "__class__"=some (some (.builtin "object.__class__"))) (e4_5:W.mroIn K C5 (.type "BaseException")=some true) (e5_5:W.mroIn K C5 (.type "object")=some true)
  (ac6:W.nsIn K mainGlobals "NoWay"=some (some (.ref C6)))
  (xc6:W.excIn K C6 EBm "ValueError.__new__"=true)
  (e1_6:W.findIn K (.ref C6) "__getattribute__"=some (some (.builtin "BaseException.__getattribute__"))) (e2_6:W.findIn K (.ref C6) "__getattr__"=some none) (e3_6:W.findIn K (.ref C6) "__class__"=some (some (.builtin "object.__class__"))) (e4_6:W.mroIn K C6 (.type "BaseException")=some true) (e5_6:W.mroIn K C6 (.type "object")=some true)
  (ac7:W.nsIn K mainGlobals "Alive"=some (some (.ref C7)))
  (xc7:W.excIn K C7 EBm "ValueError.__new__"=true)
  (e1_7:W.findIn K (.ref C7) "__getattribute__"=some (some (.builtin "BaseException.__getattribute__"))) (e2_7:W.findIn K (.ref C7) "__getattr__"=some none) (e3_7:W.findIn K (.ref C7) "__class__"=some (some (.builtin "object.__class__"))) (e4_7:W.mroIn K C7 (.type "BaseException")=some true) (e5_7:W.mroIn K C7 (.type "object")=some true)
  (z_ValueError:W.nsIn K mainGlobals "ValueError"=some none)
  (z_abs:W.nsIn K mainGlobals "abs"=some none)
  (z_all:W.nsIn K mainGlobals "all"=some none)
  (z_bool:W.nsIn K mainGlobals "bool"=some none)
  (z_int:W.nsIn K mainGlobals "int"=some none)
  (z_isinstance:W.nsIn K mainGlobals "isinstance"=some none)
  (z_len:W.nsIn K mainGlobals "len"=some none)
  (z_list:W.nsIn K mainGlobals "list"=some none)
  (z_max:W.nsIn K mainGlobals "max"=some none)
  (z_min:W.nsIn K mainGlobals "min"=some none)
  (z_range:W.nsIn K mainGlobals "range"=some none)
  (z_reversed:W.nsIn K mainGlobals "reversed"=some none)
  (z_sorted:W.nsIn K mainGlobals "sorted"=some none)
  (z_str:W.nsIn K mainGlobals "str"=some none)
  (z_tuple:W.nsIn K mainGlobals "tuple"=some none)
  (z_zip:W.nsIn K mainGlobals "zip"=some none)
  (q_k_int_int:W.kitOne K (.type "int") (.type "int")=some true)
  (q_k_int_str:W.kitOne K (.type "int") (.type "str")=some false)
  (q_k_int_tuple:W.kitOne K (.type "int") (.type "tuple")=some false)
  (q_k_int_bool:W.kitOne K (.type "int") (.type "bool")=some false)
  (q_k_str_int:W.kitOne K (.type "str") (.type "int")=some false)
  (q_k_str_str:W.kitOne K (.type "str") (.type "str")=some true)
  (q_k_str_tuple:W.kitOne K (.type "str") (.type "tuple")=some false)
  (q_k_bool_int:W.kitOne K (.type "bool") (.type "int")=some true)
  (q_k_bool_str:W.kitOne K (.type "bool") (.type "str")=some false)
  (q_k_bool_tuple:W.kitOne K (.type "bool") (.type "tuple")=some false)
  (q_k_bool_bool:W.kitOne K (.type "bool") (.type "bool")=some true)
  (q_k_NoneType_int:W.kitOne K (.type "NoneType") (.type "int")=some false)
  (q_k_NoneType_str:W.kitOne K (.type "NoneType") (.type "str")=some false)
  (q_k_NoneType_tuple:W.kitOne K (.type "NoneType") (.type "tuple")=some false)
  (q_k_tuple_int:W.kitOne K (.type "tuple") (.type "int")=some false)
  (q_k_tuple_str:W.kitOne K (.type "tuple") (.type "str")=some false)
  (q_k_tuple_tuple:W.kitOne K (.type "tuple") (.type "tuple")=some true)
  (q_k_list_int:W.kitOne K (.type "list") (.type "int")=some false)
  (q_k_list_str:W.kitOne K (.type "list") (.type "str")=some false)
  (q_k_list_tuple:W.kitOne K (.type "list") (.type "tuple")=some false)
  (q_k_dict_int:W.kitOne K (.type "dict") (.type "int")=some false)
  (q_k_dict_str:W.kitOne K (.type "dict") (.type "str")=some false)
  (q_k_dict_tuple:W.kitOne K (.type "dict") (.type "tuple")=some false)
  (q_kl_list:W.kitOne K (.type "list") (.type "list")=some true)
  (q_kx_Alive_Alive:W.kitOne K (.ref C7) (.ref C7)=some true)
  (q_kx_Alive_NoPerson:W.kitOne K (.ref C7) (.ref C3)=some false)
  (q_kx_NoPerson_Alive:W.kitOne K (.ref C3) (.ref C7)=some false)
  (q_kx_NoPerson_NoPerson:W.kitOne K (.ref C3) (.ref C3)=some true)
  (q_kv_Alive:W.kitOne K (.ref C7) (.type "ValueError")=some true)
  (q_kv_NoPerson:W.kitOne K (.ref C3) (.type "ValueError")=some true)
  (y_mr_Alive:W.mroIn K C7 (.ref C0)=some true)
  (y_mr_NoPerson:W.mroIn K C3 (.ref C0)=some true)
  (zF:W.nsIn K mainGlobals "FORMS"=some (some (.ref F0)))
  (zL:W.nsIn K mainGlobals "LETTERS"=some (some (.str "abcdefghijklmnopqrstuvwxyz" tL)))
  (uF:K.lookup F0=some ⟨.type "tuple",odF,.seq #[.ref P0,.ref P1,.ref P2,.ref P3,.ref P4,.ref P5] nF,slF⟩)
  (up0:K.lookup P0=some ⟨.type "tuple",odp0,.seq #[.str "born" tp0,.ref G0] np0,slp0⟩)
  (up1:K.lookup P1=some ⟨.type "tuple",odp1,.seq #[.str "taken" tp1,.ref G1] np1,slp1⟩)
  (up2:K.lookup P2=some ⟨.type "tuple",odp2,.seq #[.str "union" tp2,.ref G2] np2,slp2⟩)
  (up3:K.lookup P3=some ⟨.type "tuple",odp3,.seq #[.str "parted" tp3,.ref G3] np3,slp3⟩)
  (up4:K.lookup P4=some ⟨.type "tuple",odp4,.seq #[.str "dead" tp4,.ref G4] np4,slp4⟩)
  (up5:K.lookup P5=some ⟨.type "tuple",odp5,.seq #[.str "given" tp5,.ref G5] np5,slp5⟩)
  (ug0:K.lookup G0=some ⟨.type "tuple",odg0,.seq #[.ref f1,.ref f4,.ref f2,.ref f5,.ref f5] ng0,slg0⟩)
  (ug1:K.lookup G1=some ⟨.type "tuple",odg1,.seq #[.ref f1,.ref f1,.ref f2] ng1,slg1⟩)
  (ug2:K.lookup G2=some ⟨.type "tuple",odg2,.seq #[.ref f1,.ref f1,.ref f2] ng2,slg2⟩)
  (ug3:K.lookup G3=some ⟨.type "tuple",odg3,.seq #[.ref f1,.ref f1,.ref f2] ng3,slg3⟩)
  (ug4:K.lookup G4=some ⟨.type "tuple",odg4,.seq #[.ref f1,.ref f2] ng4,slg4⟩)
  (ug5:K.lookup G5=some ⟨.type "tuple",odg5,.seq #[.ref f1,.ref f1,.ref f3,.ref f2] ng5,slg5⟩)
  (zt0:W.nsIn K mainGlobals "STEP_LETTERS"=some (some (.ref KT0)))
  (ut0:K.lookup KT0=some ⟨.type "tuple",odT0,.seq #[.str "F" tt0_0,.str "M" tt0_1,.str "T" tt0_2,.str "f" tt0_3,.str "m" tt0_4,.str "t" tt0_5,.str "S" tt0_6] nT0,slT0⟩)
  (zi0:W.nsIn K mainGlobals "MOST_ENTRIES"=some (some (.int 400 ti0)))
  (zi1:W.nsIn K mainGlobals "MOST_PEOPLE"=some (some (.int 60 ti1))) :
  ∃ fd:FuncData,(∀ (s:Shared) (v:Value),BindsTo s fd ⟨[v],[]⟩ [("_law_script",v)])∧∀ base:Heap,K.In base->base.Ns mainGlobals mg->FnOk l.prog w K mg base (CX1 l.prog w) 11 fa fd ["_law_script"] (Zo4 K):=by
 have e:=hfa.symm.trans (W.mg_of X G a49)
 cases e
 have T:Σ' (T:Tx K w mg),T.ZlE.a=fa:=⟨{ c_Book:=OC_Book,ZbR:=.of X G a0 l0 (fun _ _ _ _ _ _=>un1 fun _=>rfl),ZaR:=.of X G a1 l1 (fun _ _ _ _ _ _=>un1 fun _=>rfl),ZbI:=.of X G a2 l2 (fun _ _ _ _ _ _=>un1 fun _=>rfl),Zbt:=.of X G a3 l3 (fun _ _ _ _ _ _=>un1 fun _=>rfl),Zb8:=.of X G a4 l4 (fun _ _ _ _ _ _=>un1 fun _=>rfl),Zbn:=.of X G a5 l5 (fun _ _ _ _ _ _=>un1 fun _=>rfl),Zcy:=.of X G a6 l6 (fun _ _ _ _ _ _=>un2 fun _ _=>rfl),Zcz:=.of X G a7 l7 (fun _ _ _ _ _ _=>un1 fun _=>rfl),ZcH:=.of X G a8 l8 (fun _ _ _ _ _ _=>un1 fun _=>rfl),ZbP:=.of X G a9 l9 (fun _ _ _ _ _ _=>un1 fun _=>rfl),ZcI:=.of X G a10 l10 (fun _ _ _ _ _ _=>un1 fun _=>rfl),Zca:=.of X G a11 l11 (fun _ _ _ _ _ _=>un1 fun _=>rfl),ZcE:=.of X G a12 l12 (fun _ _ _ _ _ _=>un1 fun _=>rfl),Zcl:=.of X G a13 l13 (fun _ _ _ _ _ _=>un1 fun _=>rfl),Zb7:=.of X G a14 l14 (fun _ _ _ _ _ _=>un2 fun _ _=>rfl),Zbo:=.of a15 i15 l15 (fun _ _ _ _ _ _=>un1 fun _=>rfl),Zav:=.of a16 i16 l16 (fun _ _ _ _ _ _=>un2 fun _ _=>rfl),ZbS:=.of a17 i17 l17 (fun _ _ _ _ _ _=>un2 fun _ _=>rfl),ZaO:=.of a18 i18 l18 (fun _ _ _ _ _ _=>un2 fun _ _=>rfl),ZaS:=.of a19 i19 l19 (fun _ _ _ _ _ _=>un4 fun _ _ _ _=>rfl),ZcC:=.of a20 i20 l20 (fun _ _ _ _ _ _=>un2 fun _ _=>rfl),Zb0:=.of a21 i21 l21 (fun _ _ _ _ _ _=>un2 fun _ _=>rfl),ZaK:=.of a22 i22 l22 (fun _ _ _ _ _ _=>un4 fun _ _ _ _=>rfl),Zbj:=.of a23 i23 l23 (fun _ _ _ _ _ _=>un2 fun _ _=>rfl),Zcx:=.of a24 i24 l24 (fun _ _ _ _ _ _=>un3 fun _ _ _=>rfl),a_Book_stands:=f25,fd_Book_stands:=W.fnOf "stands" "Book.stands" (ZbX Za0) (ZbG Za0) (Zal Za0) (.ref DT25) kV25 dc25 pm25 an25 cd25 ct25,dt_Book_stands:=DT25,F_Book_stands:=Zgi (st:=Za0) l25 cc25 k25,b_Book_stands:=(Zgi (st:=Za0) l25 cc25 k25).binds1 ldt25 rfl (fun _ _ _ _ _ _ us hl=>match us,hl with | [_,_,_],_=>⟨_,rfl,rfl⟩),me_Book_stands:=⟨a25,i25,k25⟩,ZbC:=.of a26 i26 l26 (fun _ _ _ _ _ _=>un2 fun _ _=>rfl),ZbQ:=.of a27 i27 l27 (fun _ _ _ _ _ _=>un2 fun _ _=>rfl),Zb3:=.of a28 i28 l28 (fun _ _ _ _ _ _=>un1 fun _=>rfl),Zbi:=.of a29 i29 l29 (fun _ _ _ _ _ _=>un2 fun _ _=>rfl),Zcn:=.of a30 i30 l30 (fun _ _ _ _ _ _=>un2 fun _ _=>rfl),Zbm:=.of X G a31 l31 (fun _ _ _ _ _ _=>un2 fun _ _=>rfl),Zcw:=.of X G a32 l32 (fun _ _ _ _ _ _=>un3 fun _ _ _=>rfl),a_living_at:=f33,fd_living_at:=W.fnOf "living_at" "living_at" (ZbX Za7) (ZbG Za7) (Zal Za7) (.ref DT33) kV33 dc33 pm33 an33 cd33 ct33,dt_living_at:=DT33,F_living_at:=Zgi (st:=Za7) l33 cc33 k33,b_living_at:=(Zgi (st:=Za7) l33 cc33 k33).binds1 ldt33 rfl (fun _ _ _ _ _ _ us hl=>match us,hl with | [_,_],_=>⟨_,rfl,rfl⟩),b3_living_at:=(Zgi (st:=Za7) l33 cc33 k33).binds2 ldt33 rfl (fun _ _ _ _ _ _ us hl=>match us,hl with | [_,_,_],_=>⟨_,rfl,rfl⟩),kb_living_at:=(Zgi (st:=Za7) l33 cc33 k33).bindsK ldt33 rfl (fun _ _ _ _ _ _ _ _ _=>⟨_,rfl,rfl⟩),m_living_at:=(W.mg_of X G a33),ZaT:=.of X G a34 l34 (fun _ _ _ _ _ _=>un2 fun _ _=>rfl),ZbW:=.of X G a35 l35 (fun _ _ _ _ _ _=>un1 fun _=>rfl),Zbu:=.of X G a36 l36 (fun _ _ _ _ _ _=>un2 fun _ _=>rfl),ZbF:=.of X G a37 l37 (fun _ _ _ _ _ _=>un2 fun _ _=>rfl),ZbH:=.of X G a38 l38 (fun _ _ _ _ _ _=>un2 fun _ _=>rfl),Zch:=.of X G a39 l39 (fun _ _ _ _ _ _=>un2 fun _ _=>rfl),ZbN:=.of X G a40 l40 (fun _ _ _ _ _ _=>un1 fun _=>rfl),Zci:=.of X G a41 l41 (fun _ _ _ _ _ _=>un1 fun _=>rfl),Zcm:=.of X G a42 l42 (fun _ _ _ _ _ _=>un4 fun _ _ _ _=>rfl),ZbY:=.of X G a43 l43 (fun _ _ _ _ _ _=>un2 fun _ _=>rfl),ZaA:=.of X G a44 l44 (fun _ _ _ _ _ _=>un1 fun _=>rfl),ZaJ:=.of X G a45 l45 (fun _ _ _ _ _ _=>un2 fun _ _=>rfl),Zbk:=.of X G a46 l46 (fun _ _ _ _ _ _=>un4 fun _ _ _ _=>rfl),ZbK:=.of X G a47 l47 (fun _ _ _ _ _ _=>un4 fun _ _ _ _=>rfl),ZaU:=.of X G a48 l48 (fun _ _ _ _ _ _=>un2 fun _ _=>rfl),ZlE:=.of X G a49 l49 (fun _ _ _ _ _ _=>un1 fun _=>rfl),m_Book:=(W.mg_of X G ao0),cl_Book:=⟨pg0,hd0,po0,sa0⟩,mk_Book:=⟨mk0,a15,i15,kc0⟩,na_Book_kept:=na0_kept,na_Book_births:=na0_births,na_Book_links:=na0_links,na_Book_ties:=na0_ties,na_Book_sums:=na0_sums,c_HeirError:=C0,m_HeirError:=(W.mg_of X G ac0),x_HeirError:=xc0,e_HeirError:=⟨e1_0,e2_0,e3_0,e4_0,e5_0⟩,c_NoEntry:=C1,m_NoEntry:=(W.mg_of X G ac1),x_NoEntry:=xc1,e_NoEntry:=⟨e1_1,e2_1,e3_1,e4_1,e5_1⟩,c_Full:=C2,m_Full:=(W.mg_of X G ac2),x_Full:=xc2,e_Full:=⟨e1_2,e2_2,e3_2,e4_2,e5_2⟩,c_NoPerson:=C3,m_NoPerson:=(W.mg_of X G ac3),x_NoPerson:=xc3,e_NoPerson:=⟨e1_3,e2_3,e3_3,e4_3,e5_3⟩,c_Twice:=C4,m_Twice:=(W.mg_of X G ac4),x_Twice:=xc4,e_Twice:=⟨e1_4,e2_4,e3_4,e4_4,e5_4⟩,c_NoFit:=C5,m_NoFit:=(W.mg_of X G ac5),x_NoFit:=xc5,e_NoFit:=⟨e1_5,e2_5,e3_5,e4_5,e5_5⟩,c_NoWay:=C6,m_NoWay:=(W.mg_of X G ac6),x_NoWay:=xc6,e_NoWay:=⟨e1_6,e2_6,e3_6,e4_6,e5_6⟩,c_Alive:=C7,m_Alive:=(W.mg_of X G ac7),x_Alive:=xc7,e_Alive:=⟨e1_7,e2_7,e3_7,e4_7,e5_7⟩,n_ValueError:=(W.mg_none_of X G z_ValueError),n_abs:=(W.mg_none_of X G z_abs),n_all:=(W.mg_none_of X G z_all),n_bool:=(W.mg_none_of X G z_bool),n_int:=(W.mg_none_of X G z_int),n_isinstance:=(W.mg_none_of X G z_isinstance),n_len:=(W.mg_none_of X G z_len),n_list:=(W.mg_none_of X G z_list),n_max:=(W.mg_none_of X G z_max),n_min:=(W.mg_none_of X G z_min),n_range:=(W.mg_none_of X G z_range),n_reversed:=(W.mg_none_of X G z_reversed),n_sorted:=(W.mg_none_of X G z_sorted),n_str:=(W.mg_none_of X G z_str),n_tuple:=(W.mg_none_of X G z_tuple),n_zip:=(W.mg_none_of X G z_zip),k_int_int:=q_k_int_int,k_int_str:=q_k_int_str,k_int_tuple:=q_k_int_tuple,k_int_bool:=q_k_int_bool,k_str_int:=q_k_str_int,k_str_str:=q_k_str_str,k_str_tuple:=q_k_str_tuple,k_bool_int:=q_k_bool_int,k_bool_str:=q_k_bool_str,k_bool_tuple:=q_k_bool_tuple,k_bool_bool:=q_k_bool_bool,k_NoneType_int:=q_k_NoneType_int,k_NoneType_str:=q_k_NoneType_str,k_NoneType_tuple:=q_k_NoneType_tuple,k_tuple_int:=q_k_tuple_int,k_tuple_str:=q_k_tuple_str,k_tuple_tuple:=q_k_tuple_tuple,k_list_int:=q_k_list_int,k_list_str:=q_k_list_str,k_list_tuple:=q_k_list_tuple,k_dict_int:=q_k_dict_int,k_dict_str:=q_k_dict_str,k_dict_tuple:=q_k_dict_tuple,kl_list:=q_kl_list,kx_Alive_Alive:=q_kx_Alive_Alive,kx_Alive_NoPerson:=q_kx_Alive_NoPerson,kx_NoPerson_Alive:=q_kx_NoPerson_Alive,kx_NoPerson_NoPerson:=q_kx_NoPerson_NoPerson,kv_Alive:=q_kv_Alive,kv_NoPerson:=q_kv_NoPerson,mr_Alive:=y_mr_Alive,mr_NoPerson:=y_mr_NoPerson,aF:=F0,m_FORMS:=(W.mg_of X G zF),tkL:=tL,m_LETTERS:=(W.mg_of X G zL),p0:=P0,g0:=G0,p1:=P1,g1:=G1,p2:=P2,g2:=G2,p3:=P3,g3:=G3,p4:=P4,g4:=G4,p5:=P5,g5:=G5,sF:=fun _=>.inr ⟨_,_,_,uF,rfl,rfl,Zaj (Nat.le_of_ble_eq_true rfl),.cons rfl (.cons rfl (.cons rfl (.cons rfl (.cons rfl (.cons rfl .nil)))))⟩,sp0:=fun _=>.inr ⟨_,_,_,up0,rfl,rfl,Zaj (Nat.le_of_ble_eq_true rfl),.cons ⟨_,rfl⟩ (.cons rfl .nil)⟩,sp1:=fun _=>.inr ⟨_,_,_,up1,rfl,rfl,Zaj (Nat.le_of_ble_eq_true rfl),.cons ⟨_,rfl⟩ (.cons rfl .nil)⟩,sp2:=fun _=>.inr ⟨_,_,_,up2,rfl,rfl,Zaj (Nat.le_of_ble_eq_true rfl),.cons ⟨_,rfl⟩ (.cons rfl .nil)⟩,sp3:=fun _=>.inr ⟨_,_,_,up3,rfl,rfl,Zaj (Nat.le_of_ble_eq_true rfl),.cons ⟨_,rfl⟩ (.cons rfl .nil)⟩,sp4:=fun _=>.inr ⟨_,_,_,up4,rfl,rfl,Zaj (Nat.le_of_ble_eq_true rfl),.cons ⟨_,rfl⟩ (.cons rfl .nil)⟩,sp5:=fun _=>.inr ⟨_,_,_,up5,rfl,rfl,Zaj (Nat.le_of_ble_eq_true rfl),.cons ⟨_,rfl⟩ (.cons rfl .nil)⟩,sg0:=fun _=>.inr ⟨_,_,_,ug0,rfl,rfl,Zaj (Nat.le_of_ble_eq_true rfl),.cons rfl (.cons rfl (.cons rfl (.cons rfl (.cons rfl (.nil)))))⟩,sg1:=fun _=>.inr ⟨_,_,_,ug1,rfl,rfl,Zaj (Nat.le_of_ble_eq_true rfl),.cons rfl (.cons rfl (.cons rfl (.nil)))⟩,sg2:=fun _=>.inr ⟨_,_,_,ug2,rfl,rfl,Zaj (Nat.le_of_ble_eq_true rfl),.cons rfl (.cons rfl (.cons rfl (.nil)))⟩,sg3:=fun _=>.inr ⟨_,_,_,ug3,rfl,rfl,Zaj (Nat.le_of_ble_eq_true rfl),.cons rfl (.cons rfl (.cons rfl (.nil)))⟩,sg4:=fun _=>.inr ⟨_,_,_,ug4,rfl,rfl,Zaj (Nat.le_of_ble_eq_true rfl),.cons rfl (.cons rfl (.nil))⟩,sg5:=fun _=>.inr ⟨_,_,_,ug5,rfl,rfl,Zaj (Nat.le_of_ble_eq_true rfl),.cons rfl (.cons rfl (.cons rfl (.cons rfl (.nil))))⟩,a_STEP_LETTERS:=KT0,m_STEP_LETTERS:=(W.mg_of X G zt0),ZeL:=fun _=>.inr ⟨_,_,_,ut0,rfl,rfl,Zaj (Nat.le_of_ble_eq_true rfl),.cons ⟨_,rfl⟩ (.cons ⟨_,rfl⟩ (.cons ⟨_,rfl⟩ (.cons ⟨_,rfl⟩ (.cons ⟨_,rfl⟩ (.cons ⟨_,rfl⟩ (.cons ⟨_,rfl⟩ (.nil)))))))⟩,t_MOST_ENTRIES:=ti0,m_MOST_ENTRIES:=(W.mg_of X G zi0),t_MOST_PEOPLE:=ti1,m_MOST_PEOPLE:=(W.mg_of X G zi1) },rfl⟩
 obtain ⟨T,ea⟩:=T
 subst ea
 refine ⟨(Zcq K T.ZlE.a),fun s v=>?_,fun base _ _=>(ZrO T).imp fun vs H Q E z=>?_⟩
 ·obtain ⟨oc,od,kV,doc,pm,an,cdv,ct,osl,e,_⟩:=T.ZlE.F.ex
  rw [e]
  exact .of_eq rfl
 exact ZqX T z
theorem walk {l : W.OpenLaw} {q : Program} {loose : List Str} {XP : (Str → Option Value) → Heap → Prop} {YP : World → Heap → Prop} {d : DefRec} {K : Params → W.Frag} (hn : l.most=some 63) (hdf : d.params.defaults=[])
  (hY:∀ (w:World) (h:Heap),YP w h->(K w.params).In h)
  (F:∀ (w:World) (mg:Str->Option Value) (fa:Addr) (h:Heap),(K w.params).In h->h.Ns mainGlobals mg->mg d.name=some (.ref fa) →
   ∃ fd:FuncData,(∀ (s:Shared) (u:Value),BindsTo s fd ⟨[u],[]⟩ [("_law_script",u)])∧∀ base:Heap,(K w.params).In base->base.Ns mainGlobals mg->FnOk l.prog w (K w.params) mg base (CX1 l.prog w) 11 fa fd ["_law_script"] (Zo4 (K w.params))) :
  W.WalkO q loose XP YP l.row.toRowW d [] (fun f vs=>PySem.call f vs) :=
 L2.walk_of (n:=63) (k:=11) (x:="_law_script") (CX:=fun w=>CX1 l.prog w) (sp:=fun w=>Zo4 (K w.params)) hn (by decide) hdf ⟨rfl,by decide,by decide⟩ hY F (fun _ _ a ns hl _ hS=>⟨a,ns,rfl,hS,hl,fun _=>rfl⟩) fun _ _ _ _ _ ⟨_,_,_,_,_,z⟩=>z
end K62
open PySem PySem.W PyProof.Rows
set_option maxRecDepth 100000 in
set_option maxHeartbeats 0 in
theorem PySem.Challenge.cw_heirbook_k62_the_living_holds : PySem.Challenge.rw_heirbook_k62_the_living.Holds := by
 refine K62.hd ?_
 k_fill
 refine K62.walk (l:=PySem.Challenge.rw_heirbook_k62_the_living) rfl rfl (fun w h Y=>PySem.W.kIn_of Y) ?F
 case F =>
  intro w mg fa h KX G hmg
  apply K62.all_mk KX G hmg
  case ao0 | a0 | a1 | a2 | a3 | a4 | a5 | a6 | a7 | a8 | a9 | a10 | a11 | a12 | a13 | a14 | a15 | i15 | a16 | i16 | a17 | i17 | a18 | i18 | a19 | i19 | a20 | i20 | a21 | i21 | a22 | i22 | a23 | i23 | a24 | i24 | a25 | i25 | l25 | cc25 | k25 | ldt25 | a26 | i26 | a27 | i27 | a28 | i28 | a29 | i29 | a30 | i30 | a31 | a32 | a33 | l33 | cc33 | k33 | ldt33 | a34 | a35 | a36 | a37 | a38 | a39 | a40 | a41 | a42 | a43 | a44 | a45 | a46 | a47 | a48 | a49 | pg0 | hd0 | po0 | sa0 | mk0 | kc0 | na0_kept | na0_births | na0_links | na0_ties | na0_sums | ac0 | e1_0 | e2_0 | e3_0 | e4_0 | e5_0 | ac1 | e1_1 | e2_1 | e3_1 | e4_1 | e5_1 | ac2 | e1_2 | e2_2 | e3_2 | e4_2 | e5_2 | ac3 | e1_3 | e2_3 | e3_3 | e4_3 | e5_3 | ac4 | e1_4 | e2_4 | e3_4 | e4_4 | e5_4 | ac5 | e1_5 | e2_5 | e3_5 | e4_5 | e5_5 | ac6 | e1_6 | e2_6 | e3_6 | e4_6 | e5_6 | ac7 | e1_7 | e2_7 | e3_7 | e4_7 | e5_7 | z_ValueError | z_abs | z_all | z_bool | z_int | z_isinstance | z_len | z_list | z_max | z_min | z_range | z_reversed | z_sorted | z_str | z_tuple | z_zip | y_mr_Alive | y_mr_NoPerson | zF | zL | uF | up0 | up1 | up2 | up3 | up4 | up5 | ug0 | ug1 | ug2 | ug3 | ug4 | ug5 | zt0 | ut0 | zi0 | zi1=>k_is
  case l0 | l1 | l2 | l3 | l4 | l5 | l6 | l7 | l8 | l9 | l10 | l11 | l12 | l13 | l14 | l15 | l16 | l17 | l18 | l19 | l20 | l21 | l22 | l23 | l24 | l26 | l27 | l28 | l29 | l30 | l31 | l32 | l34 | l35 | l36 | l37 | l38 | l39 | l40 | l41 | l42 | l43 | l44 | l45 | l46 | l47 | l48 | l49=>exact ⟨⟨_,_,_,_,_,_,_,_,_,by k_is,by k_is⟩,by k_is⟩
  case xc0 | xc1 | xc2 | xc3 | xc4 | xc5 | xc6 | xc7=>k_exc
  case q_k_int_int | q_k_int_str | q_k_int_tuple | q_k_int_bool | q_k_str_int | q_k_str_str | q_k_str_tuple | q_k_bool_int | q_k_bool_str | q_k_bool_tuple | q_k_bool_bool | q_k_NoneType_int | q_k_NoneType_str | q_k_NoneType_tuple | q_k_tuple_int | q_k_tuple_str | q_k_tuple_tuple | q_k_list_int | q_k_list_str | q_k_list_tuple | q_k_dict_int | q_k_dict_str | q_k_dict_tuple | q_kl_list | q_kx_Alive_Alive | q_kx_Alive_NoPerson | q_kx_NoPerson_Alive | q_kx_NoPerson_NoPerson | q_kv_Alive | q_kv_NoPerson=>kit_is
