import PyProof.Rows.All
import Wide.All
import OpenK.AllK
import Wide.FinOn
import Lean
import PyProof.EqAt
import PyProof.EqKinds
import PyProof.TupleCall
import PyProof.NeKinds
import PyProof.ZipIter
import PyProof.Draws
import PyProof.ConsumeWalk
import PyProof.StrCaseBound
import PyProof.StrLawsIn
import PyProof.StrLawsJoin
import PyProof.Rows.StrSplitAre
import PyProof.WalkInts
import PyProof.EnumMake
import KE.KRevSl
import PyProof.Rows.SumAny
import PyProof.Rows.SortRuns
import PyProof.Rows.SortKey
import KE.KSortTup
import KE.KDictList
import PyProof.DictValues
import PySem.Challenge.RW_heirbook_k07_unions_gifts_and_days
set_option Elab.async false
set_option linter.all false
namespace LR
open PySem PySem.W PyProof.Rows
noncomputable abbrev ZsK:=@Fast.tw14082659384304107361
noncomputable abbrev ZsI:=Fast.tw14364793385576792824
noncomputable abbrev ZkK:=@Fast.tw4187177175401517315
noncomputable def allIn (p:Program) (P:Params) (s:Shared):Bool :=
 staticsOk (importedModules p.main.body) (boot_heap P) s.heap&&namesBound p s.heap&&gensDone s&&laidKept (boot_heap P) s.heap
noncomputable abbrev sA (q:Program) (loose mods:List Str) (Xt:Shared->Bool) (g0:Bool) (s:Shared) :=
 ((ZkK q loose mods Xt g0 s).1,(ZkK q loose mods Xt g0 s).2.1,(ZkK q loose mods Xt g0 s).2.2.1,(ZkK q loose mods Xt g0 s).2.2.2.1)
noncomputable abbrev sB (q:Program) (loose mods:List Str) (Xt:Shared->Bool) (g0:Bool) (s:Shared):=(ZkK q loose mods Xt g0 s).2.2.2.2
noncomputable abbrev gA (q:Program) (loose:List Str):=((openGood q loose).1,(openGood q loose).2.1,(openGood q loose).2.2.1,(openGood q loose).2.2.2.1)
noncomputable abbrev gB (q:Program) (loose:List Str):=(openGood q loose).2.2.2.2
noncomputable abbrev ran (p:Program) (m:Nat) (ann:Option Value) (N:Nat) (w:World) (os:OsState):Option Shared :=
 ZsK ZsI p w m ann N ⟨boot_heap w.params,Array.mk [],boot_drawn,boot_toks,os⟩ (topStub p)
theorem left_run {p q : Program} {loose : List Str} {Xt : Shared → Bool} {α : Type} {Yf : Shared → α} {Ya : World → α} {N m : Nat} {g0 : Bool} {ann : Option Value}
  (e:opening p=plainProg p.main.scope.names) (f:∀ s,fenceModules? p s=some s) (hN:Nat.ble 600 N=true)
  (h1:∀ w:World,(boot_heap w.params).isNs mainGlobals=true) (h2:∀ w:World,(boot_heap w.params).objs.size=m) (h3:∀ w:World,(boot_heap w.params).nsMap mainGlobals "__annotations__"=ann)
  (r1:∀ (w:World) (os:OsState),(ran p m ann N w os).map (allIn p w.params)=some true)
  (r2:∀ (w:World) (os:OsState),(ran p m ann N w os).map (sA q loose (importedModules p.main.body) Xt g0)=some (gA q loose))
  (r2':∀ (w:World) (os:OsState),(ran p m ann N w os).map (sB q loose (importedModules p.main.body) Xt g0)=some (gB q loose))
  (r3:∀ (w:World) (os:OsState),(ran p m ann N w os).map Yf=some (Ya w)):LeftO p q loose Xt Yf Ya N g0:=by
 intro w
 cases hb:fencedOpening treeTable p w N with
 | none=>have z:=boot_open e hN f w; rw [hb] at z; cases z
 | some s0 =>
  have z:=boot_open e hN f w
  rw [hb] at z
  obtain ⟨h,gs,d,k,os⟩:=s0
  injection z with z
  injection z with z4 z; injection z with z5 z; injection z with z6 z7
  dsimp only at z4 z5 z6 z7
  subst z4 z5 z6 z7
  have a:=r1 w os
  have b:=r2 w os
  have b':=r2' w os
  have c:=r3 w os
  unfold ran ZsK ZsI at a b b' c
  unfold sA gA ZkK at b
  unfold sB gB ZkK at b'
  rw [← Fast.te14082659384304107361,← Fast.te14364793385576792824] at a b b' c
  rw [← Fast.te4187177175401517315] at b b'
  cases hs:topRun treeTable p w m ann N ⟨boot_heap w.params,Array.mk [],boot_drawn,boot_toks,os⟩ (topStub p) with
  | none=>rw [hs] at a; cases a
  | some s =>
   rw [hs] at a b b' c
   injection a with a
   injection b with b
   injection b' with b'
   injection b with x1 b; injection b with x2 b; injection b with x3 x4
   injection c with c
   have b:openSeen q loose (importedModules p.main.body) Xt g0 s=openGood q loose:=Prod.ext x1 (Prod.ext x2 (Prod.ext x3 (Prod.ext x4 b')))
   have t:topFrom treeTable p w N ⟨boot_heap w.params,Array.mk [],boot_drawn,boot_toks,os⟩=some s:=by
    unfold topFrom
    simp only [h1 w,h2 w,h3 w,hs]
    unfold allIn at a
    show (Option.bind (some s) fun x=>_)=_
    rw [Option.bind_some,a]
   show Option.map _ (Option.bind (fencedOpening treeTable p w N) _)=_
   rw [hb,Option.bind_some,t,Option.map_some,b,c]
end LR
namespace K7
open PySem PySem.W PyProof.Rows
abbrev rwOf:OpenLaw:=PySem.Challenge.rw_heirbook_k07_unions_gifts_and_days
abbrev pwOf:Program:=PySem.Challenge.pw_heirbook_k07_unions_gifts_and_days
noncomputable def vw:Program:=view pwOf [1,2,3,4,5,6,7,9,11,12,13,14,15,16,17,18,19,20,21,22,23,24,26,27,29,30,31,32,34,35,36,37,38,39,40,41,42,43,44,45,46,47,48,49]
noncomputable abbrev lo:List Str:=["FORMS"]
noncomputable abbrev xt (s:Shared):Bool:=xlAt vw [] s&&recOk (RowW.records (OpenRow.toRowW (OpenLaw.row rwOf))) s
noncomputable abbrev rn:=LR.ran pwOf 11 (some (.ref 6)) 3500
set_option maxRecDepth 100000
set_option maxHeartbeats 0
theorem said:OpenLaw.wellSaid rwOf=true:=by kernel_rfl
theorem r1 (w:World) (os:OsState):(rn w os).map (LR.allIn pwOf w.params)=some true:=by kernel_rfl
theorem r2 (w:World) (os:OsState):(rn w os).map (LR.sA vw lo (importedModules pwOf.main.body) xt true)=some (LR.gA vw lo):=by kernel_rfl
theorem r3 (w:World) (os:OsState):(rn w os).map (LR.sB vw lo (importedModules pwOf.main.body) xt true)=some (LR.gB vw lo):=by kernel_rfl
end K7
local macro_rules
 | `(tactic| o_law)=>`(tactic| refine PySem.W.holds_law K7.said fun sd=>?_)
local macro_rules
 | `(tactic| o_head $H)=>do
  let hw:=Lean.mkIdent `hw
  let hc:=Lean.mkIdent `hc
  `(tactic| (
   refine PySem.W.holds_open (q:=K7.vw) (loose:=K7.lo) (N:=3500) (Xt:=K7.xt) (XP:=PySem.W.XL K7.vw []) (Yf:=PySem.W.Hook.obs $H)
    (Ya:=PySem.W.Hook.val $H) (YP:=PySem.W.Hook.says $H)
    (LR.left_run (p:=K7.pwOf) (m:=11) (ann:=(some (.ref 6))) ?e1 ?e2 (by decide) ?e3 ?e4 ?e5 K7.r1 K7.r2 K7.r3 ?e6)
    (PySem.W.Hook.of $H) (PySem.W.Hook.keeps $H) ?f1
    PySem.W.XL.keeps (by rfl) (by rfl) (by rfl) ?f2 ?g4 ?g5 ?g6 ?g7 ?$hw ?$hc
   case e1=>kernel_rfl
   case e2=>intro s; kernel_rfl
   case e3=>intro w; kernel_rfl
   case e4=>intro w; kernel_rfl
   case e5=>intro w; kernel_rfl
   case e6=>intro w os; kernel_rfl
   case f1=>intro s e; exact PySem.W.xl_of s (Bool.and_eq_true_iff.mp e).1
   case f2=>intro s e; exact PySem.W.recFacts_of (Bool.and_eq_true_iff.mp e).2
   case g4=>rfl
   case g5=>assumption
   case g6=>decide +kernel
   case g7=>exact ⟨rfl,rfl,rfl,rfl,rfl,by decide +kernel⟩))
set_option maxRecDepth 100000 in
set_option maxHeartbeats 0 in
open_top K7.hd for PySem.Challenge.rw_heirbook_k07_unions_gifts_and_days
set_option maxRecDepth 100000
namespace L2
open PySem PySem.Spec PyProof.Rows
abbrev Key:=Sum Int Str
noncomputable def Zk7:Key->Value->Bool
 | .inl k,v=>Value.isInt k v
 | .inr x,v=>Value.isStrOf x v
noncomputable def Zs0 (w:World):Key->Int
 | .inl k=>hashInt k
 | .inr x=>hashStr w x
theorem Zbm:∀ {k:Key} {v:Value},Zk7 k v=true->(∃ i t,k=Sum.inl i∧v=Value.int i t)∨(∃ x t,k=Sum.inr x∧v=Value.str x t)
 | .inl i,v,h=>by
  obtain ⟨t,e⟩:=Value.isInt_shape (k:=i) (v:=v) h
  exact .inl ⟨i,t,rfl,e⟩
 | .inr x,v,h=>by
  obtain ⟨t,e⟩:=Value.isStrOf_shape (x:=x) (v:=v) h
  exact .inr ⟨x,t,rfl,e⟩
theorem ZmP (i:Int) (t:Tok):Zk7 (.inl i) (.int i t)=true:=by simp [Zk7,Value.isInt]
theorem Zod (x:Str) (t:Tok):Zk7 (.inr x) (.str x t)=true:=by simp [Zk7,Value.isStrOf]
theorem Zrb (a b:Int):decide ((Sum.inl a:Key)=Sum.inl b)=(a == b):=by
 by_cases e:a=b
 ·subst e; simp
 ·have h:¬ (Sum.inl a:Key)=Sum.inl b:=fun q=>e (Sum.inl.inj q)
  rw [decide_eq_false h]
  exact (beq_eq_false_iff_ne.mpr e).symm
theorem Zrp (a b:Str):decide ((Sum.inr a:Key)=Sum.inr b)=decide (a=b):=by
 by_cases e:a=b
 ·subst e; simp
 ·have h:¬ (Sum.inr a:Key)=Sum.inr b:=fun q=>e (Sum.inr.inj q)
  rw [decide_eq_false h,decide_eq_false e]
theorem Zq0 (a:Int) (b:Str):decide ((Sum.inl a:Key)=Sum.inr b)=false:=decide_eq_false (fun q=>nomatch q)
theorem ZrO (a:Str) (b:Int):decide ((Sum.inr a:Key)=Sum.inl b)=false:=decide_eq_false (fun q=>nomatch q)
noncomputable def Zbl (prog:Program) (w:World):PySem.KeyKind prog w Key where
 is:=Zk7
 hash:=Zs0 w
 inj:=fun v a b ha hb=>by
  rcases Zbm ha with ⟨i,t,rfl,rfl⟩ | ⟨x,t,rfl,rfl⟩
  ·rcases Zbm hb with ⟨j,u,rfl,e⟩ | ⟨y,u,rfl,e⟩
   ·injection e with e1 _; rw [e1]
   ·exact nomatch e
  ·rcases Zbm hb with ⟨j,u,rfl,e⟩ | ⟨y,u,rfl,e⟩
   ·exact nomatch e
   ·injection e with e1 _; rw [e1]
 byValue:=fun k v h=>by
  rcases Zbm h with ⟨i,t,rfl,rfl⟩ | ⟨x,t,rfl,rfl⟩ <;> rfl
 pyHash:=fun hv h=>by
  rcases Zbm hv with ⟨i,t,rfl,rfl⟩ | ⟨x,t,rfl,rfl⟩
  ·exact wpAny_pyHash_int h
  ·exact wpAny_pyHash_str h
 eqBool:=fun hu hv h=>by
  rcases Zbm hu with ⟨i,t,rfl,rfl⟩ | ⟨x,t,rfl,rfl⟩
  ·rcases Zbm hv with ⟨j,u,rfl,rfl⟩ | ⟨y,u,rfl,rfl⟩
   ·rw [Zrb] at h; exact wpAny_eqBool_int h
   ·rw [Zq0] at h; exact SeqAt.EqAt.int_str i t y u _ _ _ _ h
  ·rcases Zbm hv with ⟨j,u,rfl,rfl⟩ | ⟨y,u,rfl,rfl⟩
   ·rw [ZrO] at h; exact SeqAt.EqAt.str_int x t j u _ _ _ _ h
   ·rw [Zrp] at h; exact wpAny_eqBool_str h
 «strs»:=fun k x t v h=>by
  rcases Zbm h with ⟨i,u,rfl,e⟩ | ⟨y,u,rfl,e⟩
  ·exact nomatch e
  ·injection e with e1 _
   subst e1
   cases v <;> rfl
theorem ZkW (prog:Program) (w:World) (i:Int) (t:Tok):(Zbl prog w).is (.inl i) (.int i t)=true:=ZmP i t
theorem ZkE (prog:Program) (w:World) (x:Str) (t:Tok):(Zbl prog w).is (.inr x) (.str x t)=true:=Zod x t
inductive V where
 | non | bl (b:Bool) | int (i:Int) | str (x:Str) | byt (b:Array UInt8) | flt (b:UInt64) | ref (a:Addr) | ty (n:String)
 deriving DecidableEq
def RelV:V->Value->Prop
 | .non,u=>u=Value.none
 | .bl b,u=>u=Value.bool b
 | .int i,u=>∃ t,u=Value.int i t
 | .str x,u=>∃ t,u=Value.str x t
 | .byt b,u=>∃ t,u=Value.bytes b t
 | .flt b,u=>∃ t,u=Value.float b t
 | .ref a,u=>u=Value.ref a
 | .ty n,u=>u=Value.type n
abbrev Vals:List V->List Value->Prop:=Paired RelV
theorem Vals.length {xs:List V} {us:List Value} (r:Vals xs us):xs.length=us.length:=Paired.length r
theorem Vals.get:∀ {xs:List V} {us:List Value} {i:Nat} {x:V},Vals xs us->xs[i]?=some x->∃ u,us[i]?=some u∧RelV x u
 | _,_,_,_,.nil,e=>by simp at e
 | _,_,0,_,.cons r _,e=>by simp at e; subst e; exact ⟨_,rfl,r⟩
 | _,_,i+1,x,.cons _ t,e=>by
  obtain ⟨u,h1,h2⟩:=Vals.get (i:=i) (x:=x) t (by simpa using e)
  exact ⟨u,by simpa using h1,h2⟩
theorem Vals.append:∀ {xs ys:List V} {us ws:List Value},Vals xs us->Vals ys ws->Vals (xs++ys) (us++ws)
 | _,_,_,_,.nil,s=>s
 | _,_,_,_,.cons r t,s=>.cons r (Vals.append t s)
theorem Vals.take:∀ {xs:List V} {us:List Value} (n:Nat),Vals xs us->Vals (xs.take n) (us.take n)
 | _,_,0,_=>.nil
 | _,_,_+1,.nil=>.nil
 | _,_,n+1,.cons r t=>.cons r (Vals.take n t)
theorem Vals.drop:∀ {xs:List V} {us:List Value} (n:Nat),Vals xs us->Vals (xs.drop n) (us.drop n)
 | _,_,0,r=>r
 | _,_,_+1,.nil=>.nil
 | _,_,n+1,.cons _ t=>Vals.drop n t
def RelO:Option V->Option Value->Prop
 | some v,some u=>RelV v u
 | none,none=>True
 | _,_=>False
def KV {κ:Type}:List (κ × V)->List (κ × Value)->Prop:=Paired fun (p:κ × V) (q:κ × Value)=>p.1=q.1∧RelV p.2 q.2
noncomputable def kV:Key->V
 | .inl i=>.int i
 | .inr x=>.str x
inductive HO where
 | lst (xs:List V)
 | tup (xs:List V)
 | dK (kvs:List (Key × V)) | dT (kvs:List (List Key × V))
 | set (S:Int->Bool) (n:Nat)
 | ins (C dx:Addr) (fs:List (Str × V))
 | own (x:Addr)
 | xd (fs:List (Str × V))
 | met (f x:Addr)
 | rng (lo hi:Int)
 | frz (o:Obj) (u:HO)
 | tbl (ps:Array Value)
 | ext (φ:Heap->Prop)
abbrev Hp:=Addr->Option HO
noncomputable def upd (H:Hp) (a:Addr) (o:HO):Hp:=fun b=>if b=a then some o else H b
theorem Zab {H:Hp} {a:Addr} {o:HO}:upd H a o a=some o:=by unfold upd; rw [if_pos rfl]
theorem Zak {H:Hp} {a b:Addr} {o:HO} (h:b≠a):upd H a o b=H b:=by unfold upd; rw [if_neg h]
theorem ZrR {H:Hp} {a b:Addr} {o u:HO} (h:H a=some o) (h':H b=some u) (d:o≠u):a≠b:=by
 intro e; subst e; rw [h] at h'; exact d (Option.some.inj h')
theorem Zat {H:Hp} {a b:Addr} {o:HO} (h:H a=some o) (h':H b=none):a≠b:=by
 intro e; subst e; rw [h] at h'; cases h'
section
variable (P:Program) (w:World)
def ObjOk (H:Hp) (h:Heap) (a:Addr):HO->Prop
 | .lst xs=>xs.length≤sizeLine∧∃ (its:List Value) (n:Nat),Vals xs its∧h.get? a=some { cls:=.type "list",data:=.seq its.toArray n }
 | .tup xs=>xs.length≤sizeLine∧∃ its:List Value,Vals xs its∧IsTup h a its.toArray
 | .dK kvs=>kvs.length≤sizeLine∧(a == sysModules)=false∧∃ vs,KV kvs vs∧h.DictOf (Zbl P w) a vs
 | .dT kvs => kvs.length ≤ sizeLine ∧ (a == sysModules)=false ∧ ∃ xs : List (List Key × Addr × Value),
   Paired (fun (p:List Key × V) (q:List Key × Addr × Value)=>p.1=q.1∧H q.2.1=some (.tup (p.1.map kV))∧RelV p.2 q.2.2) kvs xs ∧
   ∃ o es ep,h.get? a=some o∧o.ExactDict∧o.data=.dict es ep∧es.toList=xs.map (entryOfKey (tupleKind (Zbl P w)))∧(xs.map (·.1)).Nodup
 | .set S n=>h.SetOf (intKind P w) a S n
 | .ins C dx fs => H dx=some (.own a) ∧ fs.length ≤ 1000 ∧ dx ≠ a ∧ h.get? a=some (W.instObj C dx) ∧
   ∃ mA,h.Ns1 dx mA∧(∀ f,RelO (fs.lookup f) (mA f))∧PySem.Within mA (fs.map (·.1))
 | .own _=>∃ o,h.get? a=some o
 | .xd fs=>∃ mA,h.Ns1 a mA∧∀ f,RelO (fs.lookup f) (mA f)
 | .rng lo hi=>∃ t u v,h.get? a=some { cls:=.type "range",data:=.fields #[.int lo t,.int hi u,.int 1 v] }
 | .frz o u=>h.get? a=some o∧ObjOk H h a u
 | .tbl ps=>h.get? a=some { cls:=.none,data:=.fields ps }
 | .met f x=>h.get? a=some (W.methodObj (.ref f) (.ref x))
 | .ext φ=>φ h∧(∃ o,h.get? a=some o)∧∀ h1 h2:Heap,φ h1->(∀ o,h1.get? a=some o->h2.get? a=some o)->φ h2
def HOk (H:Hp) (h:Heap):Prop:=∀ a o,H a=some o->ObjOk P w H h a o
end
section
variable {P:Program} {w:World} {H H':Hp} {h h':Heap} {a:Addr} {o:HO}
theorem ObjOk.lt (x:ObjOk P w H h a o):a<h.objs.size:=by
 cases o with
 | lst xs=>obtain ⟨_,_,_,_,e⟩:=x; exact Heap.lt_size e
 | tup xs=>obtain ⟨_,_,_,p⟩:=x; exact p.lt
 | dK kvs=>obtain ⟨_,_,_,_,o,_,_,e,_⟩:=x; exact Heap.lt_size e
 | dT kvs=>obtain ⟨_,_,_,_,o,_,_,e,_⟩:=x; exact Heap.lt_size e
 | set S n=>obtain ⟨o,_,_,_,e,_⟩:=x; exact Heap.lt_size e
 | ins C dx fs=>obtain ⟨_,_,_,e,_⟩:=x; exact Heap.lt_size e
 | own y=>obtain ⟨_,e⟩:=x; exact Heap.lt_size e
 | xd fs=>obtain ⟨_,⟨_,_,_,e,_⟩,_⟩:=x; exact Heap.lt_size e
 | rng lo hi=>obtain ⟨_,_,_,e⟩:=x; exact Heap.lt_size e
 | frz ob u=>obtain ⟨e,_⟩:=x; exact Heap.lt_size e
 | tbl ps=>exact Heap.lt_size (show h.get? a=some _ from x)
 | met f y=>exact Heap.lt_size (show h.get? a=some _ from x)
 | ext φ=>obtain ⟨_,⟨_,e⟩,_⟩:=x; exact Heap.lt_size e
theorem Paired.mapP {α β:Type} {F G:α->β->Prop}:∀ {l₁:List α} {l₂:List β},Paired F l₁ l₂->(∀ a b,F a b->G a b)->Paired G l₁ l₂
 | _,_,.nil,_=>.nil
 | _,_,.cons r t,f=>.cons (f _ _ r) (Paired.mapP t f)
theorem ObjOk.stay (x : ObjOk P w H h a o) (k : ∀ b u, (b=a ∨ H b=some (.own a)) → h.get? b=some u → h'.get? b=some u)
  (ho:∀ b,H b=some (.own a)->H' b=some (.own a)) (ht:∀ b xs,H b=some (.tup xs)->H' b=some (.tup xs)):ObjOk P w H' h' a o:=by
 induction o with
 | lst xs=>obtain ⟨z,its,n,r,e⟩:=x; exact ⟨z,its,n,r,k _ _ (.inl rfl) e⟩
 | tup xs=>obtain ⟨z,its,r,ob,e,c⟩:=x; exact ⟨z,its,r,ob,k _ _ (.inl rfl) e,c⟩
 | dK kvs=>obtain ⟨z,y,vs,r,ob,es,ep,e,c⟩:=x; exact ⟨z,y,vs,r,ob,es,ep,k _ _ (.inl rfl) e,c⟩
 | dT kvs =>
  obtain ⟨z,y,xs,r,ob,es,ep,e,c⟩:=x
  exact ⟨z,y,xs,Paired.mapP r fun p q z=>⟨z.1,ht _ _ z.2.1,z.2.2⟩,ob,es,ep,k _ _ (.inl rfl) e,c⟩
 | set S n=>obtain ⟨ob,es,ep,t,e,c⟩:=x; exact ⟨ob,es,ep,t,k _ _ (.inl rfl) e,c⟩
 | ins C dx fs =>
  obtain ⟨d,z,ne,e,mA,⟨od,es,ep,e2,c⟩,r⟩:=x
  exact ⟨ho _ d,z,ne,k _ _ (.inl rfl) e,mA,⟨od,es,ep,k _ _ (.inr d) e2,c⟩,r⟩
 | own y=>obtain ⟨ob,e⟩:=x; exact ⟨ob,k _ _ (.inl rfl) e⟩
 | xd fs=>obtain ⟨mA,⟨od,es,ep,e,c⟩,r⟩:=x; exact ⟨mA,⟨od,es,ep,k _ _ (.inl rfl) e,c⟩,r⟩
 | rng lo hi=>obtain ⟨t,u,v,e⟩:=x; exact ⟨t,u,v,k _ _ (.inl rfl) e⟩
 | frz ob u ih=>obtain ⟨e,q⟩:=x; exact ⟨k _ _ (.inl rfl) e,ih q⟩
 | tbl ps =>
  have e:h.get? a=some { cls:=.none,data:=.fields ps }:=x
  show h'.get? a=some { cls:=.none,data:=.fields ps }
  exact k a _ (.inl rfl) e
 | met f y =>
  have e:h.get? a=some (W.methodObj (.ref f) (.ref y)):=x
  show h'.get? a=some (W.methodObj (.ref f) (.ref y))
  exact k a _ (.inl rfl) e
 | ext φ=>obtain ⟨p,⟨o,e⟩,st⟩:=x; exact ⟨st _ _ p fun o q=>k _ _ (.inl rfl) q,⟨o,k _ _ (.inl rfl) e⟩,st⟩
theorem HOk.lt (x:HOk P w H h) (e:H a=some o):a<h.objs.size:=(x a o e).lt
theorem HOk.fresh (x:HOk P w H h) (e:h.objs.size≤a):H a=none:=by
 cases q:H a with
 | none=>rfl
 | some u=>exact absurd (Nat.lt_of_lt_of_le (x.lt q) e) (Nat.lt_irrefl _)
theorem HOk.kept (x:HOk P w H h) (k:∀ b u,h.get? b=some u->h'.get? b=some u):HOk P w H h':=fun a o e =>
 (x a o e).stay (fun b u _ q=>k b u q) (fun _ q=>q) fun _ _ q=>q
theorem HOk.laid (x:HOk P w H h) (k:∀ b u,h.get? b=some u->h'.get? b=some u) (hp:h.objs.size≤a) (new:ObjOk P w (upd H a o) h' a o):HOk P w (upd H a o) h':=fun b u e=>by
 have hn:=x.fresh hp
 by_cases hb:b=a
 ·subst hb; rw [Zab] at e; cases e; exact new
 ·rw [Zak hb] at e
  exact (x b u e).stay (fun c v _ q=>k c v q) (fun c q=>by rw [Zak (Zat q hn)]; exact q) fun c xs q=>by rw [Zak (Zat q hn)]; exact q
end
def Rd (H:Hp) (a:Addr) (u:HO):Prop:=H a=some u∨∃ o,H a=some (.frz o u)
theorem Rd.ok {P:Program} {w:World} {H:Hp} {h:Heap} {a:Addr} {u:HO} (r:Rd H a u) (x:HOk P w H h):ObjOk P w H h a u:=by
 rcases r with r | ⟨o,r⟩
 ·exact x a u r
 ·obtain ⟨_,q⟩:=x a _ r
  exact q
def Mut:Option HO->Prop
 | some (.lst _)=>True
 | some (.dK _)=>True
 | some (.dT _)=>True
 | some (.set _ _)=>True
 | some (.ins _ _ _)=>True
 | some (.ext _)=>True
 | _=>False
section
variable {P:Program} {w:World} {H:Hp} {h h':Heap} {x e:Addr} {o':HO}
theorem HOk.write (ok : HOk P w H h) (mu : Mut (H x)) (he : e=x ∨ H e=some (.own x)) (k : ∀ b u, b ≠ e → h.get? b=some u → h'.get? b=some u) (heo : ∃ u, h'.get? e=some u)
  (new:ObjOk P w (upd H x o') h' x o'):HOk P w (upd H x o') h':=fun b u q=>by
 have nown:∀ c y,H c=some (.own y)->c≠x:=fun c y r z=>by subst z; rw [r] at mu; exact mu
 have ntup:∀ c xs,H c=some (.tup xs)->c≠x:=fun c xs r z=>by subst z; rw [r] at mu; exact mu
 by_cases hb:b=x
 ·subst hb; rw [Zab] at q; cases q; exact new
 ·rw [Zak hb] at q
  by_cases hbe:b=e
  ·have q':H b=some (.own x):=by
    rcases he with z | z
    ·exact absurd (hbe.trans z) hb
    ·rw [hbe]; exact z
   rw [q] at q'; cases q'
   obtain ⟨v,hv⟩:=heo
   exact ⟨v,by rw [hbe]; exact hv⟩
  ·refine (ok b u q).stay (fun c v hc r=>k c v ?_ r) (fun c r=>by rw [Zak (nown c b r)]; exact r) fun c xs r=>by rw [Zak (ntup c xs r)]; exact r
   rcases hc with rfl | hc
   ·exact hbe
   ·rintro rfl
    rcases he with z | z
    ·exact nown c b hc z
    ·rw [hc] at z; cases z; exact hb rfl
end
structure Un (fs ex:List Addr) (H H':Hp) (h h':Heap):Prop where
 keep:∀ b o,h.get? b=some o->H b=none->b ∉ fs->b ∉ ex->h'.get? b=some o
 slot:∀ b o,h.get? b=some o->H b=none->b∈fs->b ∉ ex->∃ sl,h'.get? b=some { o with slots:=sl }
 free:∀ b o,h.get? b=some o->H b=none->b ∉ ex->H' b=none
 there:∀ b o,h.get? b=some o->b ∉ ex->∃ o',h'.get? b=some o'
 tups:∀ b xs,H b=some (.tup xs)->H' b=some (.tup xs)
 frzs:∀ b o u,H b=some (.frz o u)->H' b=some (.frz o u)
 tbls:∀ b ps,H b=some (.tbl ps)->∃ more,H' b=some (.tbl (ps++more))
section
variable {fs fs' ex ex':List Addr} {H H1 H2:Hp} {h h1 h2 h':Heap} {a x e:Addr} {o:HO}
theorem Un.any (u:Un fs ex H H1 h h1) {b:Addr} {ob:Obj} (q:h.get? b=some ob) (n:H b=none) (hx:b ∉ ex):∃ sl,h1.get? b=some { ob with slots:=sl }:=by
 by_cases hb:b∈fs
 ·exact u.slot b ob q n hb hx
 ·exact ⟨ob.slots,u.keep b ob q n hb hx⟩
theorem Un.kept (k:∀ b u,h.get? b=some u->h'.get? b=some u):Un fs ex H H h h' :=
 ⟨fun b ob q _ _ _=>k b ob q,fun b ob q _ _ _=>⟨ob.slots,k b ob q⟩,fun _ _ _ n _=>n,fun b ob q _=>⟨ob,k b ob q⟩,fun _ _ q=>q,fun _ _ _ q=>q,fun _ ps q=>⟨#[],by rw [q]; simp⟩⟩
theorem Un.refl:Un fs ex H H h h:=Un.kept fun _ _ q=>q
theorem Un.laid (k:∀ b u,h.get? b=some u->h'.get? b=some u) (hp:h.objs.size≤a) (hn:H a=none):Un fs ex H (upd H a o) h h' where
 keep:=fun b u q _ _ _=>k b u q
 slot:=fun b u q _ _ _=>⟨u.slots,k b u q⟩
 free:=fun b u q n _=>by rw [Zak (Nat.ne_of_lt (Nat.lt_of_lt_of_le (Heap.lt_size q) hp))]; exact n
 there:=fun b u q _=>⟨u,k b u q⟩
 tups:=fun b xs q=>by rw [Zak (Zat q hn)]; exact q
 frzs:=fun b u xs q=>by rw [Zak (Zat q hn)]; exact q
 tbls:=fun b ps q=>⟨#[],by rw [Zak (Zat q hn),q]; simp⟩
theorem Un.write (mu:Mut (H x)) (he:e=x∨H e=some (.own x)) (k:∀ b u,b≠e->h.get? b=some u->h'.get? b=some u) (heo:∃ u,h'.get? e=some u):Un fs ex H (upd H x o) h h':=by
 have hx:∀ b,H b=none->b≠x:=fun b n z=>by subst z; rw [n] at mu; exact mu
 have hb:∀ b,H b=none->b≠e:=fun b n z=>by
  subst z
  rcases he with r | r
  ·exact hx b n r
  ·rw [n] at r; cases r
 have hm:∀ b u,H b=some u->¬ Mut (some u)->b≠x:=fun b u q nm z=>by subst z; rw [q] at mu; exact nm mu
 refine ⟨fun b u q n _ _=>k b u (hb b n) q,fun b u q n _ _=>⟨u.slots,k b u (hb b n) q⟩,fun b u q n _=>by rw [Zak (hx b n)]; exact n,fun b u q _=>?_,
  fun b xs q=>by rw [Zak (hm b _ q fun z=>z)]; exact q,fun b u xs q=>by rw [Zak (hm b _ q fun z=>z)]; exact q,fun b ps q=>⟨#[],by rw [Zak (hm b _ q fun z=>z),q]; simp⟩⟩
 by_cases hbe:b=e
 ·subst hbe; exact heo
 ·exact ⟨u,k b u hbe q⟩
end
noncomputable def trk (h:Heap) (H:Hp):List Addr:=(List.range h.objs.size).filter fun a=>(H a).isSome
noncomputable def Zo8 (h:Heap) (H:Hp):Heap:=W.hideAll h (trk h H)
theorem Zoa (h:Heap) (H:Hp):(Zo8 h H).objs.size=h.objs.size:=W.hideAll_size _ _
theorem ZoC {h:Heap} {H:Hp} {b:Addr} {o:Obj} (e:h.get? b=some o) (n:H b=none):(Zo8 h H).get? b=some o :=
 W.hideAll_get _ e fun hm=>by
  have q:(H b).isSome=true:=(List.mem_filter.mp hm).2
  rw [n] at q; simp at q
theorem Zp3 {h:Heap} {H:Hp} {b:Addr} {o:Obj} (e:(Zo8 h H).get? b=some o):h.get? b=some o∧H b=none:=by
 have e':h.get? b=some o:=W.of_hideAll (trk h H) e
 refine ⟨e',?_⟩
 cases q:H b with
 | none=>rfl
 | some x =>
  have hm:b∈trk h H:=List.mem_filter.mpr ⟨List.mem_range.mpr (Heap.lt_size e'),by simp [q]⟩
  have z:(Zo8 h H).get? b=none:=W.hideAll_none (trk h H) hm
  rw [z] at e; cases e
structure Mod (K:W.Frag) (mg:Str->Option Value) (base:Heap):Prop where
 kin:K.In base
 glob:base.Ns mainGlobals mg
 blt:∃ mb,base.Ns builtinsNs mb∧∀ x:Str,x≠"__name__"->mb x=bootBuiltins x
 nolimit:base.NoLimit
structure Cx where
 prog:Program
 w:World
 K:W.Frag
 mg:Str->Option Value
 base:Heap
 A:Around
 N:List Str
 s₀:Shared
 H₀:Hp
 env:Env
 outer:List Env
 stack:List Env
 ex:List Addr
 fn:Str->Bool
 calm:Bool
 pn:List (Addr × Obj)
 xe:Value->Shared->Prop
noncomputable def frs (l:List Env):List Addr:=l.filterMap (·.frame)
noncomputable abbrev Cx.fs (X:Cx):List Addr:=frs X.outer
def Vis (sc:Scope) (x:Str):Prop:=sc.names.lookup x=some .local∨sc.names.lookup x=some .cell∨sc.names.lookup x=some .free
def Loc (sc:Scope) (x:Str):Prop:=sc.names.lookup x=some .local∨sc.names.lookup x=some .cell
def Zs4 (env:Env) (h:Heap) (m:Str->Option Value) (x:Str) (u:Value):Prop :=
 (env.kindOf x=some .local∧m x=some u)∨((env.kindOf x=some .cell∨env.kindOf x=some .free)∧∃ c,env.cells.lookup x=some c∧h.IsCell c (some u))
structure Cx.Ok (X:Cx):Prop where
 mod:Mod X.K X.mg X.base
 kind:X.env.scope.kind=.function
 glob:X.env.globals=mainGlobals
 blt:X.env.builtins=builtinsNs
 above:X.s₀.heap.objs.size≤X.env.locals
 inj:∀ x y c,X.env.cells.lookup x=some c->X.env.cells.lookup y=some c->x=y
 has:∀ x,(X.env.kindOf x=some .cell∨X.env.kindOf x=some .free)->∃ c,X.env.cells.lookup x=some c
 cab:∀ x c,X.fn x=true->X.env.cells.lookup x=some c->X.s₀.heap.objs.size≤c
 hd:X.calm=true->X.A.handled=none
 frames:X.A.frames=some X.stack
 stk:X.stack=X.outer∨(X.stack=X.env :: X.outer∧X.env.frame=some X.env.locals)
 exf:∀ b∈X.ex,b≠X.env.locals∧∀ x c,X.env.cells.lookup x=some c->c≠b
 bs:∀ b o,X.base.get? b=some o->X.s₀.heap.get? b=some o∧X.H₀ b=none
 bsz:X.base.objs.size≤X.s₀.heap.objs.size
 noex:∀ b o,X.base.get? b=some o->b ∉ X.ex
 exfs:∀ b∈X.ex,b ∉ X.fs
 funs:X.s₀.heap.FunFrames X.base X.outer
 frf:∀ b∈X.fs,X.H₀ b=none
structure Inv (X:Cx) (pins:List (Addr × Obj)) (σ:List (Option V)) (H:Hp) (s:Shared):Prop where
 ok:X.Ok
 os:s.os=X.s₀.os
 bare:AllBare s.gens
 base:Un X.fs X.ex X.H₀ H X.s₀.heap s.heap
 loc:∃ m,s.heap.Ns X.env.locals m∧∀ (i:Nat) (x:Str) (v:V),X.N[i]?=some x->σ[i]?=some (some v)->Vis X.env.scope x->∃ u,RelV v u∧Zs4 X.env s.heap m x u
 cell:∀ x c,X.env.cells.lookup x=some c->∃ v,s.heap.IsCell c v
 free:H X.env.locals=none
 freeC:∀ x c,X.env.cells.lookup x=some c->H c=none
 pin:∀ p∈X.pn++pins,s.heap.get? p.1=some p.2∧H p.1=none∧p.1≠X.env.locals∧p.1 ∉ X.fs∧∀ v,p.2.data≠.cell v
 hok:HOk X.prog X.w H s.heap
 len:σ.length=X.N.length
section
variable {X:Cx} {pins:List (Addr × Obj)} {σ:List (Option V)} {H H':Hp} {s:Shared} {h':Heap}
theorem Cx.Ok.nofr (ok:X.Ok) {b:Addr} {o:Obj} (e:X.base.get? b=some o):b ∉ X.fs:=fun hb=>by
 have:=(ok.funs.mem hb).1
 rw [e] at this; cases this
theorem Inv.bs (I:Inv X pins σ H s):∀ b o,X.base.get? b=some o->s.heap.get? b=some o∧H b=none:=fun b o e =>
 ⟨I.base.keep b o (I.ok.bs b o e).1 (I.ok.bs b o e).2 (I.ok.nofr e) (I.ok.noex b o e),I.base.free b o (I.ok.bs b o e).1 (I.ok.bs b o e).2 (I.ok.noex b o e)⟩
theorem Inv.bk (I:Inv X pins σ H s):∀ b o,X.base.get? b=some o->s.heap.get? b=some o:=fun b o e=>(I.bs b o e).1
theorem Inv.mod (I:Inv X pins σ H s):Mod X.K X.mg X.base:=I.ok.mod
theorem Inv.kIn (I:Inv X pins σ H s):X.K.In s.heap:=I.ok.mod.kin.keeps I.bk
theorem Inv.lt (I:Inv X pins σ H s):X.env.locals<s.heap.objs.size:=let ⟨_,hn,_⟩:=I.loc; hn.lt
theorem Inv.sz (I:Inv X pins σ H s):X.s₀.heap.objs.size≤s.heap.objs.size:=Nat.le_trans I.ok.above (Nat.le_of_lt I.lt)
theorem Inv.nofs (I:Inv X pins σ H s) {a:Addr} (h:s.heap.objs.size≤a):a ∉ X.fs:=fun hb=>by
 obtain ⟨_,o,ho,_⟩:=I.ok.funs.mem hb
 exact absurd (Nat.lt_of_lt_of_le (Heap.lt_size ho) (Nat.le_trans I.sz h)) (Nat.lt_irrefl _)
theorem Inv.cne (I:Inv X pins σ H s):∀ x c,X.env.cells.lookup x=some c->c≠X.env.locals:=fun x c e z=>by
 obtain ⟨v,o,ho,hd⟩:=I.cell x c e
 obtain ⟨m,⟨o',es,ep,ho',hd',_⟩,_⟩:=I.loc
 rw [z,ho'] at ho; cases ho; rw [hd'] at hd; cases hd
theorem Inv.funs (I:Inv X pins σ H s):s.heap.FunFrames X.base X.outer:=by
 have all:∀ (l:List Env),(∀ b∈frs l,b∈X.fs)->X.s₀.heap.FunFrames X.base l->s.heap.FunFrames X.base l:=by
  intro l
  induction l with
  | nil=>intro _ _; trivial
  | cons env r ih =>
   intro hs hl
   obtain ⟨hk,⟨L,o,hf,hn,ho,hd⟩,hr⟩:=hl
   have hL:L∈X.fs:=hs L (by unfold frs; rw [List.filterMap_cons,hf]; exact List.mem_cons_self)
   obtain ⟨sl,e⟩:=I.base.slot L o ho (I.ok.frf L hL) hL fun z=>I.ok.exfs L z hL
   exact ⟨hk,⟨L,_,hf,hn,e,hd⟩,ih (fun b hb=>hs b (by unfold frs; rw [List.filterMap_cons,hf]; exact List.mem_cons_of_mem _ hb)) hr⟩
 exact all X.outer (fun _ hb=>hb) I.ok.funs
theorem Inv.stack (I:Inv X pins σ H s):s.heap.FunFrames X.base X.stack:=by
 rcases I.ok.stk with e | ⟨e,hf⟩
 ·rw [e]; exact I.funs
 ·rw [e]
  obtain ⟨m,hn,_⟩:=I.loc
  refine .cons (by rw [I.ok.kind]; decide) hf hn ?_ I.funs
  exact Heap.get?_none_of_le (Nat.le_trans I.ok.bsz I.ok.above)
theorem Inv.stkSub (I:Inv X pins σ H s):∀ b∈frs X.stack,b∈X.env.locals :: X.fs:=fun b hb=>by
 rcases I.ok.stk with e | ⟨e,hf⟩
 ·rw [e] at hb; exact List.mem_cons_of_mem _ hb
 ·rw [e] at hb
  unfold frs at hb
  rw [List.filterMap_cons,hf] at hb
  exact hb
theorem Inv.stkFree (I:Inv X pins σ H s):∀ b∈frs X.stack,H b=none:=fun b hb=>by
 rcases List.mem_cons.mp (I.stkSub b hb) with e | hb
 ·rw [e]; exact I.free
 ·obtain ⟨_,o,ho,_⟩:=I.ok.funs.mem hb
  exact I.base.free b o ho (I.ok.frf b hb) fun z=>I.ok.exfs b z hb
theorem Inv.step {g' : Array GenState} {t' : Nat} {d' : Drawn} {ch : List Addr} (I : Inv X pins σ H s)
  (hch:∀ b∈ch,(b∈X.ex∨X.s₀.heap.objs.size≤b)∧b≠X.env.locals∧(∀ x c,X.env.cells.lookup x=some c->c≠b)∧∀ p∈X.pn++pins,p.1≠b)
  (keep:∀ b o,b≠X.env.locals->b ∉ X.fs->b ∉ ch->s.heap.get? b=some o->H b=none->h'.get? b=some o)
  (slot:∀ b o,b≠X.env.locals->b∈X.fs->b ∉ ch->s.heap.get? b=some o->H b=none->∃ sl,h'.get? b=some { o with slots:=sl }) (free:∀ b o,b ∉ ch->s.heap.get? b=some o->H b=none->H' b=none)
  (there:∀ b o,b ∉ ch->s.heap.get? b=some o->∃ o',h'.get? b=some o')
  (tups:∀ b xs,H b=some (.tup xs)->H' b=some (.tup xs)) (frzs:∀ b o u,H b=some (.frz o u)->H' b=some (.frz o u)) (tbls:∀ b ps,H b=some (.tbl ps)->∃ more,H' b=some (.tbl (ps++more)))
  (ns:∀ m,s.heap.Ns X.env.locals m->h'.Ns X.env.locals m) (hok:HOk X.prog X.w H' h') (hg:AllBare g') :
  Inv X pins σ H' { s with heap:=h',gens:=g',drawn:=d',toks:=t' }:=by
 have neL:∀ b o,X.s₀.heap.get? b=some o->b≠X.env.locals:=fun b o e=>Nat.ne_of_lt (Nat.lt_of_lt_of_le (Heap.lt_size e) I.ok.above)
 have neC:∀ b o,X.s₀.heap.get? b=some o->b ∉ X.ex->b ∉ ch:=fun b o e hx hb=>by
  rcases (hch b hb).1 with z | z
  ·exact hx z
  ·exact absurd (Nat.lt_of_lt_of_le (Heap.lt_size e) z) (Nat.lt_irrefl _)
 have cellK:∀ x c,X.env.cells.lookup x=some c->∀ v,s.heap.IsCell c v->h'.IsCell c v:=fun x c e v ⟨o,ho,hd⟩=>by
  have nch:c ∉ ch:=fun z=>(hch c z).2.2.1 x c e rfl
  by_cases hc:c∈X.fs
  ·obtain ⟨sl,q⟩:=slot c o (I.cne x c e) hc nch ho (I.freeC x c e)
   exact ⟨_,q,hd⟩
  ·exact ⟨o,keep c o (I.cne x c e) hc nch ho (I.freeC x c e),hd⟩
 refine ⟨I.ok,I.os,hg,⟨fun b o e n hb hx=>?_,fun b o e n hb hx=>?_,fun b o e n hx=>?_,fun b o e hx=>?_,fun b xs e=>tups b xs (I.base.tups b xs e),fun b o xs e=>frzs b o xs (I.base.frzs b o xs e),fun b ps e=>?_⟩,?_,fun x c e=>?_,?_,fun x c e=>?_,fun p hp=>?_,hok,I.len⟩
 ·exact keep b o (neL b o e) hb (neC b o e hx) (I.base.keep b o e n hb hx) (I.base.free b o e n hx)
 ·obtain ⟨sl,e1⟩:=I.base.slot b o e n hb hx
  obtain ⟨sl',e2⟩:=slot b _ (neL b o e) hb (neC b o e hx) e1 (I.base.free b o e n hx)
  exact ⟨sl',e2⟩
 ·obtain ⟨o',e1⟩:=I.base.there b o e hx
  exact free b o' (neC b o e hx) e1 (I.base.free b o e n hx)
 ·obtain ⟨o',e1⟩:=I.base.there b o e hx
  exact there b o' (neC b o e hx) e1
 ·obtain ⟨m1,e1⟩:=I.base.tbls b ps e
  obtain ⟨m2,e2⟩:=tbls b _ e1
  exact ⟨m1++m2,by rw [e2,Array.append_assoc]⟩
 ·obtain ⟨m,hn,hl⟩:=I.loc
  refine ⟨m,ns m hn,fun i x v e1 e2 e3=>?_⟩
  obtain ⟨u,r,l⟩:=hl i x v e1 e2 e3
  refine ⟨u,r,?_⟩
  rcases l with l | ⟨k,c,e,z⟩
  ·exact .inl l
  ·exact .inr ⟨k,c,e,cellK x c e _ z⟩
 ·obtain ⟨v,z⟩:=I.cell x c e
  exact ⟨v,cellK x c e v z⟩
 ·obtain ⟨m,⟨o,_,_,ho,_⟩,_⟩:=I.loc
  exact free _ o (fun z=>(hch _ z).2.1 rfl) ho I.free
 ·obtain ⟨v,o,ho,hd⟩:=I.cell x c e
  exact free c o (fun z=>(hch c z).2.2.1 x c e rfl) ho (I.freeC x c e)
 ·obtain ⟨e,n,ne,nf,d⟩:=I.pin p hp
  have nch:p.1 ∉ ch:=fun z=>(hch p.1 z).2.2.2 p hp rfl
  exact ⟨keep p.1 p.2 ne nf nch e n,free p.1 p.2 nch e n,ne,nf,d⟩
theorem Inv.un {t':Nat} (I:Inv X pins σ H s) (u:Un X.fs [] H H' s.heap h') (hok:HOk X.prog X.w H' h'):Inv X pins σ H' { s with heap:=h',toks:=t' }:=by
 obtain ⟨m,⟨o,es,ep,ho,r⟩,_⟩:=id I.loc
 obtain ⟨sl,hL⟩:=u.any ho I.free (by simp)
 exact I.step (g':=s.gens) (d':=s.drawn) (ch:=[]) (fun _ z=>nomatch z) (fun b o _ hb _ e n=>u.keep b o e n hb (by simp)) (fun b o _ hb _ e n=>u.slot b o e n hb (by simp)) (fun b o _ e n=>u.free b o e n (by simp)) (fun b o _ e=>u.there b o e (by simp)) u.tups u.frzs u.tbls (fun m' hm=>by
  obtain ⟨o',es',ep',ho',r'⟩:=hm
  rw [ho] at ho'; cases ho'
  exact ⟨_,es',ep',hL,r'⟩) hok I.bare
theorem Inv.call {g' : Array GenState} {t' : Nat} {d' : Drawn} {ch : List Addr} (I : Inv X pins σ H s) (u : Un (frs X.stack) ch H H' s.heap h') (hok : HOk X.prog X.w H' h') (hg : AllBare g')
  (hch:∀ b∈ch,(b∈X.ex∨X.s₀.heap.objs.size≤b)∧b≠X.env.locals∧(∀ x c,X.env.cells.lookup x=some c->c≠b)∧∀ p∈X.pn++pins,p.1≠b) :
  Inv X pins σ H' { s with heap:=h',gens:=g',drawn:=d',toks:=t' }:=by
 obtain ⟨m,⟨o,es,ep,ho,r⟩,_⟩:=id I.loc
 obtain ⟨sl,hL⟩:=u.any ho I.free fun z=>(hch _ z).2.1 rfl
 exact I.step (ch:=ch) hch (fun b o hL hb hc e n=>u.keep b o e n (fun z=>(List.mem_cons.mp (I.stkSub b z)).elim hL hb) hc) (fun b o _ _ hc e n=>u.any e n hc) (fun b o hc e n=>u.free b o e n hc) (fun b o hc e=>u.there b o e hc) u.tups u.frzs u.tbls (fun m' hm=>by
  obtain ⟨o',es',ep',ho',r'⟩:=hm
  rw [ho] at ho'; cases ho'
  exact ⟨_,es',ep',hL,r'⟩) hok hg
theorem Inv.turned {t' : Nat} {it : Addr} (I : Inv X pins σ H s) (k : ∀ b o, b ≠ it → s.heap.get? b=some o → h'.get? b=some o) (hn : H it=none) (hL : it ≠ X.env.locals)
  (h1:it∈X.ex∨X.s₀.heap.objs.size≤it) (h2:∀ x c,X.env.cells.lookup x=some c->c≠it) (h3:∀ p∈X.pn++pins,p.1≠it):Inv X pins σ H { s with heap:=h',toks:=t' }:=by
 have nit:∀ b u,H b=some u->b≠it:=fun b u e z=>by rw [z,hn] at e; cases e
 refine I.step (g':=s.gens) (d':=s.drawn) (ch:=[it]) (fun b hb=>?_) (fun b o _ _ hc e _=>k b o (fun z=>hc (by simp [z])) e) (fun b o _ _ hc e _=>⟨o.slots,k b o (fun z=>hc (by simp [z])) e⟩) (fun _ _ _ _ n=>n)
  (fun b o hc e=>⟨o,k b o (fun z=>hc (by simp [z])) e⟩) (fun _ _ e=>e) (fun _ _ _ e=>e) (fun b ps e=>⟨#[],by rw [e]; simp⟩) (fun m hm=>?_) (fun b u e=>?_) I.bare
 ·have e:b=it:=by simpa using hb
  subst e
  exact ⟨h1,hL,h2,h3⟩
 ·obtain ⟨o,es,ep,ho,r⟩:=hm
  exact ⟨o,es,ep,k _ o (Ne.symm hL) ho,r⟩
 ·refine (I.hok b u e).stay (fun c v hc q=>k c v ?_ q) (fun _ q=>q) fun _ _ q=>q
  rcases hc with z | z
  ·rw [z]; exact nit b u e
  ·exact nit c _ z
theorem Inv.tok (I:Inv X pins σ H s) (t:Nat):Inv X pins σ H { s with toks:=t }:=I.un (h':=s.heap) (t':=t) Un.refl I.hok
theorem Inv.kept {t':Nat} (I:Inv X pins σ H s) (k:∀ b u,s.heap.get? b=some u->h'.get? b=some u):Inv X pins σ H { s with heap:=h',toks:=t' }:=I.un (Un.kept k) (I.hok.kept k)
theorem Inv.laid {a : Addr} {o : HO} {t' : Nat} (I : Inv X pins σ H s) (k : ∀ b u, s.heap.get? b=some u → h'.get? b=some u) (hp : s.heap.objs.size ≤ a) (new : ObjOk X.prog X.w (upd H a o) h' a o) :
  Inv X pins σ (upd H a o) { s with heap:=h',toks:=t' }:=I.un (Un.laid k hp (I.hok.fresh hp)) (I.hok.laid k hp new)
theorem Inv.write {x e : Addr} {o : HO} {t' : Nat} (I : Inv X pins σ H s) (mu : Mut (H x)) (he : e=x ∨ H e=some (.own x)) (k : ∀ b u, b ≠ e → s.heap.get? b=some u → h'.get? b=some u) (heo : ∃ u, h'.get? e=some u)
  (new:ObjOk X.prog X.w (upd H x o) h' x o):Inv X pins σ (upd H x o) { s with heap:=h',toks:=t' }:=I.un (Un.write mu he k heo) (I.hok.write mu he k heo new)
theorem Inv.pins_of {pins':List (Addr × Obj)} (I:Inv X pins σ H s) (h:∀ p∈pins',s.heap.get? p.1=some p.2∧H p.1=none∧p.1≠X.env.locals∧p.1 ∉ X.fs∧∀ v,p.2.data≠.cell v):Inv X pins' σ H s :=
 ⟨I.ok,I.os,I.bare,I.base,I.loc,I.cell,I.free,I.freeC,fun p hp=>(List.mem_append.mp hp).elim (fun z=>I.pin p (List.mem_append_left _ z)) (h p),I.hok,I.len⟩
theorem ZlM {N:List Str} (hN:N.Nodup) {i j:Nat} {x:Str} (a:N[i]?=some x) (b:N[j]?=some x):i=j:=by
 obtain ⟨h1,e1⟩:=List.getElem?_eq_some_iff.mp a
 obtain ⟨h2,e2⟩:=List.getElem?_eq_some_iff.mp b
 exact (List.getElem_inj hN).mp (e1.trans e2.symm)
theorem ZjH {M : Model} {A : Around} {E : Value → Shared → Prop} {i : Nat} {x : Str} {v : V} {u : Value} {Q : Unit → Shared → Prop} (I : Inv X pins σ H s) (hN : X.N.Nodup) (hi : X.N[i]?=some x) (hx : Loc X.env.scope x) (r : RelV v u)
  (h:∀ s',Inv X pins (σ.set i (some v)) H s'->(∃ a,Heap.SameBut a s.heap s'.heap∧(a=X.env.locals∨X.env.cells.lookup x=some a))->Q () s') (hf:X.fn x=true∨X.env.scope.names.lookup x=some .local:=by first | exact .inl rfl | exact .inr rfl | assumption):wpAny M A (storeName X.env x u) Q E s:=by
 obtain ⟨m,hn,hl⟩:=id I.loc
 have hcls:(X.env.scope.kind == .class||(X.env.scope.kind == .module&&X.env.locals != X.env.globals))=false:=by rw [I.ok.kind]; rfl
 have hiσ:i<σ.length:=by rw [I.len]; exact (List.getElem?_eq_some_iff.mp hi).1
 have cne:=I.cne
 have tracked:∀ {a:Addr} {h':Heap},(∃ o,s.heap.get? a=some o∧H a=none)->Heap.SameBut a s.heap h'->HOk X.prog X.w H h':=fun {a h'} ha hs b ob e=>by
  obtain ⟨_,_,hfree⟩:=ha
  refine (I.hok b ob e).stay (fun c w' hc q=>(hs.2 c ?_).trans q) (fun _ q=>q) fun _ _ q=>q
  rintro rfl
  rcases hc with rfl | hc
  ·rw [hfree] at e; cases e
  ·rw [hfree] at hc; cases hc
 rcases hx with hk | hk
 ·refine wpAny_storeName_local hk hn (fun h' hn' hs=>?_) hcls
  obtain ⟨oL,_,_,hoL,_⟩:=id hn
  refine h _ ⟨I.ok,I.os,I.bare,⟨fun b o e n hb hx=>?_,fun b o e n hb hx=>?_,I.base.free,fun b o e hx=>?_,I.base.tups,I.base.frzs,I.base.tbls⟩,⟨_,hn',fun j y v' e1 e2 e3=>?_⟩,fun y c e=>?_,I.free,I.freeC,fun p hp=>?_,tracked ⟨oL,hoL,I.free⟩ hs,by simpa using I.len⟩ ⟨_,hs,.inl rfl⟩
  ·exact (hs.2 b (Nat.ne_of_lt (Nat.lt_of_lt_of_le (Heap.lt_size e) I.ok.above))).trans (I.base.keep b o e n hb hx)
  ·obtain ⟨sl,e1⟩:=I.base.slot b o e n hb hx
   exact ⟨sl,(hs.2 b (Nat.ne_of_lt (Nat.lt_of_lt_of_le (Heap.lt_size e) I.ok.above))).trans e1⟩
  ·obtain ⟨o',e1⟩:=I.base.there b o e hx
   exact ⟨o',(hs.2 b (Nat.ne_of_lt (Nat.lt_of_lt_of_le (Heap.lt_size e) I.ok.above))).trans e1⟩
  ·by_cases hj:j=i
   ·subst hj
    rw [hi] at e1; cases e1
    rw [List.getElem?_set_self hiσ] at e2
    cases e2
    exact ⟨u,r,.inl ⟨hk,by simp⟩⟩
   ·rw [List.getElem?_set_ne (Ne.symm hj)] at e2
    obtain ⟨u',r',q⟩:=hl j y v' e1 e2 e3
    refine ⟨u',r',?_⟩
    rcases q with ⟨k,e⟩ | ⟨k,c,e,z⟩
    ·refine .inl ⟨k,?_⟩
     have:y≠x:=fun e=>hj (ZlM hN e1 (e ▸ hi))
     simp [this,e]
    ·exact .inr ⟨k,c,e,z.sameBut hs (cne y c e)⟩
  ·obtain ⟨w',z⟩:=I.cell y c e
   exact ⟨w',z.sameBut hs (cne y c e)⟩
  ·obtain ⟨e,n,ne,nf,d⟩:=I.pin p hp
   exact ⟨(hs.2 p.1 ne).trans e,n,ne,nf,d⟩
 ·have hfn:X.fn x=true:=by
   rcases hf with z | z
   ·exact z
   ·rw [z] at hk; cases hk
  obtain ⟨c,hc⟩:=I.ok.has x (.inl hk)
  obtain ⟨w',z⟩:=I.cell x c hc
  refine wpAny_storeName_cell I.ok.kind hk hc z (fun h' hc' hs=>?_)
  obtain ⟨oc,hoc,hocd⟩:=id z
  refine h { s with heap:=h' } ⟨I.ok,I.os,I.bare,⟨fun b o e n hb hx=>?_,fun b o e n hb hx=>?_,I.base.free,fun b o e hx=>?_,I.base.tups,I.base.frzs,I.base.tbls⟩,⟨m,hn.sameBut hs (Ne.symm (cne x c hc)),fun j y v' e1 e2 e3=>?_⟩,fun y c' e=>?_,I.free,I.freeC,fun p hp=>?_,tracked ⟨oc,hoc,I.freeC x c hc⟩ hs,by simpa using I.len⟩ ⟨c,hs,.inr hc⟩
  ·exact (hs.2 b (Nat.ne_of_lt (Nat.lt_of_lt_of_le (Heap.lt_size e) (I.ok.cab x c hfn hc)))).trans (I.base.keep b o e n hb hx)
  ·obtain ⟨sl,e1⟩:=I.base.slot b o e n hb hx
   exact ⟨sl,(hs.2 b (Nat.ne_of_lt (Nat.lt_of_lt_of_le (Heap.lt_size e) (I.ok.cab x c hfn hc)))).trans e1⟩
  ·obtain ⟨o',e1⟩:=I.base.there b o e hx
   exact ⟨o',(hs.2 b (Nat.ne_of_lt (Nat.lt_of_lt_of_le (Heap.lt_size e) (I.ok.cab x c hfn hc)))).trans e1⟩
  ·by_cases hj:j=i
   ·subst hj
    rw [hi] at e1; cases e1
    rw [List.getElem?_set_self hiσ] at e2
    cases e2
    exact ⟨u,r,.inr ⟨.inl hk,c,hc,hc'⟩⟩
   ·rw [List.getElem?_set_ne (Ne.symm hj)] at e2
    obtain ⟨u',r',q⟩:=hl j y v' e1 e2 e3
    refine ⟨u',r',?_⟩
    rcases q with q | ⟨k,c',e,z'⟩
    ·exact .inl q
    ·refine .inr ⟨k,c',e,z'.sameBut hs ?_⟩
     rintro rfl
     exact hj (ZlM hN e1 (I.ok.inj _ _ _ e hc ▸ hi))
  ·by_cases hcc:c'=c
   ·subst hcc; exact ⟨_,hc'⟩
   ·obtain ⟨w2,z2⟩:=I.cell y c' e
    exact ⟨w2,z2.sameBut hs hcc⟩
  ·obtain ⟨e,n,ne,nf,d⟩:=I.pin p hp
   refine ⟨(hs.2 p.1 ?_).trans e,n,ne,nf,d⟩
   intro q
   rw [q,hoc] at e
   have q':oc=p.2:=Option.some.inj e
   exact d w' (by rw [← q']; exact hocd)
theorem ZlJ {M : Model} {A : Around} {E : Value → Shared → Prop} {i : Nat} {x : Str} {v : V} {u : Value} {Q : Unit → Shared → Prop} (I : Inv X pins σ H s) (hN : X.N.Nodup) (hi : X.N[i]?=some x) (hx : Loc X.env.scope x) (r : RelV v u)
  (h:∀ s',Inv X pins (σ.set i (some v)) H s'->Q () s') (hf:X.fn x=true∨X.env.scope.names.lookup x=some .local:=by first | exact .inl rfl | exact .inr rfl | assumption):wpAny M A (storeName X.env x u) Q E s :=
 ZjH I hN hi hx r (fun s' I' _=>h s' I') hf
theorem Inv.call' {s' : Shared} {ch : List Addr} (I : Inv X pins σ H s) (ho : s'.os=s.os) (u : Un (frs X.stack) ch H H' s.heap s'.heap) (hok : HOk X.prog X.w H' s'.heap) (hg : AllBare s'.gens)
  (hch:∀ b∈ch,(b∈X.ex∨X.s₀.heap.objs.size≤b)∧b≠X.env.locals∧(∀ x c,X.env.cells.lookup x=some c->c≠b)∧∀ p∈X.pn++pins,p.1≠b):Inv X pins σ H' s':=by
 obtain ⟨h',g',d',t',o'⟩:=s'
 have e:o'=s.os:=ho
 subst e
 exact I.call (g':=g') (t':=t') (d':=d') u hok hg hch
end
abbrev XK:=Value->Option Addr->Hp->Prop
abbrev St:=List (Option V)
abbrev VK:=V->Hp->Prop
abbrev TE:=St->Hp->VK->Prop
abbrev TT:=St->Hp->(Bool->Hp->Prop)->Prop
abbrev TA:=St->Hp->(List V->Hp->Prop)->Prop
structure Ends where
 nx:St->Hp->Prop
 rt:VK
 bk:St->Hp->Prop:=fun _ _=>False
 ct:St->Hp->Prop:=fun _ _=>False
abbrev TS:=Ends->St->Hp->Prop
def EP (X:Cx) (pins:List (Addr × Obj)) (σ:St) (Q:VK) (u:Value) (s':Shared):Prop:=∃ v H',Inv X pins σ H' s'∧RelV v u∧Q v H'
def TP (X:Cx) (pins:List (Addr × Obj)) (σ:St) (Q:Bool->Hp->Prop) (b:Bool) (s':Shared):Prop:=∃ H',Inv X pins σ H' s'∧Q b H'
def AP (X:Cx) (pins:List (Addr × Obj)) (σ:St) (Q:List V->Hp->Prop) (us:List Value) (s':Shared):Prop:=∃ vs H',Inv X pins σ H' s'∧Vals vs us∧Q vs H'
def SP (X:Cx) (pins:List (Addr × Obj)) (D:Ends) (f:Flow) (s':Shared):Prop :=
 match f with
 | .next=>∃ σ' H',Inv X pins σ' H' s'∧D.nx σ' H'
 | .brk=>∃ σ' H',Inv X pins σ' H' s'∧D.bk σ' H'
 | .cont=>∃ σ' H',Inv X pins σ' H' s'∧D.ct σ' H'
 | .ret u=>∃ v σ' H',Inv X pins σ' H' s'∧RelV v u∧D.rt v H'
def PE (X:Cx) (e:Expr) (t:TE):Prop :=
 ∀ (pins:List (Addr × Obj)) (s:Shared) (σ:St) (H:Hp) (Q:VK),Inv X pins σ H s->t σ H Q->wpAny (model X.prog X.w) X.A (eval e X.env) (EP X pins σ Q) X.xe s
def PT (X:Cx) (e:Expr) (t:TT):Prop :=
 ∀ (pins:List (Addr × Obj)) (s:Shared) (σ:St) (H:Hp) (Q:Bool->Hp->Prop),Inv X pins σ H s->t σ H Q->wpAny (model X.prog X.w) X.A (isTrue e X.env (eval e X.env)) (TP X pins σ Q) X.xe s
def PW (X:Cx) (e:Expr) (t:TT):Prop :=
 ∀ (whole:Sem Value) (pins:List (Addr × Obj)) (s:Shared) (σ:St) (H:Hp) (Q:Bool->Hp->Prop),Inv X pins σ H s->t σ H Q->wpAny (model X.prog X.w) X.A (isTrue e X.env whole) (TP X pins σ Q) X.xe s
theorem PW.pt {X:Cx} {e:Expr} {t:TT} (h:PW X e t):PT X e t:=h _
def PA (X:Cx) (es:List Expr) (t:TA):Prop :=
 ∀ (pos:Pos) (pins:List (Addr × Obj)) (s:Shared) (σ:St) (H:Hp) (Q:List V->Hp->Prop),Inv X pins σ H s->t σ H Q->wpAny (model X.prog X.w) X.A (spliced (backTo pos (starEach es X.env))) (AP X pins σ Q) X.xe s
def PS (X:Cx) (st:Stmt) (t:TS):Prop :=
 ∀ (pins:List (Addr × Obj)) (s:Shared) (σ:St) (H:Hp) (D:Ends),Inv X pins σ H s->t D σ H->wpAny (model X.prog X.w) X.A (exec st X.env) (SP X pins D) X.xe s
def PSs (X:Cx) (st:List Stmt) (t:TS):Prop :=
 ∀ (pins:List (Addr × Obj)) (s:Shared) (σ:St) (H:Hp) (D:Ends),Inv X pins σ H s->t D σ H->wpAny (model X.prog X.w) X.A (execs st X.env) (SP X pins D) X.xe s
theorem thn {α:Type} {t:Sem α} {Q Q':α->Shared->Prop} {M:Model} {A:Around} {E:Value->Shared->Prop} {s:Shared} (h:wpAny M A t Q E s) (hQ:∀ a s,Q a s->Q' a s):wpAny M A t Q' E s:=wpAny_mono h hQ fun _ _ x=>x
section
variable {X:Cx}
def Zri (i:Nat):TE:=fun σ H Q=>∃ v,σ[i]?=some (some v)∧Q v H
def tC (v:V):TE:=fun _ H Q=>Q v H
theorem ZpM {i:Nat} {x:Str} {pos:Pos} (hN:X.N[i]?=some x) (hv:Vis X.env.scope x) (hd:(x == ("__debug__" : Str))=false:=by decide) (hcd:(x == ("__classdict__" : Str))=false:=by decide):PE X (.Name x pos) (Zri i):=by
 intro pins s σ H Q I h
 obtain ⟨v,e,h⟩:=h
 obtain ⟨m,hn,hl⟩:=I.loc
 obtain ⟨u,r,l⟩:=hl i x v hN e hv
 have fin:EP X pins σ Q u s:=⟨v,H,I,r,h⟩
 rcases l with ⟨hk,hm⟩ | ⟨hk,c,hc,hcell⟩
 ·exact wpAny_Name (wpAny_loadName_local I.ok.kind hk hn hm fin) hd
 ·rcases hk with hk | hk
  ·exact wpAny_Name (wpAny_loadName_cell I.ok.kind hk hc hcell fin) hd
  ·exact wpAny_Name (wpAny_loadName_free I.ok.kind hk hc hcell fin hcd) hd
theorem Zac {i j pos}:PE X (.Constant (.int i) j pos) (tC (.int i)):=fun _ _ _ H _ I h=>wpAny_Constant_int ⟨.int i,H,I.tok _,⟨_,rfl⟩,h⟩
theorem Zep {b j pos}:PE X (.Constant (.bool b) j pos) (tC (.bl b)):=fun _ _ _ H _ I h=>Constant_bool ⟨.bl b,H,I,rfl,h⟩
theorem ZfN {j pos}:PE X (.Constant .none j pos) (tC .non):=fun _ _ _ H _ I h=>Constant_none ⟨.non,H,I,rfl,h⟩
theorem Zav {x j pos}:PE X (.Constant (.str x) j pos) (tC (.str x)):=fun _ _ _ H _ I h=>Calls.Constant_str ⟨.str x,H,I.tok _,⟨_,rfl⟩,h⟩
def Gl (X:Cx) (x:Str):Prop:=X.env.kindOf x=some .globalImplicit
theorem Zjb {E : Value → Shared → Prop} {pins : List (Addr × Obj)} {s : Shared} {σ : St} {H : Hp} {x : Str} {u : Value} {pos : Pos} {Q : Value → Shared → Prop} (I : Inv X pins σ H s) (hg : Gl X x) (hm : X.mg x=some u) (h : Q u s)
  (hd:(x == ("__debug__" : Str))=false:=by decide):wpAny (model X.prog X.w) X.A (eval (.Name x pos) X.env) Q E s :=
 Calls.Name_function_global I.ok.kind hg (Calls.loadGlobal_global (by rw [I.ok.glob]; exact I.mod.glob.keeps I.bk) hm h) hd
theorem Zkd {E : Value → Shared → Prop} {pins : List (Addr × Obj)} {s : Shared} {σ : St} {H : Hp} {x : Str} {u : Value} {pos : Pos} {Q : Value → Shared → Prop} (I : Inv X pins σ H s) (hg : Gl X x) (hm : X.mg x=none) (hv : bootBuiltins x=some u) (h : Q u s)
  (hn:x≠"__name__":=by decide) (hd:(x == ("__debug__" : Str))=false:=by decide):wpAny (model X.prog X.w) X.A (eval (.Name x pos) X.env) Q E s:=by
 obtain ⟨mb,h1,h2⟩:=I.mod.blt
 exact Calls.Name_function_global I.ok.kind hg (Calls.loadGlobal_builtin (by rw [I.ok.glob]; exact I.mod.glob.keeps I.bk) hm (by rw [I.ok.blt]; exact h1.keeps I.bk) ((h2 x hn).trans hv) h) hd
theorem ZgU {x:Str} {v:V} {u:Value} {pos:Pos} (hg:Gl X x) (hm:X.mg x=some u) (r:RelV v u) (hd:(x == ("__debug__" : Str))=false:=by decide):PE X (.Name x pos) (tC v) :=
 fun _ _ _ H _ I h=>Zjb I hg hm ⟨v,H,I,r,h⟩ hd
theorem ZcA {x:Str} {v:V} {u:Value} {pos:Pos} (hg:Gl X x) (hm:X.mg x=none) (hv:bootBuiltins x=some u) (r:RelV v u) (hn:x≠"__name__":=by decide) (hd:(x == ("__debug__" : Str))=false:=by decide):PE X (.Name x pos) (tC v) :=
 fun _ _ _ H _ I h=>Zkd I hg hm hv ⟨v,H,I,r,h⟩ hn hd
variable {a b:Expr} {ta tb:TE} {pos:Pos}
def PC (X:Cx) (op:CmpOp) (a b:Expr) (t:TE):Prop :=
 ∀ (pins:List (Addr × Obj)) (s:Shared) (σ:St) (H:Hp) (Q:VK),Inv X pins σ H s->t σ H Q →
  wpAny (model X.prog X.w) X.A (eval a X.env) (fun v s₁=>wpAny (model X.prog X.w) X.A (eval b X.env) (fun u s₂=>wpAny (model X.prog X.w) X.A (compareOp op v u) (EP X pins σ Q) X.xe s₂) X.xe s₁) X.xe s
def tB (t:TE):TT:=fun σ H Q=>t σ H fun x H1=>∃ c,x=.bl c∧Q c H1
theorem ZpO {op:CmpOp} {t:TE} (h:PC X op a b t) (h1:behindInMarks op b=false:=by first | exact nobehind _ (by decide) (by decide) | rfl):PT X (.Compare a [op] [b] pos) (tB t):=by
 intro pins s σ H Q I hw
 refine wpAny_isTrue_Compare1 (thn (h pins s σ H _ I hw) fun v s1 h1=>thn h1 fun u s2 h2=>thn h2 fun c s3 ⟨x,H1,I1,r1,q1⟩=>?_) h1
 obtain ⟨d,rfl,q⟩:=q1
 cases r1
 exact wpAny_truthy_bool ⟨H1,I1,q⟩
theorem ZcD {e:Expr} {t:TE} (h:PE X e t) (he:∀ whole,isTrue e X.env whole=(do let v ← whole; standAt e.pos; holding [v] (truthy v)):=by intro _; rfl):PT X e (tB t):=by
 intro pins s σ H Q I hw
 refine isTrue_plain (thn (h pins s σ H _ I hw) fun v s1 ⟨x,H1,I1,r1,q1⟩=>?_) (he _)
 obtain ⟨d,rfl,q⟩:=q1
 cases r1
 exact wpAny_truthy_bool ⟨H1,I1,q⟩
variable {tA tB':TT} {rest:List Expr}
def ZsP (t u:TT):TT:=fun σ H Q=>t σ H fun c H1=>if c=true then u σ H1 Q else Q false H1
def tOr (t u:TT):TT:=fun σ H Q=>t σ H fun c H1=>if c=true then Q true H1 else u σ H1 Q
def Zs5 (t:TT):TT:=fun σ H Q=>t σ H fun c H1=>Q (!c) H1
theorem Zdv (ha:PT X a tA):PW X (.BoolOp .And [a] pos) tA:=by
 intro wh pins s σ H Q I h
 refine isTrue_and (thn (ha pins s σ H Q I h) fun c s1 e=>?_)
 cases c with
 | true=>exact isTrue_and_nil e
 | false=>exact e
theorem ZhT (ha:PT X a tA):PW X (.BoolOp .Or [a] pos) tA:=by
 intro wh pins s σ H Q I h
 refine isTrue_or (thn (ha pins s σ H Q I h) fun c s1 e=>?_)
 cases c with
 | false=>exact isTrue_or_nil e
 | true=>exact e
theorem ZdG (ha:PT X a tA) (hb:PW X (.BoolOp .And (b :: rest) pos) tB'):PW X (.BoolOp .And (a :: b :: rest) pos) (ZsP tA tB'):=by
 intro wh pins s σ H Q I h
 refine isTrue_and (thn (ha pins s σ H _ I h) fun c s1 ⟨H1,I1,q1⟩=>?_)
 cases c with
 | true=>exact hb wh pins s1 σ H1 Q I1 q1
 | false=>exact ⟨H1,I1,q1⟩
theorem Zjk (ha:PT X a tA) (hb:PW X (.BoolOp .Or (b :: rest) pos) tB'):PW X (.BoolOp .Or (a :: b :: rest) pos) (tOr tA tB'):=by
 intro wh pins s σ H Q I h
 refine isTrue_or (thn (ha pins s σ H _ I h) fun c s1 ⟨H1,I1,q1⟩=>?_)
 cases c with
 | true=>exact ⟨H1,I1,q1⟩
 | false=>exact hb wh pins s1 σ H1 Q I1 q1
theorem Zdf (ha:PT X a tA):PT X (.UnaryOp .Not a pos) (Zs5 tA):=by
 intro pins s σ H Q I h
 exact isTrue_not (ha pins s σ H (fun c H1=>Q (!c) H1) I h)
def ZrW (ta tb:TE):TE:=fun σ H Q=>ta σ H fun x H1=>∃ c,x=.bl c∧if c=true then tb σ H1 Q else Q (.bl false) H1
def Zs6 (ta tb:TE):TE:=fun σ H Q=>ta σ H fun x H1=>∃ c,x=.bl c∧if c=true then Q (.bl true) H1 else tb σ H1 Q
def Zr3 (ta:TE):TE:=fun σ H Q=>ta σ H fun x H1=>∃ c,x=.bl c∧Q (.bl (!c)) H1
theorem ZcE {op} {t:TE} (h:PE X a t):PE X (.BoolOp op [a] pos) t:=fun pins s σ H Q I hw=>BoolOp_one (h pins s σ H Q I hw)
theorem ZcL (ha:PE X a ta) (hb:PE X (.BoolOp .And (b :: rest) pos) tb):PE X (.BoolOp .And (a :: b :: rest) pos) (ZrW ta tb):=by
 intro pins s σ H Q I h
 refine BoolOp_and (thn (ha pins s σ H _ I h) fun v s1 ⟨x,H1,I1,r1,q1⟩=>?_)
 obtain ⟨c,rfl,q1⟩:=q1
 cases r1
 refine wpAny_truthy_bool ?_
 cases c with
 | true=>exact hb pins s1 σ H1 Q I1 q1
 | false=>exact ⟨.bl false,H1,I1,rfl,q1⟩
theorem Zq1 (ha:PE X a ta) (hb:PE X (.BoolOp .Or (b :: rest) pos) tb):PE X (.BoolOp .Or (a :: b :: rest) pos) (Zs6 ta tb):=by
 intro pins s σ H Q I h
 refine BoolOp_or (thn (ha pins s σ H _ I h) fun v s1 ⟨x,H1,I1,r1,q1⟩=>?_)
 obtain ⟨c,rfl,q1⟩:=q1
 cases r1
 refine wpAny_truthy_bool ?_
 cases c with
 | false=>exact hb pins s1 σ H1 Q I1 q1
 | true=>exact ⟨.bl true,H1,I1,rfl,q1⟩
theorem ZpG (ha:PE X a ta):PE X (.UnaryOp .Not a pos) (Zr3 ta):=by
 intro pins s σ H Q I h
 refine UnaryOp_ (thn (ha pins s σ H _ I h) fun v s1 ⟨x,H1,I1,r1,q1⟩=>?_)
 obtain ⟨c,rfl,q1⟩:=q1
 cases r1
 exact not_of (wpAny_truthy_bool ⟨.bl (!c),H1,I1,rfl,q1⟩)
def tIf (t:TT) (ta tb:TE):TE:=fun σ H Q=>t σ H fun c H1=>if c=true then ta σ H1 Q else tb σ H1 Q
theorem Zpo {c:Expr} (hc:PT X c tA) (ha:PE X a ta) (hb:PE X b tb):PE X (.IfExp c a b pos) (tIf tA ta tb):=by
 intro pins s σ H Q I h
 refine wpAny_IfExp (thn (hc pins s σ H _ I h) fun d s1 ⟨H1,I1,q1⟩=>?_)
 cases d with
 | true=>exact ha pins s1 σ H1 Q I1 q1
 | false=>exact hb pins s1 σ H1 Q I1 q1
end
def SqL (K:W.Frag) (H:Hp) (a:Addr) (xs:List V):Prop :=
 Rd H a (.lst xs) ∨
  ∃ (o:Obj) (its:Array Value) (n:Nat),K.lookup a=some o∧o.cls=.type "list"∧o.dict=none∧o.data=.seq its n∧its.size≤sizeLine∧Vals xs its.toList
def SqT (K:W.Frag) (H:Hp) (a:Addr) (xs:List V):Prop :=
 Rd H a (.tup xs) ∨
  ∃ (o:Obj) (its:Array Value) (n:Nat),K.lookup a=some o∧o.cls=.type "tuple"∧o.data=.seq its n∧its.size≤sizeLine∧Vals xs its.toList
noncomputable def ZsU:Value->Option V
 | .none=>some .non
 | .bool b=>some (.bl b)
 | .int i _=>some (.int i)
 | .str x _=>some (.str x)
 | .bytes b _=>some (.byt b)
 | .float b _=>some (.flt b)
 | .ref a=>some (.ref a)
 | .type n=>some (.ty n)
 | _=>none
theorem RelV.abs {x:V} {u:Value} (r:RelV x u):ZsU u=some x:=by
 cases x with
 | non=>cases r; rfl
 | bl _=>cases r; rfl
 | int _=>obtain ⟨t,rfl⟩:=r; rfl
 | str _=>obtain ⟨t,rfl⟩:=r; rfl
 | byt _=>obtain ⟨t,rfl⟩:=r; rfl
 | flt _=>obtain ⟨t,rfl⟩:=r; rfl
 | ref _=>cases r; rfl
 | ty _=>cases r; rfl
theorem RelV.inj {x y:V} {u:Value} (r:RelV x u) (q:RelV y u):x=y:=Option.some.inj (r.abs.symm.trans q.abs)
theorem Vals.inj:∀ {xs ys:List V} {us:List Value},Vals xs us->Vals ys us->xs=ys
 | _,_,_,.nil,.nil=>rfl
 | _,_,_,.cons r t,.cons r' t'=>by rw [r.inj r',Vals.inj t t']
section
variable {X:Cx} {pins:List (Addr × Obj)} {σ:St} {H:Hp} {s:Shared} {a:Addr} {xs ys:List V}
theorem SqL.of {K:W.Frag} (h:H a=some (.lst xs)):SqL K H a xs:=.inl (.inl h)
theorem SqT.of {K:W.Frag} (h:H a=some (.tup xs)):SqT K H a xs:=.inl (.inl h)
theorem Inv.list (I:Inv X pins σ H s) (h:SqL X.K H a xs):∃ its:List Value,Vals xs its∧PlainL s.heap a its.toArray∧xs.length≤sizeLine:=by
 rcases h with h | ⟨o,its,n,hk,hc,hd,hs,hz,r⟩
 ·obtain ⟨z,its,n,r,e⟩:=h.ok I.hok
  exact ⟨its,r,⟨_,n,e,rfl,rfl,rfl⟩,z⟩
 ·refine ⟨its.toList,r,⟨o,n,I.kIn a o hk,hc,hd,by simpa using hs⟩,?_⟩
  have e:=r.length
  simp only [Array.length_toList] at e
  omega
theorem Inv.tuple (I:Inv X pins σ H s) (h:SqT X.K H a xs):∃ its:List Value,Vals xs its∧IsTup s.heap a its.toArray∧xs.length≤sizeLine:=by
 rcases h with h | ⟨o,its,n,hk,hc,hs,hz,r⟩
 ·obtain ⟨z,its,r,p⟩:=h.ok I.hok
  exact ⟨its,r,p,z⟩
 ·refine ⟨its.toList,r,⟨o,I.kIn a o hk,hc,n,by simpa using hs⟩,?_⟩
  have e:=r.length
  simp only [Array.length_toList] at e
  omega
theorem Inv.list_inj (I:Inv X pins σ H s) (h:SqL X.K H a xs) (h':SqL X.K H a ys):xs=ys:=by
 obtain ⟨its,r,⟨o,n,e,_,_,d⟩,_⟩:=I.list h
 obtain ⟨its',r',⟨o',n',e',_,_,d'⟩,_⟩:=I.list h'
 rw [e] at e'; cases e'
 rw [d] at d'
 injection d' with d1 _
 have:its=its':=by simpa using congrArg Array.toList d1
 subst this
 exact r.inj r'
theorem Inv.tuple_inj (I:Inv X pins σ H s) (h:SqT X.K H a xs) (h':SqT X.K H a ys):xs=ys:=by
 obtain ⟨its,r,⟨o,e,_,n,d⟩,_⟩:=I.tuple h
 obtain ⟨its',r',⟨o',e',_,n',d'⟩,_⟩:=I.tuple h'
 rw [e] at e'; cases e'
 rw [d] at d'
 injection d' with d1 _
 have:its=its':=by simpa using congrArg Array.toList d1
 subst this
 exact r.inj r'
end
section
variable {X:Cx} {pins:List (Addr × Obj)} {σ:St} {H:Hp} {s:Shared} {E:Value->Shared->Prop}
end
section
variable {X:Cx} {st:Stmt} {rest:List Stmt} {t u:TS} {e:Expr} {te:TE} {pos:Pos}
def Zrs:TS:=fun D σ H=>D.nx σ H
def ZsJ (t u:TS):TS:=fun D σ H=>t { D with nx:=u D } σ H
theorem Zay:PSs X [] Zrs:=fun _ _ σ H _ I h=>wpAny_execs_nil ⟨σ,H,I,h⟩
theorem Zaf (h1:PS X st t) (h2:PSs X rest u):PSs X (st :: rest) (ZsJ t u):=by
 intro pins s σ H D I h
 refine wpAny_execs_cons (thn (h1 pins s σ H { D with nx:=u D } I h) fun f s1 q=>?_)
 cases f with
 | next =>
  obtain ⟨σ',H',I',q⟩:=q
  exact h2 pins s1 σ' H' D I' q
 | ret v=>exact q
 | brk=>exact q
 | cont=>exact q
theorem Zaj (h1:PS X st t):PSs X [st] t:=by
 intro pins s σ H D I h
 refine wpAny_execs_cons (thn (h1 pins s σ H D I h) fun f s1 q=>?_)
 cases f with
 | next=>exact wpAny_execs_nil q
 | ret v=>exact q
 | brk=>exact q
 | cont=>exact q
theorem Inv.quiet {pins:List (Addr × Obj)} {σ:St} {H:Hp} {s:Shared} (I:Inv X pins σ H s):interactive X.env=false:=by simp [interactive,I.ok.kind]
def ZrY (te:TE):TS:=fun D σ H=>te σ H fun _ H1=>D.nx σ H1
theorem Za3 (he:PE X e te) (hs:swapsWith e none pos.line X.env=pure false:=by rfl):PS X (.Expr e pos) (ZrY te):=by
 intro pins s σ H D I h
 exact wpAny_Expr_any (thn (he pins s σ H _ I h) fun v s1 ⟨x,H1,I1,r1,q1⟩=>⟨σ,H1,I1,q1⟩) I.quiet hs
def ZsN (te:TE):TS:=fun D σ H=>te σ H D.rt
theorem Zax (he:PE X e te):PS X (.Return (some e) pos) (ZsN te):=by
 intro pins s σ H D I h
 exact wpAny_Return_some (thn (he pins s σ H _ I h) fun v s1 ⟨x,H1,I1,r1,q1⟩=>⟨x,σ,H1,I1,r1,q1⟩)
def ZsZ (c:TT) (t u:TS):TS:=fun D σ H=>c σ H fun b H1=>if b=true then t D σ H1 else u D σ H1
theorem Za9 {c:Expr} {a b:List Stmt} {tc:TT} (hc:PT X c tc) (ha:PSs X a t) (hb:PSs X b u):PS X (.If c a b pos) (ZsZ tc t u):=by
 intro pins s σ H D I h
 refine wpAny_If (thn (hc pins s σ H _ I h) fun d s1 ⟨H1,I1,q1⟩=>?_)
 cases d with
 | true=>exact ha pins s1 σ H1 D I1 q1
 | false=>exact hb pins s1 σ H1 D I1 q1
end
abbrev TG:=V->St->Hp->(St->Hp->Prop)->Prop
abbrev TGs:=List V->St->Hp->(St->Hp->Prop)->Prop
def PG (X:Cx) (target:Expr) (t:TG):Prop :=
 ∀ (pins:List (Addr × Obj)) (s:Shared) (σ:St) (H:Hp) (v:V) (u:Value) (Q:St->Hp->Prop),Inv X pins σ H s->RelV v u->t v σ H Q →
  wpAny (model X.prog X.w) X.A (assign target X.env u) (fun _ s'=>∃ σ' H',Inv X pins σ' H' s'∧Q σ' H') X.xe s
def PGs (X:Cx) (ts:List Expr) (t:TGs):Prop :=
 ∀ (pins:List (Addr × Obj)) (s:Shared) (σ:St) (H:Hp) (vs:List V) (us:List Value) (Q:St->Hp->Prop),Inv X pins σ H s->Vals vs us->t vs σ H Q →
  wpAny (model X.prog X.w) X.A (assignInOrder ((assignEach ts X.env).map (·.2)) us) (fun _ s'=>∃ σ' H',Inv X pins σ' H' s'∧Q σ' H') X.xe s
section
variable {X:Cx} {pos:Pos}
def Zkj (i:Nat):TG:=fun v σ H Q=>Q (σ.set i (some v)) H
theorem ZaM {i:Nat} {x:Str} (hN:X.N.Nodup) (hi:X.N[i]?=some x) (hx:Loc X.env.scope x) (hf:X.fn x=true∨X.env.scope.names.lookup x=some .local:=by first | exact .inl rfl | exact .inr rfl | assumption):PG X (.Name x pos) (Zkj i):=by
 intro pins s σ H v u Q I r h
 exact wpAny_assign_Name (ZlJ I hN hi hx r (fun s' I'=>⟨_,H,I',h⟩) hf)
def Zs9:TGs:=fun vs σ H Q=>vs=[]∧Q σ H
def Zsp (t:TG) (u:TGs):TGs:=fun vs σ H Q=>∃ v r,vs=v :: r∧t v σ H fun σ' H'=>u r σ' H' Q
theorem ZfI:PGs X [] Zs9:=by
 intro pins s σ H vs us Q I r h
 obtain ⟨e,h⟩:=h
 subst e
 cases r
 exact assignInOrder_nil ⟨σ,H,I,h⟩
theorem Zb5 {e : Expr} {es : List Expr} {t : TG} {u : TGs} (h1 : PG X e t) (h2 : PGs X es u)
  (hs:(assignEach (e :: es) X.env).map (·.2)=assign e X.env :: (assignEach es X.env).map (·.2):=by rfl):PGs X (e :: es) (Zsp t u):=by
 intro pins s σ H vs us Q I r h
 obtain ⟨v,vr,e1,h⟩:=h
 subst e1
 cases r with
 | cons r rr =>
  rw [hs]
  refine assignInOrder_cons (thn (h1 pins s σ H _ _ _ I r h) fun _ s1 ⟨σ1,H1,I1,q1⟩=>?_)
  exact h2 pins s1 σ1 H1 _ _ Q I1 rr q1
def ZsF (K:W.Frag) (n:Nat) (t:TGs):TG:=fun v σ H Q=>∃ a xs,v=.ref a∧SqT K H a xs∧xs.length=n∧t xs σ H Q
theorem Znv {es : List Expr} {k : Nat} {t : TGs} {n : Nat} (hc : X.calm=true) (h : PGs X es t)
  (hn:(assignEach es X.env).length=n:=by rfl) (hst:(assignEach es X.env).findIdx? (·.1)=none:=by rfl):PG X (.Tuple es k pos) (ZsF X.K n t):=by
 intro pins s σ H v u Q I r hw
 obtain ⟨a,xs,e1,hq,hl,hw⟩:=hw
 subst e1
 cases r
 obtain ⟨its,rv,ht,hz⟩:=I.tuple hq
 refine assign_Tuple_tuple (I.ok.hd hc) ht (by simp [hn,← hl,rv.length]) hst fun h' hx=>?_
 have I1:Inv X pins σ H { s with heap:=h' }:=I.kept (t':=s.toks) fun b o e=>hx b o (Nat.ne_of_lt (Heap.lt_size e)) e
 exact h pins _ σ H xs _ Q I1 (by simpa using rv) hw
def Zsm (te:TE) (g:TG):TS:=fun D σ H=>te σ H fun x H1=>g x σ H1 D.nx
theorem Zny {tg e : Expr} {te : TE} {g : TG} (he : PE X e te) (hg : PG X tg g) (hs : swapsWithSole [tg] e pos.line X.env=pure false := by rfl) (hw : swappedStores [tg] e X.env=pure none := by rfl)
  (h1:(assignEach [tg] X.env).map (·.2)=[assign tg X.env]:=by rfl):PS X (.Assign [tg] e pos) (Zsm te g):=by
 intro pins s σ H D I h
 refine wpAny_Assign_stores (thn (he pins s σ H _ I h) fun v s1 ⟨x,H1,I1,r1,q1⟩=>?_) hs hw
 rw [h1]
 exact thn (hg pins s1 σ H1 x v _ I1 r1 q1) fun _ s2 q=>q
theorem ZaN {i : Nat} {x : Str} {e : Expr} {te : TE} {pos' : Pos} (hN : X.N.Nodup) (hi : X.N[i]?=some x) (hx : Loc X.env.scope x) (he : PE X e te) (hs : swapsWith e (some (.Name x pos')) pos.line X.env=pure false := by rfl) (hf : X.fn x=true ∨ X.env.scope.names.lookup x=some .local := by first | exact .inl rfl | exact .inr rfl | assumption) :
  PS X (.Assign [.Name x pos'] e pos) (Zsm te (Zkj i)):=by
 intro pins s σ H D I h
 refine wpAny_Assign_Name (thn (he pins s σ H _ I h) fun v s1 ⟨y,H1,I1,r1,q1⟩=>?_) hs
 exact ZlJ I1 hN hi hx r1 (fun s2 I2=>⟨_,H1,I2,q1⟩) hf
end
section
variable {X:Cx} {pos:Pos}
end
structure It where
 go:Nat->Hp->Prop
 yld:Nat->Hp->V->Hp->Prop
 stop:Nat->Hp->Prop
def ZmA (X:Cx) (pins:List (Addr × Obj)) (H:Hp) (b:Addr):Prop :=
 H b=none∧b≠X.env.locals∧b ∉ X.fs∧(b∈X.ex∨X.s₀.heap.objs.size≤b)∧(∀ x c,X.env.cells.lookup x=some c->c≠b)∧∀ p∈X.pn++pins,p.1≠b
theorem Inv.fpOk {X:Cx} {pins:List (Addr × Obj)} {σ:St} {H H':Hp} {s:Shared} {b:Addr} (I:Inv X pins σ H s) (hb:s.heap.objs.size≤b) (hn:H' b=none):ZmA X pins H' b:=by
 refine ⟨hn,Nat.ne_of_gt (Nat.lt_of_lt_of_le I.lt hb),I.nofs hb,.inr (Nat.le_trans I.sz hb),fun x c e z=>?_,fun p hp z=>?_⟩
 ·obtain ⟨v,q⟩:=I.cell x c e
  exact absurd (Nat.lt_of_lt_of_le q.lt (by rw [z]; exact hb)) (Nat.lt_irrefl _)
 ·exact absurd (Nat.lt_of_lt_of_le (Heap.lt_size (I.pin p hp).1) (by rw [z]; exact hb)) (Nat.lt_irrefl _)
structure Turn (P:Program) (w:World) (K:W.Frag) (tg:Expr) (J:It) (fp:List Addr) (it:Addr) (tn:Nat->Heap->Prop):Prop where
 mem:it∈fp
 obj:∀ i h,tn i h->∀ b∈fp,∃ o,h.get? b=some o∧∀ v,o.data≠.cell v
 keep:∀ i h h',tn i h->(∀ b∈fp,∀ o,h.get? b=some o->h'.get? b=some o)->tn i h'
 item:∀ (X:Cx),X.prog=P->X.w=w->X.K=K->X.calm=true->∀ (i:Nat) (pins:List (Addr × Obj)) (s:Shared) (σ:St) (H:Hp) (E:Value->Shared->Prop),Inv X pins σ H s->(∀ b∈fp,ZmA X pins H b)->tn i s.heap->J.go i H →
  wpAny (model P w) X.A (pyNext (.ref it)) (fun r s1=>∃ u,r=some u ∧
   wpAny (model P w) X.A (letOwnedTupleGo tg (.ref it) u) (fun _ s2=>∃ x H',Inv X pins σ H' s2∧RelV x u∧J.yld i H x H'∧tn (i+1) s2.heap∧∀ b∈fp,H' b=none) E s1) E s
 done:∀ (X:Cx),X.prog=P->X.w=w->X.K=K->X.calm=true->∀ (i:Nat) (pins:List (Addr × Obj)) (s:Shared) (σ:St) (H:Hp) (E:Value->Shared->Prop),Inv X pins σ H s->(∀ b∈fp,ZmA X pins H b)->tn i s.heap->J.stop i H →
  wpAny (model P w) X.A (pyNext (.ref it)) (fun r s1=>r=none∧Inv X pins σ H s1) E s
 self:∀ (A:Around) (i:Nat) (s:Shared) (Q:Value->Shared->Prop) (E:Value->Shared->Prop),tn i s.heap->Q (.ref it) s->wpAny (model P w) A (pyIter (.ref it)) Q E s
abbrev TI:=St->Hp->(It->Hp->Prop)->Prop
def PIE (X:Cx) (pins:List (Addr × Obj)) (σ:St) (tg:Expr) (R:It->Hp->Prop) (itv:Value) (s2:Shared):Prop :=
 ∃ (it:Addr) (fp:List Addr) (tn:Nat->Heap->Prop) (J:It) (H':Hp),itv=.ref it∧Inv X pins σ H' s2∧Turn X.prog X.w X.K tg J fp it tn∧tn 0 s2.heap∧(∀ b∈fp,ZmA X pins H' b)∧R J H'
def PI (X:Cx) (tg iter:Expr) (wi:TI):Prop :=
 ∀ (pins:List (Addr × Obj)) (s:Shared) (σ:St) (H:Hp) (R:It->Hp->Prop),Inv X pins σ H s->wi σ H R →
  wpAny (model X.prog X.w) X.A (eval iter X.env) (fun v s1=>wpAny (model X.prog X.w) X.A (pyIter v) (PIE X pins σ tg R) X.xe s1) X.xe s
theorem Znb {M : Model} {A : Around} {E : Value → Shared → Prop} {s : Shared} {tg : Expr} {it : Addr} {u : Value} {o : Obj} {n : String} {vs : Array Value} {Q : Unit → Shared → Prop} (ho : s.heap.get? it=some o) (hc : o.cls=.type n) (hd : o.data=.fields vs)
  (hn:["enumerate","zip","dict_itemiterator","dict_reverseitemiterator","odict_iterator","itertools.zip_longest","itertools.pairwise"].contains n=false) (hQ:Q () s):wpAny M A (letOwnedTupleGo tg (.ref it) u) Q E s:=by
 unfold letOwnedTupleGo
 cases tg <;> first
  | exact wpAny_pure hQ
  | (cases u <;> first
    | exact wpAny_pure hQ
    | (refine wpAny_bind (wpAny_load ho ?_)
       rw [hc,hd]
       show wpAny M A (if (["enumerate","zip","dict_itemiterator","dict_reverseitemiterator","odict_iterator","itertools.zip_longest","itertools.pairwise"].contains n&&vs[0]? == some (rawInt _))=true then _ else _) Q E s
       rw [if_neg (by intro h; rw [hn,Bool.false_and] at h; cases h)]
       exact wpAny_pure hQ))
noncomputable def Itl (K:W.Frag) (a:Addr):It :=
 ⟨fun i H=>∃ xs x,SqL K H a xs∧xs[i]?=some x,fun i H x H'=>H'=H∧∀ xs,SqL K H a xs->xs[i]?=some x,fun i H=>∃ xs,SqL K H a xs∧xs.length≤i⟩
noncomputable def Itt (K:W.Frag) (a:Addr):It :=
 ⟨fun i H=>∃ xs x,SqT K H a xs∧xs[i]?=some x,fun i H x H'=>H'=H∧∀ xs,SqT K H a xs->xs[i]?=some x,fun i H=>∃ xs,SqT K H a xs∧xs.length≤i⟩
noncomputable def Itr (lo:Int) (n:Nat):It:=⟨fun i _=>i<n,fun i H x H'=>H'=H∧x=.int (lo+i),fun i _=>n≤i⟩
theorem Zn1 {P:Program} {w:World} {K:W.Frag} {tg:Expr} (a it:Addr):Turn P w K tg (Itl K a) [it] it (fun i h=>h.IsListIter it a i) where
 mem:=by simp
 obj:=fun i h st b hb=>by
  have e:b=it:=by simpa using hb
  subst e
  obtain ⟨o,e,c,d⟩:=st
  exact ⟨o,e,fun v z=>by rw [d] at z; cases z⟩
 keep:=fun i h h' st k=>st.at fun o e=>k it (by simp) o e
 item:=by
  intro X hP hw hK hc i pins s σ H E I hf st hg
  subst hP hw hK
  obtain ⟨xs,x,hq,hx⟩:=hg
  obtain ⟨its,rv,p,hz⟩:=I.list hq
  obtain ⟨u,hu,ru⟩:=rv.get hx
  obtain ⟨f0,f1,f2,f3,f4,f5⟩:=hf it (by simp)
  refine wpAny_pyNext_list_item st p.isList (x:=u) (by simpa using hu) fun h' st' sb=>?_
  have I1:Inv X pins σ H { s with heap:=h' }:=I.turned (t':=s.toks) (fun b o hb e=>(sb.2 b hb).trans e) f0 f1 f3 f4 f5
  obtain ⟨o,e,c,d⟩:=id st'
  exact ⟨u,rfl,Znb (s:={ s with heap:=h' }) e c d (by decide) ⟨x,H,I1,ru,⟨rfl,fun ys hy=>by rw [I.list_inj hy hq]; exact hx⟩,st',fun b hb=>(hf b hb).1⟩⟩
 done:=by
  intro X hP hw hK hc i pins s σ H E I hf st hg
  subst hP hw hK
  obtain ⟨xs,hq,hx⟩:=hg
  obtain ⟨its,rv,p,hz⟩:=I.list hq
  obtain ⟨f0,f1,f2,f3,f4,f5⟩:=hf it (by simp)
  have hl:=rv.length
  exact wpAny_pyNext_list_end (I.ok.hd hc) st p.isList (by simp; omega) fun h' eb=>⟨rfl,I.turned (t':=s.toks) (fun b o hb e=>eb b o hb e) f0 f1 f3 f4 f5⟩
 self:=fun _ _ _ _ _ st h=>wpAny_pyIter_listiter st h
theorem Zmz {P:Program} {w:World} {K:W.Frag} {tg:Expr} (a it:Addr):Turn P w K tg (Itt K a) [it] it (fun i h=>h.IsTupleIter it a i) where
 mem:=by simp
 obj:=fun i h st b hb=>by
  have e:b=it:=by simpa using hb
  subst e
  obtain ⟨o,e,c,d⟩:=st
  exact ⟨o,e,fun v z=>by rw [d] at z; cases z⟩
 keep:=fun i h h' st k=>st.at fun o e=>k it (by simp) o e
 item:=by
  intro X hP hw hK hc i pins s σ H E I hf st hg
  subst hP hw hK
  obtain ⟨xs,x,hq,hx⟩:=hg
  obtain ⟨its,rv,p,hz⟩:=I.tuple hq
  obtain ⟨u,hu,ru⟩:=rv.get hx
  obtain ⟨f0,f1,f2,f3,f4,f5⟩:=hf it (by simp)
  refine wpAny_pyNext_tuple_item st (show s.heap.IsTuple a its.toArray from p) (x:=u) (by simpa using hu) fun h' st' sb=>?_
  have I1:Inv X pins σ H { s with heap:=h' }:=I.turned (t':=s.toks) (fun b o hb e=>(sb.2 b hb).trans e) f0 f1 f3 f4 f5
  obtain ⟨o,e,c,d⟩:=id st'
  exact ⟨u,rfl,Znb (s:={ s with heap:=h' }) e c d (by decide) ⟨x,H,I1,ru,⟨rfl,fun ys hy=>by rw [I.tuple_inj hy hq]; exact hx⟩,st',fun b hb=>(hf b hb).1⟩⟩
 done:=by
  intro X hP hw hK hc i pins s σ H E I hf st hg
  subst hP hw hK
  obtain ⟨xs,hq,hx⟩:=hg
  obtain ⟨its,rv,p,hz⟩:=I.tuple hq
  obtain ⟨f0,f1,f2,f3,f4,f5⟩:=hf it (by simp)
  have hl:=rv.length
  exact wpAny_pyNext_tuple_end (I.ok.hd hc) st (show s.heap.IsTuple a its.toArray from p) (by simp; omega) fun h' eb=>⟨rfl,I.turned (t':=s.toks) (fun b o hb e=>eb b o hb e) f0 f1 f3 f4 f5⟩
 self:=fun _ _ _ _ _ st h=>wpAny_pyIter_tupleiter st h
theorem Zmh {P:Program} {w:World} {K:PySem.W.Frag} {tg:Expr} (it:Addr) (lo:Int) (n:Nat):Turn P w K tg (Itr lo n) [it] it (fun i h=>IsRangeIter h it (lo+(i:Nat)*1) ((n:Int)-(i:Nat)) 1) where
 mem:=by simp
 obj:=fun i h st b hb=>by
  have e:b=it:=by simpa using hb
  subst e
  exact ⟨_,st,fun v z=>by
   have z':Data.fields _=Data.cell v:=z
   cases z'⟩
 keep:=fun i h h' st k=>k it (by simp) _ st
 item:=by
  intro X hP hw hK hc i pins s σ H E I hf st hg
  subst hP hw hK
  obtain ⟨f0,f1,f2,f3,f4,f5⟩:=hf it (by simp)
  have W:=Walks.range (prog:=X.prog) (w:=X.w) (I.ok.hd hc) it lo 1 n
  refine W.item i s _ _ hg st fun v h' tk hv st' kk=>?_
  obtain ⟨t,rfl⟩:=hv
  have I1:Inv X pins σ H { s with heap:=h',toks:=tk }:=I.turned (fun b o hb e=>kk b o (by simpa using hb) e) f0 f1 f3 f4 f5
  refine ⟨_,rfl,Znb (s:={ s with heap:=h',toks:=tk }) (n:="range_iterator") st' rfl rfl (by decide) ⟨.int (lo+i),H,I1,⟨t,?_⟩,⟨rfl,rfl⟩,st',fun b hb=>(hf b hb).1⟩⟩
  rw [Int.mul_one]
 done:=by
  intro X hP hw hK hc i pins s σ H E I hf st hg
  subst hP hw hK
  obtain ⟨f0,f1,f2,f3,f4,f5⟩:=hf it (by simp)
  exact wpAny_pyNext_range_end (I.ok.hd hc) st (by have:n≤i:=hg; omega) fun h' eb=>⟨rfl,I.turned (t':=s.toks) (fun b o hb e=>eb b o hb e) f0 f1 f3 f4 f5⟩
 self:=fun _ _ _ _ _ st h=>wpAny_pyIter_rangeiter st h
section
variable {X:Cx} {tg:Expr}
def Zsg (K:W.Frag) (tl:TE):TI:=fun σ H R=>tl σ H fun x H1=>∃ a,x=.ref a∧(∃ xs,SqL K H1 a xs)∧R (Itl K a) H1
def ZsR (K:W.Frag) (tl:TE):TI:=fun σ H R=>tl σ H fun x H1=>∃ a,x=.ref a∧(∃ xs,SqT K H1 a xs)∧R (Itt K a) H1
theorem ZcS {l:Expr} {tl:TE} (hl:PE X l tl):PI X tg l (Zsg X.K tl):=by
 intro pins s σ H R I h
 refine thn (hl pins s σ H _ I h) fun v s1 ⟨x,H1,I1,r1,q1⟩=>?_
 obtain ⟨a,e,⟨xs,hq⟩,q⟩:=q1
 subst e
 cases r1
 obtain ⟨its,rv,p,hz⟩:=I1.list hq
 refine wpAny_pyIter_list p.isList ?_
 refine ⟨s1.heap.objs.size,[s1.heap.objs.size],_,_,H1,rfl,I1.kept (t':=s1.toks) fun b o e=>Heap.get?_push_of_some _ e,Zn1 a _,⟨_,Heap.get?_push_size _ rfl,rfl,rfl⟩,fun b hb=>?_,q⟩
 have e:b=s1.heap.objs.size:=by simpa using hb
 subst e
 exact I1.fpOk (Nat.le_refl _) (I1.hok.fresh (Nat.le_refl _))
theorem ZnB {l:Expr} {tl:TE} (hl:PE X l tl):PI X tg l (ZsR X.K tl):=by
 intro pins s σ H R I h
 refine thn (hl pins s σ H _ I h) fun v s1 ⟨x,H1,I1,r1,q1⟩=>?_
 obtain ⟨a,e,⟨xs,hq⟩,q⟩:=q1
 subst e
 cases r1
 obtain ⟨its,rv,p,hz⟩:=I1.tuple hq
 refine wpAny_pyIter_tuple (show s1.heap.IsTuple a its.toArray from p) ?_
 refine ⟨s1.heap.objs.size,[s1.heap.objs.size],_,_,H1,rfl,I1.kept (t':=s1.toks) fun b o e=>Heap.get?_push_of_some _ e,Zmz a _,⟨_,Heap.get?_push_size _ rfl,rfl,rfl⟩,fun b hb=>?_,q⟩
 have e:b=s1.heap.objs.size:=by simpa using hb
 subst e
 exact I1.fpOk (Nat.le_refl _) (I1.hok.fresh (Nat.le_refl _))
theorem Zpv {pins : List (Addr × Obj)} {σ : St} {H : Hp} {s : Shared} {R : It → Hp → Prop} {E : Value → Shared → Prop} {lo hi : Int} {t u v : Tok} {tk : Nat} (I : Inv X pins σ H s) (h1 : -(2 ^ 62) ≤ lo) (h2 : lo<2 ^ 62) (h3 : -(2 ^ 62) ≤ hi) (h4 : hi<2 ^ 62)
  (q:R (Itr lo (hi-lo).toNat) H):wpAny (model X.prog X.w) X.A (pyIter (.ref s.heap.objs.size)) (PIE X pins σ tg R) E { s with heap:=s.heap.push { cls:=.type "range",data:=.fields #[.int lo t,.int hi u,.int 1 v] },toks:=tk }:=by
 refine wpAny_pyIter_range (IsRange.new ..) (small_one h1 h2 h3 h4) ?_
 have I1:Inv X pins σ H { s with heap:=s.heap.push { cls:=.type "range",data:=.fields #[.int lo t,.int hi u,.int 1 v] },toks:=tk }:=I.kept fun b o e=>Heap.get?_push_of_some _ e
 refine ⟨(s.heap.push { cls:=.type "range",data:=.fields #[.int lo t,.int hi u,.int 1 v] }).objs.size,[(s.heap.push { cls:=.type "range",data:=.fields #[.int lo t,.int hi u,.int 1 v] }).objs.size],_,_,H,rfl,
  I1.kept (t':=tk) fun b o e=>Heap.get?_push_of_some _ e,Zmh _ lo (hi-lo).toNat,?_,fun b hb=>?_,q⟩
 ·have e1:lo+((0:Nat):Int)*1=lo:=by simp
  have e2:(((hi-lo).toNat:Nat):Int)-((0:Nat):Int)=Builtin.Range.rangeSize lo hi 1:=by rw [rangeSize_one]; split <;> omega
  show IsRangeIter _ _ (lo+((0:Nat):Int)*1) ((((hi-lo).toNat:Nat):Int)-((0:Nat):Int)) 1
  rw [e1,e2]
  exact Heap.get?_push_size _ rfl
 ·have e:b=(s.heap.push { cls:=.type "range",data:=.fields #[.int lo t,.int hi u,.int 1 v] }).objs.size:=by simpa using hb
  subst e
  exact I1.fpOk (Nat.le_refl _) (I1.hok.fresh (Nat.le_refl _))
def Zr4 (ta:TA):TI:=fun σ H R=>ta σ H fun vs H1=>∃ j:Int,vs=[.int j]∧-(2 ^ 62)≤j∧j<2 ^ 62∧R (Itr 0 j.toNat) H1
theorem ZgV {a:Expr} {ta:TA} {p pos:Pos} (hg:Gl X "range") (hm:X.mg "range"=none) (ha:PA X [a] ta) (hs:starEach [a] X.env=[(false,eval a X.env)]:=by rfl):PI X tg (.Call (.Name "range" p) [a] [] pos) (Zr4 ta):=by
 intro pins s σ H R I h
 refine Call_ (Zkd I hg hm boot_range (PyProof.Rows.callWith_type1 (thn (ha pos pins s σ H _ I h) fun us s1 ⟨vs,H1,I1,r1,q1⟩=>?_) hs rfl))
 obtain ⟨j,e,q1,q2,q⟩:=q1
 subst e
 cases r1 with
 | cons r rr =>
  cases rr
  obtain ⟨t,rfl⟩:=r
  exact call_range_1 (Zpv I1 (by omega) (by omega) q1 q2 (by simpa using q))
def ZsX (wi:TI) (g:TG) (tb:TS):TS:=fun D σ H=>wi σ H fun J H1=>∃ W:Nat->Nat->St->Hp->Prop,(∃ m,W 0 m σ H1)∧∀ i m σ H,W i m σ H →
 (J.stop i H∧D.nx σ H)∨(J.go i H∧∃ N:St->Hp->Prop,(∀ σ' H',N σ' H'->∃ m',m'<m∧W (i+1) m' σ' H')∧∀ x H',J.yld i H x H'->g x σ H' fun σ2 H2=>tb { D with nx:=N,ct:=N,bk:=D.nx } σ2 H2)
noncomputable def Zji (fp:List Addr) (h:Heap):List (Addr × Obj):=fp.filterMap fun b=>(h.get? b).map fun o=>(b,o)
theorem Zek {fp:List Addr} {h:Heap} {b:Addr} {o:Obj} (hb:b∈fp) (e:h.get? b=some o):(b,o)∈Zji fp h:=List.mem_filterMap.mpr ⟨b,hb,by rw [e]; rfl⟩
theorem Znh {fp:List Addr} {h:Heap} {p:Addr × Obj} (hp:p∈Zji fp h):p.1∈fp∧h.get? p.1=some p.2:=by
 obtain ⟨b,hb,e⟩:=List.mem_filterMap.mp hp
 cases q:h.get? b with
 | none=>rw [q] at e; cases e
 | some o =>
  rw [q] at e
  have e':(b,o)=p:=Option.some.inj e
  subst e'
  exact ⟨hb,q⟩
theorem Inv.pinned {pins:List (Addr × Obj)} {σ:St} {H:Hp} {s:Shared} {fp:List Addr} (I:Inv X pins σ H s) (hf:∀ b∈fp,ZmA X pins H b) (ho:∀ b∈fp,∃ o,s.heap.get? b=some o∧∀ v,o.data≠.cell v):Inv X (pins++Zji fp s.heap) σ H s :=
 I.pins_of fun p hp=>(List.mem_append.mp hp).elim (fun z=>I.pin p (List.mem_append_right _ z)) fun z=>by
  obtain ⟨hb,e⟩:=Znh z
  obtain ⟨f0,f1,f2,_⟩:=hf p.1 hb
  obtain ⟨o,e',d⟩:=ho p.1 hb
  rw [e] at e'; cases e'
  exact ⟨e,f0,f1,f2,d⟩
theorem Inv.unpinned {pins pl:List (Addr × Obj)} {σ:St} {H:Hp} {s:Shared} (I:Inv X (pins++pl) σ H s):Inv X pins σ H s:=I.pins_of fun p hp=>I.pin p (List.mem_append_right _ (List.mem_append_left _ hp))
theorem ZdV {iter : Expr} {body : List Stmt} {wi : TI} {g : TG} {tb : TS} {pos : Pos} (hp : PassesOwn (model X.prog X.w) X.A X.env X.xe) (hc : X.calm=true) (hi : PI X tg iter wi) (hg : PG X tg g) (hb : PSs X body tb)
  (hs:∀ x,foldedSetIterable iter X.env x=pure x:=by intro _; rfl):PS X (.For tg iter body [] pos) (ZsX wi g tb):=by
 intro pins s σ H D I h
 refine wpAny_For (thn (hi pins s σ H _ I h) fun v s1 h1=>thn h1 fun itv s2 h2=>?_) hs
 obtain ⟨it,fp,tn,J,H2,e,I2,T,st2,f2,W,⟨m0,w0⟩,turn⟩:=h2
 subst e
 have stat:∀ {H':Hp},(∀ b∈fp,H' b=none)->∀ b∈fp,ZmA X pins H' b:=fun hn b hb=>⟨hn b hb,(f2 b hb).2⟩
 refine codeAny_forLoop_any (fun n s'=>∃ i σ' H',Inv X pins σ' H' s'∧tn i s'.heap∧(∀ b∈fp,H' b=none)∧W i n σ' H') ?_ m0 ⟨0,σ,H2,I2,st2,fun b hb=>(f2 b hb).1,w0⟩
 rintro n s3 ⟨i,σ3,H3,I3,st3,fr3,w3⟩
 rcases turn i n σ3 H3 w3 with ⟨stop,qn⟩ | ⟨go,N,hN,step⟩
 ·refine wpAny_passesOwn hp (thn (T.done X rfl rfl rfl hc i pins s3 σ3 H3 X.xe I3 (stat fr3) st3 stop) fun r s4 ⟨hr,I4⟩=>?_)
  subst hr
  exact wpAny_execs_nil ⟨σ3,H3,I4,qn⟩
 ·refine wpAny_passesOwn hp (thn (T.item X rfl rfl rfl hc i pins s3 σ3 H3 X.xe I3 (stat fr3) st3 go) fun r s4 ⟨u,hr,h4⟩=>?_)
  subst hr
  refine wpAny_passesOwn hp (thn h4 fun _ s5 ⟨x,H5,I5,r5,y5,st5,fr5⟩=>?_)
  have I5':=I5.pinned (stat fr5) (T.obj _ _ st5)
  refine wpAny_passesOwn hp (thn (hg _ s5 σ3 H5 x u _ I5' r5 (step x H5 y5)) fun _ s6 ⟨σ6,H6,I6,q6⟩=>?_)
  refine wpAny_passesOwn hp (thn (hb _ s6 σ6 H6 _ I6 q6) fun f s7 q7=>?_)
  have again:∀ {σ7:St} {H7:Hp},Inv X (pins++Zji fp s5.heap) σ7 H7 s7->N σ7 H7->∃ m,m<n∧∃ i σ' H',Inv X pins σ' H' s7∧tn i s7.heap∧(∀ b∈fp,H' b=none)∧W i m σ' H':=fun {σ7 H7} I7 n7=>by
   obtain ⟨m',hm,w7⟩:=hN σ7 H7 n7
   refine ⟨m',hm,i+1,σ7,H7,I7.unpinned,T.keep _ _ _ st5 fun b hb o e=>(I7.pin (b,o) (List.mem_append_right _ (List.mem_append_right _ (Zek hb e)))).1,fun b hb=>?_,w7⟩
   obtain ⟨o,e,d⟩:=T.obj _ _ st5 b hb
   exact (I7.pin (b,o) (List.mem_append_right _ (List.mem_append_right _ (Zek hb e)))).2.1
  cases f with
  | next=>obtain ⟨σ7,H7,I7,n7⟩:=q7; exact again I7 n7
  | cont=>obtain ⟨σ7,H7,I7,n7⟩:=q7; exact again I7 n7
  | brk=>obtain ⟨σ7,H7,I7,q7⟩:=q7; exact ⟨σ7,H7,I7.unpinned,q7⟩
  | ret v=>obtain ⟨x7,σ7,H7,I7,r7,q7⟩:=q7; exact ⟨x7,σ7,H7,I7.unpinned,r7,q7⟩
end
theorem Zfh {K : PySem.W.Frag} {a : Addr} {xs : List V} {g : TG} {tb : TS} {D : Ends} {σ : St} {H : Hp} (Pv : Nat → St → Hp → Prop) (h0 : Pv 0 σ H) (hl : ∀ i σ H, i ≤ xs.length → Pv i σ H → SqL K H a xs)
  (hs:∀ i x σ H,xs[i]?=some x->Pv i σ H->g x σ H fun σ2 H2=>tb { D with nx:=Pv (i+1),ct:=Pv (i+1),bk:=D.nx } σ2 H2) (hd:∀ σ H,Pv xs.length σ H->D.nx σ H) :
  ∃ W:Nat->Nat->St->Hp->Prop,(∃ m,W 0 m σ H)∧∀ i m σ H,W i m σ H →
   ((Itl K a).stop i H∧D.nx σ H)∨((Itl K a).go i H∧∃ N:St->Hp->Prop,(∀ σ' H',N σ' H'->∃ m',m'<m∧W (i+1) m' σ' H')∧∀ x H',(Itl K a).yld i H x H'->g x σ H' fun σ2 H2=>tb { D with nx:=N,ct:=N,bk:=D.nx } σ2 H2):=by
 refine ⟨fun i m σ H=>m=xs.length-i∧i≤xs.length∧Pv i σ H,⟨xs.length,by simp,Nat.zero_le _,h0⟩,?_⟩
 rintro i m σ H ⟨rfl,hi,p⟩
 have q:=hl i σ H hi p
 by_cases hlt:i<xs.length
 ·refine .inr ⟨⟨xs,xs[i],q,by simp [hlt]⟩,Pv (i+1),fun σ' H' p'=>⟨xs.length-(i+1),by omega,rfl,hlt,p'⟩,fun x H' y=>?_⟩
  obtain ⟨e,y⟩:=y
  subst e
  exact hs i x σ _ (y xs q) p
 ·have e:i=xs.length:=by omega
  subst e
  exact .inl ⟨⟨xs,q,Nat.le_refl _⟩,hd σ H p⟩
theorem Znd {K : PySem.W.Frag} {a : Addr} {xs : List V} {g : TG} {tb : TS} {D : Ends} {σ : St} {H : Hp} (Pv : Nat → St → Hp → Prop) (h0 : Pv 0 σ H) (hl : ∀ i σ H, i ≤ xs.length → Pv i σ H → SqT K H a xs)
  (hs:∀ i x σ H,xs[i]?=some x->Pv i σ H->g x σ H fun σ2 H2=>tb { D with nx:=Pv (i+1),ct:=Pv (i+1),bk:=D.nx } σ2 H2) (hd:∀ σ H,Pv xs.length σ H->D.nx σ H) :
  ∃ W:Nat->Nat->St->Hp->Prop,(∃ m,W 0 m σ H)∧∀ i m σ H,W i m σ H →
   ((Itt K a).stop i H∧D.nx σ H)∨((Itt K a).go i H∧∃ N:St->Hp->Prop,(∀ σ' H',N σ' H'->∃ m',m'<m∧W (i+1) m' σ' H')∧∀ x H',(Itt K a).yld i H x H'->g x σ H' fun σ2 H2=>tb { D with nx:=N,ct:=N,bk:=D.nx } σ2 H2):=by
 refine ⟨fun i m σ H=>m=xs.length-i∧i≤xs.length∧Pv i σ H,⟨xs.length,by simp,Nat.zero_le _,h0⟩,?_⟩
 rintro i m σ H ⟨rfl,hi,p⟩
 have q:=hl i σ H hi p
 by_cases hlt:i<xs.length
 ·refine .inr ⟨⟨xs,xs[i],q,by simp [hlt]⟩,Pv (i+1),fun σ' H' p'=>⟨xs.length-(i+1),by omega,rfl,hlt,p'⟩,fun x H' y=>?_⟩
  obtain ⟨e,y⟩:=y
  subst e
  exact hs i x σ _ (y xs q) p
 ·have e:i=xs.length:=by omega
  subst e
  exact .inl ⟨⟨xs,q,Nat.le_refl _⟩,hd σ H p⟩
theorem ZgC {lo : Int} {n : Nat} {g : TG} {tb : TS} {D : Ends} {σ : St} {H : Hp} (Pv : Nat → St → Hp → Prop) (h0 : Pv 0 σ H)
  (hs:∀ i σ H,i<n->Pv i σ H->g (.int (lo+i)) σ H fun σ2 H2=>tb { D with nx:=Pv (i+1),ct:=Pv (i+1),bk:=D.nx } σ2 H2) (hd:∀ σ H,Pv n σ H->D.nx σ H) :
  ∃ W:Nat->Nat->St->Hp->Prop,(∃ m,W 0 m σ H)∧∀ i m σ H,W i m σ H →
   ((Itr lo n).stop i H∧D.nx σ H)∨((Itr lo n).go i H∧∃ N:St->Hp->Prop,(∀ σ' H',N σ' H'->∃ m',m'<m∧W (i+1) m' σ' H')∧∀ x H',(Itr lo n).yld i H x H'->g x σ H' fun σ2 H2=>tb { D with nx:=N,ct:=N,bk:=D.nx } σ2 H2):=by
 refine ⟨fun i m σ H=>m=n-i∧i≤n∧Pv i σ H,⟨n,by simp,Nat.zero_le _,h0⟩,?_⟩
 rintro i m σ H ⟨rfl,hi,p⟩
 by_cases hlt:i<n
 ·refine .inr ⟨hlt,Pv (i+1),fun σ' H' p'=>⟨n-(i+1),by omega,rfl,hlt,p'⟩,fun x H' y=>?_⟩
  obtain ⟨e,y⟩:=y
  subst e y
  exact hs i σ _ hlt p
 ·have e:i=n:=by omega
  subst e
  exact .inl ⟨Nat.le_refl _,hd σ H p⟩
abbrev R2:=V->V->Hp->VK->Prop
def OpR (X:Cx) (f:Value->Value->Sem Value) (r:R2):Prop :=
 ∀ (pins:List (Addr × Obj)) (s:Shared) (σ:St) (H:Hp) (x y:V) (v u:Value) (Q:VK),Inv X pins σ H s->RelV x v->RelV y u->r x y H Q →
  wpAny (model X.prog X.w) X.A (f v u) (EP X pins σ Q) X.xe s
def UnR (X:Cx) (f:Value->Sem Value) (r:V->Hp->VK->Prop):Prop :=
 ∀ (pins:List (Addr × Obj)) (s:Shared) (σ:St) (H:Hp) (x:V) (v:Value) (Q:VK),Inv X pins σ H s->RelV x v->r x H Q →
  wpAny (model X.prog X.w) X.A (f v) (EP X pins σ Q) X.xe s
def Zdd (X:Cx) (f:Value) (r:List V->Hp->VK->Prop):Prop :=
 ∀ (pins:List (Addr × Obj)) (s:Shared) (σ:St) (H:Hp) (xs:List V) (us:List Value) (Q:VK),Inv X pins σ H s->Vals xs us->r xs H Q →
  wpAny (model X.prog X.w) X.A (call f us) (EP X pins σ Q) X.xe s
def tOp (r:R2) (ta tb:TE):TE:=fun σ H Q=>ta σ H fun x H1=>tb σ H1 fun y H2=>r x y H2 Q
def tUn (r:V->Hp->VK->Prop) (ta:TE):TE:=fun σ H Q=>ta σ H fun x H1=>r x H1 Q
def rI (C:Int->Int->Prop) (g:Int->Int->V):R2:=fun x y H Q=>∃ i j,x=.int i∧y=.int j∧C i j∧Q (g i j) H
def rI0 (g:Int->Int->V):R2:=fun x y H Q=>∃ i j,x=.int i∧y=.int j∧Q (g i j) H
def rU (g:Int->V):V->Hp->VK->Prop:=fun x H Q=>∃ i,x=.int i∧Q (g i) H
section
variable {X:Cx} {a b c:Expr} {ta tb tc:TE} {pos:Pos}
theorem Zr7 (ha : PE X a ta) (hb : PE X b tb) {pins : List (Addr × Obj)} {s : Shared} {σ : St} {H : Hp} {R : V → V → Hp → Prop} (I : Inv X pins σ H s)
  (h:ta σ H fun x H1=>tb σ H1 fun y H2=>R x y H2) {Q:Value->Shared->Prop} {f:Value->Value->Sem Value}
  (hf:∀ v u s2 x y H2,Inv X pins σ H2 s2->RelV x v->RelV y u->R x y H2->wpAny (model X.prog X.w) X.A (f v u) Q X.xe s2) :
  wpAny (model X.prog X.w) X.A (eval a X.env) (fun v s₁=>wpAny (model X.prog X.w) X.A (eval b X.env) (fun u s₂=>wpAny (model X.prog X.w) X.A (f v u) Q X.xe s₂) X.xe s₁) X.xe s:=by
 refine thn (ha pins s σ H _ I h) fun v s1 ⟨x,H1,I1,r1,q1⟩=>?_
 refine thn (hb pins s1 σ H1 _ I1 q1) fun u s2 ⟨y,H2,I2,r2,q2⟩=>?_
 exact hf v u s2 x y H2 I2 r1 r2 q2
theorem ZaB {op:Operator} {r:R2} (ho:OpR X (binaryOp op) r) (ha:PE X a ta) (hb:PE X b tb):PE X (.BinOp a op b pos) (tOp r ta tb):=by
 intro pins s σ H Q I h
 exact wpAny_BinOp (Zr7 ha hb I h fun v u s2 x y H2 I2 rx ry q=>ho pins s2 σ H2 x y v u Q I2 rx ry q)
theorem ZpY {op:UnaryOp} {r:V->Hp->VK->Prop} (ho:UnR X (unaryOp op) r) (ha:PE X a ta):PE X (.UnaryOp op a pos) (tUn r ta):=by
 intro pins s σ H Q I h
 exact UnaryOp_ (thn (ha pins s σ H _ I h) fun v s1 ⟨x,H1,I1,r1,q1⟩=>ho pins s1 σ H1 x v Q I1 r1 q1)
theorem opI {f : Value → Value → Sem Value} {C : Int → Int → Prop} {g : Int → Int → Int}
  (rule:∀ (i j:Int) (t u:Tok) (s:Shared) (Q:Value->Shared->Prop) (E:Value->Shared->Prop),C i j->Q (.int (g i j) s.toks) { s with toks:=s.toks+1 }->wpAny (model X.prog X.w) X.A (f (.int i t) (.int j u)) Q E s) :
  OpR X f (rI C fun i j=>.int (g i j)):=by
 intro pins s σ H x y v u Q I rx ry h
 obtain ⟨i,j,rfl,rfl,hc,q⟩:=h
 obtain ⟨t,rfl⟩:=rx
 obtain ⟨t',rfl⟩:=ry
 exact rule i j t t' s _ _ hc ⟨.int (g i j),H,I.tok _,⟨_,rfl⟩,q⟩
theorem Zss {f : Value → Value → Sem Value} {g : Int → Int → Int}
  (rule:∀ (i j:Int) (t u:Tok) (s:Shared) (Q:Value->Shared->Prop) (E:Value->Shared->Prop),Q (.int (g i j) s.toks) { s with toks:=s.toks+1 }->wpAny (model X.prog X.w) X.A (f (.int i t) (.int j u)) Q E s) :
  OpR X f (rI0 fun i j=>.int (g i j)):=by
 intro pins s σ H x y v u Q I rx ry h
 obtain ⟨i,j,rfl,rfl,q⟩:=h
 obtain ⟨t,rfl⟩:=rx
 obtain ⟨t',rfl⟩:=ry
 exact rule i j t t' s _ _ ⟨.int (g i j),H,I.tok _,⟨_,rfl⟩,q⟩
theorem ZrU {f : Value → Value → Sem Value} {g : Int → Int → Bool}
  (rule:∀ (i j:Int) (t u:Tok) (s:Shared) (Q:Value->Shared->Prop) (E:Value->Shared->Prop),Q (.bool (g i j)) s->wpAny (model X.prog X.w) X.A (f (.int i t) (.int j u)) Q E s) :
  OpR X f (rI0 fun i j=>.bl (g i j)):=by
 intro pins s σ H x y v u Q I rx ry h
 obtain ⟨i,j,rfl,rfl,q⟩:=h
 obtain ⟨t,rfl⟩:=rx
 obtain ⟨t',rfl⟩:=ry
 exact rule i j t t' s _ _ ⟨.bl (g i j),H,I,rfl,q⟩
def Zo9 (i j:Int):Prop:=0≤j∧j≤1000000∧i.natAbs<2 ^ 64
def CMul (i j:Int):Prop:=(-(2 ^ 64)<i∧i<2 ^ 64)∨(-(2 ^ 64)<j∧j<2 ^ 64)
theorem CMul.ok {i j:Int} (h:CMul i j):IntMulOk i j:=by
 rcases h with ⟨h1,h2⟩ | ⟨h1,h2⟩
 ·exact .of_left (intBits_le_64 h1 h2)
 ·exact .of_right (intBits_le_64 h1 h2)
theorem Zcy:OpR X (binaryOp .Add) (rI0 fun i j=>.int (i+j)):=Zss fun _ _ _ _ _ _ _ q=>add_int q
theorem ZhR:OpR X (binaryOp .Sub) (rI0 fun i j=>.int (i-j)):=Zss fun _ _ _ _ _ _ _ q=>sub_int q
theorem Zkb:OpR X (binaryOp .Mult) (rI CMul fun i j=>.int (i*j)):=opI fun _ _ _ _ _ _ _ hc q=>mul_int q hc.ok
theorem ZbJ:OpR X (binaryOp .Mod) (rI (fun _ j=>j≠0) fun i j=>.int (i.fmod j)):=opI fun _ _ _ _ _ _ _ hc q=>mod_int' hc q
theorem ZdA:OpR X (binaryOp .Pow) (rI Zo9 fun i j=>.int (i ^ j.toNat)):=opI fun _ _ _ _ _ _ _ hc q=>pow_int_small hc.1 hc.2.1 hc.2.2 q
theorem unI {f : Value → Sem Value} {g : Int → Int}
  (rule:∀ (i:Int) (t:Tok) (s:Shared) (Q:Value->Shared->Prop) (E:Value->Shared->Prop),Q (.int (g i) s.toks) { s with toks:=s.toks+1 }->wpAny (model X.prog X.w) X.A (f (.int i t)) Q E s) :
  UnR X f (rU fun i=>.int (g i)):=by
 intro pins s σ H x v Q I rx h
 obtain ⟨i,rfl,q⟩:=h
 obtain ⟨t,rfl⟩:=rx
 exact rule i t s _ _ ⟨.int (g i),H,I.tok _,⟨_,rfl⟩,q⟩
theorem Zou:UnR X (unaryOp .USub) (rU fun i=>.int (-i)):=unI fun _ _ _ _ _ q=>neg_int q
end
noncomputable def ZsD:V->V->Bool
 | .non,.non=>true | .non,.int _=>true | .int _,.non=>true | .non,.bl _=>true | .bl _,.non=>true | .non,.str _=>true | .str _,.non=>true
 | .int _,.int _=>true | .bl _,.bl _=>true | .str _,.str _=>true | .byt _,.byt _=>true
 | .int _,.str _=>true | .str _,.int _=>true | .bl _,.str _=>true | .str _,.bl _=>true
 | _,_=>false
def rEq:R2:=fun x y H Q=>ZsD x y=true∧Q (.bl (decide (x=y))) H
def rNe:R2:=fun x y H Q=>ZsD x y=true∧Q (.bl (!decide (x=y))) H
theorem ZmO {i j:Int}:decide (V.int i=V.int j)=(i == j):=by
 rw [Bool.eq_iff_iff]
 simp
theorem ZpR {i j:Bool}:decide (V.bl i=V.bl j)=(i == j):=by
 rw [Bool.eq_iff_iff]
 simp
theorem Zof {i j:Str}:decide (V.str i=V.str j)=(i == j):=by
 rw [Bool.eq_iff_iff]
 simp
theorem ZmJ {i j:Array UInt8}:decide (V.byt i=V.byt j)=(i.toList == j.toList):=by
 rw [Bool.eq_iff_iff]
 cases i
 cases j
 simp
section
variable {X:Cx} {a b c:Expr} {ta tb tc:TE} {pos:Pos}
theorem Za1 {pins:List (Addr × Obj)} {σ:St} {H:Hp} {s:Shared} {Q:VK} {k k':Bool} (I:Inv X pins σ H s) (q:Q (.bl k) H) (e:k=k'):EP X pins σ Q (.bool k') s:=by
 subst e
 exact ⟨.bl k,H,I,rfl,q⟩
theorem ZbZ:OpR X (compareOp .Eq) rEq:=by
 intro pins s σ H x y v u Q I rx ry h
 obtain ⟨hs,q⟩:=h
 cases x with
 | non =>
  cases rx
  cases y with
  | non=>cases ry; exact PySem.EqNone.eq_none_none (Za1 I q (by simp))
  | bl j=>cases ry; exact PySem.EqNone.eq_none_bool (Za1 I q (by simp))
  | int j=>obtain ⟨t',rfl⟩:=ry; exact PySem.EqNone.eq_none_int (Za1 I q (by simp))
  | str j=>obtain ⟨t',rfl⟩:=ry; exact PySem.EqNone.eq_none_str (Za1 I q (by simp))
  | _=>exact absurd (show false=true from hs) Bool.false_ne_true
 | bl i =>
  cases rx
  cases y with
  | non=>cases ry; exact PySem.EqNone.eq_bool_none (Za1 I q (by simp))
  | bl j=>cases ry; exact eq_bool (Za1 I q ZpR)
  | str j=>obtain ⟨t',rfl⟩:=ry; exact PySem.EqMixed.eq_bool_str (Za1 I q (by simp))
  | _=>exact absurd (show false=true from hs) Bool.false_ne_true
 | int i =>
  obtain ⟨t,rfl⟩:=rx
  cases y with
  | non=>cases ry; exact PySem.EqNone.eq_int_none (Za1 I q (by simp))
  | int j=>obtain ⟨t',rfl⟩:=ry; exact eq_int (Za1 I q ZmO)
  | str j=>obtain ⟨t',rfl⟩:=ry; exact PySem.EqMixed.eq_int_str (Za1 I q (by simp))
  | _=>exact absurd (show false=true from hs) Bool.false_ne_true
 | str i =>
  obtain ⟨t,rfl⟩:=rx
  cases y with
  | non=>cases ry; exact PySem.EqNone.eq_str_none (Za1 I q (by simp))
  | bl j=>cases ry; exact PySem.EqMixed.eq_str_bool (Za1 I q (by simp))
  | int j=>obtain ⟨t',rfl⟩:=ry; exact PySem.EqMixed.eq_str_int (Za1 I q (by simp))
  | str j=>obtain ⟨t',rfl⟩:=ry; exact eq_str (Za1 I q Zof)
  | _=>exact absurd (show false=true from hs) Bool.false_ne_true
 | byt i =>
  obtain ⟨t,rfl⟩:=rx
  cases y with
  | byt j=>obtain ⟨t',rfl⟩:=ry; exact W.eq_bytes (Za1 I q ZmJ)
  | _=>exact absurd (show false=true from hs) Bool.false_ne_true
 | _=>cases y <;> exact absurd (show false=true from hs) Bool.false_ne_true
theorem ZkX:OpR X (compareOp .NotEq) rNe:=by
 intro pins s σ H x y v u Q I rx ry h
 obtain ⟨hs,q⟩:=h
 cases x with
 | non =>
  cases rx
  cases y with
  | non=>cases ry; exact PySem.EqNone.ne_none_none (Za1 I q (by simp))
  | bl j=>cases ry; exact PySem.EqNone.ne_none_bool (Za1 I q (by simp))
  | int j=>obtain ⟨t',rfl⟩:=ry; exact PySem.EqNone.ne_none_int (Za1 I q (by simp))
  | str j=>obtain ⟨t',rfl⟩:=ry; exact PySem.EqNone.ne_none_str (Za1 I q (by simp))
  | _=>exact absurd (show false=true from hs) Bool.false_ne_true
 | bl i =>
  cases rx
  cases y with
  | non=>cases ry; exact PySem.EqNone.ne_bool_none (Za1 I q (by simp))
  | bl j=>cases ry; exact ne_bool (Za1 I q (congrArg not ZpR))
  | str j=>obtain ⟨t',rfl⟩:=ry; exact PySem.EqMixed.ne_bool_str (Za1 I q (by simp))
  | _=>exact absurd (show false=true from hs) Bool.false_ne_true
 | int i =>
  obtain ⟨t,rfl⟩:=rx
  cases y with
  | non=>cases ry; exact PySem.EqNone.ne_int_none (Za1 I q (by simp))
  | int j=>obtain ⟨t',rfl⟩:=ry; exact ne_int (Za1 I q (congrArg not ZmO))
  | str j=>obtain ⟨t',rfl⟩:=ry; exact PySem.EqMixed.ne_int_str (Za1 I q (by simp))
  | _=>exact absurd (show false=true from hs) Bool.false_ne_true
 | str i =>
  obtain ⟨t,rfl⟩:=rx
  cases y with
  | non=>cases ry; exact PySem.EqNone.ne_str_none (Za1 I q (by simp))
  | bl j=>cases ry; exact PySem.EqMixed.ne_str_bool (Za1 I q (by simp))
  | int j=>obtain ⟨t',rfl⟩:=ry; exact PySem.EqMixed.ne_str_int (Za1 I q (by simp))
  | str j=>obtain ⟨t',rfl⟩:=ry; exact ne_str (Za1 I q (congrArg not Zof))
  | _=>exact absurd (show false=true from hs) Bool.false_ne_true
 | byt i =>
  obtain ⟨t,rfl⟩:=rx
  cases y with
  | byt j=>obtain ⟨t',rfl⟩:=ry; exact W.ne_bytes (Za1 I q (congrArg not ZmJ))
  | _=>exact absurd (show false=true from hs) Bool.false_ne_true
 | _=>cases y <;> exact absurd (show false=true from hs) Bool.false_ne_true
theorem Zo5:OpR X (compareOp .Lt) (rI0 fun i j=>.bl (decide (i<j))):=ZrU fun _ _ _ _ _ _ _ q=>lt_int q
theorem Zke:OpR X (compareOp .LtE) (rI0 fun i j=>.bl (decide (i≤j))):=ZrU fun _ _ _ _ _ _ _ q=>le_int q
theorem Zrq:OpR X (compareOp .Gt) (rI0 fun i j=>.bl (decide (j<i))):=ZrU fun _ _ _ _ _ _ _ q=>gt_int q
theorem Zol:OpR X (compareOp .GtE) (rI0 fun i j=>.bl (decide (j≤i))):=ZrU fun _ _ _ _ _ _ _ q=>ge_int q
theorem ZmF:OpR X (compareOp .Lt) (fun x y H Q=>∃ i j,x=.str i∧y=.str j∧Q (.bl (decide (i.cps.toList<j.cps.toList))) H):=by
 intro pins s σ H x y v u Q I rx ry h
 obtain ⟨i,j,rfl,rfl,q⟩:=h
 obtain ⟨t,rfl⟩:=rx
 obtain ⟨t',rfl⟩:=ry
 exact lt_str (Za1 I q rfl)
theorem Zng:OpR X (compareOp .In) (fun x y H Q=>∃ i j,x=.str i∧y=.str j∧Q (.bl (!(Builtin.Str.occurrences j i 0 j.length 1).isEmpty)) H):=by
 intro pins s σ H x y v u Q I rx ry h
 obtain ⟨i,j,rfl,rfl,q⟩:=h
 obtain ⟨t,rfl⟩:=rx
 obtain ⟨t',rfl⟩:=ry
 exact in_str (Za1 I q rfl)
theorem Znz:OpR X (compareOp .Is) (fun x y H Q=>y=.non∧Q (.bl (decide (x=.non))) H):=by
 intro pins s σ H x y v u Q I rx ry h
 obtain ⟨rfl,q⟩:=h
 cases ry
 refine is_none_gen (Za1 I q ?_)
 cases x <;> first
  | (cases rx; rfl)
  | (obtain ⟨t,rfl⟩:=rx; rfl)
theorem ZmX:OpR X (compareOp .IsNot) (fun x y H Q=>y=.non∧Q (.bl (!decide (x=.non))) H):=by
 intro pins s σ H x y v u Q I rx ry h
 obtain ⟨rfl,q⟩:=h
 cases ry
 refine isnot_none_gen (Za1 I q ?_)
 cases x <;> first
  | (cases rx; rfl)
  | (obtain ⟨t,rfl⟩:=rx; rfl)
theorem Zaw (b:Expr) {op:CmpOp} (h:op≠.In:=by decide) (h2:op≠.NotIn:=by decide):behindInMarks op b=false:=by
 have e1:(op == CmpOp.In)=false:=by cases op <;> first | rfl | exact absurd rfl h
 have e2:(op == CmpOp.NotIn)=false:=by cases op <;> first | rfl | exact absurd rfl h2
 cases b <;> simp [behindInMarks,e1,e2]
theorem Zbj {op:CmpOp} {r:R2} (ho:OpR X (compareOp op) r) (ha:PE X a ta) (hb:PE X b tb) (hm:behindInMarks op b=false):PE X (.Compare a [op] [b] pos) (tOp r ta tb):=by
 intro pins s σ H Q I h
 exact wpAny_Compare1 (Zr7 ha hb I h fun v u s2 x y H2 I2 rx ry q=>ho pins s2 σ H2 x y v u Q I2 rx ry q) hm
def Zsj (t:TE):TT:=fun σ H Q=>t σ H fun x H'=>∃ k,x=.bl k∧Q k H'
theorem Zas {op:CmpOp} {r:R2} (ho:OpR X (compareOp op) r) (ha:PE X a ta) (hb:PE X b tb) (hm:behindInMarks op b=false):PT X (.Compare a [op] [b] pos) (Zsj (tOp r ta tb)):=by
 intro pins s σ H Q I h
 refine wpAny_isTrue_Compare1 (thn (ha pins s σ H _ I h) fun v s1 ⟨x,H1,I1,r1,q1⟩=>thn (hb pins s1 σ H1 _ I1 q1) fun u s2 ⟨y,H2,I2,r2,q2⟩ =>
  thn (ho pins s2 σ H2 x y v u _ I2 r1 r2 q2) fun c s3 ⟨z,H3,I3,r3,k,e,q3⟩=>?_) hm
 subst e
 cases r3
 exact wpAny_truthy_bool ⟨H3,I3,q3⟩
theorem ZjV:(sizeLine:Nat)<2 ^ 63:=by rw [sizeLine_eq]; decide
theorem Zl2:OpR X (binaryOp .Add) (fun x y H Q=>∃ i j,x=.str i∧y=.str j∧i.length+j.length≤sizeLine∧Q (.str (i++j)) H):=by
 intro pins s σ H x y v u Q I rx ry h
 obtain ⟨i,j,rfl,rfl,hz,q⟩:=h
 obtain ⟨t,rfl⟩:=rx
 obtain ⟨t',rfl⟩:=ry
 exact add_str (fun t' tk=>⟨.str (i++j),H,I.tok _,⟨_,rfl⟩,q⟩) hz
theorem ZfJ {x:V} {us:List Value} (r:Vals [x] us):∃ u,us=[u]∧RelV x u:=by
 cases r with
 | cons r1 r2=>cases r2; exact ⟨_,rfl,r1⟩
theorem ZmL {x y:V} {us:List Value} (r:Vals [x,y] us):∃ u w',us=[u,w']∧RelV x u∧RelV y w':=by
 cases r with
 | cons r1 r2 =>
  cases r2 with
  | cons r3 r4=>cases r4; exact ⟨_,_,rfl,r1,r3⟩
theorem Zo1:Zdd X (.builtin "abs") (fun xs H Q=>∃ i,xs=[.int i]∧Q (.int (if i<0 then -i else i)) H):=by
 intro pins s σ H xs us Q I r h
 obtain ⟨i,rfl,q⟩:=h
 obtain ⟨u,rfl,t,rfl⟩:=ZfJ r
 exact call_abs_int fun u tk=>⟨.int (if i<0 then -i else i),H,I.tok _,⟨_,rfl⟩,q⟩
theorem ZnC (hc:X.calm=true):Zdd X (.builtin "max") (fun xs H Q=>∃ i j,xs=[.int i,.int j]∧Q (.int (if j > i then j else i)) H):=by
 intro pins s σ H xs us Q I r h
 obtain ⟨i,j,rfl,q⟩:=h
 obtain ⟨u,w',rfl,⟨t,rfl⟩,⟨t',rfl⟩⟩:=ZmL r
 refine max_two_ints (I.ok.hd hc) fun h' tk k=>⟨_,H,I.kept k,?_,q⟩
 by_cases hj:j > i
 ·rw [if_pos hj,if_pos hj]; exact ⟨_,rfl⟩
 ·rw [if_neg hj,if_neg hj]; exact ⟨_,rfl⟩
end
structure ObjM (h:Heap) (x dx C:Addr) (mA:Str->Option Value):Prop where
 obj:h.get? x=some (W.instObj C dx)
 ns:h.Ns1 dx mA
 ne:dx≠x
theorem ZmZ {h:Heap} {dx:Addr} {mA:Str->Option Value} (n:h.Ns1 dx mA):∃ od,h.get? dx=some od∧∀ name,W.lookIn name od=some (mA name):=by
 obtain ⟨o,es,ep,ho,hd,hk,_,hm⟩:=n
 refine ⟨o,ho,fun name=>?_⟩
 have e:=hm name
 unfold nsFind findBy at e
 rw [← Array.find?_toList] at e
 unfold W.lookIn
 rw [hd]
 dsimp only
 split
 ·rename_i y q
  rw [q] at e
  exact congrArg some e
 ·rename_i q
  rw [q] at e
  have a:es.toList.any (·.refKey)=false:=by
   rw [List.any_eq_false]
   intro y hy
   obtain ⟨z,t,hkey⟩:=hk y (Array.mem_toList_iff.mp hy)
   simp [DictEntry.refKey,hkey]
  have a':¬ es.toList.any (·.refKey)=true:=by rw [a]; exact Bool.false_ne_true
  rw [if_neg a']
  exact congrArg some e
theorem ObjM.look {h:Heap} {x dx C:Addr} {mA:Str->Option Value} (I:ObjM h x dx C mA):∃ od,W.InstAt h x (W.instObj C dx) C (some od)∧∀ name,W.lookIn name od=some (mA name) :=
 let ⟨od,ho,hl⟩:=ZmZ I.ns
 ⟨od,⟨I.obj,rfl,rfl,ho⟩,hl⟩
section
variable {prog:Program} {w:World} {A:Around} {E:Value->Shared->Prop} {s:Shared} {K:W.Frag} {x dx C f:Addr} {mA:Str->Option Value} {name:Str} {v:Value}
theorem Zqc {expr : Bool} {Q : Value → Shared → Prop} (X : K.In s.heap) (I : ObjM s.heap x dx C mA) (hg : W.plainGet K C name=true) (hh : W.hasDictIn K C=true)
  (ha:W.findIn K (.ref C) name=some none) (hv:mA name=some v) (hv':W.handedIn v=true) (h:Q v { s with toks:=s.toks+1 }) :
  wpAny (model prog w) A (getAttr (.ref x) name expr) Q E s:=by
 obtain ⟨od,J,hl⟩:=I.look
 exact W.get_value X J (W.plainGet_of hg).1 (W.findObj_own hh ha rfl (by rw [hl,hv])) hv' h
theorem ZpA {pl : Sem Bool} {Q : Value × List Value → Shared → Prop} (X : K.In s.heap) (I : ObjM s.heap x dx C mA) (hg : W.plainGet K C name=true)
  (hf:W.findIn K (.ref C) name=some (some (.ref f))) (ht:W.isFn K (.ref f)=true) (hv:mA name=none) (h:Q (.ref f,[.ref x]) s) :
  wpAny (model prog w) A (getMethod (.ref x) name pl) Q E s:=by
 obtain ⟨od,J,hl⟩:=I.look
 exact W.method_fn X J (W.plainGet_of hg).1 (W.plainGet_of hg).2 hf (beq_iff_eq.mp ht) (by show (W.lookIn name od).map (·.isSome)=some false; rw [hl,hv]; rfl) h
theorem Zqi {ns : List Str} {Q : Unit → Shared → Prop} (X : K.In s.heap) (I : ObjM s.heap x dx C mA)
  (hs:W.findIn K (.ref C) "__setattr__"=some (some (.builtin "object.__setattr__"))) (hp:W.plainOver K C=true) (ht:W.takerIn K C name=some none) (hh:W.hasDictIn K C=true)
  (hw:PySem.Within mA ns) (hsz:ns.length≤sizeLine)
  (h:∀ h',ObjM h' x dx C (fun y=>if y=name then some v else mA y)->Heap.SameBut dx s.heap h'->Q () { s with heap:=h',toks:=s.toks+2 }) :
  wpAny (model prog w) A (setAttr (.ref x) name v) Q E s:=by
 obtain ⟨od,J,hl⟩:=I.look
 refine W.set_plain X J hs (W.osa_open (s:={ s with toks:=s.toks+1 }) (r:=none) X J hp ht fun b=>?_)
 obtain ⟨cd,hc,hd'⟩:=W.any_some hh
 have hx:s.heap.get? x=some ⟨.ref C,some dx,.plain,#[]⟩:=I.obj
 refine wpAny_bind (wpAny_pure (wpAny_bind (wpAny_bind (wpAny_loadPart hx (wpAny_bind (W.Looks.here (s:={ s with toks:=s.toks+1 }) (W.looks_clsIn X hc) ?_))))))
 rw [hd']
 refine wpAny_pure (a:=some dx) (wpAny_bind (wpAny_pure (wpAny_bind ?_)))
 refine wpAny_nsSet1 (s:={ s with toks:=s.toks+1 }) I.ns fun h' hn2 hs2=>?_
 obtain ⟨oD,esD,epD,hoD,hdD,hcD⟩:=hn2.count (PySem.Within.cons name v hw)
 refine wpAny_bind (wpAny_lookBehind hoD (by rw [hdD]; exact pastItsLine_dict (Nat.le_trans hcD (by rw [List.length_cons]; omega))) ?_)
 exact wpAny_pure (h _ ⟨(hs2.2 _ (Ne.symm I.ne)).trans I.obj,hn2,I.ne⟩ hs2)
theorem ZoN {R : Result → Shared → Prop} {vs : List Value} {kw : List (Str × Value)} (X : K.In s.heap) (hm : W.makesIn K C=true)
  (hi:W.findIn K (.ref C) "__init__"=some (some (.ref f))) (hf:W.typeIn K (.ref f)=some (.type "function"))
  (h:codeAny (model prog w) (A.under (.builtin "type.__call__" ⟨.ref C :: vs,kw⟩)) (.call (.ref f) ⟨.ref (s.heap.objs.size+1) :: vs,kw⟩) (W.InitBack (s.heap.objs.size+1) R)
   { s with heap:=(s.heap.push W.emptyDict).push (W.instObj C s.heap.objs.size) }) :
  codeAny (model prog w) A (.call (.ref C) ⟨vs,kw⟩) R s:=by
 obtain ⟨hh,g,d,t,os⟩:=s
 exact W.make_core (W.makes_of X hm) (W.looks_findIn X hi) (fun self=>W.bind_fn X self hf) (.inl rfl) h
end
noncomputable def Zcb (f:Str) (v:V):List (Str × V)->List (Str × V)
 | []=>[(f,v)]
 | (g,x) :: r=>if g=f then (g,v) :: r else (g,x) :: Zcb f v r
theorem Zhn (f g:Str) (v:V):∀ fs:List (Str × V),(Zcb f v fs).lookup g=if g=f then some v else fs.lookup g
 | []=>by
  show List.lookup g [(f,v)]=_
  by_cases h:g=f
  ·have hb:(g == f)=true:=beq_iff_eq.mpr h
   simp only [List.lookup,hb,if_pos h]
  ·have hb:(g == f)=false:=beq_eq_false_iff_ne.mpr h
   simp only [List.lookup,hb,if_neg h]
 | (k,x) :: r=>by
  have ih:=Zhn f g v r
  rw [show Zcb f v ((k,x) :: r)=(if k=f then (k,v) :: r else (k,x) :: Zcb f v r) from rfl]
  by_cases hk:k=f
  ·rw [if_pos hk]
   by_cases h:g=k
   ·have hb:(g == k)=true:=beq_iff_eq.mpr h
    simp only [List.lookup,hb,if_pos (h.trans hk)]
   ·have hb:(g == k)=false:=beq_eq_false_iff_ne.mpr h
    simp only [List.lookup,hb,if_neg (fun e:g=f=>h (e.trans hk.symm))]
  ·rw [if_neg hk]
   by_cases h:g=k
   ·have hb:(g == k)=true:=beq_iff_eq.mpr h
    simp only [List.lookup,hb,if_neg (fun e:g=f=>hk (h.symm.trans e))]
   ·have hb:(g == k)=false:=beq_eq_false_iff_ne.mpr h
    simp only [List.lookup,hb]
    exact ih
theorem ZgK (f:Str) (v:V):∀ fs:List (Str × V),f∈(Zcb f v fs).map (·.1)∧∀ g,g∈fs.map (·.1)->g∈(Zcb f v fs).map (·.1)
 | []=>⟨by simp [Zcb],fun g h=>by simp at h⟩
 | (k,x) :: r=>by
  obtain ⟨i1,i2⟩:=ZgK f v r
  rw [show Zcb f v ((k,x) :: r)=(if k=f then (k,v) :: r else (k,x) :: Zcb f v r) from rfl]
  by_cases hk:k=f
  ·rw [if_pos hk]
   subst hk
   exact ⟨by simp,fun g h=>by simpa using h⟩
  ·rw [if_neg hk]
   refine ⟨?_,fun g h=>?_⟩
   ·rw [List.map_cons]
    exact List.mem_cons_of_mem _ i1
   ·rw [List.map_cons] at h ⊢
    rcases List.mem_cons.mp h with e | e
    ·exact List.mem_cons.mpr (.inl e)
    ·exact List.mem_cons_of_mem _ (i2 g e)
theorem Zhx (f:Str) (v:V):∀ fs:List (Str × V),(Zcb f v fs).length≤fs.length+1
 | []=>by simp [Zcb]
 | (k,x) :: r=>by
  have ih:=Zhx f v r
  rw [show Zcb f v ((k,x) :: r)=(if k=f then (k,v) :: r else (k,x) :: Zcb f v r) from rfl]
  by_cases hk:k=f
  ·rw [if_pos hk,List.length_cons,List.length_cons]; omega
  ·rw [if_neg hk,List.length_cons,List.length_cons]; omega
theorem RelO.some_of {v:V} {o:Option Value} (r:RelO (some v) o):∃ u,o=some u∧RelV v u:=by
 cases o with
 | none=>exact (show False from r).elim
 | some u=>exact ⟨u,rfl,r⟩
theorem RelO.none_of {o:Option Value} (r:RelO none o):o=none:=by
 cases o with
 | none=>rfl
 | some u=>exact (show False from r).elim
theorem Znf {v:V} {u:Value} (r:RelV v u):W.handedIn u=true:=by
 cases v with
 | non=>cases (show u=Value.none from r); rfl
 | bl b=>cases (show u=Value.bool b from r); rfl
 | int i=>obtain ⟨t,e⟩:=(show ∃ t,u=Value.int i t from r); cases e; rfl
 | str x=>obtain ⟨t,e⟩:=(show ∃ t,u=Value.str x t from r); cases e; rfl
 | byt b=>obtain ⟨t,e⟩:=(show ∃ t,u=Value.bytes b t from r); cases e; rfl
 | flt b=>obtain ⟨t,e⟩:=(show ∃ t,u=Value.float b t from r); cases e; rfl
 | ref a=>cases (show u=Value.ref a from r); rfl
 | ty n=>cases (show u=Value.type n from r); rfl
section
variable {P:Program} {w:World} {H H':Hp} {h h':Heap} {a C dx:Addr} {fs fs':List (Str × V)}
theorem Zii (hok:HOk P w H h) (e:H a=some (.ins C dx fs)):∃ mA,ObjM h a dx C mA∧(∀ f,RelO (fs.lookup f) (mA f))∧PySem.Within mA (fs.map (·.1))∧fs.length≤1000∧H dx=some (.own a):=by
 obtain ⟨d,z,ne,ob,mA,n,r,q⟩:=(show ObjOk P w H h a (.ins C dx fs) from hok a _ e)
 exact ⟨mA,⟨ob,n,ne⟩,r,q,z,d⟩
end
structure Cls (K:W.Frag) (C:Addr):Prop where
 pg:W.plainGet K C Str.empty=true
 hd:W.hasDictIn K C=true
 po:W.plainOver K C=true
 sa:W.findIn K (.ref C) "__setattr__"=some (some (.builtin "object.__setattr__"))
theorem Cls.get {K:W.Frag} {C:Addr} (c:Cls K C) (f:Str):W.plainGet K C f=true:=c.pg
def NoAttr (K:W.Frag) (C:Addr) (f:Str):Prop:=W.findIn K (.ref C) f=some none
theorem NoAttr.taker {K:W.Frag} {C:Addr} {f:Str} (n:NoAttr K C f):W.takerIn K C f=some none:=by
 unfold W.takerIn
 rw [show W.findIn K (.ref C) f=some none from n]
 rfl
structure Con (K:W.Frag) (C:Addr) (f:Str) (v:V) (u:Value):Prop where
 at_:W.findIn K (.ref C) f=some (some u)
 rel:RelV v u
 get:W.specialIn K u "__get__"=some none
 cp:W.copiedNames.contains f=false
structure Meth (K:W.Frag) (C:Addr) (m:Str) (f:Addr):Prop where
 at_:W.findIn K (.ref C) m=some (some (.ref f))
 fn:W.isFn K (.ref f)=true
 kp:W.keepIn K (.ref f)=true
section
variable {X:Cx} {pins:List (Addr × Obj)} {σ:St} {H:Hp} {s:Shared} {a C dx:Addr} {fs:List (Str × V)} {f:Str} {v:V} {A:Around} {E:Value->Shared->Prop}
theorem Zl5 {b : Bool} {Q : Value → Shared → Prop} (I : Inv X pins σ H s) (e : H a=some (.ins C dx fs)) (c : Cls X.K C) (n : NoAttr X.K C f) (l : fs.lookup f=some v)
  (h:∀ u s',Inv X pins σ H s'->RelV v u->Q u s'):wpAny (model X.prog X.w) A (getAttr (.ref a) f b) Q E s:=by
 obtain ⟨mA,O,r,_,_,_⟩:=Zii I.hok e
 obtain ⟨u,hu,ru⟩:=RelO.some_of (v:=v) (o:=mA f) (by rw [← l]; exact r f)
 exact Zqc I.kIn O (c.get f) c.hd n hu (Znf ru) (h u _ (I.tok _) ru)
theorem Zh5 {m : Str} {g : Addr} {pl : Sem Bool} {Q : Value × List Value → Shared → Prop} (I : Inv X pins σ H s) (e : H a=some (.ins C dx fs)) (c : Cls X.K C) (k : Meth X.K C m g) (l : fs.lookup m=none)
  (h:Q (.ref g,[.ref a]) s):wpAny (model X.prog X.w) A (getMethod (.ref a) m pl) Q E s:=by
 obtain ⟨mA,O,r,_,_,_⟩:=Zii I.hok e
 have hn:mA m=none:=RelO.none_of (by rw [← l]; exact r m)
 exact ZpA I.kIn O (c.get m) k.at_ k.fn hn h
theorem Zmx {y : V} {u : Value} {Q : Unit → Shared → Prop} (I : Inv X pins σ H s) (e : H a=some (.ins C dx fs)) (c : Cls X.K C) (n : NoAttr X.K C f) (hl : fs.length<1000) (ry : RelV y u)
  (h:∀ s',Inv X pins σ (upd H a (.ins C dx (Zcb f y fs))) s'->Q () s'):wpAny (model X.prog X.w) A (setAttr (.ref a) f u) Q E s:=by
 obtain ⟨mA,O,r,wi,_,ho⟩:=Zii I.hok e
 have hz:(fs.map (·.1)).length≤sizeLine:=by rw [List.length_map,sizeLine_eq]; omega
 refine Zqi I.kIn O c.sa c.po n.taker c.hd wi hz fun h' O' sb=>h _ ?_
 have hd:∃ o,h'.get? dx=some o:=let ⟨o,_,_,e',_⟩:=O'.ns; ⟨o,e'⟩
 refine I.write (x:=a) (e:=dx) (by rw [e]; exact True.intro) (.inr ho) (fun b q hb z=>(sb.2 b hb).trans z) hd ?_
 refine ⟨by rw [Zak O.ne]; exact ho,?_,O.ne,O'.obj,_,O'.ns,fun g=>?_,fun g hg=>?_⟩
 ·have:=Zhx f y fs; omega
 ·show RelO ((Zcb f y fs).lookup g) (if g=f then some u else mA g)
  rw [Zhn]
  by_cases q:g=f
  ·rw [if_pos q,if_pos q]; exact ry
  ·rw [if_neg q,if_neg q]; exact r g
 ·by_cases q:g=f
  ·rw [q]; exact (ZgK f y fs).1
  ·refine (ZgK f y fs).2 g (wi g fun z=>hg ?_)
   show (if g=f then some u else mA g)=none
   rw [if_neg q]; exact z
theorem Inv.made (I : Inv X pins σ H s) : Inv X pins σ (upd (upd H s.heap.objs.size (.own (s.heap.objs.size + 1))) (s.heap.objs.size + 1) (.ins C s.heap.objs.size []))
  { s with heap:=(s.heap.push W.emptyDict).push (W.instObj C s.heap.objs.size) }:=by
 have e1:(s.heap.push W.emptyDict).get? s.heap.objs.size=some W.emptyDict:=Heap.get?_push_size s.heap rfl
 have e2:((s.heap.push W.emptyDict).push (W.instObj C s.heap.objs.size)).get? (s.heap.objs.size+1)=some (W.instObj C s.heap.objs.size):=by
  have:=Heap.get?_push_size (s.heap.push W.emptyDict) (o:=W.instObj C s.heap.objs.size) rfl
  rwa [Heap.size_push] at this
 have e3:(s.heap.push W.emptyDict).Ns s.heap.objs.size (fun _=>none):=⟨W.emptyDict,#[],_,e1,rfl,(fun e he=>absurd he (by simp)),fun _=>rfl⟩
 have I1:=I.laid (a:=s.heap.objs.size) (o:=.own (s.heap.objs.size+1)) (h':=s.heap.push W.emptyDict) (t':=s.toks) (fun b u q=>Heap.get?_push_of_some _ q) (Nat.le_refl _) ⟨_,e1⟩
 refine I1.laid (a:=s.heap.objs.size+1) (o:=.ins C s.heap.objs.size []) (t':=s.toks) (fun b u q=>Heap.get?_push_of_some _ q) (Nat.le_of_eq (Heap.size_push _ _)) ?_
 have ne:s.heap.objs.size≠s.heap.objs.size+1:=Nat.ne_of_lt (Nat.lt_succ_self _)
 refine ⟨by rw [Zak ne,Zab],Nat.zero_le _,ne,e2,fun _=>none,(Heap.Ns1.of_empty e3).at fun o q=>Heap.get?_push_of_some _ q,fun _=>True.intro,fun y hy=>absurd rfl hy⟩
theorem Zqv {prog : Program} {w : World} {env : Env} {e : Expr} {f : Str} {pos : Pos} {s : Shared} {Q : Value → Shared → Prop} (hb : attributeBase e f env (eval e env)=eval e env)
  (h:wpAny (model prog w) A (eval e env) (fun o s₁=>wpAny (model prog w) A (getAttr o f true) Q E s₁) E s):wpAny (model prog w) A (eval (.Attribute e f pos) env) Q E s :=
 Attribute_any_ h (by rw [arm_eval_Attribute,hb])
end
def Zsu (K:W.Frag) (ta:TE) (f:Str):TE:=fun σ H Q=>ta σ H fun x H1=>∃ a C dx fs v,x=.ref a∧H1 a=some (.ins C dx fs)∧Cls K C∧NoAttr K C f∧fs.lookup f=some v∧Q v H1
def ZsM (K:W.Frag) (ta tv:TE) (f:Str):TS:=fun D σ H=>tv σ H fun y H1=>ta σ H1 fun x H2=>∃ a C dx fs,x=.ref a∧H2 a=some (.ins C dx fs)∧Cls K C∧NoAttr K C f∧fs.length<1000 ∧
 D.nx σ (upd H2 a (.ins C dx (Zcb f y fs)))
section
variable {X:Cx} {o e value:Expr} {f:Str} {pos pos' tpos:Pos} {ta tv:TE}
theorem Zce (he:PE X e ta) (hb:attributeBase e f X.env (eval e X.env)=eval e X.env):PE X (.Attribute e f pos) (Zsu X.K ta f):=by
 intro pins s σ H Q I h
 refine Zqv hb (thn (he pins s σ H _ I h) fun u s1 ⟨x,H1,I1,rx,a,C,dx,fs,v,ex,ea,c,n,l,q⟩=>?_)
 subst ex
 obtain rfl:u=Value.ref a:=rx
 exact Zl5 I1 ea c n l fun u' s2 I2 ru=>⟨v,H1,I2,ru,q⟩
theorem Zj0 (ha:PE X o ta) (hv:PE X value tv) (hs:swapsWith value (some (.Attribute o f pos')) pos.line X.env=pure false):PS X (.Assign [.Attribute o f pos'] value pos) (ZsM X.K ta tv f):=by
 intro pins s σ H D I h
 refine plainObj_wpAny_Assign_Attribute (thn (hv pins s σ H _ I h) fun u s1 ⟨y,H1,I1,ry,q⟩=>thn (ha pins s1 σ H1 _ I1 q) fun ov s2 ⟨x,H2,I2,rx,a,C,dx,fs,ex,ea,c,n,l,q2⟩=>?_) hs
 subst ex
 obtain rfl:ov=Value.ref a:=rx
 exact Zmx I2 ea c n l ry fun s3 I3=>⟨σ,_,I3,q2⟩
end
section
variable {X:Cx} {pins:List (Addr × Obj)} {σ:St} {H:Hp} {s:Shared} {A:Around} {E:Value->Shared->Prop} {Q:Value->Shared->Prop} {c:Value} {b:Bool}
inductive TyOf (K:W.Frag) (H:Hp):V->Value->Prop where
 | non:TyOf K H .non (.type "NoneType")
 | bl (x:Bool):TyOf K H (.bl x) (.type "bool")
 | int (i:Int):TyOf K H (.int i) (.type "int")
 | str (x:Str):TyOf K H (.str x) (.type "str")
 | flt (x:UInt64):TyOf K H (.flt x) (.type "float")
 | lst {a:Addr} {xs:List V} (e:H a=some (.lst xs)):TyOf K H (.ref a) (.type "list")
 | frz {a:Addr} {o:Obj} {xs:List V} (e:H a=some (.frz o (.lst xs))):TyOf K H (.ref a) (.type "list")
 | tup {a:Addr} {xs:List V} (e:H a=some (.tup xs)):TyOf K H (.ref a) (.type "tuple")
 | dK {a:Addr} {kvs:List (Key × V)} (e:H a=some (.dK kvs)):TyOf K H (.ref a) (.type "dict")
 | dT {a:Addr} {kvs:List (List Key × V)} (e:H a=some (.dT kvs)):TyOf K H (.ref a) (.type "dict")
 | ins {a C dx : Addr} {fs : List (Str × V)} (e : H a=some (.ins C dx fs)) (cl : Cls K C) (ha : W.findIn K (.ref C) "__class__"=some (some (.builtin "object.__class__")))
   (hn:W.specialIn K (.builtin "object.__class__") "__get__"=some (some (.builtin "getset_descriptor.__get__"))) (htk:W.takesIn K (.builtin "object.__class__")=some true)
   (hm:W.mroIn K C (.type "object")=some true):TyOf K H (.ref a) (.ref C)
theorem ZnV {x : V} {u t : Value} (I : Inv X pins σ H s) (rx : RelV x u) (ty : TyOf X.K H x t) (e : W.kitOne X.K t c=some b) (h : ∀ tk, Q (.bool b) { s with toks := tk }) :
  wpAny (model X.prog X.w) A (call (.builtin "isinstance") [u,c]) Q E s:=by
 cases ty with
 | non=>cases (show u=Value.none from rx); exact W.kia_one W.kitx_none I.kIn True.intro e (fun z=>nomatch z) h
 | bl y=>cases (show u=Value.bool y from rx); exact W.kia_one W.kitx_bool I.kIn True.intro e (fun z=>nomatch z) h
 | int i=>obtain ⟨t,q⟩:=(show ∃ t,u=Value.int i t from rx); cases q; exact W.kia_one W.kitx_int I.kIn True.intro e (fun z=>nomatch z) h
 | str y=>obtain ⟨t,q⟩:=(show ∃ t,u=Value.str y t from rx); cases q; exact W.kia_one W.kitx_str I.kIn True.intro e (fun z=>nomatch z) h
 | flt y=>obtain ⟨t,q⟩:=(show ∃ t,u=Value.float y t from rx); cases q; exact W.kia_one W.kitx_float I.kIn True.intro e (fun z=>nomatch z) h
 | @lst a xs ea =>
  cases (show u=Value.ref a from rx)
  obtain ⟨_,_,n,_,h1⟩:=(show ObjOk X.prog X.w H s.heap a (.lst xs) from I.hok a _ ea)
  exact W.kia_one W.kitx_list I.kIn ⟨_,h1,rfl⟩ e (fun z=>nomatch z) h
 | @frz a ob xs ea =>
  cases (show u=Value.ref a from rx)
  obtain ⟨_,_,_,n,_,h1⟩:=(show ObjOk X.prog X.w H s.heap a (.frz ob (.lst xs)) from I.hok a _ ea)
  exact W.kia_one W.kitx_list I.kIn ⟨_,h1,rfl⟩ e (fun z=>nomatch z) h
 | @tup a xs ea =>
  cases (show u=Value.ref a from rx)
  obtain ⟨_,_,_,p⟩:=(show ObjOk X.prog X.w H s.heap a (.tup xs) from I.hok a _ ea)
  obtain ⟨o,h1,h2,_⟩:=p
  exact W.kia_one W.kitx_tuple I.kIn ⟨o,h1,h2⟩ e (fun z=>nomatch z) h
 | @dK a kvs ea =>
  cases (show u=Value.ref a from rx)
  obtain ⟨_,_,vs,_,p⟩:=(show ObjOk X.prog X.w H s.heap a (.dK kvs) from I.hok a _ ea)
  obtain ⟨o,es,ep,h1,h2,_⟩:=p
  exact W.kia_one W.kitx_dict I.kIn ⟨o,h1,h2.1⟩ e (fun z=>nomatch z) h
 | @dT a kvs ea =>
  cases (show u=Value.ref a from rx)
  obtain ⟨_,_,xs,_,o,es,ep,h1,h2,_⟩:=(show ObjOk X.prog X.w H s.heap a (.dT kvs) from I.hok a _ ea)
  exact W.kia_one W.kitx_dict I.kIn ⟨o,h1,h2.1⟩ e (fun z=>nomatch z) h
 | @ins a C dx fs ea cl ha hn htk hm =>
  cases (show u=Value.ref a from rx)
  obtain ⟨mA,O,_⟩:=Zii I.hok ea
  obtain ⟨od,J,_⟩:=O.look
  exact W.kia_one (W.kitx_own (cl.get _) cl.hd ha hn htk hm) I.kIn J e (fun z=>nomatch z) h
end
structure Room (k:Nat) (A:Around):Prop where
 hd:A.handled=none
 dp:A.depth+3*k+5<recursionLimit
 un:A.units+16*k+200<cLine
theorem Room.mono {j k:Nat} {A:Around} (r:Room k A) (h:j≤k):Room j A:=⟨r.hd,by have:=r.dp; omega,by have:=r.un; omega⟩
theorem Room.deeper {k:Nat} {A:Around} (r:Room (k+1) A) (env:Env):Room k (A.deeper env) :=
 ⟨r.hd,by have:=r.dp; show A.depth+1+3*k+5<_; omega,by have:=r.un; show A.units+3+16*k+200<_; omega⟩
theorem Zmk {A:Around} {C:Addr} {us:List Value} {kw:List (Str × Value)}:(A.under (.builtin "type.__call__" ⟨.ref C :: us,kw⟩)).depth=A.depth+1:=by
 first | rfl | simp [Around.under,Code.weight,Code.isCreation,Code.isGuard,Code.isCaller,Code.frames,Code.isFrame,guardIds]
theorem Zmd {A:Around} {C:Addr} {us:List Value} {kw:List (Str × Value)}:(A.under (.builtin "type.__call__" ⟨.ref C :: us,kw⟩)).units=A.units+1:=by
 first | rfl | simp [Around.under,Code.cUnits,Code.frames,Code.isFrame]
theorem Room.make {k:Nat} {A:Around} (r:Room (k+1) A) (C:Addr) (us:List Value) (kw:List (Str × Value)):Room k (A.under (.builtin "type.__call__" ⟨.ref C :: us,kw⟩)) :=
 ⟨r.hd,by have:=r.dp; rw [Zmk]; omega,by have:=r.un; rw [Zmd]; omega⟩
theorem Room.depth {k:Nat} {A:Around} (r:Room k A):A.depth<recursionLimit:=by have:=r.dp; omega
theorem Room.units {k:Nat} {A:Around} (r:Room k A):A.units+64<cLine:=by have:=r.un; omega
def ZrV:TA:=fun _ H Q=>Q [] H
def ZqF (ta:TE) (tr:TA):TA:=fun σ H Q=>ta σ H fun x H1=>tr σ H1 fun xs H2=>Q (x :: xs) H2
section
variable {X:Cx} {e:Expr} {es:List Expr} {te:TE} {t:TA} {pos:Pos}
theorem Zad:PA X [] ZrV:=fun _ _ _ _ H Q I h=>Calls.spliced_nil ⟨[],H,I,.nil,h⟩
theorem Zaa (ha:PE X e te) (hr:PA X es t) (hs:starEach (e :: es) X.env=(false,eval e X.env) :: starEach es X.env:=by rfl):PA X (e :: es) (ZqF te t):=by
 intro pos pins s σ H Q I h
 rw [hs]
 show wpAny _ _ (spliced ((false,eval e X.env) :: backTo pos (starEach es X.env))) _ _ s
 refine Calls.spliced_cons (thn (ha pins s σ H _ I h) fun u s1 ⟨x,H1,I1,r1,q1⟩=>?_)
 exact thn (hr pos pins s1 σ H1 _ I1 q1) fun us s2 ⟨xs,H2,I2,r2,q2⟩=>⟨x :: xs,H2,I2,.cons r1 r2,q2⟩
def Zsv (t:TA):TE:=fun σ H Q=>t σ H fun xs H1=>xs.length≤sizeLine∧∀ p,H1 p=none->Q (.ref p) (upd H1 p (.tup xs))
def Zs2 (t:TA):TE:=fun σ H Q=>t σ H fun xs H1=>xs.length≤sizeLine∧∀ p,H1 p=none->Q (.ref p) (upd H1 p (.lst xs))
theorem Zbd {x1} (h:PA X es t):PE X (.Tuple es x1 pos) (Zsv t):=by
 intro pins s σ H Q I hq
 refine wpAny_Tuple_spliced (thn (h pos pins s σ H _ I hq) fun us s1 ⟨xs,H1,I1,r,z,q⟩=>⟨by rw [← r.length]; exact z,?_⟩)
 have hf:H1 s1.heap.objs.size=none:=I1.hok.fresh (Nat.le_refl _)
 refine ⟨.ref s1.heap.objs.size,upd H1 s1.heap.objs.size (.tup xs),I1.laid (t':=s1.toks) (fun b u e=>Heap.get?_push_of_some _ e) (Nat.le_refl _) ?_,rfl,q _ hf⟩
 exact ⟨z,us,r,⟨_,Heap.get?_push_size _ rfl,rfl,_,rfl⟩⟩
theorem Zch (h:PA X es t):PE X (.List es pos) (Zs2 t):=by
 intro pins s σ H Q I hq
 refine wpAny_List_spliced (thn (h pos pins s σ H _ I hq) fun us s1 ⟨xs,H1,I1,r,z,q⟩=>⟨by rw [← r.length]; exact z,?_⟩)
 have hf:H1 s1.heap.objs.size=none:=I1.hok.fresh (Nat.le_refl _)
 refine ⟨.ref s1.heap.objs.size,upd H1 s1.heap.objs.size (.lst xs),I1.laid (t':=s1.toks) (fun b u e=>Heap.get?_push_of_some _ e) (Nat.le_refl _) ?_,rfl,q _ hf⟩
 exact ⟨z,us,0,r,Heap.get?_push_size _ rfl⟩
end
abbrev Sp:=List V->Hp->VK->XK->Prop
abbrev CXT:=List Env->Hp->Shared->XK->Value->Shared->Prop
structure Env0 (P:Program) (w:World) (K:W.Frag) (mg:Str->Option Value) (base:Heap) (A:Around) (outer:List Env) (s:Shared) (H:Hp):Prop where
 frames:A.frames=some outer
 mod:Mod K mg base
 bs:∀ b o,base.get? b=some o->s.heap.get? b=some o∧H b=none
 bsz:base.objs.size≤s.heap.objs.size
 funs:s.heap.FunFrames base outer
 frf:∀ b∈frs outer,H b=none
 hok:HOk P w H s.heap
 bare:AllBare s.gens
def CE (outer:List Env) (P:Program) (w:World) (H:Hp) (s:Shared) (Q:VK) (u:Value) (s':Shared):Prop :=
 ∃ v H',s'.os=s.os∧AllBare s'.gens∧Un (frs outer) [] H H' s.heap s'.heap∧HOk P w H' s'.heap∧RelV v u∧Q v H'
def CR (CX:CXT) (outer:List Env) (P:Program) (w:World) (H:Hp) (s:Shared) (Q:VK) (E:XK) (r:Result) (s':Shared):Prop :=
 match r with
 | .ok (.ret u)=>CE outer P w H s Q u s'
 | .ok _=>False
 | .error e=>CX outer H s E e s'
structure FnOk (P:Program) (w:World) (K:W.Frag) (mg:Str->Option Value) (base:Heap) (CX:CXT) (k:Nat) (f:Addr) (fd:FuncData) (ps:List Str) (sp:Sp):Prop where
 len:∀ vs H Q E,sp vs H Q E->vs.length=ps.length
 run:∀ (A:Around) (outer:List Env) (s:Shared) (H:Hp) (args:Args) (us:List Value) (vs:List V) (Q:VK) (E:XK),Room k A->Env0 P w K mg base A outer s H->BindsTo s fd args (ps.zip us)->Vals vs us->sp vs H Q E →
  codeAny (model P w) A (.call (.ref f) args) (CR CX outer P w H s Q E) s
theorem FnOk.imp {P : Program} {w : World} {K : W.Frag} {mg : Str → Option Value} {base : Heap} {CX : CXT} {k : Nat} {f : Addr} {fd : FuncData} {ps : List Str} {sp sp' : Sp} (F : FnOk P w K mg base CX k f fd ps sp)
  (h:∀ vs H Q E,sp' vs H Q E->sp vs H Q E):FnOk P w K mg base CX k f fd ps sp' :=
 ⟨fun vs H Q E q=>F.len vs H Q E (h _ _ _ _ q),fun A outer s H args us vs Q E hr he hb hv hs=>F.run A outer s H args us vs Q E hr he hb hv (h _ _ _ _ hs)⟩
theorem Env0.make {P : Program} {w : World} {K : W.Frag} {mg : Str → Option Value} {base : Heap} {A : Around} {outer : List Env} {s : Shared} {H : Hp} (e : Env0 P w K mg base A outer s H) (C : Addr) (us : List Value) (kw : List (Str × Value)) :
  Env0 P w K mg base (A.under (.builtin "type.__call__" ⟨.ref C :: us,kw⟩)) outer s H:=⟨by first | exact e.frames | (simpa [Around.under,Code.envs,Code.isFrame,pushEnvs] using e.frames),e.mod,e.bs,e.bsz,e.funs,e.frf,e.hok,e.bare⟩
section
variable {X:Cx} {pins:List (Addr × Obj)} {σ:St} {H:Hp} {s s':Shared}
theorem Inv.env0 (I:Inv X pins σ H s):Env0 X.prog X.w X.K X.mg X.base X.A X.stack s H :=
 ⟨I.ok.frames,I.ok.mod,I.bs,Nat.le_trans I.ok.bsz I.sz,I.stack,I.stkFree,I.hok,I.bare⟩
theorem Inv.after {Q:VK} {u:Value} (I:Inv X pins σ H s) (h:CE X.stack X.prog X.w H s Q u s'):EP X pins σ Q u s':=by
 obtain ⟨v,H',os,bare,un,hok,r,q⟩:=h
 obtain ⟨hh,g,d,t,os'⟩:=s'
 obtain rfl:os'=s.os:=os
 exact ⟨v,H',I.call (h':=hh) (g':=g) (d':=d) (t':=t) (ch:=[]) un hok bare (fun b z=>absurd z (by simp)),r,q⟩
end
def Binds (K:W.Frag) (fd:FuncData) (ps:List Str) (ds:List Value):Prop :=
 ∀ (s:Shared) (us:List Value),K.In s.heap->(us++ds).length=ps.length->BindsTo s fd ⟨us,[]⟩ (ps.zip (us++ds))
theorem Binds.all {K:W.Frag} {fd:FuncData} {ps:List Str} (h:∀ us:List Value,us.length=ps.length->bindArgs fd ⟨us,[]⟩=pure (ps.zip us)):Binds K fd ps []:=fun s us _ hl=>by
 rw [List.append_nil] at hl ⊢
 exact .of_eq (h us hl)
def ZpV (CX:CXT) (X:Cx) (E:XK):Prop:=∀ (pins:List (Addr × Obj)) (σ:St) (H:Hp) (s:Shared) (e:Value) (s':Shared),Inv X pins σ H s->CX X.stack H s E e s'->X.xe e s'
section
variable {X:Cx} {CX:CXT} {k:Nat} {f C:Addr} {fd:FuncData} {ps:List Str} {sp:Sp} {dvs:List V} {ds:List Value} {E:XK} {x m:Str} {p pos apos:Pos} {e o:Expr} {es:List Expr} {ta:TE} {t:TA}
theorem Zrm {pins : List (Addr × Obj)} {σ : St} {H : Hp} {s : Shared} {Q : VK} {us : List Value} {vs : List V} (F : FnOk X.prog X.w X.K X.mg X.base CX k f fd ps sp) (hr : Room k X.A) (hb : Binds X.K fd ps ds) (hd : Vals dvs ds) (hx : ZpV CX X E)
  (I:Inv X pins σ H s) (r:Vals vs us) (h:sp (vs++dvs) H Q E):wpAny (model X.prog X.w) X.A (call (.ref f) us) (EP X pins σ Q) X.xe s:=by
 have r2:Vals (vs++dvs) (us++ds):=r.append hd
 have hl:(us++ds).length=ps.length:=by rw [← r2.length]; exact F.len _ _ _ _ h
 refine wpAny_call (codeAny_mono (F.run X.A X.stack s H ⟨us,[]⟩ (us++ds) (vs++dvs) Q E hr I.env0 (hb s us I.kIn hl) r2 h) fun r s' hq=>?_)
 cases r with
 | error e=>exact hx pins σ H s e s' I hq
 | ok fl =>
  cases fl with
  | ret u=>exact I.after hq
  | next=>exact False.elim hq
  | brk=>exact False.elim hq
  | cont=>exact False.elim hq
structure Mk (K:W.Frag) (C f:Addr):Prop where
 makes:W.makesIn K C=true
 init:W.findIn K (.ref C) "__init__"=some (some (.ref f))
 fn:W.isFn K (.ref f)=true
 kp:W.keepIn K (.ref C)=true
end
section
variable {X:Cx} {CX:CXT} {k:Nat} {f C:Addr} {fd:FuncData} {ps ks:List Str} {sp:Sp} {E:XK} {x m:Str} {p pos apos kpos:Pos} {e o:Expr} {es:List Expr} {kws:List Keyword} {te ta:TE} {t tk:TA} {nm:Option Str}
structure KBinds (K:W.Frag) (fd:FuncData) (ps ks:List Str) (g:List Value->List Value->List Value) (gV:List V->List V->List V):Prop where
 to:∀ (s:Shared) (us ws:List Value),K.In s.heap->(g us ws).length=ps.length->BindsTo s fd ⟨us,ks.zip ws⟩ (ps.zip (g us ws))
 rel:∀ {vs:List V} {us:List Value} {zs:List V} {ws:List Value},Vals vs us->Vals zs ws->Vals (gV vs zs) (g us ws)
variable {g:List Value->List Value->List Value} {gV:List V->List V->List V}
end
structure FnScope (N P:List Str) (sc:Scope):Prop where
 kind:sc.kind=.function
 co:sc.isCoroutine=false
 gen:sc.isGenerator=false
 nd:N.Nodup
 pre:N.take P.length=P
 par:∀ x∈P,sc.names.lookup x=some .local∨sc.names.lookup x=some .cell
 nofree:∀ y∈sc.names,y.2≠.free
theorem ZjX {kindOf:Str->Option NameKind} {x:Str}:∀ {binds:List (Str × Value)} {m:Str->Option Value},(∀ v,(x,v) ∉ binds)->bindL kindOf binds m x=m x
 | [],_,_=>rfl
 | (n,v) :: r,m,h=>by
  unfold bindL
  rw [ZjX fun w hw=>h w (List.mem_cons_of_mem _ hw)]
  split
  ·have:x≠n:=by rintro rfl; exact h v List.mem_cons_self
   simp [this]
  ·rfl
theorem Zkt {kindOf:Str->Option NameKind} {x:Str}:∀ {binds:List (Str × Value)} {m:Str->Option Value},(∀ v,(x,v) ∉ binds)->bindC kindOf binds m x=m x
 | [],_,_=>rfl
 | (n,v) :: r,m,h=>by
  unfold bindC
  rw [Zkt fun w hw=>h w (List.mem_cons_of_mem _ hw)]
  split
  ·rfl
  ·have:x≠n:=by rintro rfl; exact h v List.mem_cons_self
   simp [this]
theorem Zjm {kindOf : Str → Option NameKind} {x : Str} {v : Value} : ∀ {P : List Str} {vs : List Value} {i : Nat} {m : Str → Option Value}, P.Nodup → P[i]?=some x → vs[i]?=some v → kindOf x=some .local →
  bindL kindOf (P.zip vs) m x=some v
 | [],_,_,_,_,h,_,_=>by simp at h
 | _ :: _,[],_,_,_,_,h,_=>by simp at h
 | p :: P,w :: vs,0,m,nd,h1,h2,hk=>by
  simp at h1 h2; subst h1; subst h2
  show bindL kindOf ((p,w) :: P.zip vs) m p=_
  unfold bindL
  rw [ZjX fun v hv=>(List.nodup_cons.mp nd).1 (List.of_mem_zip hv).1,if_pos hk]
  simp
 | p :: P,w :: vs,i+1,m,nd,h1,h2,hk=>by
  show bindL kindOf ((p,w) :: P.zip vs) m x=_
  unfold bindL
  exact Zjm (i:=i) (List.nodup_cons.mp nd).2 (by simpa using h1) (by simpa using h2) hk
theorem ZjE {kindOf : Str → Option NameKind} {x : Str} {v : Value} : ∀ {P : List Str} {vs : List Value} {i : Nat} {m : Str → Option Value}, P.Nodup → P[i]?=some x → vs[i]?=some v → kindOf x ≠ some .local →
  bindC kindOf (P.zip vs) m x=some v
 | [],_,_,_,_,h,_,_=>by simp at h
 | _ :: _,[],_,_,_,_,h,_=>by simp at h
 | p :: P,w :: vs,0,m,nd,h1,h2,hk=>by
  simp at h1 h2; subst h1; subst h2
  show bindC kindOf ((p,w) :: P.zip vs) m p=_
  unfold bindC
  rw [Zkt fun v hv=>(List.nodup_cons.mp nd).1 (List.of_mem_zip hv).1,if_neg hk]
  simp
 | p :: P,w :: vs,i+1,m,nd,h1,h2,hk=>by
  show bindC kindOf ((p,w) :: P.zip vs) m x=_
  unfold bindC
  exact ZjE (i:=i) (List.nodup_cons.mp nd).2 (by simpa using h1) (by simpa using h2) hk
noncomputable def start (N:List Str) (vs:List V):St:=vs.map some++List.replicate (N.length-vs.length) none
noncomputable def Zo0 (CX:CXT) (P:Program) (w:World) (K:W.Frag) (mg:Str->Option Value) (base:Heap) (N:List Str) (qual:Str) (scope:Scope) (f:Addr) (cd:Value) (A:Around) (outer:List Env) (s:Shared) (H:Hp) (E:XK):Cx where
 prog:=P
 w:=w
 K:=K
 mg:=mg
 base:=base
 A:=A.deeper (envOfC qual scope s.heap.objs.size f cd)
 N:=N
 s₀:=s
 H₀:=H
 env:=envOfC qual scope s.heap.objs.size f cd
 outer:=outer
 stack:=envOfC qual scope s.heap.objs.size f cd :: outer
 ex:=[]
 calm:=true
 fn:=fun _=>true
 pn:=[]
 xe:=fun e s'=>wpAny (model P w) (A.deeper (envOfC qual scope s.heap.objs.size f cd)) (leaving (envOfC qual scope s.heap.objs.size f cd) e) (fun _ s''=>CX outer H s E e s'') (fun e' s''=>CX outer H s E e' s'') s'
theorem ZlC {sc:Scope} {n:Nat} {x:Str} (h:sc.names.lookup x=some .cell):∃ c,(cellsFrom n sc.names []).lookup x=some c:=by
 have q:=W.cellsFrom_some sc.names n [] (.inl h)
 exact Option.isSome_iff_exists.mp q
theorem Zn0 {CX : CXT} {P : Program} {w : World} {K : W.Frag} {mg : Str → Option Value} {base : Heap} {N ps : List Str} {qual : Str} {scope : Scope} {f : Addr} {cd : Value} {A : Around} {outer : List Env} {s s1 : Shared} {H : Hp} {E : XK} {us : List Value} {vs : List V}
  (S:FnScope N ps scope) (hd:A.handled=none) (e0:Env0 P w K mg base A outer s H) (hl:vs.length=ps.length) (r:Vals vs us)
  (x:InCallC s s.heap.objs.size (bindL (envOfC qual scope s.heap.objs.size f cd).kindOf (ps.zip us) fun _=>none) (cellsFrom (s.heap.objs.size+1) scope.names []) (bindC (envOfC qual scope s.heap.objs.size f cd).kindOf (ps.zip us) fun _=>none) s1) :
  Inv (Zo0 CX P w K mg base N qual scope f cd A outer s H E) [] (start N vs) H s1:=by
 have hpl:ps.length≤N.length:=by have:=congrArg List.length S.pre; rw [List.length_take] at this; omega
 obtain ⟨h1,tk,rfl,hk⟩:=x.done
 have noA:∀ b:Addr,b ∉ (Zo0 CX P w K mg base N qual scope f cd A outer s H E).ex:=fun b z=>absurd (show b∈([]:List Addr) from z) (by simp)
 refine ⟨⟨e0.mod,S.kind,rfl,rfl,Nat.le_refl _,fun y z c h1 h2=>?_,fun y hy=>?_,fun y c _ h=>?_,fun _=>hd,Around.frames_deeper e0.frames,.inr ⟨rfl,rfl⟩,fun b z=>absurd z (noA b),e0.bs,e0.bsz,fun b _ _=>noA b,fun b z=>absurd z (noA b),e0.funs,e0.frf⟩,
  rfl,e0.bare,Un.kept hk,⟨_,x.toInCall.ns,fun i y v h1 h2 h3=>?_⟩,fun y c h=>⟨_,x.cell y c h⟩,e0.hok.fresh (Nat.le_refl _),fun y c h=>?_,fun p hp=>absurd (show p∈([]:List (Addr × Obj)) from hp) (by simp),e0.hok.kept hk,?_⟩
 ·exact name_of_addr x.apart (PySem.mem_of_lookup h1) (PySem.mem_of_lookup h2)
 ·have hy:scope.names.lookup y=some .cell∨scope.names.lookup y=some .free:=hy
  rcases hy with hy | hy
  ·exact ZlC hy
  ·exact absurd rfl (S.nofree _ (PySem.mem_of_lookup hy))
 ·exact Nat.le_of_lt (x.above y c (PySem.mem_of_lookup h))
 ·have hi:i<vs.length:=by
   unfold start at h2
   by_cases hi:i<vs.length
   ·exact hi
   ·rw [List.getElem?_append_right (by simpa using hi)] at h2
    rw [List.getElem?_replicate] at h2
    split at h2 <;> cases h2
  have ha:vs[i]?=some v:=by
   unfold start at h2
   rw [List.getElem?_append_left (by simpa using hi),List.getElem?_map] at h2
   cases e:vs[i]? with
   | none=>rw [e] at h2; cases h2
   | some a=>rw [e] at h2; cases h2; rfl
  obtain ⟨u,hu,rv⟩:=r.get ha
  have hp:ps[i]?=some y:=by
   rw [← S.pre,List.getElem?_take_of_lt (by omega)]; exact h1
  have ndP:ps.Nodup:=by rw [← S.pre]; exact S.nd.sublist (List.take_sublist _ _)
  refine ⟨u,rv,?_⟩
  rcases S.par y (List.mem_of_getElem? hp) with k | k
  ·exact .inl ⟨k,Zjm ndP hp hu k⟩
  ·obtain ⟨c,e⟩:=ZlC (n:=s.heap.objs.size+1) k
   refine .inr ⟨.inl k,c,e,?_⟩
   have q:=x.cell y c e
   rw [ZjE ndP hp hu (by show scope.names.lookup y≠_; rw [k]; decide)] at q
   exact q
 ·exact e0.hok.fresh (Nat.le_of_lt (x.above y c (PySem.mem_of_lookup h)))
 ·unfold start
  show _=N.length
  rw [List.length_append,List.length_map,List.length_replicate]
  omega
theorem ZrI {CX : CXT} {P : Program} {w : World} {K : W.Frag} {mg : Str → Option Value} {base : Heap} {k : Nat} {f : Addr} {name qual : Str} {params : Arguments} {body : List Stmt} {scope : Scope} {dV kV doc pm cdv ct oc : Value} {an od : Option Addr}
  {osl:Array (Option Value)} {N ps:List Str} {sp:Sp} (lk:K.lookup f=some ⟨oc,od,.func (W.fnOf name qual params body scope dV kV doc pm an cdv ct),osl⟩) (hcd:W.codeIn K cdv qual=true) (S:FnScope N ps scope)
  (len:∀ vs H Q E,sp vs H Q E->vs.length=ps.length)
  (hbody:∀ (A:Around) (outer:List Env) (s:Shared) (H:Hp) (vs:List V) (Q:VK) (E:XK),Room k (A.deeper (envOfC qual scope s.heap.objs.size f cdv))->sp vs H Q E →
   ∃ t,PSs (Zo0 CX P w K mg base N qual scope f cdv A outer s H E) body t∧t { nx:=fun _ H'=>Q .non H',rt:=Q } (start N vs) H) :
  FnOk P w K mg base CX (k+1) f (W.fnOf name qual params body scope dV kV doc pm an cdv ct) ps sp:=by
 refine ⟨len,fun A outer s H args us vs Q E hr e0 hb r hsp=>?_⟩
 have hl:=len _ _ _ _ hsp
 have KX:K.In s.heap:=e0.mod.kin.keeps fun b o e=>(e0.bs b o e).1
 have lim:s.heap.NoLimit:=e0.mod.nolimit.keeps fun b o e=>(e0.bs b o e).1
 have hkind:∀ y∈ps.zip us,scope.names.lookup y.1=some .local∨(scope.names.lookup y.1=some .cell∧((cellsFrom (s.heap.objs.size+1) scope.names []).lookup y.1).isSome=true):=fun ⟨n,v⟩ hy=>by
  rcases S.par n (List.of_mem_zip hy).1 with q | q
  ·exact .inl q
  ·exact .inr ⟨q,W.cellsFrom_some _ _ _ (.inl q)⟩
 refine codeAny_call_function hr.depth (KX _ _ lk) rfl S.co S.gen rfl (W.codeRec_of KX hcd) (hb _ _ _ _ ?_)
 refine wpAny_newFunctionEnv_cells S.kind hkind fun env he s1 x=>?_
 subst he
 refine ⟨lim.keeps x.toInCall.keep,codeAny_func ?_⟩
 obtain ⟨t,ht,hq⟩:=hbody A outer s H vs Q E (hr.deeper _) hsp
 have I:Inv (Zo0 CX P w K mg base N qual scope f cdv A outer s H E) [] (start N vs) H s1:=Zn0 S hr.hd e0 hl r x
 refine wpAny_mono (ht [] s1 (start N vs) H _ I hq) (fun fl s' hs=>?_) fun e s' hs=>hs
 have fin:∀ {σ':St} {H':Hp} {v:V} {u:Value},Inv (Zo0 CX P w K mg base N qual scope f cdv A outer s H E) [] σ' H' s'->RelV v u->Q v H'->CE outer P w H s Q u s' :=
  fun {σ' H' v u} J rv q=>⟨v,H',J.os,J.bare,J.base,J.hok,rv,q⟩
 cases fl with
 | ret u =>
  obtain ⟨v,σ',H',J,rv,q⟩:=hs
  exact fin J rv q
 | next =>
  obtain ⟨σ',H',J,q⟩:=hs
  exact fin (v:=V.non) (u:=Value.none) J rfl q
 | brk =>
  obtain ⟨_,_,_,q⟩:=hs
  exact False.elim q
 | cont =>
  obtain ⟨_,_,_,q⟩:=hs
  exact False.elim q
section
variable {X:Cx} {x:Str} {p pos:Pos} {e:Expr} {es:List Expr} {t:TA} {id T:String} {r:List V->Hp->VK->Prop}
def tCB (r:List V->Hp->VK->Prop) (t:TA):TE:=fun σ H Q=>t σ H fun vs H1=>r vs H1 Q
theorem Zaz (hc : Zdd X (.builtin id) r) (hg : Gl X x) (hm : X.mg x=none) (hv : bootBuiltins x=some (.builtin id)) (ha : PA X (e :: es) t) (hn : x ≠ "__name__" := by decide) (hdb : (x == ("__debug__" : Str))=false := by decide)
  (he:starEach (e :: es) X.env=(false,eval e X.env) :: starEach es X.env:=by rfl) (hpl:(backTo pos (starEach es X.env)).any (·.1)=false:=by rfl):PE X (.Call (.Name x p) (e :: es) [] pos) (tCB r t):=by
 intro pins s σ H Q I h
 refine wpAny_Call_Name_kw (Zkd I hg hm hv ?_ hn hdb)
 exact PyProof.Rows.callWith_builtin1 (thn (ha pos pins s σ H _ I h) fun us s1 ⟨vs,H1,I1,r1,q1⟩=>hc pins s1 σ H1 vs us Q I1 r1 q1) he hpl
theorem ZnR (hc : Zdd X (.type T) r) (hg : Gl X x) (hm : X.mg x=none) (hv : bootBuiltins x=some (.type T)) (ha : PA X (e :: es) t) (hn : x ≠ "__name__" := by decide) (hdb : (x == ("__debug__" : Str))=false := by decide)
  (he:starEach (e :: es) X.env=(false,eval e X.env) :: starEach es X.env:=by rfl) (hpl:(backTo pos (starEach es X.env)).any (·.1)=false:=by rfl):PE X (.Call (.Name x p) (e :: es) [] pos) (tCB r t):=by
 intro pins s σ H Q I h
 refine wpAny_Call_Name_kw (Zkd I hg hm hv ?_ hn hdb)
 exact PyProof.Rows.callWith_type1 (thn (ha pos pins s σ H _ I h) fun us s1 ⟨vs,H1,I1,r1,q1⟩=>hc pins s1 σ H1 vs us Q I1 r1 q1) he hpl
end
end L2
namespace HT
open PySem PyProof.Rows
section
open PySem.SeqAt
open PySem.AutoSeq1 (wpAny_loadPart')
open PySem.MeetsSeq PySem.MeetsSeq2 PySem.MeetsSeq3
end
section
variable {prog:Program} {w:World} {A:Around} {E:Value->Shared->Prop} {s:Shared}
theorem cat_tup {t b : Addr} {vs ws : List Value} {Q : Value → Shared → Prop} (ht : IsTup s.heap t vs.toArray) (hb : IsTup s.heap b ws.toArray) (hv : vs ≠ [])
  (h1:ws=[]->Q (.ref t) s) (h2:ws≠[]->Q (.ref s.heap.objs.size) { s with heap:=s.heap.push { cls:=.type "tuple",data:=.seq (vs++ws).toArray } })
  (hsz:vs.length+ws.length≤sizeLine):wpAny (model prog w) A (binaryOp .Add (.ref t) (.ref b)) Q E s:=by
 obtain ⟨⟨cls,dd,data,sl⟩,ho,hc,n,hd⟩:=id ht
 obtain ⟨⟨cls2,dd2,data2,sl2⟩,ho2,hc2,n2,hd2⟩:=id hb
 simp only at hc hd hc2 hd2
 subst hc hd hc2 hd2
 have e:vs.toArray++ws.toArray=(vs++ws).toArray:=by simp
 by_cases hw:ws=[]
 ·exact concat_meets ⟨_,ho,rfl⟩ ⟨_,ho2,rfl⟩ noFill_tuple_add seq_tuple_add PySem.F.slot_tuple_add PySem.F.entry_tuple_add (PySem.F.args_tuple_add_2 _ _)
   (tuple_addW1 t b vs.toArray ws.toArray n n2 dd dd2 sl sl2 (by simpa using hv) (by simp [hw])) ⟨ho,ho2,h1 hw⟩
 ·refine concat_meets ⟨_,ho,rfl⟩ ⟨_,ho2,rfl⟩ noFill_tuple_add seq_tuple_add PySem.F.slot_tuple_add PySem.F.entry_tuple_add (PySem.F.args_tuple_add_2 _ _)
   (tuple_addW2 t b vs.toArray ws.toArray n n2 dd dd2 sl sl2 (by simpa using hv) (by simpa using hw) (by rw [List.size_toArray,List.size_toArray]; exact hsz)) ⟨ho,ho2,?_⟩
  rw [e]
  exact h2 hw
noncomputable def sIx (n d:Nat):Option Int->Nat
 | none=>d
 | some v=>if v<0 then (v+(n:Int)).toNat else min v.toNat n
theorem sIx_nat (n d k:Nat):sIx n d (some (k:Int))=min k n:=by
 show (if (k:Int)<0 then ((k:Int)+(n:Int)).toNat else min (k:Int).toNat n)=min k n
 rw [if_neg (by omega),Int.toNat_natCast]
theorem ZrK (n d:Nat) (hd:d≤n) (o:Option Int):sIx n d o≤n:=by
 cases o with
 | none=>exact hd
 | some v =>
  show (if v<0 then (v+(n:Int)).toNat else min v.toNat n)≤n
  by_cases hv:v<0
  ·rw [if_pos hv]; omega
  ·rw [if_neg hv]; exact Nat.min_le_right _ _
theorem ZnO (v:Int) (n d:Nat):(if v<0 then max (v+(n:Int)) 0 else min v (n:Int))=((sIx n d (some v):Nat):Int):=by
 show (if v<0 then max (v+(n:Int)) 0 else min v (n:Int))=(((if v<0 then (v+(n:Int)).toNat else min v.toNat n):Nat):Int)
 by_cases hv:v<0
 ·simp only [if_pos hv]; omega
 ·simp only [if_neg hv]; omega
theorem Zmc (lo hi:Option Int) (n:Nat):Builtin.Slice.sliceAdjust lo hi 1 (n:Int)=(((sIx n 0 lo:Nat):Int),((sIx n n hi:Nat):Int)):=by
 have h1:¬ ((1:Int)<0):=by omega
 unfold Builtin.Slice.sliceAdjust
 simp only [h1,if_false]
 refine Prod.ext ?_ ?_
 ·cases lo with
  | none=>rfl
  | some v=>exact ZnO v n 0
 ·cases hi with
  | none=>rfl
  | some v=>exact ZnO v n n
theorem Zmn (i j:Nat):Builtin.Slice.slicePlaces (i:Int) (j:Int) 1=j-i:=by
 unfold Builtin.Slice.slicePlaces
 have h1:(1:Int) > 0:=by omega
 simp only [h1,if_true,Int.ediv_one]
 split <;> omega
theorem Zh7 {v:Value} {o:Option Int} {Q:Option Int->Shared->Prop} (p:IsPart v o) (h:Q o s):wpAny (model prog w) A (Builtin.Slice.slicePartIndex v) Q E s:=by
 cases p with
 | none=>exact slicePart_none h
 | int i t=>exact slicePart_int h
theorem sliceApplied_gen {sl : Addr} {vl vu : Value} {lo hi : Option Int} {n : Nat} {Q : Int × Int × Nat → Shared → Prop} (hs : s.heap.IsSliceOf sl vl vu .none) (pl : IsPart vl lo) (pu : IsPart vu hi)
  (h:Q (((sIx n 0 lo:Nat):Int),1,sIx n n hi-sIx n 0 lo) s):wpAny (model prog w) A (Builtin.Slice.sliceApplied (.ref sl) (pure (n:Int))) Q E s:=by
 obtain ⟨os,hos,hcs,hds⟩:=id hs
 unfold Builtin.Slice.sliceApplied Builtin.Slice.sliceFields
 refine wpAny_bind (wpAny_bind (wpAny_field hos hds (x:=vl) rfl (wpAny_bind (wpAny_field hos hds (x:=vu) rfl (wpAny_bind (wpAny_field hos hds (x:=.none) rfl (wpAny_pure ?_)))))))
 refine wpAny_bind (slicePart_none ?_)
 show wpAny _ _ (if ((1:Int) == 0)=true then _ else _) _ _ s
 rw [if_neg (by decide)]
 refine wpAny_bind (Zh7 pl (wpAny_bind (Zh7 pu (wpAny_bind (wpAny_pure ?_)))))
 show wpAny _ _ (match Builtin.Slice.sliceAdjust lo hi 1 (n:Int) with | (lo,hi)=>pure (lo,(1:Int),Builtin.Slice.slicePlaces lo hi 1)) _ _ s
 rw [Zmc lo hi n]
 show wpAny _ _ (pure (((sIx n 0 lo:Nat):Int),(1:Int),Builtin.Slice.slicePlaces ((sIx n 0 lo:Nat):Int) ((sIx n n hi:Nat):Int) 1)) _ _ s
 rw [Zmn]
 exact wpAny_pure h
theorem Zpb (xs:Array Value) (i k:Nat):((List.range k).filterMap fun (m:Nat)=>xs[((i:Int)+(m:Int)*1).toNat]?).toArray=((xs.toList.drop i).take k).toArray:=by
 have e:(fun (m:Nat)=>xs[((i:Int)+(m:Int)*1).toNat]?)=fun m=>xs[i+m]?:=by
  funext m
  have:((i:Int)+(m:Int)*1).toNat=i+m:=by omega
  rw [this]
 rw [e]
 have:=pick_run xs i k
 rw [List.filterMap_map] at this
 have e2:((fun x=>xs[x]?) ∘ fun x=>i+x)=fun m=>xs[i+m]?:=rfl
 rw [e2] at this
 rw [this]
theorem getItem_tuple_cut {t sl : Addr} {items : Array Value} {vl vu : Value} {lo hi : Option Int} {Q : Value → Shared → Prop} (ht : IsTup s.heap t items) (hs : s.heap.IsSliceOf sl vl vu .none) (pl : IsPart vl lo) (pu : IsPart vu hi)
  (hw:¬ (sIx items.size 0 lo=0∧sIx items.size items.size hi=items.size))
  (h:Q (.ref s.heap.objs.size) { s with heap:=s.heap.push { cls:=.type "tuple",data:=.seq ((items.toList.drop (sIx items.size 0 lo)).take (sIx items.size items.size hi-sIx items.size 0 lo)).toArray } })
  (hsz:items.size≤sizeLine):wpAny (model prog w) A (getItem (.ref t) (.ref sl)) Q E s:=by
 have htake:sizeOk (.seq ((items.toList.drop (sIx items.size 0 lo)).take (sIx items.size items.size hi-sIx items.size 0 lo)).toArray):=by
  show ((items.toList.drop (sIx items.size 0 lo)).take (sIx items.size items.size hi-sIx items.size 0 lo)).toArray.size≤sizeLine
  rw [List.size_toArray,List.length_take,List.length_drop,Array.length_toList]
  omega
 have hj:sIx items.size items.size hi≤items.size:=ZrK _ _ (Nat.le_refl _) hi
 obtain ⟨os,hos,hcs,hds⟩:=id hs
 have hTs:s.TypeIs (.ref sl) "slice":=⟨os,hos,hcs⟩
 unfold getItem
 try with_reducible refine wpAny_holding ?_
 first | refine wpAny_bind (wpAny_pure ?_) | skip
 refine wpAny_bind (wpAny_sequenceKey ht.typeIs (by decide) ?_)
 refine wpAny_bind (wpAny_callSpecial?_slot (name:=Str.ofString "__getitem__") ht.typeIs PyProof.Rows.slot_tuple_getitem
  (wpAny_call_entry PyProof.Rows.slot_tuple_getitem ht.typeIs entry_tuple_getitem ?_ (args_tuple_getitem _ _)))
 show wpAny _ _ (Builtin.Tuple.tupleItemsOf (.ref t) >>= _) _ _ s
 refine wpAny_bind (tupleItemsOf_ ht ?_)
 refine wpAny_bind (wpAny_typeOf hTs ?_)
 rw [if_pos (by decide)]
 refine wpAny_bind (sliceApplied_gen hs pl pu ?_)
 have hno:¬ ((((sIx items.size 0 lo:Nat):Int) == 0&&(1:Int) == 1&&(sIx items.size items.size hi-sIx items.size 0 lo) == items.size)=true):=by
  intro q
  rw [Bool.and_eq_true,Bool.and_eq_true] at q
  have q1:((sIx items.size 0 lo:Nat):Int)=0:=eq_of_beq q.1.1
  have q2:sIx items.size items.size hi-sIx items.size 0 lo=items.size:=eq_of_beq q.2
  exact hw ⟨by omega,by omega⟩
 show wpAny _ _ (if (((sIx items.size 0 lo:Nat):Int) == 0&&(1:Int) == 1&&(sIx items.size items.size hi-sIx items.size 0 lo) == items.size)=true then _ else _) _ _ s
 rw [if_neg hno,Zpb]
 first
  | exact wpAny_bind (m:=Builtin.Tuple.tupleExact _) (wpAny_newObj_type (wpAny_pure ⟨_,rfl,wpAny_pure h⟩) htake)
  | exact wpAny_bind (m:=Builtin.Tuple.tupleExact _) (wpAny_newObj_type (wpAny_bind (wpAny_pure (wpAny_pure ⟨_,rfl,wpAny_pure h⟩))) htake)
  | exact wpAny_bind (wpAny_bind (m:=Builtin.Tuple.tupleExact _) (wpAny_newObj_type (wpAny_pure (wpAny_pure ⟨_,rfl,wpAny_pure h⟩)) htake))
  | exact wpAny_bind (wpAny_bind (m:=Builtin.Tuple.tupleExact _) (wpAny_newObj_type (wpAny_pure ⟨_,rfl,wpAny_pure h⟩) htake))
end
end HT
namespace L2
open PySem PySem.Spec PyProof.Rows
abbrev TO:=St->Hp->(Option Int->Hp->Prop)->Prop
def PO (X:Cx) (e:Option Expr) (t:TO):Prop :=
 ∀ (pins:List (Addr × Obj)) (s:Shared) (σ:St) (H:Hp) (Q:Option Int->Hp->Prop),Inv X pins σ H s->t σ H Q →
  wpAny (model X.prog X.w) X.A (evalPart e X.env) (fun u s'=>∃ o H',Inv X pins σ H' s'∧IsPart u o∧Q o H') X.xe s
def ZeW:TO:=fun _ H Q=>Q none H
def Zso (t:TE):TO:=fun σ H Q=>t σ H fun x H1=>∃ i,x=.int i∧Q (some i) H1
section
variable {X:Cx} {e:Expr} {te:TE} {lo hi:Option Expr} {tl th:TO} {pos p2:Pos}
theorem Zfu:PO X none ZeW:=by
 intro pins s σ H Q I h
 rw [evalPart_none]
 exact wpAny_pure ⟨none,H,I,.none,h⟩
theorem ZbV (h:PE X e te):PO X (some e) (Zso te):=by
 intro pins s σ H Q I hw
 rw [evalPart_some]
 refine thn (h pins s σ H _ I hw) fun u s1 ⟨x,H1,I1,r1,q1⟩=>?_
 obtain ⟨i,rfl,q⟩:=q1
 obtain ⟨t,rfl⟩:=r1
 exact ⟨some i,H1,I1,.int i t,q⟩
def SlR (X:Cx) (r:V->Option Int->Option Int->Hp->VK->Prop):Prop :=
 ∀ (pins:List (Addr × Obj)) (s:Shared) (σ:St) (H:Hp) (x:V) (v vl vu:Value) (lo hi:Option Int) (sl:Addr) (Q:VK),Inv X pins σ H s->RelV x v->s.heap.IsSliceOf sl vl vu .none->IsPart vl lo->IsPart vu hi->r x lo hi H Q →
  ∃ T id,typeLookup (.type T) "__getitem__"=pure (some (.builtin id))∧s.TypeIs v T∧wpAny (model X.prog X.w) X.A (getItem v (.ref sl)) (EP X pins σ Q) X.xe s
def tSl (r:V->Option Int->Option Int->Hp->VK->Prop) (te:TE) (tl th:TO):TE:=fun σ H Q=>te σ H fun x H1=>tl σ H1 fun l H2=>th σ H2 fun u H3=>r x l u H3 Q
theorem Zcf {r:V->Option Int->Option Int->Hp->VK->Prop} (hr:SlR X r) (he:PE X e te) (hl:PO X lo tl) (hu:PO X hi th):PE X (.Subscript e (.Slice lo hi none p2) pos) (tSl r te tl th):=by
 intro pins s σ H Q I h
 refine Subscript_ (thn (he pins s σ H _ I h) fun v s1 ⟨x,H1,I1,r1,q1⟩=>?_)
 refine wpAny_Slice (thn (hl pins s1 σ H1 _ I1 q1) fun vl s2 ⟨l,H2,I2,pl,q2⟩=>thn (hu pins s2 σ H2 _ I2 q2) fun vu s3 ⟨u,H3,I3,pu,q3⟩=>?_)
 rw [evalPart_none]
 refine wpAny_pure ?_
 have I4:Inv X pins σ H3 { s3 with heap:=s3.heap.push { cls:=.type "slice",data:=.fields #[vl,vu,.none] } }:=I3.kept (t':=s3.toks) fun b ob q=>Heap.get?_push_of_some _ q
 obtain ⟨T,id,hT,ht,hg⟩:=hr pins { s3 with heap:=s3.heap.push { cls:=.type "slice",data:=.fields #[vl,vu,.none] } } σ H3 x v vl vu l u s3.heap.objs.size Q I4 r1 (Heap.IsSliceOf.new ..) pl pu q3
 show wpAny (model X.prog X.w) X.A (subscriptTail e (.Slice lo hi none p2) v (.ref s3.heap.objs.size)) (EP X pins σ Q) X.xe { s3 with heap:=s3.heap.push { cls:=.type "slice",data:=.fields #[vl,vu,.none] } }
 exact tail_any (ops:=[.ref s3.heap.objs.size,v]) ht hT hg (by with_unfolding_all rfl)
noncomputable def Zi6 (xs:List V) (lo hi:Option Int):List V:=(xs.drop (HT.sIx xs.length 0 lo)).take (HT.sIx xs.length xs.length hi-HT.sIx xs.length 0 lo)
theorem ZgH (xs:List V) (lo hi:Option Int):(Zi6 xs lo hi).length≤xs.length:=by
 unfold Zi6
 rw [List.length_take,List.length_drop]
 omega
def ZsL (K:W.Frag):V->Option Int->Option Int->Hp->VK->Prop:=fun x lo hi H Q=>∃ a xs,x=.ref a∧SqT K H a xs ∧
 ¬ (HT.sIx xs.length 0 lo=0∧HT.sIx xs.length xs.length hi=xs.length)∧∀ p,H p=none->Q (.ref p) (upd H p (.tup (Zi6 xs lo hi)))
theorem ZjT:SlR X (ZsL X.K):=by
 intro pins s σ H x v vl vu lo hi sl Q I rx hs pl pu h
 obtain ⟨a,xs,rfl,hx,hw,q⟩:=h
 cases rx
 obtain ⟨its,r,ht,hz⟩:=I.tuple hx
 have hlen:its.toArray.size=xs.length:=by rw [List.size_toArray]; exact r.length.symm
 refine ⟨"tuple",_,PyProof.Rows.slot_tuple_getitem.lookup,ht.typeIs,?_⟩
 refine HT.getItem_tuple_cut ht hs pl pu (by rw [hlen]; exact hw) ?_ (by rw [hlen]; exact hz)
 rw [hlen]
 refine ⟨.ref s.heap.objs.size,_,I.laid (t':=s.toks) (o:=.tup (Zi6 xs lo hi)) (fun b ob q=>Heap.get?_push_of_some _ q) (Nat.le_refl _) ?_,rfl,q _ (I.hok.fresh (Nat.le_refl _))⟩
 exact ⟨Nat.le_trans (ZgH xs lo hi) hz,_,(r.drop (HT.sIx xs.length 0 lo)).take (HT.sIx xs.length xs.length hi-HT.sIx xs.length 0 lo),IsTup.new _ _⟩
def Zsh (K:W.Frag):R2:=fun x y H Q=>∃ a b xs ys,x=.ref a∧y=.ref b∧SqT K H a xs∧SqT K H b ys∧xs≠[]∧xs.length+ys.length≤sizeLine ∧
 (ys=[]->Q (.ref a) H)∧(ys≠[]->∀ p,H p=none->Q (.ref p) (upd H p (.tup (xs++ys))))
theorem Vals.nil_iff {xs:List V} {us:List Value} (r:Vals xs us):us=[]↔xs=[]:=by
 cases r with
 | nil=>simp
 | cons _ _=>simp
theorem Zqo:OpR X (binaryOp .Add) (Zsh X.K):=by
 intro pins s σ H x y v u Q I rx ry h
 obtain ⟨a,b,xs,ys,rfl,rfl,ha,hb,hx,hz,q1,q2⟩:=h
 cases rx
 cases ry
 obtain ⟨its,r1,p1,_⟩:=I.tuple ha
 obtain ⟨its2,r2,p2,_⟩:=I.tuple hb
 refine HT.cat_tup p1 p2 (fun z=>hx (r1.nil_iff.mp z)) (fun z=>⟨.ref a,H,I,rfl,q1 (r2.nil_iff.mp z)⟩) (fun z=>?_) (by rw [← r1.length,← r2.length]; exact hz)
 refine ⟨.ref s.heap.objs.size,_,I.laid (t':=s.toks) (o:=.tup (xs++ys)) (fun b ob q=>Heap.get?_push_of_some _ q) (Nat.le_refl _) ?_,rfl,q2 (fun w=>z (r2.nil_iff.mpr w)) _ (I.hok.fresh (Nat.le_refl _))⟩
 exact ⟨by rw [List.length_append]; exact hz,_,r1.append r2,IsTup.new _ _⟩
end
noncomputable def ixN (n:Nat) (i:Int):Option Nat:=if 0≤i then (if i<n then some i.toNat else none) else if -(n:Int)≤i then some (i+n).toNat else none
noncomputable def atI {α:Type} (xs:List α) (i:Int):Option α:=(ixN xs.length i).bind fun j=>xs[j]?
theorem ZqI {n:Nat} {i:Int} {j:Nat} (h:ixN n i=some j):seqIndex? i n=some j∧j<n∧-(n:Int)≤i∧i<n:=by
 unfold ixN at h
 by_cases h0:0≤i
 ·rw [if_pos h0] at h
  by_cases h1:i<n
  ·rw [if_pos h1] at h
   have e:i.toNat=j:=Option.some.inj h
   exact ⟨by rw [seqIndex_of h0 h1,e],by omega,by omega,h1⟩
  ·rw [if_neg h1] at h; cases h
 ·rw [if_neg h0] at h
  by_cases h1:-(n:Int)≤i
  ·rw [if_pos h1] at h
   have e:(i+n).toNat=j:=Option.some.inj h
   exact ⟨by rw [seqIndex_neg (by omega) h1,e],by omega,h1,by omega⟩
  ·rw [if_neg h1] at h; cases h
theorem ZkF {α:Type} {xs:List α} {i:Int} {v:α} (h:atI xs i=some v):∃ j,seqIndex? i xs.length=some j∧xs[j]?=some v∧j<xs.length∧-(xs.length:Int)≤i∧i<xs.length:=by
 unfold atI at h
 cases e:ixN xs.length i with
 | none=>rw [e] at h; cases h
 | some j =>
  rw [e] at h
  obtain ⟨h1,h2,h3,h4⟩:=ZqI e
  exact ⟨j,h1,h,h2,h3,h4⟩
theorem Zc4 {α:Type} {xs:List α} {j:Nat} {v:α} (h:xs[j]?=some v):atI xs (j:Int)=some v:=by
 have hj:j<xs.length:=(List.getElem?_eq_some_iff.mp h).1
 have e:ixN xs.length (j:Int)=some j:=by
  unfold ixN
  rw [if_pos (by omega),if_pos (by omega)]; simp
 unfold atI; rw [e]; exact h
def ZqD (b:Expr):Prop:=∀ o i,subscripted b false o i=operate [o,i] (getItem o i)
def IxR (X:Cx) (r:R2):Prop :=
 ∀ (value slice:Expr) (pins:List (Addr × Obj)) (s:Shared) (σ:St) (H:Hp) (x y:V) (v u:Value) (Q:VK),Inv X pins σ H s->RelV x v->RelV y u->r x y H Q →
  subscripted slice false v u=operate [v,u] (getItem v u)->wpAny (model X.prog X.w) X.A (subscriptTail value slice v u) (EP X pins σ Q) X.xe s
def MtR (X:Cx) (id:String) (r:V->List V->Hp->VK->Prop):Prop :=
 ∀ (pins:List (Addr × Obj)) (s:Shared) (σ:St) (H:Hp) (x:V) (xs:List V) (v:Value) (us:List Value) (Q:VK),Inv X pins σ H s->RelV x v->Vals xs us->r x xs H Q →
  wpAny (model X.prog X.w) X.A (call (.builtin id) (v :: us)) (EP X pins σ Q) X.xe s
section
variable {X:Cx} {a b:Expr} {ta tb:TE} {pos:Pos}
theorem Zaq {r:R2} (hr:IxR X r) (ha:PE X a ta) (hb:PE X b tb) (hs:ZqD b):PE X (.Subscript a b pos) (tOp r ta tb):=by
 intro pins s σ H Q I h
 exact Subscript_ (Zr7 ha hb I h fun v u s2 x y H2 I2 rx ry q=>hr a b pins s2 σ H2 x y v u Q I2 rx ry q (hs _ _))
def Zst (K:W.Frag):R2:=fun x y H Q=>∃ p xs i v,x=.ref p∧y=.int i∧SqL K H p xs∧atI xs i=some v∧Q v H
def ZsG (K:W.Frag):R2:=fun x y H Q=>∃ p xs i v,x=.ref p∧y=.int i∧SqT K H p xs∧atI xs i=some v∧Q v H
def Zs3:R2:=fun x y H Q=>∃ z i c,x=.str z∧y=.int i∧z.length≤sizeLine∧atI z.cps.toList i=some c∧Q (.str ⟨#[c]⟩) H
theorem Zbb:IxR X (Zst X.K):=by
 intro value slice pins s σ H x y v u Q I rx ry h hs
 obtain ⟨p,xs,i,z,rfl,rfl,hq,he,q⟩:=h
 cases rx
 obtain ⟨t,rfl⟩:=ry
 obtain ⟨its,r,pl,hz⟩:=I.list hq
 obtain ⟨j,h1,h2,h3,h4,h5⟩:=ZkF he
 obtain ⟨w,ew,rw'⟩:=r.get h2
 have hl:=r.length
 have hn:=ZjV
 have fin:EP X pins σ Q w s:=⟨z,H,I,rw',q⟩
 by_cases h0:0≤i
 ·have hj:i.toNat=j:=by
   rw [seqIndex_of h0 h5] at h1
   exact Option.some.inj h1
  exact item_listR pl.isList h0 (by omega) (by rw [hj]; simpa using ew) fin hs
 ·have hj:(i+(its.toArray.size:Int)).toNat=j:=by
   rw [seqIndex_neg (by omega) h4] at h1
   rw [List.size_toArray,← hl]
   exact Option.some.inj h1
  exact subscriptTail_builtinR (x:=w) pl.isList.typeIs slot_list_getitem.lookup
   (wpAny_getItem_list_neg (Q:=fun r s'=>r=w∧EP X pins σ Q r s') pl.isList (by omega) (by rw [List.size_toArray] <;> omega) (by omega) (by rw [hj]; simpa using ew) ⟨rfl,fin⟩) hs
theorem Zan:IxR X (ZsG X.K):=by
 intro value slice pins s σ H x y v u Q I rx ry h hs
 obtain ⟨p,xs,i,z,rfl,rfl,hq,he,q⟩:=h
 cases rx
 obtain ⟨t,rfl⟩:=ry
 obtain ⟨its,r,pl,hz⟩:=I.tuple hq
 obtain ⟨j,h1,h2,h3,h4,h5⟩:=ZkF he
 obtain ⟨w,ew,rw'⟩:=r.get h2
 have hl:=r.length
 have hn:=ZjV
 have fin:EP X pins σ Q w s:=⟨z,H,I,rw',q⟩
 exact subscriptTail_builtinR (x:=w) pl.typeIs slot_tuple_getitem.lookup
  (getItem_tuple (j:=j) (Q:=fun r s'=>r=w∧EP X pins σ Q r s') pl (by omega) (by omega) (by rw [List.size_toArray,← hl]; exact h1) (by simpa using ew) ⟨rfl,fin⟩) hs
theorem ZqX:IxR X Zs3:=by
 intro value slice pins s σ H x y v u Q I rx ry h hs
 obtain ⟨z,i,c,rfl,rfl,hz,he,q⟩:=h
 obtain ⟨t,rfl⟩:=rx
 obtain ⟨t',rfl⟩:=ry
 obtain ⟨j,h1,h2,h3,h4,h5⟩:=ZkF he
 have hl:z.cps.toList.length=z.length:=by simp [Str.length]
 rw [hl] at h1 h4 h5
 have hn:=ZjV
 exact tail_any (typeIs_str s z t) slot_str_getitem.lookup (getItem_str (c:=c) (by
  have e1:decide (i< -(2 ^ 63:Int))=false:=decide_eq_false (by omega)
  have e2:decide (i ≥ 2 ^ 63)=false:=decide_eq_false (by omega)
  rw [e1,e2,Bool.or_false]) (by rw [h1]; simpa using h2) ⟨.str ⟨#[c]⟩,H,I.tok _,⟨_,rfl⟩,q⟩) hs
theorem Zjo (lo hi:Option Int) (n:Nat):(sliceBounds lo hi none n).1=((HT.sIx n 0 lo:Nat):Int)∧(sliceBounds lo hi none n).2.1=((HT.sIx n n hi:Nat):Int)∧(sliceBounds lo hi none n).2.2=1:=by
 refine ⟨?_,?_,rfl⟩
 ·cases lo with
  | none=>simp [sliceBounds,HT.sIx]
  | some i =>
   simp only [sliceBounds,HT.sIx,Option.getD_none,show (1:Int) > 0 by decide,if_true]
   by_cases h:i<0
   ·simp only [h,if_true] <;> omega
   ·simp only [h,if_false] <;> omega
 ·cases hi with
  | none=>simp [sliceBounds,HT.sIx]
  | some i =>
   simp only [sliceBounds,HT.sIx,Option.getD_none,show (1:Int) > 0 by decide,if_true]
   by_cases h:i<0
   ·simp only [h,if_true] <;> omega
   ·simp only [h,if_false] <;> omega
theorem Zi0 (its:List Value) (lo hi:Option Int):slicePick its.toArray lo hi none=((its.drop (HT.sIx its.length 0 lo)).take (HT.sIx its.length its.length hi-HT.sIx its.length 0 lo)).toArray:=by
 obtain ⟨h1,h2,h3⟩:=Zjo lo hi its.toArray.size
 unfold slicePick
 rw [h1,h2,h3]
 simp only [sliceRange_one,pick_run,List.size_toArray] <;> rfl
def ZsV (K:W.Frag):V->Option Int->Option Int->Hp->VK->Prop:=fun x lo hi H Q=>∃ a xs,x=.ref a∧SqL K H a xs∧∀ p,H p=none->Q (.ref p) (upd H p (.lst (Zi6 xs lo hi)))
theorem Zqs:SlR X (ZsV X.K):=by
 intro pins s σ H x v vl vu lo hi sl Q I rx hs pl pu h
 obtain ⟨a,xs,rfl,hx,q⟩:=h
 cases rx
 obtain ⟨its,r,ht,hz⟩:=I.list hx
 have hlen:=r.length
 refine ⟨"list",_,slot_list_getitem.lookup,ht.isList.typeIs,?_⟩
 refine wpAny_getItem_list_slice ht.isList hs pl pu .none (by simp) ?_ (by rw [List.size_toArray] <;> omega)
 rw [Zi0,← hlen]
 refine ⟨.ref s.heap.objs.size,_,I.laid (t':=s.toks) (o:=.lst (Zi6 xs lo hi)) (fun b ob q=>Heap.get?_push_of_some _ q) (Nat.le_refl _) ?_,rfl,q _ (I.hok.fresh (Nat.le_refl _))⟩
 exact ⟨Nat.le_trans (ZgH xs lo hi) hz,_,0,(r.drop (HT.sIx xs.length 0 lo)).take (HT.sIx xs.length xs.length hi-HT.sIx xs.length 0 lo),Heap.get?_push_size _ rfl⟩
noncomputable def Zkc:V->Bool
 | .non=>true
 | .bl _=>true
 | .int _=>true
 | .str _=>true
 | _=>false
noncomputable def eqV:V->V->Bool
 | .non,.non=>true
 | .bl a,.bl b=>a == b
 | .bl a,.int b=>(if a then 1 else 0) == b
 | .int a,.bl b=>a == (if b then 1 else 0)
 | .int a,.int b=>a == b
 | .str a,.str b=>a == b
 | _,_=>false
theorem Zq7 {A:Around} {s:Shared} {y x:V} {u v:Value} (ry:RelV y u) (rx:RelV x v) (fy:Zkc y=true) (fx:Zkc x=true):SeqAt.EqAt A s u v (eqV y x):=by
 cases y with
 | non =>
  cases ry
  cases x with
  | non=>cases rx; exact SeqAt.EqAt.same _
  | bl b=>cases rx; exact SeqAt.EqAt.none_bool b
  | int b=>obtain ⟨t,rfl⟩:=rx; exact SeqAt.EqAt.none_int b t
  | str b=>obtain ⟨t,rfl⟩:=rx; exact SeqAt.EqAt.none_str b t
  | _=>exact absurd (show false=true from fx) Bool.false_ne_true
 | bl a =>
  cases ry
  cases x with
  | non=>cases rx; exact SeqAt.EqAt.bool_none a
  | bl b=>cases rx; exact SeqAt.EqAt.bool_bool a b
  | int b=>obtain ⟨t,rfl⟩:=rx; exact SeqAt.EqAt.bool_int a b t
  | str b=>obtain ⟨t,rfl⟩:=rx; exact SeqAt.EqAt.bool_str a b t
  | _=>exact absurd (show false=true from fx) Bool.false_ne_true
 | int a =>
  obtain ⟨t',rfl⟩:=ry
  cases x with
  | non=>cases rx; exact SeqAt.EqAt.int_none a t'
  | bl b=>cases rx; exact SeqAt.EqAt.int_bool a t' b
  | int b=>obtain ⟨t,rfl⟩:=rx; exact SeqAt.EqAt.int_int a t' b t
  | str b=>obtain ⟨t,rfl⟩:=rx; exact SeqAt.EqAt.int_str a t' b t
  | _=>exact absurd (show false=true from fx) Bool.false_ne_true
 | str a =>
  obtain ⟨t',rfl⟩:=ry
  cases x with
  | non=>cases rx; exact SeqAt.EqAt.str_none a t'
  | bl b=>cases rx; exact SeqAt.EqAt.str_bool a t' b
  | int b=>obtain ⟨t,rfl⟩:=rx; exact SeqAt.EqAt.str_int a t' b t
  | str b=>obtain ⟨t,rfl⟩:=rx; exact SeqAt.EqAt.str_str a t' b t
  | _=>exact absurd (show false=true from fx) Bool.false_ne_true
 | _=>exact absurd (show false=true from fy) Bool.false_ne_true
noncomputable def eqU (x:V) (u:Value):Bool:=match u with
 | .none=>eqV .non x
 | .bool b=>eqV (.bl b) x
 | .int i _=>eqV (.int i) x
 | .str z _=>eqV (.str z) x
 | _=>false
theorem ZpK {x y:V} {u:Value} (r:RelV y u) (f:Zkc y=true):eqU x u=eqV y x:=by
 cases y with
 | non=>cases r; rfl
 | bl b=>cases r; rfl
 | int i=>obtain ⟨t,rfl⟩:=r; rfl
 | str z=>obtain ⟨t,rfl⟩:=r; rfl
 | _=>exact absurd (show false=true from f) Bool.false_ne_true
theorem Zlb {x:V}:∀ {xs:List V} {us:List Value},Vals xs us->xs.all Zkc=true->us.any (eqU x)=xs.any fun y=>eqV y x
 | _,_,.nil,_=>rfl
 | y :: xs,u :: us,.cons r t,f=>by
  rw [List.all_cons,Bool.and_eq_true] at f
  rw [List.any_cons,List.any_cons,ZpK r f.1,Zlb t f.2]
theorem ZiU {A:Around} {s:Shared} {x:V} {v:Value} (rx:RelV x v) (fx:Zkc x=true):∀ {xs:List V} {us:List Value},Vals xs us->xs.all Zkc=true->∀ u∈us,SeqAt.EqAt A s u v (eqU x u)
 | _,_,.nil,_=>fun u hu=>by cases hu
 | y :: xs,u :: us,.cons r t,f=>fun u' hu=>by
  rw [List.all_cons,Bool.and_eq_true] at f
  rcases List.mem_cons.mp hu with rfl | hu
  ·rw [ZpK r f.1]; exact Zq7 r rx f.1 fx
  ·exact ZiU rx fx t f.2 u' hu
noncomputable def inV (x:V) (xs:List V):Bool:=xs.any fun y=>eqV y x
def rIn (K:W.Frag) (neg:Bool):R2:=fun x y H Q=>∃ p xs,y=.ref p∧(SqL K H p xs∨SqT K H p xs)∧Zkc x=true∧xs.all Zkc=true∧Q (.bl (if neg then !inV x xs else inV x xs)) H
theorem ZcK:OpR X (compareOp .In) (rIn X.K false):=by
 intro pins s σ H x y v u Q I rx ry h
 obtain ⟨p,xs,rfl,hq,fx,fs,q⟩:=h
 cases ry
 rcases hq with hq | hq
 ·obtain ⟨its,r,pl,hz⟩:=I.list hq
  refine SeqAt.in_listAt (eqU x) pl.isList (fun w hw=>ZiU rx fx r fs w (by simpa using hw)) ⟨.bl _,H,I,rfl,?_⟩
  rw [show its.toArray.any (eqU x)=its.any (eqU x) by simp,Zlb r fs]
  exact q
 ·obtain ⟨its,r,pl,hz⟩:=I.tuple hq
  refine SeqAt.in_tupleAt (eqU x) pl (fun w hw=>ZiU rx fx r fs w (by simpa using hw)) ⟨.bl _,H,I,rfl,?_⟩
  rw [show its.toArray.any (eqU x)=its.any (eqU x) by simp,Zlb r fs]
  exact q
theorem ZaX:Zdd X (.builtin "len") (fun xs H Q=>∃ p ys,xs=[.ref p]∧(SqL X.K H p ys∨SqT X.K H p ys)∧Q (.int ys.length) H):=by
 intro pins s σ H xs us Q I r h
 obtain ⟨p,ys,rfl,hq,q⟩:=h
 obtain ⟨u,rfl,rx⟩:=ZfJ r
 cases rx
 have hn:=ZjV
 rcases hq with hq | hq
 ·obtain ⟨its,r',pl,hz⟩:=I.list hq
  have hlen:=r'.length
  exact Calls.call_len_list pl.isList (by simp only [List.size_toArray] <;> omega) ⟨.int ys.length,H,I.tok _,⟨s.toks+1,by rw [List.size_toArray,hlen]⟩,q⟩
 ·obtain ⟨its,r',pl,hz⟩:=I.tuple hq
  have hlen:=r'.length
  exact len_tuple pl (by simp only [List.size_toArray] <;> omega) ⟨.int ys.length,H,I.tok _,⟨s.toks+1,by rw [List.size_toArray,hlen]⟩,q⟩
theorem ZfT:Zdd X (.builtin "len") (fun xs H Q=>∃ z,xs=[.str z]∧z.length≤sizeLine∧Q (.int z.length) H):=by
 intro pins s σ H xs us Q I r h
 obtain ⟨z,rfl,hz,q⟩:=h
 obtain ⟨u,rfl,t,rfl⟩:=ZfJ r
 have hn:=ZjV
 exact len_str (by omega) ⟨.int z.length,H,I.tok _,⟨_,rfl⟩,q⟩
theorem Zj8:Zdd X (.type "list") (fun xs H Q=>∃ p ys,xs=[.ref p]∧(SqL X.K H p ys∨SqT X.K H p ys)∧∀ l,H l=none->Q (.ref l) (upd H l (.lst ys))):=by
 intro pins s σ H xs us Q I r h
 obtain ⟨p,ys,rfl,hq,q⟩:=h
 obtain ⟨u,rfl,rx⟩:=ZfJ r
 cases rx
 have fin : ∀ (its : List Value), Vals ys its → ys.length ≤ sizeLine → ∀ (h' : Heap) (c' : Nat), (∀ b o', s.heap.get? b=some o' → h'.get? b=some o') →
   h'.get? s.heap.objs.size=some { cls:=.type "list",dict:=none,data:=.seq its.toArray c',slots:=#[] }->EP X pins σ Q (.ref s.heap.objs.size) { s with heap:=h' }:=fun its r' hz h' c' kp e =>
  ⟨.ref s.heap.objs.size,_,I.laid (t':=s.toks) kp (Nat.le_refl _) (show ObjOk X.prog X.w _ h' _ (.lst ys) from ⟨hz,its,c',r',e⟩),rfl,q _ (I.hok.fresh (Nat.le_refl _))⟩
 rcases hq with hq | hq
 ·obtain ⟨its,r',pl,hz⟩:=I.list hq
  have hlen:=r'.length
  obtain ⟨o,ho,hc,n,hd⟩:=pl.isList
  exact call_list_seq p (.inl rfl) ho hc hd (fun h' c' kp e=>fin its r' hz h' c' kp e) (by simp only [List.size_toArray] <;> omega)
 ·obtain ⟨its,r',pl,hz⟩:=I.tuple hq
  have hlen:=r'.length
  obtain ⟨o,ho,hc,n,hd⟩:=pl
  exact call_list_seq p (.inr rfl) ho hc hd (fun h' c' kp e=>fin its r' hz h' c' kp e) (by simp only [List.size_toArray] <;> omega)
def tyV (K:W.Frag) (T:String) (x:V) (H:Hp):Prop:=match x with
 | .str _=>T="str"
 | .int _=>T="int"
 | .ref p => (T="list" ∧ ∃ xs, SqL K H p xs) ∨ (T="tuple" ∧ ∃ o, K.lookup p=some o ∧ o.cls=.type "tuple" ∧ o.dict=none) ∨
   (T="dict"∧((∃ kvs,H p=some (.dK kvs))∨∃ kvs,H p=some (.dT kvs)))∨(T="set"∧∃ S n,H p=some (.set S n))
 | _=>False
theorem ZpL {pins : List (Addr × Obj)} {σ : St} {H : Hp} {s : Shared} {T : String} {x : V} {v : Value} (I : Inv X pins σ H s) (r : RelV x v) (ty : tyV X.K T x H) :
  s.TypeIs v T∧∀ a,v=.ref a->∃ ob,s.heap.get? a=some ob∧ob.dict=none:=by
 cases x with
 | str z =>
  obtain ⟨t,rfl⟩:=r
  cases (show T="str" from ty)
  exact ⟨typeIs_str s z t,fun _ e=>nomatch e⟩
 | int i =>
  obtain ⟨t,rfl⟩:=r
  cases (show T="int" from ty)
  exact ⟨typeIs_int s i t,fun _ e=>nomatch e⟩
 | ref p =>
  cases r
  rcases ty with ⟨rfl,xs,hq⟩ | ⟨rfl,o,hk,hc,hd⟩ | ⟨rfl,hk⟩ | ⟨rfl,S,n,hk⟩
  ·obtain ⟨its,_,pl,_⟩:=I.list hq
   refine ⟨pl.isList.typeIs,fun a e=>?_⟩
   cases e
   obtain ⟨o,n,e,c,hd,_⟩:=pl
   exact ⟨o,e,hd⟩
  ·refine ⟨⟨o,I.kIn p o hk,hc⟩,fun a e=>?_⟩
   cases e
   exact ⟨o,I.kIn _ o hk,hd⟩
  ·have z:∃ o,s.heap.get? p=some o∧o.ExactDict:=by
    rcases hk with ⟨kvs,hk⟩ | ⟨kvs,hk⟩
    ·obtain ⟨_,_,_,_,o,_,_,e,ex,_⟩:=I.hok p _ hk
     exact ⟨o,e,ex⟩
    ·obtain ⟨_,_,_,_,o,_,_,e,ex,_⟩:=I.hok p _ hk
     exact ⟨o,e,ex⟩
   obtain ⟨o,e,ex⟩:=z
   refine ⟨⟨o,e,ex.1⟩,fun a e2=>?_⟩
   cases e2
   exact ⟨o,e,ex.2.1⟩
  ·obtain ⟨o,_,_,_,e,ex,_⟩:=I.hok p _ hk
   refine ⟨⟨o,e,ex.1⟩,fun a e2=>?_⟩
   cases e2
   exact ⟨o,e,ex.2.1⟩
 | _=>exact False.elim ty
def ZsH (K:W.Frag) (T:String) (r:V->List V->Hp->VK->Prop) (to:TE):TE:=fun σ H Q=>to σ H fun x H1=>tyV K T x H1∧r x [] H1 Q
def tBM (K:W.Frag) (T:String) (r:V->List V->Hp->VK->Prop) (to:TE) (t:TA):TE:=fun σ H Q=>to σ H fun x H1=>tyV K T x H1∧t σ H1 fun xs H2=>r x xs H2 Q
variable {o e:Expr} {es:List Expr} {to:TE} {t:TA} {name:Str} {apos cpos:Pos} {T id:String} {r:V->List V->Hp->VK->Prop}
theorem ZrL (pa : PlainAttrs T) (slot : Slot T name id) (hty : typeOf (.builtin id)=pure (.type "method_descriptor")) (hm : MtR X id r) (ho : PE X o to)
  (hbase:attributeBase o name X.env (eval o X.env)=eval o X.env:=by rfl) (hline:(apos.endLine == cpos.line)=true:=by rfl):PE X (.Call (.Attribute o name apos) [] [] cpos) (ZsH X.K T r to):=by
 intro pins s σ H Q I h
 refine wpAny_Call_method0_late hbase hline (thn (ho pins s σ H _ I h) fun v s1 ⟨x,H1,I1,r1,ty,q1⟩=>?_)
 obtain ⟨h1,h2⟩:=ZpL I1 r1 ty
 exact ⟨T,id,pa,slot,hty,h1,h2,Calls.callWith_builtin rfl (PySem.evalArgs_none (hm pins s1 σ H1 x [] v [] Q I1 r1 .nil q1))⟩
theorem Zqa (pa : PlainAttrs T) (slot : Slot T name id) (hty : typeOf (.builtin id)=pure (.type "method_descriptor")) (hm : MtR X id r) (ho : PE X o to) (ha : PA X (e :: es) t)
  (hbase:attributeBase o name X.env (eval o X.env)=eval o X.env:=by rfl)
  (hfew:((backTo cpos (starEach (e :: es) X.env)).all (fun x=>!x.1)&&(backToKw cpos (keywordEach [] X.env)).all (fun x=>x.1.isSome)
   && decide ((e :: es).length+([]:List Keyword).length+(if ([]:List Keyword).isEmpty then 0 else 1)<30))=true:=by rfl)
  (hline:(apos.endLine == cpos.line)=true:=by rfl) (hs:starEach (e :: es) X.env=(false,eval e X.env) :: starEach es X.env:=by rfl) (hplain:(backTo cpos (starEach es X.env)).any (·.1)=false:=by rfl) :
  PE X (.Call (.Attribute o name apos) (e :: es) [] cpos) (tBM X.K T r to t):=by
 intro pins s σ H Q I h
 refine wpAny_Call_method_late hbase hfew hline rfl (thn (ho pins s σ H _ I h) fun v s1 ⟨x,H1,I1,r1,ty,q1⟩=>?_)
 obtain ⟨h1,h2⟩:=ZpL I1 r1 ty
 refine ⟨T,id,pa,slot,hty,h1,h2,?_⟩
 have hA:=ha cpos pins s1 σ H1 _ I1 q1
 rw [hs] at hA ⊢
 refine Calls.callWith_builtin (by show (false||(backTo cpos (starEach es X.env)).any (·.1))=false; rw [hplain] <;> rfl) (Calls.evalArgs_plain ?_)
 exact thn hA fun us s2 ⟨vs,H2,I2,r2,q2⟩=>hm pins s2 σ H2 x vs v us Q I2 r1 r2 q2
/- xs.append(e),list.index on a module's tuple .. are MtR facts of 06m -/
end
def MtM (X:Cx) (id:String) (r:V->List V->Hp->VK->Prop):Prop :=
 ∀ (pins:List (Addr × Obj)) (s:Shared) (σ:St) (H:Hp) (x:V) (xs:List V) (v:Value) (us:List Value) (Q:VK),Inv X pins σ H s->RelV x v->Vals xs us->r x xs H Q →
  wpAny (model X.prog X.w) X.A (call (.builtin id) (v :: us)) (EP X pins σ Q) X.xe s
theorem Vals.one:∀ {x:V} {us:List Value},Vals [x] us->∃ u,us=[u]∧RelV x u
 | _,_,.cons r .nil=>⟨_,rfl,r⟩
section
variable {X:Cx} {pins:List (Addr × Obj)} {σ:St} {H:Hp} {s:Shared} {l b:Addr} {xs ys zs:List V}
theorem Inv.lset {its its' : List Value} {n : Nat} {f : Array Value → Array Value} {t' : Nat} (I : Inv X pins σ H s) (hH : H l=some (.lst xs))
  (e:s.heap.get? l=some { cls:=.type "list",data:=.seq its.toArray n }) (hf:f its.toArray=its'.toArray) (hv:Vals ys its') (hz:ys.length≤sizeLine) :
  Inv X pins σ (upd H l (.lst ys)) { s with heap:=s.heap.update l (Obj.mapSeq f),toks:=t' }:=by
 have q:=PySem.IsL.update e f
 rw [hf] at q
 refine I.write (x:=l) (e:=l) (by rw [hH]; exact trivial) (.inl rfl) (fun b' u hb hu=>(Heap.get?_update_other s.heap (Obj.mapSeq f) (Ne.symm hb)).trans hu) ⟨_,q⟩ ?_
 exact ⟨hz,its',_,hv,q⟩
theorem Inv.lnew {its : List Value} {t' : Nat} (I : Inv X pins σ H s) (hv : Vals ys its) (hz : ys.length ≤ sizeLine) :
  Inv X pins σ (upd H s.heap.objs.size (.lst ys)) { s with heap:=s.heap.push { cls:=.type "list",data:=.seq its.toArray },toks:=t' } :=
 I.laid (fun _ _ q=>Heap.get?_push_of_some _ q) (Nat.le_refl _) ⟨hz,its,0,hv,Heap.get?_push_size _ rfl⟩
theorem Inv.fresh (I:Inv X pins σ H s):H s.heap.objs.size=none:=I.hok.fresh (Nat.le_refl _)
theorem Inv.lstM (I:Inv X pins σ H s) (hH:H l=some (.lst xs)):xs.length≤sizeLine∧∃ (its:List Value) (n:Nat),Vals xs its∧xs.length=its.length∧s.heap.get? l=some { cls:=.type "list",data:=.seq its.toArray n }:=by
 obtain ⟨z,its,n,r,e⟩:=I.hok l _ hH
 exact ⟨z,its,n,r,r.length,e⟩
end
section
variable {X:Cx}
def Zqb:V->List V->Hp->VK->Prop:=fun x vs H Q=>∃ l xs y,x=.ref l∧vs=[y]∧H l=some (.lst xs)∧xs.length<sizeLine∧Q .non (upd H l (.lst (xs++[y])))
theorem Ze6:MtM X "list.append" Zqb:=by
 intro pins s σ H x vs v us Q I rx rv h
 obtain ⟨l,xs,y,rfl,rfl,hH,hz,q⟩:=h
 cases rx
 obtain ⟨u,rfl,ru⟩:=rv.one
 obtain ⟨z,its,n,r,hl,e⟩:=I.lstM hH
 refine call_meets F.slot_list_append ⟨_,e,rfl⟩ F.entry_list_append (F.args_list_append_2 _ _) (PySem.list_append l its.toArray n u (by rw [List.size_toArray]; omega)) ⟨e,?_⟩
 refine ⟨.non,_,I.lset (its':=its++[u]) hH e (by simp) (r.append (.cons ru .nil)) ?_,rfl,q⟩
 rw [List.length_append,List.length_singleton]
 omega
def ZsW:R2:=fun x y H Q=>∃ l b xs zs,x=.ref l∧y=.ref b∧H l=some (.lst xs)∧H b=some (.lst zs)∧xs.length+zs.length≤sizeLine∧∀ p,H p=none->Q (.ref p) (upd H p (.lst (xs++zs)))
theorem Znn:OpR X (binaryOp .Add) ZsW:=by
 intro pins s σ H x y v u Q I rx ry h
 obtain ⟨l,b,xs,zs,rfl,rfl,hH,hB,hz,q⟩:=h
 cases rx
 cases ry
 obtain ⟨z,its,n,r,hl,e⟩:=I.lstM hH
 obtain ⟨z2,its2,n2,r2,hl2,e2⟩:=I.lstM hB
 refine PySem.P.add_list e e2 ?_ (by rw [List.size_toArray,List.size_toArray]; omega)
 have ea:its.toArray++its2.toArray=(its++its2).toArray:=by simp
 rw [ea]
 exact ⟨.ref _,_,I.lnew (t':=s.toks) (r.append r2) (by rw [List.length_append]; omega),rfl,q _ I.fresh⟩
end
section
variable {prog:Program} {w:World} {A:Around} {E:Value->Shared->Prop} {s:Shared}
set_option maxRecDepth 100000 in
end
section
variable {X:Cx}
end
section
variable {κ:Type} [DecidableEq κ]
noncomputable def ZdS (kvs:List (κ × V)) (k:κ):Option V:=(kvs.find? fun kv=>decide (kv.1=k)).map (·.2)
noncomputable def Zjc (kvs:List (κ × V)) (k:κ) (v:V):List (κ × V) :=
 if (kvs.any fun kv=>decide (kv.1=k))=true then kvs.map (fun kv=>if kv.1=k then (kv.1,v) else kv) else kvs++[(k,v)]
theorem ZcF {p:κ × V} {r:List (κ × V)} {k:κ} (e:p.1=k):ZdS (p :: r) k=some p.2:=by simp [ZdS,List.find?_cons,e]
theorem ZbD {p:κ × V} {r:List (κ × V)} {k:κ} (e:¬ p.1=k):ZdS (p :: r) k=ZdS r k:=by simp [ZdS,List.find?_cons,e]
theorem ZiA (k:κ):∀ kvs:List (κ × V),(kvs.any fun kv=>decide (kv.1=k))=(ZdS kvs k).isSome
 | []=>rfl
 | p :: r=>by
  rw [List.any_cons]
  by_cases e:p.1=k
  ·simp only [ZcF e,decide_eq_true e,Bool.true_or,Option.isSome_some]
  ·rw [ZbD e,decide_eq_false e,Bool.false_or]; exact ZiA k r
theorem Zhi (kvs:List (κ × V)) (k:κ) (v:V):(Zjc kvs k v).length≤kvs.length+1:=by
 unfold Zjc
 split
 ·rw [List.length_map]; omega
 ·rw [List.length_append,List.length_cons,List.length_nil]; omega
theorem ZiP {kvs:List (κ × V)} {k:κ} (v:V) (h:ZdS kvs k=none):Zjc kvs k v=kvs++[(k,v)]:=by
 unfold Zjc
 rw [ZiA,h]
 exact if_neg (by decide)
theorem RelO.isSome_eq {o:Option V} {u:Option Value} (r:RelO o u):o.isSome=u.isSome:=by
 cases o with
 | none=>cases u with
  | none=>rfl
  | some _=>exact (show False from r).elim
 | some _=>cases u with
  | none=>exact (show False from r).elim
  | some _=>rfl
theorem RelO.getD {o:Option V} {u:Option Value} {d:V} {d':Value} (r:RelO o u) (rd:RelV d d'):RelV (o.getD d) (u.getD d'):=by
 cases o with
 | none=>cases u with
  | none=>exact rd
  | some _=>exact (show False from r).elim
 | some _=>cases u with
  | none=>exact (show False from r).elim
  | some _=>exact r
theorem KV.val {kvs:List (κ × V)} {vs:List (κ × Value)} (r:KV kvs vs) (k:κ):RelO (ZdS kvs k) (valueAt vs k):=by
 unfold KV at r
 induction r with
 | nil=>exact True.intro
 | @cons p q ps qs h t ih =>
  obtain ⟨h1,h2⟩:=h
  by_cases e:p.1=k
  ·have e':q.1=k:=h1.symm.trans e
   have b:valueAt (q :: qs) k=some q.2:=by simp [valueAt,List.find?_cons,e']
   rw [ZcF e,b]; exact h2
  ·have e':¬ q.1=k:=fun z=>e (h1.trans z)
   have b:valueAt (q :: qs) k=valueAt qs k:=by simp [valueAt,List.find?_cons,e']
   rw [ZbD e,b]; exact ih
theorem KV.any {kvs:List (κ × V)} {vs:List (κ × Value)} (r:KV kvs vs) (k:κ):(kvs.any fun kv=>decide (kv.1=k))=vs.any fun kv=>decide (kv.1=k):=by
 unfold KV at r
 induction r with
 | nil=>rfl
 | cons h t ih=>rw [List.any_cons,List.any_cons,ih,h.1]
theorem KV.repl {kvs : List (κ × V)} {vs : List (κ × Value)} (r : KV kvs vs) (k : κ) {y : V} {u : Value} (ry : RelV y u) :
  KV (kvs.map fun kv=>if kv.1=k then (kv.1,y) else kv) (vs.map fun kv=>if kv.1=k then (kv.1,u) else kv):=by
 unfold KV at r ⊢
 induction r with
 | nil=>exact .nil
 | @cons p q ps qs h t ih =>
  rw [List.map_cons,List.map_cons]
  refine .cons ?_ ih
  obtain ⟨h1,h2⟩:=h
  by_cases e:p.1=k
  ·rw [if_pos e,if_pos (h1.symm.trans e)]; exact ⟨h1,ry⟩
  ·rw [if_neg e,if_neg (fun z=>e (h1.trans z))]; exact ⟨h1,h2⟩
theorem KV.put {kvs:List (κ × V)} {vs:List (κ × Value)} (r:KV kvs vs) (k:κ) {y:V} {u:Value} (ry:RelV y u):KV (Zjc kvs k y) (stored vs k u):=by
 unfold Zjc stored
 rw [r.any k]
 by_cases e:(vs.any fun kv=>decide (kv.1=k))=true
 ·rw [if_pos e,if_pos e]; exact r.repl k ry
 ·rw [if_neg e,if_neg e]; exact Paired.snoc r ⟨rfl,ry⟩
theorem KV.length {kvs:List (κ × V)} {vs:List (κ × Value)} (r:KV kvs vs):kvs.length=vs.length:=Paired.length r
end
theorem Zl1 {P:Program} {w:World} {k:Key} {u:Value} (r:RelV (kV k) u):(Zbl P w).is k u=true:=by
 cases k with
 | inl i=>obtain ⟨t,e⟩:=(show ∃ t,u=Value.int i t from r); subst e; exact ZkW P w i t
 | inr x=>obtain ⟨t,e⟩:=(show ∃ t,u=Value.str x t from r); subst e; exact ZkE P w x t
theorem ZjB {P:Program} {w:World}:∀ {ks:List Key} {us:List Value},Vals (ks.map kV) us->ItemsAre (Zbl P w) ks us
 | [],_,r=>by rw [List.map_nil] at r; cases r; exact .nil
 | k :: ks,_,r=>by
  rw [List.map_cons] at r
  cases r with
  | cons h t=>exact .cons (Zl1 h) (ZjB t)
abbrev KT (H:Hp):List (List Key × V)->List (List Key × Addr × Value)->Prop:=Paired fun p q=>p.1=q.1∧H q.2.1=some (.tup (p.1.map kV))∧RelV p.2 q.2.2
theorem KT.val {H:Hp} {kvs:List (List Key × V)} {xs:List (List Key × Addr × Value)} (r:KT H kvs xs) (k:List Key):RelO (ZdS kvs k) ((atKey xs k).map (·.2)):=by
 induction r with
 | nil=>exact True.intro
 | @cons p q ps qs h t ih =>
  obtain ⟨h1,_,h2⟩:=h
  by_cases e:p.1=k
  ·have e':q.1=k:=h1.symm.trans e
   have b:atKey (q :: qs) k=some q.2:=by simp [atKey,List.find?_cons,e']
   rw [ZcF e,b]; exact h2
  ·have e':¬ q.1=k:=fun z=>e (h1.trans z)
   have b:atKey (q :: qs) k=atKey qs k:=by simp [atKey,List.find?_cons,e']
   rw [ZbD e,b]; exact ih
theorem KT.repl {H : Hp} {kvs : List (List Key × V)} {xs : List (List Key × Addr × Value)} (r : KT H kvs xs) (k : List Key) {y : V} {u : Value} (ry : RelV y u) :
  KT H (kvs.map fun kv=>if kv.1=k then (kv.1,y) else kv) (xs.map (putAt k u)):=by
 induction r with
 | nil=>exact .nil
 | @cons p q ps qs h t ih =>
  rw [List.map_cons,List.map_cons]
  refine .cons ?_ ih
  obtain ⟨h1,h2,h3⟩:=h
  unfold putAt
  by_cases e:p.1=k
  ·rw [if_pos e,if_pos (h1.symm.trans e)]; exact ⟨h1,h2,ry⟩
  ·rw [if_neg e,if_neg (fun z=>e (h1.trans z))]; exact ⟨h1,h2,h3⟩
theorem KT.put {H : Hp} {kvs : List (List Key × V)} {xs : List (List Key × Addr × Value)} (r : KT H kvs xs) (k : List Key) {b : Addr} {y : V} {u : Value} (hb : H b=some (.tup (k.map kV))) (ry : RelV y u) :
  KT H (Zjc kvs k y) (storedH xs k b u):=by
 have e:(kvs.any fun kv=>decide (kv.1=k))=(atKey xs k).isSome:=by
  rw [ZiA,(r.val k).isSome_eq,Option.isSome_map]
 unfold Zjc storedH
 rw [e]
 by_cases q:(atKey xs k).isSome=true
 ·rw [if_pos q,if_pos q]; exact r.repl k ry
 ·rw [if_neg q,if_neg q]; exact Paired.snoc r ⟨rfl,hb,ry⟩
theorem KT.keeps {H H':Hp} {kvs:List (List Key × V)} {xs:List (List Key × Addr × Value)} (r:KT H kvs xs) (ht:∀ b ys,H b=some (.tup ys)->H' b=some (.tup ys)):KT H' kvs xs :=
 Paired.mapP r fun _ _ z=>⟨z.1,ht _ _ z.2.1,z.2.2⟩
section
variable {P:Program} {w:World} {H:Hp} {h:Heap} {a:Addr}
theorem Zrw {u:HO} (ok:HOk P w H h) (e:Rd H a u):ObjOk P w H h a u:=e.ok ok
theorem ZjW {kvs:List (Key × V)} (ok:HOk P w H h) (e:Rd H a (.dK kvs)):kvs.length≤sizeLine∧(a == sysModules)=false∧∃ vs,KV kvs vs∧h.DictOf (Zbl P w) a vs :=
 show ObjOk P w H h a (.dK kvs) from Zrw ok e
theorem Zq2 {kvs:List (Key × V)} (ok:HOk P w H h) (e:H a=some (.dK kvs)):kvs.length≤sizeLine∧(a == sysModules)=false∧∃ vs,KV kvs vs∧h.DictOf (Zbl P w) a vs:=ZjW ok (.inl e)
theorem Zg6 {ks:List Key} (ok:HOk P w H h) (e:H a=some (.tup (ks.map kV))):(tupleKind (Zbl P w)).is h ks a:=by
 obtain ⟨_,its,r,o,h1,h2,n,h3⟩:=(show ObjOk P w H h a (.tup (ks.map kV)) from ok a _ e)
 exact ⟨o,its.toArray,n,h1,h2,h3,by simpa using ZjB r⟩
theorem ZkD {kvs : List (List Key × V)} (ok : HOk P w H h) (e : Rd H a (.dT kvs)) : kvs.length ≤ sizeLine ∧ (a == sysModules)=false ∧
  ∃ xs,KT H kvs xs∧h.DictOfH (tupleKind (Zbl P w)) a xs:=by
 obtain ⟨z,y,xs,r,o,es,ep,h1,h2,h3,h4,h5⟩:=(show ObjOk P w H h a (.dT kvs) from Zrw ok e)
 refine ⟨z,y,xs,r,o,es,ep,h1,h2,h3,h4,fun x hx=>?_,h5⟩
 have all:∀ {l:List (List Key × V)} {m:List (List Key × Addr × Value)},KT H l m->∀ x∈m,(tupleKind (Zbl P w)).is h x.1 x.2.1:=by
  intro l m q
  induction q with
  | nil=>intro x hx; exact nomatch hx
  | @cons p q ps qs hq t ih =>
   intro x hx
   rcases List.mem_cons.mp hx with e | hx
   ·subst e
    exact Zg6 ok (by rw [← hq.1]; exact hq.2.1)
   ·exact ih x hx
 exact all r x hx
theorem Zmg {kvs : List (List Key × V)} (ok : HOk P w H h) (e : H a=some (.dT kvs)) : kvs.length ≤ sizeLine ∧ (a == sysModules)=false ∧
  ∃ xs,KT H kvs xs∧h.DictOfH (tupleKind (Zbl P w)) a xs:=ZkD ok (.inl e)
end
def DGet (H:Hp) (a:Addr) (y:V) (r:Option V):Prop :=
 (∃ kvs k,Rd H a (.dK kvs)∧y=kV k∧r=ZdS kvs k)∨∃ kvs k b,Rd H a (.dT kvs)∧y=.ref b∧H b=some (.tup (k.map kV))∧r=ZdS kvs k
def DPut (H:Hp) (a:Addr) (y v:V) (H':Hp):Prop :=
 (∃ kvs k,H a=some (.dK kvs)∧y=kV k∧kvs.length<sizeLine∧H'=upd H a (.dK (Zjc kvs k v))) ∨
 ∃ kvs k b,H a=some (.dT kvs)∧y=.ref b∧H b=some (.tup (k.map kV))∧kvs.length<sizeLine∧H'=upd H a (.dT (Zjc kvs k v))
theorem DGet.k {H:Hp} {a:Addr} {kvs:List (Key × V)} {k:Key} (e:H a=some (.dK kvs)):DGet H a (kV k) (ZdS kvs k):=.inl ⟨kvs,k,.inl e,rfl,rfl⟩
theorem DGet.t {H:Hp} {a b:Addr} {kvs:List (List Key × V)} {k:List Key} (e:H a=some (.dT kvs)) (eb:H b=some (.tup (k.map kV))):DGet H a (.ref b) (ZdS kvs k):=.inr ⟨kvs,k,b,.inl e,rfl,eb,rfl⟩
theorem DPut.k {H:Hp} {a:Addr} {kvs:List (Key × V)} {k:Key} {v:V} (e:H a=some (.dK kvs)) (hl:kvs.length<sizeLine):DPut H a (kV k) v (upd H a (.dK (Zjc kvs k v))):=.inl ⟨kvs,k,e,rfl,hl,rfl⟩
theorem DPut.t {H : Hp} {a b : Addr} {kvs : List (List Key × V)} {k : List Key} {v : V} (e : H a=some (.dT kvs)) (eb : H b=some (.tup (k.map kV))) (hl : kvs.length<sizeLine) :
  DPut H a (.ref b) v (upd H a (.dT (Zjc kvs k v))):=.inr ⟨kvs,k,b,e,rfl,eb,hl,rfl⟩
section
variable {X:Cx} {pins:List (Addr × Obj)} {σ:St} {H:Hp} {s:Shared} {a:Addr} {y v:V} {u r:Value} {o:Option V} {A:Around} {E:Value->Shared->Prop}
theorem Inv.big (I:Inv X pins σ H s):sysModules<s.heap.objs.size:=by
 have h:mainGlobals<s.heap.objs.size:=(I.mod.glob.keeps I.bk).lt
 exact Nat.lt_trans (by decide) h
theorem Znt {Q : Value → Shared → Prop} (hu : A.units + 1<cLine) (I : Inv X pins σ H s) (g : DGet H a y (some v)) (ry : RelV y u) (h : ∀ w' s', Inv X pins σ H s' → RelV v w' → Q w' s') :
  wpAny (model X.prog X.w) A (getItem (.ref a) u) Q E s:=by
 rcases g with ⟨kvs,k,e,ey,l⟩ | ⟨kvs,k,b,e,ey,eb,l⟩
 ·subst ey
  obtain ⟨z,hd,vs,rel,dd⟩:=ZjW I.hok e
  obtain ⟨w',hw,rw'⟩:=RelO.some_of (v:=v) (o:=valueAt vs k) (by rw [l]; exact rel.val k)
  exact wpAny_getItem_of (Zl1 ry) dd.mapOf hw (h w' _ (I.tok _) rw')
 ·subst ey
  cases (show u=Value.ref b from ry)
  obtain ⟨z,hd,xs,rel,dd⟩:=ZkD I.hok e
  obtain ⟨w',hw,rw'⟩:=RelO.some_of (v:=v) (o:=(atKey xs k).map (·.2)) (by rw [l]; exact rel.val k)
  obtain ⟨p,hp,hp2⟩:=Option.map_eq_some_iff.mp hw
  refine wpAny_getItem_heap (tupleKind_room_in1 hu) (Zg6 I.hok eb) dd hp ?_
  rw [hp2]
  exact h w' _ (I.tok _) rw'
theorem Zs8 {Q : Value → Shared → Prop} (hu : A.units + 1<cLine) (I : Inv X pins σ H s) (g : DGet H a y o) (ry : RelV y u) (h : ∀ s', Inv X pins σ H s' → Q (.bool o.isSome) s') :
  wpAny (model X.prog X.w) A (compareOp .In u (.ref a)) Q E s:=by
 rcases g with ⟨kvs,k,e,ey,l⟩ | ⟨kvs,k,b,e,ey,eb,l⟩
 ·subst ey
  obtain ⟨z,hd,vs,rel,dd⟩:=ZjW I.hok e
  refine wpAny_in_of (Zl1 ry) hd dd.mapOf ?_
  rw [← (rel.val k).isSome_eq,← l]
  exact h _ (I.tok _)
 ·subst ey
  cases (show u=Value.ref b from ry)
  obtain ⟨z,hd,xs,rel,dd⟩:=ZkD I.hok e
  refine wpAny_in_heap (tupleKind_room_in1 hu) (Zg6 I.hok eb) hd dd ?_
  have q:=(rel.val k).isSome_eq
  rw [Option.isSome_map] at q
  rw [← q,← l]
  exact h _ (I.tok _)
theorem ZpX {Q : Value → Shared → Prop} (hu : A.units + 1<cLine) (I : Inv X pins σ H s) (g : DGet H a y o) (ry : RelV y u) (h : ∀ s', Inv X pins σ H s' → Q (.bool (!o.isSome)) s') :
  wpAny (model X.prog X.w) A (compareOp .NotIn u (.ref a)) Q E s:=by
 rcases g with ⟨kvs,k,e,ey,l⟩ | ⟨kvs,k,b,e,ey,eb,l⟩
 ·subst ey
  obtain ⟨z,hd,vs,rel,dd⟩:=ZjW I.hok e
  refine wpAny_notIn_of (Zl1 ry) hd dd.mapOf ?_
  rw [← (rel.val k).isSome_eq,← l]
  exact h _ (I.tok _)
 ·subst ey
  cases (show u=Value.ref b from ry)
  obtain ⟨z,hd,xs,rel,dd⟩:=ZkD I.hok e
  refine wpAny_notIn_heap (tupleKind_room_in1 hu) (Zg6 I.hok eb) hd dd ?_
  have q:=(rel.val k).isSome_eq
  rw [Option.isSome_map] at q
  rw [← q,← l]
  exact h _ (I.tok _)
theorem Zk9 {h' : Heap} {t' : Nat} {ob : HO} (I : Inv X pins σ H s) (mu : Mut (H a)) (hs : Heap.SameBut a s.heap h') (he : ∃ q, h'.get? a=some q) (new : ObjOk X.prog X.w (upd H a ob) h' a ob) :
  Inv X pins σ (upd H a ob) { s with heap:=h',toks:=t' } :=
 I.write (x:=a) (e:=a) mu (.inl rfl) (fun b q hb z=>(hs.2 b hb).trans z) he new
theorem ZrS {P : Program} {w : World} {H' : Hp} {h' : Heap} {kvs : List (Key × V)} {vs : List (Key × Value)} (z : kvs.length ≤ sizeLine) (hd : (a == sysModules)=false) (rel : KV kvs vs) (dd : h'.DictOf (Zbl P w) a vs) :
  ObjOk P w H' h' a (.dK kvs):=⟨z,hd,vs,rel,dd⟩
theorem Zow {H' : Hp} {Q : Unit → Shared → Prop} (hu : A.units + 1<cLine) (I : Inv X pins σ H s) (g : DPut H a y v H') (ry : RelV y u) (rv : RelV v r) (h : ∀ s', Inv X pins σ H' s' → Q () s') :
  wpAny (model X.prog X.w) A (setItem (.ref a) u r) Q E s:=by
 rcases g with ⟨kvs,k,e,ey,l,eH⟩ | ⟨kvs,k,b,e,ey,eb,l,eH⟩
 ·subst ey eH
  obtain ⟨z,hd,vs,rel,dd⟩:=Zq2 I.hok e
  have hz:vs.length≤sizeLine:=by rw [← rel.length]; exact z
  have hl:(Zjc kvs k v).length≤sizeLine:=by have:=Zhi kvs k v; omega
  refine wpAny_setItem_pairs (hsz:=hz) (Zl1 ry) dd fun h' dd' hs=>h _ ?_
  have he:∃ q,h'.get? a=some q:=let ⟨q,_,_,hq,_⟩:=dd'; ⟨q,hq⟩
  exact Zk9 I (by rw [e]; exact True.intro) hs he (ZrS hl hd (rel.put k rv) dd')
 ·subst ey eH
  cases (show u=Value.ref b from ry)
  obtain ⟨z,hd,xs,rel,dd⟩:=Zmg I.hok e
  have hz:xs.length≤sizeLine:=by rw [← Paired.length rel]; exact z
  have hl:(Zjc kvs k v).length≤sizeLine:=by have:=Zhi kvs k v; omega
  refine wpAny_setItem_heap (hsz:=hz) (tupleKind_room_in1 hu) (Zg6 I.hok eb) dd fun h' dd' hs=>h _ ?_
  obtain ⟨q,es,ep,hq,h2,h3,h4,_,h5⟩:=dd'
  refine Zk9 I (by rw [e]; exact True.intro) hs ⟨q,hq⟩ ⟨hl,hd,_,(rel.put k eb rv).keeps fun c ys ec=>?_,q,es,ep,hq,h2,h3,h4,h5⟩
  rw [Zak (ZrR ec e (fun z=>nomatch z))]
  exact ec
end
section
variable {X:Cx} {pins:List (Addr × Obj)} {σ:St} {H:Hp} {s:Shared} {a:Addr} {kvs:List (Key × V)} {k:Key} {u:Value} {A:Around} {E:Value->Shared->Prop}
theorem Zsk {Q:Value->Shared->Prop} (I:Inv X pins σ H s) (e:Rd H a (.dK kvs)) (h:∀ t s',Inv X pins σ H s'->Q (.int kvs.length t) s'):wpAny (model X.prog X.w) A (call (.builtin "len") [.ref a]) Q E s:=by
 obtain ⟨z,hd,vs,rel,dd⟩:=ZjW I.hok e
 refine call_len_dict hd dd (by rw [← rel.length]; rw [sizeLine_eq] at z; omega) ?_
 rw [← rel.length]
 exact h _ _ (I.tok _)
end
def Zsz (i:Expr):Prop:=∀ ov iv,subscripted i false ov iv=operate [ov,iv] (getItem ov iv)
theorem ZpW {prog : Program} {w : World} {A : Around} {E : Value → Shared → Prop} {s : Shared} {env : Env} {value slice : Expr} {pos : Pos} {T id : String} {Q : Value → Shared → Prop}
  (hl:typeLookup (.type T) "__getitem__"=pure (some (.builtin id))) (hs:Zsz slice)
  (h:wpAny (model prog w) A (eval value env) (fun o s₁=>wpAny (model prog w) A (eval slice env) (fun i s₂=>s₂.TypeIs o T∧wpAny (model prog w) A (getItem o i) Q E s₂) E s₁) E s) :
  wpAny (model prog w) A (eval (.Subscript value slice pos) env) Q E s:=by
 refine Subscript_ (wpAny_mono h (fun o s₁ h₁=>wpAny_mono h₁ (fun i s₂ h₂=>?_) fun _ _ x=>x) fun _ _ x=>x)
 obtain ⟨hT,h₂⟩:=h₂
 unfold subscriptTail
 refine wpAny_bind ?_
 rw [getitemInPython_of_ne hT.not_modules]
 refine wpAny_bind (wpAny_specialOf hT hl ?_)
 have fin:wpAny (model prog w) A (subscripted slice false o i) (fun r s₃=>wpAny (model prog w) A (letTemporaryGo value o r >>= fun _=>pure r) Q E s₃) E s₂:=by
  rw [hs o i]
  exact wpAny_operating (wpAny_mono h₂ (fun r s₃ h₃=>wpAny_bind (wpAny_letTemporaryGo (wpAny_pure h₃))) fun _ _ x=>x)
 first
  | exact wpAny_pure (wpAny_bind fin)
  | exact wpAny_bind (wpAny_pure (wpAny_bind fin))
  | exact wpAny_bind fin
theorem ZkP {X:Cx} {pins:List (Addr × Obj)} {σ:St} {H:Hp} {s:Shared} {a:Addr} {y:V} {o:Option V} (I:Inv X pins σ H s) (g:DGet H a y o):s.TypeIs (.ref a) "dict":=by
 rcases g with ⟨kvs,k,e,_,_⟩ | ⟨kvs,k,b,e,_,_,_⟩
 ·obtain ⟨_,_,vs,_,dd⟩:=ZjW I.hok e
  exact dd.typeIs
 ·obtain ⟨_,_,xs,_,dd⟩:=ZkD I.hok e
  exact dd.typeIs
def Zr2 (td ty:TE):TE:=fun σ H Q=>td σ H fun x H1=>ty σ H1 fun y H2=>∃ a v,x=.ref a∧DGet H2 a y (some v)∧Q v H2
def Zs1 (ty td:TE):TE:=fun σ H Q=>ty σ H fun y H1=>td σ H1 fun x H2=>∃ a o,x=.ref a∧DGet H2 a y o∧Q (.bl o.isSome) H2
def Zql (ty td:TE):TE:=fun σ H Q=>ty σ H fun y H1=>td σ H1 fun x H2=>∃ a o,x=.ref a∧DGet H2 a y o∧Q (.bl (!o.isSome)) H2
def ZrZ (td ty tv:TE):TS:=fun D σ H=>tv σ H fun v H1=>td σ H1 fun x H2=>ty σ H2 fun y H3=>∃ a H4,x=.ref a∧DPut H3 a y v H4∧D.nx σ H4
section
variable {X:Cx} {o i e value:Expr} {pos pos' tpos:Pos} {td ty tv:TE}
theorem Znu (hu:X.A.units+1<cLine) (ho:PE X o td) (hi:PE X i ty) (hs:Zsz i):PE X (.Subscript o i pos) (Zr2 td ty):=by
 intro pins s σ H Q I h
 refine ZpW PySem.F.slot_dict_getitem.lookup hs (thn (ho pins s σ H _ I h) fun u s1 ⟨x,H1,I1,rx,q1⟩=>thn (hi pins s1 σ H1 _ I1 q1) fun iv s2 ⟨y,H2,I2,ry,a,v,ex,g,q2⟩=>?_)
 subst ex
 obtain rfl:u=Value.ref a:=rx
 exact ⟨ZkP I2 g,Znt hu I2 g ry fun w' s3 I3 rw'=>⟨v,H2,I3,rw',q2⟩⟩
theorem Zrl (hu:X.A.units+1<cLine) (hi:PE X i ty) (ho:PE X o td):PC X .In i o (Zs1 ty td):=by
 intro pins s σ H Q I h
 refine thn (hi pins s σ H _ I h) fun iv s1 ⟨y,H1,I1,ry,q1⟩=>thn (ho pins s1 σ H1 _ I1 q1) fun u s2 ⟨x,H2,I2,rx,a,ov,ex,g,q2⟩=>?_
 subst ex
 obtain rfl:u=Value.ref a:=rx
 exact Zs8 hu I2 g ry fun s3 I3=>⟨.bl ov.isSome,H2,I3,rfl,q2⟩
theorem Zm7 (hu:X.A.units+1<cLine) (hi:PE X i ty) (ho:PE X o td):PC X .NotIn i o (Zql ty td):=by
 intro pins s σ H Q I h
 refine thn (hi pins s σ H _ I h) fun iv s1 ⟨y,H1,I1,ry,q1⟩=>thn (ho pins s1 σ H1 _ I1 q1) fun u s2 ⟨x,H2,I2,rx,a,ov,ex,g,q2⟩=>?_
 subst ex
 obtain rfl:u=Value.ref a:=rx
 exact ZpX hu I2 g ry fun s3 I3=>⟨.bl (!ov.isSome),H2,I3,rfl,q2⟩
theorem Zfy (hu : X.A.units + 1<cLine) (ho : PE X o td) (hi : PE X i ty) (hv : PE X value tv) (hs : swapsWith value (some (.Subscript o i pos')) pos.line X.env=pure false) :
  PS X (.Assign [.Subscript o i pos'] value pos) (ZrZ td ty tv):=by
 intro pins s σ H D I h
 refine wpAny_Assign_Subscript (thn (hv pins s σ H _ I h) fun r s1 ⟨v,H1,I1,rv,q1⟩=>thn (ho pins s1 σ H1 _ I1 q1) fun u s2 ⟨x,H2,I2,rx,q2⟩=>thn (hi pins s2 σ H2 _ I2 q2) fun iv s3 ⟨y,H3,I3,ry,a,H4,ex,g,q3⟩=>?_) hs
 subst ex
 obtain rfl:u=Value.ref a:=rx
 exact Zow hu I3 g ry rv fun s4 I4=>⟨σ,H4,I4,q3⟩
end
theorem Zpn {P:Program} {w:World} {H:Hp} (h:Heap) (hb:sysModules<h.objs.size):ObjOk P w H (h.push { cls:=.type "dict",data:=.dict #[] }) h.objs.size (.dK []) :=
 ⟨Nat.zero_le _,beq_eq_false_iff_ne.mpr (Ne.symm (Nat.ne_of_lt hb)),[],.nil,Heap.DictOf.new h⟩
theorem Zo4 {P:Program} {w:World} {H:Hp} (h:Heap) (hb:sysModules<h.objs.size):ObjOk P w H (h.push { cls:=.type "dict",data:=.dict #[] }) h.objs.size (.dT []) :=
 ⟨Nat.zero_le _,beq_eq_false_iff_ne.mpr (Ne.symm (Nat.ne_of_lt hb)),[],.nil,_,#[],0,Heap.get?_push_size _ rfl,⟨rfl,rfl,rfl⟩,rfl,rfl,List.nodup_nil⟩
def Zrj:TE:=fun _ H Q=>∀ p,H p=none->Q (.ref p) (upd H p (.dK []))
def ZrC:TE:=fun _ H Q=>∀ p,H p=none->Q (.ref p) (upd H p (.dT []))
section
variable {X:Cx} {pos:Pos}
theorem ZiX:PE X (.Dict [] [] pos) Zrj:=fun pins s σ H Q I h =>
 wpAny_Dict_empty ⟨.ref s.heap.objs.size,_,I.laid (a:=s.heap.objs.size) (o:=.dK []) (t':=s.toks) (fun _ _ q=>Heap.get?_push_of_some _ q) (Nat.le_refl _) (Zpn s.heap I.big),rfl,h _ (I.hok.fresh (Nat.le_refl _))⟩
theorem Zgn:PE X (.Dict [] [] pos) ZrC:=fun pins s σ H Q I h =>
 wpAny_Dict_empty ⟨.ref s.heap.objs.size,_,I.laid (a:=s.heap.objs.size) (o:=.dT []) (t':=s.toks) (fun _ _ q=>Heap.get?_push_of_some _ q) (Nat.le_refl _) (Zo4 s.heap I.big),rfl,h _ (I.hok.fresh (Nat.le_refl _))⟩
end
structure M1 (X:Cx) (o:Expr) (m:Str) (apos:Pos) (e:Expr) (cpos:Pos):Prop where
 base:attributeBase o m X.env (eval o X.env)=eval o X.env
 few:((backTo cpos (starEach [e] X.env)).all (fun x=>!x.1)&&(backToKw cpos (keywordEach [] X.env)).all (fun x=>x.1.isSome)
  && decide (([e]:List Expr).length+([]:List Keyword).length+(if ([]:List Keyword).isEmpty then 0 else 1)<30))=true
 line:(apos.endLine == cpos.line)=true
 trees:backTo cpos (starEach [e] X.env)=[(false,eval e X.env)]
structure M2 (X:Cx) (o:Expr) (m:Str) (apos:Pos) (e f:Expr) (cpos:Pos):Prop where
 base:attributeBase o m X.env (eval o X.env)=eval o X.env
 few:((backTo cpos (starEach [e,f] X.env)).all (fun x=>!x.1)&&(backToKw cpos (keywordEach [] X.env)).all (fun x=>x.1.isSome)
  && decide (([e,f]:List Expr).length+([]:List Keyword).length+(if ([]:List Keyword).isEmpty then 0 else 1)<30))=true
 line:(apos.endLine == cpos.line)=true
 trees:backTo cpos (starEach [e,f] X.env)=[(false,eval e X.env),(false,eval f X.env)]
def IsD (H:Hp) (a:Addr):Prop:=(∃ kvs,Rd H a (.dK kvs))∨∃ kvs,Rd H a (.dT kvs)
theorem ZpD {X : Cx} {pins : List (Addr × Obj)} {σ : St} {H : Hp} {s : Shared} {a : Addr} (I : Inv X pins σ H s) (d : IsD H a) :
  s.TypeIs (.ref a) "dict"∧(∀ b,Value.ref a=.ref b->∃ ob,s.heap.get? b=some ob∧ob.dict=none)∧(a == sysModules)=false:=by
 rcases d with ⟨kvs,e⟩ | ⟨kvs,e⟩
 ·obtain ⟨_,hd,vs,_,dd⟩:=ZjW I.hok e
  refine ⟨dd.typeIs,fun b q=>?_,hd⟩
  cases q
  obtain ⟨ob,_,_,h1,h2,_⟩:=dd
  exact ⟨ob,h1,h2.2.1⟩
 ·obtain ⟨_,hd,xs,_,dd⟩:=ZkD I.hok e
  refine ⟨dd.typeIs,fun b q=>?_,hd⟩
  cases q
  obtain ⟨ob,_,_,h1,h2,_⟩:=dd
  exact ⟨ob,h1,h2.2.1⟩
section
variable {X:Cx} {pins:List (Addr × Obj)} {σ:St} {H:Hp} {s:Shared} {a:Addr} {y d:V} {u r:Value} {o:Option V} {A:Around} {E:Value->Shared->Prop}
theorem ZrB {Q : Value → Shared → Prop} (hu : A.units + 1<cLine) (I : Inv X pins σ H s) (g : DGet H a y o) (ry : RelV y u) (rd : RelV d r) (h : ∀ w' s', Inv X pins σ H s' → RelV (o.getD d) w' → Q w' s') :
  wpAny (model X.prog X.w) A (call (.builtin "dict.get") [.ref a,u,r]) Q E s:=by
 rcases g with ⟨kvs,k,e,ey,l⟩ | ⟨kvs,k,b,e,ey,eb,l⟩
 ·subst ey
  obtain ⟨z,hd,vs,rel,dd⟩:=ZjW I.hok e
  refine call_meetsIn PySem.F.slot_dict_get dd.typeIs PySem.F.entry_dict_get (PySem.F.args_dict_get_3 _ _ _) (meets_dict_get_default (Zbl X.prog X.w) a (Zl1 ry) hd r) ⟨_,dd.mapOf,h _ _ (I.tok _) ?_⟩
  rw [l]
  exact (rel.val k).getD rd
 ·subst ey
  cases (show u=Value.ref b from ry)
  obtain ⟨z,hd,xs,rel,dd⟩:=ZkD I.hok e
  refine call_meetsIn PySem.F.slot_dict_get dd.typeIs PySem.F.entry_dict_get (PySem.F.args_dict_get_3 _ _ _) (meetsH_dict_get_default (tupleKind (Zbl X.prog X.w)) a b hd r) ⟨tupleKind_room_in1 hu,k,xs,Zg6 I.hok eb,dd,h _ _ (I.tok _) ?_⟩
  rw [l]
  exact (rel.val k).getD rd
end
def Zre (td ty tx:TE):TE:=fun σ H Q=>td σ H fun x H1=>∃ a,x=.ref a∧IsD H1 a∧ty σ H1 fun y H2=>tx σ H2 fun z H3=>∃ o,DGet H3 a y o∧Q (o.getD z) H3
section
variable {X:Cx} {o e f:Expr} {apos cpos:Pos} {td ty tx:TE}
theorem Zel (hu:X.A.units+1<cLine) (ho:PE X o td) (he:PE X e ty) (hf:PE X f tx) (m:M2 X o "get" apos e f cpos):PE X (.Call (.Attribute o "get" apos) [e,f] [] cpos) (Zre td ty tx):=by
 intro pins s σ H Q I h
 refine wpAny_Call_method m.base m.few m.line PySem.F.plainAttrs_dict PySem.F.slot_dict_get PySem.F.type_dict_get (thn (ho pins s σ H _ I h) fun u s1 ⟨x,H1,I1,rx,a,ex,d,q1⟩=>?_)
 subst ex
 obtain rfl:u=Value.ref a:=rx
 obtain ⟨t1,t2,_⟩:=ZpD I1 d
 refine ⟨t1,t2,?_⟩
 rw [m.trees]
 refine Calls.callWith_builtin rfl (Calls.evalArgs_plain (Calls.spliced_cons (thn (he pins s1 σ H1 _ I1 q1) fun iv s2 ⟨y,H2,I2,ry,q2⟩ =>
  Calls.spliced_cons (thn (hf pins s2 σ H2 _ I2 q2) fun fv s3 ⟨z,H3,I3,rz,ov,g,q3⟩=>Calls.spliced_nil ?_))))
 exact ZrB hu I3 g ry rz fun w' s4 I4 rw'=>⟨_,H3,I4,rw',q3⟩
end
section
variable {X:Cx} {pins:List (Addr × Obj)} {σ:St} {H:Hp} {s:Shared} {a:Addr} {kvs:List (Key × V)} {A:Around} {E:Value->Shared->Prop}
end
section
variable {X:Cx} {pins:List (Addr × Obj)} {σ:St} {H:Hp} {s:Shared} {a:Addr} {y:V} {u:Value} {A:Around} {E:Value->Shared->Prop}
end
end L2
namespace Att
open PySem PySem.W PySem.Calls PyProof.Rows
theorem ZgI {P:Params} {h:Heap}:∀ (ns:List Int) (vs:List Value),WellAll P h vs (ns.map WData.int)->IntsAre vs ns:=by
 intro ns
 induction ns with
 | nil =>
  intro vs w
  rw [List.map_nil] at w
  cases w
  exact .nil
 | cons n ns ih =>
  intro vs w
  rw [List.map_cons] at w
  cases w with
  | cons a b =>
   cases a
   exact .cons _ _ (ih _ b)
theorem ZnZ {l : OpenLaw} {n : Nat} (hn : l.most=some n) {P : Params} {h : Heap} {args : List WData} {vals : List Value}
  (hpre:l.row.toRowW.claim.pre args=true) (hwl:WellAll P h vals args) :
  ∃ a vs ns,vals=[Value.ref a]∧args=[WData.list (ns.map WData.int)]∧h.get? a=some { cls:=.type "list",data:=.seq vs.toArray }∧IntsAre vs ns∧ns.length≤n:=by
 have hsh:WShape.hasAll [] args [.list .int]=true:=(pre_splitW hpre).1
 have hc:l.pre.holds [] { args:=args }=true:=(pre_splitW hpre).2
 obtain ⟨d,r,rfl,h1,h2⟩:=hasAllW_cons hsh
 obtain rfl:=hasAllW_nil h2
 obtain ⟨xs,rfl,h3⟩:=hasW_list h1
 obtain ⟨ns,rfl⟩:=items_int h3
 have hlen:ns.length≤n:=by
  unfold OpenLaw.pre at hc
  have h4:(WTm.not (.lt (.lit (.int (n:Int))) (.len (.arg 0)))).holds [] { args:=[.list (ns.map .int)] }=true:=by
   have h4:=(holds_andW hc).1
   rw [hn] at h4
   exact h4
  have h5:=condW_of h4 (w_not (w_lt w_lit (w_len_list (w_arg rfl))))
  rw [List.length_map] at h5
  refine Nat.le_of_not_lt fun q=>?_
  have q':(n:Int)<((ns.length:Nat):Int):=by omega
  first
   | (rw [decide_eq_true q'] at h5; exact absurd h5 (by decide))
   | (simp at h5; omega)
 cases hwl with
 | cons w1 w2 =>
  cases w2
  cases w1 with
  | list ho hall=>exact ⟨_,_,ns,rfl,rfl,ho,ZgI ns _ hall,hlen⟩
theorem ZmV (l:OpenLaw) (args:List WData):l.row.toRowW.claim.post args (.bool true) args=true :=
 postW_of (r:=l.row.toRowW) (X:=(true == true))
  (show WShape.has [] (.bool true) .bool=true by first | rfl | decide | simp [WShape.has,WShape.arms,WShape.armsAll])
  (show (WTm.eq .res (.lit (.bool true))).value [] { args:=args,res:=some (.bool true),after:=args }=some (.bool (true == true)) from w_eq_bool (w_res rfl) w_lit) rfl
theorem attach_call {l : OpenLaw} {n : Nat} {q : Program} {loose : List Str} {XP : (Str → Option Value) → Heap → Prop} {YP : World → Heap → Prop} {d : DefRec}
  (hn:l.most=some n) (hdf:d.params.defaults=[])
  (call:∀ (w:World) (s₀ s₁:Shared) (mg mb:Str->Option Value) (fa:Addr) (o:Obj) (pm cd doc:Value) (a:Addr) (vs:List Value) (ns:List Int),
   Ground q loose [] XP w s₀ mg mb s₁.heap->YP w s₁.heap →
   s₁.heap.get? fa=some o->o.data=.func (docDef d.name d.params d.body d.scope pm cd doc)->s₁.heap.CodeRec cd d.name->mg d.name=some (.ref fa) →
   s₁.heap.get? a=some { cls:=.type "list",data:=.seq vs.toArray }->IntsAre vs ns->ns.length≤n->s₁.gens=#[] →
   codeAny (model l.prog w) callerA (.call (.ref fa) ⟨[.ref a],[]⟩) (fun r s'=>r=.ok (.ret (.bool true))∧OldK s₁.heap s'.heap∧s'.os=s₁.os∧AllBare s'.gens) s₁) :
  WalkO q loose XP YP l.row.toRowW d [] (fun f vs=>PySem.call f vs):=by
 intro w s₀ s₁ mg mb G Y fa o pm cd doc dV kV ho hd hcd hD hmg hg args vals as hpre hlay hrd hwl hlo
 obtain rfl:dV=.none:=Dflts.none hD hdf
 obtain rfl:kV=.none:=Dflts.noKw hD
 obtain ⟨a,vs,ns,rfl,rfl,hobj,hints,hlen⟩:=ZnZ hn hpre hwl
 refine enter_call (codeAny_mono (call w s₀ s₁ mg mb fa o pm cd doc a vs ns G Y ho (fd_plain hd) hcd hmg hobj hints hlen hg) fun r s' hq=>?_)
 obtain ⟨rfl,h2,h3,h4⟩:=hq
 exact ⟨.inl ⟨.bool true,.bool true,[],rfl,fun _=>rfl,.bool true,ZmV l _,fun _=>⟨List.Pairwise.nil,fun _ hm=>(nomatch hm)⟩⟩,h2,h3,h4⟩
section
variable {prog:Program} {w:World} {A:Around} {E:Value->Shared->Prop} {s:Shared} {K:Frag}
end
end Att
namespace L2
open PySem PySem.Spec PyProof.Rows
theorem Zka:∀ {vs:List Value} {ns:List Int},IntsAre vs ns->Vals (ns.map V.int) vs
 | _,_,.nil=>.nil
 | _,_,.cons n t h=>.cons ⟨t,rfl⟩ (Zka h)
def Zsi (H:Hp):Prop:=∀ b,H b=none∨∃ o xs,H b=some (.frz o (.lst xs))
theorem ZoH {P : Program} {w : World} {K : W.Frag} {mg mb : Str → Option Value} {CX : CXT} {k : Nat} {fa a : Addr} {fd : FuncData} {x : Str} {sp : Sp} {s₁ : Shared} {vs : List Value} {ns : List Int}
  (KX:K.In s₁.heap) (hns:s₁.heap.Ns mainGlobals mg) (hb:s₁.heap.Ns builtinsNs mb) (hbb:∀ x:Str,x≠"__name__"->mb x=bootBuiltins x) (hlim:s₁.heap.NoLimit) (hg:s₁.gens=#[])
  (ha:s₁.heap.get? a=some { cls:=.type "list",data:=.seq vs.toArray }) (hi:IntsAre vs ns) (hl:ns.length≤sizeLine) (hr:Room k callerA)
  (F:∀ base:Heap,K.In base->base.Ns mainGlobals mg->FnOk P w K mg base CX k fa fd [x] sp) (hbind:∀ (s:Shared) (u:Value),BindsTo s fd ⟨[u],[]⟩ [(x,u)])
  (hsp:∀ H:Hp,Zsi H->SqL K H a (ns.map V.int)->sp [.ref a] H (fun v _=>v=.bl true) fun _ _ _=>False)
  (hCX:∀ H e s',CX [] H s₁ (fun _ _ _=>False) e s'->False) :
  codeAny (model P w) callerA (.call (.ref fa) ⟨[.ref a],[]⟩) (fun r s'=>r=.ok (.ret (.bool true))∧OldK s₁.heap s'.heap∧s'.os=s₁.os∧AllBare s'.gens) s₁:=by
 have rv:=Zka hi
 have lenV:=hi.length
 have core : ∀ H : Hp, Zsi H → SqL K H a (ns.map V.int) → HOk P w H s₁.heap → (∀ b, H b ≠ none → b=a) → (H a ≠ none → K.lookup a=none) →
   codeAny (model P w) callerA (.call (.ref fa) ⟨[.ref a],[]⟩) (fun r s'=>r=.ok (.ret (.bool true))∧OldK s₁.heap s'.heap∧s'.os=s₁.os∧AllBare s'.gens) s₁:=by
  intro H hO hS hok hA hK
  have base_of:∀ {b:Addr} {o:Obj},s₁.heap.get? b=some o->H b=none->(Zo8 s₁.heap H).get? b=some o:=fun e n=>ZoC e n
  have noA:∀ {b:Addr} {o:Obj} {es:Array DictEntry} {ep:Nat},s₁.heap.get? b=some o->o.data=.dict es ep->H b=none:=fun {b o es ep} e d=>by
   cases q:H b with
   | none=>rfl
   | some u =>
    have e':b=a:=hA b (by rw [q]; simp)
    subst e'
    rw [ha] at e; cases e
    have d':Data.seq vs.toArray _=Data.dict es ep:=d
    cases d'
  have nsK:∀ {b:Addr} {m:Str->Option Value},s₁.heap.Ns b m->(Zo8 s₁.heap H).Ns b m:=fun {b m} ⟨o,es,ep,e,d,r⟩=>⟨o,es,ep,base_of e (noA e d),d,r⟩
  have hKb:K.In (Zo8 s₁.heap H):=fun b o e=>base_of (KX b o e) (by
   cases q:H b with
   | none=>rfl
   | some u =>
    have e':b=a:=hA b (by rw [q]; simp)
    subst e'
    rw [hK (by rw [q]; simp)] at e; cases e)
  have hM:Mod K mg (Zo8 s₁.heap H):=⟨hKb,nsK hns,⟨mb,nsK hb,hbb⟩,let ⟨mc,h1,h2⟩:=hlim; ⟨mc,nsK h1,h2⟩⟩
  have e0:Env0 P w K mg (Zo8 s₁.heap H) callerA [] s₁ H:=⟨rfl,hM,fun b o e=>Zp3 e,Nat.le_of_eq (Zoa _ _),trivial,fun b hb=>absurd (show b∈([]:List Addr) from hb) (by simp),hok,.of_eq hg⟩
  refine codeAny_mono ((F _ hKb (nsK hns)).run callerA [] s₁ H ⟨[.ref a],[]⟩ [.ref a] [.ref a] _ _ hr e0 (hbind s₁ (.ref a)) (.cons rfl .nil) (hsp H hO hS)) fun r s' h=>?_
  cases r with
  | error e=>exact (hCX H e s' h).elim
  | ok fl =>
   cases fl with
   | next=>exact False.elim h
   | brk=>exact False.elim h
   | cont=>exact False.elim h
   | ret u =>
    obtain ⟨v,H',os,bare,un,hok',r',q⟩:=h
    have q':v=.bl true:=q
    subst q'
    obtain rfl:u=Value.bool true:=r'
    refine ⟨rfl,OldK.of_keep fun b o e=>?_,os,bare⟩
    cases q:H b with
    | none=>exact un.keep b o e q (by intro z; exact absurd (show b∈([]:List Addr) from z) (by simp)) (by simp)
    | some u =>
     rcases hO b with z | ⟨ob,xs,z⟩
     ·rw [q] at z; cases z
     ·have z2:=un.frzs b ob _ z
      obtain ⟨e1,_⟩:=hok b _ z
      obtain ⟨e2,_⟩:=hok' b _ z2
      rw [e] at e1; cases e1
      exact e2
 cases hk:K.lookup a with
 | some o =>
  have e:=KX a o hk
  rw [ha] at e
  cases e
  refine core (fun _=>none) (fun _=>.inl rfl) (.inr ⟨_,vs.toArray,_,hk,rfl,rfl,rfl,by rw [List.size_toArray,lenV]; exact hl,by simpa using rv⟩) (fun b u z=>by have z':(none:Option HO)=some u:=z; cases z') (fun b z=>absurd rfl z) fun z=>absurd rfl z
 | none =>
  refine core (fun b=>if b=a then some (.frz { cls:=.type "list",data:=.seq vs.toArray } (.lst (ns.map V.int))) else none) (fun b=>?_) (.inl (.inr ⟨{ cls:=.type "list",data:=.seq vs.toArray },if_pos rfl⟩)) (fun b u z=>?_) (fun b z=>?_) fun _=>hk
  ·by_cases hb:b=a
   ·exact .inr ⟨_,_,if_pos hb⟩
   ·exact .inl (if_neg hb)
  ·by_cases hb:b=a
   ·have z':=(if_pos hb).symm.trans z
    cases z'
    subst hb
    exact ⟨ha,by rw [List.length_map]; exact hl,vs,_,rv,ha⟩
   ·have z':=(if_neg hb).symm.trans z
    cases z'
  ·by_cases hb:b=a
   ·exact hb
   ·exact absurd (if_neg hb) z
theorem walk_of {l : W.OpenLaw} {n k : Nat} {q : Program} {loose : List Str} {XP : (Str → Option Value) → Heap → Prop} {YP : World → Heap → Prop} {d : DefRec} {K : Params → W.Frag} {CX : World → CXT} {sp : World → Sp} {x : Str}
  (hn:l.most=some n) (hn2:n≤sizeLine) (hdf:d.params.defaults=[]) (hr:Room k callerA)
  (hY:∀ (w:World) (h:Heap),YP w h->(K w.params).In h)
  (F:∀ (w:World) (mg:Str->Option Value) (fa:Addr) (h:Heap),(K w.params).In h->h.Ns mainGlobals mg->mg d.name=some (.ref fa) →
   ∃ fd:FuncData,(∀ (s:Shared) (u:Value),BindsTo s fd ⟨[u],[]⟩ [(x,u)]) ∧
    ∀ base:Heap,(K w.params).In base->base.Ns mainGlobals mg->FnOk l.prog w (K w.params) mg base (CX w) k fa fd [x] (sp w))
  (hsp:∀ (w:World) (H:Hp) (a:Addr) (ns:List Int),ns.length≤n->Zsi H->SqL (K w.params) H a (ns.map V.int)->sp w [.ref a] H (fun v _=>v=.bl true) fun _ _ _=>False)
  (hCX:∀ (w:World) (H:Hp) (s:Shared) (e:Value) (s':Shared),CX w [] H s (fun _ _ _=>False) e s'->False) :
  W.WalkO q loose XP YP l.row.toRowW d [] (fun f vs=>PySem.call f vs):=by
 refine Att.attach_call hn hdf fun w s₀ s₁ mg mb fa o pm cd doc a vs ns G Y ho hd hcd hmg hobj hints hlen hg=>?_
 have KX:=hY w _ Y
 obtain ⟨fd,hb,hF⟩:=F w mg fa _ KX G.T.g hmg
 exact ZoH KX G.T.g G.T.b G.T.builtins G.T.nolimit hg hobj hints (Nat.le_trans hlen hn2) hr hF hb (fun H hO hS=>hsp w H a ns hlen hO hS) fun H e s'=>hCX w H s₁ e s'
noncomputable def ZbN (s:Stmt) (j:Nat):Stmt:=match s with
 | .ClassDef _ _ _ body _ _ _ _ _ _ _=>body.getD j (.Pass ⟨0,0,0,0⟩)
 | _=>.Pass ⟨0,0,0,0⟩
noncomputable def Zcg (s:Stmt):Arguments:=match s with
 | .FunctionDef _ a _ _ _ _ _ _ _ _=>a
 | _=>{ posonlyargs:=[],args:=[],vararg:=none,kwonlyargs:=[],kw_defaults:=[],kwarg:=none,defaults:=[] }
noncomputable def ZbW (s:Stmt):List Stmt:=match s with
 | .FunctionDef _ _ b _ _ _ _ _ _ _=>b
 | _=>[]
noncomputable def Zal (s:Stmt):Scope:=match s with
 | .FunctionDef _ _ _ _ _ _ sc _ _ _=>sc
 | _=>{ kind:=.function,names:=[],isGenerator:=false,isCoroutine:=false }
abbrev E0:XK:=fun _ _ _=>False
structure Fun (K:W.Frag) (x qual:Str) (st:Stmt) (f:Addr) (fd:FuncData):Prop where
 ex:∃ (oc:Value) (od:Option Addr) (kV doc pm:Value) (an:Option Addr) (cdv ct:Value) (osl:Array (Option Value)),
  fd=W.fnOf x qual (Zcg st) (ZbW st) (Zal st) .none kV doc pm an cdv ct∧K.lookup f=some ⟨oc,od,.func fd,osl⟩∧W.codeIn K cdv qual=true
 kp:W.keepIn K (.ref f)=true
section
variable {P:Program} {w:World} {K:W.Frag} {mg:Str->Option Value} {base:Heap}
theorem Fun.binds {x qual : Str} {st : Stmt} {f : Addr} {fd : FuncData} {ps : List Str} (F : Fun K x qual st f fd)
  (h:∀ (kV doc pm:Value) (an:Option Addr) (cdv ct:Value) (us:List Value),us.length=ps.length->bindArgs (W.fnOf x qual (Zcg st) (ZbW st) (Zal st) .none kV doc pm an cdv ct) ⟨us,[]⟩=pure (ps.zip us)):Binds K fd ps []:=by
 obtain ⟨oc,od,kV,doc,pm,an,cdv,ct,osl,rfl,lk,hcd⟩:=F.ex
 exact .all (h kV doc pm an cdv ct)
theorem ZqV {x qual : Str} {st : Stmt} {f : Addr} {oc : Value} {od an : Option Addr} {osl : Array (Option Value)} {kV doc pm cdv ct : Value} (l : K.lookup f=some ⟨oc, od, .func (W.fnOf x qual (Zcg st) (ZbW st) (Zal st) .none kV doc pm an cdv ct), osl⟩)
  (c:W.codeIn K cdv qual=true) (k:W.keepIn K (.ref f)=true):Fun K x qual st f (W.fnOf x qual (Zcg st) (ZbW st) (Zal st) .none kV doc pm an cdv ct):=⟨⟨oc,od,kV,doc,pm,an,cdv,ct,osl,rfl,l,c⟩,k⟩
end
theorem ZdU {A:Around} {k:Nat} (hr:Room k A):A.units+1<cLine:=Nat.lt_of_le_of_lt (Nat.add_le_add_left (by decide:1≤64) _) hr.units
theorem Zao {n:Nat} (h:n≤1000):n<sizeLine:=Nat.lt_of_le_of_lt h (by decide)
section
variable {X:Cx}
theorem pv (i : Nat) {x : Str} {pos : Pos} (hN : X.N[i]?=some x := by rfl) (hv : Vis X.env.scope x := by first | exact Or.inl rfl | exact Or.inr (Or.inl rfl) | exact Or.inr (Or.inr rfl)) (hd : (x == ("__debug__" : Str))=false := by decide)
  (hcd:(x == ("__classdict__" : Str))=false:=by decide):PE X (.Name x pos) (Zri i):=ZpM hN hv hd hcd
theorem Zob:Zdd X (.builtin "len") (fun xs H Q=>∃ a kvs,xs=[V.ref a]∧H a=some (.dK kvs)∧Q (.int kvs.length) H):=by
 intro pins s σ H xs us Q I r h
 obtain ⟨a,kvs,rfl,ha,q⟩:=h
 obtain ⟨u,rfl,ru⟩:=ZfJ r
 cases ru
 exact Zsk I (.inl ha) fun t s' I'=>⟨.int kvs.length,H,I',⟨t,rfl⟩,q⟩
end
theorem Zdz {A B:Prop} (h:B):if false=true then A else B:=by
 rw [if_neg Bool.false_ne_true]
 exact h
theorem Zda {A B:Prop} (h:A):if true=true then A else B:=by
 rw [if_pos rfl]
 exact h
def Same (H H':Hp):Prop:=∀ b o,H b=some o->H' b=some o
theorem Same.refl (H:Hp):Same H H:=fun _ _ h=>h
theorem Same.trans {H H1 H2:Hp} (a:Same H H1) (b:Same H1 H2):Same H H2:=fun c o h=>b c o (a c o h)
section
variable {κ:Type} [DecidableEq κ]
end
end L2
set_option maxHeartbeats 4000000
namespace L2
open PySem PySem.Spec PyProof.Rows
section
variable {P:Program} {w:World} {H H':Hp} {h h':Heap} {a:Addr} {o:HO}
theorem HOk.lean (x:HOk P w H h) (k:∀ b u,H b≠none->h.get? b=some u->h'.get? b=some u):HOk P w H h':=fun b u e =>
 (x b u e).stay (fun c v hc q=>k c v (by
  rcases hc with rfl | hc
  ·rw [e]; simp
  ·rw [hc]; simp) q) (fun _ q=>q) fun _ _ q=>q
end
structure Flies (P:Program) (w:World) (outer:List Env) (H H':Hp) (s s':Shared) (e:Addr) (cls:Value):Prop where
 os:s'.os=s.os
 bare:AllBare s'.gens
 un:Un (frs outer) [] H H' s.heap s'.heap
 fly:∃ B a0,Heap.FlyingW B outer e cls a0 s'.heap∧HOk P w H' B∧(∀ b o,s.heap.get? b=some o->H b=none->b ∉ frs outer->B.get? b=some o) ∧
  ∀ b o,s.heap.get? b=some o->b ∉ frs outer->∃ o',B.get? b=some o'
noncomputable def CX1 (P:Program) (w:World):CXT:=fun outer H s E u s'=>∃ e cls H',u=.ref e∧Flies P w outer H H' s s' e cls∧E cls none H'
section
variable {X:Cx} {pins:List (Addr × Obj)} {σ:St} {H H':Hp} {s s':Shared} {e:Addr} {cls:Value}
theorem Flies.inv (f:Flies X.prog X.w X.stack H H' s s' e cls) (I:Inv X pins σ H s):Inv X pins σ H' s':=by
 obtain ⟨B,a0,fl,hB,_,_⟩:=f.fly
 exact I.call' (ch:=[]) f.os f.un (hB.kept fl.1) f.bare (fun b z=>absurd z (by simp))
theorem Inv.nst (I:Inv X pins σ H s) {b:Addr} {o:Obj} (q:X.s₀.heap.get? b=some o) (hb:b ∉ X.fs):b ∉ frs X.stack:=fun z=>by
 rcases List.mem_cons.mp (I.stkSub b z) with y | y
 ·exact absurd (Nat.lt_of_lt_of_le (Heap.lt_size q) I.ok.above) (by rw [y]; exact Nat.lt_irrefl _)
 ·exact hb y
theorem Flies.leaves {M : Model} {Q : Unit → Shared → Prop} {E : Value → Shared → Prop} (f : Flies X.prog X.w X.stack H H' s s' e cls) (I : Inv X pins σ H s)
  (hs:X.stack=X.env :: X.outer) (hf:X.env.frame=some X.env.locals) (hx:X.ex=[])
  (hQ:∀ s'',Flies X.prog X.w X.outer X.H₀ H' X.s₀ s'' e cls->Q () s''):wpAny M X.A (leaving X.env (.ref e)) Q E s':=by
 have J:=f.inv I
 obtain ⟨B,a0,fl,hB,kB,tB⟩:=f.fly
 rw [hs] at fl
 have nx:∀ b:Addr,b ∉ X.ex:=fun b=>by rw [hx]; simp
 refine wpAny_leaves_onW (by rw [I.ok.frames,hs]) hf fl fun h' fl' up=>hQ _ ?_
 have slot:∀ b o,X.s₀.heap.get? b=some o->b∈X.fs->∃ sl,h'.get? b=some { o with slots:=sl }:=fun b o q hb=>by
  obtain ⟨sl,e1⟩:=J.base.slot b o q (I.ok.frf b hb) hb (nx b)
  obtain ⟨_,o',ho',hn⟩:=J.funs.mem hb
  rw [e1] at ho'
  cases ho'
  obtain ⟨sl',e2⟩:=up b _ e1 hn
  exact ⟨sl',e2⟩
 have keepB:∀ b o,X.s₀.heap.get? b=some o->X.H₀ b=none->b ∉ X.fs->B.get? b=some o:=fun b o q n hb =>
  kB b o (I.base.keep b o q n hb (nx b)) (I.base.free b o q n (nx b)) (I.nst q hb)
 have thereB:∀ b o,X.s₀.heap.get? b=some o->b ∉ X.fs->∃ o',B.get? b=some o':=fun b o q hb=>by
  obtain ⟨o1,e1⟩:=I.base.there b o q (nx b)
  exact tB b o1 e1 (I.nst q hb)
 refine ⟨J.os,J.bare,⟨fun b o q n hb _=>fl'.1 b o (keepB b o q n hb),fun b o q _ hb _=>slot b o q hb,fun b o q n _=>J.base.free b o q n (nx b),fun b o q _=>?_,J.base.tups,J.base.frzs,J.base.tbls⟩,
  B,a0,fl',hB,keepB,thereB⟩
 by_cases hb:b∈X.fs
 ·obtain ⟨sl,e2⟩:=slot b o q hb
  exact ⟨_,e2⟩
 ·obtain ⟨o1,e1⟩:=thereB b o q hb
  exact ⟨o1,fl'.1 b o1 e1⟩
theorem Zk4 {M : Model} {Q : Unit → Shared → Prop} {E : Value → Shared → Prop} {h1 : Heap} {vs : List Value} (I : Inv X pins σ H s) (mk : Heap.MadeExcOf s.heap h1 e cls vs)
  (hs:X.stack=X.env :: X.outer) (hf:X.env.frame=some X.env.locals) (hx:X.ex=[])
  (hQ:∀ s'',Flies X.prog X.w X.outer X.H₀ H X.s₀ s'' e cls->Q () s''):wpAny M X.A (leaving X.env (.ref e)) Q E { s with heap:=h1 }:=by
 have nx:∀ b:Addr,b ∉ X.ex:=fun b=>by rw [hx]; simp
 have hid:∀ b o,s.heap.get? b=some o->b ∉ frs X.stack->(W.hideAll s.heap (frs X.stack)).get? b=some o:=fun b o q n=>W.hideAll_get _ q n
 have FF:s.heap.FunFrames (W.hideAll s.heap (frs X.stack)) X.stack :=
  W.funFrames_hide I.stack fun env he a ha=>List.mem_filterMap.mpr ⟨env,he,ha⟩
 have hB:HOk X.prog X.w H (W.hideAll s.heap (frs X.stack)):=I.hok.lean fun b u n q=>hid b u q fun z=>n (I.stkFree b z)
 have sub:∀ b o,(W.hideAll s.heap (frs X.stack)).get? b=some o->s.heap.get? b=some o:=fun b o q=>W.of_hideAll _ q
 generalize W.hideAll s.heap (frs X.stack)=B at *
 rw [hs] at FF
 refine wpAny_leaves_madeW (s:={ s with heap:=h1 }) (by rw [I.ok.frames,hs]) hf sub FF mk fun h' t fl' _ _ up=>hQ _ ?_
 have slot:∀ b o,X.s₀.heap.get? b=some o->b∈X.fs->∃ sl,h'.get? b=some { o with slots:=sl }:=fun b o q hb=>by
  obtain ⟨sl,e1⟩:=I.base.slot b o q (I.ok.frf b hb) hb (nx b)
  obtain ⟨_,o',ho',hn⟩:=I.funs.mem hb
  rw [e1] at ho'
  cases ho'
  obtain ⟨sl',e2⟩:=up b _ (mk.keeps _ _ e1) hn
  exact ⟨sl',e2⟩
 have keepB:∀ b o,X.s₀.heap.get? b=some o->X.H₀ b=none->b ∉ X.fs->B.get? b=some o:=fun b o q n hb =>
  hid b o (I.base.keep b o q n hb (nx b)) (I.nst q hb)
 have thereB:∀ b o,X.s₀.heap.get? b=some o->b ∉ X.fs->∃ o',B.get? b=some o':=fun b o q hb=>by
  obtain ⟨o1,e1⟩:=I.base.there b o q (nx b)
  exact ⟨o1,hid b o1 e1 (I.nst q hb)⟩
 refine ⟨I.os,I.bare,⟨fun b o q n hb _=>fl'.1 b o (keepB b o q n hb),fun b o q _ hb _=>slot b o q hb,fun b o q n _=>I.base.free b o q n (nx b),fun b o q _=>?_,I.base.tups,I.base.frzs,I.base.tbls⟩,
  _,_,fl',hB,keepB,thereB⟩
 by_cases hb:b∈X.fs
 ·obtain ⟨sl,e2⟩:=slot b o q hb
  exact ⟨_,e2⟩
 ·obtain ⟨o1,e1⟩:=thereB b o q hb
  exact ⟨o1,fl'.1 b o1 e1⟩
end
abbrev XS:=St->XK
def ZdX (CX:CXT) (X:Cx) (E:XS):Prop:=∀ (pins:List (Addr × Obj)) (σ:St) (H:Hp) (s:Shared) (e:Value) (s':Shared),Inv X pins σ H s->CX X.stack H s (E σ) e s'->X.xe e s'
def ZpJ (X:Cx) (E:XS):Prop:=∀ (pins:List (Addr × Obj)) (σ:St) (H:Hp) (s:Shared) (h1:Heap) (e:Addr) (cls:Value) (vs:List Value),Inv X pins σ H s->Heap.MadeExcOf s.heap h1 e cls vs->E σ cls none H->X.xe (.ref e) { s with heap:=h1 }
theorem Zah {P:Program} {w:World} {X:Cx}:ZdX (CX1 P w) X (fun _=>E0):=fun _ _ _ _ _ _ _ ⟨_,_,_,_,_,z⟩=>False.elim z
section
variable {P:Program} {w:World} {K:W.Frag} {mg:Str->Option Value} {base:Heap} {N:List Str} {qual:Str} {scope:Scope} {f:Addr} {cd:Value} {A:Around} {outer:List Env} {s:Shared} {H:Hp} {E:XK}
theorem ZbX:ZdX (CX1 P w) (Zo0 (CX1 P w) P w K mg base N qual scope f cd A outer s H E) (fun _=>E):=by
 rintro pins σ H1 s1 u s' I ⟨e,cls,H',rfl,fl,q⟩
 exact fl.leaves I rfl rfl rfl fun s'' f''=>⟨e,cls,H',rfl,f'',q⟩
theorem Zdp:ZpJ (Zo0 (CX1 P w) P w K mg base N qual scope f cd A outer s H E) (fun _=>E):=by
 intro pins σ H1 s1 h1 e cls vs I mk q
 exact Zk4 I mk rfl rfl rfl fun s'' f''=>⟨e,cls,H1,rfl,f'',q⟩
end
section
variable {X:Cx} {CX:CXT} {k:Nat} {f C:Addr} {fd:FuncData} {ps:List Str} {sp:Sp} {dvs:List V} {ds:List Value} {E:XS} {x m:Str} {p pos apos:Pos} {e o:Expr} {es:List Expr} {ta:TE} {t:TA}
def ZrJ (sp:Sp) (dvs:List V) (E:XS) (t:TA):TE:=fun σ H Q=>t σ H fun vs H1=>sp (vs++dvs) H1 Q (E σ)
theorem ZkJ {pins : List (Addr × Obj)} {σ : St} {H : Hp} {s : Shared} {Q : VK} {us : List Value} {vs : List V} (F : FnOk X.prog X.w X.K X.mg X.base CX k f fd ps sp) (hr : Room k X.A) (hb : Binds X.K fd ps ds) (hd : Vals dvs ds) (hx : ZdX CX X E)
  (I:Inv X pins σ H s) (r:Vals vs us) (h:sp (vs++dvs) H Q (E σ)):wpAny (model X.prog X.w) X.A (call (.ref f) us) (EP X pins σ Q) X.xe s:=by
 have r2:Vals (vs++dvs) (us++ds):=r.append hd
 have hl:(us++ds).length=ps.length:=by rw [← r2.length]; exact F.len _ _ _ _ h
 refine wpAny_call (codeAny_mono (F.run X.A X.stack s H ⟨us,[]⟩ (us++ds) (vs++dvs) Q (E σ) hr I.env0 (hb s us I.kIn hl) r2 h) fun r s' hq=>?_)
 cases r with
 | error e=>exact hx pins σ H s e s' I hq
 | ok fl =>
  cases fl with
  | ret u=>exact I.after hq
  | next=>exact False.elim hq
  | brk=>exact False.elim hq
  | cont=>exact False.elim hq
theorem Zar (F : FnOk X.prog X.w X.K X.mg X.base CX k f fd ps sp) (hr : Room k X.A) (hg : Gl X x) (hm : X.mg x=some (.ref f)) (hk : W.keepIn X.K (.ref f)=true) (hb : Binds X.K fd ps ds) (hd : Vals dvs ds) (hx : ZdX CX X E)
  (ha:PA X (e :: es) t) (hdb:(x == ("__debug__" : Str))=false:=by decide) (he:starEach (e :: es) X.env=(false,eval e X.env) :: starEach es X.env:=by rfl) (hpl:(backTo pos (starEach es X.env)).any (·.1)=false:=by rfl) :
  PE X (.Call (.Name x p) (e :: es) [] pos) (ZrJ sp dvs E t):=by
 intro pins s σ H Q I h
 refine wpAny_Call_Name_kw (Zjb I hg hm ?_ hdb)
 refine W.callWith_K (h₀:=X.base) I.ok.mod.kin hk (thn (ha pos pins s σ H _ I h) fun us s1 ⟨vs,H1,I1,r,q⟩=>⟨I1.kIn,?_⟩) he hpl
 exact ZkJ F hr hb hd hx I1 r q
end
section
variable {K:W.Frag} {h:Heap} {C:Addr} {bmB:List Value} {newId:String}
theorem Zra (X : K.In h) (q : W.excIn K C bmB newId=true) : ∃ bm N nm qn bs hdct sn sub ab col dd k0 k1 k2 k3 k5 mN,
  h.get? C=some (excClassObj nm qn C N bs bm hdct sn sub ab col dd k0 k1 k2 k3 k5 newId)∧h.Ns N mN∧mN "__init__"=none∧OwnTail h bmB bm:=by
 unfold W.excIn at q
 split at q
 case h_2=>cases q
 case h_1 dict0 cdat slots0 found =>
  split at q
  case h_2=>cases q
  case h_1 C1 rest0 s0 s1 s2 s3 nid s5 mroEq slEq =>
   simp only [Bool.and_eq_true,beq_iff_eq,Bool.not_eq_true'] at q
   have q1:=q.1.1.1.1.1
   have q2:=q.1.1.1.1.2
   have q3:=q.1.1.1.2
   have q4:=q.1.1.2
   have q5:=q.1.2
   have q6:=q.2
   subst q1 q2
   cases cdat with
   | mk nmX basesX mroX nsX qualX hdX snX subX abX colX delX =>
    dsimp only at mroEq q3 q5 q6
    subst mroEq
    subst q3
    have es:slots0=#[s0,s1,s2,s3,some (.builtin nid),s5]:=by
     cases slots0 with
     | mk l=>exact congrArg _ slEq
    subst es
    exact ⟨rest0,nsX,nmX,qualX,basesX,hdX,snX,subX,abX,colX,dict0,s0,s1,s2,s3,s5,_,X _ _ found,.of_isNs (W.isNs_of_in X q5),W.nsMap_none_of_in X q5 q6,W.tail_of_in X q4⟩
end
section
variable {X:Cx} {x:Str} {C:Addr} {np cpos pos:Pos} {e₀:Expr} {rest:List Expr} {t:TA} {bmB:List Value} {newId B initId:String} {E:XS}
def Zrn (C:Addr) (E:XS) (t:TA):TS:=fun _ σ H=>t σ H fun vs H1=>vs.length≤sizeLine∧E σ (.ref C) none H1
theorem Zdt (hg : Gl X x) (hm : X.mg x=some (.ref C)) (q : W.excIn X.K C bmB newId=true) (FB : ExcBaseFacts B newId initId bmB) (hc : X.calm=true) (hx : ZpJ X E) (ha : PA X (e₀ :: rest) t)
  (hd:(x == ("__debug__" : Str))=false:=by decide) (he:starEach (e₀ :: rest) X.env=(false,eval e₀ X.env) :: starEach rest X.env:=by rfl) (hpl:(backTo cpos (starEach rest X.env)).any (·.1)=false:=by rfl) :
  PS X (.Raise (some (.Call (.Name x np) (e₀ :: rest) [] cpos)) none pos) (Zrn C E t):=by
 intro pins s σ H D I h
 obtain ⟨bm,N,nm,qn,bs,hdct,sn,sub,ab,col,dd,k0,k1,k2,k3,k5,mN,hC,hN,hni,T⟩:=Zra I.mod.kin q
 have hpl':(backTo cpos (starEach (e₀ :: rest) X.env)).any (·.1)=false:=by
  rw [he]
  exact hpl
 refine wpAny_Raise_call_subT (C:=C) (nm:=nm) (q:=qn) (N:=N) (bs:=bs) (bm:=bm) (hdct:=hdct) (sn:=sn) (sub:=sub) (ab:=ab) (col:=col) (dd:=dd) (k0:=k0) (k1:=k1) (k2:=k2)
  (k3:=k3) (k5:=k5) FB (mN:=mN) (T.hasType FB.hasBase) (I.ok.hd hc) hpl' hni (Zjb I hg hm ⟨rfl,?_⟩ hd)
 have g:=ha cpos pins s σ H _ I h
 rw [he] at g ⊢
 refine Calls.evalArgs_plain (wpAny_mono g (fun us s1 r1=>?_) fun _ _ y=>y)
 obtain ⟨vs,H1,I1,rv,z,q1⟩:=r1
 exact ⟨rfl,by rw [← rv.length]; exact z,I1.bk _ _ hC,hN.keeps I1.bk,T.keeps I1.bk,fun h1 e mk=>hx pins σ H1 s1 h1 e (.ref C) us I1 mk q1⟩
end
def ZqU (cls:Value) (e:Addr):Heap->Prop:=fun h=>∃ o vs,h.get? e=some o∧o.cls=cls∧o.data=.fields vs
noncomputable def ZsE (cls:Value) (e:Addr):HO:=.ext (ZqU cls e)
section
variable {P:Program} {w:World} {H H':Hp} {h h':Heap} {a:Addr} {o:HO}
end
section
variable {P:Program} {w:World} {outer:List Env} {H H':Hp} {s s':Shared} {e:Addr} {cls:Value}
end
section
variable {X:Cx} {pins:List (Addr × Obj)} {σ:St} {H H':Hp} {s s':Shared} {e:Addr} {cls:Value}
end
section
variable {X:Cx} {pins pins':List (Addr × Obj)} {σ:St} {H H':Hp} {s s':Shared} {W:Value->Shared->Prop} {e:Addr}
end
section
variable {X:Cx} {body suite:List Stmt} {b₀:Stmt} {x n:Str} {C:Addr} {np hpos pos:Pos} {bmB:List Value} {newId:String} {i:Nat} {tb:XS->TS} {ts:TS}
end
structure ExcK (K:W.Frag) (C:Addr):Prop where
 ga:W.findIn K (.ref C) "__getattribute__"=some (some (.builtin "BaseException.__getattribute__"))
 gt:W.findIn K (.ref C) "__getattr__"=some none
 cl:W.findIn K (.ref C) "__class__"=some (some (.builtin "object.__class__"))
 mb:W.mroIn K C (.type "BaseException")=some true
 mo:W.mroIn K C (.type "object")=some true
section
variable {prog:Program} {w:World} {A:Around} {E:Value->Shared->Prop} {K:W.Frag} {h:Heap} {g:Array GenState} {d:Drawn} {t:Nat} {os:OsState} {a C:Addr} {ob:Obj}
theorem ZgS:(".".intercalate ("object.__class__".cutAt '.').dropLast)="object":=by decide +kernel
theorem Zp1 {R : Result → Shared → Prop} (X : K.In h) (Z : ExcK K C) (hx : h.get? a=some ob) (hc : ob.cls=.ref C) (hq : R (.ok (.ret (.ref C))) ⟨h, g, d, t, os⟩) :
  codeAny (model prog w) A (.call (.builtin "getset_descriptor.__get__") ⟨[.builtin "object.__class__",.ref a,.ref C],[]⟩) R ⟨h,g,d,t,os⟩:=by
 have k5:(⟨h,g,d,t,os⟩:Shared).TypeIs (.builtin "object.__class__") "getset_descriptor":=F.typeOf_object_class
 have mo:W.Looks (model prog w) h (isSubtype (.ref C) (.type (".".intercalate ("object.__class__".cutAt '.').dropLast))) true:=by
  rw [ZgS]
  exact W.looks_mroIn X Z.mo
 refine codeAny_call_builtin F.slot_gs_get.plain F.entry_gs_get (F.slot_gs_get.check _ _ _ _ _ _ _ _ k5 (F.args_gs_get _ _ _) ?_)
 repeat (any_goals (first | assumption | (with_reducible refine wpAny_loadPart_at hx ?_; rw [hc]) | (with_reducible refine mo.at ?_) | wp_step))
 refine ⟨Code.quiet_builtin _ (by decide +kernel),codeAny_builtin F.entry_object_class ?_⟩
 repeat (any_goals (first | assumption | (with_reducible refine wpAny_loadPart_at hx ?_; rw [hc]) | wp_step))
theorem ZmR {tk : Tok} {Q : Fin → Shared → Prop} (X : K.In h) (Z : ExcK K C) (hx : h.get? a=some ob) (hc : ob.cls=.ref C) (hq : Q (.done (.ret (.ref C))) ⟨h, g, d, t, os⟩) :
  wpAny (model prog w) A (Builtin.«object.__getattribute__» ⟨[.ref a,.str "__class__" tk],[]⟩) Q E ⟨h,g,d,t,os⟩:=by
 have k5:(⟨h,g,d,t,os⟩:Shared).TypeIs (.builtin "object.__class__") "getset_descriptor":=F.typeOf_object_class
 have f5:=F.typeOf_object_class
 have f6:=F.slot_gs_get.lookup
 have f7:=F.slot_gs_set.lookup
 have lc:=W.looks_findIn (M:=model prog w) X Z.cl
 repeat (any_goals (first | assumption | (with_reducible refine wpAny_loadPart_at hx ?_; rw [hc]) | (with_reducible refine lc.at ?_) | wp_step))
 refine Zp1 X Z hx hc ?_
 repeat (any_goals (first | assumption | wp_step))
theorem ZnN {M : Model} {nameV : Value} {Q : Unit → Shared → Prop} (X : K.In h) (Z : ExcK K C) (hx : h.get? a=some ob) (hc : ob.cls=.ref C) (hq : Q () ⟨h, g, d, t, os⟩) :
  wpAny M A (checkBuiltinCall "BaseException.__getattribute__" ⟨[.ref a,nameV],[]⟩) Q E ⟨h,g,d,t,os⟩:=by
 have kd:builtinKind "BaseException.__getattribute__"=some .slot:=by decide +kernel
 have sp:splitId "BaseException.__getattribute__"=some ("BaseException","__getattribute__"):=by decide +kernel
 have mb:=W.looks_mroIn (M:=M) X Z.mb
 have ar:=F.args_bexc_ga (.ref a) nameV
 simp only [checkBuiltinCall,kd,sp]
 refine wpAny_bind ?_
 unfold isInstance
 repeat (first | (with_reducible refine wpAny_loadPart_at hx ?_; rw [hc]) | (with_reducible refine mb.at ?_) | wp_step)
 exact hq
theorem ZoE {tk : Tok} {R : Result → Shared → Prop} (X : K.In h) (Z : ExcK K C) (hx : h.get? a=some ob) (hc : ob.cls=.ref C) (hq : R (.ok (.ret (.ref C))) ⟨h, g, d, t, os⟩) :
  codeAny (model prog w) A (.call (.builtin "BaseException.__getattribute__") ⟨[.ref a,.str "__class__" tk],[]⟩) R ⟨h,g,d,t,os⟩ :=
 codeAny_call_builtin (F.excAttr_ValueError).ga.plain F.entry_bexc_ga (ZnN X Z hx hc (ZmR X Z hx hc hq))
theorem Zq3 {tk : Tok} {fill expr : Bool} {Q : Value → Shared → Prop} (X : K.In h) (Z : ExcK K C) (hx : h.get? a=some ob) (hc : ob.cls=.ref C) (hq : Q (.ref C) ⟨h, g, d, t, os⟩) :
  wpAny (model prog w) A (getAttrBy (.ref a) (.str "__class__" tk) fill expr) Q E ⟨h,g,d,t,os⟩:=by
 have f3:=(F.excAttr_ValueError).ga.bind (.ref a)
 have y0:(expr&&onTheHeap (Value.builtin "BaseException.__getattribute__"))=false:=by cases expr <;> rfl
 have y2:(Value.builtin "BaseException.__getattribute__" == Value.builtin "object.__getattribute__")=false:=by decide +kernel
 have y1:(onTheHeap (Value.ref C)&&Value.builtin "BaseException.__getattribute__" == Value.builtin "object.__getattribute__")=false:=by rw [y2]; rfl
 have lg:=W.looks_findIn (M:=model prog w) X Z.ga
 have lt:=W.looks_findIn (M:=model prog w) X Z.gt
 repeat (any_goals (first | assumption | (with_reducible refine wpAny_loadPart_at hx ?_; rw [hc]) | (with_reducible refine lg.at ?_) | (with_reducible refine lt.at ?_) | wp_step))
 refine ZoE X Z hx hc ?_
 repeat (any_goals (first | assumption | wp_step))
theorem Zpu {Q : Option Value → Shared → Prop} (X : K.In h) (Z : ExcK K C) (hx : h.get? a=some ob) (hc : ob.cls=.ref C) (hq : Q (some (.ref C)) ⟨h, g, d, t + 1, os⟩) :
  wpAny (model prog w) A (getAttr? (.ref a) "__class__") Q E ⟨h,g,d,t,os⟩:=by
 unfold getAttr? getAttrBy?
 repeat (any_goals (first | assumption | with_reducible apply Zq3 X Z hx hc | wp_step))
end
section
variable {K:W.Frag} {a C:Addr}
theorem ZoU (Z:ExcK K C):W.KitX K (.ref a) (.ref C) (ZqU (.ref C) a) where
 ty:=fun M h X p=>by
  obtain ⟨o,vs,h1,h2,_⟩:=p
  exact h2 ▸ (W.Looks.ld h1).andThen .now
 it:=fun M h X p=>by
  obtain ⟨cd,hc,_⟩:=Option.bind_eq_some_iff.mp Z.mo
  unfold W.clsIn at hc
  split at hc
  ·rename_i ho
   intro A' Q' E' s' k q
   unfold isType loadHead
   exact wpAny_bind (wpAny_loadPart (k _ _ (X _ _ ho)) (wpAny_pure q))
  ·cases hc
 ne:=fun h tp dd its n sl X htp=>by
  obtain ⟨cd,hc,_⟩:=Option.bind_eq_some_iff.mp Z.mo
  refine Bool.eq_false_iff.mpr fun q=>?_
  have e:C=tp:=Value.ref.inj (beq_iff_eq.mp q)
  subst e
  unfold W.clsIn at hc
  split at hc
  ·rename_i ho
   have z:=(X _ _ ho).symm.trans htp
   cases z
  ·cases hc
 ca:=fun {prog w A E Q s} X p k=>by
  obtain ⟨h,g,d,t,os⟩:=s
  obtain ⟨o,vs,h1,h2,_⟩:=p
  exact Zpu X Z h1 h2 k
end
inductive Kd (K:W.Frag) (H:Hp):V->Value->Prop where
 | of {x:V} {t:Value} (e:TyOf K H x t):Kd K H x t
 | exc {a C:Addr} (Z:ExcK K C) (e:H a=some (ZsE (.ref C) a)):Kd K H (.ref a) (.ref C)
 | sqt {a:Addr} {xs:List V} (e:SqT K H a xs):Kd K H (.ref a) (.type "tuple")
 | sql {a:Addr} {xs:List V} (e:SqL K H a xs):Kd K H (.ref a) (.type "list")
noncomputable def isC:V->Bool
 | .ref _=>true
 | .ty _=>true
 | _=>false
noncomputable def Zr6:V->Value
 | .ref a=>.ref a
 | .ty n=>.type n
 | _=>.none
section
variable {X:Cx} {A:Around}
theorem ZoO:Zdd X (.builtin "isinstance") (fun xs H Q=>∃ x c t b,xs=[x,c]∧isC c=true∧Kd X.K H x t∧W.kitOne X.K t (Zr6 c)=some b∧Q (.bl b) H):=by
 intro pins s σ H xs us Q I r h
 obtain ⟨x,c,t,b,rfl,ic,ty,e,q⟩:=h
 obtain ⟨u,v,rfl,rx,rc⟩:=ZmL r
 have ec:Zr6 c=v:=by
  cases c with
  | ref a=>exact Eq.symm rc
  | ty n=>exact Eq.symm rc
  | _=>cases ic
 rw [ec] at e
 have fin:∀ tk,EP X pins σ Q (.bool b) { s with toks:=tk }:=fun tk=>⟨.bl b,H,I.tok tk,rfl,q⟩
 cases ty with
 | of ty=>exact ZnV I rx ty e fin
 | @exc a C Z ea =>
  cases (show u=Value.ref a from rx)
  obtain ⟨p,_,_⟩:=(show ObjOk X.prog X.w H s.heap a (ZsE (.ref C) a) from I.hok a _ ea)
  exact W.kia_one (ZoU Z) I.kIn p e (fun z=>nomatch z) fin
 | @sqt a ys ea =>
  cases (show u=Value.ref a from rx)
  rcases ea with ea | ⟨o,its,n,h1,h2,_⟩
  ·obtain ⟨_,_,_,p⟩:=(show ObjOk X.prog X.w H s.heap a (.tup ys) from ea.ok I.hok)
   obtain ⟨o,h1,h2,_⟩:=p
   exact W.kia_one W.kitx_tuple I.kIn ⟨o,h1,h2⟩ e (fun z=>nomatch z) fin
  ·exact W.kia_one W.kitx_tuple I.kIn ⟨o,I.kIn _ _ h1,h2⟩ e (fun z=>nomatch z) fin
 | @sql a ys ea =>
  cases (show u=Value.ref a from rx)
  rcases ea with ea | ⟨o,its,n,h1,h2,_⟩
  ·obtain ⟨_,_,n,_,h1⟩:=(show ObjOk X.prog X.w H s.heap a (.lst ys) from ea.ok I.hok)
   exact W.kia_one W.kitx_list I.kIn ⟨_,h1,rfl⟩ e (fun z=>nomatch z) fin
  ·exact W.kia_one W.kitx_list I.kIn ⟨o,I.kIn _ _ h1,h2⟩ e (fun z=>nomatch z) fin
def Zsq (i j:Int):Prop:=i.natAbs<2 ^ 1000∧j.natAbs<2 ^ 1000
theorem ZlB {x:Int} (h:x.natAbs<2 ^ 1000):Builtin.Int.intBits x≤2 ^ 20:=by
 unfold Builtin.Int.intBits
 split
 ·exact Nat.zero_le _
 ·rename_i z
  have n:x.natAbs≠0:=by
   intro q
   exact z (by rw [Int.natAbs_eq_zero.mp q]; rfl)
  have:=(Nat.log2_lt n).mpr h
  omega
theorem Zna:OpR X (binaryOp .Mult) (rI Zsq fun i j=>.int (i*j)):=opI fun _ _ _ _ _ _ _ hc q=>mul_int q (.of_bits (ZlB hc.1) (ZlB hc.2))
theorem ZbC:OpR X (binaryOp .FloorDiv) (rI (fun _ j=>j≠0∧j.natAbs<2 ^ 1000) fun i j=>.int (i.fdiv j)):=opI fun i j _ _ _ _ _ hc q =>
 floordiv_int hc.1 q (.inl (PyProof.noPylong_of_log2 (by
  have n:j.natAbs≠0:=fun z=>hc.1 (Int.natAbs_eq_zero.mp z)
  have:=(Nat.log2_lt n).mpr hc.2
  omega)))
theorem Fun.okX {P : Program} {w : World} {K : W.Frag} {mg : Str → Option Value} {base : Heap} {CX : CXT} {x qual : Str} {st : Stmt} {f : Addr} {fd : FuncData} {N ps : List Str} {k : Nat} {sp : Sp} (F : Fun K x qual st f fd) (S : FnScope N ps (Zal st))
  (len:∀ vs H Q E,sp vs H Q E->vs.length=ps.length)
  (hbody:∀ (cdv:Value) (A:Around) (outer:List Env) (s:Shared) (H:Hp) (vs:List V) (Q:VK) (E:XK),Room k (A.deeper (envOfC qual (Zal st) s.heap.objs.size f cdv))->sp vs H Q E →
   ∃ t,PSs (Zo0 CX P w K mg base N qual (Zal st) f cdv A outer s H E) (ZbW st) t∧t { nx:=fun _ H'=>Q .non H',rt:=Q } (start N vs) H):FnOk P w K mg base CX (k+1) f fd ps sp:=by
 obtain ⟨oc,od,kV,doc,pm,an,cdv,ct,osl,rfl,lk,hcd⟩:=F.ex
 exact ZrI lk hcd S len fun A outer s H vs Q E hr hsp=>hbody cdv A outer s H vs Q E hr hsp
end
theorem ZpP:bootBuiltins "int"=some (.type "int"):=by decide +kernel
theorem Zk6:bootBuiltins "bool"=some (.type "bool"):=by decide +kernel
theorem ZhZ:bootBuiltins "str"=some (.type "str"):=by decide +kernel
theorem Zqg:bootBuiltins "list"=some (.type "list"):=by decide +kernel
theorem Zpa:bootBuiltins "tuple"=some (.type "tuple"):=by decide +kernel
theorem ZcM:bootBuiltins "len"=some (.builtin "len"):=by decide +kernel
theorem Zru:bootBuiltins "abs"=some (.builtin "abs"):=by decide +kernel
theorem ZnK:bootBuiltins "max"=some (.builtin "max"):=by decide +kernel
theorem Zq5:bootBuiltins "min"=some (.builtin "min"):=by decide +kernel
theorem Ziy:bootBuiltins "isinstance"=some (.builtin "isinstance"):=by decide +kernel
abbrev EBm:List Value:=[.type "ValueError",.type "Exception",.type "BaseException",.type "object"]
theorem EB:ExcBaseFacts "ValueError" "ValueError.__new__" "ValueError.__init__" EBm:=PySem.F.excBase_ValueError
theorem Zae {H:Hp} {p:Addr} {o:HO} (n:H p=none):Same H (upd H p o):=fun b u e=>by
 rw [Zak (Zat e n)]
 exact e
theorem Same.rd {H H':Hp} (e:Same H H') {a:Addr} {u:HO} (r:Rd H a u):Rd H' a u:=by
 rcases r with r | ⟨o,r⟩
 ·exact .inl (e _ _ r)
 ·exact .inr ⟨o,e _ _ r⟩
theorem Same.sqt {K:W.Frag} {H H':Hp} {a:Addr} {xs:List V} (e:Same H H') (h:SqT K H a xs):SqT K H' a xs:=by
 rcases h with h | h
 ·exact .inl (e.rd h)
 ·exact .inr h
theorem Same.sql {K:W.Frag} {H H':Hp} {a:Addr} {xs:List V} (e:Same H H') (h:SqL K H a xs):SqL K H' a xs:=by
 rcases h with h | h
 ·exact .inl (e.rd h)
 ·exact .inr h
theorem Same.ty {K:W.Frag} {H H':Hp} {x:V} {t:Value} (e:Same H H') (h:TyOf K H x t):TyOf K H' x t:=by
 cases h with
 | non=>exact .non
 | bl b=>exact .bl b
 | int i=>exact .int i
 | str y=>exact .str y
 | flt y=>exact .flt y
 | lst q=>exact .lst (e _ _ q)
 | frz q=>exact .frz (e _ _ q)
 | tup q=>exact .tup (e _ _ q)
 | dK q=>exact .dK (e _ _ q)
 | dT q=>exact .dT (e _ _ q)
 | ins q c a n tk m=>exact .ins (e _ _ q) c a n tk m
theorem Same.kd {K:W.Frag} {H H':Hp} {x:V} {t:Value} (e:Same H H') (h:Kd K H x t):Kd K H' x t:=by
 cases h with
 | of q=>exact .of (e.ty q)
 | exc Z q=>exact .exc Z (e _ _ q)
 | sqt q=>exact .sqt (e.sqt q)
 | sql q=>exact .sql (e.sql q)
def ZsY (K:W.Frag) (t:TA):TE:=fun σ H Q=>t σ H fun xs H1=>∃ x c ty b,xs=[x,c]∧isC c=true∧Kd K H1 x ty∧W.kitOne K ty (Zr6 c)=some b∧Q (.bl b) H1
theorem ZdC {X : Cx} (K : W.Frag) {p pos : Pos} {e : Expr} {es : List Expr} {t : TA} (hg : Gl X "isinstance") (hm : X.mg "isinstance"=none) (ha : PA X (e :: es) t) (hK : X.K=K := by rfl)
  (he:starEach (e :: es) X.env=(false,eval e X.env) :: starEach es X.env:=by rfl) (hpl:(backTo pos (starEach es X.env)).any (·.1)=false:=by rfl):PE X (.Call (.Name "isinstance" p) (e :: es) [] pos) (ZsY K t):=by
 subst hK
 exact Zaz (ZoO (X:=X)) hg hm Ziy ha (by decide) (by decide) he hpl
inductive D where
 | non | bl (b:Bool) | int (i:Int) | str (x:Str) | tup (ds:List D) | lst (ds:List D)
mutual
def Is (K:W.Frag) (H:Hp):D->V->Prop
 | .non,v=>v=.non
 | .bl b,v=>v=.bl b
 | .int i,v=>v=.int i
 | .str x,v=>v=.str x
 | .tup ds,v=>∃ a xs,v=.ref a∧SqT K H a xs∧IsL K H ds xs
 | .lst ds,v=>∃ a xs,v=.ref a∧SqL K H a xs∧IsL K H ds xs
def IsL (K:W.Frag) (H:Hp):List D->List V->Prop
 | [],xs=>xs=[]
 | d :: ds,xs=>∃ x r,xs=x :: r∧Is K H d x∧IsL K H ds r
end
mutual
noncomputable def deq:D->D->Bool
 | .non,.non=>true
 | .bl a,.bl b=>a == b
 | .bl a,.int b=>(if a then 1 else 0) == b
 | .int a,.bl b=>a == (if b then 1 else 0)
 | .int a,.int b=>a == b
 | .str a,.str b=>a == b
 | .tup a,.tup b=>Zfn a b
 | .lst a,.lst b=>Zfn a b
 | _,_=>false
noncomputable def Zfn:List D->List D->Bool
 | [],[]=>true
 | x :: xs,y :: ys=>deq x y&&Zfn xs ys
 | _,_=>false
end
mutual
noncomputable def dep:D->Nat
 | .tup ds=>ZfS ds+1
 | .lst ds=>ZfS ds+1
 | _=>0
noncomputable def ZfS:List D->Nat
 | []=>0
 | d :: ds=>max (dep d) (ZfS ds)
end
section
variable {K:W.Frag} {H H':Hp}
mutual
theorem Same.is (e:Same H H'):∀ (d:D) {v:V},Is K H d v->Is K H' d v
 | .non,v,h=>h
 | .bl b,v,h=>h
 | .int i,v,h=>h
 | .str x,v,h=>h
 | .tup ds,v,h=>by
  obtain ⟨a,xs,rfl,q,r⟩:=h
  exact ⟨a,xs,rfl,e.sqt q,Same.isL e ds r⟩
 | .lst ds,v,h=>by
  obtain ⟨a,xs,rfl,q,r⟩:=h
  exact ⟨a,xs,rfl,e.sql q,Same.isL e ds r⟩
theorem Same.isL (e:Same H H'):∀ (ds:List D) {xs:List V},IsL K H ds xs->IsL K H' ds xs
 | [],xs,h=>h
 | d :: ds,xs,h=>by
  obtain ⟨x,r,rfl,h1,h2⟩:=h
  exact ⟨x,r,rfl,Same.is e d h1,Same.isL e ds h2⟩
end
theorem IsL.length:∀ {ds:List D} {xs:List V},IsL K H ds xs->xs.length=ds.length
 | [],xs,h=>by cases (show xs=[] from h); rfl
 | d :: ds,xs,h=>by
  obtain ⟨x,r,rfl,_,h2⟩:=h
  rw [List.length_cons,List.length_cons,IsL.length h2]
end
section
variable {X:Cx} {pins:List (Addr × Obj)} {σ:St} {H:Hp} {s:Shared}
theorem Inv.isList (I:Inv X pins σ H s) {a:Addr} {xs:List V} (h:SqL X.K H a xs):∃ its:List Value,Vals xs its∧s.heap.IsList a its.toArray:=by
 rcases h with h | ⟨o,its,n,h1,h2,_,h3,_,r⟩
 ·obtain ⟨_,its,n,r,e⟩:=(show ObjOk X.prog X.w H s.heap a (.lst xs) from h.ok I.hok)
  exact ⟨its,r,_,e,rfl,n,rfl⟩
 ·exact ⟨its.toList,r,o,I.kIn _ _ h1,h2,n,by simpa using h3⟩
theorem Inv.isTup (I:Inv X pins σ H s) {a:Addr} {xs:List V} (h:SqT X.K H a xs):∃ its:List Value,Vals xs its∧s.heap.IsTuple a its.toArray:=by
 rcases h with h | ⟨o,its,n,h1,h2,h3,_,r⟩
 ·obtain ⟨_,its,r,e⟩:=(show ObjOk X.prog X.w H s.heap a (.tup xs) from h.ok I.hok)
  exact ⟨its,r,e⟩
 ·exact ⟨its.toList,r,o,I.kIn _ _ h1,h2,n,by simpa using h3⟩
theorem ZcU:∀ {ds ds':List D},ds.length≠ds'.length->Zfn ds ds'=false
 | [],[],h=>absurd rfl h
 | [],_ :: _,_=>rfl
 | _ :: _,[],_=>rfl
 | d :: ds,d' :: ds',h=>by
  unfold Zfn
  rw [ZcU (ds:=ds) (ds':=ds') fun z=>h (by rw [List.length_cons,List.length_cons,z]),Bool.and_false]
noncomputable def Zf0 (ds ds':List D) (j:Nat):Bool:=deq (ds.getD j .non) (ds'.getD j .non)
theorem Zir:∀ {ds ds':List D},ds.length=ds'.length->(List.range ds.length).all (Zf0 ds ds')=Zfn ds ds'
 | [],[],_=>rfl
 | [],_ :: _,h=>by cases h
 | _ :: _,[],h=>by cases h
 | d :: ds,d' :: ds',h=>by
  have h':ds.length=ds'.length:=by simpa using h
  rw [List.length_cons,List.range_succ_eq_map,List.all_cons,List.all_map]
  unfold Zfn
  rw [← Zir h']
  rfl
theorem Inv.tup_fun (I:Inv X pins σ H s) {a:Addr} {xs ys:List V} (h:SqT X.K H a xs) (h':SqT X.K H a ys):xs=ys:=by
 obtain ⟨us,r,o,e,_,n,d⟩:=I.isTup h
 obtain ⟨us',r',o',e',_,n',d'⟩:=I.isTup h'
 rw [e] at e'
 cases e'
 rw [d] at d'
 injection d' with d1 _
 have z:us=us':=by simpa using d1
 subst z
 exact r.inj r'
theorem Inv.lst_fun (I:Inv X pins σ H s) {a:Addr} {xs ys:List V} (h:SqL X.K H a xs) (h':SqL X.K H a ys):xs=ys:=by
 obtain ⟨us,r,o,e,_,n,d⟩:=I.isList h
 obtain ⟨us',r',o',e',_,n',d'⟩:=I.isList h'
 rw [e] at e'
 cases e'
 rw [d] at d'
 injection d' with d1 _
 have z:us=us':=by simpa using d1
 subst z
 exact r.inj r'
theorem Inv.tup_lst (I:Inv X pins σ H s) {a:Addr} {xs ys:List V} (h:SqT X.K H a xs) (h':SqL X.K H a ys):False:=by
 obtain ⟨us,r,o,e,c,_⟩:=I.isTup h
 obtain ⟨us',r',o',e',c',_⟩:=I.isList h'
 rw [e] at e'
 cases e'
 rw [c] at c'
 exact absurd (Value.type.inj c') (by decide)
mutual
theorem ZrF (I:Inv X pins σ H s):∀ (d d':D) {v:V},Is X.K H d v->Is X.K H d' v->d=d'
 | .non,d',v,h,h'=>by
  cases (show v=.non from h)
  cases d' <;> first | rfl | (obtain ⟨_,_,z,_⟩:=h'; cases z; done) | cases h'
 | .bl c,d',v,h,h'=>by
  cases (show v=.bl c from h)
  cases d' <;> first | rfl | (obtain ⟨_,_,z,_⟩:=h'; cases z; done) | (cases h'; done) | (cases h'; rfl)
 | .int c,d',v,h,h'=>by
  cases (show v=.int c from h)
  cases d' <;> first | rfl | (obtain ⟨_,_,z,_⟩:=h'; cases z; done) | (cases h'; done) | (cases h'; rfl)
 | .str c,d',v,h,h'=>by
  cases (show v=.str c from h)
  cases d' <;> first | rfl | (obtain ⟨_,_,z,_⟩:=h'; cases z; done) | (cases h'; done) | (cases h'; rfl)
 | .tup ds,d',v,h,h'=>by
  obtain ⟨a,xs,rfl,q,hl⟩:=h
  cases d' with
  | tup ds' =>
   obtain ⟨a',xs',e,q',hl'⟩:=h'
   cases e
   rw [I.tup_fun q q'] at hl
   rw [ZgD I ds ds' hl hl']
  | lst ds' =>
   obtain ⟨a',xs',e,q',hl'⟩:=h'
   cases e
   exact (I.tup_lst q q').elim
  | _=>cases h'
 | .lst ds,d',v,h,h'=>by
  obtain ⟨a,xs,rfl,q,hl⟩:=h
  cases d' with
  | lst ds' =>
   obtain ⟨a',xs',e,q',hl'⟩:=h'
   cases e
   rw [I.lst_fun q q'] at hl
   rw [ZgD I ds ds' hl hl']
  | tup ds' =>
   obtain ⟨a',xs',e,q',hl'⟩:=h'
   cases e
   exact (I.tup_lst q' q).elim
  | _=>cases h'
theorem ZgD (I:Inv X pins σ H s):∀ (ds ds':List D) {xs:List V},IsL X.K H ds xs->IsL X.K H ds' xs->ds=ds'
 | [],ds',xs,h,h'=>by
  cases (show xs=[] from h)
  cases ds' with
  | nil=>rfl
  | cons d r=>obtain ⟨_,_,z,_⟩:=h'; cases z
 | d :: ds,ds',xs,h,h'=>by
  obtain ⟨x,r,rfl,h1,h2⟩:=h
  cases ds' with
  | nil=>cases h'
  | cons d' ds' =>
   obtain ⟨x',r',e,h1',h2'⟩:=h'
   cases e
   rw [ZrF I d d' h1 h1',ZgD I ds ds' h2 h2']
end
mutual
theorem Zpg:∀ d:D,deq d d=true
 | .non=>rfl
 | .bl b=>by simp [deq]
 | .int i=>by simp [deq]
 | .str x=>by simp [deq]
 | .tup ds=>by simp only [deq]; exact Zd9 ds
 | .lst ds=>by simp only [deq]; exact Zd9 ds
theorem Zd9:∀ ds:List D,Zfn ds ds=true
 | []=>rfl
 | d :: ds=>by simp only [Zfn,Zpg d,Zd9 ds,Bool.and_self]
end
theorem Zfw {α:Type} {l:List α} {i:Nat} {x y:α} (h:l[i]?=some x):l.getD i y=x:=by simp [List.getD,h]
theorem ZmD {ds ds' : List D} {xs xs' : List V} {us us' : List Value} {a a' : Addr} {A : Around} (I : Inv X pins σ H s) (hl : IsL X.K H ds xs) (hl' : IsL X.K H ds' xs') (rv : Vals xs us) (rv' : Vals xs' us')
  (z:s.heap.IsTuple a us.toArray) (z':s.heap.IsTuple a' us'.toArray) (hu:A.units<cLine)
  (it:∀ (j:Nat) (d d':D) (u u':Value),ds[j]?=some d->ds'[j]?=some d'->us[j]?=some u->us'[j]?=some u'->SeqAt.EqAt A.in1 s u u' (deq d d')):SeqAt.RcAt A s (.ref a) (.ref a') (Zfn ds ds'):=by
 have e1:us.length=ds.length:=by rw [← rv.length,hl.length]
 have e2:us'.length=ds'.length:=by rw [← rv'.length,hl'.length]
 have g:=SeqAt.RcAt.tuples (e:=Zf0 ds ds') z z' hu fun j h1 h2=>by
  have g1:j<ds.length:=by rw [← e1]; simpa using h1
  have g2:j<ds'.length:=by rw [← e2]; simpa using h2
  have k1:ds[j]?=some ds[j]:=List.getElem?_eq_getElem g1
  have k2:ds'[j]?=some ds'[j]:=List.getElem?_eq_getElem g2
  unfold Zf0
  rw [Zfw k1,Zfw k2]
  exact it j _ _ _ _ k1 k2 (by simp) (by simp)
 have en:((List.range (min us.toArray.size us'.toArray.size)).all (Zf0 ds ds')&&us.toArray.size == us'.toArray.size)=Zfn ds ds':=by
  simp only [List.size_toArray,e1,e2]
  by_cases q:ds.length=ds'.length
  ·rw [← q,Nat.min_self,Zir q,beq_self_eq_true,Bool.and_true]
  ·rw [ZcU q,(beq_eq_false_iff_ne.mpr q),Bool.and_false]
 rw [en] at g
 exact g
theorem Zog {ds ds' : List D} {xs xs' : List V} {us us' : List Value} {a a' : Addr} {A : Around} (I : Inv X pins σ H s) (hl : IsL X.K H ds xs) (hl' : IsL X.K H ds' xs') (rv : Vals xs us) (rv' : Vals xs' us')
  (z:s.heap.IsList a us.toArray) (z':s.heap.IsList a' us'.toArray) (hu:A.units<cLine)
  (it:∀ (j:Nat) (d d':D) (u u':Value),ds[j]?=some d->ds'[j]?=some d'->us[j]?=some u->us'[j]?=some u'->SeqAt.EqAt A.in1 s u u' (deq d d')):SeqAt.RcAt A s (.ref a) (.ref a') (Zfn ds ds'):=by
 have e1:us.length=ds.length:=by rw [← rv.length,hl.length]
 have e2:us'.length=ds'.length:=by rw [← rv'.length,hl'.length]
 by_cases q:ds.length=ds'.length
 ·have g:=SeqAt.RcAt.lists (e:=Zf0 ds ds') z z' (by simp only [List.size_toArray,e1,e2,q]) hu fun j h1 h2=>by
   have g1:j<ds.length:=by rw [← e1]; simpa using h1
   have g2:j<ds'.length:=by rw [← e2]; simpa using h2
   have k1:ds[j]?=some ds[j]:=List.getElem?_eq_getElem g1
   have k2:ds'[j]?=some ds'[j]:=List.getElem?_eq_getElem g2
   unfold Zf0
   rw [Zfw k1,Zfw k2]
   exact it j _ _ _ _ k1 k2 (by simp) (by simp)
  rw [show us.toArray.size=ds.length by simp [e1],Zir q] at g
  exact g
 ·rw [ZcU q]
  exact SeqAt.RcAt.lists_lengths z z' (by simp only [List.size_toArray,e1,e2]; exact bne_iff_ne.mpr q) hu
mutual
theorem eqD (I:Inv X pins σ H s):∀ (d d':D) {v v':V} {u u':Value} {A:Around},Is X.K H d v->Is X.K H d' v'->RelV v u->RelV v' u'->A.units+dep d<cLine->SeqAt.EqAt A s u u' (deq d d')
 | .non,d',v,v',u,u',A,h,h',r,r',hu=>by
  cases (show v=.non from h); cases (show u=Value.none from r)
  cases d' with
  | non=>cases (show v'=.non from h'); cases (show u'=Value.none from r'); exact SeqAt.EqAt.same _
  | bl b=>cases (show v'=.bl b from h'); cases (show u'=Value.bool b from r'); exact SeqAt.EqAt.none_bool b
  | int b=>cases (show v'=.int b from h'); obtain ⟨t,rfl⟩:=r'; exact SeqAt.EqAt.none_int b t
  | str b=>cases (show v'=.str b from h'); obtain ⟨t,rfl⟩:=r'; exact SeqAt.EqAt.none_str b t
  | tup b=>obtain ⟨a,xs,rfl,q,_⟩:=h'; cases r'; obtain ⟨its,_,z⟩:=I.isTup q; exact SeqAt.EqAt.none_tuple z (by simpa [dep] using hu)
  | lst b=>obtain ⟨a,xs,rfl,q,_⟩:=h'; cases r'; obtain ⟨its,_,z⟩:=I.isList q; exact SeqAt.EqAt.none_list z (by simpa [dep] using hu)
 | .bl c,d',v,v',u,u',A,h,h',r,r',hu=>by
  cases (show v=.bl c from h); cases (show u=Value.bool c from r)
  cases d' with
  | non=>cases (show v'=.non from h'); cases (show u'=Value.none from r'); exact SeqAt.EqAt.bool_none c
  | bl b=>cases (show v'=.bl b from h'); cases (show u'=Value.bool b from r'); exact SeqAt.EqAt.bool_bool c b
  | int b=>cases (show v'=.int b from h'); obtain ⟨t,rfl⟩:=r'; exact SeqAt.EqAt.bool_int c b t
  | str b=>cases (show v'=.str b from h'); obtain ⟨t,rfl⟩:=r'; exact SeqAt.EqAt.bool_str c b t
  | tup b=>obtain ⟨a,xs,rfl,q,_⟩:=h'; cases r'; obtain ⟨its,_,z⟩:=I.isTup q; exact SeqAt.EqAt.bool_tuple c z (by simpa [dep] using hu)
  | lst b=>obtain ⟨a,xs,rfl,q,_⟩:=h'; cases r'; obtain ⟨its,_,z⟩:=I.isList q; exact SeqAt.EqAt.bool_list c z (by simpa [dep] using hu)
 | .int c,d',v,v',u,u',A,h,h',r,r',hu=>by
  cases (show v=.int c from h); obtain ⟨t0,rfl⟩:=r
  cases d' with
  | non=>cases (show v'=.non from h'); cases (show u'=Value.none from r'); exact SeqAt.EqAt.int_none c t0
  | bl b=>cases (show v'=.bl b from h'); cases (show u'=Value.bool b from r'); exact SeqAt.EqAt.int_bool c t0 b
  | int b=>cases (show v'=.int b from h'); obtain ⟨t,rfl⟩:=r'; exact SeqAt.EqAt.int_int c t0 b t
  | str b=>cases (show v'=.str b from h'); obtain ⟨t,rfl⟩:=r'; exact SeqAt.EqAt.int_str c t0 b t
  | tup b=>obtain ⟨a,xs,rfl,q,_⟩:=h'; cases r'; obtain ⟨its,_,z⟩:=I.isTup q; exact SeqAt.EqAt.int_tuple c t0 z (by simpa [dep] using hu)
  | lst b=>obtain ⟨a,xs,rfl,q,_⟩:=h'; cases r'; obtain ⟨its,_,z⟩:=I.isList q; exact SeqAt.EqAt.int_list c t0 z (by simpa [dep] using hu)
 | .str c,d',v,v',u,u',A,h,h',r,r',hu=>by
  cases (show v=.str c from h); obtain ⟨t0,rfl⟩:=r
  cases d' with
  | non=>cases (show v'=.non from h'); cases (show u'=Value.none from r'); exact SeqAt.EqAt.str_none c t0
  | bl b=>cases (show v'=.bl b from h'); cases (show u'=Value.bool b from r'); exact SeqAt.EqAt.str_bool c t0 b
  | int b=>cases (show v'=.int b from h'); obtain ⟨t,rfl⟩:=r'; exact SeqAt.EqAt.str_int c t0 b t
  | str b=>cases (show v'=.str b from h'); obtain ⟨t,rfl⟩:=r'; exact SeqAt.EqAt.str_str c t0 b t
  | tup b=>obtain ⟨a,xs,rfl,q,_⟩:=h'; cases r'; obtain ⟨its,_,z⟩:=I.isTup q; exact SeqAt.EqAt.str_tuple c t0 z (by simpa [dep] using hu)
  | lst b=>obtain ⟨a,xs,rfl,q,_⟩:=h'; cases r'; obtain ⟨its,_,z⟩:=I.isList q; exact SeqAt.EqAt.str_list c t0 z (by simpa [dep] using hu)
 | .tup ds,d',v,v',u,u',A,h,h',r,r',hu=>by
  obtain ⟨a,xs,rfl,q,hl⟩:=h
  cases (show u=Value.ref a from r)
  obtain ⟨its,rv,z⟩:=I.isTup q
  have hu0:A.units<cLine:=by omega
  cases d' with
  | non=>cases (show v'=.non from h'); cases (show u'=Value.none from r'); exact SeqAt.EqAt.tuple_none z hu0
  | bl b=>cases (show v'=.bl b from h'); cases (show u'=Value.bool b from r'); exact SeqAt.EqAt.tuple_bool b z hu0
  | int b=>cases (show v'=.int b from h'); obtain ⟨t,rfl⟩:=r'; exact SeqAt.EqAt.tuple_int b t z hu0
  | str b=>cases (show v'=.str b from h'); obtain ⟨t,rfl⟩:=r'; exact SeqAt.EqAt.tuple_str b t z hu0
  | lst b=>obtain ⟨a2,xs2,rfl,q2,_⟩:=h'; cases r'; obtain ⟨its2,_,z2⟩:=I.isList q2; exact SeqAt.EqAt.tuple_list z z2 hu0
  | tup ds' =>
   obtain ⟨a2,xs2,rfl,q2,hl2⟩:=h'
   cases (show u'=Value.ref a2 from r')
   obtain ⟨its2,rv2,z2⟩:=I.isTup q2
   have hu1:A.units+(ZfS ds+1)<cLine:=hu
   show SeqAt.EqAt A s _ _ (Zfn ds ds')
   by_cases ne:a=a2
   ·subst ne
    rw [I.tup_fun q q2] at hl
    rw [ZgD I ds ds' hl hl2,Zd9]
    exact SeqAt.EqAt.same _
   ·exact .of_refs ne (ZmD I hl hl2 rv rv2 z z2 hu0 (eqL I ds ds' (A:=A.in1) hl hl2 rv rv2 (by show A.units+1+ZfS ds<cLine; omega)))
 | .lst ds,d',v,v',u,u',A,h,h',r,r',hu=>by
  obtain ⟨a,xs,rfl,q,hl⟩:=h
  cases (show u=Value.ref a from r)
  obtain ⟨its,rv,z⟩:=I.isList q
  have hu0:A.units<cLine:=by omega
  cases d' with
  | non=>cases (show v'=.non from h'); cases (show u'=Value.none from r'); exact SeqAt.EqAt.list_none z hu0
  | bl b=>cases (show v'=.bl b from h'); cases (show u'=Value.bool b from r'); exact SeqAt.EqAt.list_bool b z hu0
  | int b=>cases (show v'=.int b from h'); obtain ⟨t,rfl⟩:=r'; exact SeqAt.EqAt.list_int b t z hu0
  | str b=>cases (show v'=.str b from h'); obtain ⟨t,rfl⟩:=r'; exact SeqAt.EqAt.list_str b t z hu0
  | tup b=>obtain ⟨a2,xs2,rfl,q2,_⟩:=h'; cases r'; obtain ⟨its2,_,z2⟩:=I.isTup q2; exact SeqAt.EqAt.list_tuple z z2 hu0
  | lst ds' =>
   obtain ⟨a2,xs2,rfl,q2,hl2⟩:=h'
   cases (show u'=Value.ref a2 from r')
   obtain ⟨its2,rv2,z2⟩:=I.isList q2
   have hu1:A.units+(ZfS ds+1)<cLine:=hu
   show SeqAt.EqAt A s _ _ (Zfn ds ds')
   by_cases ne:a=a2
   ·subst ne
    rw [I.lst_fun q q2] at hl
    rw [ZgD I ds ds' hl hl2,Zd9]
    exact SeqAt.EqAt.same _
   ·exact .of_refs ne (Zog I hl hl2 rv rv2 z z2 hu0 (eqL I ds ds' (A:=A.in1) hl hl2 rv rv2 (by show A.units+1+ZfS ds<cLine; omega)))
theorem eqL (I : Inv X pins σ H s) : ∀ (ds ds' : List D) {xs xs' : List V} {us us' : List Value} {A : Around}, IsL X.K H ds xs → IsL X.K H ds' xs' → Vals xs us → Vals xs' us' → A.units + ZfS ds<cLine →
  ∀ (j:Nat) (d d':D) (u u':Value),ds[j]?=some d->ds'[j]?=some d'->us[j]?=some u->us'[j]?=some u'->SeqAt.EqAt A s u u' (deq d d')
 | [],_,_,_,_,_,_,_,_,_,_,_,j,d,d',u,u',e,_,_,_=>by simp at e
 | d0 :: ds,ds',xs,xs',us,us',A,hl,hl',rv,rv',hu,j,d,d',u,u',e1,e2,e3,e4=>by
  obtain ⟨x,r,rfl,h1,h2⟩:=hl
  cases ds' with
  | nil=>simp at e2
  | cons d0' ds' =>
   obtain ⟨x',r',rfl,h1',h2'⟩:=hl'
   cases rv with
   | cons ra rb =>
    cases rv' with
    | cons ra' rb' =>
     have hu1:A.units+max (dep d0) (ZfS ds)<cLine:=hu
     cases j with
     | zero =>
      simp only [List.getElem?_cons_zero,Option.some.injEq] at e1 e2 e3 e4
      subst e1 e2 e3 e4
      exact eqD I _ _ h1 h1' ra ra' (by omega)
     | succ j =>
      simp only [List.getElem?_cons_succ] at e1 e2 e3 e4
      exact eqL I ds ds' h2 h2' rb rb' (by omega) j d d' u u' e1 e2 e3 e4
end
def ZsA (K:W.Frag) (g:Bool->Bool):R2:=fun x y H Q=>∃ d d',Is K H d x∧Is K H d' y∧((∃ ds ds',d=.tup ds∧d'=.tup ds')∨∃ ds ds',d=.lst ds∧d'=.lst ds')∧dep d≤60∧Q (.bl (g (deq d d'))) H
theorem Zje (hu:X.A.units+64<cLine):OpR X (compareOp .Eq) (ZsA X.K id):=by
 intro pins s σ H x y v u Q I rx ry h
 obtain ⟨d,d',h1,h2,sh,hd,q⟩:=h
 rcases sh with ⟨ds,ds',rfl,rfl⟩ | ⟨ds,ds',rfl,rfl⟩
 ·obtain ⟨a,xs,rfl,q1,hl⟩:=h1
  obtain ⟨a2,xs2,rfl,q2,hl2⟩:=h2
  cases (show v=Value.ref a from rx)
  cases (show u=Value.ref a2 from ry)
  obtain ⟨its,rv,z⟩:=I.isTup q1
  obtain ⟨its2,rv2,z2⟩:=I.isTup q2
  have hd1:ZfS ds+1≤60:=hd
  exact (ZmD I hl hl2 rv rv2 z z2 (by omega) (eqL I ds ds' (A:=X.A.in1) hl hl2 rv rv2 (by show X.A.units+1+ZfS ds<cLine; omega))) _ _ _ _ ⟨.bl _,H,I,rfl,q⟩
 ·obtain ⟨a,xs,rfl,q1,hl⟩:=h1
  obtain ⟨a2,xs2,rfl,q2,hl2⟩:=h2
  cases (show v=Value.ref a from rx)
  cases (show u=Value.ref a2 from ry)
  obtain ⟨its,rv,z⟩:=I.isList q1
  obtain ⟨its2,rv2,z2⟩:=I.isList q2
  have hd1:ZfS ds+1≤60:=hd
  exact (Zog I hl hl2 rv rv2 z z2 (by omega) (eqL I ds ds' (A:=X.A.in1) hl hl2 rv rv2 (by show X.A.units+1+ZfS ds<cLine; omega))) _ _ _ _ ⟨.bl _,H,I,rfl,q⟩
end
section
variable {X:Cx} {pins:List (Addr × Obj)} {σ:St} {H:Hp} {s:Shared}
end
section
variable {prog:Program} {w:World} {A:Around} {R:Result->Shared->Prop} {s:Shared}
theorem Zj7 {elt target iter : Expr} {ifs : List Expr} {scope : Scope} {pos : Pos} {it acc : Value} {env : Env} (J : Nat → Shared → Prop)
  (turn:∀ n s,J n s->wpAny (model prog w) A (pyNext it) (fun r s1=>match r with
   | none=>R (.ok .next) s1
   | some v => wpAny (model prog w) A (letOwnedTupleGo target it v) (fun _ s2 => wpAny (model prog w) A (assign target env v) (fun _ s3 =>
     wpAny (model prog w) A (forIn ifs true fun c r=>if r=true then do let ok ← isTrue c env (eval c env); pure (ForInStep.yield ok) else pure (ForInStep.yield r)) (fun ok s4 =>
      if ok=true then wpAny (model prog w) A (eval elt env) (fun x s5=>wpAny (model prog w) A (call (.builtin "list.append") [acc,x]) (fun _ s6=>∃ m,m<n∧J m s6) (fun _ _=>False) s5) (fun _ _=>False) s4
      else ∃ m,m<n∧J m s4) (fun _ _=>False) s3) (fun _ _=>False) s2) (fun _ _=>False) s1) (fun _ _=>False) s)
  (n:Nat) (h:J n s):codeAny (model prog w) A (.compLoop (.ListComp elt [⟨target,iter,ifs,0⟩] scope pos) 0 it acc env) R s:=by
 refine codeAny_loop rfl J (fun n s hJ=>?_) n h
 show wpAny _ A ((compTurn (.ListComp elt [⟨target,iter,ifs,0⟩] scope pos) 0 it acc env).onRaise (fun x=>do noteFrame x env; theTreesLotGoes x)) _ _ s
 refine wpAny_noted ?_
 rw [compTurn_list]
 refine wpAny_bind (wpAny_standAt (wpAny_bind (wpAny_mono (turn n s hJ) (fun r s1 h1=>?_) fun _ _ z=>z.elim)))
 cases r with
 | none=>exact wpAny_pure h1
 | some v =>
  refine wpAny_bind (wpAny_mono h1 (fun _ s2 h2=>wpAny_bind (wpAny_mono h2 (fun _ s3 h3=>wpAny_bind (wpAny_mono h3 (fun ok s4 h4=>?_) fun _ _ z=>z.elim)) fun _ _ z=>z.elim)) fun _ _ z=>z.elim)
  cases ok with
  | false=>exact wpAny_pure ⟨rfl,h4⟩
  | true=>exact wpAny_bind (wpAny_bind (wpAny_mono h4 (fun x s5 h5=>wpAny_bind (wpAny_mono h5 (fun _ s6 h6=>wpAny_pure (wpAny_pure ⟨rfl,h6⟩)) fun _ _ z=>z.elim)) fun _ _ z=>z.elim))
end
def PTs (X:Cx) (ifs:List Expr) (t:TT):Prop :=
 ∀ (pins:List (Addr × Obj)) (s:Shared) (σ:St) (H:Hp) (Q:Bool->Hp->Prop),Inv X pins σ H s->t σ H Q →
  wpAny (model X.prog X.w) X.A (forIn ifs true fun c r=>if r=true then do let ok ← isTrue c X.env (eval c X.env); pure (ForInStep.yield ok) else pure (ForInStep.yield r)) (TP X pins σ Q) X.xe s
def Zsr:TT:=fun _ H Q=>Q true H
theorem Zld {X:Cx}:PTs X [] Zsr:=fun _ _ _ H _ I h=>wpAny_tests_nil ⟨H,I,h⟩
theorem ZeT {X:Cx} {c:Expr} {t:TT} (h:PT X c t):PTs X [c] t:=fun pins s σ H Q I q=>wpAny_tests_one (h pins s σ H Q I q)
noncomputable abbrev Cx.block (X:Cx) (N:List Str) (sc:Scope) (cl:List (Str × Addr)) (fp:List Addr) (s3:Shared) (H3:Hp):Cx :=
 { X with N:=N,s₀:=s3,H₀:=H3,env:=compEnvC sc cl s3.heap.objs.size X.env,outer:=X.stack,ex:=fp,fn:=fun _=>false,pn:=[],xe:=fun _ _=>False }
structure CompSc (X:Cx) (N:List Str) (sc:Scope) (cl:List (Str × Addr)) (σc:St->St):Prop where
 kind:sc.kind=.function
 names:∀ x∈sc.names,x.2=.local->sc.names.lookup x.1=some .local
 nocell:∀ y∈sc.names,y.2≠.cell
 clos:closureFor sc X.env=pure cl
 sub:∀ x c,cl.lookup x=some c->X.env.cells.lookup x=some c
 has:∀ x,((relabel sc X.env).names.lookup x=some .cell∨(relabel sc X.env).names.lookup x=some .free)->∃ c,cl.lookup x=some c
 len:∀ σ:St,(σc σ).length=N.length
 cap:∀ (σ:St) (i:Nat) (x:Str) (v:V),N[i]?=some x->(σc σ)[i]?=some (some v)->((relabel sc X.env).names.lookup x=some .cell∨(relabel sc X.env).names.lookup x=some .free)∧(X.env.scope.names.lookup x=some .cell∨X.env.scope.names.lookup x=some .free)∧∃ j:Nat,X.N[j]?=some x∧σ[j]?=some (some v)
def Zpp (J:It) (σ0:St) (g:TG) (tt:TT) (te:TE) (Q:VK) (H1:Hp):Prop:=∀ D,H1 D=none →
 ∃ W:Nat->Nat->St->List V->Hp->Prop,(∃ m,W 0 m σ0 [] (upd H1 D (.lst [])))∧∀ i m σ1 ys H2,W i m σ1 ys H2->H2 D=some (.lst ys) ∧
  ((J.stop i H2∧Q (.ref D) H2)∨(J.go i H2∧∃ N:St->List V->Hp->Prop,(∀ σ2 ys2 H3,N σ2 ys2 H3->∃ m',m'<m∧W (i+1) m' σ2 ys2 H3) ∧
   ∀ x H3,J.yld i H2 x H3->g x σ1 H3 fun σ2 H4=>tt σ2 H4 fun c H5=>if c=true then te σ2 H5 fun y H6=>H6 D=some (.lst ys)∧ys.length<sizeLine∧N σ2 (ys++[y]) (upd H6 D (.lst (ys++[y]))) else N σ2 ys H5))
def ZrM (wi:TI) (σc:St->St) (g:TG) (tt:TT) (te:TE):TE:=fun σ H Q=>wi σ H fun J H1=>Zpp J (σc σ) g tt te Q H1
section
variable {X:Cx} {pins:List (Addr × Obj)} {σ:St} {H:Hp} {s:Shared} {N:List Str} {sc:Scope} {cl:List (Str × Addr)} {σc:St->St} {fp:List Addr}
theorem Inv.block (I : Inv X pins σ H s) (S : CompSc X N sc cl σc) (hf : ∀ b ∈ fp, ZmA X pins H b) (hlt : ∀ b ∈ fp, b<s.heap.objs.size) {h' : Heap} {t' : Nat} (k : ∀ b u, s.heap.get? b=some u → h'.get? b=some u) (hn : h'.Ns s.heap.objs.size fun _ => none) :
  Inv (X.block N sc cl fp s H) [] (σc σ) H { s with heap:=h',toks:=t' }:=by
 have kin:∀ x,(X.block N sc cl fp s H).env.kindOf x=(relabel sc X.env).names.lookup x:=fun _=>rfl
 refine ⟨⟨I.ok.mod,S.kind,I.ok.glob,I.ok.blt,Nat.le_refl _,fun x y c h1 h2=>I.ok.inj x y c (S.sub x c h1) (S.sub y c h2),fun x hx=>S.has x hx,fun x c z _=>(nomatch z),I.ok.hd,I.ok.frames,.inl rfl,fun b hb=>⟨Nat.ne_of_lt (hlt b hb),fun x c e=>(hf b hb).2.2.2.2.1 x c (S.sub x c e)⟩,
  I.bs,Nat.le_trans I.ok.bsz I.sz,fun b o e hb=>?_,fun b hb z=>?_,I.stack,I.stkFree⟩,
  rfl,I.bare,Un.kept k,⟨_,hn,fun i x v e1 e2 e3=>?_⟩,fun x c e=>?_,I.hok.fresh (Nat.le_refl _),fun x c e=>I.freeC x c (S.sub x c e),fun p hp=>absurd (show p∈([]:List (Addr × Obj)) from hp) (by simp),I.hok.kept k,S.len σ⟩
 ·rcases (hf b hb).2.2.2.1 with z | z
  ·exact I.ok.noex b o e z
  ·exact absurd (Nat.lt_of_lt_of_le (Heap.lt_size e) (Nat.le_trans I.ok.bsz z)) (Nat.lt_irrefl _)
 ·rcases List.mem_cons.mp (I.stkSub b z) with y | y
  ·exact (hf b hb).2.1 y
  ·exact (hf b hb).2.2.1 y
 ·obtain ⟨hk,hko,j,hj,hσ⟩:=S.cap σ i x v e1 e2
  obtain ⟨m,hm,hl⟩:=I.loc
  obtain ⟨u,r,l⟩:=hl j x v hj hσ (by rcases hko with z | z; exact .inr (.inl z); exact .inr (.inr z))
  refine ⟨u,r,.inr ⟨hk,?_⟩⟩
  rcases l with ⟨q,_⟩ | ⟨_,c,hc,q⟩
  ·have q':X.env.scope.names.lookup x=some .local:=q
   rcases hko with z | z <;> (rw [z] at q'; cases q')
  ·obtain ⟨c',hc'⟩:=S.has x hk
   have e:=S.sub x c' hc'
   rw [hc] at e
   cases e
   exact ⟨c,hc',q.keeps k⟩
 ·obtain ⟨v,q⟩:=I.cell x c (S.sub x c e)
  exact ⟨v,q.keeps k⟩
end
section
variable {X:Cx} {elt tg iter:Expr} {ifs:List Expr} {sc:Scope} {pos:Pos} {N:List Str} {cl:List (Str × Addr)} {σc:St->St} {wi:TI} {g:TG} {tt:TT} {te:TE}
structure Gone (X:Cx) (pins:List (Addr × Obj)) (H:Hp) (C:Addr):Prop where
 free:H C=none
 loc:C≠X.env.locals
 new:X.s₀.heap.objs.size≤C
 cell:∀ x c,X.env.cells.lookup x=some c->c≠C
 pin:∀ p∈X.pn++pins,p.1≠C
theorem Inv.gone {pins:List (Addr × Obj)} {σ:St} {H:Hp} {s:Shared} {C:Addr} {h':Heap} (I:Inv X pins σ H s) (G:Gone X pins H C) (sb:Heap.SameBut C s.heap h'):Inv X pins σ H { s with heap:=h' } :=
 I.turned (t':=s.toks) (it:=C) (fun b o n q=>(sb.2 b n).trans q) G.free G.loc (.inr G.new) G.cell G.pin
theorem Zjt {pins : List (Addr × Obj)} {s2 : Shared} {σ : St} {H2 : Hp} {Q : VK} {RR : Value → Addr → Result → Shared → Prop} {E : Value → Shared → Prop} {it : Addr} {fp : List Addr} {tn : Nat → Heap → Prop} {J : It}
  (hc:X.calm=true) (S:CompSc X N sc cl σc) (hg:∀ fp s3 H3,PG (X.block N sc cl fp s3 H3) tg g) (ht:∀ fp s3 H3,PTs (X.block N sc cl fp s3 H3) ifs tt) (he:∀ fp s3 H3,PE (X.block N sc cl fp s3 H3) elt te)
  (I2:Inv X pins σ H2 s2) (T:Turn X.prog X.w X.K tg J fp it tn) (st2:tn 0 s2.heap) (f2:∀ b∈fp,ZmA X pins H2 b)
  (h2:∀ D,H2 D=none->∃ W:Nat->Nat->St->List V->Hp->Prop,(∃ m,W 0 m (σc σ) [] (upd H2 D (.lst [])))∧∀ i m σ1 ys H2,W i m σ1 ys H2->H2 D=some (.lst ys) ∧
   ((J.stop i H2∧Q (.ref D) H2)∨(J.go i H2∧∃ N:St->List V->Hp->Prop,(∀ σ2 ys2 H3,N σ2 ys2 H3->∃ m',m'<m∧W (i+1) m' σ2 ys2 H3) ∧
    ∀ x H3,J.yld i H2 x H3->g x σ1 H3 fun σ2 H4=>tt σ2 H4 fun c H5=>if c=true then te σ2 H5 fun y H6=>H6 D=some (.lst ys)∧ys.length<sizeLine∧N σ2 (ys++[y]) (upd H6 D (.lst (ys++[y]))) else N σ2 ys H5)))
  (hRR:∀ D C m s7 H7,Inv X pins σ H7 s7->s7.heap.Ns C m->Gone X pins H7 C->Q (.ref D) H7->RR (.ref D) C (.ok .next) s7) :
  wpAny (model X.prog X.w) X.A (newList []) (fun acc s₃=>wpAny (model X.prog X.w) X.A (newFunctionEnv sc X.env.globals cl [] X.env.qual none .none (some X.env)) (fun cenv s₄ =>
   codeAny (model X.prog X.w) X.A (.compStart (.ListComp elt [⟨tg,iter,ifs,0⟩] sc pos) 0 (.ref it) acc { cenv with scope:=relabel sc X.env }) (RR acc cenv.locals) s₄) E s₃) E s2:=by
 refine wpAny_newObj_type ?_
 have hD:H2 s2.heap.objs.size=none:=I2.hok.fresh (Nat.le_refl _)
 have I3:Inv X pins σ (upd H2 s2.heap.objs.size (.lst [])) { s2 with heap:=s2.heap.push { cls:=.type "list",dict:=none,data:=.seq ([]:List Value).toArray } } :=
  I2.laid (t':=s2.toks) (fun b u q=>Heap.get?_push_of_some _ q) (Nat.le_refl _) ⟨by decide,[],0,.nil,Heap.get?_push_size _ rfl⟩
 have flt:∀ b∈fp,b<s2.heap.objs.size:=fun b hb=>by
  obtain ⟨o,e,_⟩:=T.obj _ _ st2 b hb
  exact Heap.lt_size e
 obtain ⟨W,⟨m0,w0⟩,turn⟩:=h2 s2.heap.objs.size hD
 have f3:∀ b∈fp,ZmA X pins (upd H2 s2.heap.objs.size (.lst [])) b:=fun b hb=>⟨by rw [Zak (Nat.ne_of_lt (flt b hb))]; exact (f2 b hb).1,(f2 b hb).2⟩
 have st3:tn 0 (s2.heap.push { cls:=.type "list",dict:=none,data:=.seq ([]:List Value).toArray }):=T.keep _ _ _ st2 fun b _ o q=>Heap.get?_push_of_some _ q
 have sz3:s2.heap.objs.size≤(s2.heap.push { cls:=.type "list",dict:=none,data:=.seq ([]:List Value).toArray }).objs.size:=by rw [Heap.size_push]; exact Nat.le_succ _
 generalize s2.heap.push { cls:=.type "list",dict:=none,data:=.seq ([]:List Value).toArray }=h3 at *
 generalize s2.heap.objs.size=D at *
 refine wpAny_newFunctionEnv S.nocell (by intro y hy; simp at hy) (fun h4 hn4 hb4=>?_) S.kind
 dsimp only at hn4 hb4 ⊢
 have k4:∀ b u,h3.get? b=some u->h4.get? b=some u:=fun b u q=>(hb4.2 b (Nat.ne_of_lt (Heap.lt_size q))).trans (Heap.get?_push_of_some _ q)
 have I4:Inv (X.block N sc cl fp { s2 with heap:=h3 } (upd H2 D (.lst []))) [] (σc σ) (upd H2 D (.lst [])) { s2 with heap:=h4,toks:=s2.toks+0 } :=
  I3.block S f3 (fun b hb=>Nat.lt_of_lt_of_le (flt b hb) sz3) k4 hn4
 have st4:tn 0 h4:=T.keep _ _ _ st3 fun b _ o q=>k4 b o q
 have fb:∀ {H':Hp},(∀ b∈fp,H' b=none)->∀ b∈fp,ZmA (X.block N sc cl fp { s2 with heap:=h3 } (upd H2 D (.lst []))) [] H' b:=fun hn b hb =>
  ⟨hn b hb,(I4.ok.exf b hb).1,I4.ok.exfs b hb,.inl hb,(I4.ok.exf b hb).2,fun p hp=>absurd (show p∈([]:List (Addr × Obj)) from hp) (by simp)⟩
 have fin:∀ {σ':St} {H':Hp} {s':Shared} {h':Heap},Inv (X.block N sc cl fp { s2 with heap:=h3 } (upd H2 D (.lst []))) [] σ' H' s'->Heap.SameBut h3.objs.size s'.heap h'->Inv X pins σ H' { s' with heap:=h' }:=fun {σ' H' s' h'} J' sb=>by
  have lt3:∀ b o,h3.get? b=some o->b≠h3.objs.size:=fun b o q=>Nat.ne_of_lt (Heap.lt_size q)
  have lo:H' h3.objs.size=none:=J'.free
  have hk:HOk X.prog X.w H' h':=fun b u e=>(J'.hok b u e).stay (fun c v hcc q=>(sb.2 c (by
   rintro rfl
   rcases hcc with z | z
   ·subst z; rw [lo] at e; cases e
   ·rw [lo] at z; cases z)).trans q) (fun _ q=>q) fun _ _ q=>q
  refine I3.call' (s':={ s' with heap:=h' }) (ch:=fp) J'.os ⟨fun b o q n hb hx=>(sb.2 b (lt3 b o q)).trans (J'.base.keep b o q n hb hx),fun b o q n hb hx=>?_,fun b o q n hx=>J'.base.free b o q n hx,fun b o q hx=>?_,J'.base.tups,J'.base.frzs,J'.base.tbls⟩ hk J'.bare fun b hb=>?_
  ·obtain ⟨sl,q1⟩:=J'.base.slot b o q n hb hx
   exact ⟨sl,(sb.2 b (lt3 b o q)).trans q1⟩
  ·obtain ⟨o1,q1⟩:=J'.base.there b o q hx
   exact ⟨o1,(sb.2 b (lt3 b o q)).trans q1⟩
  ·exact ⟨(f3 b hb).2.2.2.1,(f3 b hb).2.1,(f3 b hb).2.2.2.2.1,(f3 b hb).2.2.2.2.2⟩
 have loop : ∀ s5 : Shared, Inv (X.block N sc cl fp { s2 with heap := h3 } (upd H2 D (.lst []))) [] (σc σ) (upd H2 D (.lst [])) s5 → tn 0 s5.heap →
   codeAny (model X.prog X.w) X.A (.compLoop (.ListComp elt [⟨tg,iter,ifs,0⟩] sc pos) 0 (.ref it) (.ref D) (compEnvC sc cl h3.objs.size X.env)) (RR (.ref D) h3.objs.size) s5:=fun s5 I5 st5=>by
  refine Zj7 (fun n s'=>∃ i σ' ys H',Inv (X.block N sc cl fp { s2 with heap:=h3 } (upd H2 D (.lst []))) [] σ' H' s'∧tn i s'.heap∧(∀ b∈fp,H' b=none)∧W i n σ' ys H') ?_ m0 ⟨0,_,[],_,I5,st5,fun b hb=>(f3 b hb).1,w0⟩
  rintro n s6 ⟨i,σ6,ys,H6,I6,st6,fr6,w6⟩
  obtain ⟨hDy,step⟩:=turn i n σ6 ys H6 w6
  rcases step with ⟨stop,q6⟩ | ⟨go,Nx,hN,step⟩
  ·refine thn (T.done (X.block N sc cl fp { s2 with heap:=h3 } (upd H2 D (.lst []))) rfl rfl rfl hc i [] s6 σ6 H6 (fun _ _=>False) I6 (fb fr6) st6 stop) fun r s7 ⟨hr,I7⟩=>?_
   subst hr
   obtain ⟨m7,hm7,_⟩:=I7.loc
   refine hRR D h3.objs.size m7 s7 H6 (fin I7 ⟨rfl,fun _ _=>rfl⟩) hm7 ⟨I7.free,Nat.ne_of_gt I3.lt,I3.sz,fun x c e=>?_,fun p hp=>?_⟩ q6
   ·obtain ⟨v,z⟩:=I3.cell x c e
    exact Nat.ne_of_lt z.lt
   ·exact Nat.ne_of_lt (Heap.lt_size (I3.pin p hp).1)
  ·refine thn (T.item (X.block N sc cl fp { s2 with heap:=h3 } (upd H2 D (.lst []))) rfl rfl rfl hc i [] s6 σ6 H6 (fun _ _=>False) I6 (fb fr6) st6 go) fun r s7 ⟨u,hr,h7⟩=>?_
   subst hr
   refine thn h7 fun _ s8 ⟨x,H8,I8,r8,y8,st8,fr8⟩=>?_
   have I8':=I8.pinned (fb fr8) (T.obj _ _ st8)
   refine thn (hg _ _ _ _ s8 σ6 H8 x u _ I8' r8 (step x H8 y8)) fun _ s9 ⟨σ9,H9,I9,q9⟩=>?_
   refine thn (ht _ _ _ _ s9 σ9 H9 _ I9 q9) fun c sA ⟨HA,IA,qA⟩=>?_
   have again : ∀ {σB : St} {HB : Hp} {sB : Shared} {zs : List V}, Inv (X.block N sc cl fp { s2 with heap := h3 } (upd H2 D (.lst []))) ([] ++ Zji fp s8.heap) σB HB sB → Nx σB zs HB →
     ∃ m,m<n∧∃ i σ' ys H',Inv (X.block N sc cl fp { s2 with heap:=h3 } (upd H2 D (.lst []))) [] σ' H' sB∧tn i sB.heap∧(∀ b∈fp,H' b=none)∧W i m σ' ys H':=fun {σB HB sB zs} IB nB=>by
    obtain ⟨m',hm,wB⟩:=hN σB zs HB nB
    refine ⟨m',hm,i+1,σB,zs,HB,IB.unpinned,T.keep _ _ _ st8 fun b hb o e=>(IB.pin (b,o) (List.mem_append_right _ (List.mem_append_right _ (Zek hb e)))).1,fun b hb=>?_,wB⟩
    obtain ⟨o,e,d⟩:=T.obj _ _ st8 b hb
    exact (IB.pin (b,o) (List.mem_append_right _ (List.mem_append_right _ (Zek hb e)))).2.1
   cases c with
   | false=>exact again IA qA
   | true =>
    refine thn (he _ _ _ _ sA σ9 HA _ IA qA) fun y sB ⟨yv,HB,IB,rB,dB,lB,qB⟩=>?_
    exact thn (Ze6 (X:=X.block N sc cl fp { s2 with heap:=h3 } (upd H2 D (.lst []))) _ sB σ9 HB (.ref D) [yv] (.ref D) [y] (fun v H'=>v=.non∧Nx σ9 (ys++[yv]) H') IB rfl (.cons rB .nil) ⟨D,ys,yv,rfl,rfl,dB,lB,rfl,qB⟩) fun _ sC ⟨_,HC,IC,_,_,qC⟩=>again IC qC
 refine codeAny_compStart_list (loop _ I4 st4) ?_
 exact T.self _ 0 _ _ _ st4 (loop _ I4 st4)
theorem ZdP (hc : X.calm=true) (S : CompSc X N sc cl σc) (hi : PI X tg iter wi) (hg : ∀ fp s3 H3, PG (X.block N sc cl fp s3 H3) tg g) (ht : ∀ fp s3 H3, PTs (X.block N sc cl fp s3 H3) ifs tt) (he : ∀ fp s3 H3, PE (X.block N sc cl fp s3 H3) elt te)
  (hs:∀ x,foldedSetIterable iter X.env x=pure x:=by intro _; rfl):PE X (.ListComp elt [⟨tg,iter,ifs,0⟩] sc pos) (ZrM wi σc g tt te):=by
 intro pins s σ H Q I h
 rw [eval_ListComp]
 refine wpAny_comprehension_free rfl hs S.clos S.kind S.names (thn (hi pins s σ H _ I h) fun v s1 h1=>thn h1 fun itv s2 h2=>?_)
 obtain ⟨it,fp,tn,J,H2,e,I2,T,st2,f2,h2⟩:=h2
 subst e
 exact Zjt (Q:=Q) hc S hg ht he I2 T st2 f2 h2 fun D C m s7 H7 I7 n7 G q=>⟨m,n7,fun h' sb=>⟨.ref D,H7,I7.gone G sb,rfl,q⟩⟩
theorem Zm0 {i : Nat} {x : Str} {pos' spos : Pos} (hc : X.calm=true) (hN : X.N.Nodup) (hi' : X.N[i]?=some x) (hx : Loc X.env.scope x) (S : CompSc X N sc cl σc) (hi : PI X tg iter wi)
  (hg:∀ fp s3 H3,PG (X.block N sc cl fp s3 H3) tg g) (ht:∀ fp s3 H3,PTs (X.block N sc cl fp s3 H3) ifs tt) (he:∀ fp s3 H3,PE (X.block N sc cl fp s3 H3) elt te)
  (hs:∀ x,foldedSetIterable iter X.env x=pure x:=by intro _; rfl) (hsw:swapsWith (.ListComp elt [⟨tg,iter,ifs,0⟩] sc pos) (some (.Name x pos')) spos.line X.env=pure true:=by rfl)
  (hf:X.fn x=true∨X.env.scope.names.lookup x=some .local:=by first | exact .inl rfl | exact .inr rfl | assumption) :
  PS X (.Assign [.Name x pos'] (.ListComp elt [⟨tg,iter,ifs,0⟩] sc pos) spos) (Zsm (ZrM wi σc g tt te) (Zkj i)):=by
 intro pins s σ H D I h
 rw [exec_Assign_Name_used _ _ _ _ hsw]
 refine wpAny_bind (wpAny_standAt (wpAny_bind ?_))
 show wpAny _ _ (comprehension (.ListComp elt [⟨tg,iter,ifs,0⟩] sc pos) sc X.env (firstIterPos [⟨tg,iter,ifs,0⟩] pos) (newList []) (firstAsync [⟨tg,iter,ifs,0⟩]) (firstIter [⟨tg,iter,ifs,0⟩] X.env) (some (assign (.Name x pos') X.env)) >>= fun _=>pure ()) _ _ s
 refine wpAny_bind (wpAny_mono (Q:=fun _ s'=>SP X pins D .next s') ?_ (fun _ s' q=>wpAny_pure (wpAny_pure q)) fun _ _ z=>z)
 refine wpAny_comprehension_free rfl hs S.clos S.kind S.names (thn (hi pins s σ H _ I h) fun v s1 h1=>thn h1 fun itv s2 h2=>?_)
 obtain ⟨it,fp,tn,J,H2,e,I2,T,st2,f2,h2⟩:=h2
 subst e
 refine Zjt (Q:=fun v H'=>D.nx (σ.set i (some v)) H') hc S hg ht he I2 T st2 f2 h2 fun d C m s7 H7 I7 n7 G q=>?_
 show wpAny _ _ (assign (.Name x pos') X.env (.ref d)) _ _ s7
 refine wpAny_assign_Name (ZjH (v:=.ref d) I7 hN hi' hx rfl (fun s8 I8 ch=>?_) hf)
 obtain ⟨a,sb,ha⟩:=ch
 have aC:C≠a:=by
  rcases ha with z | z
  ·rw [z]; exact G.loc
  ·exact (G.cell x a z).symm
 exact ⟨m,n7.sameBut sb aC,fun h' sb'=>⟨_,H7,I8.gone G sb',q⟩⟩
end
noncomputable def Itw (n:Nat) (V1:Nat->V->Prop):It:=⟨fun i _=>i<n,fun i H x H'=>H'=H∧V1 i x,fun i _=>i=n⟩
theorem Zh2 {P : Program} {w : World} {K : PySem.W.Frag} {tg : Expr} {it : Addr} {n : Nat} {Pv : Nat → Value → Prop} {V1 : Nat → V → Prop} {st : Nat → Heap → Prop}
  (W:∀ A:Around,A.handled=none->Walks P w A it [it] [it] n Pv st) (ob:∀ i h,st i h->∃ o,h.get? it=some o∧∀ v,o.data≠.cell v) (val:∀ i v,Pv i v->∃ x,RelV x v∧V1 i x)
  (own:∀ i v s (M:Model) (A:Around) (E:Value->Shared->Prop) (Q:Unit->Shared->Prop),Pv i v->Q () s->wpAny M A (letOwnedTupleGo tg (.ref it) v) Q E s)
  (self:∀ (A:Around) (i:Nat) (s:Shared) (Q:Value->Shared->Prop) (E:Value->Shared->Prop),st i s.heap->Q (.ref it) s->wpAny (model P w) A (pyIter (.ref it)) Q E s):Turn P w K tg (Itw n V1) [it] it st where
 mem:=by simp
 obj:=fun i h hs b hb=>by
  have e:b=it:=by simpa using hb
  subst e
  exact ob i h hs
 keep:=fun i h h' hs k=>(W {} rfl).frame i h h' hs k
 item:=fun X hP hw hK hc i pins s σ H E I hf hs go=>by
  subst hP hw hK
  refine (W X.A (I.ok.hd hc)).item i s _ E go hs fun v h' tk pv hs' k=>⟨v,rfl,?_⟩
  obtain ⟨x,rx,vx⟩:=val i v pv
  obtain ⟨f0,f1,_,f3,f4,f5⟩:=hf it (by simp)
  have I':Inv X pins σ H { s with heap:=h',toks:=tk }:=I.turned (it:=it) (fun b o n q=>k b o (by simpa using n) q) f0 f1 f3 f4 f5
  refine own i v _ _ _ _ _ pv ⟨x,H,I',rx,⟨rfl,vx⟩,hs',fun b hb=>?_⟩
  have e:b=it:=by simpa using hb
  subst e
  exact f0
 done:=fun X hP hw hK hc i pins s σ H E I hf hs stop=>by
  subst hP hw hK
  have e:i=n:=stop
  subst e
  obtain ⟨f0,f1,_,f3,f4,f5⟩:=hf it (by simp)
  exact (W X.A (I.ok.hd hc)).done s _ E hs fun h' tk k=>⟨rfl,I.turned (it:=it) (fun b o n q=>k b o (by simpa using n) q) f0 f1 f3 f4 f5⟩
 self:=self
def ZsT (te:TE):TI:=fun σ H R=>te σ H fun x H1=>∃ z,x=.str z∧R (Itw z.cps.size fun i y=>∃ c,z.cps[i]?=some c∧y=.str ⟨#[c]⟩) H1
theorem ZmH {M:Model} {A:Around} {E:Value->Shared->Prop} {s:Shared} {tg:Expr} {it:Addr} {z:Str} {t:Tok} {Q:Unit->Shared->Prop} (q:Q () s):wpAny M A (letOwnedTupleGo tg (.ref it) (.str z t)) Q E s:=by
 unfold letOwnedTupleGo
 cases tg <;> exact wpAny_pure q
theorem ZqM {X:Cx} {tg e:Expr} {te:TE} (he:PE X e te):PI X tg e (ZsT te):=by
 intro pins s σ H R I h
 refine thn (he pins s σ H _ I h) fun v s1 ⟨x,H1,I1,r1,z,e1,q⟩=>?_
 subst e1
 obtain ⟨t,rfl⟩:=r1
 have fr:H1 s1.heap.objs.size=none:=I1.hok.fresh (Nat.le_refl _)
 by_cases low:z.cps.all (·<128)=true
 ·refine wpAny_pyIter_ascii low ⟨s1.heap.objs.size,[s1.heap.objs.size],fun i h=>h.IsStrIter s1.heap.objs.size "str_ascii_iterator" z t i,_,H1,rfl,I1.kept (t':=s1.toks) fun b u q=>Heap.get?_push_of_some _ q,
   Zh2 (fun A hA=>Walks.strAscii hA _ z t) (fun i h ⟨o,ho,_,hd⟩=>⟨o,ho,fun v q=>by rw [hd] at q; cases q⟩) (fun i v ⟨c,u,hc,hv⟩=>⟨.str ⟨#[c]⟩,⟨u,hv⟩,c,hc,rfl⟩) (fun i v s M A E Q ⟨c,u,_,hv⟩ hq=>by rw [hv]; exact ZmH hq) fun A i s Q E hs hq=>wpAny_pyIter_striter_ascii hs hq,
   ⟨_,Heap.get?_push_size _ rfl,rfl,rfl⟩,fun b hb=>?_,q⟩
  have e:b=s1.heap.objs.size:=by simpa using hb
  subst e
  exact I1.fpOk (Nat.le_refl _) fr
 ·refine wpAny_pyIter_wide (Bool.eq_false_iff.mpr low) ⟨s1.heap.objs.size,[s1.heap.objs.size],fun i h=>h.IsStrIter s1.heap.objs.size "str_iterator" z t i,_,H1,rfl,I1.kept (t':=s1.toks) fun b u q=>Heap.get?_push_of_some _ q,
   Zh2 (fun A hA=>Walks.strWide hA _ z t) (fun i h ⟨o,ho,_,hd⟩=>⟨o,ho,fun v q=>by rw [hd] at q; cases q⟩) (fun i v ⟨c,u,hc,hv⟩=>⟨.str ⟨#[c]⟩,⟨u,hv⟩,c,hc,rfl⟩) (fun i v s M A E Q ⟨c,u,_,hv⟩ hq=>by rw [hv]; exact ZmH hq) fun A i s Q E hs hq=>wpAny_pyIter_striter_wide hs hq,
   ⟨_,Heap.get?_push_size _ rfl,rfl,rfl⟩,fun b hb=>?_,q⟩
  have e:b=s1.heap.objs.size:=by simpa using hb
  subst e
  exact I1.fpOk (Nat.le_refl _) fr
section
variable {prog:Program} {w:World} {A:Around} {s:Shared}
theorem ZeO (hh : A.handled=none) (it t : Addr) (hne : t ≠ it) (us : Array Value) :
  Draws prog w A it [it,t] us.size (fun i v=>us[i]?=some v) (fun i h=>h.IsTupleIter it t i∧h.IsTuple t us) where
 live:=fun _ _ ⟨⟨o,e,_⟩,_⟩=>⟨o,e⟩
 frame:=fun _ _ _ ⟨⟨o,e,r⟩,⟨o',e',r'⟩⟩ k=>⟨⟨o,k it (by simp) o e,r⟩,⟨o',k t (by simp) o' e',r'⟩⟩
 item:=by
  intro i s Q E hi ⟨st,ht⟩ hQ
  have e:us[i]?=some us[i]:=by simp [hi]
  obtain ⟨o,ho,c,d⟩:=id st
  obtain ⟨ot,hot,_,n,dt⟩:=id ht
  unfold Builtin.SmallTypes.nextOf
  refine wpAny_bind (wpAny_callSpecial?_slot (name:=Str.ofString "__next__") st.typeIs F.slot_tuple_iterator_next (wpAny_call_entry F.slot_tuple_iterator_next st.typeIs F.entry_tuple_iterator_next ?_ (F.args_tuple_iterator_next_1 _)))
  unfold Builtin.«tuple_iterator.__next__»
  refine wpAny_bind (m:=field (.ref it) 0) (wpAny_field ho d (x:=.ref t) rfl ?_)
  rw [if_neg (show ¬ ((Value.ref t == Value.none)=true) from Bool.false_ne_true)]
  refine wpAny_bind (m:=field (.ref it) 1) (wpAny_field ho d (x:=.int i 0) rfl (wpAny_bind (m:=seqItems? (.ref t)) (wpAny_seqItems hot dt ?_)))
  simp only [Int.toNat_natCast,e]
  have sb:=Heap.SameBut.update s.heap it (Obj.mapFields (·.setIfInBounds 1 (rawInt (i+1))))
  exact wpAny_bind (wpAny_setField ho d (by simp) (wpAny_pure ⟨_,rfl,wpAny_pure (hQ _ _ s.toks e ⟨⟨_,Heap.get?_update_self _ ho (Obj.isFreed_of_fields (Obj.data_mapFields d _)),(Obj.cls_mapFields ..).trans c,by rw [Obj.data_mapFields d]; simp [rawInt]⟩,ht.extBut sb.extBut hne⟩ sb)⟩))
 done:=by
  intro s Q E ⟨st,ht⟩ hE
  have e:us[us.size]?=none:=by simp
  obtain ⟨o,ho,c,d⟩:=id st
  obtain ⟨ot,hot,_,n,dt⟩:=id ht
  unfold Builtin.SmallTypes.nextOf
  refine wpAny_bind (wpAny_callSpecial?_slot (name:=Str.ofString "__next__") st.typeIs F.slot_tuple_iterator_next (wpAny_call_entry F.slot_tuple_iterator_next st.typeIs F.entry_tuple_iterator_next ?_ (F.args_tuple_iterator_next_1 _)))
  unfold Builtin.«tuple_iterator.__next__»
  refine wpAny_bind (m:=field (.ref it) 0) (wpAny_field ho d (x:=.ref t) rfl ?_)
  rw [if_neg (show ¬ ((Value.ref t == Value.none)=true) from Bool.false_ne_true)]
  refine wpAny_bind (m:=field (.ref it) 1) (wpAny_field ho d (x:=.int us.size 0) rfl (wpAny_bind (m:=seqItems? (.ref t)) (wpAny_seqItems hot dt ?_)))
  simp only [Int.toNat_natCast,e]
  refine wpAny_bind (wpAny_rule (wpAny_bind (wpAny_setField ho d (by simp) ?_)))
  refine wpAny_bind (m:=newExc (.type "StopIteration") []) ?_
  simp only [newExc,newTuple]
  refine wpAny_bind (wpAny_newObj_type (wpAny_bind (m:=firstArgMember _ _) (wpAny_of_eq (a:=Value.none) (by first | rfl | (simp only [firstArgMember]; rfl)) (wpAny_newObj_type ?_ (by size_fits)))) (by size_fits))
  simp only [raiseNew]
  refine wpAny_bind (wpAny_handled ?_)
  first | rw [show A.in1.handled=none from hh] | rw [hh]
  exact wpAny_bind (wpAny_pure (wpAny_throw (hE _ _ (((Heap.SameBut.update ..).extBut.push _).push _) ⟨_,Heap.get?_push_size _ rfl,rfl⟩)))
end
structure ZAp (z TI TO i1 i2:Addr) (f1 f2:List Addr):Prop where
 TIz:TI≠z
 TOz:TO≠z
 i1z:i1≠z
 i2z:i2≠z
 TITO:TI≠TO
 TIi1:TI≠i1
 TIi2:TI≠i2
 TOi1:TO≠i1
 TOi2:TO≠i2
 i12:i1≠i2
 z1:z ∉ f1
 z2:z ∉ f2
 o1:TO ∉ f1
 o2:TO ∉ f2
 b1:i2 ∉ f1
 b2:i1 ∉ f2
section
variable {prog:Program} {w:World} {A:Around} {E:Value->Shared->Prop} {s:Shared} {z TI TO i1 i2:Addr} {f1 f2:List Addr} {n1 n2 k1 k2:Nat} {P1 P2:Nat->Value->Prop} {S1 S2:Nat->Heap->Prop} {a b:Value}
theorem Draws.but {it c:Addr} {fp:List Addr} {n i:Nat} {P:Nat->Value->Prop} {St:Nat->Heap->Prop} {h h':Heap} (D:Draws prog w A it fp n P St) (st:St i h) (e:Heap.ExtBut c h h') (hc:c ∉ fp):St i h' :=
 D.frame _ _ _ st fun b hb o q=>e b o (fun x=>hc (x ▸ hb)) q
theorem Zps {Q : Value → Shared → Prop} (Z : ZAp z TI TO i1 i2 f1 f2) (D1 : Draws prog w A i1 f1 n1 P1 S1) (D2 : Draws prog w A i2 f2 n2 P2 S2) (hz : IsZip s.heap z TI TO .none) (hTI : IsPair s.heap TI (.ref i1) (.ref i2)) (hTO : IsPair s.heap TO a b)
  (g1:S1 k1 s.heap) (g2:S2 k2 s.heap) (l1:k1<n1) (l2:k2<n2)
  (hQ:∀ x y h' tk,P1 k1 x->P2 k2 y->IsZip h' z TI TO (rawInt s.heap.objs.size)->IsPair h' TO x y->S1 (k1+1) h'->S2 (k2+1) h'->IsPair h' s.heap.objs.size x y →
   (∀ c o,c≠z->c≠TO->c≠i1->c≠i2->s.heap.get? c=some o->h'.get? c=some o)->Q (.ref s.heap.objs.size) { s with heap:=h',toks:=tk }) :
  wpAny (model prog w) A (Builtin.«zip.__next__» ⟨[.ref z],[]⟩) (fun fin s'=>∃ v,fin=.done (.ret v)∧Q v s') E s:=by
 unfold Builtin.«zip.__next__»
 refine wpAny_bind (m:=field (.ref z) 2) (wpAny_field hz rfl (x:=.bool false) rfl ?_)
 refine wpAny_bind (m:=field (.ref z) 3) (wpAny_field hz rfl (x:=.ref TI) rfl (wpAny_bind (wpAny_seqItems hTI rfl ?_)))
 refine wpAny_bind (m:=Builtin.SmallTypes.ownedTupleIsFree (.ref z)) ?_
 unfold Builtin.SmallTypes.ownedTupleIsFree
 refine wpAny_bind (wpAny_field hz rfl (x:=.none) rfl (wpAny_pure ?_))
 simp only [if_true]
 refine wpAny_bind (wpAny_rule (wpAny_bind (wpAny_field hz rfl (x:=.ref TO) rfl (wpAny_bind (wpAny_setField_rec hz (by simp) fun hA zA sA=>wpAny_bind ?_)))))
 replace zA:IsZip hA z TI TO .ellipsis:=zA
 simp only [List.zipIdx_cons,List.zipIdx_nil,List.forIn_cons,List.forIn_nil]
 refine wpAny_bind (wpAny_bind (wpAny_onRaise (wpAny_bind (m:=Builtin.SmallTypes.nextOf (.ref i1)) (D1.item k1 _ _ _ l1 (Draws.but D1 g1 sA.extBut Z.z1) fun x hB tB px gB sB=>wpAny_pure ?_))))
 have oB:IsPair hB TO a b:=sB.extBut _ _ Z.TOi1 (sA.extBut _ _ Z.TOz hTO)
 refine wpAny_bind (wpAny_seqItems oB rfl (wpAny_bind (wpAny_updateSeq_pair oB fun hC oC sC=>wpAny_bind (wpAny_letGo (wpAny_pure ?_)))))
 replace oC:IsPair hC TO x b:=oC
 refine wpAny_bind (wpAny_bind (wpAny_onRaise (wpAny_bind (m:=Builtin.SmallTypes.nextOf (.ref i2)) (D2.item k2 _ _ _ l2 (Draws.but D2 (Draws.but D2 (Draws.but D2 g2 sA.extBut Z.z2) sB.extBut Z.b2) sC.extBut Z.o2) fun y hD tD py gD sD=>wpAny_pure ?_))))
 have oD:IsPair hD TO x b:=sD.extBut _ _ Z.TOi2 oC
 refine wpAny_bind (wpAny_seqItems oD rfl (wpAny_bind (wpAny_updateSeq_pair oD fun hE oE sE=>wpAny_bind (wpAny_letGo (wpAny_pure (wpAny_pure ?_))))))
 replace oE:IsPair hE TO x y:=oE
 have zE:IsZip hE z TI TO .ellipsis:=sE.extBut _ _ Z.TOz.symm (sD.extBut _ _ Z.i2z.symm (sC.extBut _ _ Z.TOz.symm (sB.extBut _ _ Z.i1z.symm zA)))
 have sz:hE.objs.size=s.heap.objs.size:=by rw [sE.1,sD.1,sC.1,sB.1,sA.1]
 have kE:∀ c o,c≠z->c≠TO->c≠i1->c≠i2->s.heap.get? c=some o->hE.get? c=some o:=fun c o c1 c2 c3 c4 e=>sE.extBut _ _ c2 (sD.extBut _ _ c4 (sC.extBut _ _ c2 (sB.extBut _ _ c3 (sA.extBut _ _ c1 e))))
 have d1:S1 (k1+1) hE:=Draws.but D1 (Draws.but D1 (Draws.but D1 gB sC.extBut Z.o1) sD.extBut Z.b1) sE.extBut Z.o1
 have d2:S2 (k2+1) hE:=Draws.but D2 gD sE.extBut Z.o2
 refine wpAny_bind (wpAny_seqItems oE rfl (wpAny_bind (wpAny_newTuple ?_)))
 refine wpAny_bind (m:=Builtin.SmallTypes.ownedTupleHandOut (.ref z) (.ref hE.objs.size)) ?_
 unfold Builtin.SmallTypes.ownedTupleHandOut
 have zF:IsZip (hE.push { cls:=.type "tuple",data:=.seq #[x,y] }) z TI TO .ellipsis:=Heap.get?_push_of_some _ zE
 refine wpAny_bind (wpAny_setField_rec zF (by simp) fun hG zG sG=>?_)
 replace zG:IsZip hG z TI TO (rawInt hE.objs.size):=zG
 refine wpAny_setField_rec zG (by simp) fun hI zI sI=>wpAny_pure ⟨_,rfl,?_⟩
 replace zI:IsZip hI z TI TO (rawInt hE.objs.size):=zI
 have up:∀ c o,c≠z->hE.get? c=some o->hI.get? c=some o:=fun c o c1 e=>sI.extBut _ _ c1 (sG.extBut _ _ c1 (Heap.get?_push_of_some _ e))
 have zl:hE.objs.size≠z:=Nat.ne_of_gt (Heap.lt_size zE)
 have tI:IsPair hI hE.objs.size x y:=sI.extBut _ _ zl (sG.extBut _ _ zl (Heap.get?_push_size _ rfl))
 show Q (.ref hE.objs.size) _
 rw [sz] at zI tI ⊢
 exact hQ x y hI tD px py zI (up _ _ Z.TOz oE) (D1.frame _ _ _ d1 fun c hc o e=>up c o (fun q=>Z.z1 (q ▸ hc)) e) (D2.frame _ _ _ d2 fun c hc o e=>up c o (fun q=>Z.z2 (q ▸ hc)) e) tI fun c o c1 c2 c3 c4 e=>up c o c1 (kE c o c1 c2 c3 c4 e)
theorem Zpe {Q : Fin → Shared → Prop} (Z : ZAp z TI TO i1 i2 f1 f2) (D1 : Draws prog w A i1 f1 n1 P1 S1) (hz : IsZip s.heap z TI TO .none) (hTI : IsPair s.heap TI (.ref i1) (.ref i2))
  (g1:S1 n1 s.heap)
  (hE:∀ h' e,(∀ c o,c≠z->c≠TO->c≠i1->c≠i2->s.heap.get? c=some o->h'.get? c=some o)->(∃ o,h'.get? e=some o∧o.cls=.type "StopIteration")->E (.ref e) { s with heap:=h' }) :
  wpAny (model prog w) A (Builtin.«zip.__next__» ⟨[.ref z],[]⟩) Q E s:=by
 unfold Builtin.«zip.__next__»
 refine wpAny_bind (m:=field (.ref z) 2) (wpAny_field hz rfl (x:=.bool false) rfl ?_)
 refine wpAny_bind (m:=field (.ref z) 3) (wpAny_field hz rfl (x:=.ref TI) rfl (wpAny_bind (wpAny_seqItems hTI rfl ?_)))
 refine wpAny_bind (m:=Builtin.SmallTypes.ownedTupleIsFree (.ref z)) ?_
 unfold Builtin.SmallTypes.ownedTupleIsFree
 refine wpAny_bind (wpAny_field hz rfl (x:=.none) rfl (wpAny_pure ?_))
 simp only [if_true]
 refine wpAny_bind (wpAny_rule (wpAny_bind (wpAny_field hz rfl (x:=.ref TO) rfl (wpAny_bind (wpAny_setField_rec hz (by simp) fun hA zA sA=>wpAny_bind ?_)))))
 replace zA:IsZip hA z TI TO .ellipsis:=zA
 simp only [List.zipIdx_cons,List.zipIdx_nil,List.forIn_cons,List.forIn_nil]
 refine wpAny_bind (wpAny_bind (wpAny_onRaise (wpAny_bind (m:=Builtin.SmallTypes.nextOf (.ref i1)) (D1.done _ _ _ (Draws.but D1 g1 sA.extBut Z.z1) fun hB e sB he=>?_))))
 obtain ⟨o,ho,c⟩:=he
 have zB:IsZip hB z TI TO .ellipsis:=sB _ _ Z.i1z.symm zA
 have ez:e≠z:=fun q=>by
  subst q
  rw [zB] at ho
  cases ho
  simp at c
 exact wpAny_setField_rec zB (by simp) fun hC _ sC=>hE hC e (fun c o c1 _ c3 _ q=>sC.extBut _ _ c1 (sB _ _ c3 (sA.extBut _ _ c1 q))) ⟨o,sC.extBut _ _ ez ho,c⟩
theorem Zm6 {Q : Option Value → Shared → Prop} (Z : ZAp z TI TO i1 i2 f1 f2) (D1 : Draws prog w A.in1 i1 f1 n1 P1 S1) (D2 : Draws prog w A.in1 i2 f2 n2 P2 S2) (hz : IsZip s.heap z TI TO .none) (hTI : IsPair s.heap TI (.ref i1) (.ref i2)) (hTO : IsPair s.heap TO a b)
  (g1:S1 k1 s.heap) (g2:S2 k2 s.heap) (l1:k1<n1) (l2:k2<n2)
  (hQ:∀ x y h' tk,P1 k1 x->P2 k2 y->IsZip h' z TI TO (rawInt s.heap.objs.size)->IsPair h' TO x y->S1 (k1+1) h'->S2 (k2+1) h'->IsPair h' s.heap.objs.size x y →
   (∀ c o,c≠z->c≠TO->c≠i1->c≠i2->s.heap.get? c=some o->h'.get? c=some o)->Q (some (.ref s.heap.objs.size)) { s with heap:=h',toks:=tk }) :
  wpAny (model prog w) A (pyNext (.ref z)) Q E s:=by
 have T:s.TypeIs (.ref z) "zip":=⟨_,hz,rfl⟩
 unfold pyNext
 exact wpAny_bind (wpAny_attempt (wpAny_callSpecial?_slot (name:=Str.ofString "__next__") T F.slot_zip_next (wpAny_call_entry F.slot_zip_next T F.entry_zip_next
  (Zps Z D1 D2 hz hTI hTO g1 g2 l1 l2 fun x y h' tk a1 a2 a3 a4 a5 a6 a7 a8=>wpAny_pure (hQ x y h' tk a1 a2 a3 a4 a5 a6 a7 a8)) (F.args_zip_next_1 _))))
theorem Zo6 {Q : Option Value → Shared → Prop} (Z : ZAp z TI TO i1 i2 f1 f2) (D1 : Draws prog w A.in1 i1 f1 n1 P1 S1) (hz : IsZip s.heap z TI TO .none) (hTI : IsPair s.heap TI (.ref i1) (.ref i2)) (g1 : S1 n1 s.heap)
  (hQ:∀ h',(∀ c o,c≠z->c≠TO->c≠i1->c≠i2->s.heap.get? c=some o->h'.get? c=some o)->Q none { s with heap:=h' }):wpAny (model prog w) A (pyNext (.ref z)) Q E s:=by
 have T:s.TypeIs (.ref z) "zip":=⟨_,hz,rfl⟩
 unfold pyNext
 refine wpAny_bind (wpAny_attempt (wpAny_callSpecial?_slot (name:=Str.ofString "__next__") T F.slot_zip_next (wpAny_call_entry F.slot_zip_next T F.entry_zip_next (Zpe Z D1 hz hTI g1 fun h' e k he=>?_) (F.args_zip_next_1 _))))
 obtain ⟨o,ho,c⟩:=he
 exact wpAny_bind (wpAny_isInstance (T:="StopIteration") (b:=true) ⟨o,ho,c⟩ isSubtype_stop (wpAny_pure (hQ _ k)))
end
section
variable {X:Cx} {pins:List (Addr × Obj)} {σ:St} {H:Hp} {s:Shared} {h':Heap}
theorem Inv.turnedAll {t':Nat} {ch:List Addr} (I:Inv X pins σ H s) (hf:∀ b∈ch,ZmA X pins H b) (k:∀ b o,b ∉ ch->s.heap.get? b=some o->h'.get? b=some o):Inv X pins σ H { s with heap:=h',toks:=t' }:=by
 have nit:∀ b u,H b=some u->b ∉ ch:=fun b u e z=>by rw [(hf b z).1] at e; cases e
 refine I.step (g':=s.gens) (d':=s.drawn) (ch:=ch) (fun b hb=>⟨(hf b hb).2.2.2.1,(hf b hb).2.1,(hf b hb).2.2.2.2⟩) (fun b o _ _ hc e _=>k b o hc e) (fun b o _ _ hc e _=>⟨o.slots,k b o hc e⟩) (fun _ _ _ _ n=>n)
  (fun b o hc e=>⟨o,k b o hc e⟩) (fun _ _ e=>e) (fun _ _ _ e=>e) (fun b ps e=>⟨#[],by rw [e]; simp⟩) (fun m hm=>?_) (fun b u e=>?_) I.bare
 ·obtain ⟨o,es,ep,ho,r⟩:=hm
  exact ⟨o,es,ep,k _ o (fun z=>(hf _ z).2.1 rfl) ho,r⟩
 ·refine (I.hok b u e).stay (fun c v hc q=>k c v ?_ q) (fun _ q=>q) fun _ _ q=>q
  rcases hc with z | z
  ·rw [z]; exact nit b u e
  ·exact nit c _ z
theorem Inv.turnedLaid {t' : Nat} {ch : List Addr} {T : Addr} {o : HO} (I : Inv X pins σ H s) (hf : ∀ b ∈ ch, ZmA X pins H b) (k : ∀ b o, b ∉ ch → s.heap.get? b=some o → h'.get? b=some o) (hp : s.heap.objs.size ≤ T) (new : ObjOk X.prog X.w (upd H T o) h' T o) :
  Inv X pins σ (upd H T o) { s with heap:=h',toks:=t' }:=by
 have nit:∀ b u,H b=some u->b ∉ ch:=fun b u e z=>by rw [(hf b z).1] at e; cases e
 have hn:=I.hok.fresh hp
 have up:∀ {b u},H b=some u->upd H T o b=some u:=fun {b u} e=>by rw [Zak (Zat e hn)]; exact e
 refine I.step (g':=s.gens) (d':=s.drawn) (ch:=ch) (fun b hb=>⟨(hf b hb).2.2.2.1,(hf b hb).2.1,(hf b hb).2.2.2.2⟩) (fun b o _ _ hc e _=>k b o hc e) (fun b o _ _ hc e _=>⟨o.slots,k b o hc e⟩) (fun b u _ e n=>?_)
  (fun b o hc e=>⟨o,k b o hc e⟩) (fun _ _ e=>up e) (fun _ _ _ e=>up e) (fun b ps e=>⟨#[],by rw [up e]; simp⟩) (fun m hm=>?_) (fun b u e=>?_) I.bare
 ·rw [Zak (fun z=>absurd (Heap.lt_size e) (by rw [z]; exact Nat.not_lt.mpr hp))]
  exact n
 ·obtain ⟨o,es,ep,ho,r⟩:=hm
  exact ⟨o,es,ep,k _ o (fun z=>(hf _ z).2.1 rfl) ho,r⟩
 ·by_cases hb:b=T
  ·subst hb
   rw [Zab] at e
   cases e
   exact new
  ·rw [Zak hb] at e
   refine (I.hok b u e).stay (fun c v hc q=>k c v ?_ q) (fun _ q=>up q) fun _ _ q=>up q
   rcases hc with z | z
   ·rw [z]; exact nit b u e
   ·exact nit c _ z
end
noncomputable def Itz (K:W.Frag) (a b:Addr):It :=
 ⟨fun i H => ∃ xs ys x y, SqT K H a xs ∧ SqT K H b ys ∧ xs[i]?=some x ∧ ys[i]?=some y,
  fun i H v H'=>∃ T x y,H T=none∧v=.ref T∧(∀ xs,SqT K H a xs->xs[i]?=some x)∧(∀ ys,SqT K H b ys->ys[i]?=some y)∧H'=upd H T (.tup [x,y]),
  fun i H=>∃ xs,SqT K H a xs∧xs.length=i⟩
def ZSt (z TI TO i1 i2 a b:Addr) (i:Nat) (h:Heap):Prop:=IsZip h z TI TO .none∧IsPair h TI (.ref i1) (.ref i2)∧(∃ u v,IsPair h TO u v)∧h.IsTupleIter i1 a i∧h.IsTupleIter i2 b i
theorem Zo7 {P : Program} {w : World} {K : W.Frag} {es : List Expr} {n : Nat} {pos : Pos} {z TI TO i1 i2 a b : Addr} (Z : ZAp z TI TO i1 i2 [i1, a] [i2, b]) (ha : a ≠ i1) (hb : b ≠ i2) :
  Turn P w K (.Tuple es n pos) (Itz K a b) [z,TI,TO,i1,i2] z (ZSt z TI TO i1 i2 a b) where
 mem:=by simp
 obj:=fun i h ⟨h1,h2,⟨u,v,h3⟩,⟨o4,h4,_,d4⟩,⟨o5,h5,_,d5⟩⟩ c hc=>by
  simp only [List.mem_cons,List.not_mem_nil,or_false] at hc
  rcases hc with rfl | rfl | rfl | rfl | rfl
  ·exact ⟨_,h1,fun v q=>by cases q⟩
  ·exact ⟨_,h2,fun v q=>by cases q⟩
  ·exact ⟨_,h3,fun v q=>by cases q⟩
  ·exact ⟨_,h4,fun v q=>by rw [d4] at q; cases q⟩
  ·exact ⟨_,h5,fun v q=>by rw [d5] at q; cases q⟩
 keep:=fun i h h' ⟨h1,h2,⟨u,v,h3⟩,⟨o4,h4,r4⟩,⟨o5,h5,r5⟩⟩ k =>
  ⟨k _ (by simp) _ h1,k _ (by simp) _ h2,⟨u,v,k _ (by simp) _ h3⟩,⟨o4,k _ (by simp) _ h4,r4⟩,⟨o5,k _ (by simp) _ h5,r5⟩⟩
 item:=by
  intro X hP hw hK hc i pins s σ H E I hf ⟨h1,h2,⟨u,v,h3⟩,h4,h5⟩ ⟨xs,ys,x,y,qa,qb,ex,ey⟩
  subst hP hw hK
  obtain ⟨as,ra,ta,la⟩:=I.tuple qa
  obtain ⟨bs,rb,tb,lb⟩:=I.tuple qb
  have hh:X.A.in1.handled=none:=I.ok.hd hc
  have la':=ra.length
  have lb':=rb.length
  have lx:i<as.toArray.size:=by
   have:=(List.getElem?_eq_some_iff.mp ex).1
   simp only [List.size_toArray]; omega
  have ly:i<bs.toArray.size:=by
   have:=(List.getElem?_eq_some_iff.mp ey).1
   simp only [List.size_toArray]; omega
  refine Zm6 Z (ZeO hh i1 a ha as.toArray) (ZeO hh i2 b hb bs.toArray) h1 h2 h3 ⟨h4,ta⟩ ⟨h5,tb⟩ lx ly fun u1 u2 h' tk p1 p2 z1 o1 g1 g2 t1 k=>?_
  refine ⟨_,rfl,wpAny_letOwnedTupleGo_zip z1 fun h'' z2 sb=>?_⟩
  have lz:z<s.heap.objs.size:=Heap.lt_size h1
  have nz:s.heap.objs.size≠z:=Nat.ne_of_gt lz
  obtain ⟨v1,e1,r1⟩:=ra.get ex
  obtain ⟨v2,e2,r2⟩:=rb.get ey
  have q1:v1=u1:=by
   have p:as[i]?=some u1:=by simpa using p1
   rw [e1] at p
   exact Option.some.inj p
  have q2:v2=u2:=by
   have p:bs[i]?=some u2:=by simpa using p2
   rw [e2] at p
   exact Option.some.inj p
  subst q1 q2
  have kk:∀ c o,c ∉ [z,TI,TO,i1,i2]->s.heap.get? c=some o->h''.get? c=some o:=fun c o hc e=>by
   simp only [List.mem_cons,List.not_mem_nil,or_false,not_or] at hc
   exact sb.extBut _ _ hc.1 (k c o hc.1 hc.2.2.1 hc.2.2.2.1 hc.2.2.2.2 e)
  have tt:IsPair h'' s.heap.objs.size v1 v2:=sb.extBut _ _ nz t1
  have I':=I.turnedLaid (t':=tk) (o:=.tup [x,y]) hf kk (Nat.le_refl _) (show ObjOk X.prog X.w _ h'' _ (.tup [x,y]) from ⟨Zao (by simp),[v1,v2],.cons r1 (.cons r2 .nil),⟨_,tt,rfl,_,rfl⟩⟩)
  refine ⟨.ref s.heap.objs.size,_,I',rfl,⟨s.heap.objs.size,x,y,I.hok.fresh (Nat.le_refl _),rfl,fun zs hz=>by rw [I.tuple_inj hz qa]; exact ex,fun zs hz=>by rw [I.tuple_inj hz qb]; exact ey,rfl⟩,?_,fun c hc=>?_⟩
  ·exact ⟨z2,sb.extBut _ _ Z.TIz (k _ _ Z.TIz Z.TITO Z.TIi1 Z.TIi2 h2),⟨_,_,sb.extBut _ _ Z.TOz o1⟩,g1.1.extBut sb.extBut Z.i1z,g2.1.extBut sb.extBut Z.i2z⟩
  ·have hlt:c<s.heap.objs.size:=by
    simp only [List.mem_cons,List.not_mem_nil,or_false] at hc
    obtain ⟨o4,e4,_⟩:=h4
    obtain ⟨o5,e5,_⟩:=h5
    rcases hc with rfl | rfl | rfl | rfl | rfl
    ·exact lz
    ·exact Heap.lt_size h2
    ·exact Heap.lt_size h3
    ·exact Heap.lt_size e4
    ·exact Heap.lt_size e5
   rw [Zak (Nat.ne_of_lt hlt)]
   exact (hf c hc).1
 done:=by
  intro X hP hw hK hc i pins s σ H E I hf ⟨h1,h2,⟨u,v,h3⟩,h4,h5⟩ ⟨xs,qa,hl⟩
  subst hP hw hK
  obtain ⟨as,ra,ta,la⟩:=I.tuple qa
  have hh:X.A.in1.handled=none:=I.ok.hd hc
  have e:i=as.toArray.size:=by
   have:=ra.length
   simp only [List.size_toArray]; omega
  subst e
  refine Zo6 (f2:=[i2,b]) Z (ZeO hh i1 a ha as.toArray) h1 h2 ⟨h4,ta⟩ fun h' k=>⟨rfl,I.turnedAll (t':=s.toks) hf fun c o hc e=>?_⟩
  simp only [List.mem_cons,List.not_mem_nil,or_false,not_or] at hc
  exact k c o hc.1 hc.2.2.1 hc.2.2.2.1 hc.2.2.2.2 e
 self:=fun _ _ _ _ _ st h=>wpAny_pyIter_zip st.1 h
theorem ZoD {prog : Program} {w : World} {A : Around} {E : Value → Shared → Prop} {s : Shared} {a b : Addr} {us vs : Array Value} {Q : Value → Shared → Prop} (ha : s.heap.IsTuple a us) (hb : s.heap.IsTuple b vs)
  (h:∀ h',ZSt (s.heap.objs.size+4) (s.heap.objs.size+2) (s.heap.objs.size+3) s.heap.objs.size (s.heap.objs.size+1) a b 0 h'->(∀ c o,s.heap.get? c=some o->h'.get? c=some o)->Q (.ref (s.heap.objs.size+4)) { s with heap:=h' }) :
  wpAny (model prog w) A (call (.type "zip") [.ref a,.ref b]) Q E s:=by
 let H1:Heap:=s.heap.push { cls:=.type "tuple_iterator",data:=.fields #[.ref a,.int 0 0] }
 let H2:Heap:=H1.push { cls:=.type "tuple_iterator",data:=.fields #[.ref b,.int 0 0] }
 let H3:Heap:=H2.push { cls:=.type "tuple",data:=.seq #[.ref s.heap.objs.size,.ref H1.objs.size] }
 let H4:Heap:=H3.push { cls:=.type "tuple",data:=.seq #[.none,.none] }
 let H5:Heap:=H4.push { cls:=.type "zip",data:=.fields #[.none,.bool false,.bool false,.ref H2.objs.size,.ref H3.objs.size] }
 have m:Meets (Builtin.«zip.__new__» ⟨[.type "zip",.ref a,.ref b],[]⟩) (fun _ R s1=>s1=s∧R (.ok (.ret (.ref H4.objs.size))) { s with heap:=H5 }):=.of_wp fun prog w A R s1 hR=>by
  obtain ⟨rfl,hR⟩:=hR
  obtain ⟨hp,g,d,tk,os⟩:=s1
  have hsub:=sub_zip
  have hL1:Heap.IsTuple (Shared.heap ⟨hp,g,d,tk,os⟩) a us:=ha
  have hL2:Heap.IsTuple (Shared.heap ⟨hp.push { cls:=.type "tuple_iterator",data:=.fields #[.ref a,.int 0 0] },g,d,tk,os⟩) b vs:=Heap.IsTuple.push hb _
  wp_walk using wpAny_pyIter_tuple hL1,wpAny_pyIter_tuple hL2
  exact ⟨_,rfl,hR⟩
 refine callType_new F.called_zip (by decide) (F.typeCall_zip_2 _ _) (F.newCall_zip_2 _ _) (fun obj=>F.args_object_init_3 obj _ _) F.entry_zip_new m ⟨rfl,?_⟩
 have z1:H1.objs.size=s.heap.objs.size+1:=Heap.size_push ..
 have z2:H2.objs.size=s.heap.objs.size+2:=by rw [Heap.size_push,z1]
 have z3:H3.objs.size=s.heap.objs.size+3:=by rw [Heap.size_push,z2]
 have z4:H4.objs.size=s.heap.objs.size+4:=by rw [Heap.size_push,z3]
 have up5:∀ c o,H4.get? c=some o->H5.get? c=some o:=fun c o e=>Heap.get?_push_of_some _ e
 have up4:∀ c o,H3.get? c=some o->H5.get? c=some o:=fun c o e=>up5 c o (Heap.get?_push_of_some _ e)
 have up3:∀ c o,H2.get? c=some o->H5.get? c=some o:=fun c o e=>up4 c o (Heap.get?_push_of_some _ e)
 have up2:∀ c o,H1.get? c=some o->H5.get? c=some o:=fun c o e=>up3 c o (Heap.get?_push_of_some _ e)
 have g5:H5.get? H4.objs.size=some _:=Heap.get?_push_size _ rfl
 have g4:H5.get? H3.objs.size=some _:=up5 _ _ (Heap.get?_push_size _ rfl)
 have g3:H5.get? H2.objs.size=some _:=up4 _ _ (Heap.get?_push_size _ rfl)
 have g2:H5.get? H1.objs.size=some _:=up3 _ _ (Heap.get?_push_size _ rfl)
 have g1:H5.get? s.heap.objs.size=some _:=up2 _ _ (Heap.get?_push_size _ rfl)
 show _∧_
 rw [z4,z2,z3] at g5
 rw [z3] at g4
 rw [z2,z1] at g3
 rw [z1] at g2
 rw [z4]
 exact ⟨⟨_,g5,rfl⟩,h H5 ⟨g5,g3,⟨_,_,g4⟩,⟨_,g1,rfl,rfl⟩,⟨_,g2,rfl,rfl⟩⟩ fun c o e=>up2 c o (Heap.get?_push_of_some _ e)⟩
theorem ZrD:bootBuiltins "zip"=some (.type "zip"):=by decide +kernel
theorem Znw:bootBuiltins "all"=some (.builtin "all"):=by decide +kernel
theorem ZqL {c x y:Nat} (h1:c≠x) (h2:c≠y):c ∉ [x,y]:=fun z=>by
 rcases List.mem_cons.mp z with z | z
 ·exact h1 z
 ·exact h2 (by simpa using z)
theorem Zrt {m a b:Nat} (la:a<m) (lb:b<m):ZAp (m+4) (m+2) (m+3) m (m+1) [m,a] [m+1,b] where
 TIz:=(by omega:(m+2:Nat)≠m+4)
 TOz:=(by omega:(m+3:Nat)≠m+4)
 i1z:=(by omega:(m:Nat)≠m+4)
 i2z:=(by omega:(m+1:Nat)≠m+4)
 TITO:=(by omega:(m+2:Nat)≠m+3)
 TIi1:=(by omega:(m+2:Nat)≠m)
 TIi2:=(by omega:(m+2:Nat)≠m+1)
 TOi1:=(by omega:(m+3:Nat)≠m)
 TOi2:=(by omega:(m+3:Nat)≠m+1)
 i12:=(by omega:(m:Nat)≠m+1)
 z1:=ZqL (by omega) (by omega)
 z2:=ZqL (by omega) (by omega)
 o1:=ZqL (by omega) (by omega)
 o2:=ZqL (by omega) (by omega)
 b1:=ZqL (by omega) (by omega)
 b2:=ZqL (by omega) (by omega)
section
variable {X:Cx}
def Zte (K:W.Frag) (ta:TA):TI:=fun σ H R=>ta σ H fun vs H1=>∃ a b,vs=[.ref a,.ref b]∧(∃ xs,SqT K H1 a xs)∧(∃ ys,SqT K H1 b ys)∧R (Itz K a b) H1
theorem Zq8 (K : W.Frag) {e1 e2 : Expr} {ta : TA} {p pos pos' : Pos} {es : List Expr} {n : Nat} (hg : Gl X "zip") (hm : X.mg "zip"=none) (ha : PA X [e1, e2] ta) (hK : X.K=K := by rfl)
  (hs:starEach [e1,e2] X.env=(false,eval e1 X.env) :: starEach [e2] X.env:=by rfl) (hpl:(backTo pos (starEach [e2] X.env)).any (·.1)=false:=by rfl):PI X (.Tuple es n pos') (.Call (.Name "zip" p) [e1,e2] [] pos) (Zte K ta):=by
 subst hK
 intro pins s σ H R I h
 refine wpAny_Call_Name_kw (Zkd I hg hm ZrD (PyProof.Rows.callWith_type1 (thn (ha pos pins s σ H _ I h) fun us s1 ⟨vs,H1,I1,r1,q1⟩=>?_) hs hpl))
 obtain ⟨a,b,e,⟨xs,qa⟩,⟨ys,qb⟩,q⟩:=q1
 subst e
 obtain ⟨u,v,rfl,ra,rb⟩:=ZmL r1
 cases (show u=Value.ref a from ra)
 cases (show v=Value.ref b from rb)
 obtain ⟨as,ka,ta',_⟩:=I1.tuple qa
 obtain ⟨bs,kb,tb',_⟩:=I1.tuple qb
 have la:a<s1.heap.objs.size:=by obtain ⟨o,e,_⟩:=ta'; exact Heap.lt_size e
 have lb:b<s1.heap.objs.size:=by obtain ⟨o,e,_⟩:=tb'; exact Heap.lt_size e
 refine ZoD ta' tb' fun h' st k=>wpAny_pyIter_zip st.1 ?_
 have Z:=Zrt la lb
 refine ⟨s1.heap.objs.size+4,_,_,_,H1,rfl,I1.kept (t':=s1.toks) k,Zo7 Z (Nat.ne_of_lt la) (Nat.ne_of_lt (Nat.lt_succ_of_lt lb)),st,fun c hc=>?_,q⟩
 have hle:s1.heap.objs.size≤c:=by
  simp only [List.mem_cons,List.not_mem_nil,or_false] at hc
  rcases hc with rfl | rfl | rfl | rfl | rfl
  ·exact Nat.le_add_right _ 4
  ·exact Nat.le_add_right _ 2
  ·exact Nat.le_add_right _ 3
  ·exact Nat.le_refl _
  ·exact Nat.le_add_right _ 1
 have e:=I1.fpOk hle (I1.hok.fresh hle)
 exact e
theorem ZkR {P:Program} {w:World} {A:Around} {bs:List Bool} {us:List Value} (r:Vals (bs.map V.bl) us):TruthOf P w A (fun i v=>us.toArray[i]?=some v) (fun i=>bs.getD i false):=by
 intro i v s Q E e q
 have e':us[i]?=some v:=by simpa using e
 have hl:=r.length
 rw [List.length_map] at hl
 have lt:i<bs.length:=by
  have:=(List.getElem?_eq_some_iff.mp e').1
  omega
 obtain ⟨u,e2,r2⟩:=r.get (i:=i) (x:=V.bl bs[i]) (by simp [lt])
 rw [e'] at e2
 cases e2
 cases (show v=Value.bool bs[i] from r2)
 have z:bs.getD i false=bs[i]:=by simp [List.getD,lt]
 exact wpAny_truthy_bool (by rw [← z]; exact q)
theorem Zj9:∀ bs:List Bool,((List.range bs.length).all fun i=>bs.getD i false)=bs.all id
 | []=>rfl
 | b :: bs=>by
  rw [List.length_cons,List.range_succ_eq_map,List.all_cons,List.all_map,List.all_cons,← Zj9 bs]
  rfl
theorem Zi2 (hc:X.calm=true):Zdd X (.builtin "all") (fun xs H Q=>∃ (a:Addr) (bs:List Bool),xs=[.ref a]∧H a=some (.lst (bs.map V.bl))∧Q (.bl (bs.all id)) H):=by
 intro pins s σ H xs us Q I r h
 obtain ⟨a,bs,rfl,q,hq⟩:=h
 obtain ⟨u,rfl,ru⟩:=ZfJ r
 cases (show u=Value.ref a from ru)
 obtain ⟨its,rv,pl,hz⟩:=I.list (.inl (.inl q))
 have lt:a<s.heap.objs.size:=by obtain ⟨o,e,_⟩:=pl.isList; exact Heap.lt_size e
 have hl:=rv.length
 rw [List.length_map] at hl
 refine call_all_walk (wpAny_pyIter_list pl.isList ⟨s.heap.objs.size,_,_,_,_,_,_,rfl,Walks.list (show X.A.in1.handled=none from I.ok.hd hc) _ a (Nat.ne_of_lt lt) its.toArray,⟨⟨_,Heap.get?_push_size _ rfl,rfl,rfl⟩,pl.isList.push _⟩,ZkR rv,fun h' tk k=>?_⟩)
 rw [List.size_toArray,← hl,Zj9]
 exact ⟨.bl _,H,I.kept (t':=tk) fun b o e=>k b o (fun z=>absurd (Heap.lt_size e) (by rw [show b=s.heap.objs.size by simpa using z]; exact Nat.lt_irrefl _)) (Heap.get?_push_of_some _ e),rfl,hq⟩
def ZrA (X:Cx) (CX:CXT) (Fam:Addr->Sp->Prop):Prop:=∀ f sp,Fam f sp->∃ k fd ps,FnOk X.prog X.w X.K X.mg X.base CX k f fd ps sp∧Room k X.A∧W.keepIn X.K (.ref f)=true∧Binds X.K fd ps []
def Zrg (Fam:Addr->Sp->Prop) (i:Nat) (E:XK) (t:TA):TE:=fun σ H Q=>∃ f sp,σ[i]?=some (some (.ref f))∧Fam f sp∧t σ H fun vs H1=>sp vs H1 Q E
theorem Zpm {CX : CXT} {Fam : Addr → Sp → Prop} {E : XK} {i : Nat} {x : Str} {p pos : Pos} {e : Expr} {es : List Expr} {t : TA} (F : ZrA X CX Fam) (hN : X.N[i]?=some x) (hv : Vis X.env.scope x) (hx : ZpV CX X E) (ha : PA X (e :: es) t)
  (hd:(x == ("__debug__" : Str))=false:=by decide) (hcd:(x == ("__classdict__" : Str))=false:=by decide)
  (he:starEach (e :: es) X.env=(false,eval e X.env) :: starEach es X.env:=by rfl) (hpl:(backTo pos (starEach es X.env)).any (·.1)=false:=by rfl):PE X (.Call (.Name x p) (e :: es) [] pos) (Zrg Fam i E t):=by
 intro pins s σ H Q I h
 obtain ⟨f,sp,e1,hF,q⟩:=h
 obtain ⟨k,fd,ps,Fn,hr,hk,hb⟩:=F f sp hF
 refine wpAny_Call_Name_kw (thn (ZpM hN hv hd hcd pins s σ H (fun v H'=>v=.ref f∧H'=H) I ⟨_,e1,rfl,rfl⟩) fun u s1 ⟨v,H1,I1,r1,e2,e3⟩=>?_)
 subst e2 e3
 cases (show u=Value.ref f from r1)
 refine W.callWith_K (h₀:=X.base) I1.ok.mod.kin hk (thn (ha pos pins s1 σ H1 _ I1 q) fun us s2 ⟨vs,H2,I2,r2,q2⟩=>⟨I2.kIn,?_⟩) he hpl
 exact Zrm Fn hr hb .nil hx I2 r2 (by rw [List.append_nil]; exact q2)
end
section
variable {X:Cx} {tg l:Expr} {tl:TE} (K:W.Frag) (hK:X.K=K)
include hK
theorem ZoM:IxR X (Zst K):=by subst hK; exact Zbb
theorem ZgF:IxR X (ZsG K):=by subst hK; exact Zan
theorem Zqy (hu:X.A.units+64<cLine):OpR X (compareOp .Eq) (ZsA K id):=by subst hK; exact Zje hu
theorem Zop:Zdd X (.builtin "len") (fun xs H Q=>∃ p ys,xs=[.ref p]∧(SqL K H p ys∨SqT K H p ys)∧Q (.int ys.length) H):=by subst hK; exact ZaX
end
theorem Zp6 {X : Cx} (K : W.Frag) {es : List Expr} {k : Nat} {t : TGs} {n : Nat} {pos : Pos} (hc : X.calm=true) (h : PGs X es t) (hK : X.K=K := by rfl)
  (hn:(assignEach es X.env).length=n:=by rfl) (hst:(assignEach es X.env).findIdx? (·.1)=none:=by rfl):PG X (.Tuple es k pos) (ZsF K n t):=by
 subst hK
 exact Znv hc h hn hst
theorem Zh9 {J : It} {σ0 : St} {g : TG} {te : TE} {Q : VK} {H1 : Hp} (out : List V) (hn : out.length<sizeLine) (σP : St → Prop) (h0 : σP σ0)
  (go:∀ i H,i<out.length->Same H1 H->J.go i H) (stop:∀ H,Same H1 H->J.stop out.length H)
  (step:∀ i σ H x H' y,out[i]?=some y->σP σ->Same H1 H->J.yld i H x H'->∀ C:V->St->Hp->Prop,(∀ σ2 H6,σP σ2->Same H H6->C y σ2 H6)->g x σ H' fun σ2 H4=>te σ2 H4 fun y' H6=>C y' σ2 H6)
  (fin:∀ D H',H1 D=none->Same H1 H'->H' D=some (.lst out)->Q (.ref D) H'):Zpp J σ0 g Zsr te Q H1:=by
 intro D hD
 have keep:∀ {H:Hp} {o:HO},Same H1 H->Same H1 (upd H D o):=fun {H o} e b u q=>by
  rw [Zak (Zat q hD)]
  exact e b u q
 refine ⟨fun i m σ ys H=>i≤out.length∧m=out.length-i∧σP σ∧ys=out.take i∧H D=some (.lst ys)∧Same H1 H,⟨_,Nat.zero_le _,rfl,h0,rfl,Zab,keep (Same.refl H1)⟩,?_⟩
 rintro i m σ ys H ⟨hi,rfl,p,rfl,hd,sm⟩
 refine ⟨hd,?_⟩
 by_cases lt:i<out.length
 ·refine .inr ⟨go i H lt sm,fun σ2 ys2 H3=>σP σ2∧ys2=out.take (i+1)∧H3 D=some (.lst ys2)∧Same H1 H3,fun σ2 ys2 H3 ⟨a,b,c,d⟩=>⟨_,by omega,lt,rfl,a,b,c,d⟩,fun x H3 y=>?_⟩
  have e:out[i]?=some out[i]:=by simp [lt]
  refine step i σ H x H3 out[i] e p sm y (fun y' σ2 H6=>H6 D=some (.lst (out.take i))∧(out.take i).length<sizeLine∧σP σ2∧out.take i++[y']=out.take (i+1)∧upd H6 D (.lst (out.take i++[y'])) D=some (.lst (out.take i++[y']))∧Same H1 (upd H6 D (.lst (out.take i++[y'])))) fun σ2 H6 p2 s6=>?_
  exact ⟨s6 _ _ hd,by rw [List.length_take]; omega,p2,by rw [List.take_add_one,e]; rfl,Zab,keep (sm.trans s6)⟩
 ·have e:i=out.length:=by omega
  subst e
  rw [List.take_length] at hd
  exact .inl ⟨stop H sm,fin D H hD sm hd⟩
section
variable {K:W.Frag} {H:Hp} {xs ys:List V} {a b:Addr} {Q:VK}
end
noncomputable def Zr8 (js:List (Option Nat)) (σ:St):St:=js.map fun o=>match o with | none=>none | some j=>(σ[j]?).getD none
noncomputable def ZrQ (fr:List Str) (cells:List (Str × Addr)):List (Str × Addr):=fr.filterMap fun x=>(cells.lookup x).map fun c=>(x,c)
noncomputable def Zr5 (js:List (Option Nat)) (N M:List Str) (inn out:List (Str × NameKind)):Bool :=
 (js.zip N).all fun p=>match p.1 with
  | none=>true
  | some j=>(M[j]? == some p.2)&&((inn.lookup p.2 == some .cell)||(inn.lookup p.2 == some .free))&&((out.lookup p.2 == some .cell)||(out.lookup p.2 == some .free))
theorem Zn2 {L:List (Str × NameKind)} {x:Str} (h:((L.lookup x == some NameKind.cell)||(L.lookup x == some NameKind.free))=true):L.lookup x=some .cell∨L.lookup x=some .free:=by
 rw [Bool.or_eq_true] at h
 rcases h with h | h
 ·exact .inl (eq_of_beq h)
 ·exact .inr (eq_of_beq h)
theorem Zlf {fr:List Str} {cells:List (Str × Addr)} {x:Str} (h:x∈fr) (e:(cells.lookup x).isSome=true):∃ c,(ZrQ fr cells).lookup x=some c:=by
 obtain ⟨c,hc⟩:=Option.isSome_iff_exists.mp e
 induction fr with
 | nil=>cases h
 | cons y r ih =>
  unfold ZrQ
  rw [List.filterMap_cons]
  by_cases q:y=x
  ·subst q
   rw [hc]
   exact ⟨c,by simp⟩
  ·have hr:x∈r:=by
    rcases List.mem_cons.mp h with z | z
    ·exact absurd z.symm q
    ·exact z
   cases e2:cells.lookup y with
   | none=>exact ih hr
   | some d =>
    obtain ⟨c',hc'⟩:=ih hr
    refine ⟨c',?_⟩
    show List.lookup x ((y,d) :: ZrQ r cells)=some c'
    rw [List.lookup_cons,beq_eq_false_iff_ne.mpr (Ne.symm q)]
    exact hc'
theorem ZcW {X : Cx} {N : List Str} {sc : Scope} (fr : List Str) (js : List (Option Nat)) (hk : sc.kind=.function) (hn : ∀ x ∈ sc.names, x.2=.local → sc.names.lookup x.1=some .local) (hc : ∀ y ∈ sc.names, y.2 ≠ .cell)
  (clos:closureFor sc X.env=pure (ZrQ fr X.env.cells)) (hall:(fr.all fun x=>(X.env.cells.lookup x).isSome)=true)
  (hhas:((relabel sc X.env).names.all fun y=>(y.2 != .cell&&y.2 != .free)||fr.contains y.1)=true) (hl:js.length=N.length) (hcap:Zr5 js N X.N (relabel sc X.env).names X.env.scope.names=true) :
  CompSc X N sc (ZrQ fr X.env.cells) (Zr8 js):=by
 have lk:∀ (x:Str) (M:List (Str × NameKind)) (k:NameKind),M.lookup x=some k->(x,k)∈M:=fun x M k h=>PySem.mem_of_lookup h
 refine ⟨hk,hn,hc,clos,fun x c h=>?_,fun x h=>?_,fun σ=>?_,fun σ i x v e1 e2=>?_⟩
 ·have m:=PySem.mem_of_lookup h
  obtain ⟨y,_,e⟩:=List.mem_filterMap.mp m
  obtain ⟨d,hd,e'⟩:=Option.map_eq_some_iff.mp e
  cases e'
  exact hd
 ·have hm:x∈fr:=by
   rcases h with h | h <;>
   ·have q:=List.all_eq_true.mp hhas _ (lk x _ _ h)
    rw [Bool.or_eq_true] at q
    rcases q with q | q
    ·simp at q
    ·simpa using q
  exact Zlf hm (List.all_eq_true.mp hall x hm)
 ·unfold Zr8
  rw [List.length_map,hl]
 ·unfold Zr8 at e2
  rw [List.getElem?_map] at e2
  obtain ⟨o,ho,e2⟩:=Option.map_eq_some_iff.mp e2
  cases o with
  | none=>cases e2
  | some j =>
   have hz:(some j,x)∈js.zip N:=by
    refine List.mem_iff_getElem?.mpr ⟨i,?_⟩
    rw [List.getElem?_zip_eq_some]
    exact ⟨ho,e1⟩
   have q:=List.all_eq_true.mp hcap _ hz
   simp only [Bool.and_eq_true] at q
   refine ⟨Zn2 q.1.2,Zn2 q.2,j,eq_of_beq q.1.1,?_⟩
   replace e2:(σ[j]?).getD none=some v:=e2
   cases e3:σ[j]? with
   | none=>rw [e3] at e2; cases e2
   | some o'=>rw [e3] at e2; rw [show o'=some v from e2]
theorem Zde {J : It} {σ0 : St} {g : TG} {tt : TT} {te : TE} {Q : VK} {H1 : Hp} (ZcT : List (Option V)) (hn : ZcT.length<sizeLine) (σP : St → Prop) (h0 : σP σ0)
  (go:∀ i H,i<ZcT.length->Same H1 H->J.go i H) (stop:∀ H,Same H1 H->J.stop ZcT.length H)
  (step:∀ i σ H x H' o,ZcT[i]?=some o->σP σ->Same H1 H->J.yld i H x H'->∀ C:Option V->St->Hp->Prop,(∀ σ2 H6,σP σ2->Same H H6->C o σ2 H6)->g x σ H' fun σ2 H4=>tt σ2 H4 fun c H5=>if c=true then te σ2 H5 fun y' H6=>C (some y') σ2 H6 else C none σ2 H5)
  (fin:∀ D H',H1 D=none->Same H1 H'->H' D=some (.lst (ZcT.filterMap id))->Q (.ref D) H'):Zpp J σ0 g tt te Q H1:=by
 intro D hD
 have keep:∀ {H:Hp} {o:HO},Same H1 H->Same H1 (upd H D o):=fun {H o} e b u q=>by
  rw [Zak (Zat q hD)]
  exact e b u q
 have fl:∀ i,((ZcT.take i).filterMap id).length≤ZcT.length:=fun i=>Nat.le_trans (List.length_filterMap_le _ _) (by rw [List.length_take]; omega)
 refine ⟨fun i m σ ys H=>i≤ZcT.length∧m=ZcT.length-i∧σP σ∧ys=(ZcT.take i).filterMap id∧H D=some (.lst ys)∧Same H1 H,⟨_,Nat.zero_le _,rfl,h0,rfl,Zab,keep (Same.refl H1)⟩,?_⟩
 rintro i m σ ys H ⟨hi,rfl,p,rfl,hd,sm⟩
 refine ⟨hd,?_⟩
 by_cases lt:i<ZcT.length
 ·refine .inr ⟨go i H lt sm,fun σ2 ys2 H3=>σP σ2∧ys2=(ZcT.take (i+1)).filterMap id∧H3 D=some (.lst ys2)∧Same H1 H3,fun σ2 ys2 H3 ⟨a,b,c,d⟩=>⟨_,by omega,lt,rfl,a,b,c,d⟩,fun x H3 y=>?_⟩
  have e:ZcT[i]?=some ZcT[i]:=by simp [lt]
  have tk:(ZcT.take (i+1)).filterMap id=(ZcT.take i).filterMap id++ZcT[i].toList:=by
   rw [List.take_add_one,e]
   simp only [Option.toList_some,List.filterMap_append]
   cases ZcT[i] <;> rfl
  refine step i σ H x H3 ZcT[i] e p sm y (fun o σ2 H6=>match o with
   | some y'=>H6 D=some (.lst ((ZcT.take i).filterMap id))∧((ZcT.take i).filterMap id).length<sizeLine∧σP σ2∧(ZcT.take i).filterMap id++[y']=(ZcT.take (i+1)).filterMap id∧upd H6 D (.lst ((ZcT.take i).filterMap id++[y'])) D=some (.lst ((ZcT.take i).filterMap id++[y']))∧Same H1 (upd H6 D (.lst ((ZcT.take i).filterMap id++[y'])))
   | none=>σP σ2∧(ZcT.take i).filterMap id=(ZcT.take (i+1)).filterMap id∧H6 D=some (.lst ((ZcT.take i).filterMap id))∧Same H1 H6) fun σ2 H6 p2 s6=>?_
  rw [tk]
  cases hg:ZcT[i] with
  | none=>exact ⟨p2,by simp,s6 _ _ hd,sm.trans s6⟩
  | some y'=>exact ⟨s6 _ _ hd,Nat.lt_of_le_of_lt (fl i) hn,p2,by simp,Zab,keep (sm.trans s6)⟩
 ·have e:i=ZcT.length:=by omega
  subst e
  rw [List.take_length] at hd
  exact .inl ⟨stop H sm,fin D H hD sm hd⟩
end L2
namespace RevF
open PySem PySem.Spec PyProof.Rows
section
variable {prog:Program} {w:World} {A:Around} {E:Value->Shared->Prop} {s:Shared} {a it:Addr} {us:Array Value}
end
end RevF
namespace L2
open PySem PySem.Spec PyProof.Rows
section
variable {X:Cx}
end
section
variable {prog:Program} {w:World} {A:Around} {E:Value->Shared->Prop} {s:Shared}
theorem ZeA {t sl : Addr} {items : Array Value} {vl vu : Value} {lo hi : Option Int} {Q : Value → Shared → Prop} (ht : IsTup s.heap t items) (hs : s.heap.IsSliceOf sl vl vu .none) (pl : IsPart vl lo) (pu : IsPart vu hi)
  (hw:HT.sIx items.size 0 lo=0∧HT.sIx items.size items.size hi=items.size) (h:Q (.ref t) s):wpAny (model prog w) A (getItem (.ref t) (.ref sl)) Q E s:=by
 obtain ⟨os,hos,hcs,hds⟩:=id hs
 have hTs:s.TypeIs (.ref sl) "slice":=⟨os,hos,hcs⟩
 unfold getItem
 try with_reducible refine wpAny_holding ?_
 first | refine wpAny_bind (wpAny_pure ?_) | skip
 refine wpAny_bind (wpAny_sequenceKey ht.typeIs (by decide) ?_)
 refine wpAny_bind (wpAny_callSpecial?_slot (name:=Str.ofString "__getitem__") ht.typeIs PyProof.Rows.slot_tuple_getitem
  (wpAny_call_entry PyProof.Rows.slot_tuple_getitem ht.typeIs entry_tuple_getitem ?_ (args_tuple_getitem _ _)))
 show wpAny _ _ (Builtin.Tuple.tupleItemsOf (.ref t) >>= _) _ _ s
 refine wpAny_bind (tupleItemsOf_ ht ?_)
 refine wpAny_bind (wpAny_typeOf hTs ?_)
 rw [if_pos (by decide)]
 refine wpAny_bind (HT.sliceApplied_gen hs pl pu ?_)
 show wpAny _ _ (if (((HT.sIx items.size 0 lo:Nat):Int) == 0&&(1:Int) == 1&&(HT.sIx items.size items.size hi-HT.sIx items.size 0 lo) == items.size)=true then _ else _) _ _ s
 rw [if_pos (by rw [hw.1,hw.2]; simp)]
 refine wpAny_bind (m:=Builtin.Tuple.tupleIsExact _) ?_
 unfold Builtin.Tuple.tupleIsExact
 refine wpAny_bind (wpAny_typeOf ht.typeIs (wpAny_pure ?_))
 rw [if_pos (by decide)]
 exact wpAny_bind (wpAny_rule (wpAny_pure ⟨_,rfl,wpAny_pure h⟩))
end
def ZqQ (K:W.Frag):V->Option Int->Option Int->Hp->VK->Prop:=fun x lo hi H Q=>∃ a xs,x=.ref a∧SqT K H a xs∧∀ H' p,Same H H'->SqT K H' p (Zi6 xs lo hi)->Q (.ref p) H'
theorem Zmq {xs:List V} {lo hi:Option Int} (h1:HT.sIx xs.length 0 lo=0) (h2:HT.sIx xs.length xs.length hi=xs.length):Zi6 xs lo hi=xs:=by
 unfold Zi6
 rw [h1,h2]
 simp
section
variable {X:Cx}
theorem ZfA:SlR X (ZqQ X.K):=by
 intro pins s σ H x v vl vu lo hi sl Q I rx hs pl pu h
 obtain ⟨a,xs,rfl,hx,q⟩:=h
 by_cases hw:HT.sIx xs.length 0 lo=0∧HT.sIx xs.length xs.length hi=xs.length
 ·cases rx
  obtain ⟨its,r,ht,hz⟩:=I.tuple hx
  have hlen:its.toArray.size=xs.length:=by rw [List.size_toArray]; exact r.length.symm
  refine ⟨"tuple",_,PyProof.Rows.slot_tuple_getitem.lookup,ht.typeIs,ZeA ht hs pl pu (by rw [hlen]; exact hw) ⟨.ref a,H,I,rfl,q H a (Same.refl H) ?_⟩⟩
  rw [Zmq hw.1 hw.2]
  exact hx
 ·exact ZjT pins s σ H (.ref a) v vl vu lo hi sl Q I rx hs pl pu ⟨a,xs,rfl,hx,hw,fun p np=>q _ p (Zae np) (.of Zab)⟩
theorem ZoZ (K:W.Frag) (hK:X.K=K):SlR X (ZqQ K):=by subst hK; exact ZfA
end
section
variable {X:Cx} {o e f:Expr} {apos cpos:Pos} {td ty tx:TE}
end
section
variable {X:Cx}
theorem Zor (K : W.Frag) {o : Expr} {to : TE} {name : Str} {apos cpos : Pos} {T id : String} {r : V → List V → Hp → VK → Prop} (pa : PlainAttrs T) (slot : Slot T name id) (hty : typeOf (.builtin id)=pure (.type "method_descriptor")) (hm : MtR X id r) (ho : PE X o to) (hK : X.K=K := by rfl)
  (hbase:attributeBase o name X.env (eval o X.env)=eval o X.env:=by rfl) (hline:(apos.endLine == cpos.line)=true:=by rfl):PE X (.Call (.Attribute o name apos) [] [] cpos) (ZsH K T r to):=by
 subst hK
 exact ZrL pa slot hty hm ho hbase hline
end
end L2
namespace RevF
open PySem PySem.Spec PyProof.Rows
section
variable {prog:Program} {w:World} {A:Around} {E:Value->Shared->Prop} {s:Shared} {a it:Addr} {us:Array Value}
end
end RevF
namespace TextM
open PySem
end TextM
namespace L2
open PySem PySem.Spec PyProof.Rows
section
variable {X:Cx}
theorem ZfK:∀ {zs:List Str} {us:List Value},Vals (zs.map V.str) us->StrsAre us zs
 | [],_,.nil=>.nil
 | z :: zs,_,.cons r rs=>by
  obtain ⟨t,rfl⟩:=r
  exact .cons z t (ZfK rs)
end
section
variable {X:Cx} {pins:List (Addr × Obj)} {σ:St} {H:Hp} {s:Shared}
theorem Zp8 {ds ds' : List D} {xs xs' : List V} {us us' : List Value} {a a' : Addr} {A : Around} (I : Inv X pins σ H s) (hl : IsL X.K H ds xs) (hl' : IsL X.K H ds' xs') (rv : Vals xs us) (rv' : Vals xs' us')
  (z:s.heap.IsList a us.toArray) (z':s.heap.IsList a' us'.toArray) (hu:A.units<cLine)
  (it:∀ (j:Nat) (d d':D) (u u':Value),ds[j]?=some d->ds'[j]?=some d'->us[j]?=some u->us'[j]?=some u'->SeqAt.EqAt A.in1 s u u' (deq d d')):SeqAt.RcNeAt A s (.ref a) (.ref a') (!Zfn ds ds'):=by
 have e1:us.length=ds.length:=by rw [← rv.length,hl.length]
 have e2:us'.length=ds'.length:=by rw [← rv'.length,hl'.length]
 by_cases q:ds.length=ds'.length
 ·have g:=SeqAt.RcNeAt.lists (e:=Zf0 ds ds') z z' (by simp only [List.size_toArray,e1,e2,q]) hu fun j h1 h2=>by
   have g1:j<ds.length:=by rw [← e1]; simpa using h1
   have g2:j<ds'.length:=by rw [← e2]; simpa using h2
   have k1:ds[j]?=some ds[j]:=List.getElem?_eq_getElem g1
   have k2:ds'[j]?=some ds'[j]:=List.getElem?_eq_getElem g2
   unfold Zf0
   rw [Zfw k1,Zfw k2]
   exact it j _ _ _ _ k1 k2 (by simp) (by simp)
  rw [show us.toArray.size=ds.length by simp [e1],Zir q] at g
  exact g
 ·rw [ZcU q]
  exact SeqAt.RcNeAt.lists_lengths z z' (by simp only [List.size_toArray,e1,e2]; exact bne_iff_ne.mpr q) hu
theorem ZqZ (hu:X.A.units+64<cLine):OpR X (compareOp .NotEq) (fun x y H Q=>∃ ds ds',Is X.K H (.lst ds) x∧Is X.K H (.lst ds') y∧ZfS ds≤50∧Q (.bl (!Zfn ds ds')) H):=by
 intro pins s σ H x y v u Q I rx ry h
 obtain ⟨ds,ds',⟨a,xs,rfl,q1,hl⟩,⟨a2,xs2,rfl,q2,hl2⟩,hd,q⟩:=h
 cases (show v=Value.ref a from rx)
 cases (show u=Value.ref a2 from ry)
 obtain ⟨its,rv,z⟩:=I.isList q1
 obtain ⟨its2,rv2,z2⟩:=I.isList q2
 exact (Zp8 I hl hl2 rv rv2 z z2 (by omega) (eqL I ds ds' (A:=X.A.in1) hl hl2 rv rv2 (by show X.A.units+1+ZfS ds<cLine; omega))) _ _ _ _ ⟨.bl _,H,I,rfl,q⟩
end
section
variable {X:Cx}
end
section
variable {X:Cx} {CX:CXT} {k:Nat} {f C:Addr} {fd:FuncData} {ps:List Str} {sp:Sp} {dvs:List V} {ds:List Value} {E:XS} {x m:Str} {p pos apos:Pos} {e o:Expr} {es:List Expr} {ta:TE} {t:TA}
def ZpH (C:Addr) (m:Str) (sp:Sp) (dvs:List V) (E:XS) (ta:TE) (t:TA):TE:=fun σ H Q=>ta σ H fun x H1=>∃ a dx fs,x=.ref a∧H1 a=some (.ins C dx fs)∧fs.lookup m=none ∧
 t σ H1 fun vs H2=>sp (x :: (vs++dvs)) H2 Q (E σ)
theorem Zau {pl : Sem Bool} (he : PE X o ta) (c : Cls X.K C) (hm : Meth X.K C m f) (F : FnOk X.prog X.w X.K X.mg X.base CX k f fd ps sp) (hr : Room k X.A) (hb : Binds X.K fd ps ds) (hd : Vals dvs ds) (hx : ZdX CX X E) (ha : PA X (e :: es) t)
  (hst:starEach (e :: es) X.env=(false,eval e X.env) :: starEach es X.env:=by rfl) (hpl:(backTo pos (starEach es X.env)).any (·.1)=false:=by rfl)
  (ht:eval (.Call (.Attribute o m apos) (e :: es) [] pos) X.env=(do
   let ov ← eval o X.env
   standAt apos.atName
   let (f,first) ← holding [ov] (getMethod ov m pl)
   callWith pos f first (backTo pos (starEach (e :: es) X.env)) (backToKw pos (keywordEach [] X.env))):=by rfl) :
  PE X (.Call (.Attribute o m apos) (e :: es) [] pos) (ZpH C m sp dvs E ta t):=by
 intro pins s σ H Q I h
 refine W.methodCall_KW (pl:=pl) (thn (he pins s σ H _ I h) fun u s1 ⟨x,H1,I1,rx,a,dx,fs,ex,ea,l,q⟩=>?_) ht
 subst ex
 obtain rfl:u=Value.ref a:=rx
 refine Zh5 I1 ea c hm l ?_
 refine W.callWith_K (first:=[.ref a]) (h₀:=X.base) I.ok.mod.kin hm.kp (thn (ha pos pins s1 σ H1 _ I1 q) fun us s2 ⟨vs,H2,I2,r,q2⟩=>⟨I2.kIn,?_⟩) hst hpl
 exact ZkJ (us:=.ref a :: us) (vs:=.ref a :: vs) F hr hb hd hx I2 (.cons rfl r) q2
theorem Zkq {pl : Sem Bool} (he : PE X o ta) (c : Cls X.K C) (hm : Meth X.K C m f) (F : FnOk X.prog X.w X.K X.mg X.base CX k f fd ps sp) (hr : Room k X.A) (hb : Binds X.K fd ps ds) (hd : Vals dvs ds) (hx : ZdX CX X E)
  (ht:eval (.Call (.Attribute o m apos) [] [] pos) X.env=(do
   let ov ← eval o X.env
   standAt apos.atName
   let (f,first) ← holding [ov] (getMethod ov m pl)
   callWith pos f first (backTo pos (starEach [] X.env)) (backToKw pos (keywordEach [] X.env))):=by rfl) :
  PE X (.Call (.Attribute o m apos) [] [] pos) (ZpH C m sp dvs E ta ZrV):=by
 intro pins s σ H Q I h
 refine W.methodCall_KW (pl:=pl) (thn (he pins s σ H _ I h) fun u s1 ⟨x,H1,I1,rx,a,dx,fs,ex,ea,l,q⟩=>?_) ht
 subst ex
 obtain rfl:u=Value.ref a:=rx
 refine Zh5 I1 ea c hm l ?_
 exact W.callWith_K0 (first:=[.ref a]) I1.kIn hm.kp (ZkJ (us:=[.ref a]) (vs:=[.ref a]) F hr hb hd hx I1 (.cons rfl .nil) q)
def ZrE (C:Addr) (sp:Sp) (dvs:List V) (E:XS) (t:TA):TE:=fun σ H Q=>t σ H fun vs H1=>∀ x dx,H1 x=none->H1 dx=none->dx≠x →
 sp (.ref x :: (vs++dvs)) (upd (upd H1 dx (.own x)) x (.ins C dx [])) (fun v H2=>v=.non∧Q (.ref x) H2) (E σ)
theorem Zok {pins : List (Addr × Obj)} {σ : St} {H : Hp} {s : Shared} {Q : VK} {us : List Value} {vs : List V} (M : Mk X.K C f) (F : FnOk X.prog X.w X.K X.mg X.base CX k f fd ps sp) (hr : Room (k + 1) X.A) (hb : Binds X.K fd ps ds) (hd : Vals dvs ds)
  (hx:ZdX CX X E) (I:Inv X pins σ H s) (r:Vals vs us)
  (h:∀ x dx,H x=none->H dx=none->dx≠x->sp (.ref x :: (vs++dvs)) (upd (upd H dx (.own x)) x (.ins C dx [])) (fun v H2=>v=.non∧Q (.ref x) H2) (E σ)) :
  wpAny (model X.prog X.w) X.A (call (.ref C) us) (EP X pins σ Q) X.xe s:=by
 have hq:=h (s.heap.objs.size+1) s.heap.objs.size (I.hok.fresh (Nat.le_succ _)) (I.hok.fresh (Nat.le_refl _)) (Nat.ne_of_lt (Nat.lt_succ_self _))
 have I2:=Inv.made (C:=C) I
 have r2:Vals (V.ref (s.heap.objs.size+1) :: (vs++dvs)) (Value.ref (s.heap.objs.size+1) :: (us++ds)):=.cons rfl (r.append hd)
 have hl:(Value.ref (s.heap.objs.size+1) :: us++ds).length=ps.length:=by
  have e:=r2.length
  rw [F.len _ _ _ _ hq] at e
  exact e.symm
 refine wpAny_call (ZoN (f:=f) I.kIn M.makes M.init (beq_iff_eq.mp M.fn) (codeAny_mono (F.run _ X.stack _ _ ⟨Value.ref (s.heap.objs.size+1) :: us,[]⟩ (Value.ref (s.heap.objs.size+1) :: (us++ds)) _ _ (E σ) (hr.make C us [])
  (I2.env0.make C us []) (hb _ (Value.ref (s.heap.objs.size+1) :: us) I2.kIn hl) r2 hq) fun r s' hq'=>?_))
 cases r with
 | error e=>exact hx pins σ _ _ e s' I2 hq'
 | ok fl =>
  cases fl with
  | ret u =>
   obtain ⟨v,H',I3,rv,ev,q3⟩:=I2.after hq'
   subst ev
   exact ⟨rv,⟨V.ref (s.heap.objs.size+1),H',I3,rfl,q3⟩⟩
  | next=>exact False.elim hq'
  | brk=>exact False.elim hq'
  | cont=>exact False.elim hq'
theorem ZjR (M : Mk X.K C f) (F : FnOk X.prog X.w X.K X.mg X.base CX k f fd ps sp) (hr : Room (k + 1) X.A) (hg : Gl X x) (hm : X.mg x=some (.ref C)) (hb : Binds X.K fd ps ds) (hd : Vals dvs ds) (hx : ZdX CX X E)
  (hdb:(x == ("__debug__" : Str))=false:=by decide):PE X (.Call (.Name x p) [] [] pos) (ZrE C sp dvs E ZrV):=by
 intro pins s σ H Q I h
 refine wpAny_Call_Name_kw (Zjb I hg hm ?_ hdb)
 exact W.callWith_K0 I.kIn M.kp (Zok (us:=[]) M F hr hb hd hx I .nil h)
end
section
variable {X:Cx}
theorem Zb3:bootBuiltins "sorted"=some (.builtin "sorted"):=by decide +kernel
theorem ZdR:∀ {us:List Value} {zs:List Str},StrsAre us zs->Vals (zs.map V.str) us
 | _,_,.nil=>.nil
 | _,_,.cons y t r=>.cons ⟨t,rfl⟩ (ZdR r)
theorem Zf3 (K:W.Frag) (hK:X.K=K:=by rfl):Zdd X (.builtin "sorted") (fun xs H Q=>∃ l zs,xs=[.ref l]∧SqL K H l (zs.map V.str)∧zs.length<64∧∀ D zs',H D=none->zs'.Perm zs->sortedS zs'=true->Q (.ref D) (upd H D (.lst (zs'.map V.str)))):=by
 subst hK
 intro pins s σ H xs us Q I r h
 obtain ⟨l,zs,rfl,hq,hl,q⟩:=h
 obtain ⟨u,rfl,ru⟩:=ZfJ r
 cases (show u=Value.ref l from ru)
 obtain ⟨its,rv,pl,hz⟩:=I.list hq
 have hlen:=rv.length
 rw [List.length_map] at hlen
 refine sorted_strs pl.isList (ZfK rv) (by omega) fun out zs' so hp hs=>?_
 obtain ⟨e,he⟩:=sortedAll_at s.heap its out
 have hle:s.heap.objs.size≤s.heap.objs.size+1:=Nat.le_succ _
 have hl2:zs'.length=zs.length:=hp.length_eq
 refine ⟨.ref _,_,I.laid (t':=s.toks) (o:=.lst (zs'.map V.str)) (fun b u q=>sortedAll_old q) hle (show ObjOk X.prog X.w _ _ _ (.lst (zs'.map V.str)) from ⟨by rw [List.length_map]; exact Nat.le_of_lt (Zao (by omega)),out.toList,e,ZdR so,he⟩),rfl,q _ zs' (I.hok.fresh hle) hp hs⟩
end
noncomputable def ZaV (x y:Str):Bool:=decide (x.cps.toList<y.cps.toList)
section
variable {prog:Program} {w:World} {A:Around} {E:Value->Shared->Prop} {s:Shared}
noncomputable def ZaZ (xs:Array (Str × Tok)):Array Value:=xs.map fun p=>.str p.1 p.2
noncomputable def Zf9 (xs:Array (Str × Tok)) (i:Nat):Str:=(xs[i]?.map (·.1)).getD ""
theorem Zhv {xs:Array (Str × Tok)} {i:Nat} {v:Value} (h:(ZaZ xs)[i]?=some v):∃ t,v=.str (Zf9 xs i) t:=by
 simp only [ZaZ,Array.getElem?_map,Option.map_eq_some_iff] at h
 obtain ⟨p,hp,rfl⟩:=h
 exact ⟨p.2,by simp [Zf9,hp]⟩
theorem Zmm {P:Nat->Value->Prop} (val:Nat->Str) (hval:∀ i v,P i v->∃ t,v=.str (val i) t):CmpOf prog w A .Gt P (fun i j=>ZaV (val j) (val i)):=fun i j vi vj s Q E hi hj h=>by
 obtain ⟨t,rfl⟩:=hval i vi hi
 obtain ⟨u,rfl⟩:=hval j vj hj
 exact richCompare_gives (op:=.Gt) (typeIs_str s _ t) (typeIs_str s _ u) F.slot_str_gt F.entry_str_gt (F.args_str_gt_2 _ _) (gives_str_gt _ _ t u) (fun x=>nomatch x) h
theorem Zl8 {P:Nat->Value->Prop} (val:Nat->Str) (hval:∀ i v,P i v->∃ t,v=.str (val i) t):CmpOf prog w A .Lt P (fun i j=>ZaV (val i) (val j)):=fun i j vi vj s Q E hi hj h=>by
 obtain ⟨t,rfl⟩:=hval i vi hi
 obtain ⟨u,rfl⟩:=hval j vj hj
 exact richCompare_gives (op:=.Lt) (typeIs_str s _ t) (typeIs_str s _ u) F.slot_str_lt F.entry_str_lt (F.args_str_lt_2 _ _) (gives_str_lt _ _ t u) (fun x=>nomatch x) h
theorem ZkL {a b : Str} {t u : Tok} {Q : Value → Shared → Prop} (hh : A.handled=none)
  (h:∀ h' tk,(∀ c o,s.heap.get? c=some o->h'.get? c=some o)->Q (if ZaV a b=true then .str b u else .str a t) { s with heap:=h',toks:=tk }) :
  wpAny (model prog w) A (call (.builtin "max") [.str a t,.str b u]) Q E s:=by
 have hT:(s.heap.push { cls:=.type "tuple",data:=.seq #[.str a t,.str b u] }).IsTuple s.heap.objs.size (ZaZ #[(a,t),(b,u)]):=⟨_,Heap.get?_push_size _ rfl,rfl,0,by simp [ZaZ]⟩
 refine call_max_two (wpAny_pyIter_tuple hT ?_)
 have hsz:(s.heap.push { cls:=.type "tuple",data:=.seq #[.str a t,.str b u] }).objs.size=s.heap.objs.size+1:=Heap.size_push ..
 refine ⟨_,[_,s.heap.objs.size],[_],_,_,_,_,rfl,Walks.tuple (A:=A.in1) hh _ s.heap.objs.size (by rw [hsz]; exact Nat.ne_of_lt (Nat.lt_succ_self _)) (ZaZ #[(a,t),(b,u)]),
  ⟨⟨_,Heap.get?_push_size _ rfl,rfl,rfl⟩,hT.push _⟩,fun c hc=>?_,by simp [ZaZ],Zmm (Zf9 #[(a,t),(b,u)]) (fun _ _=>Zhv),fun v h' tk hP hk=>?_⟩
 ·show c<((s.heap.push _).push _).objs.size
  rw [Heap.size_push,hsz]
  rcases List.mem_cons.mp hc with rfl | hc
  ·rw [hsz]; exact Nat.lt_succ_self _
  ·rcases List.mem_cons.mp hc with rfl | hc
   ·exact Nat.lt_succ_of_lt (Nat.lt_succ_self _)
   ·cases hc
 ·have hold:∀ c o,s.heap.get? c=some o->h'.get? c=some o:=fun c o e=>by
   refine hk c o (fun hm=>?_) (Heap.get?_push_of_some _ (Heap.get?_push_of_some _ e))
   rcases List.mem_cons.mp hm with e1 | hm
   ·have:=Heap.lt_size e; rw [e1,hsz] at this; exact Nat.lt_irrefl _ (Nat.lt_of_succ_lt this)
   ·cases hm
  have:=h h' tk hold
  have hv:v=if ZaV a b=true then Value.str b u else Value.str a t:=by
   have hP':(ZaZ #[(a,t),(b,u)])[argBest (fun i j=>ZaV (Zf9 #[(a,t),(b,u)] j) (Zf9 #[(a,t),(b,u)] i)) 1]?=some v:=by
    have hsz2:(ZaZ #[(a,t),(b,u)]).size-1=1:=by simp [ZaZ]
    rw [← hsz2]; exact hP
   have e0:argBest (fun i j=>ZaV (Zf9 #[(a,t),(b,u)] j) (Zf9 #[(a,t),(b,u)] i)) 1=if ZaV a b=true then 1 else 0:=by
    show (if _=true then 1 else 0)=_
    rfl
   by_cases hba:ZaV a b=true
   ·rw [e0,if_pos hba] at hP'
    rw [if_pos hba]
    simpa [ZaZ] using hP'.symm
   ·rw [e0,if_neg hba] at hP'
    rw [if_neg hba]
    simpa [ZaZ] using hP'.symm
  rw [hv]; exact this
theorem Zlj {a b : Str} {t u : Tok} {Q : Value → Shared → Prop} (hh : A.handled=none)
  (h:∀ h' tk,(∀ c o,s.heap.get? c=some o->h'.get? c=some o)->Q (if ZaV b a=true then .str b u else .str a t) { s with heap:=h',toks:=tk }) :
  wpAny (model prog w) A (call (.builtin "min") [.str a t,.str b u]) Q E s:=by
 have hT:(s.heap.push { cls:=.type "tuple",data:=.seq #[.str a t,.str b u] }).IsTuple s.heap.objs.size (ZaZ #[(a,t),(b,u)]):=⟨_,Heap.get?_push_size _ rfl,rfl,0,by simp [ZaZ]⟩
 refine call_min_two (wpAny_pyIter_tuple hT ?_)
 have hsz:(s.heap.push { cls:=.type "tuple",data:=.seq #[.str a t,.str b u] }).objs.size=s.heap.objs.size+1:=Heap.size_push ..
 refine ⟨_,[_,s.heap.objs.size],[_],_,_,_,_,rfl,Walks.tuple (A:=A.in1) hh _ s.heap.objs.size (by rw [hsz]; exact Nat.ne_of_lt (Nat.lt_succ_self _)) (ZaZ #[(a,t),(b,u)]),
  ⟨⟨_,Heap.get?_push_size _ rfl,rfl,rfl⟩,hT.push _⟩,fun c hc=>?_,by simp [ZaZ],Zl8 (Zf9 #[(a,t),(b,u)]) (fun _ _=>Zhv),fun v h' tk hP hk=>?_⟩
 ·show c<((s.heap.push _).push _).objs.size
  rw [Heap.size_push,hsz]
  rcases List.mem_cons.mp hc with rfl | hc
  ·rw [hsz]; exact Nat.lt_succ_self _
  ·rcases List.mem_cons.mp hc with rfl | hc
   ·exact Nat.lt_succ_of_lt (Nat.lt_succ_self _)
   ·cases hc
 ·have hold:∀ c o,s.heap.get? c=some o->h'.get? c=some o:=fun c o e=>by
   refine hk c o (fun hm=>?_) (Heap.get?_push_of_some _ (Heap.get?_push_of_some _ e))
   rcases List.mem_cons.mp hm with e1 | hm
   ·have:=Heap.lt_size e; rw [e1,hsz] at this; exact Nat.lt_irrefl _ (Nat.lt_of_succ_lt this)
   ·cases hm
  have:=h h' tk hold
  have hv:v=if ZaV b a=true then Value.str b u else Value.str a t:=by
   have hP':(ZaZ #[(a,t),(b,u)])[argBest (fun i j=>ZaV (Zf9 #[(a,t),(b,u)] i) (Zf9 #[(a,t),(b,u)] j)) 1]?=some v:=by
    have hsz2:(ZaZ #[(a,t),(b,u)]).size-1=1:=by simp [ZaZ]
    rw [← hsz2]; exact hP
   have e0:argBest (fun i j=>ZaV (Zf9 #[(a,t),(b,u)] i) (Zf9 #[(a,t),(b,u)] j)) 1=if ZaV b a=true then 1 else 0:=by
    show (if _=true then 1 else 0)=_
    rfl
   by_cases hba:ZaV b a=true
   ·rw [e0,if_pos hba] at hP'
    rw [if_pos hba]
    simpa [ZaZ] using hP'.symm
   ·rw [e0,if_neg hba] at hP'
    rw [if_neg hba]
    simpa [ZaZ] using hP'.symm
  rw [hv]; exact this
theorem Zk0 {l : Addr} {vs : List Value} {Q : List Value → Shared → Prop} (hl : IsTup s.heap l vs.toArray)
  (h:Q vs { s with heap:=(s.heap.push (seqObj "list" #[] 0)).update s.heap.objs.size (Obj.mapSeq (·++vs.toArray)) }) (hsz:vs.length≤sizeLine) :
  wpAny (model prog w) A (collect (.ref l)) Q E s:=by
 obtain ⟨o,ho,hc,n,hd⟩:=id hl
 unfold collect
 refine wpAny_bind (wpAny_runValue (codeAny_builtin entry_proto_collect' ?_))
 show wpAny _ _ (do again (.builtin "list.__iadd__" ⟨[← newList [],.ref l],[]⟩)) _ _ s
 refine wpAny_bind (wpAny_newList (wpAny_pure ⟨Code.quiet_builtin _ (by decide +kernel),codeAny_builtin entry_list_iadd' ?_⟩))
 show wpAny _ _ (Builtin.List.listExtendWith (.ref s.heap.objs.size) (.ref l) (.ref s.heap.objs.size)) _ _ { s with heap:=s.heap.push (seqObj "list" #[] 0) }
 unfold Builtin.List.listExtendWith
 have ho':(s.heap.push (seqObj "list" #[] 0)).get? l=some o:=Heap.get?_push_of_some _ ho
 refine wpAny_bind (wpAny_typeOf (T:="tuple") ⟨o,ho',hc⟩ ?_)
 have ht:(Value.type "tuple" == Value.type "tuple")=true:=by rfl
 rw [if_pos (by rw [ht]; simp)]
 refine wpAny_bind (listItems_at ho' hd ?_)
 refine wpAny_bind (listItems_at (xs:=#[]) (n:=0) (Heap.get?_push_size _ rfl) rfl ?_)
 rw [if_neg (by simp)]
 refine wpAny_bind (listUpdate_at (xs:=#[]) (n:=0) (Heap.get?_push_size _ rfl) rfl ?_ (Nat.zero_le _) (by show (#[]++vs.toArray).size≤sizeLine+1; simp only [Array.size_append,List.size_toArray,List.length_nil]; omega))
 refine wpAny_pure ?_
 refine wpAny_bind (wpAny_load (get?_update_seq (Heap.get?_push_size _ rfl) _) ?_)
 show wpAny _ _ (pure ((#[]:Array Value)++vs.toArray).toList) Q E _
 rw [show ((#[]:Array Value)++vs.toArray).toList=vs by simp]
 exact wpAny_pure h
theorem ZhE {x : Value} {vs : List Value} {ss : List Str} {Q : Value → Shared → Prop} (hS : StrsAre vs ss) (h64 : vs.length<64)
  (hc:∀ (A':Around) (Q':List Value->Shared->Prop),A'.handled=A.handled->(∀ h1 tk,(∀ b o,s.heap.get? b=some o->h1.get? b=some o)->s.heap.objs.size≤h1.objs.size->Q' vs { s with heap:=h1,toks:=tk })->wpAny (model prog w) A' (collect x) Q' E s)
  (h:∀ h' tk a e (out:Array Value) (ss':List Str),(∀ b o,s.heap.get? b=some o->h'.get? b=some o)->s.heap.objs.size≤a->h'.get? a=some (seqObj "list" out e)->StrsAre out.toList ss'->ss'.Perm ss->sortedS ss'=true->Q (.ref a) { s with heap:=h',toks:=tk }) :
  wpAny (model prog w) A (call (.builtin "sorted") [x]) Q E s:=by
 refine Calls.call_function_entry kind_sorted plain_sorted entry_sorted (args_sorted1 _) ?_
 unfold Builtin.«sorted»
 refine wpAny_bind (m:=checkCount "sorted" 1 1 _) (wpAny_pure ?_)
 refine wpAny_bind (hc _ _ rfl fun h1 tk k1 z1=>?_)
 refine wpAny_bind (wpAny_newList ?_)
 have hoL:(h1.push (seqObj "list" vs.toArray 0)).get? h1.objs.size=some (seqObj "list" vs.toArray 0):=Heap.get?_push_size _ rfl
 show wpAny _ _ _ _ _ { s with heap:=h1.push (seqObj "list" vs.toArray 0),toks:=tk }
 refine wpAny_bind (wpAny_holding (wpAny_call_entry slot_list_sort ⟨_,hoL,rfl⟩ entry_list_sort (list_sort_treeK strKind_oneLt hoL hS.keysOf (fun v₁ v₂ rest e=>keyKind_strs (by rw [← e]; exact hS)) h64 fun st' a1 a2=>⟨_,rfl,?_⟩) (args_list_sort _)))
 obtain ⟨ss',b1,b2,b3⟩:=sorted_out_str hS a1 a2
 obtain ⟨e,he⟩:=sortedHeap_at (out:=(arrOf st').map (·.2)) hoL
 refine wpAny_pure ⟨_,rfl,h _ tk _ e _ ss' (fun b o q=>?_) z1 he b1 b2 b3⟩
 have q1:=k1 _ _ q
 have lt:b<h1.objs.size:=Heap.lt_size q1
 rw [sortedHeap_old (Nat.ne_of_lt lt) (by rw [size_push']; exact Nat.lt_succ_of_lt lt)]
 exact Heap.get?_push_of_some _ q1
end
section
variable {X:Cx}
theorem Zme (hc:X.calm=true):Zdd X (.builtin "max") (fun xs H Q=>∃ i j,xs=[.str i,.str j]∧Q (.str (if ZaV i j=true then j else i)) H):=by
 intro pins s σ H xs us Q I r h
 obtain ⟨i,j,rfl,q⟩:=h
 obtain ⟨u,w',rfl,⟨t,rfl⟩,⟨t',rfl⟩⟩:=ZmL r
 refine ZkL (I.ok.hd hc) fun h' tk k=>⟨_,H,I.kept k,?_,q⟩
 by_cases hj:ZaV i j=true
 ·rw [if_pos hj,if_pos hj]; exact ⟨_,rfl⟩
 ·rw [if_neg hj,if_neg hj]; exact ⟨_,rfl⟩
theorem Zmv (hc:X.calm=true):Zdd X (.builtin "min") (fun xs H Q=>∃ i j,xs=[.str i,.str j]∧Q (.str (if ZaV j i=true then j else i)) H):=by
 intro pins s σ H xs us Q I r h
 obtain ⟨i,j,rfl,q⟩:=h
 obtain ⟨u,w',rfl,⟨t,rfl⟩,⟨t',rfl⟩⟩:=ZmL r
 refine Zlj (I.ok.hd hc) fun h' tk k=>⟨_,H,I.kept k,?_,q⟩
 by_cases hj:ZaV j i=true
 ·rw [if_pos hj,if_pos hj]; exact ⟨_,rfl⟩
 ·rw [if_neg hj,if_neg hj]; exact ⟨_,rfl⟩
theorem ZcH (K:W.Frag) (hK:X.K=K:=by rfl):Zdd X (.builtin "sorted") (fun xs H Q=>∃ l zs,xs=[.ref l]∧SqT K H l (zs.map V.str)∧zs.length<64∧∀ D zs',H D=none->zs'.Perm zs->sortedS zs'=true->Q (.ref D) (upd H D (.lst (zs'.map V.str)))):=by
 subst hK
 intro pins s σ H xs us Q I r h
 obtain ⟨l,zs,rfl,hq,hl,q⟩:=h
 obtain ⟨u,rfl,ru⟩:=ZfJ r
 cases (show u=Value.ref l from ru)
 obtain ⟨its,rv,pl,hz⟩:=I.tuple hq
 have hlen:=rv.length
 rw [List.length_map] at hlen
 refine ZhE (ZfK rv) (by omega) (fun A' Q' _ q'=>Zk0 pl (q' _ _ (fun b o e=>?_) ?_) (by rw [List.length_map] at hz; omega)) fun h' tk a e out zs' k1 z1 he so hp hs=>?_
 ·have lt:=Heap.lt_size e
  rw [Heap.get?_update_ne _ _ _ _ (Nat.ne_of_lt lt)]
  exact Heap.get?_push_of_some _ e
 ·rw [Heap.size_update,size_push']
  exact Nat.le_succ _
 have hl2:zs'.length=zs.length:=hp.length_eq
 exact ⟨.ref _,_,I.laid (t':=tk) (o:=.lst (zs'.map V.str)) k1 z1 (show ObjOk X.prog X.w _ _ _ (.lst (zs'.map V.str)) from ⟨by rw [List.length_map]; exact Nat.le_of_lt (Zao (by omega)),out.toList,e,ZdR so,he⟩),rfl,q _ zs' (I.hok.fresh z1) hp hs⟩
theorem Zg1 {prog : Program} {w : World} {K : Type} [DecidableEq K] (knd : HeapKind prog w K) (d : Addr) (hd : (d == sysModules)=false) :
  MeetsIn prog w (Builtin.«dict.__len__» ⟨[.ref d],[]⟩) (fun _ R s=>∃ kvs,s.heap.DictOfH knd d kvs∧R (.ok (.ret (.int kvs.length s.toks))) { s with toks:=s.toks+1 }) :=
 .of_wp fun A R s ⟨kvs,hm,h⟩=>by
  obtain ⟨o,es,ep,ho,hc,hdat,he,hk,hn⟩:=hm
  show wpAny _ _ (dictSize d >>= _) _ _ s
  unfold dictSize
  refine wpAny_bind (wpAny_bind (wpAny_dictEntries ho hdat (wpAny_pure ?_)))
  show wpAny _ _ (Builtin.Dict.pendingCount d >>= _) _ _ s
  refine wpAny_bind (wpAny_pendingCount_other hd ?_)
  refine wpAny_ret_mkInt ?_
  have:es.size=kvs.length:=size_of_entries he
  rw [Nat.add_zero,this]; exact h
theorem Zn9 {prog : Program} {w : World} {A : Around} {E : Value → Shared → Prop} {s : Shared} {K : Type} [DecidableEq K] {knd : HeapKind prog w K} {d : Addr} {kvs : List (K × Addr × Value)} {Q : Value → Shared → Prop} (hd : (d == sysModules)=false) (hm : s.heap.DictOfH knd d kvs) (hfit : (kvs.length : Int)<2 ^ 63)
  (h:Q (.int kvs.length (s.toks+1)) { s with toks:=s.toks+1+1 }):wpAny (model prog w) A (call (.builtin "len") [.ref d]) Q E s:=by
 refine Calls.call_function_entry kind_len plain_len entry_len (args_len1 _) ?_
 unfold Builtin.«len»
 refine wpAny_bind (m:=oneArg "len" _) (wpAny_pure ?_)
 refine wpAny_bind (m:=callSpecial? (.ref d) (Str.ofString "__len__")) (wpAny_callSpecial?_slot (name:=Str.ofString "__len__") hm.typeIs F.slot_dict_len
  (call_meetsIn F.slot_dict_len hm.typeIs F.entry_dict_len (F.args_dict_len_1 _) (Zg1 knd d hd) ⟨kvs,hm,?_⟩))
 show wpAny _ _ _ _ _ { s with toks:=s.toks+1 }
 refine wpAny_bind (wpAny_holding (wpAny_pure ?_))
 refine wpAny_bind (wpAny_letGo ?_)
 show wpAny _ _ (if ((kvs.length:Nat):Int)<0 then _ else _) _ _ _
 rw [if_neg (by omega)]
 show wpAny _ _ (if ((kvs.length:Nat):Int) ≥ 2 ^ 63 then _ else _) _ _ _
 rw [if_neg (by omega)]
 exact wpAny_bind (wpAny_mkInt (wpAny_pure ⟨_,rfl,h⟩))
theorem Zml:Zdd X (.builtin "len") (fun xs H Q=>∃ a kvs,xs=[V.ref a]∧H a=some (.dT kvs)∧Q (.int kvs.length) H):=by
 intro pins s σ H xs us Q I r h
 obtain ⟨a,kvs,rfl,ha,q⟩:=h
 obtain ⟨u,rfl,ru⟩:=ZfJ r
 cases ru
 obtain ⟨z,hd,vs,rel,dd⟩:=Zmg I.hok ha
 refine Zn9 hd dd (by rw [← rel.length]; rw [sizeLine_eq] at z; omega) ?_
 rw [← rel.length]
 exact ⟨.int kvs.length,H,I.tok _,⟨_,rfl⟩,q⟩
end
section
variable {prog:Program} {w:World} {K:Type} [DecidableEq K] {knd:HeapKind prog w K} {A:Around} {E:Value->Shared->Prop} {s:Shared}
theorem Zhj {d a : Addr} {xs : List (K × Addr × Value)} {k : K} {v : Value} {Q : Value → Shared → Prop} (hu : knd.room A) (hkey : knd.is s.heap k a) (hm : s.heap.DictOfH knd d xs) (hsz : xs.length ≤ sizeLine)
  (h1:∀ p,atKey xs k=some p->Q p.2 { s with toks:=s.toks+knd.draws k })
  (h2:atKey xs k=none->∀ h',h'.DictOfH knd d (storedH xs k a v)->Heap.SameBut d s.heap h'->Q v { s with heap:=h',toks:=s.toks+knd.draws k }) :
  wpAny (model prog w) A (dictSetDefault d (.ref a) v) Q E s:=by
 obtain ⟨o,es,ep,ho,hc,hd,he,his,hn⟩:=hm
 unfold dictSetDefault
 try with_reducible refine wpAny_holding ?_
 refine wpAny_bind (knd.pyHash hu hkey ?_)
 refine wpAny_bind (wpAny_dictFind_heap (s:={ s with toks:=s.toks+knd.draws k }) hu hkey ho hd he his hn ?_ ?_)
 ·intro hno
  have hnot:k ∉ xs.map (·.1):=not_mem_keys_of_get hno
  refine wpAny_bind (wpAny_rule (wpAny_bind (wpAny_updateDictKeys (hz:=by have e:=size_of_entries he; omega) (s:={ s with toks:=s.toks+knd.draws k }) ho hd (wpAny_pure (h2 (atKey_none_of_get hno) _ ⟨_,_,ep+1,Heap.get?_update_self _ ho (Obj.isFreed_of_dict (Obj.data_mapDictKeys hd _)),
   hc.mapDictKeys _,Obj.data_mapDictKeys hd _,?_,?_,?_⟩ (Heap.SameBut.update ..))))))
  ·rw [storedH_new (atKey_none_of_get hno)]
   simp [he,entryOfKey]
  ·rw [storedH_new (atKey_none_of_get hno)]
   intro x hx
   rcases List.mem_append.mp hx with hx | hx
   ·exact knd.keeps (his x hx) ho hd (Heap.SameBut.update ..)
   ·simp only [List.mem_singleton] at hx
    subst hx
    exact knd.keeps hkey ho hd (Heap.SameBut.update ..)
  ·rw [storedH_new (atKey_none_of_get hno)]
   rw [List.map_append,List.nodup_append]
   refine ⟨hn,by simp,?_⟩
   intro x hx y hy
   simp only [List.map_cons,List.map_nil,List.mem_singleton] at hy
   subst hy
   exact fun e=>hnot (e ▸ hx)
 ·intro j p hj
  refine wpAny_bind (wpAny_dictEntries (s:={ s with toks:=s.toks+knd.draws k }) ho hd ?_)
  rw [entry_at he j,hj]
  exact wpAny_bind (wpAny_rule (wpAny_pure (h1 p (atKey_of_get hn hj))))
theorem Zft (d a : Addr) (hd : (d == sysModules)=false) (dflt : Value) :
  MeetsIn prog w (Builtin.«dict.setdefault» ⟨[.ref d,.ref a,dflt],[]⟩) (fun A R s=>knd.room A.in1∧∃ k xs,knd.is s.heap k a∧s.heap.DictOfH knd d xs∧xs.length≤sizeLine ∧
   (∀ p,atKey xs k=some p->R (.ok (.ret p.2)) { s with toks:=s.toks+knd.draws k }) ∧
   (atKey xs k=none->∀ h',h'.DictOfH knd d (storedH xs k a dflt)->Heap.SameBut d s.heap h'->R (.ok (.ret dflt)) { s with heap:=h',toks:=s.toks+knd.draws k })) :=
 .of_wp fun A R s ⟨hu,k,xs,hkey,hm,hz,h1,h2⟩=>by
  unfold Builtin.«dict.setdefault»
  refine wpAny_bind ?_
  unfold Builtin.Dict.keyAndDefault
  refine wpAny_bind (wpAny_notOrdered_dict hm.typeIs ?_)
  show wpAny _ _ (pure (d,Value.ref a,some dflt)) _ _ s
  refine wpAny_pure ?_
  show wpAny _ _ (if (d == sysModules)=true then _ else (dictSetDefault d (.ref a) dflt >>= _)) _ _ s
  rw [if_neg (by rw [hd]; exact Bool.false_ne_true)]
  exact wpAny_bind (Zhj hu hkey hm hz (fun p hp=>wpAny_pure ⟨p.2,rfl,h1 p hp⟩) fun hn h' hm' hs'=>wpAny_pure ⟨dflt,rfl,h2 hn h' hm' hs'⟩)
end
section
variable {X:Cx} {pins:List (Addr × Obj)} {σ:St} {H:Hp} {s:Shared} {a b:Addr} {kvs:List (List Key × V)} {k:List Key} {d:V} {r:Value} {A:Around} {E:Value->Shared->Prop}
theorem Zpl {Q : Value → Shared → Prop} (hu : A.units + 1<cLine) (I : Inv X pins σ H s) (e : H a=some (.dT kvs)) (eb : H b=some (.tup (k.map kV))) (l : kvs.length<sizeLine) (rd : RelV d r)
  (h1:∀ v w' s',ZdS kvs k=some v->RelV v w'->Inv X pins σ H s'->Q w' s') (h2:∀ s',ZdS kvs k=none->Inv X pins σ (upd H a (.dT (kvs++[(k,d)]))) s'->Q r s') :
  wpAny (model X.prog X.w) A (call (.builtin "dict.setdefault") [.ref a,.ref b,r]) Q E s:=by
 obtain ⟨z,hd,xs,rel,dd⟩:=Zmg I.hok e
 have hz:xs.length≤sizeLine:=by rw [← Paired.length rel]; exact z
 have hv:=rel.val k
 refine call_meetsIn PySem.F.slot_dict_setdefault dd.typeIs PySem.F.entry_dict_setdefault (PySem.F.args_dict_setdefault_3 _ _ _) (Zft (knd:=tupleKind (Zbl X.prog X.w)) a b hd r)
  ⟨tupleKind_room_in1 hu,k,xs,Zg6 I.hok eb,dd,hz,fun p hp=>?_,fun hn h' dd' hs=>?_⟩
 ·rw [hp] at hv
  cases ho:ZdS kvs k with
  | none=>rw [ho] at hv; cases hv
  | some v =>
   rw [ho] at hv
   exact h1 v _ _ ho hv (I.tok _)
 ·rw [hn] at hv
  have ho:ZdS kvs k=none:=by
   cases ho:ZdS kvs k with
   | none=>rfl
   | some v=>rw [ho] at hv; cases hv
  refine h2 _ ho ?_
  have hp:=rel.put k eb rd
  rw [ZiP _ ho] at hp
  have hl:(kvs++[(k,d)]).length≤sizeLine:=by rw [List.length_append]; exact l
  obtain ⟨q,es,ep,hq,h2,h3,h4,_,h5⟩:=dd'
  refine Zk9 I (by rw [e]; exact True.intro) hs ⟨q,hq⟩ ⟨hl,hd,_,hp.keeps fun c ys ec=>?_,q,es,ep,hq,h2,h3,h4,h5⟩
  rw [Zak (ZrR ec e (fun z=>nomatch z))]
  exact ec
end
def ZqW (td ty tx:TE):TE:=fun σ H Q=>td σ H fun x H1=>∃ a,x=.ref a∧IsD H1 a∧ty σ H1 fun y H2=>tx σ H2 fun z H3=>∃ kvs k b,H3 a=some (.dT kvs)∧y=.ref b∧H3 b=some (.tup (k.map kV))∧kvs.length<sizeLine ∧
 (∀ v,ZdS kvs k=some v->Q v H3)∧(ZdS kvs k=none->Q z (upd H3 a (.dT (kvs++[(k,z)]))))
section
variable {X:Cx} {o e f:Expr} {apos cpos:Pos} {td ty tx:TE}
theorem Zpc (hu:X.A.units+1<cLine) (ho:PE X o td) (he:PE X e ty) (hf:PE X f tx) (m:M2 X o "setdefault" apos e f cpos):PE X (.Call (.Attribute o "setdefault" apos) [e,f] [] cpos) (ZqW td ty tx):=by
 intro pins s σ H Q I h
 refine wpAny_Call_method m.base m.few m.line PySem.F.plainAttrs_dict PySem.F.slot_dict_setdefault PySem.F.type_dict_setdefault (thn (ho pins s σ H _ I h) fun u s1 ⟨x,H1,I1,rx,a,ex,d,q1⟩=>?_)
 subst ex
 obtain rfl:u=Value.ref a:=rx
 obtain ⟨t1,t2,_⟩:=ZpD I1 d
 refine ⟨t1,t2,?_⟩
 rw [m.trees]
 refine Calls.callWith_builtin rfl (Calls.evalArgs_plain (Calls.spliced_cons (thn (he pins s1 σ H1 _ I1 q1) fun iv s2 ⟨y,H2,I2,ry,q2⟩ =>
  Calls.spliced_cons (thn (hf pins s2 σ H2 _ I2 q2) fun fv s3 ⟨z,H3,I3,rz,kvs,k,b,ea,ey,eb,hl,q3,q4⟩=>Calls.spliced_nil ?_))))
 subst ey
 obtain rfl:iv=Value.ref b:=ry
 exact Zpl hu I3 ea eb hl rz (fun v w' s4 l rw' I4=>⟨v,H3,I4,rw',q3 v l⟩) fun s4 l I4=>⟨z,_,I4,rz,q4 l⟩
end
end L2
namespace L2
open PySem PySem.Spec PyProof.Rows PySem.W
section
variable {prog:Program} {w:World} {A:Around} {E:Value->Shared->Prop} {s:Shared} {T:String} {r d:Addr} {n:Nat} {P:Nat->Value->Prop} {OK:Heap->Prop}
theorem Zla {Q : List Value → Shared → Prop} (K : KdlSrc prog w T r d n P OK) (hh : A.handled=none) (hok : OK s.heap) (hn : n ≤ sizeLine)
  (h:∀ h1 tk (acc:Array Value),(∀ b o,s.heap.get? b=some o->h1.get? b=some o)->s.heap.objs.size≤h1.objs.size->ItemsOf P acc n->Q acc.toList { s with heap:=h1,toks:=tk }) :
  wpAny (model prog w) A (collect (.ref r)) Q E s:=by
 have hlt:=K.there _ hok
 unfold collect
 refine wpAny_bind (wpAny_runValue (codeAny_builtin entry_proto_collect' ?_))
 show wpAny _ _ (do again (.builtin "list.__iadd__" ⟨[← newList [],.ref r],[]⟩)) _ _ s
 refine wpAny_bind (wpAny_newList (wpAny_pure ⟨Code.quiet_builtin _ (by decide +kernel),codeAny_builtin entry_list_iadd' ?_⟩))
 show wpAny _ _ (Builtin.List.listExtendWith (.ref s.heap.objs.size) (.ref r) (.ref s.heap.objs.size)) _ _ { s with heap:=s.heap.push (seqObj "list" #[] 0) }
 have hS:(s.heap.push (seqObj "list" #[] 0)).get? s.heap.objs.size=some { cls:=.type "list",data:=.seq #[] 0 }:=Heap.get?_push_size _ rfl
 rw [Around.under_plainId (by decide +kernel)]
 refine kdl_extend (R:=fun r s'=>match r with
  | .ok (.ret v)=>wpAny (model prog w) A (match v with
   | .ref a=>do match (← load a).data with
    | .seq xs _=>pure xs.toList
    | _=>unsupported "internal:collect"
   | _=>unsupported "internal:collect") Q E s'
  | .ok _=>False
  | .error e=>E e s') (A:=A) (s:={ s with heap:=s.heap.push (seqObj "list" #[] 0) }) K hh (K.keep _ _ hok fun b _ o e=>Heap.get?_push_of_some _ e) s.heap.objs.size (Nat.ne_of_gt hlt.1) (Nat.ne_of_gt hlt.2) (.ref s.heap.objs.size) 0 hS (fun h' tk acc c hk hS' hacc=>?_) hn
 refine wpAny_bind (wpAny_load hS' ?_)
 exact wpAny_pure (h h' tk acc (fun b o e=>hk b o (Nat.ne_of_lt (Heap.lt_size e)) (Heap.get?_push_of_some _ e)) (Nat.le_of_lt (Heap.lt_size hS')) hacc)
end
section
variable {X:Cx}
end
end L2
namespace L2
open PySem PySem.Spec PyProof.Rows
theorem Zg9 (val:Nat->Int):∀ k:Nat,argBest (fun i j=>decide (val i > val j)) k≤k∧∀ i,i≤k->val i≤val (argBest (fun i j=>decide (val i > val j)) k)
 | 0=>⟨Nat.le_refl _,fun i hi=>by cases (show i=0 by omega); exact Int.le_refl _⟩
 | k+1=>by
  obtain ⟨h1,h2⟩:=Zg9 val k
  show (if decide (val (k+1) > val (argBest _ k))=true then k+1 else argBest _ k)≤k+1∧∀ i,i≤k+1->val i≤val (if decide (val (k+1) > val (argBest _ k))=true then k+1 else argBest _ k)
  by_cases h:val (k+1) > val (argBest (fun i j=>decide (val i > val j)) k)
  ·rw [if_pos (decide_eq_true h)]
   refine ⟨Nat.le_refl _,fun i hi=>?_⟩
   by_cases e:i=k+1
   ·subst e; exact Int.le_refl _
   ·have:=h2 i (by omega)
    omega
  ·rw [if_neg (by rw [decide_eq_false h]; decide)]
   refine ⟨by omega,fun i hi=>?_⟩
   by_cases e:i=k+1
   ·subst e; omega
   ·exact h2 i (by omega)
theorem Zhl:∀ {us:List Value} {is:List Int},Vals (is.map V.int) us->∃ ps:List (Int × Tok),us=ps.map (fun p=>Value.int p.1 p.2)∧ps.map (·.1)=is
 | us,[],r=>by cases r; exact ⟨[],rfl,rfl⟩
 | us,i :: is,r=>by
  cases r with
  | cons h t =>
   obtain ⟨tk,rfl⟩:=h
   obtain ⟨ps,rfl,e⟩:=Zhl t
   exact ⟨(i,tk) :: ps,rfl,by rw [List.map_cons,e]⟩
section
variable {X:Cx}
theorem ZmS (K:W.Frag) (hc:X.calm=true) (hK:X.K=K:=by rfl):Zdd X (.builtin "max") (fun xs H Q=>∃ (l:Addr) (is:List Int),xs=[.ref l]∧SqL K H l (is.map V.int)∧is≠[]∧∀ m,m∈is->(∀ x∈is,x≤m)->Q (.int m) H):=by
 subst hK
 intro pins s σ H xs us Q I r h
 obtain ⟨l,is,rfl,hq,hne,q⟩:=h
 obtain ⟨u,rfl,ru⟩:=ZfJ r
 cases (show u=Value.ref l from ru)
 obtain ⟨its,rv,pl,hz⟩:=I.list hq
 obtain ⟨ps,rfl,rfl⟩:=Zhl rv
 have hl:s.heap.IsList l (intItems ps.toArray):=by
  have:=pl.isList
  rwa [show (ps.map fun p=>Value.int p.1 p.2).toArray=intItems ps.toArray by simp [intItems]] at this
 have hpos:0<ps.length:=List.length_pos_iff.mpr (fun e=>hne (by rw [e]; rfl))
 refine max_intList (I.ok.hd hc) hl (by simpa using hpos) fun v h' tk e k=>?_
 obtain ⟨b1,b2⟩:=Zg9 (numAt ps.toArray) (ps.toArray.size-1)
 obtain ⟨t,rfl⟩:=intItems_at e
 generalize argBest (fun i j=>decide (numAt ps.toArray i > numAt ps.toArray j)) (ps.toArray.size-1)=n at *
 have hn:n<ps.length:=by rw [List.size_toArray] at b1; omega
 have val:∀ i (hi:i<ps.length),numAt ps.toArray i=(ps[i]).1:=fun i hi=>by simp [numAt,hi]
 refine ⟨.int (numAt ps.toArray n),H,I.kept k,⟨t,rfl⟩,q _ ?_ fun x hx=>?_⟩
 ·rw [val n hn]
  exact List.mem_map.mpr ⟨ps[n],List.getElem_mem _,rfl⟩
 ·obtain ⟨p,hp,rfl⟩:=List.mem_map.mp hx
  obtain ⟨i,hi,rfl⟩:=List.getElem_of_mem hp
  rw [← val i hi]
  exact b2 i (by rw [List.size_toArray]; omega)
end
section
variable {X:Cx} {pins:List (Addr × Obj)} {σ:St} {H H':Hp} {s:Shared} {d:Addr} {kvs:List (Key × V)} {o:Obj}
theorem Inv.thaw (I:Inv X pins σ H s) (e:H d=some (.frz o (.dK kvs))) (n:∀ o u,X.H₀ d≠some (.frz o u)):Inv X pins σ (upd H d (.dK kvs)) s:=by
 have ne:∀ b,H b=none->b≠d:=fun b z q=>by subst q; rw [e] at z; cases z
 refine ⟨I.ok,I.os,I.bare,⟨I.base.keep,I.base.slot,fun b q h1 h2 h3=>?_,I.base.there,fun b xs h1=>?_,fun b q u h1=>?_,fun b ps h1=>?_⟩,I.loc,I.cell,?_,fun x c h1=>?_,fun p hp=>?_,fun b u h1=>?_,I.len⟩
 ·have:=I.base.free b q h1 h2 h3
  rw [Zak (ne b this)]; exact this
 ·have:=I.base.tups b xs h1
  rw [Zak (fun z=>by subst z; rw [e] at this; cases this)]; exact this
 ·have:=I.base.frzs b q u h1
  rw [Zak (fun z=>by subst z; exact n _ _ h1)]; exact this
 ·obtain ⟨more,this⟩:=I.base.tbls b ps h1
  exact ⟨more,by rw [Zak (fun z=>by subst z; rw [e] at this; cases this)]; exact this⟩
 ·rw [Zak (ne _ I.free)]; exact I.free
 ·have:=I.freeC x c h1
  rw [Zak (ne _ this)]; exact this
 ·obtain ⟨a1,a2,a3⟩:=I.pin p hp
  exact ⟨a1,by rw [Zak (ne _ a2)]; exact a2,a3⟩
 ·by_cases z:b=d
  ·subst z
   rw [Zab] at h1
   cases h1
   exact (show ObjOk X.prog X.w _ _ _ (.dK kvs) from (I.hok b _ e).2)
  ·rw [Zak z] at h1
   refine (I.hok b u h1).stay (fun c v hc q=>q) (fun c q=>?_) fun c xs q=>?_
   ·rw [Zak (fun z=>by subst z; rw [e] at q; cases q)]; exact q
   ·rw [Zak (fun z=>by subst z; rw [e] at q; cases q)]; exact q
end
theorem ZrN:∀ {kvs:List (Key × V)} {vs:List (Key × Value)},KV kvs vs->∀ (i:Nat) (p:Key × V),kvs[i]?=some p->∃ x,vs[i]?=some (p.1,x)
 | [],_,r,i,p,e=>by cases e
 | q :: kvs,_,r,i,p,e=>by
  cases r with
  | @cons _ y _ _ h t =>
   cases i with
   | zero =>
    cases (show some q=some p from e)
    exact ⟨y.2,by rw [List.getElem?_cons_zero,h.1]⟩
   | succ i =>
    rw [List.getElem?_cons_succ] at e
    obtain ⟨x,hx⟩:=ZrN t i p e
    exact ⟨x,by rw [List.getElem?_cons_succ]; exact hx⟩
theorem Zrz {k:Key} {v:Value} (h:Zk7 k v=true):RelV (kV k) v:=by
 rcases Zbm h with ⟨i,t,rfl,rfl⟩ | ⟨x,t,rfl,rfl⟩
 ·exact ⟨t,rfl⟩
 ·exact ⟨t,rfl⟩
noncomputable def Itd (d:Addr) (o:Obj) (kvs:List (Key × V)):It where
 go:=fun i H=>H d=some (.frz o (.dK kvs))∧i<kvs.length
 stop:=fun i H=>H d=some (.frz o (.dK kvs))∧kvs.length≤i
 yld:=fun i H x H'=>H'=H∧(kvs[i]?.map fun p=>kV p.1)=some x
theorem ZnQ {P:Program} {w:World} {K:W.Frag} {tg:Expr} (d it:Addr) (o:Obj) (kvs:List (Key × V)) (es:Array DictEntry) (ep:Nat) (ho:o.data=.dict es ep):Turn P w K tg (Itd d o kvs) [it] it (fun i h=>h.IsKeyIter it d i kvs.length ep) where
 mem:=by simp
 obj:=fun i h st b hb=>by
  have e:b=it:=by simpa using hb
  subst e
  obtain ⟨o,e,c,d⟩:=st
  exact ⟨o,e,fun v z=>by rw [d] at z; cases z⟩
 keep:=fun i h h' st k=>st.at fun o e=>k it (by simp) o e
 item:=by
  intro X hP hw hK hc i pins s σ H E I hf st hg
  subst hP hw hK
  obtain ⟨hq,hi⟩:=hg
  obtain ⟨g1,g2⟩:=(show s.heap.get? d=some o∧ObjOk X.prog X.w H s.heap d (.dK kvs) from I.hok d _ hq)
  obtain ⟨z,hd,vs,rel,dd⟩:=(show kvs.length≤sizeLine∧(d == sysModules)=false∧∃ vs,KV kvs vs∧s.heap.DictOf (Zbl X.prog X.w) d vs from g2)
  obtain ⟨o2,es2,ep2,b1,b2,b3,b4⟩:=dd
  rw [g1] at b1
  cases b1
  rw [ho] at b3
  cases b3
  have da:s.heap.DictAt (Zbl X.prog X.w) d vs ep:=⟨o,es,g1,b2,ho,b4⟩
  have hlen:vs.length=kvs.length:=rel.length.symm
  obtain ⟨x,hx⟩:=ZrN rel i kvs[i] (List.getElem?_eq_getElem hi)
  obtain ⟨f0,f1,f2,f3,f4,f5⟩:=hf it (by simp)
  rw [← hlen] at st
  refine wpAny_pyNext_dict_item st da hx fun key h' hkey st' sb=>?_
  have I1:Inv X pins σ H { s with heap:=h' }:=I.turned (t':=s.toks) (fun b o hb e=>(sb.2 b hb).trans e) f0 f1 f3 f4 f5
  rw [hlen] at st'
  obtain ⟨o3,e3,c3,d3⟩:=id st'
  exact ⟨key,rfl,Znb (s:={ s with heap:=h' }) e3 c3 d3 (by decide) ⟨kV kvs[i].1,H,I1,Zrz hkey,⟨rfl,by rw [List.getElem?_eq_getElem hi]; rfl⟩,st',fun b hb=>(hf b hb).1⟩⟩
 done:=by
  intro X hP hw hK hc i pins s σ H E I hf st hg
  subst hP hw hK
  obtain ⟨hq,hi⟩:=hg
  obtain ⟨g1,g2⟩:=(show s.heap.get? d=some o∧ObjOk X.prog X.w H s.heap d (.dK kvs) from I.hok d _ hq)
  obtain ⟨z,hd,vs,rel,dd⟩:=(show kvs.length≤sizeLine∧(d == sysModules)=false∧∃ vs,KV kvs vs∧s.heap.DictOf (Zbl X.prog X.w) d vs from g2)
  obtain ⟨o2,es2,ep2,b1,b2,b3,b4⟩:=dd
  rw [g1] at b1
  cases b1
  rw [ho] at b3
  cases b3
  have da:s.heap.DictAt (Zbl X.prog X.w) d vs ep:=⟨o,es,g1,b2,ho,b4⟩
  have hlen:vs.length=kvs.length:=rel.length.symm
  obtain ⟨f0,f1,f2,f3,f4,f5⟩:=hf it (by simp)
  rw [← hlen] at st
  exact wpAny_pyNext_dict_end (I.ok.hd hc) st da (List.getElem?_eq_none (by omega)) fun h' eb=>⟨rfl,I.turned (t':=s.toks) (fun b o hb e=>eb b o hb e) f0 f1 f3 f4 f5⟩
 self:=fun _ _ _ _ _ st h=>wpAny_pyIter_keyiter st h
def Zr1 (tl:TE):TI:=fun σ H R=>tl σ H fun x H1=>∃ a kvs,x=.ref a∧H1 a=some (.dK kvs)∧∀ o,R (Itd a o kvs) (upd H1 a (.frz o (.dK kvs)))
theorem ZqA {X:Cx} {tg l:Expr} {tl:TE} (hl:PE X l tl):PI X tg l (Zr1 tl):=by
 intro pins s σ H R I h
 refine thn (hl pins s σ H _ I h) fun v s1 ⟨x,H1,I1,r1,q1⟩=>?_
 obtain ⟨a,kvs,e,ha,q⟩:=q1
 subst e
 cases r1
 obtain ⟨z,hd,vs,rel,dd⟩:=Zq2 I1.hok ha
 obtain ⟨o,es,ep,b1,b2,b3,b4⟩:=id dd
 have da:s1.heap.DictAt (Zbl X.prog X.w) a vs ep:=⟨o,es,b1,b2,b3,b4⟩
 have hlen:vs.length=kvs.length:=rel.length.symm
 have If:Inv X pins σ (upd H1 a (.frz o (.dK kvs))) s1 :=
  I1.write (x:=a) (e:=a) (o:=.frz o (.dK kvs)) (h':=s1.heap) (t':=s1.toks) (by rw [ha]; exact True.intro) (.inl rfl) (fun b u _ e=>e) ⟨o,b1⟩ ⟨b1,z,hd,vs,rel,dd⟩
 refine wpAny_pyIter_dict hd da ?_
 refine ⟨s1.heap.objs.size,[s1.heap.objs.size],_,_,_,rfl,If.kept (t':=s1.toks) fun b o e=>Heap.get?_push_of_some _ e,ZnQ a _ o kvs es ep b3,⟨_,Heap.get?_push_size _ rfl,rfl,by rw [hlen]; rfl⟩,fun b hb=>?_,q o⟩
 have e:b=s1.heap.objs.size:=by simpa using hb
 subst e
 exact If.fpOk (Nat.le_refl _) (If.hok.fresh (Nat.le_refl _))
section
variable {X:Cx}
theorem Zn7 (K:W.Frag) (hc:X.calm=true) (hK:X.K=K:=by rfl):Zdd X (.builtin "sum") (fun xs H Q=>∃ (l:Addr) (is:List Int),xs=[.ref l]∧SqL K H l (is.map V.int)∧Q (.int is.sum) H):=by
 subst hK
 intro pins s σ H xs us Q I r h
 obtain ⟨l,is,rfl,hq,q⟩:=h
 obtain ⟨u,rfl,ru⟩:=ZfJ r
 cases (show u=Value.ref l from ru)
 obtain ⟨its,rv,pl,hz⟩:=I.list hq
 obtain ⟨ps,rfl,rfl⟩:=Zhl rv
 have hl:s.heap.IsList l (intItems ps.toArray):=by
  have:=pl.isList
  rwa [show (ps.map fun p=>Value.int p.1 p.2).toArray=intItems ps.toArray by simp [intItems]] at this
 refine sum_intListG (I.ok.hd hc) hl fun h' tk t' k=>?_
 rw [preSum_eq,List.take_of_length_le (by simp)]
 exact ⟨.int (ps.map (·.1)).sum,H,I.kept k,⟨t',rfl⟩,q⟩
theorem ZqO:bootBuiltins "sum"=some (.builtin "sum"):=by decide +kernel
end
section
variable {X:Cx}
end
section
variable {X:Cx}
end
def Zsw (D:Addr) (H H':Hp):Prop:=∀ b u,b≠D->H b=some u->H' b=some u
def Zsc (t:TS):TS:=fun D σ H=>∃ d kvs,H d=some (.dK kvs)∧t { nx:=fun σ' H'=>∃ o,H' d=some (.frz o (.dK kvs))∧D.nx σ' (upd H' d (.dK kvs)),rt:=fun _ _=>False } σ H
theorem Zp5 {X:Cx} {st:Stmt} {t:TS} (hs:PS X st t):PS X st (Zsc t):=by
 intro pins s σ H D I h
 obtain ⟨d,kvs,hd,h⟩:=h
 have n:∀ o u,X.H₀ d≠some (.frz o u):=fun o u z=>by
  have:=I.base.frzs d o u z
  rw [hd] at this
  cases this
 refine thn (hs pins s σ H _ I h) fun fl s1 q=>?_
 cases fl with
 | next =>
  obtain ⟨σ1,H1,I1,o,e1,q1⟩:=q
  exact ⟨σ1,_,I1.thaw e1 n,q1⟩
 | brk=>obtain ⟨σ1,H1,I1,z⟩:=q; exact z.elim
 | cont=>obtain ⟨σ1,H1,I1,z⟩:=q; exact z.elim
 | ret u=>obtain ⟨v,σ1,H1,I1,r,z⟩:=q; exact z.elim
structure FunD (K:W.Frag) (x qual:Str) (st:Stmt) (f:Addr) (fd:FuncData) (dV:Value):Prop where
 ex:∃ (oc:Value) (od:Option Addr) (kV doc pm:Value) (an:Option Addr) (cdv ct:Value) (osl:Array (Option Value)),
  fd=W.fnOf x qual (Zcg st) (ZbW st) (Zal st) dV kV doc pm an cdv ct∧K.lookup f=some ⟨oc,od,.func fd,osl⟩∧W.codeIn K cdv qual=true
 kp:W.keepIn K (.ref f)=true
theorem FunD.okX {P : Program} {w : World} {K : W.Frag} {mg : Str → Option Value} {base : Heap} {CX : CXT} {x qual : Str} {st : Stmt} {f : Addr} {fd : FuncData} {dV : Value} {N ps : List Str} {k : Nat} {sp : Sp} (F : FunD K x qual st f fd dV) (S : FnScope N ps (Zal st))
  (len:∀ vs H Q E,sp vs H Q E->vs.length=ps.length)
  (hbody:∀ (cdv:Value) (A:Around) (outer:List Env) (s:Shared) (H:Hp) (vs:List V) (Q:VK) (E:XK),Room k (A.deeper (envOfC qual (Zal st) s.heap.objs.size f cdv))->sp vs H Q E →
   ∃ t,PSs (Zo0 CX P w K mg base N qual (Zal st) f cdv A outer s H E) (ZbW st) t∧t { nx:=fun _ H'=>Q .non H',rt:=Q } (start N vs) H):FnOk P w K mg base CX (k+1) f fd ps sp:=by
 obtain ⟨oc,od,kV,doc,pm,an,cdv,ct,osl,rfl,lk,hcd⟩:=F.ex
 exact ZrI lk hcd S len fun A outer s H vs Q E hr hsp=>hbody cdv A outer s H vs Q E hr hsp
theorem Zk1 {K : W.Frag} {x qual : Str} {st : Stmt} {f : Addr} {oc : Value} {od an : Option Addr} {osl : Array (Option Value)} {dV kV doc pm cdv ct : Value} (l : K.lookup f=some ⟨oc, od, .func (W.fnOf x qual (Zcg st) (ZbW st) (Zal st) dV kV doc pm an cdv ct), osl⟩)
  (c:W.codeIn K cdv qual=true) (k:W.keepIn K (.ref f)=true):FunD K x qual st f (W.fnOf x qual (Zcg st) (ZbW st) (Zal st) dV kV doc pm an cdv ct) dV:=⟨⟨oc,od,kV,doc,pm,an,cdv,ct,osl,rfl,l,c⟩,k⟩
theorem FunD.binds1 {K : W.Frag} {x qual : Str} {st : Stmt} {f T : Addr} {fd : FuncData} {ps : List Str} {o : Obj} {n : Nat} (F : FunD K x qual st f fd (.ref T)) (ho : K.lookup T=some o) (hs : o.data=.seq #[.none] n)
  (h:∀ (kV doc pm:Value) (an:Option Addr) (cdv ct:Value) (us:List Value),us.length+1=ps.length->∃ k:Option (Array Value)->Sem (List (Str × Value)),
   bindArgs (W.fnOf x qual (Zcg st) (ZbW st) (Zal st) (.ref T) kV doc pm an cdv ct) ⟨us,[]⟩=seqItems? (.ref T) >>= k∧k (some #[.none])=pure (ps.zip (us++[.none]))):Binds K fd ps [.none]:=by
 obtain ⟨oc,od,kV,doc,pm,an,cdv,ct,osl,rfl,lk,hcd⟩:=F.ex
 intro s us hin hl
 rw [List.length_append] at hl
 obtain ⟨k,h1,h2⟩:=h kV doc pm an cdv ct us hl
 exact W.binds_K hin rfl ho hs h1 h2
section
variable {X:Cx} {body suite:List Stmt} {b₀:Stmt} {x n:Str} {C:Addr} {np hpos pos:Pos} {bmB:List Value} {newId:String} {i:Nat} {tb:XS->TS} {ts:TS}
end
end L2
namespace SA
open PySem PyProof.Rows
noncomputable def ZmB:Bool->Keyed->Array Keyed->Nat->Nat->Nat->StateT SortSt Sem (Option Nat):=sortPriv% PySem.Builtin.gallop
noncomputable def bey (left:Bool) (k:Keyed) (arr:Array Keyed) (b i:Nat):StateT SortSt Sem (Option Bool) :=
 elem' arr (b+i) >>= fun x=>if left=true then lt' x k else lt' k x >>= fun r=>pure (r.map fun y=>!y)
section
variable {M:Model} {A:Around} {E:Value->Shared->Prop} {s:Shared}
theorem ZnT {n : Nat} {P : Nat → Bool} {F : Nat → StateT SortSt Sem (Option Bool)} {st : SortSt} {Q : Option (Option Nat) × Nat × Nat → SortSt → Prop}
  (hF:∀ i,i<n->∀ Q:Option Bool->SortSt->Prop,Q (some (P i)) st->wpS M A E s (F i) Q st) (mono:∀ i j,i≤j->j<n->P j=true->P i=true) {lo hi:Nat}
  (h1:lo≤hi) (h2:hi≤n) (h3:∀ i,i<lo->P i=true) (h4:∀ i,hi≤i->i<n->P i=false)
  (h:∀ r,r≤n->(∀ i,i<r->P i=true)->(∀ i,r≤i->i<n->P i=false)->Q (none,r,r) st) :
  wpS M A E s (forIn [0:n] ((none,lo,hi):Option (Option Nat) × Nat × Nat) fun x c =>
   if c.2.1 ≥ c.2.2 then pure (ForInStep.done (none,c.2.1,c.2.2))
   else F (c.2.1+(c.2.2-c.2.1)/2) >>= fun y=>match y with
    | some more=>if more=true then pure (ForInStep.yield (none,c.2.1+(c.2.2-c.2.1)/2+1,c.2.2)) else pure (ForInStep.yield (none,c.2.1,c.2.1+(c.2.2-c.2.1)/2))
    | x=>pure (ForInStep.done (some none,c.2.1,c.2.2))) Q st:=by
 refine wpS_forRange (I:=fun x c st'=>st'=st∧c.1=none∧c.2.1≤c.2.2∧c.2.2≤n∧c.2.2-c.2.1≤n-x∧(∀ i,i<c.2.1->P i=true)∧(∀ i,c.2.2≤i->i<n->P i=false)) ?step ?fin
  ⟨rfl,rfl,h1,h2,by dsimp only; omega,h3,h4⟩
 case fin =>
  rintro ⟨r,l,u⟩ st' ⟨rfl,e,a1,a2,a3,a4,a5⟩
  dsimp only at e a1 a2 a3 a4 a5
  subst e
  obtain rfl:l=u:=by omega
  exact h _ a2 a4 a5
 case step =>
  rintro x ⟨r,l,u⟩ st' _ hx ⟨rfl,e,a1,a2,a3,a4,a5⟩
  dsimp only at e a1 a2 a3 a4 a5 ⊢
  subst e
  by_cases hlu:l ≥ u
  ·rw [if_pos hlu]
   obtain rfl:l=u:=by omega
   exact wpS_pure (h _ a2 a4 a5)
  ·rw [if_neg hlu]
   have hm:l+(u-l)/2<u:=by omega
   refine wpS_bind (hF _ (by omega) _ ?_)
   dsimp only
   cases hp:P (l+(u-l)/2)
   ·rw [if_neg (by simp)]
    refine wpS_pure ⟨rfl,rfl,by dsimp only; omega,by dsimp only; omega,by dsimp only; omega,a4,fun i hi hn=>?_⟩
    cases hpi:P i
    ·rfl
    ·have:=mono _ _ hi hn hpi; rw [hp] at this; cases this
   ·rw [if_pos rfl]
    refine wpS_pure ⟨rfl,rfl,by dsimp only; omega,a2,by dsimp only; omega,fun i hi=>mono i _ (by dsimp only at hi; omega) (by omega) hp,a5⟩
theorem Zky {left : Bool} {k : Keyed} {arr : Array Keyed} {b n hint : Nat} {st : SortSt} {Q : Option Nat → SortSt → Prop} (P : Nat → Bool) (hn : hint<n)
  (hF:∀ i,i<n->∀ Q:Option Bool->SortSt->Prop,Q (some (P i)) st->wpS M A E s (bey left k arr b i) Q st) (mono:∀ i j,i≤j->j<n->P j=true->P i=true)
  (h:∀ r,r≤n->(∀ i,i<r->P i=true)->(∀ i,r≤i->i<n->P i=false)->Q (some r) st):wpS M A E s (ZmB left k arr b n hint) Q st:=by
 delta ZmB
 refine wpS_bind (m:=bey left k arr b hint) (hF _ hn _ ?_)
 dsimp only
 cases hp:P hint
 ·rw [if_neg (by simp)]
  refine wpS_bind (wpS_mono (wpS_forRange (I:=fun x c st'=>st'=st∧c.1=none∧c.2.1<c.2.2∧c.2.1≤hint∧x+1≤c.2.2∧P (hint-c.2.1)=false)
   (Q:=fun c st'=>st'=st∧c.1=none∧c.2.1<c.2.2∧c.2.1≤hint∧P (hint-c.2.1)=false∧(hint+1≤c.2.2∨(c.2.2≤hint∧P (hint-c.2.2)=true))) ?step ?fin
   ⟨rfl,rfl,by dsimp only; omega,by dsimp only; omega,by dsimp only; omega,by simpa using hp⟩) ?post)
  case fin =>
   rintro ⟨r,l,u⟩ st' ⟨rfl,e,a1,a2,a3,a4⟩
   dsimp only at *
   exact ⟨rfl,e,a1,a2,a4,.inl (by omega)⟩
  case step =>
   rintro x ⟨r,l,u⟩ st' _ hx ⟨rfl,e,a1,a2,a3,a4⟩
   dsimp only at e a1 a2 a3 a4 ⊢
   subst e
   by_cases hu:u ≥ hint+1
   ·rw [if_pos hu]
    exact wpS_pure ⟨rfl,rfl,a1,a2,a4,.inl hu⟩
   ·rw [if_neg hu]
    refine wpS_bind (m:=bey left k arr b (hint-u)) (hF _ (by omega) _ ?_)
    dsimp only
    cases hq:P (hint-u)
    ·rw [if_neg (by simp)]
     exact wpS_pure ⟨rfl,rfl,by dsimp only; omega,by dsimp only; omega,by dsimp only; omega,hq⟩
    ·rw [if_pos rfl]
     exact wpS_pure ⟨rfl,rfl,a1,a2,a4,.inr ⟨by dsimp only; omega,hq⟩⟩
  case post =>
   rintro ⟨r,l,u⟩ st' ⟨rfl,e,a1,a2,a4,a5⟩
   dsimp only at e a1 a2 a4 a5 ⊢
   subst e
   dsimp only
   refine wpS_bind (ZnT (F:=bey left k arr b) (P:=P) hF mono (by omega) (by omega) ?_ ?_ fun r b1 b2 b3=>?_)
   ·intro i hi
    rcases a5 with a5 | ⟨a5,a6⟩
    ·omega
    ·exact mono i _ (by omega) (by omega) a6
   ·intro i hi hin
    cases hpi:P i
    ·rfl
    ·have:=mono _ _ hi hin hpi; rw [a4] at this; cases this
   ·dsimp only
    exact wpS_pure (h r b1 b2 b3)
 ·rw [if_pos rfl]
  refine wpS_bind (wpS_mono (wpS_forRange (I:=fun x c st'=>st'=st∧c.1=none∧c.2.1<c.2.2∧hint+c.2.1<n∧x+1≤c.2.2∧P (hint+c.2.1)=true)
   (Q:=fun c st'=>st'=st∧c.1=none∧c.2.1<c.2.2∧hint+c.2.1<n∧P (hint+c.2.1)=true∧(n≤hint+c.2.2∨(hint+c.2.2<n∧P (hint+c.2.2)=false))) ?step ?fin
   ⟨rfl,rfl,by dsimp only; omega,by dsimp only; omega,by dsimp only; omega,by simpa using hp⟩) ?post)
  case fin =>
   rintro ⟨r,l,u⟩ st' ⟨rfl,e,a1,a2,a3,a4⟩
   dsimp only at *
   exact ⟨rfl,e,a1,a2,a4,.inl (by omega)⟩
  case step =>
   rintro x ⟨r,l,u⟩ st' _ hx ⟨rfl,e,a1,a2,a3,a4⟩
   dsimp only at e a1 a2 a3 a4 ⊢
   subst e
   by_cases hu:u ≥ n-hint
   ·rw [if_pos hu]
    exact wpS_pure ⟨rfl,rfl,a1,a2,a4,.inl (by dsimp only; omega)⟩
   ·rw [if_neg hu]
    refine wpS_bind (m:=bey left k arr b (hint+u)) (hF _ (by omega) _ ?_)
    dsimp only
    cases hq:P (hint+u)
    ·rw [if_pos (by simp)]
     exact wpS_pure ⟨rfl,rfl,a1,a2,a4,.inr ⟨by dsimp only; omega,hq⟩⟩
    ·rw [if_neg (by simp)]
     exact wpS_pure ⟨rfl,rfl,by dsimp only; omega,by dsimp only; omega,by dsimp only; omega,hq⟩
  case post =>
   rintro ⟨r,l,u⟩ st' ⟨rfl,e,a1,a2,a4,a5⟩
   dsimp only at e a1 a2 a4 a5 ⊢
   subst e
   dsimp only
   refine wpS_bind (ZnT (F:=bey left k arr b) (P:=P) hF mono (by omega) (by omega) ?_ ?_ fun r b1 b2 b3=>?_)
   ·intro i hi
    exact mono i _ (by omega) (by omega) a4
   ·intro i hi hin
    rcases a5 with a5 | ⟨a5,a6⟩
    ·omega
    ·cases hpi:P i
     ·rfl
     ·have:=mono _ _ (show hint+u≤i by omega) hin hpi; rw [a6] at this; cases this
   ·dsimp only
    exact wpS_pure (h r b1 b2 b3)
def Cmp (M:Model) (A:Around) (E:Value->Shared->Prop) (s:Shared) (O:KeyOrd) (key:Keyed->O.α) (D:Keyed->Prop) (kd:SortKind):Prop :=
 ∀ (x y:Keyed) (st:SortSt) (Q:Option Bool->SortSt->Prop),D x->D y->kindOf st=kd->Q (some (O.blt (key x) (key y))) st->wpS M A E s (lt' x y) Q st
variable {O:KeyOrd} {key:Keyed->O.α} {D:Keyed->Prop} {kd:SortKind}
theorem ZaI {arr:Array Keyed} {i:Nat} {x:Keyed} {st:SortSt} {Q:Keyed->SortSt->Prop} (hx:arr[i]?=some x) (h:Q x st):wpS M A E s (elem' arr i) Q st:=by
 rw [elem'_eq,hx]; exact wpS_pure h
theorem ZpU (hc : Cmp M A E s O key D kd) {left : Bool} {k x : Keyed} {arr : Array Keyed} {b i : Nat} {st : SortSt} {Q : Option Bool → SortSt → Prop} (hk : kindOf st=kd) (hx : arr[b + i]?=some x) (dx : D x) (dk : D k)
  (h:Q (some (if left=true then O.blt (key x) (key k) else !O.blt (key k) (key x))) st):wpS M A E s (bey left k arr b i) Q st:=by
 unfold bey
 refine wpS_bind (ZaI hx ?_)
 cases left
 ·rw [if_neg (by simp)] at h ⊢
  exact wpS_bind (hc _ _ _ _ dk dx hk (wpS_pure h))
 ·rw [if_pos rfl] at h ⊢
  exact hc _ _ _ _ dx dk hk h
def Up (O:KeyOrd) (key:Keyed->O.α) (a:Array Keyed) (lo hi:Nat):Prop:=∀ i j x y,lo≤i->i≤j->j<hi->a[i]?=some x->a[j]?=some y->O.kle (key x) (key y)
theorem ZbY {a:Array Keyed} {i:Nat} (h:i<a.size):∃ x,a[i]?=some x:=⟨a[i],getElem?_pos a i h⟩
noncomputable def Zlh (O:KeyOrd) (key:Keyed->O.α) (a:Array Keyed) (d:O.α) (i:Nat):O.α:=match a[i]? with | some x=>key x | none=>d
theorem ZbS {a:Array Keyed} {d:O.α} {i:Nat} {x:Keyed} (h:a[i]?=some x):Zlh O key a d i=key x:=by unfold Zlh; rw [h]
theorem ZkY (hc : Cmp M A E s O key D kd) {k : Keyed} {arr : Array Keyed} {b n hint : Nat} {st : SortSt} {Q : Option Nat → SortSt → Prop} (hk : kindOf st=kd) (dk : D k) (hD : ∀ (i : Nat) x, arr[i]?=some x → D x)
  (hn:hint<n) (hs:b+n≤arr.size) (up:Up O key arr b (b+n))
  (h:∀ r,r≤n->(∀ i x,i<r->arr[b+i]?=some x->O.blt (key k) (key x)=false)->(∀ i x,r≤i->i<n->arr[b+i]?=some x->O.blt (key k) (key x)=true)->Q (some r) st) :
  wpS M A E s (ZmB false k arr b n hint) Q st:=by
 refine Zky (P:=fun i=>!O.blt (key k) (Zlh O key arr (key k) (b+i))) hn ?_ ?_ ?_
 ·intro i hi Q hQ
  obtain ⟨x,hx⟩:=ZbY (a:=arr) (i:=b+i) (by omega)
  refine ZpU hc hk hx (hD _ _ hx) dk ?_
  rw [if_neg (by simp)]
  rw [ZbS hx] at hQ
  exact hQ
 ·intro i j hij hj hp
  obtain ⟨x,hx⟩:=ZbY (a:=arr) (i:=b+i) (by omega)
  obtain ⟨y,hy⟩:=ZbY (a:=arr) (i:=b+j) (by omega)
  rw [ZbS hy] at hp
  rw [ZbS hx]
  simp only [Bool.not_eq_true'] at hp ⊢
  exact KeyOrd.kle_trans (up _ _ _ _ (by omega) (by omega) (by omega) hx hy) hp
 ·intro r h1 h2 h3
  refine h r h1 (fun i x hi hx=>?_) (fun i x hi hn hx=>?_)
  ·have:=h2 i hi; rw [ZbS hx] at this; simpa using this
  ·have:=h3 i hi hn; rw [ZbS hx] at this; simpa using this
theorem ZgX (hc : Cmp M A E s O key D kd) {k : Keyed} {arr : Array Keyed} {b n hint : Nat} {st : SortSt} {Q : Option Nat → SortSt → Prop} (hk : kindOf st=kd) (dk : D k) (hD : ∀ (i : Nat) x, arr[i]?=some x → D x)
  (hn:hint<n) (hs:b+n≤arr.size) (up:Up O key arr b (b+n))
  (h:∀ r,r≤n->(∀ i x,i<r->arr[b+i]?=some x->O.blt (key x) (key k)=true)->(∀ i x,r≤i->i<n->arr[b+i]?=some x->O.blt (key x) (key k)=false)->Q (some r) st) :
  wpS M A E s (ZmB true k arr b n hint) Q st:=by
 refine Zky (P:=fun i=>O.blt (Zlh O key arr (key k) (b+i)) (key k)) hn ?_ ?_ ?_
 ·intro i hi Q hQ
  obtain ⟨x,hx⟩:=ZbY (a:=arr) (i:=b+i) (by omega)
  refine ZpU hc hk hx (hD _ _ hx) dk ?_
  rw [if_pos rfl]
  rw [ZbS hx] at hQ
  exact hQ
 ·intro i j hij hj hp
  obtain ⟨x,hx⟩:=ZbY (a:=arr) (i:=b+i) (by omega)
  obtain ⟨y,hy⟩:=ZbY (a:=arr) (i:=b+j) (by omega)
  rw [ZbS hy] at hp
  rw [ZbS hx]
  exact KeyOrd.klt_of_kle_of_klt (up _ _ _ _ (by omega) (by omega) (by omega) hx hy) hp
 ·intro r h1 h2 h3
  refine h r h1 (fun i x hi hx=>?_) (fun i x hi hn hx=>?_)
  ·have:=h2 i hi; rw [ZbS hx] at this; exact this
  ·have:=h3 i hi hn; rw [ZbS hx] at this; exact this
end
noncomputable def mLo:Array Keyed->Array Keyed->StateT SortSt Sem (Array Keyed):=sortPriv% PySem.Builtin.mergeLo
def Eqv (st st':SortSt):Prop:=kindOf st'=kindOf st∧arrOf st'=arrOf st∧pendingOf st'=pendingOf st∧failedOf st'=failedOf st
section
variable {M:Model} {A:Around} {E:Value->Shared->Prop} {s:Shared} {O:KeyOrd} {key:Keyed->O.α} {D:Keyed->Prop} {kd:SortKind}
structure FrontI (O:KeyOrd) (key:Keyed->O.α) (a b:Array Keyed) (I:Nat->Nat->Array Keyed->Prop) (R:Array Keyed->Prop):Prop where
 mA:∀ ia ib out x y,I ia ib out->a[ia]?=some x->b[ib]?=some y->O.blt (key y) (key x)=false->I (ia+1) ib (out.push x)
 mB:∀ ia ib out x y,I ia ib out->a[ia]?=some x->b[ib]?=some y->O.blt (key y) (key x)=true->I ia (ib+1) (out.push y)
 eB:∀ ia ib out,I ia ib out->ib=b.size->R (out++a.extract ia a.size++b.extract ib b.size)
 eA:∀ ia ib out,I ia ib out->ia=a.size->R (out++a.extract ia a.size++b.extract ib b.size)
 eL:∀ ia ib out,I ia ib out->ia+1=a.size->R (out++b.extract ib b.size++a.extract ia a.size)
theorem Zif (a:Array Keyed) (i:Nat) (out:Array Keyed):out++a.extract i i=out:=by
 have:a.extract i i=#[]:=Array.eq_empty_of_size_eq_zero (by rw [Array.size_extract]; omega)
 rw [this]; simp
theorem ZiN {a:Array Keyed} {i k:Nat} {x:Keyed} {out:Array Keyed} (h:a[i+k]?=some x):(out++a.extract i (i+k)).push x=out++a.extract i (i+(k+1)):=by
 have hlt:i+k<a.size:=by
  rcases Nat.lt_or_ge (i+k) a.size with h' | h'
  ·exact h'
  ·rw [Array.getElem?_eq_none h'] at h; cases h
 have e:a[i+k]=x:=by rw [getElem?_pos a _ hlt] at h; injection h
 rw [← Array.append_push,← e,Array.push_extract_getElem]
 congr 2; omega
theorem FrontI.bulkA {a b : Array Keyed} {I : Nat → Nat → Array Keyed → Prop} {R : Array Keyed → Prop} (F : FrontI O key a b I R) {ia ib : Nat} {y : Keyed} {out : Array Keyed} (hy : b[ib]?=some y) (h : I ia ib out) :
  ∀ k,ia+k≤a.size->(∀ i x,i<k->a[ia+i]?=some x->O.blt (key y) (key x)=false)->I (ia+k) ib (out++a.extract ia (ia+k))
 | 0,_,_=>by rw [Nat.add_zero,Zif]; exact h
 | k+1,h1,h2=>by
  obtain ⟨x,hx⟩:=ZbY (a:=a) (i:=ia+k) (by omega)
  have z:=F.mA _ _ _ x y (F.bulkA hy h k (by omega) fun i x hi=>h2 i x (by omega)) hx hy (h2 k x (by omega) hx)
  rw [ZiN hx] at z
  exact z
theorem FrontI.bulkB {a b : Array Keyed} {I : Nat → Nat → Array Keyed → Prop} {R : Array Keyed → Prop} (F : FrontI O key a b I R) {ia ib : Nat} {x : Keyed} {out : Array Keyed} (hx : a[ia]?=some x) (h : I ia ib out) :
  ∀ k,ib+k≤b.size->(∀ i y,i<k->b[ib+i]?=some y->O.blt (key y) (key x)=true)->I ia (ib+k) (out++b.extract ib (ib+k))
 | 0,_,_=>by rw [Nat.add_zero,Zif]; exact h
 | k+1,h1,h2=>by
  obtain ⟨y,hy⟩:=ZbY (a:=b) (i:=ib+k) (by omega)
  have z:=F.mB _ _ _ x y (F.bulkB hx h k (by omega) fun i y hi=>h2 i y (by omega)) hx hy (h2 k y (by omega) hy)
  rw [ZiN hy] at z
  exact z
theorem ZqN (hc : Cmp M A E s O key D kd) {a b : Array Keyed} {I : Nat → Nat → Array Keyed → Prop} {R : Array Keyed → Prop} (F : FrontI O key a b I R) {st : SortSt} {Q : Array Keyed → SortSt → Prop} (hk : kindOf st=kd)
  (dA:∀ (i:Nat) x,a[i]?=some x->D x) (dB:∀ (i:Nat) x,b[i]?=some x->D x) (upA:Up O key a 0 a.size) (upB:Up O key b 0 b.size) (ha:0<a.size) {y0:Keyed} (hb:b[0]?=some y0) (h0:I 0 1 #[y0])
  (h:∀ r st',Eqv st st'->R r->Q r st'):wpS M A E s (mLo a b) Q st:=by
 have hb0:0<b.size:=by
  rcases Nat.lt_or_ge 0 b.size with h' | h'
  ·exact h'
  ·rw [Array.getElem?_eq_none h'] at hb; cases hb
 delta mLo
 refine wpS_bind (wpS_lift (wpAny_rule ⟨rfl,?_⟩))
 refine wpS_bind (m:=elem' b 0) (ZaI hb ?_)
 try dsimp only
 by_cases e1:1=b.size
 ·rw [if_pos (by simpa using e1)]
  exact wpS_pure (h _ _ ⟨rfl,rfl,rfl,rfl⟩ (F.eB _ _ _ h0 e1))
 rw [if_neg (by simpa using e1)]
 by_cases e2:0+1=a.size
 ·rw [if_pos (by simpa using e2)]
  exact wpS_pure (h _ _ ⟨rfl,rfl,rfl,rfl⟩ (F.eL _ _ _ h0 e2))
 rw [if_neg (by simpa using e2)]
 refine wpS_bind (wpS_get ?_)
 try dsimp only
 refine wpS_bind (wpS_mono (wpS_forRange (I:=fun x c st'=>Eqv st st'∧c.1=none∧I c.2.2.1 c.2.2.2.1 c.2.1∧c.2.2.1+1<a.size∧c.2.2.2.1<b.size∧x≤c.2.2.1+c.2.2.2.1)
  (Q:=fun c st'=>Eqv st st'∧∃ r,c.1=some r∧R r) ?step ?fin ⟨⟨rfl,rfl,rfl,rfl⟩,rfl,h0,by dsimp only; omega,by dsimp only; omega,Nat.zero_le _⟩) ?post)
 case fin =>
  rintro ⟨r,out,ia,ib,g⟩ st' ⟨q,e,i1,i2,i3,i4⟩
  dsimp only at e i1 i2 i3 i4
  omega
 case post =>
  rintro ⟨r,out,ia,ib,g⟩ st' ⟨q,r',e,i1⟩
  dsimp only at e
  subst e
  exact wpS_pure (h _ _ q i1)
 case step =>
  rintro z ⟨r,out,ia,ib,g⟩ st1 _ hz ⟨q1,e,i1,i2,i3,i4⟩
  dsimp only at e i1 i2 i3 i4 ⊢
  subst e
  refine wpS_bind (wpS_mono (wpS_forRange (I:=fun x c st'=>Eqv st st'∧c.1=none∧I c.2.2.1 c.2.2.2.1 c.2.1∧c.2.2.1+1<a.size∧c.2.2.2.1<b.size∧ia+ib+x≤c.2.2.1+c.2.2.2.1)
   (Q:=fun c st'=>Eqv st st'∧((∃ r,c.1=some r∧R r)∨(c.1=none∧I c.2.2.1 c.2.2.2.1 c.2.1∧c.2.2.1+1<a.size∧c.2.2.2.1<b.size∧ia+ib+1≤c.2.2.1+c.2.2.2.1))) ?step1 ?fin1
   ⟨q1,rfl,i1,i2,i3,by dsimp only; omega⟩) ?post1)
  case fin1 =>
   rintro ⟨r,out,ja,jb,ac,bc⟩ st' ⟨q,e,j1,j2,j3,j4⟩
   dsimp only at e j1 j2 j3 j4
   omega
  case step1 =>
   rintro x ⟨r,out,ja,jb,ac,bc⟩ st' _ hx ⟨q,e,j1,j2,j3,j4⟩
   dsimp only at e j1 j2 j3 j4 ⊢
   subst e
   obtain ⟨u,hu⟩:=ZbY (a:=a) (i:=ja) (by omega)
   obtain ⟨v,hv⟩:=ZbY (a:=b) (i:=jb) (by omega)
   refine wpS_bind (m:=elem' b jb) (ZaI hv ?_)
   refine wpS_bind (m:=elem' a ja) (ZaI hu ?_)
   refine wpS_bind (m:=lt' v u) (hc _ _ _ _ (dB _ _ hv) (dA _ _ hu) (q.1.trans hk) ?_)
   try dsimp only
   cases hl:O.blt (key v) (key u)
   ·rw [if_neg (by simp)]
    refine wpS_bind (m:=elem' a ja) (ZaI hu ?_)
    try dsimp only
    have k1:=F.mA _ _ _ _ _ j1 hu hv hl
    by_cases e3:ja+1+1=a.size
    ·rw [if_pos (by simpa using e3)]
     exact wpS_pure ⟨q,.inl ⟨_,rfl,F.eL _ _ _ k1 e3⟩⟩
    ·rw [if_neg (by simpa using e3)]
     split
     ·exact wpS_pure ⟨q,.inr ⟨rfl,k1,by dsimp only; omega,j3,by dsimp only; omega⟩⟩
     ·exact wpS_pure ⟨q,rfl,k1,by dsimp only; omega,j3,by dsimp only; omega⟩
   ·rw [if_pos rfl]
    refine wpS_bind (m:=elem' b jb) (ZaI hv ?_)
    try dsimp only
    have k1:=F.mB _ _ _ _ _ j1 hu hv hl
    by_cases e3:jb+1=b.size
    ·rw [if_pos (by simpa using e3)]
     exact wpS_pure ⟨q,.inl ⟨_,rfl,F.eB _ _ _ k1 e3⟩⟩
    ·rw [if_neg (by simpa using e3)]
     split
     ·exact wpS_pure ⟨q,.inr ⟨rfl,k1,j2,by dsimp only; omega,by dsimp only; omega⟩⟩
     ·exact wpS_pure ⟨q,rfl,k1,j2,by dsimp only; omega,by dsimp only; omega⟩
  case post1 =>
   rintro ⟨r,out,ja,jb,ac,bc⟩ st2 ⟨q2,⟨r',e,hR⟩ | ⟨e,j1,j2,j3,j4⟩⟩
   ·dsimp only at e ⊢
    subst e
    exact wpS_pure ⟨q2,_,rfl,hR⟩
   ·dsimp only at e j1 j2 j3 j4 ⊢
    subst e
    try dsimp only
    refine wpS_bind (wpS_lift (wpAny_rule ⟨rfl,?_⟩))
    refine wpS_bind (wpS_mono (wpS_forRange (I:=fun x c st'=>Eqv st st'∧c.1=none∧I c.2.2.1 c.2.2.2.1 c.2.1∧c.2.2.1+1<a.size∧c.2.2.2.1<b.size∧ia+ib+1≤c.2.2.1+c.2.2.2.1)
     (Q:=fun c st'=>Eqv st st'∧((∃ r,c.1=some r∧R r)∨(c.1=none∧I c.2.2.1 c.2.2.2.1 c.2.1∧c.2.2.1+1<a.size∧c.2.2.2.1<b.size∧ia+ib+1≤c.2.2.1+c.2.2.2.1))) ?step2 ?fin2
     ⟨q2,rfl,j1,j2,j3,by dsimp only; omega⟩) ?post2)
    case fin2 =>
     rintro ⟨r,out,la,lb,g2,ac2,bc2⟩ st' ⟨q,e,l1,l2,l3,l4⟩
     exact ⟨q,.inr ⟨e,l1,l2,l3,l4⟩⟩
    case post2 =>
     rintro ⟨r,out,la,lb,g2,ac2,bc2⟩ st' ⟨q,⟨r',e,hR⟩ | ⟨e,l1,l2,l3,l4⟩⟩
     ·dsimp only at e ⊢
      subst e
      exact wpS_pure ⟨q,_,rfl,hR⟩
     ·dsimp only at e l1 l2 l3 l4 ⊢
      subst e
      try dsimp only
      refine wpS_bind (wpS_modify ?_)
      exact wpS_pure ⟨q,rfl,l1,l2,l3,by dsimp only; omega⟩
    case step2 =>
     rintro x ⟨r,out,la,lb,g2,ac2,bc2⟩ st3 _ hx ⟨q3,e,l1,l2,l3,l4⟩
     dsimp only at e l1 l2 l3 l4 ⊢
     subst e
     obtain ⟨v,hv⟩:=ZbY (a:=b) (i:=lb) (by omega)
     rcases Nat.lt_or_ge 1 g2 with hg | hg
     all_goals
      first | rw [if_pos hg] | rw [if_neg (Nat.not_lt.mpr hg)]
      refine wpS_bind (wpS_modify ?_)
      refine wpS_bind (m:=elem' b lb) (ZaI hv ?_)
      refine wpS_bind (m:=ZmB false v a la (a.size-la) 0) (ZkY hc (q3.1.trans hk) (dB _ _ hv) dA (by omega) (by omega) (fun i j x y h1 h2 h3 h4 h5=>upA i j x y (by omega) h2 (by omega) h4 h5) fun k k1 k2 k3=>?_)
      try dsimp only
      by_cases hk0:k > 0
      ·rw [if_pos hk0]
       have m1:=F.bulkA hv l1 k (by omega) k2
       by_cases e3:la+k+1=a.size
       ·rw [if_pos (by simpa using e3)]
        exact wpS_pure ⟨q3,.inl ⟨_,rfl,F.eL _ _ _ m1 e3⟩⟩
       rw [if_neg (by simpa using e3)]
       by_cases e4:la+k=a.size
       ·rw [if_pos (by simpa using e4)]
        exact wpS_pure ⟨q3,.inl ⟨_,rfl,F.eA _ _ _ m1 e4⟩⟩
       rw [if_neg (by simpa using e4)]
       have nx:∀ u,a[la+k]?=some u->O.blt (key v) (key u)=true:=fun u hu=>k3 k u (Nat.le_refl _) (by omega) hu
       generalize out++a.extract la (la+k)=out1 at m1 ⊢
       obtain ⟨la1,hla⟩:∃ n,n=la+k:=⟨_,rfl⟩
       rw [← hla] at m1 nx e3 e4 ⊢
       obtain ⟨u,hu⟩:=ZbY (a:=a) (i:=la1) (by omega)
       refine wpS_bind (m:=elem' b lb) (ZaI hv ?_)
       try dsimp only
       have m2:=F.mB _ _ _ _ _ m1 hu hv (nx u hu)
       by_cases e5:lb+1=b.size
       ·rw [if_pos (by simpa using e5)]
        exact wpS_pure ⟨q3,.inl ⟨_,rfl,F.eB _ _ _ m2 e5⟩⟩
       rw [if_neg (by simpa using e5)]
       refine wpS_bind (m:=elem' a la1) (ZaI hu ?_)
       refine wpS_bind (m:=ZmB true u b (lb+1) (b.size-(lb+1)) 0) (ZgX hc (q3.1.trans hk) (dA _ _ hu) dB (by omega) (by omega) (fun i j x y h1 h2 h3 h4 h5=>upB i j x y (by omega) h2 (by omega) h4 h5) fun k' k1' k2' k3'=>?_)
       try dsimp only
       by_cases hk1:k' > 0
       ·rw [if_pos hk1]
        have m3:=F.bulkB hu m2 k' (by omega) k2'
        by_cases e6:lb+1+k'=b.size
        ·rw [if_pos (by simpa using e6)]
         exact wpS_pure ⟨q3,.inl ⟨_,rfl,F.eB _ _ _ m3 e6⟩⟩
        ·rw [if_neg (by simpa using e6)]
         obtain ⟨v2,hv2⟩:=ZbY (a:=b) (i:=lb+1+k') (by omega)
         have hl2:=k3' k' v2 (Nat.le_refl _) (by omega) hv2
         refine wpS_bind (m:=elem' a la1) (ZaI hu ?_)
         try dsimp only
         have m4:=F.mA _ _ _ _ _ m3 hu hv2 hl2
         by_cases e7:la1+1+1=a.size
         ·rw [if_pos (by simpa using e7)]
          exact wpS_pure ⟨q3,.inl ⟨_,rfl,F.eL _ _ _ m4 e7⟩⟩
         ·rw [if_neg (by simpa using e7)]
          split
          ·exact wpS_pure ⟨q3,.inr ⟨rfl,m4,by dsimp only; omega,by dsimp only; omega,by dsimp only; omega⟩⟩
          ·exact wpS_pure ⟨q3,rfl,m4,by dsimp only; omega,by dsimp only; omega,by dsimp only; omega⟩
       ·rw [if_neg hk1]
        obtain rfl:k'=0:=by omega
        have m3:=m2
        obtain ⟨v2,hv2⟩:=ZbY (a:=b) (i:=lb+1) (by omega)
        have hl2:=k3' 0 v2 (Nat.le_refl _) (by omega) hv2
        refine wpS_bind (m:=elem' a la1) (ZaI hu ?_)
        try dsimp only
        have m4:=F.mA _ _ _ _ _ m3 hu hv2 hl2
        by_cases e7:la1+1+1=a.size
        ·rw [if_pos (by simpa using e7)]
         exact wpS_pure ⟨q3,.inl ⟨_,rfl,F.eL _ _ _ m4 e7⟩⟩
        ·rw [if_neg (by simpa using e7)]
         split
         ·exact wpS_pure ⟨q3,.inr ⟨rfl,m4,by dsimp only; omega,by dsimp only; omega,by dsimp only; omega⟩⟩
         ·exact wpS_pure ⟨q3,rfl,m4,by dsimp only; omega,by dsimp only; omega,by dsimp only; omega⟩
      ·rw [if_neg hk0]
       obtain rfl:k=0:=by omega
       have m1:=l1
       have nx:∀ u,a[la]?=some u->O.blt (key v) (key u)=true:=fun u hu=>k3 0 u (Nat.le_refl _) (by omega) hu
       obtain ⟨la1,hla⟩:∃ n,n=la:=⟨_,rfl⟩
       rw [← hla] at m1 nx ⊢
       obtain ⟨u,hu⟩:=ZbY (a:=a) (i:=la1) (by omega)
       refine wpS_bind (m:=elem' b lb) (ZaI hv ?_)
       try dsimp only
       have m2:=F.mB _ _ _ _ _ m1 hu hv (nx u hu)
       by_cases e5:lb+1=b.size
       ·rw [if_pos (by simpa using e5)]
        exact wpS_pure ⟨q3,.inl ⟨_,rfl,F.eB _ _ _ m2 e5⟩⟩
       rw [if_neg (by simpa using e5)]
       refine wpS_bind (m:=elem' a la1) (ZaI hu ?_)
       refine wpS_bind (m:=ZmB true u b (lb+1) (b.size-(lb+1)) 0) (ZgX hc (q3.1.trans hk) (dA _ _ hu) dB (by omega) (by omega) (fun i j x y h1 h2 h3 h4 h5=>upB i j x y (by omega) h2 (by omega) h4 h5) fun k' k1' k2' k3'=>?_)
       try dsimp only
       by_cases hk1:k' > 0
       ·rw [if_pos hk1]
        have m3:=F.bulkB hu m2 k' (by omega) k2'
        by_cases e6:lb+1+k'=b.size
        ·rw [if_pos (by simpa using e6)]
         exact wpS_pure ⟨q3,.inl ⟨_,rfl,F.eB _ _ _ m3 e6⟩⟩
        ·rw [if_neg (by simpa using e6)]
         obtain ⟨v2,hv2⟩:=ZbY (a:=b) (i:=lb+1+k') (by omega)
         have hl2:=k3' k' v2 (Nat.le_refl _) (by omega) hv2
         refine wpS_bind (m:=elem' a la1) (ZaI hu ?_)
         try dsimp only
         have m4:=F.mA _ _ _ _ _ m3 hu hv2 hl2
         by_cases e7:la1+1+1=a.size
         ·rw [if_pos (by simpa using e7)]
          exact wpS_pure ⟨q3,.inl ⟨_,rfl,F.eL _ _ _ m4 e7⟩⟩
         ·rw [if_neg (by simpa using e7)]
          split
          ·exact wpS_pure ⟨q3,.inr ⟨rfl,m4,by dsimp only; omega,by dsimp only; omega,by dsimp only; omega⟩⟩
          ·exact wpS_pure ⟨q3,rfl,m4,by dsimp only; omega,by dsimp only; omega,by dsimp only; omega⟩
       ·rw [if_neg hk1]
        obtain rfl:k'=0:=by omega
        have m3:=m2
        obtain ⟨v2,hv2⟩:=ZbY (a:=b) (i:=lb+1) (by omega)
        have hl2:=k3' 0 v2 (Nat.le_refl _) (by omega) hv2
        refine wpS_bind (m:=elem' a la1) (ZaI hu ?_)
        try dsimp only
        have m4:=F.mA _ _ _ _ _ m3 hu hv2 hl2
        by_cases e7:la1+1+1=a.size
        ·rw [if_pos (by simpa using e7)]
         exact wpS_pure ⟨q3,.inl ⟨_,rfl,F.eL _ _ _ m4 e7⟩⟩
        ·rw [if_neg (by simpa using e7)]
         split
         ·exact wpS_pure ⟨q3,.inr ⟨rfl,m4,by dsimp only; omega,by dsimp only; omega,by dsimp only; omega⟩⟩
         ·exact wpS_pure ⟨q3,rfl,m4,by dsimp only; omega,by dsimp only; omega,by dsimp only; omega⟩
end
noncomputable def mHi:Array Keyed->Array Keyed->StateT SortSt Sem (Array Keyed):=sortPriv% PySem.Builtin.mergeHi
section
variable {M:Model} {A:Around} {E:Value->Shared->Prop} {s:Shared} {O:KeyOrd} {key:Keyed->O.α} {D:Keyed->Prop} {kd:SortKind}
structure BackI (O:KeyOrd) (key:Keyed->O.α) (a b:Array Keyed) (J:Nat->Nat->Array Keyed->Prop) (R:Array Keyed->Prop):Prop where
 mA:∀ na nb out x y,J (na+1) (nb+1) out->a[na]?=some x->b[nb]?=some y->O.blt (key y) (key x)=true->J na (nb+1) (out.push x)
 mB:∀ na nb out x y,J (na+1) (nb+1) out->a[na]?=some x->b[nb]?=some y->O.blt (key y) (key x)=false->J (na+1) nb (out.push y)
 eA:∀ na nb out,J na nb out->na=0->R (a.extract 0 na++b.extract 0 nb++out.reverse)
 eB:∀ na nb out,J na nb out->nb=0->R (a.extract 0 na++b.extract 0 nb++out.reverse)
 eF:∀ na nb out,J na nb out->nb=1->R (b.extract 0 nb++a.extract 0 na++out.reverse)
theorem Zoc (a:Array Keyed) (i:Nat) (out:Array Keyed):out++(a.extract i i).reverse=out:=by
 have:a.extract i i=#[]:=Array.eq_empty_of_size_eq_zero (by rw [Array.size_extract]; omega)
 rw [this]; simp
theorem Zn5 {a:Array Keyed} {i k:Nat} {x:Keyed} {out:Array Keyed} (h:a[i+k]?=some x):out.push x++(a.extract i (i+k)).reverse=out++(a.extract i (i+(k+1))).reverse:=by
 have e:a.extract i (i+(k+1))=(a.extract i (i+k)).push x:=by
  have z:=ZiN (out:=#[]) h
  simpa using z.symm
 rw [e]
 apply Array.toList_inj.mp
 simp
theorem BackI.bulkA {a b : Array Keyed} {J : Nat → Nat → Array Keyed → Prop} {R : Array Keyed → Prop} (F : BackI O key a b J R) {at_ nb : Nat} {y : Keyed} (hy : b[nb]?=some y) :
  ∀ k out,J (at_+k) (nb+1) out->at_+k≤a.size->(∀ i x,at_≤i->i<at_+k->a[i]?=some x->O.blt (key y) (key x)=true)->J at_ (nb+1) (out++(a.extract at_ (at_+k)).reverse)
 | 0,out,h,_,_=>by show J at_ (nb+1) (out++(a.extract at_ at_).reverse); rw [Zoc]; exact h
 | k+1,out,h,h1,h2=>by
  obtain ⟨x,hx⟩:=ZbY (a:=a) (i:=at_+k) (by omega)
  have z:=F.bulkA hy k (out.push x) (F.mA _ _ _ x y h hx hy (h2 _ x (by omega) (by omega) hx)) (by omega) fun i x h3 h4=>h2 i x h3 (by omega)
  rw [Zn5 hx] at z
  exact z
theorem BackI.bulkB {a b : Array Keyed} {J : Nat → Nat → Array Keyed → Prop} {R : Array Keyed → Prop} (F : BackI O key a b J R) {at_ na : Nat} {x : Keyed} (hx : a[na]?=some x) :
  ∀ k out,J (na+1) (at_+k) out->at_+k≤b.size->(∀ i y,at_≤i->i<at_+k->b[i]?=some y->O.blt (key y) (key x)=false)->J (na+1) at_ (out++(b.extract at_ (at_+k)).reverse)
 | 0,out,h,_,_=>by show J (na+1) at_ (out++(b.extract at_ at_).reverse); rw [Zoc]; exact h
 | k+1,out,h,h1,h2=>by
  obtain ⟨y,hy⟩:=ZbY (a:=b) (i:=at_+k) (by omega)
  have z:=F.bulkB hx k (out.push y) (F.mB _ _ _ x y h hx hy (h2 _ y (by omega) (by omega) hy)) (by omega) fun i x h3 h4=>h2 i x h3 (by omega)
  rw [Zn5 hy] at z
  exact z
theorem ZrH (hc : Cmp M A E s O key D kd) {a b : Array Keyed} {J : Nat → Nat → Array Keyed → Prop} {R : Array Keyed → Prop} (F : BackI O key a b J R) {st : SortSt} {Q : Array Keyed → SortSt → Prop} (hk : kindOf st=kd)
  (dA:∀ (i:Nat) x,a[i]?=some x->D x) (dB:∀ (i:Nat) x,b[i]?=some x->D x) (upA:Up O key a 0 a.size) (upB:Up O key b 0 b.size) (hb:0<b.size) {x0:Keyed} (ha:a[a.size-1]?=some x0) (h0:J (a.size-1) b.size #[x0])
  (h:∀ r st',Eqv st st'->R r->Q r st'):wpS M A E s (mHi a b) Q st:=by
 have ha0:0<a.size:=by
  rcases Nat.lt_or_ge 0 a.size with h' | h'
  ·exact h'
  ·rw [Array.getElem?_eq_none (by omega)] at ha; cases ha
 delta mHi
 refine wpS_bind (wpS_lift (wpAny_rule ⟨rfl,?_⟩))
 refine wpS_bind (m:=elem' a (a.size-1)) (ZaI ha ?_)
 try dsimp only
 by_cases e1:a.size-1=0
 ·rw [if_pos (by simpa using e1)]
  exact wpS_pure (h _ _ ⟨rfl,rfl,rfl,rfl⟩ (F.eA _ _ _ h0 e1))
 rw [if_neg (by simpa using e1)]
 by_cases e2:b.size=1
 ·rw [if_pos (by simpa using e2)]
  exact wpS_pure (h _ _ ⟨rfl,rfl,rfl,rfl⟩ (F.eF _ _ _ h0 e2))
 rw [if_neg (by simpa using e2)]
 refine wpS_bind (wpS_get ?_)
 try dsimp only
 refine wpS_bind (wpS_mono (wpS_forRange (I:=fun x c st'=>Eqv st st'∧c.1=none∧J c.2.1 c.2.2.1 c.2.2.2.1∧0<c.2.1∧c.2.1≤a.size∧1<c.2.2.1∧c.2.2.1≤b.size∧x+c.2.1+c.2.2.1≤a.size+b.size)
  (Q:=fun c st'=>Eqv st st'∧∃ r,c.1=some r∧R r) ?step ?fin ⟨⟨rfl,rfl,rfl,rfl⟩,rfl,h0,by dsimp only; omega,by dsimp only; omega,by dsimp only; omega,by dsimp only; omega,by dsimp only; omega⟩) ?post)
 case fin =>
  rintro ⟨r,na,nb,out,g⟩ st' ⟨q,e,i1,i2,i2',i3,i3',i4⟩
  dsimp only at e i1 i2 i2' i3 i3' i4
  omega
 case post =>
  rintro ⟨r,na,nb,out,g⟩ st' ⟨q,r',e,i1⟩
  dsimp only at e
  subst e
  exact wpS_pure (h _ _ q i1)
 case step =>
  rintro z ⟨r,na0,nb0,out,g⟩ st1 _ hz ⟨q1,e,i1,i2,i2',i3,i3',i4⟩
  dsimp only at e i1 i2 i2' i3 i3' i4 ⊢
  subst e
  refine wpS_bind (wpS_mono (wpS_forRange (I:=fun x c st'=>Eqv st st'∧c.1=none∧J c.2.1 c.2.2.1 c.2.2.2.1∧0<c.2.1∧c.2.1≤a.size∧1<c.2.2.1∧c.2.2.1≤b.size∧x+c.2.1+c.2.2.1≤na0+nb0)
   (Q:=fun c st'=>Eqv st st'∧((∃ r,c.1=some r∧R r)∨(c.1=none∧J c.2.1 c.2.2.1 c.2.2.2.1∧0<c.2.1∧c.2.1≤a.size∧1<c.2.2.1∧c.2.2.1≤b.size∧1+c.2.1+c.2.2.1≤na0+nb0))) ?step1 ?fin1
   ⟨q1,rfl,i1,i2,i2',i3,i3',by dsimp only; omega⟩) ?post1)
  case fin1 =>
   rintro ⟨r,na,nb,out,ac,bc⟩ st' ⟨q,e,j1,j2,j2',j3,j3',j4⟩
   dsimp only at e j1 j2 j2' j3 j3' j4
   omega
  case step1 =>
   rintro x ⟨r,na,nb,out,ac,bc⟩ st' _ hx ⟨q,e,j1,j2,j2',j3,j3',j4⟩
   dsimp only at e j1 j2 j2' j3 j3' j4 ⊢
   subst e
   obtain ⟨na,rfl⟩:∃ n,na=n+1:=⟨na-1,by omega⟩
   obtain ⟨nb,rfl⟩:∃ n,nb=n+1:=⟨nb-1,by omega⟩
   obtain ⟨u,hu⟩:=ZbY (a:=a) (i:=na) (by omega)
   obtain ⟨v,hv⟩:=ZbY (a:=b) (i:=nb) (by omega)
   refine wpS_bind (m:=elem' b nb) (ZaI hv ?_)
   refine wpS_bind (m:=elem' a na) (ZaI hu ?_)
   refine wpS_bind (m:=lt' v u) (hc _ _ _ _ (dB _ _ hv) (dA _ _ hu) (q.1.trans hk) ?_)
   try dsimp only
   cases hl:O.blt (key v) (key u)
   ·rw [if_neg (by simp)]
    refine wpS_bind (m:=elem' b nb) (ZaI hv ?_)
    try dsimp only
    have k1:=F.mB _ _ _ _ _ j1 hu hv hl
    by_cases e3:nb=1
    ·rw [if_pos (by simpa using e3)]
     exact wpS_pure ⟨q,.inl ⟨_,rfl,F.eF _ _ _ k1 e3⟩⟩
    ·rw [if_neg (by simpa using e3)]
     split
     ·exact wpS_pure ⟨q,.inr ⟨rfl,k1,by dsimp only; omega,by dsimp only; omega,by dsimp only; omega,by dsimp only; omega,by dsimp only; omega⟩⟩
     ·exact wpS_pure ⟨q,rfl,k1,by dsimp only; omega,by dsimp only; omega,by dsimp only; omega,by dsimp only; omega,by dsimp only; omega⟩
   ·rw [if_pos rfl]
    refine wpS_bind (m:=elem' a na) (ZaI hu ?_)
    try dsimp only
    have k1:=F.mA _ _ _ _ _ j1 hu hv hl
    by_cases e3:na=0
    ·rw [if_pos (by simpa using e3)]
     exact wpS_pure ⟨q,.inl ⟨_,rfl,F.eA _ _ _ k1 e3⟩⟩
    ·rw [if_neg (by simpa using e3)]
     split
     ·exact wpS_pure ⟨q,.inr ⟨rfl,k1,by dsimp only; omega,by dsimp only; omega,by dsimp only; omega,by dsimp only; omega,by dsimp only; omega⟩⟩
     ·exact wpS_pure ⟨q,rfl,k1,by dsimp only; omega,by dsimp only; omega,by dsimp only; omega,by dsimp only; omega,by dsimp only; omega⟩
  case post1 =>
   rintro ⟨r,na,nb,out,ac,bc⟩ st2 ⟨q2,⟨r',e,hR⟩ | ⟨e,j1,j2,j2',j3,j3',j4⟩⟩
   ·dsimp only at e ⊢
    subst e
    exact wpS_pure ⟨q2,_,rfl,hR⟩
   ·dsimp only at e j1 j2 j2' j3 j3' j4 ⊢
    subst e
    try dsimp only
    refine wpS_bind (wpS_lift (wpAny_rule ⟨rfl,?_⟩))
    refine wpS_bind (wpS_mono (wpS_forRange (I:=fun x c st'=>Eqv st st'∧c.1=none∧J c.2.1 c.2.2.1 c.2.2.2.1∧0<c.2.1∧c.2.1≤a.size∧1<c.2.2.1∧c.2.2.1≤b.size∧1+c.2.1+c.2.2.1≤na0+nb0)
     (Q:=fun c st'=>Eqv st st'∧((∃ r,c.1=some r∧R r)∨(c.1=none∧J c.2.1 c.2.2.1 c.2.2.2.1∧0<c.2.1∧c.2.1≤a.size∧1<c.2.2.1∧c.2.2.1≤b.size∧1+c.2.1+c.2.2.1≤na0+nb0))) ?step2 ?fin2
     ⟨q2,rfl,j1,j2,j2',j3,j3',j4⟩) ?post2)
    case fin2 =>
     rintro ⟨r,la,lb,out,g2,ac2,bc2⟩ st' ⟨q,e,l1,l2,l2',l3,l3',l4⟩
     exact ⟨q,.inr ⟨e,l1,l2,l2',l3,l3',l4⟩⟩
    case post2 =>
     rintro ⟨r,la,lb,out,g2,ac2,bc2⟩ st' ⟨q,⟨r',e,hR⟩ | ⟨e,l1,l2,l2',l3,l3',l4⟩⟩
     ·dsimp only at e ⊢
      subst e
      exact wpS_pure ⟨q,_,rfl,hR⟩
     ·dsimp only at e l1 l2 l2' l3 l3' l4 ⊢
      subst e
      try dsimp only
      refine wpS_bind (wpS_modify ?_)
      exact wpS_pure ⟨q,rfl,l1,l2,l2',l3,l3',by dsimp only; omega⟩
    case step2 =>
     rintro x ⟨r,la,lb,out,g2,ac2,bc2⟩ st3 _ hx ⟨q3,e,l1,l2,l2',l3,l3',l4⟩
     dsimp only at e l1 l2 l2' l3 l3' l4 ⊢
     subst e
     obtain ⟨lb,rfl⟩:∃ n,lb=n+1:=⟨lb-1,by omega⟩
     obtain ⟨v,hv⟩:=ZbY (a:=b) (i:=lb) (by omega)
     rcases Nat.lt_or_ge 1 g2 with hg | hg
     all_goals
      first | rw [if_pos hg] | rw [if_neg (Nat.not_lt.mpr hg)]
      refine wpS_bind (wpS_modify ?_)
      refine wpS_bind (m:=elem' b lb) (ZaI hv ?_)
      refine wpS_bind (m:=ZmB false v a 0 la (la-1)) (ZkY hc (q3.1.trans hk) (dB _ _ hv) dA (by omega) (by omega) (fun i j x y h1 h2 h3 h4 h5=>upA i j x y (by omega) h2 (by omega) h4 h5) fun at1 k1 k2 k3=>?_)
      simp only [Nat.zero_add] at k2 k3
      try dsimp only
      by_cases hk0:la-at1 > 0
      ·rw [if_pos hk0]
       have m1:=F.bulkA hv (at_:=at1) (la-at1) _ (by rw [Nat.add_sub_cancel' k1]; exact l1) (by omega) (fun i x h1 h2 h3=>k3 i x h1 (by omega) h3)
       rw [Nat.add_sub_cancel' k1] at m1
       by_cases e4:at1=0
       ·rw [if_pos (by simpa using e4)]
        exact wpS_pure ⟨q3,.inl ⟨_,rfl,F.eA _ _ _ m1 e4⟩⟩
       rw [if_neg (by simpa using e4)]
       have nx:∀ i u,i<at1->a[i]?=some u->O.blt (key v) (key u)=false:=fun i u hi hu=>k2 i u hi hu
       generalize out++(a.extract at1 la).reverse=out1 at m1 ⊢
       obtain ⟨la2,hla⟩:∃ n,n=at1:=⟨_,rfl⟩
       rw [← hla] at m1 nx e4 ⊢
       obtain ⟨la1,rfl⟩:∃ n,la2=n+1:=⟨la2-1,by omega⟩
       obtain ⟨u,hu⟩:=ZbY (a:=a) (i:=la1) (by omega)
       refine wpS_bind (m:=elem' b lb) (ZaI hv ?_)
       try dsimp only
       have m2:=F.mB _ _ _ _ _ m1 hu hv (nx la1 u (Nat.lt_succ_self _) hu)
       by_cases e5:lb=1
       ·rw [if_pos (by simpa using e5)]
        exact wpS_pure ⟨q3,.inl ⟨_,rfl,F.eF _ _ _ m2 e5⟩⟩
       rw [if_neg (by simpa using e5)]
       refine wpS_bind (m:=elem' a la1) (ZaI hu ?_)
       refine wpS_bind (m:=ZmB true u b 0 lb (lb-1)) (ZgX hc (q3.1.trans hk) (dA _ _ hu) dB (by omega) (by omega) (fun i j x y h1 h2 h3 h4 h5=>upB i j x y (by omega) h2 (by omega) h4 h5) fun at2 k1' k2' k3'=>?_)
       simp only [Nat.zero_add] at k2' k3'
       try dsimp only
       by_cases hk1:lb-at2 > 0
       ·have hk1':=hk1
        rw [show lb+1-1=lb from rfl,if_pos hk1]
        have m3:=F.bulkB hu (at_:=at2) (lb-at2) _ (by rw [Nat.add_sub_cancel' k1']; exact m2) (by omega) (fun i y h1 h2 h3=>k3' i y h1 (by omega) h3)
        rw [Nat.add_sub_cancel' k1'] at m3
        by_cases e6:at2=1
        ·rw [if_pos (by simpa using e6)]
         exact wpS_pure ⟨q3,.inl ⟨_,rfl,F.eF _ _ _ m3 e6⟩⟩
        rw [if_neg (by simpa using e6)]
        by_cases e8:at2=0
        ·rw [if_pos (by simpa using e8)]
         exact wpS_pure ⟨q3,.inl ⟨_,rfl,F.eB _ _ _ m3 e8⟩⟩
        rw [if_neg (by simpa using e8)]
        have nx2:∀ v,b[at2-1]?=some v->O.blt (key v) (key u)=true:=fun v hv=>k2' _ v (by omega) hv
        obtain ⟨lb1,rfl⟩:∃ n,at2=n+1:=⟨at2-1,by omega⟩
        obtain ⟨v2,hv2⟩:=ZbY (a:=b) (i:=lb1) (by omega)
        have hl2:=nx2 v2 hv2
        refine wpS_bind (m:=elem' a la1) (ZaI hu ?_)
        try dsimp only
        have m4:=F.mA _ _ _ _ _ m3 hu hv2 hl2
        by_cases e7:la1=0
        ·rw [if_pos (by simpa using e7)]
         exact wpS_pure ⟨q3,.inl ⟨_,rfl,F.eA _ _ _ m4 e7⟩⟩
        ·rw [if_neg (by simpa using e7)]
         split
         ·exact wpS_pure ⟨q3,.inr ⟨rfl,m4,by dsimp only; omega,by dsimp only; omega,by dsimp only; omega,by dsimp only; omega,by dsimp only; omega⟩⟩
         ·exact wpS_pure ⟨q3,rfl,m4,by dsimp only; omega,by dsimp only; omega,by dsimp only; omega,by dsimp only; omega,by dsimp only; omega⟩
       ·rw [show lb+1-1=lb from rfl,if_neg hk1]
        obtain rfl:at2=lb:=by omega
        have nx2:∀ v,b[at2-1]?=some v->O.blt (key v) (key u)=true:=fun v hv=>k2' _ v (by omega) hv
        obtain ⟨lb1,rfl⟩:∃ n,at2=n+1:=⟨at2-1,by omega⟩
        have m3:=m2
        obtain ⟨v2,hv2⟩:=ZbY (a:=b) (i:=lb1) (by omega)
        have hl2:=nx2 v2 hv2
        refine wpS_bind (m:=elem' a la1) (ZaI hu ?_)
        try dsimp only
        have m4:=F.mA _ _ _ _ _ m3 hu hv2 hl2
        by_cases e7:la1=0
        ·rw [if_pos (by simpa using e7)]
         exact wpS_pure ⟨q3,.inl ⟨_,rfl,F.eA _ _ _ m4 e7⟩⟩
        ·rw [if_neg (by simpa using e7)]
         split
         ·exact wpS_pure ⟨q3,.inr ⟨rfl,m4,by dsimp only; omega,by dsimp only; omega,by dsimp only; omega,by dsimp only; omega,by dsimp only; omega⟩⟩
         ·exact wpS_pure ⟨q3,rfl,m4,by dsimp only; omega,by dsimp only; omega,by dsimp only; omega,by dsimp only; omega,by dsimp only; omega⟩
      ·rw [if_neg hk0]
       obtain rfl:at1=la:=by omega
       have m1:=l1
       have nx:∀ i u,i<at1->a[i]?=some u->O.blt (key v) (key u)=false:=fun i u hi hu=>k2 i u hi hu
       obtain ⟨la2,hla⟩:∃ n,n=at1:=⟨_,rfl⟩
       rw [← hla] at m1 nx ⊢
       obtain ⟨la1,rfl⟩:∃ n,la2=n+1:=⟨la2-1,by omega⟩
       obtain ⟨u,hu⟩:=ZbY (a:=a) (i:=la1) (by omega)
       refine wpS_bind (m:=elem' b lb) (ZaI hv ?_)
       try dsimp only
       have m2:=F.mB _ _ _ _ _ m1 hu hv (nx la1 u (Nat.lt_succ_self _) hu)
       by_cases e5:lb=1
       ·rw [if_pos (by simpa using e5)]
        exact wpS_pure ⟨q3,.inl ⟨_,rfl,F.eF _ _ _ m2 e5⟩⟩
       rw [if_neg (by simpa using e5)]
       refine wpS_bind (m:=elem' a la1) (ZaI hu ?_)
       refine wpS_bind (m:=ZmB true u b 0 lb (lb-1)) (ZgX hc (q3.1.trans hk) (dA _ _ hu) dB (by omega) (by omega) (fun i j x y h1 h2 h3 h4 h5=>upB i j x y (by omega) h2 (by omega) h4 h5) fun at2 k1' k2' k3'=>?_)
       simp only [Nat.zero_add] at k2' k3'
       try dsimp only
       by_cases hk1:lb-at2 > 0
       ·have hk1':=hk1
        rw [show lb+1-1=lb from rfl,if_pos hk1]
        have m3:=F.bulkB hu (at_:=at2) (lb-at2) _ (by rw [Nat.add_sub_cancel' k1']; exact m2) (by omega) (fun i y h1 h2 h3=>k3' i y h1 (by omega) h3)
        rw [Nat.add_sub_cancel' k1'] at m3
        by_cases e6:at2=1
        ·rw [if_pos (by simpa using e6)]
         exact wpS_pure ⟨q3,.inl ⟨_,rfl,F.eF _ _ _ m3 e6⟩⟩
        rw [if_neg (by simpa using e6)]
        by_cases e8:at2=0
        ·rw [if_pos (by simpa using e8)]
         exact wpS_pure ⟨q3,.inl ⟨_,rfl,F.eB _ _ _ m3 e8⟩⟩
        rw [if_neg (by simpa using e8)]
        have nx2:∀ v,b[at2-1]?=some v->O.blt (key v) (key u)=true:=fun v hv=>k2' _ v (by omega) hv
        obtain ⟨lb1,rfl⟩:∃ n,at2=n+1:=⟨at2-1,by omega⟩
        obtain ⟨v2,hv2⟩:=ZbY (a:=b) (i:=lb1) (by omega)
        have hl2:=nx2 v2 hv2
        refine wpS_bind (m:=elem' a la1) (ZaI hu ?_)
        try dsimp only
        have m4:=F.mA _ _ _ _ _ m3 hu hv2 hl2
        by_cases e7:la1=0
        ·rw [if_pos (by simpa using e7)]
         exact wpS_pure ⟨q3,.inl ⟨_,rfl,F.eA _ _ _ m4 e7⟩⟩
        ·rw [if_neg (by simpa using e7)]
         split
         ·exact wpS_pure ⟨q3,.inr ⟨rfl,m4,by dsimp only; omega,by dsimp only; omega,by dsimp only; omega,by dsimp only; omega,by dsimp only; omega⟩⟩
         ·exact wpS_pure ⟨q3,rfl,m4,by dsimp only; omega,by dsimp only; omega,by dsimp only; omega,by dsimp only; omega,by dsimp only; omega⟩
       ·rw [show lb+1-1=lb from rfl,if_neg hk1]
        obtain rfl:at2=lb:=by omega
        have nx2:∀ v,b[at2-1]?=some v->O.blt (key v) (key u)=true:=fun v hv=>k2' _ v (by omega) hv
        obtain ⟨lb1,rfl⟩:∃ n,at2=n+1:=⟨at2-1,by omega⟩
        have m3:=m2
        obtain ⟨v2,hv2⟩:=ZbY (a:=b) (i:=lb1) (by omega)
        have hl2:=nx2 v2 hv2
        refine wpS_bind (m:=elem' a la1) (ZaI hu ?_)
        try dsimp only
        have m4:=F.mA _ _ _ _ _ m3 hu hv2 hl2
        by_cases e7:la1=0
        ·rw [if_pos (by simpa using e7)]
         exact wpS_pure ⟨q3,.inl ⟨_,rfl,F.eA _ _ _ m4 e7⟩⟩
        ·rw [if_neg (by simpa using e7)]
         split
         ·exact wpS_pure ⟨q3,.inr ⟨rfl,m4,by dsimp only; omega,by dsimp only; omega,by dsimp only; omega,by dsimp only; omega,by dsimp only; omega⟩⟩
         ·exact wpS_pure ⟨q3,rfl,m4,by dsimp only; omega,by dsimp only; omega,by dsimp only; omega,by dsimp only; omega,by dsimp only; omega⟩
end
section
variable {O:KeyOrd} {key:Keyed->O.α}
abbrev le (O:KeyOrd) (key:Keyed->O.α) (x y:Keyed):Prop:=O.kle (key x) (key y)
def ZhS (O:KeyOrd) (key:Keyed->O.α) (a b r:Array Keyed):Prop:=r.toList.Perm (a.toList++b.toList)∧r.toList.Pairwise (le O key)
theorem toL {a:Array Keyed} {i:Nat} {x:Keyed} (h:a[i]?=some x):a.toList[i]?=some x:=by rw [Array.getElem?_toList]; exact h
theorem Zdr {l:List Keyed} {i:Nat} {x:Keyed} (h:l[i]?=some x):l.drop i=x :: l.drop (i+1):=by
 obtain ⟨hi,e⟩:=List.getElem?_eq_some_iff.mp h
 rw [← e]; exact List.drop_eq_getElem_cons hi
theorem Zeb {l:List Keyed} {i:Nat} {x:Keyed} (h:l[i]?=some x):l.take (i+1)=l.take i++[x]:=by
 obtain ⟨hi,e⟩:=List.getElem?_eq_some_iff.mp h
 rw [← e]; exact List.take_succ_eq_append_getElem hi
theorem Zrf {a b : Array Keyed} (sa : a.toList.Pairwise (le O key)) (sb : b.toList.Pairwise (le O key)) (hl : ∀ x, a[a.size-1]?=some x → ∀ y, y ∈ b.toList → le O key y x) :
  FrontI O key a b (fun ia ib out=>out.toList.Perm (a.toList.take ia++b.toList.take ib)∧out.toList.Pairwise (le O key)∧(∀ o,o∈out.toList->∀ x,x∈a.toList.drop ia->le O key o x)∧(∀ o,o∈out.toList->∀ y,y∈b.toList.drop ib->le O key o y)) (ZhS O key a b) where
 mA:=by
  rintro ia ib out x y ⟨p,srt,ba,bb⟩ hx hy hlt
  have hx:=toL hx
  have hy:=toL hy
  have da:=Zdr hx
  have db:=Zdr hy
  have sa':=List.Pairwise.sublist (List.drop_sublist ia _) sa
  have sb':=List.Pairwise.sublist (List.drop_sublist ib _) sb
  rw [da] at sa'; rw [db] at sb'
  rw [List.pairwise_cons] at sa' sb'
  have hxy:le O key x y:=hlt
  refine ⟨?_,?_,?_,?_⟩
  ·rw [Array.toList_push,Zeb hx]
   exact ((p.append_right [x]).trans (by rw [List.append_assoc,List.append_assoc]; exact List.Perm.append_left _ List.perm_append_comm))
  ·rw [Array.toList_push,List.pairwise_append]
   refine ⟨srt,by simp,fun o ho z hz=>?_⟩
   rw [List.mem_singleton] at hz; subst hz
   exact ba o ho _ (by rw [da]; simp)
  ·intro o ho z hz
   rw [Array.toList_push,List.mem_append,List.mem_singleton] at ho
   rcases ho with ho | rfl
   ·exact ba o ho z (by rw [da]; exact List.mem_cons_of_mem _ hz)
   ·exact sa'.1 z hz
  ·intro o ho z hz
   rw [Array.toList_push,List.mem_append,List.mem_singleton] at ho
   rcases ho with ho | rfl
   ·exact bb o ho z hz
   ·rw [db,List.mem_cons] at hz
    rcases hz with rfl | hz
    ·exact hxy
    ·exact KeyOrd.kle_trans hxy (sb'.1 z hz)
 mB:=by
  rintro ia ib out x y ⟨p,srt,ba,bb⟩ hx hy hlt
  have hx:=toL hx
  have hy:=toL hy
  have da:=Zdr hx
  have db:=Zdr hy
  have sa':=List.Pairwise.sublist (List.drop_sublist ia _) sa
  have sb':=List.Pairwise.sublist (List.drop_sublist ib _) sb
  rw [da] at sa'; rw [db] at sb'
  rw [List.pairwise_cons] at sa' sb'
  have hxy:le O key y x:=KeyOrd.kle_of_klt hlt
  refine ⟨?_,?_,?_,?_⟩
  ·rw [Array.toList_push,Zeb hy,← List.append_assoc]
   exact p.append_right [y]
  ·rw [Array.toList_push,List.pairwise_append]
   refine ⟨srt,by simp,fun o ho z hz=>?_⟩
   rw [List.mem_singleton] at hz; subst hz
   exact bb o ho _ (by rw [db]; simp)
  ·intro o ho z hz
   rw [Array.toList_push,List.mem_append,List.mem_singleton] at ho
   rcases ho with ho | rfl
   ·exact ba o ho z hz
   ·rw [da,List.mem_cons] at hz
    rcases hz with rfl | hz
    ·exact hxy
    ·exact KeyOrd.kle_trans hxy (sa'.1 z hz)
  ·intro o ho z hz
   rw [Array.toList_push,List.mem_append,List.mem_singleton] at ho
   rcases ho with ho | rfl
   ·exact bb o ho z (by rw [db]; exact List.mem_cons_of_mem _ hz)
   ·exact sb'.1 z hz
 eB:=by
  rintro ia ib out ⟨p,srt,ba,bb⟩ rfl
  have e:(out++a.extract ia a.size++b.extract b.size b.size).toList=out.toList++a.toList.drop ia:=by
   rw [Zif]; simp [Array.toList_extract,List.extract_eq_take_drop,List.take_of_length_le]
  refine ⟨?_,?_⟩
  ·rw [e]
   refine (p.append_right _).trans ?_
   have t:b.toList.take b.size=b.toList:=List.take_of_length_le (by simp)
   rw [t,List.append_assoc]
   refine (List.Perm.append_left _ List.perm_append_comm).trans ?_
   rw [← List.append_assoc,List.take_append_drop]
  ·rw [e,List.pairwise_append]
   exact ⟨srt,List.Pairwise.sublist (List.drop_sublist _ _) sa,ba⟩
 eA:=by
  rintro ia ib out ⟨p,srt,ba,bb⟩ rfl
  have e:(out++a.extract a.size a.size++b.extract ib b.size).toList=out.toList++b.toList.drop ib:=by
   rw [Zif]; simp [Array.toList_extract,List.extract_eq_take_drop,List.take_of_length_le]
  refine ⟨?_,?_⟩
  ·rw [e]
   refine (p.append_right _).trans ?_
   have t:a.toList.take a.size=a.toList:=List.take_of_length_le (by simp)
   rw [t,List.append_assoc,List.take_append_drop]
  ·rw [e,List.pairwise_append]
   exact ⟨srt,List.Pairwise.sublist (List.drop_sublist _ _) sb,bb⟩
 eL:=by
  rintro ia ib out ⟨p,srt,ba,bb⟩ hia
  have e:(out++b.extract ib b.size++a.extract ia a.size).toList=out.toList++b.toList.drop ib++a.toList.drop ia:=by
   simp [Array.toList_extract,List.extract_eq_take_drop,List.take_of_length_le]
  obtain ⟨x,hx⟩:=ZbY (a:=a) (i:=ia) (by omega)
  have dl:a.toList.drop ia=[x]:=by
   rw [Zdr (toL hx),List.drop_of_length_le (by simp; omega)]
  refine ⟨?_,?_⟩
  ·rw [e]
   refine ((p.append_right _).append_right _).trans ?_
   have z:(a.toList.take ia++b.toList.take ib++b.toList.drop ib++a.toList.drop ia).Perm (a.toList.take ia++(b.toList++a.toList.drop ia)):=by
    rw [List.append_assoc (a.toList.take ia),List.take_append_drop,List.append_assoc]
   refine z.trans ?_
   refine (List.Perm.append_left _ List.perm_append_comm).trans ?_
   rw [← List.append_assoc,List.take_append_drop]
  ·rw [e,dl,List.pairwise_append,List.pairwise_append]
   refine ⟨⟨srt,List.Pairwise.sublist (List.drop_sublist _ _) sb,bb⟩,by simp,fun o ho z hz=>?_⟩
   rw [List.mem_singleton] at hz; subst hz
   rw [List.mem_append] at ho
   rcases ho with ho | ho
   ·exact ba o ho _ (by rw [dl]; simp)
   ·exact hl _ (by rw [← hia]; exact hx) o (List.mem_of_mem_drop ho)
theorem ZrX {a b : Array Keyed} (sa : a.toList.Pairwise (le O key)) (sb : b.toList.Pairwise (le O key)) (hl : ∀ y, b[0]?=some y → ∀ x, x ∈ a.toList → le O key y x) :
  BackI O key a b (fun na nb out=>na≤a.size∧nb≤b.size∧out.toList.Perm (a.toList.drop na++b.toList.drop nb)∧out.toList.reverse.Pairwise (le O key)∧(∀ o,o∈out.toList->∀ x,x∈a.toList.take na->le O key x o)∧(∀ o,o∈out.toList->∀ y,y∈b.toList.take nb->le O key y o)) (ZhS O key a b) where
 mA:=by
  rintro na nb out x y ⟨n1,n2,p,srt,ba,bb⟩ hx hy hlt
  have hx:=toL hx
  have hy:=toL hy
  have da:=Zeb hx
  have db:=Zeb hy
  have sa':=List.Pairwise.sublist (List.take_sublist (na+1) _) sa
  have sb':=List.Pairwise.sublist (List.take_sublist (nb+1) _) sb
  rw [da,List.pairwise_append] at sa'; rw [db,List.pairwise_append] at sb'
  have hxy:le O key y x:=KeyOrd.kle_of_klt hlt
  refine ⟨by omega,n2,?_,?_,?_,?_⟩
  ·rw [Array.toList_push,Zdr hx]
   exact (p.append_right [x]).trans List.perm_append_comm
  ·rw [Array.toList_push,List.reverse_append]
   show (x :: out.toList.reverse).Pairwise _
   rw [List.pairwise_cons]
   exact ⟨fun o ho=>ba o (by simpa using ho) x (by rw [da]; simp),srt⟩
  ·intro o ho z hz
   rw [Array.toList_push,List.mem_append,List.mem_singleton] at ho
   rcases ho with ho | rfl
   ·exact ba o ho z (by rw [da]; exact List.mem_append_left _ hz)
   ·exact sa'.2.2 z hz _ (by simp)
  ·intro o ho z hz
   rw [Array.toList_push,List.mem_append,List.mem_singleton] at ho
   rcases ho with ho | rfl
   ·exact bb o ho z hz
   ·rw [db,List.mem_append,List.mem_singleton] at hz
    rcases hz with hz | rfl
    ·exact KeyOrd.kle_trans (sb'.2.2 z hz _ (by simp)) hxy
    ·exact hxy
 mB:=by
  rintro na nb out x y ⟨n1,n2,p,srt,ba,bb⟩ hx hy hlt
  have hx:=toL hx
  have hy:=toL hy
  have da:=Zeb hx
  have db:=Zeb hy
  have sa':=List.Pairwise.sublist (List.take_sublist (na+1) _) sa
  have sb':=List.Pairwise.sublist (List.take_sublist (nb+1) _) sb
  rw [da,List.pairwise_append] at sa'; rw [db,List.pairwise_append] at sb'
  have hxy:le O key x y:=hlt
  refine ⟨n1,by omega,?_,?_,?_,?_⟩
  ·rw [Array.toList_push,Zdr hy]
   exact (p.append_right [y]).trans (by rw [List.append_assoc]; exact List.Perm.append_left _ List.perm_append_comm)
  ·rw [Array.toList_push,List.reverse_append]
   show (y :: out.toList.reverse).Pairwise _
   rw [List.pairwise_cons]
   exact ⟨fun o ho=>bb o (by simpa using ho) y (by rw [db]; simp),srt⟩
  ·intro o ho z hz
   rw [Array.toList_push,List.mem_append,List.mem_singleton] at ho
   rcases ho with ho | rfl
   ·exact ba o ho z hz
   ·rw [da,List.mem_append,List.mem_singleton] at hz
    rcases hz with hz | rfl
    ·exact KeyOrd.kle_trans (sa'.2.2 z hz _ (by simp)) hxy
    ·exact hxy
  ·intro o ho z hz
   rw [Array.toList_push,List.mem_append,List.mem_singleton] at ho
   rcases ho with ho | rfl
   ·exact bb o ho z (by rw [db]; exact List.mem_append_left _ hz)
   ·exact sb'.2.2 z hz _ (by simp)
 eA:=by
  rintro na nb out ⟨n1,n2,p,srt,ba,bb⟩ rfl
  have e:(a.extract 0 0++b.extract 0 nb++out.reverse).toList=b.toList.take nb++out.toList.reverse:=by
   simp [Array.toList_extract,List.extract_eq_take_drop]
  refine ⟨?_,?_⟩
  ·rw [e]
   refine ((List.reverse_perm _).trans p).append_left _ |>.trans ?_
   rw [List.drop_zero]
   refine List.perm_append_comm.trans ?_
   rw [List.append_assoc]
   refine List.Perm.append_left _ (List.perm_append_comm.trans ?_)
   rw [List.take_append_drop]
  ·rw [e,List.pairwise_append]
   exact ⟨List.Pairwise.sublist (List.take_sublist _ _) sb,srt,fun y hy o ho=>bb o (by simpa using ho) y hy⟩
 eB:=by
  rintro na nb out ⟨n1,n2,p,srt,ba,bb⟩ rfl
  have e:(a.extract 0 na++b.extract 0 0++out.reverse).toList=a.toList.take na++out.toList.reverse:=by
   simp [Array.toList_extract,List.extract_eq_take_drop]
  refine ⟨?_,?_⟩
  ·rw [e]
   refine ((List.reverse_perm _).trans p).append_left _ |>.trans ?_
   rw [List.drop_zero,← List.append_assoc,List.take_append_drop]
  ·rw [e,List.pairwise_append]
   exact ⟨List.Pairwise.sublist (List.take_sublist _ _) sa,srt,fun y hy o ho=>ba o (by simpa using ho) y hy⟩
 eF:=by
  rintro na nb out ⟨n1,n2,p,srt,ba,bb⟩ rfl
  have e:(b.extract 0 1++a.extract 0 na++out.reverse).toList=b.toList.take 1++(a.toList.take na++out.toList.reverse):=by
   simp [Array.toList_extract,List.extract_eq_take_drop]
  refine ⟨?_,?_⟩
  ·rw [e]
   have z:(a.toList.take na++out.toList.reverse).Perm (a.toList++b.toList.drop 1):=by
    refine (((List.reverse_perm _).trans p).append_left _).trans ?_
    rw [← List.append_assoc,List.take_append_drop]
   refine (z.append_left _).trans ?_
   refine List.perm_append_comm.trans ?_
   rw [List.append_assoc]
   refine List.Perm.append_left _ (List.perm_append_comm.trans ?_)
   rw [List.take_append_drop]
  ·rw [e,List.pairwise_append,List.pairwise_append]
   refine ⟨List.Pairwise.sublist (List.take_sublist _ _) sb,⟨List.Pairwise.sublist (List.take_sublist _ _) sa,srt,fun y hy o ho=>ba o (by simpa using ho) y hy⟩,fun y hy z hz=>?_⟩
   rw [List.mem_append] at hz
   rcases hz with hz | hz
   ·have hy0:b[0]?=some y:=by
     cases hb:b.toList with
     | nil=>rw [hb] at hy; simp at hy
     | cons c t =>
      rw [hb] at hy
      obtain rfl:y=c:=by simpa using hy
      rw [← Array.getElem?_toList,hb]; rfl
    exact hl y hy0 z (List.mem_of_mem_take hz)
   ·exact bb z (by simpa using hz) y hy
end
section
variable {M:Model} {A:Around} {E:Value->Shared->Prop} {s:Shared} {O:KeyOrd} {key:Keyed->O.α} {D:Keyed->Prop} {kd:SortKind}
theorem Zis {l:List Keyed} (h:l.Pairwise (le O key)) {i j:Nat} {x y:Keyed} (hij:i≤j) (hx:l[i]?=some x) (hy:l[j]?=some y):le O key x y:=by
 obtain ⟨hi,e1⟩:=List.getElem?_eq_some_iff.mp hx
 obtain ⟨hj,e2⟩:=List.getElem?_eq_some_iff.mp hy
 rcases Nat.lt_or_ge i j with h' | h'
 ·rw [← e1,← e2]; exact List.pairwise_iff_getElem.mp h i j hi hj h'
 ·obtain rfl:i=j:=by omega
  rw [← e1,← e2]; exact KeyOrd.kle_refl _
theorem ZdE {arr:Array Keyed} {P B S:List Keyed} (e:arr.toList=P++(B++S)) {i:Nat} (hi:i<B.length):arr[P.length+i]?=B[i]?:=by
 rw [← Array.getElem?_toList,e,List.getElem?_append_right (by omega),Nat.add_sub_cancel_left,List.getElem?_append_left hi]
theorem ZpC {arr:Array Keyed} {P B S:List Keyed} (e:arr.toList=P++(B++S)) (h:B.Pairwise (le O key)):Up O key arr P.length (P.length+B.length):=by
 intro i j x y h1 h2 h3 hx hy
 obtain ⟨i,rfl⟩:∃ k,i=P.length+k:=⟨i-P.length,by omega⟩
 obtain ⟨j,rfl⟩:∃ k,j=P.length+k:=⟨j-P.length,by omega⟩
 rw [ZdE e (by omega)] at hx hy
 exact Zis h (by omega) hx hy
theorem ZoT {a:Array Keyed} (h:a.toList.Pairwise (le O key)):Up O key a 0 a.size:=by
 intro i j x y _ h2 _ hx hy
 exact Zis h h2 (toL hx) (toL hy)
theorem ZlQ (hc : Cmp M A E s O key D kd) {x y : Array Keyed} {c : Prop} [Decidable c] {st : SortSt} {Q : Array Keyed → SortSt → Prop} (hk : kindOf st=kd) (dx : ∀ (i : Nat) u, x[i]?=some u → D u) (dy : ∀ (i : Nat) u, y[i]?=some u → D u)
  (sx:x.toList.Pairwise (le O key)) (sy:y.toList.Pairwise (le O key)) (hx:0<x.size) (hy:0<y.size) (h1:∀ v,y[0]?=some v->∀ u,u∈x.toList->le O key v u) (h2:∀ u,x[x.size-1]?=some u->∀ v,v∈y.toList->le O key v u)
  (h:∀ r st',Eqv st st'->ZhS O key x y r->Q r st'):wpS M A E s (if c then mLo x y else mHi x y) Q st:=by
 split
 ·obtain ⟨y0,hy0⟩:=ZbY (a:=y) (i:=0) hy
  refine ZqN hc (Zrf sx sy h2) hk dx dy (ZoT sx) (ZoT sy) hx hy0 ⟨?_,by simp,?_,?_⟩ h
  ·rw [Zeb (toL hy0)]; simp
  ·intro o ho u hu
   rw [List.drop_zero] at hu
   obtain rfl:o=y0:=by simpa using ho
   exact h1 _ hy0 u hu
  ·intro o ho u hu
   obtain rfl:o=y0:=by simpa using ho
   have z:=Zdr (toL hy0)
   rw [List.drop_zero] at z
   rw [z,List.pairwise_cons] at sy
   exact sy.1 u hu
 ·obtain ⟨x0,hx0⟩:=ZbY (a:=x) (i:=x.size-1) (by omega)
  refine ZrH hc (ZrX sx sy h1) hk dx dy (ZoT sx) (ZoT sy) hy hx0 ⟨by omega,Nat.le_refl _,?_,by simp,?_,?_⟩ h
  ·rw [Zdr (toL hx0),List.drop_of_length_le (by simp; omega),List.drop_of_length_le (by simp)]; simp
  ·intro o ho u hu
   obtain rfl:o=x0:=by simpa using ho
   have z:=Zeb (toL hx0)
   have sx':=List.Pairwise.sublist (List.take_sublist (x.size-1+1) _) sx
   rw [z,List.pairwise_append] at sx'
   exact sx'.2.2 u hu _ (by simp)
  ·intro o ho v hv
   obtain rfl:o=x0:=by simpa using ho
   exact h2 _ hx0 v (List.mem_of_mem_take hv)
theorem ZlN (sa : Nat) : ∀ (l : List Keyed) (k : Nat) (arr : Array Keyed), sa + k + l.length ≤ arr.size →
  ((l.zipIdx k).foldl (fun a p=>a.setIfInBounds (sa+p.2) p.1) arr).toList=arr.toList.take (sa+k)++(l++arr.toList.drop (sa+k+l.length))
 | [],k,arr,_=>by simp
 | x :: l,k,arr,h=>by
  rw [List.zipIdx_cons,List.foldl_cons,ZlN sa l (k+1) _ (by simp only [List.length_cons] at h; rw [Array.size_setIfInBounds]; omega)]
  simp only [List.length_cons] at h
  have e:(arr.setIfInBounds (sa+k) x).toList=arr.toList.take (sa+k)++x :: arr.toList.drop (sa+k+1):=by
   rw [Array.toList_setIfInBounds,List.set_eq_take_append_cons_drop,if_pos (by simp; omega)]
  dsimp only
  rw [e]
  have hlen:(arr.toList.take (sa+k)).length=sa+k:=by simp; omega
  have t:(arr.toList.take (sa+k)++x :: arr.toList.drop (sa+k+1)).take (sa+(k+1))=arr.toList.take (sa+k)++[x]:=by
   rw [List.take_append,hlen,List.take_of_length_le (by omega),show sa+(k+1)-(sa+k)=1 by omega]; rfl
  have d:(arr.toList.take (sa+k)++x :: arr.toList.drop (sa+k+1)).drop (sa+(k+1)+l.length)=arr.toList.drop (sa+k+(l.length+1)):=by
   rw [List.drop_append,hlen,List.drop_of_length_le (by omega),show sa+(k+1)+l.length-(sa+k)=l.length+1 by omega,List.drop_succ_cons,List.drop_drop,List.nil_append]
   congr 1; omega
  rw [t,d]; simp
end
section
variable {M:Model} {A:Around} {E:Value->Shared->Prop} {s:Shared} {O:KeyOrd} {key:Keyed->O.α} {D:Keyed->Prop} {kd:SortKind}
theorem Zqd {σ:Type} {x:σ} {Q:PUnit->σ->Prop} {st:σ} (h:Q ⟨⟩ x):wpS M A E s (set x:StateT σ Sem PUnit) Q st:=by
 unfold wpS; rw [StateT.run_set]; exact wpAny_pure ⟨rfl,h⟩
theorem Zp4 (hc : Cmp M A E s O key D kd) {x y : Array Keyed} {st : SortSt} {Q : Array Keyed → SortSt → Prop} (hk : kindOf st=kd) (dx : ∀ (i : Nat) u, x[i]?=some u → D u) (dy : ∀ (i : Nat) u, y[i]?=some u → D u)
  (sx:x.toList.Pairwise (le O key)) (sy:y.toList.Pairwise (le O key)) (hx:0<x.size) (hy:0<y.size) (h1:∀ v,y[0]?=some v->∀ u,u∈x.toList->le O key v u) (h2:∀ u,x[x.size-1]?=some u->∀ v,v∈y.toList->le O key v u)
  (h:∀ r st',Eqv st st'->ZhS O key x y r->Q r st'):wpS M A E s (mLo x y) Q st:=by
 have z:=ZlQ (c:=True) hc hk dx dy sx sy hx hy h1 h2 h
 rw [if_pos trivial] at z; exact z
theorem Zqr (hc : Cmp M A E s O key D kd) {x y : Array Keyed} {st : SortSt} {Q : Array Keyed → SortSt → Prop} (hk : kindOf st=kd) (dx : ∀ (i : Nat) u, x[i]?=some u → D u) (dy : ∀ (i : Nat) u, y[i]?=some u → D u)
  (sx:x.toList.Pairwise (le O key)) (sy:y.toList.Pairwise (le O key)) (hx:0<x.size) (hy:0<y.size) (h1:∀ v,y[0]?=some v->∀ u,u∈x.toList->le O key v u) (h2:∀ u,x[x.size-1]?=some u->∀ v,v∈y.toList->le O key v u)
  (h:∀ r st',Eqv st st'->ZhS O key x y r->Q r st'):wpS M A E s (mHi x y) Q st:=by
 have z:=ZlQ (c:=False) hc hk dx dy sx sy hx hy h1 h2 h
 rw [if_neg not_false] at z; exact z
theorem Znl {arr:Array Keyed} {P B S:List Keyed} (e:arr.toList=P++(B++S)) (i j:Nat) (hj:j≤B.length):(arr.extract (P.length+i) (P.length+j)).toList=(B.take j).drop i:=by
 rw [Array.toList_extract,List.extract_eq_take_drop,e]
 have h1:(P++(B++S)).drop (P.length+i)=(B++S).drop i:=by rw [← List.drop_drop,List.drop_left]
 rw [h1,show P.length+j-(P.length+i)=j-i by omega,List.drop_take,List.drop_append,List.take_append]
 rcases Nat.lt_or_ge j i with h' | h'
 ·rw [show j-i=0 by omega]; simp
 ·rw [show j-i-(List.drop i B).length=0 by rw [List.length_drop]; omega]; simp
theorem Zl0 (hc : Cmp M A E s O key D kd) {st : SortSt} {Q : Bool → SortSt → Prop} {i pw pw2 : Nat} {P X Y S : List Keyed} (hk : kindOf st=kd) (hf : failedOf st=none)
  (p1:(pendingOf st)[i]?=some (P.length,X.length,pw)) (p2:(pendingOf st)[i+1]?=some (P.length+X.length,Y.length,pw2)) (e:(arrOf st).toList=P++(X++(Y++S))) (hX:X≠[]) (hY:Y≠[])
  (sX:X.Pairwise (le O key)) (sY:Y.Pairwise (le O key)) (hD:∀ u,u∈(arrOf st).toList->D u)
  (h:∀ C st',C.Perm (X++Y)->C.Pairwise (le O key)->kindOf st'=kindOf st->failedOf st'=none->pendingOf st'=((pendingOf st).setIfInBounds i (P.length,X.length+Y.length,pw)).eraseIdxIfInBounds (i+1) →
   (arrOf st').toList=P++(C++S)->Q true st'):wpS M A E s (mergeAt' i) Q st:=by
 have hXl:0<X.length:=List.length_pos_iff.mpr hX
 have hYl:0<Y.length:=List.length_pos_iff.mpr hY
 have e':(arrOf st).toList=(P++X)++(Y++S):=by rw [e,List.append_assoc]
 have hsz:(arrOf st).size=P.length+X.length+Y.length+S.length:=by
  rw [← Array.length_toList,e]; simp only [List.length_append]; omega
 have hDa:∀ (j:Nat) u,(arrOf st)[j]?=some u->D u:=fun j u hu=>hD u (List.mem_of_getElem? (toL hu))
 obtain ⟨b0,hb0⟩:∃ b,Y[0]?=some b:=⟨Y[0],List.getElem?_eq_getElem hYl⟩
 obtain ⟨al,hal⟩:∃ b,X[X.length-1]?=some b:=⟨X[X.length-1],List.getElem?_eq_getElem (by omega)⟩
 have g0:(arrOf st)[P.length+X.length]?=some b0:=by
  have:=ZdE e' (i:=0) hYl
  rw [List.length_append,Nat.add_zero] at this
  rw [this]; exact hb0
 have g1:(arrOf st)[P.length+(X.length-1)]?=some al:=by rw [ZdE e (by omega)]; exact hal
 have upX:=ZpC (O:=O) (key:=key) e sX
 have upY:=ZpC (O:=O) (key:=key) e' sY
 rw [List.length_append] at upY
 have atX:∀ j u,j<X.length->(arrOf st)[P.length+j]?=some u->X[j]?=some u:=fun j u hj hu=>by rw [ZdE e hj] at hu; exact hu
 have atY:∀ j u,j<Y.length->(arrOf st)[P.length+X.length+j]?=some u->Y[j]?=some u:=fun j u hj hu=>by
  have:=ZdE e' (i:=j) hj
  rw [List.length_append] at this
  rw [this] at hu; exact hu
 delta mergeAt'
 refine wpS_bind (wpS_get ?_)
 dsimp only
 rw [p1,p2]
 dsimp only
 refine wpS_bind (Zqd ?_)
 refine wpS_bind (m:=elem' (arrOf st) (P.length+X.length)) (ZaI g0 ?_)
 refine wpS_bind (m:=ZmB false b0 (arrOf st) P.length X.length 0) (ZkY hc hk (hDa _ _ g0) hDa hXl (by omega) upX fun k k1 k2 k3=>?_)
 try dsimp only
 have all_le:(∀ u,u∈X->∀ v,v∈Y->le O key u v)->Q true (SortSt.mk' (kindOf st) (arrOf st) (((pendingOf st).setIfInBounds i (P.length,X.length+Y.length,pw)).eraseIdxIfInBounds (i+1)) (gallopOf st) (failedOf st)):=by
  intro hle
  refine h (X++Y) _ (List.Perm.refl _) ?_ rfl hf rfl (by show (arrOf st).toList=_; rw [e,List.append_assoc])
  rw [List.pairwise_append]
  exact ⟨sX,sY,hle⟩
 have b0le:∀ v,v∈Y->le O key b0 v:=by
  intro v hv
  obtain ⟨j,hj,ej⟩:=List.mem_iff_getElem.mp hv
  exact Zis sY (Nat.zero_le j) hb0 (by rw [List.getElem?_eq_getElem hj,ej])
 have leal:∀ u,u∈X->le O key u al:=by
  intro u hu
  obtain ⟨j,hj,ej⟩:=List.mem_iff_getElem.mp hu
  exact Zis (i:=j) (j:=X.length-1) sX (by omega) (by rw [List.getElem?_eq_getElem hj,ej]) hal
 by_cases hk0:X.length-k=0
 ·rw [if_pos (by simpa using hk0)]
  refine wpS_pure (all_le fun u hu v hv=>?_)
  obtain ⟨j,hj,ej⟩:=List.mem_iff_getElem.mp hu
  have z:=k2 j u (by omega) (by rw [ZdE e hj,List.getElem?_eq_getElem hj,ej])
  exact KeyOrd.kle_trans z (b0le v hv)
 rw [if_neg (by simpa using hk0)]
 refine wpS_bind (m:=elem' (arrOf st) (P.length+k+(X.length-k)-1)) (ZaI (by rw [show P.length+k+(X.length-k)-1=P.length+(X.length-1) by omega]; exact g1) ?_)
 refine wpS_bind (m:=ZmB true al (arrOf st) (P.length+X.length) Y.length (Y.length-1)) (ZgX hc hk (hDa _ _ g1) hDa (by omega) (by omega) upY fun n n1 n2 n3=>?_)
 try dsimp only
 by_cases hn0:n=0
 ·rw [if_pos (by simpa using hn0)]
  refine wpS_pure (all_le fun u hu v hv=>?_)
  obtain ⟨j,hj,ej⟩:=List.mem_iff_getElem.mp hv
  have z:=n3 j v (by omega) hj (by have:=ZdE e' (i:=j) hj; rw [List.length_append] at this; rw [this,List.getElem?_eq_getElem hj,ej])
  exact KeyOrd.kle_trans (leal u hu) z
 rw [if_neg (by simpa using hn0)]
 have ex:((arrOf st).extract (P.length+k) (P.length+X.length)).toList=X.drop k:=by rw [Znl e k X.length (Nat.le_refl _),List.take_length]
 have ey:((arrOf st).extract (P.length+X.length) (P.length+X.length+n)).toList=Y.take n:=by
  have:=Znl e' 0 n n1
  rw [List.length_append,Nat.add_zero] at this
  rw [this]; rfl
 have sx:((arrOf st).extract (P.length+k) (P.length+X.length)).size=X.length-k:=by rw [← Array.length_toList,ex,List.length_drop]
 have sy:((arrOf st).extract (P.length+X.length) (P.length+X.length+n)).size=n:=by rw [← Array.length_toList,ey,List.length_take]; omega
 have b0lt:∀ u,u∈X.drop k->le O key b0 u:=by
  intro u hu
  obtain ⟨j,hj,ej⟩:=List.mem_iff_getElem.mp hu
  rw [List.length_drop] at hj
  rw [List.getElem_drop] at ej
  exact KeyOrd.kle_of_klt (k3 (k+j) u (by omega) (by omega) (by rw [ZdE e (by omega),List.getElem?_eq_getElem (by omega),ej]))
 have ltal:∀ v,v∈Y.take n->le O key v al:=by
  intro v hv
  obtain ⟨j,hj,ej⟩:=List.mem_iff_getElem.mp hv
  rw [List.length_take] at hj
  rw [List.getElem_take] at ej
  refine KeyOrd.kle_of_klt (n2 j v (by omega) ?_)
  have:=ZdE e' (i:=j) (by omega)
  rw [List.length_append] at this
  rw [this,List.getElem?_eq_getElem (by omega),ej]
 have dx:∀ (i:Nat) u,((arrOf st).extract (P.length+k) (P.length+X.length))[i]?=some u->D u:=by
  intro j u hu
  have:=List.mem_of_getElem? (toL hu)
  rw [ex] at this
  exact hD u (by rw [e]; exact List.mem_append_right _ (List.mem_append_left _ (List.mem_of_mem_drop this)))
 have dy:∀ (i:Nat) u,((arrOf st).extract (P.length+X.length) (P.length+X.length+n))[i]?=some u->D u:=by
  intro j u hu
  have:=List.mem_of_getElem? (toL hu)
  rw [ey] at this
  exact hD u (by rw [e']; exact List.mem_append_right _ (List.mem_append_left _ (List.mem_of_mem_take this)))
 have srx:((arrOf st).extract (P.length+k) (P.length+X.length)).toList.Pairwise (le O key):=by
  rw [ex]; exact List.Pairwise.sublist (List.drop_sublist _ _) sX
 have sry:((arrOf st).extract (P.length+X.length) (P.length+X.length+n)).toList.Pairwise (le O key):=by
  rw [ey]; exact List.Pairwise.sublist (List.take_sublist _ _) sY
 have hm1:∀ v,((arrOf st).extract (P.length+X.length) (P.length+X.length+n))[0]?=some v->∀ u,u∈((arrOf st).extract (P.length+k) (P.length+X.length)).toList->le O key v u:=by
  intro v hv u hu
  have hv:=toL hv
  rw [ey,List.getElem?_take_of_lt (by omega),hb0] at hv
  obtain rfl:b0=v:=Option.some.inj hv
  rw [ex] at hu
  exact b0lt u hu
 have hm2:∀ u,((arrOf st).extract (P.length+k) (P.length+X.length))[((arrOf st).extract (P.length+k) (P.length+X.length)).size-1]?=some u->∀ v,v∈((arrOf st).extract (P.length+X.length) (P.length+X.length+n)).toList->le O key v u:=by
  intro u hu v hv
  have hu:=toL hu
  rw [ex,sx,List.getElem?_drop,show k+(X.length-k-1)=X.length-1 by omega,hal] at hu
  obtain rfl:al=u:=Option.some.inj hu
  rw [ey] at hv
  exact ltal v hv
 have rest : ∀ (r : Array Keyed) (st2 : SortSt), Eqv (SortSt.mk' (kindOf st) (arrOf st) (((pendingOf st).setIfInBounds i (P.length, X.length + Y.length, pw)).eraseIdxIfInBounds (i + 1)) (gallopOf st) (failedOf st)) st2 → ZhS O key ((arrOf st).extract (P.length + k) (P.length + X.length)) ((arrOf st).extract (P.length + X.length) (P.length + X.length + n)) r →
   wpS M A E s ((modify fun s=>SortSt.mk' (kindOf s) (r.toList.zipIdx.foldl (fun a p=>a.setIfInBounds (P.length+k+p.2) p.1) (arrOf s)) (pendingOf s) (gallopOf s) (failedOf s)) >>= fun _=>get >>= fun z:SortSt=>pure (failedOf z).isNone:StateT SortSt Sem Bool) Q st2:=by
  intro r st2 q mg
  obtain ⟨mp,ms⟩:=mg
  rw [ex,ey] at mp
  obtain ⟨q1,q2,q3,q4⟩:=q
  have hlen:r.toList.length=X.length-k+n:=by rw [mp.length_eq,List.length_append,List.length_drop,List.length_take]; omega
  have hpb:=ZlN (P.length+k) r.toList 0 (arrOf st) (by omega)
  have tk:(arrOf st).toList.take (P.length+k+0)=P++X.take k:=by
   rw [e,Nat.add_zero,List.take_append,List.take_of_length_le (by omega),Nat.add_sub_cancel_left,List.take_append,show k-X.length=0 by omega]; simp
  have dr:(arrOf st).toList.drop (P.length+k+0+r.toList.length)=Y.drop n++S:=by
   rw [e',hlen,List.drop_append,List.drop_of_length_le (by rw [List.length_append]; omega),List.length_append,show P.length+k+0+(X.length-k+n)-(P.length+X.length)=n by omega,List.drop_append,show n-Y.length=0 by omega]; simp
  rw [tk,dr] at hpb
  have fin:wpS M A E s (pure (failedOf st2).isNone:StateT SortSt Sem Bool) Q (SortSt.mk' (kindOf st2) (r.toList.zipIdx.foldl (fun a p=>a.setIfInBounds (P.length+k+p.2) p.1) (arrOf st2)) (pendingOf st2) (gallopOf st2) (failedOf st2)):=by
   have qf:failedOf st2=none:=q4.trans hf
   rw [qf]
   refine wpS_pure (h (X.take k++(r.toList++Y.drop n)) _ ?_ ?_ q1 rfl q3 ?_)
   ·have z:(X.take k++(r.toList++Y.drop n)).Perm (X.take k++((X.drop k++Y.take n)++Y.drop n)):=(mp.append_right _).append_left _
    refine z.trans ?_
    rw [List.append_assoc,List.take_append_drop,← List.append_assoc,List.take_append_drop]
   ·have memr:∀ u,u∈r.toList->u∈X.drop k∨u∈Y.take n:=fun u hu=>List.mem_append.mp (mp.mem_iff.mp hu)
    have sX':=sX
    rw [← List.take_append_drop k X,List.pairwise_append] at sX'
    have sY':=sY
    rw [← List.take_append_drop n Y,List.pairwise_append] at sY'
    have alY:∀ v,v∈Y.drop n->le O key al v:=by
     intro v hv
     obtain ⟨j,hj,ej⟩:=List.mem_iff_getElem.mp hv
     rw [List.length_drop] at hj
     rw [List.getElem_drop] at ej
     have:=ZdE e' (i:=n+j) (by omega)
     rw [List.length_append] at this
     exact n3 (n+j) v (by omega) (by omega) (by rw [this,List.getElem?_eq_getElem (by omega),ej])
    have tkb:∀ u,u∈X.take k->le O key u b0:=by
     intro u hu
     obtain ⟨j,hj,ej⟩:=List.mem_iff_getElem.mp hu
     rw [List.length_take] at hj
     rw [List.getElem_take] at ej
     exact k2 j u (by omega) (by rw [ZdE e (by omega),List.getElem?_eq_getElem (by omega),ej])
    rw [List.pairwise_append,List.pairwise_append]
    refine ⟨sX'.1,⟨ms,sY'.2.1,fun u hu v hv=>?_⟩,fun u hu v hv=>?_⟩
    ·rcases memr u hu with hu | hu
     ·exact KeyOrd.kle_trans (leal u (List.mem_of_mem_drop hu)) (alY v hv)
     ·exact sY'.2.2 u hu v hv
    ·rcases List.mem_append.mp hv with hv | hv
     ·rcases memr v hv with hv | hv
      ·exact sX'.2.2 u hu v hv
      ·exact KeyOrd.kle_trans (tkb u hu) (b0le v (List.mem_of_mem_take hv))
     ·exact KeyOrd.kle_trans (tkb u hu) (b0le v (List.mem_of_mem_drop hv))
   ·show (r.toList.zipIdx.foldl (fun a p=>a.setIfInBounds (P.length+k+p.2) p.1) (arrOf st2)).toList=_
    rw [show arrOf st2=arrOf st from q2,hpb]; simp
  exact wpS_bind (wpS_modify (wpS_bind (wpS_get fin)))
 rcases Nat.lt_or_ge n (X.length-k) with hnk | hnk
 ·rw [if_neg (by omega)]
  exact wpS_bind (Zqr hc (x:=(arrOf st).extract (P.length+k) (P.length+X.length)) (y:=(arrOf st).extract (P.length+X.length) (P.length+X.length+n)) hk dx dy srx sry (by omega) (by omega) hm1 hm2 rest)
 ·rw [if_pos hnk]
  exact wpS_bind (Zp4 hc (x:=(arrOf st).extract (P.length+k) (P.length+X.length)) (y:=(arrOf st).extract (P.length+X.length) (P.length+X.length+n)) hk dx dy srx sry (by omega) (by omega) hm1 hm2 rest)
end
section
variable {M:Model} {A:Around} {E:Value->Shared->Prop} {s:Shared} {O:KeyOrd} {key:Keyed->O.α} {D:Keyed->Prop} {kd:SortKind} {d:O.α}
structure Rn (lo:Nat) (st0 st:SortSt) (n:Nat):Prop where
 kind:kindOf st=kindOf st0
 fail:failedOf st=failedOf st0
 pend:pendingOf st=pendingOf st0
 perm:(arrOf st).Perm (arrOf st0)
 out:∀ k,k<lo∨lo+n≤k->(arrOf st)[k]?=(arrOf st0)[k]?
theorem Rn.refl (lo n:Nat) (st:SortSt):Rn lo st st n:=⟨rfl,rfl,rfl,Array.Perm.refl _,fun _ _=>rfl⟩
theorem Rn.mono {lo n m:Nat} {st0 st:SortSt} (h:Rn lo st0 st n) (hn:n≤m):Rn lo st0 st m:=⟨h.kind,h.fail,h.pend,h.perm,fun k hk=>h.out k (by omega)⟩
theorem Rn.size {lo n:Nat} {st0 st:SortSt} (h:Rn lo st0 st n):(arrOf st).size=(arrOf st0).size:=h.perm.size_eq
theorem Rn.mir {lo n i j:Nat} {st0 st:SortSt} (h:Rn lo st0 st n) (hi:lo≤i) (hj:j≤lo+n) (hs:j≤(arrOf st).size):Rn lo st0 (setArr st (mirror (arrOf st) i j ((j-i)/2))) n :=
 ⟨h.kind,h.fail,h.pend,(mirror_perm _ _ _ _).trans h.perm,fun k hk=>by
  show (mirror (arrOf st) i j ((j-i)/2))[k]?=_
  rw [getElem?_mirror_all hs,if_neg (by omega)]; exact h.out k hk⟩
noncomputable abbrev K (O:KeyOrd) (key:Keyed->O.α) (d:O.α) (a:Array Keyed) (i:Nat):O.α:=Zlh O key a d i
theorem Zqj {a:Array Keyed} {i j:Nat} (hj:j≤a.size) (k:Nat):K O key d (mirror a i j ((j-i)/2)) k=if i≤k∧k<j then K O key d a (i+j-1-k) else K O key d a k:=by
 unfold K Zlh
 rw [getElem?_mirror_all hj]
 by_cases c:i≤k∧k<j
 ·rw [if_pos c,if_pos c]
 ·rw [if_neg c,if_neg c]
theorem ZgY (hc : Cmp M A E s O key D kd) {st : SortSt} {i j : Nat} {Q : Option Bool → SortSt → Prop} (hk : kindOf st=kd) (hD : ∀ u, u ∈ (arrOf st).toList → D u) (hi : i<(arrOf st).size) (hj : j<(arrOf st).size)
  (h:Q (some (O.blt (K O key d (arrOf st) i) (K O key d (arrOf st) j))) st):wpS M A E s (ltAt' i j) Q st:=by
 obtain ⟨x,hx⟩:=ZbY hi
 obtain ⟨y,hy⟩:=ZbY hj
 rw [ltAt'_eq]
 refine wpS_bind (wpS_get ?_)
 refine wpS_bind (m:=elem' (arrOf st) i) (ZaI hx ?_)
 refine wpS_bind (m:=elem' (arrOf st) j) (ZaI hy ?_)
 refine hc _ _ _ _ (hD _ (List.mem_of_getElem? (toL hx))) (hD _ (List.mem_of_getElem? (toL hy))) hk ?_
 unfold K at h
 rw [ZbS hx,ZbS hy] at h
 exact h
def UpK (O:KeyOrd) (key:Keyed->O.α) (d:O.α) (a:Array Keyed) (lo hi:Nat):Prop:=∀ i j,lo≤i->i≤j->j<hi->O.kle (K O key d a i) (K O key d a j)
def DnK (O:KeyOrd) (key:Keyed->O.α) (d:O.α) (a:Array Keyed) (lo hi:Nat):Prop:=∀ i j,lo≤i->i≤j->j<hi->O.kle (K O key d a j) (K O key d a i)
theorem UpK.more {a:Array Keyed} {lo n:Nat} (h:UpK O key d a lo (lo+n)) (hn:0<n) (hl:O.blt (K O key d a (lo+n)) (K O key d a (lo+n-1))=false):UpK O key d a lo (lo+(n+1)):=by
 intro i j h1 h2 h3
 rcases Nat.lt_or_ge j (lo+n) with h4 | h4
 ·exact h i j h1 h2 h4
 ·obtain rfl:j=lo+n:=by omega
  rcases Nat.lt_or_ge i (lo+n) with h5 | h5
  ·exact KeyOrd.kle_trans (h i (lo+n-1) h1 (by omega) (by omega)) hl
  ·obtain rfl:i=lo+n:=by omega
   exact KeyOrd.kle_refl _
theorem DnK.more {a:Array Keyed} {lo n:Nat} (h:DnK O key d a lo (lo+n)) (hn:0<n) (hl:O.kle (K O key d a (lo+n)) (K O key d a (lo+n-1))):DnK O key d a lo (lo+(n+1)):=by
 intro i j h1 h2 h3
 rcases Nat.lt_or_ge j (lo+n) with h4 | h4
 ·exact h i j h1 h2 h4
 ·obtain rfl:j=lo+n:=by omega
  rcases Nat.lt_or_ge i (lo+n) with h5 | h5
  ·exact KeyOrd.kle_trans hl (h i (lo+n-1) h1 (by omega) (by omega))
  ·obtain rfl:i=lo+n:=by omega
   exact KeyOrd.kle_refl _
theorem ZjK (hc : Cmp M A E s O key D kd) {st : SortSt} {lo a nrem : Nat} {Q : Option (Option Nat) × Nat → SortSt → Prop} (hk : kindOf st=kd) (hD : ∀ u, u ∈ (arrOf st).toList → D u) (ha : 1 ≤ a) (han : a ≤ nrem) (hs : lo + nrem ≤ (arrOf st).size)
  (up:UpK O key d (arrOf st) lo (lo+a))
  (h:∀ n,a≤n->n≤nrem->UpK O key d (arrOf st) lo (lo+n)->(n=nrem∨O.blt (K O key d (arrOf st) (lo+n)) (K O key d (arrOf st) (lo+n-1))=true)->Q (none,n) st) :
  wpS M A E s (forIn [a:nrem] ((none,a):Option (Option Nat) × Nat) fun x c=>ltAt' (lo+c.2) (lo+c.2-1) >>= fun y=>match y with
   | some smaller=>if smaller=true then pure (ForInStep.done (none,c.2)) else pure (ForInStep.yield (none,c.2+1))
   | x=>pure (ForInStep.done (some none,c.2))) Q st:=by
 refine wpS_forRange (I:=fun x c st'=>st'=st∧c=(none,x)∧UpK O key d (arrOf st) lo (lo+x)) ?step ?fin ⟨rfl,rfl,up⟩
 case fin =>
  rintro c st' ⟨rfl,rfl,hs'⟩
  rw [show max a nrem=nrem by omega] at hs' ⊢
  exact h nrem han (Nat.le_refl _) hs' (.inl rfl)
 case step =>
  rintro x c st' h1 h2 ⟨rfl,rfl,hs'⟩
  dsimp only
  refine wpS_bind (ZgY (d:=d) hc hk hD (by omega) (by omega) ?_)
  cases hl:O.blt (K O key d (arrOf st') (lo+x)) (K O key d (arrOf st') (lo+x-1))
  ·dsimp only
   rw [if_neg (by simp)]
   exact wpS_pure ⟨rfl,rfl,hs'.more (by omega) hl⟩
  ·dsimp only
   rw [if_pos rfl]
   exact wpS_pure (h x h1 (by omega) hs' (.inr hl))
theorem UpK.rev {a:Array Keyed} {lo n:Nat} (h:DnK O key d a lo (lo+n)) (hs:lo+n≤a.size):UpK O key d (mirror a lo (lo+n) ((lo+n-lo)/2)) lo (lo+n):=by
 intro i j h1 h2 h3
 rw [Zqj hs,Zqj hs,if_pos (by omega),if_pos (by omega)]
 exact h _ _ (by omega) (by omega) (by omega)
theorem ZlU {a:Array Keyed} {i j:Nat} (hs:j≤a.size) (he:∀ k,i≤k->k<j->K O key d a k=K O key d a (j-1)) (k:Nat):K O key d (mirror a i j ((j-i)/2)) k=K O key d a k:=by
 rw [Zqj hs]
 split
 ·rw [he _ (by omega) (by omega),he k (by omega) (by omega)]
 ·rfl
theorem ZgA {a b:Array Keyed} (p:a.Perm b) (h:∀ u,u∈b.toList->D u):∀ u,u∈a.toList->D u:=fun u hu=>h u ((Array.perm_iff_toList_perm.mp p).mem_iff.mp hu)
theorem Zno (hc : Cmp M A E s O key D kd) {st0 st : SortSt} {lo n0 nrem : Nat} {Q : Option Nat → SortSt → Prop} (hk : kindOf st0=kd) (hD : ∀ u, u ∈ (arrOf st0).toList → D u) (h1 : 1 ≤ n0) (hn0 : n0 + 1 ≤ nrem) (hs : lo + nrem ≤ (arrOf st0).size)
  (rn:Rn lo st0 st (n0+1)) (dn:DnK O key d (arrOf st) lo (lo+(n0+1)))
  {T:Option (Option Nat) × Nat × Nat->StateT SortSt Sem (Option Nat)}
  (hT:∀ n neq st',Rn lo st0 st' n->n0+1≤n->n≤nrem->DnK O key d (arrOf st') lo (lo+n)->neq+1≤n->(∀ k,lo+n-(neq+1)≤k->k<lo+n->K O key d (arrOf st') k=K O key d (arrOf st') (lo+n-1))->wpS M A E s (T (none,n,neq)) Q st') :
  wpS M A E s ((forIn [n0+1:nrem] ((none,n0+1,0):Option (Option Nat) × Nat × Nat) fun x c=>ltAt' (lo+c.2.1) (lo+c.2.1-1) >>= fun y=>match y with
   | some smaller=>if smaller=true then (if c.2.2 > 0 then (reverseSlice' (lo+c.2.1-(c.2.2+1)) (lo+c.2.1) >>= fun _=>pure (ForInStep.yield (none,c.2.1+1,0))) else pure (ForInStep.yield (none,c.2.1+1,0)))
    else ltAt' (lo+c.2.1-1) (lo+c.2.1) >>= fun z=>match z with
     | some larger=>if larger=true then pure (ForInStep.done (none,c.2.1,c.2.2)) else pure (ForInStep.yield (none,c.2.1+1,c.2.2+1))
     | x=>pure (ForInStep.done (some none,c.2.1,c.2.2))
   | x=>pure (ForInStep.done (some none,c.2.1,c.2.2))) >>= T) Q st:=by
 refine wpS_bind (wpS_mono (wpS_forRange (I:=fun x c st'=>∃ neq,c=(none,x,neq)∧Rn lo st0 st' x∧DnK O key d (arrOf st') lo (lo+x)∧neq+1≤x∧(∀ k,lo+x-(neq+1)≤k->k<lo+x->K O key d (arrOf st') k=K O key d (arrOf st') (lo+x-1)))
  (Q:=fun c st'=>∃ n neq,c=(none,n,neq)∧n0+1≤n∧n≤nrem∧Rn lo st0 st' n∧DnK O key d (arrOf st') lo (lo+n)∧neq+1≤n∧(∀ k,lo+n-(neq+1)≤k->k<lo+n->K O key d (arrOf st') k=K O key d (arrOf st') (lo+n-1))) ?step ?fin
  ⟨0,rfl,rn,dn,by omega,fun k h1 h2=>by rw [show k=lo+(n0+1)-1 by omega]⟩) ?post)
 case post =>
  rintro c st' ⟨n,neq,rfl,a1,a2,a3,a4,a5,a6⟩
  exact hT n neq st' a3 a1 a2 a4 a5 a6
 case fin =>
  rintro c st' ⟨neq,rfl,a3,a4,a5,a6⟩
  rw [show max (n0+1) nrem=nrem by omega] at a3 a4 a5 a6
  exact ⟨nrem,neq,by rw [show max (n0+1) nrem=nrem by omega],hn0,Nat.le_refl _,a3,a4,a5,a6⟩
 case step =>
  rintro x c st' hx1 hx2 ⟨neq,rfl,a3,a4,a5,a6⟩
  dsimp only
  have hsz:=a3.size
  have hk':=a3.kind.trans hk
  have hD':=ZgA a3.perm hD
  refine wpS_bind (ZgY (d:=d) hc hk' hD' (by omega) (by omega) ?_)
  cases hl:O.blt (K O key d (arrOf st') (lo+x)) (K O key d (arrOf st') (lo+x-1))
  ·dsimp only
   rw [if_neg (by simp)]
   refine wpS_bind (ZgY (d:=d) hc hk' hD' (by omega) (by omega) ?_)
   cases hl2:O.blt (K O key d (arrOf st') (lo+x-1)) (K O key d (arrOf st') (lo+x))
   ·dsimp only
    rw [if_neg (by simp)]
    have eq:K O key d (arrOf st') (lo+x)=K O key d (arrOf st') (lo+x-1):=KeyOrd.kle_antisymm hl2 hl
    refine wpS_pure ⟨neq+1,rfl,a3.mono (by omega),a4.more (by omega) hl2,by omega,fun k hk1 hk2=>?_⟩
    rw [show lo+(x+1)-1=lo+x by omega]
    rcases Nat.lt_or_ge k (lo+x) with hk3 | hk3
    ·rw [a6 k (by omega) hk3]; exact eq.symm
    ·rw [show k=lo+x by omega]
   ·dsimp only
    rw [if_pos rfl]
    exact wpS_pure ⟨x,neq,rfl,hx1,by omega,a3,a4,a5,a6⟩
  ·dsimp only
   rw [if_pos rfl]
   have hle:O.kle (K O key d (arrOf st') (lo+x)) (K O key d (arrOf st') (lo+x-1)):=KeyOrd.kle_of_klt hl
   by_cases hq:neq > 0
   ·rw [if_pos hq]
    rw [reverseSlice'_eq]
    refine wpS_bind (wpS_modify (wpS_pure ?_))
    have same:=ZlU (O:=O) (key:=key) (d:=d) (a:=arrOf st') (i:=lo+x-(neq+1)) (j:=lo+x) (by omega) a6
    refine ⟨0,rfl,(a3.mir (by omega) (Nat.le_refl _) (by omega)).mono (by omega),?_,by omega,fun k hk1 hk2=>by rw [show k=lo+(x+1)-1 by omega]⟩
    refine DnK.more (n:=x) ?_ (by omega) ?_
    ·intro i j b1 b2 b3
     show O.kle (K O key d (mirror _ _ _ _) j) (K O key d (mirror _ _ _ _) i)
     rw [same,same]; exact a4 i j b1 b2 b3
    ·show O.kle (K O key d (mirror _ _ _ _) _) (K O key d (mirror _ _ _ _) _)
     rw [same,same]; exact hle
   ·rw [if_neg hq]
    exact wpS_pure ⟨0,rfl,a3.mono (by omega),a4.more (by omega) hle,by omega,fun k hk1 hk2=>by rw [show k=lo+(x+1)-1 by omega]⟩
theorem Zll (hc : Cmp M A E s O key D kd) {st : SortSt} {lo nrem : Nat} {Q : Option Nat → SortSt → Prop} (hk : kindOf st=kd) (hD : ∀ u, u ∈ (arrOf st).toList → D u) (hn : 1 ≤ nrem) (hs : lo + nrem ≤ (arrOf st).size)
  (h:∀ n st',1≤n->n≤nrem->Rn lo st st' n->UpK O key d (arrOf st') lo (lo+n)->Q (some n) st'):wpS M A E s (countRun' lo nrem) Q st:=by
 delta countRun'
 refine wpS_bind (ZjK (d:=d) hc hk hD (Nat.le_refl 1) hn hs (fun i j h1 h2 h3=>by rw [show i=j by omega]; exact KeyOrd.kle_refl _) fun n n1 n2 up lst=>?_)
 dsimp only
 by_cases e:n=nrem
 ·rw [if_pos (by simpa using e)]
  exact wpS_pure (h n st n1 n2 (Rn.refl _ _ _) up)
 rw [if_neg (by simpa using e)]
 have lt:O.blt (K O key d (arrOf st) (lo+n)) (K O key d (arrOf st) (lo+n-1))=true:=lst.resolve_left e
 have down:DnK O key d (arrOf st) lo (lo+n)->DnK O key d (arrOf st) lo (lo+(n+1)):=fun dd=>dd.more (by omega) (KeyOrd.kle_of_klt lt)
 by_cases hn1:n > 1
 ·rw [if_pos hn1]
  refine wpS_bind (ZgY (d:=d) hc hk hD (by omega) (by omega) ?_)
  cases hr:O.blt (K O key d (arrOf st) lo) (K O key d (arrOf st) (lo+n-1))
  ·dsimp only
   rw [if_neg (by simp)]
   have alleq:∀ k,lo≤k->k<lo+n->K O key d (arrOf st) k=K O key d (arrOf st) (lo+n-1):=fun k b1 b2 =>
    KeyOrd.kle_antisymm (up k (lo+n-1) b1 (by omega) (by omega)) (KeyOrd.kle_trans hr (up lo k (Nat.le_refl _) b1 b2))
   refine wpS_bind (m:=reverseSlice' lo (lo+n)) ?_
   rw [reverseSlice'_eq]
   refine wpS_modify ?_
   have same:=ZlU (O:=O) (key:=key) (d:=d) (a:=arrOf st) (i:=lo) (j:=lo+n) (by omega) alleq
   refine wpS_bind (wpS_lift (wpAny_rule ⟨rfl,?_⟩))
   have rn:=(Rn.refl lo (n+1) st).mir (i:=lo) (j:=lo+n) (Nat.le_refl _) (by omega) (by omega)
   have dn:DnK O key d (arrOf (setArr st (mirror (arrOf st) lo (lo+n) ((lo+n-lo)/2)))) lo (lo+(n+1)):=by
    intro i j b1 b2 b3
    show O.kle (K O key d (mirror _ _ _ _) j) (K O key d (mirror _ _ _ _) i)
    rw [same,same]
    refine down ?_ i j b1 b2 b3
    intro i j c1 c2 c3
    rw [alleq i c1 (by omega),alleq j (by omega) c3]
    exact KeyOrd.kle_refl _
   refine Zno (d:=d) hc hk hD n1 (by omega) hs rn dn fun m neq st2 r2 m1 m2 dn2 q1 q2=>?_
   dsimp only
   by_cases hq:neq > 0
   ·rw [if_pos hq]
    refine wpS_bind (m:=reverseSlice' (lo+m-(neq+1)) (lo+m)) ?_
    rw [reverseSlice'_eq]
    refine wpS_modify ?_
    have same:=ZlU (O:=O) (key:=key) (d:=d) (a:=arrOf st2) (i:=lo+m-(neq+1)) (j:=lo+m) (by rw [r2.size]; omega) q2
    have r3:=r2.mir (i:=lo+m-(neq+1)) (j:=lo+m) (by omega) (Nat.le_refl _) (by rw [r2.size]; omega)
    have d3:DnK O key d (arrOf (setArr st2 (mirror (arrOf st2) (lo+m-(neq+1)) (lo+m) ((lo+m-(lo+m-(neq+1)))/2)))) lo (lo+m):=by
     intro i j b1 b2 b3
     show O.kle (K O key d (mirror _ _ _ _) j) (K O key d (mirror _ _ _ _) i)
     rw [same,same]; exact dn2 i j b1 b2 b3
    refine wpS_bind (m:=reverseSlice' lo (lo+m)) ?_
    rw [reverseSlice'_eq]
    refine wpS_modify ?_
    have r4:=r3.mir (i:=lo) (j:=lo+m) (Nat.le_refl _) (Nat.le_refl _) (by rw [r3.size]; omega)
    refine wpS_bind (ZjK (d:=d) hc (r4.kind.trans hk) (ZgA r4.perm hD) (by omega) m2 (by rw [r4.size]; exact hs) (UpK.rev d3 (by rw [r3.size]; omega)) fun n' a1 a2 a3 a4=>?_)
    exact wpS_pure (h n' _ (by omega) a2 (r4.mono a1) a3)
   ·rw [if_neg hq]
    have r3:=r2
    have d3:=dn2
    refine wpS_bind (m:=reverseSlice' lo (lo+m)) ?_
    rw [reverseSlice'_eq]
    refine wpS_modify ?_
    have r4:=r3.mir (i:=lo) (j:=lo+m) (Nat.le_refl _) (Nat.le_refl _) (by rw [r3.size]; omega)
    refine wpS_bind (ZjK (d:=d) hc (r4.kind.trans hk) (ZgA r4.perm hD) (by omega) m2 (by rw [r4.size]; exact hs) (UpK.rev d3 (by rw [r3.size]; omega)) fun n' a1 a2 a3 a4=>?_)
    exact wpS_pure (h n' _ (by omega) a2 (r4.mono a1) a3)
  ·dsimp only
   rw [if_pos rfl]
   exact wpS_pure (h n st n1 n2 (Rn.refl _ _ _) up)
 ·rw [if_neg hn1]
  refine wpS_bind (wpS_lift (wpAny_rule ⟨rfl,?_⟩))
  have rn:=Rn.refl lo (n+1) st
  have dn:=down fun i j b1 b2 b3=>by rw [show i=j by omega]; exact KeyOrd.kle_refl _
  refine Zno (d:=d) hc hk hD n1 (by omega) hs rn dn fun m neq st2 r2 m1 m2 dn2 q1 q2=>?_
  dsimp only
  by_cases hq:neq > 0
  ·rw [if_pos hq]
   refine wpS_bind (m:=reverseSlice' (lo+m-(neq+1)) (lo+m)) ?_
   rw [reverseSlice'_eq]
   refine wpS_modify ?_
   have same:=ZlU (O:=O) (key:=key) (d:=d) (a:=arrOf st2) (i:=lo+m-(neq+1)) (j:=lo+m) (by rw [r2.size]; omega) q2
   have r3:=r2.mir (i:=lo+m-(neq+1)) (j:=lo+m) (by omega) (Nat.le_refl _) (by rw [r2.size]; omega)
   have d3:DnK O key d (arrOf (setArr st2 (mirror (arrOf st2) (lo+m-(neq+1)) (lo+m) ((lo+m-(lo+m-(neq+1)))/2)))) lo (lo+m):=by
    intro i j b1 b2 b3
    show O.kle (K O key d (mirror _ _ _ _) j) (K O key d (mirror _ _ _ _) i)
    rw [same,same]; exact dn2 i j b1 b2 b3
   refine wpS_bind (m:=reverseSlice' lo (lo+m)) ?_
   rw [reverseSlice'_eq]
   refine wpS_modify ?_
   have r4:=r3.mir (i:=lo) (j:=lo+m) (Nat.le_refl _) (Nat.le_refl _) (by rw [r3.size]; omega)
   refine wpS_bind (ZjK (d:=d) hc (r4.kind.trans hk) (ZgA r4.perm hD) (by omega) m2 (by rw [r4.size]; exact hs) (UpK.rev d3 (by rw [r3.size]; omega)) fun n' a1 a2 a3 a4=>?_)
   exact wpS_pure (h n' _ (by omega) a2 (r4.mono a1) a3)
  ·rw [if_neg hq]
   have r3:=r2
   have d3:=dn2
   refine wpS_bind (m:=reverseSlice' lo (lo+m)) ?_
   rw [reverseSlice'_eq]
   refine wpS_modify ?_
   have r4:=r3.mir (i:=lo) (j:=lo+m) (Nat.le_refl _) (Nat.le_refl _) (by rw [r3.size]; omega)
   refine wpS_bind (ZjK (d:=d) hc (r4.kind.trans hk) (ZgA r4.perm hD) (by omega) m2 (by rw [r4.size]; exact hs) (UpK.rev d3 (by rw [r3.size]; omega)) fun n' a1 a2 a3 a4=>?_)
   exact wpS_pure (h n' _ (by omega) a2 (r4.mono a1) a3)
end
section
variable {M:Model} {A:Around} {E:Value->Shared->Prop} {s:Shared} {O:KeyOrd} {key:Keyed->O.α} {D:Keyed->Prop} {kd:SortKind} {d:O.α}
theorem Zsd {a:Array Keyed} {src n:Nat} (hs:src<a.size) (hd:n≤src) (k:Nat):K O key d (bubble a src n) k=if k=src-n then K O key d a src else if src-n<k∧k≤src then K O key d a (k-1) else K O key d a k:=by
 unfold K Zlh
 rw [getElem?_bubble hs n hd]
 by_cases c:k=src-n
 ·rw [if_pos c,if_pos c]
 ·rw [if_neg c,if_neg c]
  by_cases c2:src-n<k∧k≤src
  ·rw [if_pos c2,if_pos c2]
  ·rw [if_neg c2,if_neg c2]
theorem Rn.bub {lo n src dd:Nat} {st0 st:SortSt} (h:Rn lo st0 st n) (h1:lo≤src-dd) (h2:src<lo+n) (h3:dd≤src) (hs:src<(arrOf st).size):Rn lo st0 (setArr st (bubble (arrOf st) src dd)) n :=
 ⟨h.kind,h.fail,h.pend,(bubble_perm _ _ _).trans h.perm,fun k hk=>by
  show (bubble (arrOf st) src dd)[k]?=_
  rw [getElem?_bubble hs dd h3,if_neg (by omega),if_neg (by omega)]; exact h.out k hk⟩
theorem ZiM (hc : Cmp M A E s O key D kd) {st : SortSt} {lo n ok : Nat} {Q : Bool → SortSt → Prop} (hk : kindOf st=kd) (hD : ∀ u, u ∈ (arrOf st).toList → D u) (h1 : 1 ≤ ok) (hok : ok ≤ n) (hs : lo + n ≤ (arrOf st).size)
  (up:UpK O key d (arrOf st) lo (lo+ok)) (h:∀ st',Rn lo st st' n->UpK O key d (arrOf st') lo (lo+n)->Q true st'):wpS M A E s (binarySort' lo n ok) Q st:=by
 delta binarySort'
 refine wpS_bind (wpS_mono (wpS_forRange (I:=fun x c st'=>c=(none,())∧Rn lo st st' n∧UpK O key d (arrOf st') lo (lo+x)) (Q:=fun c st'=>c=(none,())∧Rn lo st st' n∧UpK O key d (arrOf st') lo (lo+n)) ?step ?fin
  ⟨rfl,Rn.refl _ _ _,by rw [show max ok 1=ok by omega]; exact up⟩) ?post)
 case post =>
  rintro c st' ⟨rfl,a1,a2⟩
  exact wpS_pure (h st' a1 a2)
 case fin =>
  rintro c st' ⟨rfl,a1,a2⟩
  rw [show max (max ok 1) n=n by omega] at a2
  exact ⟨rfl,a1,a2⟩
 case step =>
  rintro k c st' hk1 hk2 ⟨rfl,a1,a2⟩
  dsimp only
  have hsz:=a1.size
  refine wpS_bind (wpS_mono (wpS_forRange (I:=fun x c st2=>st2=st'∧c.1=none∧c.2.1≤c.2.2∧c.2.2≤k∧c.2.2-c.2.1≤k-x∧(∀ i,i<c.2.1->O.kle (K O key d (arrOf st') (lo+i)) (K O key d (arrOf st') (lo+k)))∧(∀ i,c.2.2≤i->i<k->O.kle (K O key d (arrOf st') (lo+k)) (K O key d (arrOf st') (lo+i))))
   (Q:=fun c st2=>st2=st'∧c.1=none∧c.2.1≤k∧(∀ i,i<c.2.1->O.kle (K O key d (arrOf st') (lo+i)) (K O key d (arrOf st') (lo+k)))∧(∀ i,c.2.1≤i->i<k->O.kle (K O key d (arrOf st') (lo+k)) (K O key d (arrOf st') (lo+i)))) ?step2 ?fin2
   ⟨rfl,rfl,Nat.zero_le _,Nat.le_refl _,by dsimp only; omega,fun i hi=>by dsimp only at hi; omega,fun i hi hi2=>by dsimp only at hi; omega⟩) ?post2)
  case fin2 =>
   rintro ⟨r,l,u⟩ st2 ⟨rfl,e,b1,b2,b3,b4,b5⟩
   dsimp only at *
   obtain rfl:l=u:=by omega
   exact ⟨rfl,e,b2,b4,b5⟩
  case step2 =>
   rintro x ⟨r,l,u⟩ st2 _ hx ⟨rfl,e,b1,b2,b3,b4,b5⟩
   dsimp only at e b1 b2 b3 b4 b5 ⊢
   subst e
   by_cases hlu:l ≥ u
   ·rw [if_pos hlu]
    obtain rfl:l=u:=by omega
    exact wpS_pure ⟨rfl,rfl,b2,b4,b5⟩
   ·rw [if_neg hlu]
    refine wpS_bind (ZgY (d:=d) hc (a1.kind.trans hk) (ZgA a1.perm hD) (by omega) (by omega) ?_)
    cases hl:O.blt (K O key d (arrOf st2) (lo+k)) (K O key d (arrOf st2) (lo+(l+u)/2))
    ·dsimp only
     rw [if_neg (by simp)]
     refine wpS_pure ⟨rfl,rfl,by dsimp only; omega,by dsimp only; omega,by dsimp only; omega,fun i hi=>?_,b5⟩
     dsimp only at hi
     exact KeyOrd.kle_trans (a2 (lo+i) (lo+(l+u)/2) (by omega) (by omega) (by omega)) hl
    ·dsimp only
     rw [if_pos rfl]
     refine wpS_pure ⟨rfl,rfl,by dsimp only; omega,by dsimp only; omega,by dsimp only; omega,b4,fun i hi hi2=>?_⟩
     dsimp only at hi
     exact KeyOrd.kle_trans (KeyOrd.kle_of_klt hl) (a2 (lo+(l+u)/2) (lo+i) (by omega) (by omega) (by omega))
  case post2 =>
   rintro ⟨r,l,u⟩ st2 ⟨rfl,e,b2,b4,b5⟩
   dsimp only at e b2 b4 b5 ⊢
   subst e
   dsimp only
   refine wpS_bind (m:=moveDown' (lo+k) (lo+l)) ?_
   rw [moveDown'_eq]
   refine wpS_modify (wpS_pure ⟨rfl,a1.bub (by omega) (by omega) (by omega) (by omega),?_⟩)
   have kb:=Zsd (O:=O) (key:=key) (d:=d) (a:=arrOf st2) (src:=lo+k) (n:=lo+k-(lo+l)) (by omega) (by omega)
   rw [show lo+k-(lo+k-(lo+l))=lo+l by omega] at kb
   intro i j c1 c2 c3
   show O.kle (K O key d (bubble _ _ _) i) (K O key d (bubble _ _ _) j)
   rw [kb,kb]
   by_cases e1:i=lo+l
   ·rw [if_pos e1]
    by_cases e2:j=lo+l
    ·rw [if_pos e2]; exact KeyOrd.kle_refl _
    ·rw [if_neg e2,if_pos (by omega)]
     have:=b5 (j-1-lo) (by omega) (by omega)
     rwa [show lo+(j-1-lo)=j-1 by omega] at this
   ·rw [if_neg e1]
    by_cases e3:lo+l<i∧i≤lo+k
    ·rw [if_pos e3,if_neg (by omega),if_pos (by omega)]
     exact a2 _ _ (by omega) (by omega) (by omega)
    ·rw [if_neg e3]
     by_cases e2:j=lo+l
     ·rw [if_pos e2]
      have:=b4 (i-lo) (by omega)
      rwa [show lo+(i-lo)=i by omega] at this
     ·rw [if_neg e2]
      by_cases e4:lo+l<j∧j≤lo+k
      ·rw [if_pos e4]; exact a2 _ _ (by omega) (by omega) (by omega)
      ·rw [if_neg e4]; exact a2 _ _ (by omega) (by omega) (by omega)
theorem Rn.lists {lo n : Nat} {st0 st : SortSt} (h : Rn lo st0 st n) {P R : List Keyed} (hP : P.length=lo) (hn : n ≤ R.length) (e : (arrOf st0).toList=P ++ R) (up : UpK O key d (arrOf st) lo (lo + n)) :
  ∃ C,(arrOf st).toList=P++(C++R.drop n)∧C.Perm (R.take n)∧C.Pairwise (le O key)∧C.length=n:=by
 have hl:(arrOf st).toList.length=P.length+R.length:=by rw [(Array.perm_iff_toList_perm.mp h.perm).length_eq,e,List.length_append]
 have t1:(arrOf st).toList.take lo=P:=by
  apply List.ext_getElem?
  intro i
  rw [List.getElem?_take]
  split
  ·rename_i hi
   rw [Array.getElem?_toList,h.out i (.inl hi),← Array.getElem?_toList,e,List.getElem?_append_left (by omega)]
  ·rename_i hi
   rw [List.getElem?_eq_none (by omega)]
 have t2:(arrOf st).toList.drop (lo+n)=R.drop n:=by
  apply List.ext_getElem?
  intro i
  rw [List.getElem?_drop,List.getElem?_drop,Array.getElem?_toList,h.out (lo+n+i) (.inr (by omega)),← Array.getElem?_toList,e,List.getElem?_append_right (by omega)]
  congr 1; omega
 have e2:(arrOf st).toList=P++(((arrOf st).toList.drop lo).take n++R.drop n):=by
  have z1:=(List.take_append_drop lo (arrOf st).toList).symm
  have z2:=(List.take_append_drop n ((arrOf st).toList.drop lo)).symm
  rw [List.drop_drop] at z2
  rw [t2] at z2
  rw [t1] at z1
  rw [← z2]; exact z1
 have hlen:(((arrOf st).toList.drop lo).take n).length=n:=by rw [List.length_take,List.length_drop]; omega
 refine ⟨((arrOf st).toList.drop lo).take n,e2,?_,?_,hlen⟩
 ·have p:=Array.perm_iff_toList_perm.mp h.perm
  rw [e2,e] at p
  have p2:=(List.perm_append_left_iff P).mp p
  rw [show R=R.take n++R.drop n from (List.take_append_drop n R).symm] at p2
  simp only [List.take_append_drop] at p2
  have p3:(((arrOf st).toList.drop lo).take n++R.drop n).Perm (R.take n++R.drop n):=by rw [List.take_append_drop]; exact p2
  exact (List.perm_append_right_iff _).mp p3
 ·rw [List.pairwise_iff_getElem]
  intro i j hi hj hij
  rw [hlen] at hi hj
  have z:=up (lo+i) (lo+j) (by omega) (by omega) (by omega)
  have at1:∀ k,(hk:k<n)->K O key d (arrOf st) (lo+k)=key (((arrOf st).toList.drop lo).take n)[k]:=by
   intro k hk
   have q:=ZdE e2 (i:=k) (by omega)
   rw [hP,List.getElem?_eq_getElem (by omega)] at q
   exact ZbS q
  rw [at1 i hi,at1 j hj] at z
  exact z
end
def Pend:Nat->List (List Keyed)->List (Nat × Nat × Nat)->Prop
 | _,[],[]=>True
 | o,r :: rs,(a,n,_) :: ps=>a=o∧n=r.length∧Pend (o+r.length) rs ps
 | _,_,_=>False
theorem Pend.len:∀ {o:Nat} {rs:List (List Keyed)} {ps:List (Nat × Nat × Nat)},Pend o rs ps->ps.length=rs.length
 | _,[],[],_=>rfl
 | _,r :: rs,(a,n,_) :: ps,h=>by simp [Pend.len h.2.2]
 | _,[],_ :: _,h=>h.elim
 | _,_ :: _,[],h=>h.elim
theorem Pend.app:∀ {o:Nat} {L M:List (List Keyed)} {p q:List (Nat × Nat × Nat)},Pend o L p->Pend (o+L.flatten.length) M q->Pend o (L++M) (p++q)
 | _,[],M,[],q,_,h=>by simpa using h
 | o,r :: L,M,(a,n,_) :: p,q,h1,h2=>⟨h1.1,h1.2.1,Pend.app h1.2.2 (by rw [List.flatten_cons,List.length_append,← Nat.add_assoc] at h2; exact h2)⟩
 | _,[],_,_ :: _,_,h,_=>h.elim
 | _,_ :: _,_,[],_,h,_=>h.elim
theorem Pend.cut:∀ {o:Nat} {L M:List (List Keyed)} {ps:List (Nat × Nat × Nat)},Pend o (L++M) ps->∃ p q,ps=p++q∧Pend o L p∧Pend (o+L.flatten.length) M q
 | _,[],M,ps,h=>⟨[],ps,rfl,trivial,by simpa using h⟩
 | o,r :: L,M,(a,n,w) :: ps,h=>by
  obtain ⟨p,q,e,h1,h2⟩:=Pend.cut h.2.2
  refine ⟨(a,n,w) :: p,q,by rw [e]; rfl,⟨h.1,h.2.1,h1⟩,?_⟩
  rw [List.flatten_cons,List.length_append,← Nat.add_assoc]; exact h2
 | _,_ :: _,_,[],h=>h.elim
section
variable {M:Model} {A:Around} {E:Value->Shared->Prop} {s:Shared} {O:KeyOrd} {key:Keyed->O.α} {D:Keyed->Prop} {kd:SortKind} {d:O.α} {a0:List Keyed}
structure SRI (O:KeyOrd) (key:Keyed->O.α) (kd:SortKind) (a0:List Keyed) (st:SortSt) (rs:List (List Keyed)) (rest:List Keyed):Prop where
 arr:(arrOf st).toList=rs.flatten++rest
 good:∀ r,r∈rs->r≠[]∧r.Pairwise (le O key)
 pend:Pend 0 rs (pendingOf st).toList
 kind:kindOf st=kd
 fail:failedOf st=none
 perm:(arrOf st).toList.Perm a0
theorem SRI.size {st:SortSt} {rs:List (List Keyed)} {rest:List Keyed} (h:SRI O key kd a0 st rs rest):(pendingOf st).size=rs.length:=by rw [← Array.length_toList]; exact h.pend.len
theorem SRI.allD {st:SortSt} {rs:List (List Keyed)} {rest:List Keyed} (h:SRI O key kd a0 st rs rest) (hD:∀ u,u∈a0->D u):∀ u,u∈(arrOf st).toList->D u:=fun u hu=>hD u (h.perm.mem_iff.mp hu)
theorem Ztd {rs:List (List Keyed)} {i:Nat} (h:i+1<rs.length):∃ L X Y T,rs=L++(X :: Y :: T)∧L.length=i:=by
 refine ⟨rs.take i,rs[i],rs[i+1],rs.drop (i+2),?_,by rw [List.length_take]; omega⟩
 have z:=(List.take_append_drop i rs).symm
 rw [List.drop_eq_getElem_cons (by omega),List.drop_eq_getElem_cons (by omega)] at z
 exact z
theorem ZgQ (hc : Cmp M A E s O key D kd) (hD : ∀ u, u ∈ a0 → D u) {st : SortSt} {rs : List (List Keyed)} {rest : List Keyed} (h : SRI O key kd a0 st rs rest) {i : Nat} (hi : i + 1<rs.length) {Q : Bool → SortSt → Prop}
  (hQ:∀ rs' st',rs'.length+1=rs.length->rs'.flatten.length=rs.flatten.length->SRI O key kd a0 st' rs' rest->Q true st'):wpS M A E s (mergeAt' i) Q st:=by
 obtain ⟨L,X,Y,T,rfl,hL⟩:=Ztd hi
 obtain ⟨p,q,e,p1,p2⟩:=Pend.cut h.pend
 match q,p2 with
 | (a,n,w) :: (a',n',w') :: q,p2 =>
  obtain ⟨rfl,rfl,rfl,rfl,p3⟩:=p2
  have hpl:p.length=i:=p1.len.trans hL
  have gX:=h.good X (by simp)
  have gY:=h.good Y (by simp)
  have at0:(pendingOf st)[i]?=some (L.flatten.length,X.length,w):=by
   rw [← Array.getElem?_toList,e,List.getElem?_append_right (by omega),hpl,Nat.sub_self]; simp
  have at1:(pendingOf st)[i+1]?=some (L.flatten.length+X.length,Y.length,w'):=by
   rw [← Array.getElem?_toList,e,List.getElem?_append_right (by omega),hpl,show i+1-i=1 by omega]; simp
  have ea:(arrOf st).toList=L.flatten++(X++(Y++(T.flatten++rest))):=by rw [h.arr]; simp
  refine Zl0 hc h.kind h.fail at0 at1 ea gX.1 gY.1 gX.2 gY.2 (h.allD hD) fun C st' c1 c2 c3 c4 c5 c6=>?_
  refine hQ (L++C :: T) st' (by simp; omega) (by simp [c1.length_eq]; omega) ⟨by rw [c6]; simp,?_,?_,c3.trans h.kind,c4,?_⟩
  ·intro r hr
   rw [List.mem_append,List.mem_cons] at hr
   rcases hr with hr | rfl | hr
   ·exact h.good r (by simp [hr])
   ·refine ⟨fun z=>?_,c2⟩
    rw [z] at c1
    have:=c1.length_eq
    simp only [List.length_nil,List.length_append] at this
    exact gX.1 (List.length_eq_zero_iff.mp (by omega))
   ·exact h.good r (by simp [hr])
  ·have hlen:(pendingOf st).toList.length=p.length+(q.length+1+1):=by rw [e]; simp
   have ep:(pendingOf st').toList=p++((L.flatten.length,X.length+Y.length,w) :: q):=by
    rw [c5,Array.eraseIdxIfInBounds,dif_pos (by rw [Array.size_setIfInBounds,← Array.length_toList]; omega),Array.toList_eraseIdx,Array.toList_setIfInBounds,e,List.set_append_right _ _ (by omega),hpl,Nat.sub_self,List.set_cons_zero,
     List.eraseIdx_append_of_length_le (by omega),hpl,show i+1-i=1 by omega]
    simp
   rw [ep]
   refine Pend.app p1 ⟨by simp,by simp [c1.length_eq],?_⟩
   rw [c1.length_eq,List.length_append]
   rw [← Nat.add_assoc]
   exact p3
  ·refine List.Perm.trans ?_ h.perm
   rw [c6,ea]
   refine List.Perm.append_left _ ?_
   refine List.Perm.trans (c1.append_right _) ?_
   rw [List.append_assoc]
 | [],p2=>exact p2.elim
 | [_],p2=>obtain ⟨_,_,p3⟩:=p2; exact p3.elim
end
theorem Pend.last:∀ {o:Nat} {rs:List (List Keyed)} {ps:List (Nat × Nat × Nat)} (f:Nat->Nat) (i:Nat),Pend o rs ps->Pend o rs (ps.modify i fun x=>(x.1,x.2.1,f x.2.2))
 | _,[],[],f,i,_=>by simp [Pend]
 | _,r :: rs,(a,n,_) :: ps,f,0,h=>by simpa [Pend] using h
 | _,r :: rs,(a,n,_) :: ps,f,i+1,h=>by
  rw [List.modify_succ_cons]
  exact ⟨h.1,h.2.1,Pend.last f i h.2.2⟩
 | _,[],_ :: _,_,_,h=>h.elim
 | _,_ :: _,[],_,_,h=>h.elim
section
variable {M:Model} {A:Around} {E:Value->Shared->Prop} {s:Shared} {O:KeyOrd} {key:Keyed->O.α} {D:Keyed->Prop} {kd:SortKind} {d:O.α} {a0:List Keyed}
theorem Rn.trans {lo n m:Nat} {st0 st1 st2:SortSt} (h1:Rn lo st0 st1 n) (h2:Rn lo st1 st2 m) (hn:n≤m):Rn lo st0 st2 m :=
 ⟨h2.kind.trans h1.kind,h2.fail.trans h1.fail,h2.pend.trans h1.pend,h2.perm.trans h1.perm,fun k hk=>(h2.out k hk).trans (h1.out k (by omega))⟩
theorem ZcB (rs:List (List Keyed)) (C:List Keyed):(rs++[C]).flatten.length=rs.flatten.length+C.length:=by
 rw [List.flatten_append,List.length_append,List.flatten_cons,List.flatten_nil,List.append_nil]
theorem ZnH:∀ {rs:List (List Keyed)},(∀ r,r∈rs->r≠[])->rs.length≤rs.flatten.length
 | [],_=>Nat.le_refl _
 | r :: rs,h=>by
  have h1:=ZnH (rs:=rs) fun x hx=>h x (List.mem_cons_of_mem _ hx)
  have h2:0<r.length:=List.length_pos_iff.mpr (h r List.mem_cons_self)
  rw [List.flatten_cons,List.length_append,List.length_cons]; omega
theorem SRI.found {st st' : SortSt} {rs : List (List Keyed)} {rest : List Keyed} {n : Nat} (h : SRI O key kd a0 st rs rest) (rn : Rn rs.flatten.length st st' n) (hn : n ≤ rest.length) (up : UpK O key d (arrOf st') rs.flatten.length (rs.flatten.length + n)) :
  ∃ C rest',SRI O key kd a0 st' rs (C++rest')∧C.length=n∧C.Pairwise (le O key)∧rest'.length+n=rest.length:=by
 obtain ⟨C,e1,e2,e3,e4⟩:=rn.lists rfl hn h.arr up
 refine ⟨C,rest.drop n,⟨e1,h.good,by rw [rn.pend]; exact h.pend,rn.kind.trans h.kind,rn.fail.trans h.fail,(Array.perm_iff_toList_perm.mp rn.perm).trans h.perm⟩,e4,e3,by rw [List.length_drop]; omega⟩
theorem SRI.pushed {st : SortSt} {rs : List (List Keyed)} {C rest : List Keyed} {g : Nat} (h : SRI O key kd a0 st rs (C ++ rest)) (hC : C ≠ []) (sC : C.Pairwise (le O key)) :
  SRI O key kd a0 (SortSt.mk' (kindOf st) (arrOf st) ((pendingOf st).push (rs.flatten.length,C.length,0)) g (failedOf st)) (rs++[C]) rest:=by
 refine ⟨by show (arrOf st).toList=_; rw [h.arr]; simp,?_,?_,h.kind,h.fail,h.perm⟩
 ·intro r hr
  rw [List.mem_append,List.mem_singleton] at hr
  rcases hr with hr | rfl
  ·exact h.good r hr
  ·exact ⟨hC,sC⟩
 ·show Pend 0 (rs++[C]) ((pendingOf st).push (rs.flatten.length,C.length,0)).toList
  rw [Array.toList_push]
  exact Pend.app h.pend ⟨by simp,rfl,trivial⟩
theorem SRI.powered {st : SortSt} {rs : List (List Keyed)} {rest : List Keyed} {g i pw : Nat} (h : SRI O key kd a0 st rs rest) :
  SRI O key kd a0 (SortSt.mk' (kindOf st) (arrOf st) ((pendingOf st).modify i fun x=>(x.1,x.2.1,pw)) g (failedOf st)) rs rest :=
 ⟨h.arr,h.good,by
  show Pend 0 rs ((pendingOf st).modify i fun x=>(x.1,x.2.1,pw)).toList
  rw [Array.toList_modify]
  exact Pend.last (fun _=>pw) i h.pend,h.kind,h.fail,h.perm⟩
theorem ZkO (hc : Cmp M A E s O key D kd) (d : O.α) {st : SortSt} {Q : Unit → SortSt → Prop} (hD : ∀ u, u ∈ (arrOf st).toList → D u) (hk : kindOf st=kd) (hf : failedOf st=none) (hp : pendingOf st=#[])
  (h:∀ st',(arrOf st').toList.Perm (arrOf st).toList->(arrOf st').toList.Pairwise (le O key)->failedOf st'=none->Q () st'):wpS M A E s sortRuns' Q st:=by
 have hD0:=hD
 obtain ⟨a0,ha0⟩:∃ l,l=(arrOf st).toList:=⟨_,rfl⟩
 rw [← ha0] at hD h
 have hsz:(arrOf st).size=a0.length:=by rw [ha0,Array.length_toList]
 have h0:SRI O key kd a0 st [] a0:=⟨by rw [ha0]; rfl,by simp,by rw [hp]; trivial,hk,hf,by rw [ha0]⟩
 delta sortRuns'
 refine wpS_bind (wpS_get ?_)
 dsimp only
 rw [show (arrOf st).size=a0.length from hsz]
 generalize (sortPriv% PySem.Builtin.minRun) a0.length a0.length 0=mr
 refine wpS_bind (wpS_mono (wpS_forRange (I:=fun x c st'=>∃ rs rest,c=(none,rs.flatten.length)∧SRI O key kd a0 st' rs rest∧x≤rs.flatten.length∧rs.flatten.length+rest.length=a0.length)
  (Q:=fun c st'=>∃ rs,c.1=none∧SRI O key kd a0 st' rs []∧rs.flatten.length=a0.length) ?step ?fin ⟨[],a0,rfl,h0,Nat.zero_le _,by simp⟩) ?post)
 case fin =>
  rintro c st' ⟨rs,rest,rfl,r1,r2,r3⟩
  obtain rfl:rest=[]:=List.length_eq_zero_iff.mp (by omega)
  exact ⟨rs,rfl,r1,by simpa using r3⟩
 case step =>
  rintro x c st' _ hx ⟨rs,rest,rfl,r1,r2,r3⟩
  dsimp only
  by_cases hge:rs.flatten.length ≥ a0.length
  ·rw [if_pos hge]
   obtain rfl:rest=[]:=List.length_eq_zero_iff.mp (by omega)
   exact wpS_pure ⟨rs,rfl,r1,by simpa using r3⟩
  rw [if_neg hge]
  have hsz':(arrOf st').size=a0.length:=by rw [← Array.length_toList,r1.arr,List.length_append]; exact r3
  refine wpS_bind (Zll (d:=d) hc r1.kind (r1.allD hD) (by omega) (by omega) fun n st1 n1 n2 rn up=>?_)
  dsimp only
  by_cases hmr:n<mr
  ·rw [if_pos hmr]
   refine wpS_bind (wpS_lift (wpAny_rule ⟨rfl,?_⟩))
   have hD1:=ZgA rn.perm (r1.allD hD)
   refine wpS_bind (ZiM (d:=d) hc (rn.kind.trans r1.kind) hD1 n1 (by omega) (by rw [rn.size]; omega) up fun st2 rn2 up2=>?_)
   rw [if_neg (by simp)]
   have rnn:=rn.trans rn2 (by omega)
   obtain ⟨C,rest',q,hCl,sC,hr⟩:=r1.found rnn (by omega) up2
   have n1':1≤min (a0.length-rs.flatten.length) mr:=by omega
   have n2':min (a0.length-rs.flatten.length) mr≤a0.length-rs.flatten.length:=by omega
   have hCne:C≠[]:=fun z=>by rw [z,List.length_nil] at hCl; omega
   refine wpS_bind (wpS_get ?_)
   try dsimp only
   cases hb:(pendingOf st2).back? with
   | none =>
    try dsimp only
    refine wpS_bind (wpS_modify ?_)
    have z:=q.pushed (g:=gallopOf st2) hCne sC
    rw [hCl] at z
    exact wpS_pure ⟨rs++[C],rest',by rw [ZcB,hCl],z,by rw [ZcB,hCl]; omega,by rw [ZcB,hCl]; omega⟩
   | some v =>
    obtain ⟨s1,n1,w1⟩:=v
    try dsimp only
    refine wpS_bind (wpS_mono (wpS_forRange (I:=fun x c st3=>c=(none,())∧∃ rs',SRI O key kd a0 st3 rs' (C++rest')∧rs'.flatten.length=rs.flatten.length) (Q:=fun c st3=>c=(none,())∧∃ rs',SRI O key kd a0 st3 rs' (C++rest')∧rs'.flatten.length=rs.flatten.length) ?s3 (fun _ _ h=>h) ⟨rfl,rs,q,rfl⟩) ?p3)
    case s3 =>
     rintro y c st3 _ hy ⟨rfl,rs',r4,r5⟩
     refine wpS_bind (wpS_get ?_)
     try dsimp only
     by_cases hp1:(pendingOf st3).size > 1
     ·rw [if_pos hp1]
      obtain ⟨v,hv⟩:∃ v,(pendingOf st3)[(pendingOf st3).size-2]?=some v:=⟨_,getElem?_pos _ _ (by omega)⟩
      rw [hv]
      obtain ⟨u1,u2,u3⟩:=v
      try dsimp only
      split
      ·exact wpS_pure ⟨rfl,rs',r4,r5⟩
      ·refine wpS_bind (ZgQ hc hD r4 (by have z:=r4.size; have z2:(pendingOf st3).size > 1:=hp1; show (pendingOf st3).size-2+1<rs'.length; omega) fun rs2 st4 l1 l2 r6=>?_)
       rw [if_neg (by simp)]
       exact wpS_pure ⟨rfl,rs2,r6,by omega⟩
     ·rw [if_neg hp1]
      exact wpS_pure ⟨rfl,rs',r4,r5⟩
    case p3 =>
     rintro c st3 ⟨rfl,rs',r4,r5⟩
     try dsimp only
     refine wpS_bind (wpS_modify ?_)
     refine wpS_bind (wpS_modify ?_)
     have z:=(r4.powered (g:=gallopOf st3) (i:=(pendingOf st3).size-1) (pw:=power' a0.length (2*s1+n1) (2*s1+n1+n1+min (a0.length-rs.flatten.length) mr) a0.length)).pushed (g:=gallopOf st3) hCne sC
     rw [hCl,r5] at z
     exact wpS_pure ⟨rs'++[C],rest',by rw [ZcB,hCl,r5],z,by rw [ZcB,hCl,r5]; omega,by rw [ZcB,hCl,r5]; omega⟩
  ·rw [if_neg hmr]
   obtain ⟨st2,est⟩:∃ z,z=st1:=⟨_,rfl⟩
   rw [← est] at rn up ⊢
   obtain ⟨C,rest',q,hCl,sC,hr⟩:=r1.found rn (by omega) up
   have hCne:C≠[]:=fun z=>by rw [z,List.length_nil] at hCl; omega
   refine wpS_bind (wpS_get ?_)
   try dsimp only
   cases hb:(pendingOf st2).back? with
   | none =>
    try dsimp only
    refine wpS_bind (wpS_modify ?_)
    have z:=q.pushed (g:=gallopOf st2) hCne sC
    rw [hCl] at z
    exact wpS_pure ⟨rs++[C],rest',by rw [ZcB,hCl],z,by rw [ZcB,hCl]; omega,by rw [ZcB,hCl]; omega⟩
   | some v =>
    obtain ⟨s1,n1,w1⟩:=v
    try dsimp only
    refine wpS_bind (wpS_mono (wpS_forRange (I:=fun x c st3=>c=(none,())∧∃ rs',SRI O key kd a0 st3 rs' (C++rest')∧rs'.flatten.length=rs.flatten.length) (Q:=fun c st3=>c=(none,())∧∃ rs',SRI O key kd a0 st3 rs' (C++rest')∧rs'.flatten.length=rs.flatten.length) ?s3 (fun _ _ h=>h) ⟨rfl,rs,q,rfl⟩) ?p3)
    case s3 =>
     rintro y c st3 _ hy ⟨rfl,rs',r4,r5⟩
     refine wpS_bind (wpS_get ?_)
     try dsimp only
     by_cases hp1:(pendingOf st3).size > 1
     ·rw [if_pos hp1]
      obtain ⟨v,hv⟩:∃ v,(pendingOf st3)[(pendingOf st3).size-2]?=some v:=⟨_,getElem?_pos _ _ (by omega)⟩
      rw [hv]
      obtain ⟨u1,u2,u3⟩:=v
      try dsimp only
      split
      ·exact wpS_pure ⟨rfl,rs',r4,r5⟩
      ·refine wpS_bind (ZgQ hc hD r4 (by have z:=r4.size; have z2:(pendingOf st3).size > 1:=hp1; show (pendingOf st3).size-2+1<rs'.length; omega) fun rs2 st4 l1 l2 r6=>?_)
       rw [if_neg (by simp)]
       exact wpS_pure ⟨rfl,rs2,r6,by omega⟩
     ·rw [if_neg hp1]
      exact wpS_pure ⟨rfl,rs',r4,r5⟩
    case p3 =>
     rintro c st3 ⟨rfl,rs',r4,r5⟩
     try dsimp only
     refine wpS_bind (wpS_modify ?_)
     refine wpS_bind (wpS_modify ?_)
     have z:=(r4.powered (g:=gallopOf st3) (i:=(pendingOf st3).size-1) (pw:=power' a0.length (2*s1+n1) (2*s1+n1+n1+n) a0.length)).pushed (g:=gallopOf st3) hCne sC
     rw [hCl,r5] at z
     exact wpS_pure ⟨rs'++[C],rest',by rw [ZcB,hCl,r5],z,by rw [ZcB,hCl,r5]; omega,by rw [ZcB,hCl,r5]; omega⟩
 case post =>
  rintro ⟨r,lo⟩ st' ⟨rs,e,r1,r3⟩
  dsimp only at e
  subst e
  dsimp only
  refine wpS_bind (wpS_mono (wpS_forRange (I:=fun x c st'=>c=(none,())∧∃ rs,SRI O key kd a0 st' rs []∧rs.length+x≤a0.length)
   (Q:=fun c st'=>c=(none,())∧∃ rs,SRI O key kd a0 st' rs []∧rs.length≤1) ?step2 ?fin2 ⟨rfl,rs,r1,?_⟩) ?post2)
  case fin2 =>
   rintro c st' ⟨rfl,rs,r1,r2⟩
   exact ⟨rfl,rs,r1,by omega⟩
  case post2 =>
   rintro c st' ⟨rfl,rs,r1,r2⟩
   refine wpS_pure (h st' r1.perm ?_ r1.fail)
   have e:=r1.arr
   match rs,r1,r2,e with
   | [],r1,_,e=>rw [e]; simp
   | [C],r1,_,e =>
    rw [e]
    simpa using (r1.good C (by simp)).2
  case step2 =>
   rintro x c st' _ hx ⟨rfl,rs,r1,r2⟩
   try dsimp only
   refine wpS_bind (wpS_get ?_)
   try dsimp only
   have hps:=r1.size
   by_cases hle:(pendingOf st').size≤1
   ·rw [if_pos hle]
    exact wpS_pure ⟨rfl,rs,r1,by omega⟩
   rw [if_neg hle]
   have z2:1<rs.length:=by rw [← hps]; exact Nat.lt_of_not_le hle
   refine wpS_bind (ZgQ hc hD r1 ?_ fun rs' st2 l1 l2 r4=>?_)
   ·rw [show ((pendingOf st').size)=rs.length from hps]
    repeat' split
    all_goals omega
   ·rw [if_neg (by simp)]
    exact wpS_pure ⟨rfl,rs',r4,by omega⟩
  ·have:=ZnH fun r hr=>(r1.good r hr).1
   omega
end
end SA
namespace SA
open PySem PyProof.Rows PySem.W
abbrev RK:=Sum Int Str
noncomputable def kLt:RK->RK->Bool
 | .inl a,.inl b=>decide (a<b)
 | .inr x,.inr y=>decide (x.cps.toList<y.cps.toList)
 | .inl _,.inr _=>true
 | .inr _,.inl _=>false
theorem Zrr {x y:Str} (h:x.cps.toList=y.cps.toList):x=y:=by
 obtain ⟨a⟩:=x; obtain ⟨b⟩:=y
 have:a=b:=Array.toList_inj.mp h
 rw [this]
noncomputable def kO:KeyOrd where
 α:=RK
 blt:=kLt
 irrefl a:=by
  cases a with
  | inl a=>simp [kLt]
  | inr x=>simp [kLt,List.lt_irrefl]
 trans a b c h1 h2:=by
  cases a <;> cases b <;> cases c <;> simp only [kLt,decide_eq_true_eq,reduceCtorEq,Bool.false_eq_true] at h1 h2 ⊢
  ·omega
  ·exact List.lt_trans h1 h2
 negTrans a b c h:=by
  cases a <;> cases b <;> cases c <;> simp only [kLt,decide_eq_true_eq,reduceCtorEq,Bool.false_eq_true,or_true,true_or,or_false,false_or] at h ⊢
  ·omega
  ·rename_i x y z
   by_cases hab:x.cps.toList<y.cps.toList
   ·exact .inl hab
   ·exact .inr (List.lt_of_le_of_lt (List.not_lt.mp hab) h)
 total a b h1 h2:=by
  cases a <;> cases b <;> simp only [kLt,decide_eq_false_iff_not,reduceCtorEq,Bool.true_eq_false] at h1 h2
  ·congr 1; omega
  ·congr 1; exact Zrr (List.le_antisymm (List.not_lt.mp h2) (List.not_lt.mp h1))
noncomputable def rLt:List RK->List RK->Bool
 | [],[]=>false
 | [],_ :: _=>true
 | _ :: _,[]=>false
 | a :: as,b :: bs=>if a=b then rLt as bs else kLt a b
theorem ZhV:∀ l,rLt l l=false
 | []=>rfl
 | a :: l=>by rw [rLt,if_pos rfl]; exact ZhV l
theorem Zjx:∀ a b c,rLt a b=true->rLt b c=true->rLt a c=true
 | [],[],c,h1,_=>by cases h1
 | [],b :: bs,[],_,h2=>by cases h2
 | [],b :: bs,c :: cs,_,_=>rfl
 | a :: as,[],c,h1,_=>by cases h1
 | a :: as,b :: bs,[],_,h2=>by cases h2
 | a :: as,b :: bs,c :: cs,h1,h2=>by
  rw [rLt] at h1 h2 ⊢
  by_cases e1:a=b
  ·subst e1
   rw [if_pos rfl] at h1
   by_cases e2:a=c
   ·rw [if_pos e2] at h2 ⊢; exact Zjx as bs cs h1 h2
   ·rw [if_neg e2] at h2 ⊢; exact h2
  ·rw [if_neg e1] at h1
   by_cases e2:b=c
   ·subst e2; rw [if_neg e1]; exact h1
   ·rw [if_neg e2] at h2
    have h3:=kO.trans a b c h1 h2
    have e3:a≠c:=fun e=>by subst e; exact absurd ((kO.irrefl a).symm.trans h3) (by simp)
    rw [if_neg e3]; exact h3
theorem Zm9:∀ a b c,rLt a c=true->rLt a b=true∨rLt b c=true
 | [],[],[],h=>by cases h
 | [],[],c :: cs,_=>.inr rfl
 | [],b :: bs,c,_=>.inl rfl
 | a :: as,b,[],h=>by cases h
 | a :: as,[],c :: cs,_=>.inr rfl
 | a :: as,b :: bs,c :: cs,h=>by
  rw [rLt] at h
  rw [rLt,rLt]
  by_cases e1:a=c
  ·subst e1
   rw [if_pos rfl] at h
   by_cases e2:a=b
   ·subst e2; rw [if_pos rfl,if_pos rfl]; exact Zm9 as bs cs h
   ·rw [if_neg e2,if_neg (fun e=>e2 e.symm)]
    cases h1:kLt a b
    ·cases h2:kLt b a
     ·exact absurd (kO.total a b h1 h2) e2
     ·exact .inr rfl
    ·exact .inl rfl
  ·rw [if_neg e1] at h
   rcases kO.negTrans a b c h with h1 | h1
   ·have e2:a≠b:=fun e=>by subst e; exact absurd ((kO.irrefl a).symm.trans h1) (by simp)
    rw [if_neg e2]; exact .inl h1
   ·have e2:b≠c:=fun e=>by subst e; exact absurd ((kO.irrefl b).symm.trans h1) (by simp)
    rw [if_neg e2]; exact .inr h1
theorem rLt_total:∀ a b,rLt a b=false->rLt b a=false->a=b
 | [],[],_,_=>rfl
 | [],_ :: _,h,_=>by cases h
 | _ :: _,[],_,h=>by cases h
 | a :: as,b :: bs,h1,h2=>by
  rw [rLt] at h1 h2
  by_cases e:a=b
  ·subst e
   rw [if_pos rfl] at h1 h2
   rw [rLt_total as bs h1 h2]
  ·rw [if_neg e] at h1; rw [if_neg (fun z=>e z.symm)] at h2
   exact absurd (kO.total a b h1 h2) e
noncomputable def rO:KeyOrd:=⟨List RK,rLt,ZhV,Zjx,Zm9,rLt_total⟩
noncomputable def ZiR:Value->RK
 | .int i _=>.inl i
 | .str x _=>.inr x
 | _=>.inl 0
def Zjl (v:Value):Prop:=(∃ i t,v=.int i t)∨∃ x t,v=.str x t
def sameT:RK->RK->Prop
 | .inl _,.inl _=>True
 | .inr _,.inr _=>True
 | _,_=>False
def Comp:List RK->List RK->Prop
 | a :: as,b :: bs=>sameT a b∧(a=b->Comp as bs)
 | _,_=>True
section
variable {prog:Program} {w:World} {A:Around} {E:Value->Shared->Prop} {s:Shared}
theorem Zqt {b:Bool} {i j:Int} {t u:Tok} {Q:Bool->Shared->Prop} (h:Q (decide (i<j)) s):wpAny (model prog w) A (oneLt' b (.int i t) (.int j u)) Q E s:=by
 cases b
 ·exact kat_one _ _ (compareOp_gives (op:=.Lt) (typeIs_int s i t) (typeIs_int s j u) F.slot_int_lt F.entry_int_lt (F.args_int_lt_2 _ _) (gives_int_lt i j t u) (fun x=>nomatch x) h)
 ·exact oneLt_int h
theorem Zp9 {b:Bool} {i j:Str} {t u:Tok} {Q:Bool->Shared->Prop} (h:Q (decide (i.cps.toList<j.cps.toList)) s):wpAny (model prog w) A (oneLt' b (.str i t) (.str j u)) Q E s:=by
 cases b
 ·exact kat_one _ _ (compareOp_gives (op:=.Lt) (typeIs_str s i t) (typeIs_str s j u) F.slot_str_lt F.entry_str_lt (F.args_str_lt_2 _ _) (gives_str_lt i j t u) (fun x=>nomatch x) h)
 ·exact oneLt_str h
theorem ZlK {b : Bool} {Q : Bool → Shared → Prop} : ∀ (xs ys : List Value) (i : Nat) (fin : Bool), (∀ v, v ∈ xs → Zjl v) → (∀ v, v ∈ ys → Zjl v) → Comp (xs.map ZiR) (ys.map ZiR) → fin=decide (xs.length<ys.length) →
  Q (rLt (xs.map ZiR) (ys.map ZiR)) s->KatLex prog w A b fin Q (xs.zip ys) i s
 | [],[],i,fin,_,_,_,hf,h=>by subst hf; exact h
 | [],y :: ys,i,fin,_,_,_,hf,h=>by
  rw [List.zip_nil_left]
  have:fin=true:=by rw [hf]; simp
  rw [this]; exact h
 | x :: xs,[],i,fin,_,_,_,hf,h=>by
  rw [List.zip_nil_right]
  have:fin=false:=by rw [hf]; simp
  rw [this]; exact h
 | x :: xs,y :: ys,i,fin,hx,hy,hc,hf,h=>by
  rw [List.zip_cons_cons]
  have hf':fin=decide (xs.length<ys.length):=by rw [hf]; simp
  have rest:ZiR x=ZiR y->KatLex prog w A b fin Q (xs.zip ys) (i+1) s:=fun e =>
   ZlK xs ys (i+1) fin (fun v hv=>hx v (List.mem_cons_of_mem _ hv)) (fun v hv=>hy v (List.mem_cons_of_mem _ hv)) (hc.2 e) hf' (by
    rw [List.map_cons,List.map_cons,rLt,if_pos e] at h; exact h)
  have cut:ZiR x≠ZiR y->Q (kLt (ZiR x) (ZiR y)) s:=fun e=>by rw [List.map_cons,List.map_cons,rLt,if_neg e] at h; exact h
  refine kat_cons ?_
  have hs:sameT (ZiR x) (ZiR y):=hc.1
  rcases hx x List.mem_cons_self with ⟨a,t,rfl⟩ | ⟨a,t,rfl⟩
  ·rcases hy y List.mem_cons_self with ⟨c,u,rfl⟩ | ⟨c,u,rfl⟩
   ·refine wpAny_eqBool_int (kat_go (fun e=>kat_yes ?_) fun e=>kat_no ?_)
    ·exact rest (by rw [show a=c by simpa using e]; rfl)
    ·exact Zqt (cut fun z=>by simp [ZiR] at z; simp [z] at e)
   ·exact hs.elim
  ·rcases hy y List.mem_cons_self with ⟨c,u,rfl⟩ | ⟨c,u,rfl⟩
   ·exact hs.elim
   ·refine eqBool_str (kat_go (fun e=>kat_yes ?_) fun e=>kat_no ?_)
    ·exact rest (by rw [show a=c by simpa using e]; rfl)
    ·exact Zp9 (cut fun z=>by simp [ZiR] at z; simp [z] at e)
noncomputable def Zeo (h:Heap) (v:Value):List RK:=match v with
 | .ref a=>match h.get? a with
  | some o=>match o.data with
   | .seq its _=>its.toList.map ZiR
   | _=>[]
  | none=>[]
 | _=>[]
def TupAt (h:Heap) (v:Value) (r:List RK):Prop:=∃ a o its n,v=.ref a∧h.get? a=some o∧o.cls=.type "tuple"∧o.data=.seq its n∧(∀ u,u∈its.toList->Zjl u)∧its.toList.map ZiR=r
theorem TupAt.row {h:Heap} {v:Value} {r:List RK} (t:TupAt h v r):Zeo h v=r:=by
 obtain ⟨a,o,its,n,rfl,ho,_,hd,_,e⟩:=t
 unfold Zeo
 dsimp only
 rw [ho]
 dsimp only
 rw [hd]
 exact e
theorem TupAt.mono {h h':Heap} {v:Value} {r:List RK} (t:TupAt h v r) (k:∀ a o,o.cls=.type "tuple"->h.get? a=some o->h'.get? a=some o):TupAt h' v r:=by
 obtain ⟨a,o,its,n,rfl,ho,hc,hd,hp,e⟩:=t
 exact ⟨a,o,its,n,rfl,k a o hc ho,hc,hd,hp,e⟩
theorem Zp2 {S:List RK->Prop} (hS:∀ r q,S r->S q->Comp r q) {b:Bool}:Cmp (model prog w) A E s rO (fun p=>Zeo s.heap p.1) (fun p=>∃ r,S r∧TupAt s.heap p.1 r) (tuples' b):=by
 rintro ⟨x,x'⟩ ⟨y,y'⟩ st Q ⟨r,sr,tr⟩ ⟨q,sq,tq⟩ hk hQ
 dsimp only at tr tq hQ
 rw [tr.row,tq.row] at hQ
 rw [lt'_eq]
 refine wpS_bind (wpS_get ?_)
 dsimp only
 rw [hk]
 obtain ⟨a,o,its,n,rfl,ho,hc,hd,hp,rfl⟩:=tr
 obtain ⟨a',o',jts,n',rfl,ho',hc',hd',hp',rfl⟩:=tq
 refine wpS_bind (wpS_lift (wpAny_attempt (kat_lt ho hd ho' hd' (ZlK _ _ 0 _ hp hp' (hS _ _ sr sq) (by simp) ⟨rfl,?_⟩))))
 exact wpS_pure hQ
theorem Zlv {h:Heap} {x:Str->Prop}:∀ {vs:List Value},(∀ v,v∈vs->∃ z r,TupAt h v (.inr z :: r))->∃ fs,KatTups h vs fs∧fs.length=vs.length∧∀ f,f∈fs->∃ z t,f=.str z t
 | [],_=>⟨[],trivial,rfl,by simp⟩
 | v :: vs,hv=>by
  obtain ⟨fs,k1,k2,k3⟩:=Zlv (x:=x) (vs:=vs) fun u hu=>hv u (List.mem_cons_of_mem _ hu)
  obtain ⟨z,r,a,o,its,n,rfl,ho,hc,hd,hp,e⟩:=hv v List.mem_cons_self
  obtain ⟨l⟩:=its
  match l,e with
  | f :: l,e =>
   have hf:ZiR f=.inr z:=by injection e
   have hf2:∃ z t,f=.str z t:=by
    rcases hp f (by simp) with ⟨i,t,rfl⟩ | hh
    ·cases hf
    ·exact hh
   refine ⟨f :: fs,KatTups.cons ho hc hd rfl k1,by simp [k2],fun g hg=>?_⟩
   rcases List.mem_cons.mp hg with rfl | hg
   ·exact hf2
   ·exact k3 g hg
theorem ZmY {vs:List Value} {xs:List Keyed} (p:xs.Perm (vs.toArray.zip vs.toArray).toList):(xs.map (·.2)).Perm vs∧∀ u,u∈xs->u.1=u.2∧u.1∈vs:=by
 have e:(vs.toArray.zip vs.toArray).toList=vs.zip vs:=by simp
 rw [e] at p
 refine ⟨(p.map _).trans ?_,fun u hu=>?_⟩
 ·show ((vs.zip vs).map Prod.snd).Perm vs
  rw [List.map_snd_zip (Nat.le_refl _)]
 ·exact mem_zip_self (p.mem_iff.mp hu)
theorem ZnF {S : List RK → Prop} (hS : ∀ r q, S r → S q → Comp r q) {a : Addr} {vs : List Value} {n : Nat} {P : Fin → Shared → Prop} (ho : s.heap.get? a=some (seqObj "list" vs.toArray n)) (hz : vs.length ≤ sizeLine)
  (hv:∀ v,v∈vs->∃ z r,S (.inr z :: r)∧TupAt s.heap v (.inr z :: r))
  (h:∀ out:List Value,out.Perm vs->(out.map (Zeo s.heap)).Pairwise (fun x y=>rLt y x=false)->P (.done (.ret .none)) { s with heap:=sortedHeap s.heap a vs out.toArray }) :
  wpAny (model prog w) A (Builtin.«list.sort» ⟨[.ref a],[]⟩) P E s:=by
 rw [list_sort_plain]
 have ha:a<s.heap.objs.size:=Heap.lt_size ho
 refine wpAny_bind (listItems_at ho rfl (wpAny_bind (listUpdate_at ho rfl ?_)))
 obtain ⟨e1,ho1⟩:∃ e1,(s.heap.update a (Obj.mapSeq fun _=>#[])).get? a=some (seqObj "list" #[] e1):=⟨_,get?_update_seq ho (fun _=>#[])⟩
 refine wpAny_bind (seqEpoch_at ho1 rfl (wpAny_bind (wpAny_newTuple (wpAny_bind (wpAny_newList (wpAny_holding ?_))))))
 obtain ⟨h6,e6⟩:∃ h6,h6=((s.heap.update a (Obj.mapSeq fun _=>#[])).push (seqObj "tuple" vs.toArray 0)).push (seqObj "list" #[] 0):=⟨_,rfl⟩
 have keep:∀ b o,b≠a->s.heap.get? b=some o->h6.get? b=some o:=by
  intro b o hb eb
  rw [e6]
  refine Heap.get?_push_of_some _ (Heap.get?_push_of_some _ ?_)
  rw [Heap.get?_update_ne _ _ _ _ hb]; exact eb
 have ho6:h6.get? a=some (seqObj "list" #[] e1):=by
  rw [e6]; exact Heap.get?_push_of_some _ (Heap.get?_push_of_some _ ho1)
 show wpAny (model prog w) A _ P E { s with heap:=((s.heap.update a (Obj.mapSeq fun _=>#[])).push (seqObj "tuple" vs.toArray 0)).push (seqObj "list" #[] 0) }
 have sh:∀ out,sortedHeap s.heap a vs out=h6.update a (Obj.mapSeq fun _=>out):=fun out=>by rw [e6]; rfl
 rw [← e6]
 dsimp only
 have tk:∀ b o,o.cls=.type "tuple"->s.heap.get? b=some o->h6.get? b=some o:=by
  intro b o hc eb
  refine keep b o (fun z=>?_) eb
  subst z
  rw [ho] at eb
  cases eb
  have hc':Value.type "list"=Value.type "tuple":=hc
  injection hc' with q
  exact absurd q (by decide)
 have hv6:∀ v,v∈vs->∃ z r,S (.inr z :: r)∧TupAt h6 v (.inr z :: r):=fun v hv'=>by
  obtain ⟨z,r,h1,h2⟩:=hv v hv'
  exact ⟨z,r,h1,h2.mono tk⟩
 have same:∀ v,v∈vs->Zeo h6 v=Zeo s.heap v:=fun v hv'=>by
  obtain ⟨z,r,h1,h2⟩:=hv v hv'
  rw [h2.row,(h2.mono tk).row]
 have fin:∀ st':SortSt,(arrOf st').toList.Perm (vs.toArray.zip vs.toArray).toList->(arrOf st').toList.Pairwise (le rO fun p=>Zeo h6 p.1)->P (.done (.ret .none)) { s with heap:=h6.update a (Obj.mapSeq fun _=>(arrOf st').map (·.2)) }:=by
  intro st' p1 p2
  obtain ⟨q1,q2⟩:=ZmY p1
  have z:=h ((arrOf st').toList.map (·.2)) q1 ?_
  ·rw [sh] at z
   have e:((arrOf st').toList.map (·.2)).toArray=(arrOf st').map (·.2):=by
    apply Array.toList_inj.mp; simp
   rw [e] at z; exact z
  ·rw [List.map_map,List.pairwise_map]
   refine List.Pairwise.imp_of_mem (fun {x y} hx hy hxy=>?_) p2
   have hx':=q2 x hx
   have hy':=q2 y hy
   show rLt (Zeo s.heap y.2) (Zeo s.heap x.2)=false
   rw [← hx'.1,← hy'.1,← same _ hx'.2,← same _ hy'.2]
   exact hxy
 have szle:∀ st':SortSt,(arrOf st').toList.Perm (vs.toArray.zip vs.toArray).toList->((arrOf st').map (·.2)).size≤sizeLine+1:=by
  intro st' p1
  have:=p1.length_eq
  simp at this
  rw [Array.size_map]; omega
 by_cases h2:vs.toArray.size<2
 ·rw [if_pos h2,if_pos h2]
  refine wpAny_bind (wpAny_pure ?_)
  rw [StateT.run_pure]
  refine wpAny_bind (wpAny_pure ?_)
  dsimp only
  have p1:(arrOf (SortSt.mk' general' (vs.toArray.zip vs.toArray) #[] 7 none)).toList.Perm (vs.toArray.zip vs.toArray).toList:=List.Perm.refl _
  refine wpAny_bind (seqEpoch_at ho6 rfl (wpAny_bind (listUpdate_at ho6 rfl ?_ (hsz2:=szle _ p1))))
  simp only [bne_self_eq_false,Bool.false_eq_true,if_false]
  refine wpAny_pure (fin (SortSt.mk' general' (vs.toArray.zip vs.toArray) #[] 7 none) p1 ?_)
  have pw:∀ l:List Keyed,l.length<2->l.Pairwise (le rO fun p=>Zeo h6 p.1):=by
   intro l h
   cases l with
   | nil=>exact .nil
   | cons x l =>
    cases l with
    | nil=>exact List.pairwise_singleton _ _
    | cons y l=>simp only [List.length_cons] at h; omega
  exact pw _ (by simpa using h2)
 ·rw [if_neg h2,if_neg h2]
  obtain ⟨fs,k1,k2,k3⟩:=Zlv (x:=fun _=>True) (h:=h6) (vs:=vs) fun v hv'=>by
   obtain ⟨z,r,_,t⟩:=hv6 v hv'
   exact ⟨z,r,t⟩
  have hl:0<fs.length:=by rw [k2]; simp at h2; omega
  refine wpAny_bind (kat_kind (T:=.type "str") k1 hl (fun v hv'=>by obtain ⟨z,t,rfl⟩:=k3 v hv'; exact Looks.of_pure rfl) (by decide) ?_)
  refine wpAny_bind (wpAny_mono (ZkO (s:={ s with heap:=h6 }) (Zp2 hS) ([]:List RK) (st:=SortSt.mk' (tuples' (Value.type "str" != Value.type "tuple")) (vs.toArray.zip vs.toArray) #[] 7 none)
   (Q:=fun _ st'=>(arrOf st').toList.Perm (vs.toArray.zip vs.toArray).toList∧(arrOf st').toList.Pairwise (le rO fun p=>Zeo h6 p.1)∧failedOf st'=none) ?_ rfl rfl rfl fun st' a1 a2 a3=>⟨a1,a2,a3⟩) ?_ fun _ _ e=>e)
  ·intro u hu
   have:=(ZmY (List.Perm.refl _)).2 u hu
   obtain ⟨z,r,h1,h2⟩:=hv6 _ this.2
   exact ⟨_,h1,h2⟩
  ·rintro ⟨⟨⟩,st'⟩ s' ⟨rfl,p1,p2,p3⟩
   dsimp only
   refine wpAny_bind (seqEpoch_at ho6 rfl (wpAny_bind (listUpdate_at ho6 rfl ?_ (hsz2:=szle _ p1))))
   rw [p3]
   simp only [bne_self_eq_false,Bool.false_eq_true,if_false]
   exact wpAny_pure (fin st' p1 p2)
end
end SA
namespace L2
open PySem PySem.Spec PyProof.Rows PySem.W
section
variable {prog:Program} {w:World} {A:Around} {E:Value->Shared->Prop} {s:Shared}
def EntsAt (h:Heap) (d:Addr) (es:Array DictEntry) (ep:Nat):Prop:=∃ o,h.get? d=some o∧o.cls=.type "dict"∧o.data=.dict es ep
theorem EntsAt.lt {h:Heap} {d:Addr} {es:Array DictEntry} {ep:Nat} (x:EntsAt h d es ep):d<h.objs.size:=let ⟨_,ho,_⟩:=x; Heap.lt_size ho
theorem EntsAt.mono {h h':Heap} {d:Addr} {es:Array DictEntry} {ep:Nat} (x:EntsAt h d es ep) (k:∀ o,h.get? d=some o->h'.get? d=some o):EntsAt h' d es ep:=let ⟨o,ho,r⟩:=x; ⟨o,k o ho,r⟩
theorem ZlE {v d : Addr} {es : Array DictEntry} {ep : Nat} {Q : Value → Shared → Prop} (hv : s.heap.IsValuesView v d) (hd : EntsAt s.heap d es ep)
  (q:Q (.ref s.heap.objs.size) { s with heap:=s.heap.push { cls:=.type "dict_valueiterator",data:=.fields #[.ref d,.int 0 0,.int es.size 0,.int ep 0] } }):wpAny (model prog w) A (pyIter (.ref v)) Q E s:=by
 have ty:=hv.typeIs
 obtain ⟨ov,g1,g2,g3⟩:=hv
 obtain ⟨od,d1,d2,d3⟩:=hd
 have own:Builtin.Dict_items.ownsTuple "dict_valueiterator"=false:=by decide
 refine wpAny_pyIter_slot ty F.slot_dict_values_iter (wpAny_call_entry F.slot_dict_values_iter ty F.entry_dict_values_iter ?_ (F.args_dict_values_iter_1 _))
 delta Builtin.«dict_values.__iter__»
 refine wpAny_bind (wpAny_pure (wpAny_bind ?_))
 delta Builtin.Dict_items.dictOf
 refine wpAny_bind (wpAny_field g1 g3 (x:=.ref d) rfl (wpAny_pure (wpAny_bind ?_)))
 delta Builtin.Dict_items.newIterator
 refine wpAny_bind (wpAny_dictEntries d1 d3 (wpAny_bind (wpAny_dictEpoch d1 d3 ?_)))
 simp only [own,Bool.false_eq_true,if_false]
 refine wpAny_newObj_type (wpAny_pure ⟨_,rfl,"dict_valueiterator",_,⟨_,Heap.get?_push_size _ rfl,rfl⟩,F.slot_dict_valueiterator_next.lookup,?_⟩)
 simpa [rawInt] using q
theorem Zgg {it:Addr} {Q:String->Shared->Prop} (hT:s.TypeIs (.ref it) "dict_valueiterator") (h:Q "dict_valueiterator" s):wpAny (model prog w) A (typeNameOfWhole (.ref it)) Q E s:=wpAny_typeNameOfWhole_valiter hT h
theorem ZlF {it d : Addr} {i ep : Nat} {es : Array DictEntry} {e : DictEntry} {Q : Option Value → Shared → Prop} (hit : s.heap.IsValIter it d i es.size ep) (hd : EntsAt s.heap d es ep) (he : es[i]?=some e)
  (q:∀ h',h'.IsValIter it d (i+1) es.size ep->Heap.SameBut it s.heap h'->Q (some e.val) { s with heap:=h' }):wpAny (model prog w) A (pyNext (.ref it)) Q E s:=by
 have ty:=hit.typeIs
 obtain ⟨o,o1,o2,o3⟩:=id hit
 obtain ⟨od,d1,d2,d3⟩:=hd
 have own:Builtin.Dict_items.ownsTuple "dict_valueiterator"=false:=by decide
 have hlt:i<es.size:=by
  rcases Nat.lt_or_ge i es.size with h | h
  ·exact h
  ·rw [Array.getElem?_eq_none h] at he; cases he
 have hv:es[i].val=e.val:=by rw [getElem?_pos es i hlt] at he; injection he with z; rw [z]
 delta pyNext
 refine wpAny_bind (wpAny_attempt (wpAny_callSpecial?_slot (name:=Str.ofString "__next__") ty F.slot_dict_valueiterator_next
  (wpAny_call_entry F.slot_dict_valueiterator_next ty F.entry_dict_valueiterator_next ?_ (F.args_dict_valueiterator_next_1 _))))
 refine wpAny_bind (wpAny_pure (wpAny_bind (wpAny_bind (wpAny_bind (Zgg ty (wpAny_pure (wpAny_bind (wpAny_fieldsOf o1 o3 ?_))))))))
 simp only [own,Bool.false_eq_true,if_false]
 have nn:(Value.ref d == Value.none)=false:=rfl
 show wpAny _ _ (if (Value.ref d == Value.none)=true then _ else _) _ _ s
 rw [nn,if_neg Bool.false_ne_true]
 refine wpAny_bind (wpAny_pure (wpAny_bind (wpAny_dictEntries d1 d3 ?_)))
 rw [if_neg (by simp)]
 refine wpAny_bind (wpAny_pure (wpAny_bind (wpAny_dictEpoch d1 d3 ?_)))
 rw [if_neg (by simp)]
 refine wpAny_pure ?_
 simp only [show ¬ ((i:Int)<0) from by omega,if_false,Int.toNat_natCast,Array.getElem?_eq_getElem hlt]
 refine wpAny_bind (wpAny_bind (Zgg ty (wpAny_pure (wpAny_bind (wpAny_isOneOf_valiter ty ?_)))))
 show wpAny _ _ (setField (.ref it) 1 (rawInt ((i:Int)+1)) >>= _) _ _ s
 obtain ⟨h',eh⟩:∃ z,z=s.heap.update it (Obj.mapFields (·.setIfInBounds 1 (rawInt ((i:Int)+1)))):=⟨_,rfl⟩
 refine wpAny_bind (wpAny_setField o1 o3 (by simp) ?_)
 rw [← eh]
 have hit':h'.IsValIter it d (i+1) es.size ep:=by
  rw [eh]
  exact ⟨_,Heap.get?_update_self _ o1 (Obj.isFreed_of_fields (Obj.data_mapFields o3 _)),(Obj.cls_mapFields ..).trans o2,by rw [Obj.data_mapFields o3]; simp [rawInt]⟩
 have ty':({ s with heap:=h' }:Shared).TypeIs (.ref it) "dict_valueiterator":=Heap.IsValIter.typeIs (s:={ s with heap:=h' }) hit'
 refine wpAny_bind (wpAny_holding (wpAny_bind (wpAny_isOneOf_valiter ty' (wpAny_bind (wpAny_isOneOf_valiter ty' ?_)))))
 show wpAny _ _ (pure es[i].val) _ _ _
 rw [hv]
 exact wpAny_pure (wpAny_pure ⟨_,rfl,wpAny_pure (q _ hit' (by rw [eh]; exact Heap.SameBut.update ..))⟩)
theorem ZmT {it d : Addr} {i ep : Nat} {es : Array DictEntry} {Q : Option Value → Shared → Prop} (hh : A.handled=none) (hit : s.heap.IsValIter it d i es.size ep) (hd : EntsAt s.heap d es ep) (he : es.size ≤ i)
  (q:∀ h',Heap.ExtBut it s.heap h'->Q none { s with heap:=h' }):wpAny (model prog w) A (pyNext (.ref it)) Q E s:=by
 have ty:=hit.typeIs
 obtain ⟨o,o1,o2,o3⟩:=id hit
 obtain ⟨od,d1,d2,d3⟩:=hd
 have own:Builtin.Dict_items.ownsTuple "dict_valueiterator"=false:=by decide
 delta pyNext
 refine wpAny_bind (wpAny_attempt (wpAny_callSpecial?_slot (name:=Str.ofString "__next__") ty F.slot_dict_valueiterator_next
  (wpAny_call_entry F.slot_dict_valueiterator_next ty F.entry_dict_valueiterator_next ?_ (F.args_dict_valueiterator_next_1 _))))
 refine wpAny_bind (wpAny_pure (wpAny_bind (wpAny_bind (wpAny_bind (Zgg ty (wpAny_pure (wpAny_bind (wpAny_fieldsOf o1 o3 ?_))))))))
 simp only [own,Bool.false_eq_true,if_false]
 have nn:(Value.ref d == Value.none)=false:=rfl
 show wpAny _ _ (if (Value.ref d == Value.none)=true then _ else _) _ _ s
 rw [nn,if_neg Bool.false_ne_true]
 refine wpAny_bind (wpAny_pure (wpAny_bind (wpAny_dictEntries d1 d3 ?_)))
 rw [if_neg (by simp)]
 refine wpAny_bind (wpAny_pure (wpAny_bind (wpAny_dictEpoch d1 d3 ?_)))
 rw [if_neg (by simp)]
 refine wpAny_pure ?_
 simp only [show ¬ ((i:Int)<0) from by omega,if_false,Int.toNat_natCast,Array.getElem?_eq_none he]
 refine wpAny_bind (wpAny_bind (Zgg ty (wpAny_pure ?_)))
 show wpAny _ _ (setField (.ref it) 0 .none >>= _) _ _ s
 refine wpAny_bind (wpAny_setField o1 o3 (by simp) ?_)
 show wpAny _ _ (newExc (.type "StopIteration") [] >>= _) _ _ _
 refine wpAny_bind ?_
 simp only [newExc,newTuple]
 refine wpAny_bind (wpAny_newObj_type (wpAny_bind (m:=firstArgMember _ _) (wpAny_of_eq (a:=Value.none) (by first | rfl | (simp only [firstArgMember]; rfl)) (wpAny_newObj_type ?_ (by size_fits)))) (by size_fits))
 simp only [raiseNew]
 refine wpAny_bind (wpAny_handled ?_)
 rw [show A.in1.handled=none from hh]
 refine wpAny_bind (wpAny_pure (wpAny_throw ?_))
 refine wpAny_bind (wpAny_isInstance (T:="StopIteration") (b:=true) ⟨_,Heap.get?_push_size _ rfl,rfl⟩ isSubtype_stop ?_)
 exact wpAny_pure (q _ (((Heap.SameBut.update ..).extBut.push _).push _))
theorem ZnW (hh : A.handled=none) (I d : Addr) (hne : d ≠ I) (es : Array DictEntry) (ep : Nat) :
  Walks prog w A I [I,d] [I] es.size (fun i v=>∃ e,es[i]?=some e∧v=e.val) (fun i h=>h.IsValIter I d i es.size ep∧EntsAt h d es ep) where
 sub:=by intro b hb; rw [List.mem_singleton] at hb; rw [hb]; exact List.mem_cons_self
 frame:=by
  intro i h h' st k
  obtain ⟨⟨o,o1,o2⟩,e⟩:=st
  exact ⟨⟨o,k I List.mem_cons_self o o1,o2⟩,e.mono fun o eo=>k d (List.mem_cons_of_mem _ List.mem_cons_self) o eo⟩
 item:=by
  intro i s Q E hi st q
  refine ZlF st.1 st.2 (getElem?_pos es i hi) fun h' it' sm=>?_
  refine q _ h' s.toks ⟨_,getElem?_pos es i hi,rfl⟩ ⟨it',st.2.mono fun o eo=>sm.extBut d o hne eo⟩ fun b o hb eo=>sm.extBut b o (fun z=>hb (by rw [z]; exact List.mem_cons_self)) eo
 done:=by
  intro s Q E st q
  exact ZmT hh st.1 st.2 (Nat.le_refl _) fun h' x=>q h' s.toks fun b o hb eo=>x b o (fun z=>hb (by rw [z]; exact List.mem_cons_self)) eo
 self:=fun _ _ _ _ st q=>wpAny_pyIter_valiter st.1 q
theorem Zqn {r d:Addr} {es:Array DictEntry} {ep:Nat}:KdlSrc prog w "dict_values" r d es.size (fun i v=>∃ e,es[i]?=some e∧v=e.val) (fun h=>h.IsValuesView r d∧EntsAt h d es ep) where
 type:=fun _ st=>st.1.typeIs
 there:=by
  rintro h ⟨⟨o,ho,_⟩,e⟩
  exact ⟨Heap.lt_size ho,e.lt⟩
 keep:=by
  rintro h h' ⟨⟨o,ho,x⟩,e⟩ k
  exact ⟨⟨o,k r (.inl rfl) o ho,x⟩,e.mono fun o eo=>k d (.inr rfl) o eo⟩
 notList:=by decide
 notTuple:=by decide
 hint:=fun _ _ _ _ st q=>kdl_hint_values st.1.typeIs q
 iter:=by
  intro A s hh st
  refine ⟨_,_,fun E Q q=>ZlE st.1 st.2 q,ZnW hh _ d (Nat.ne_of_lt st.2.lt) es ep,⟨_,Heap.get?_push_size _ rfl,rfl,rfl⟩,st.2.mono fun o eo=>Heap.get?_push_of_some _ eo⟩
theorem ZoF {d : Addr} {es : Array DictEntry} {ep : Nat} {Q : Value → Shared → Prop} (lo : (d == sysModules)=false) (hd : EntsAt s.heap d es ep)
  (q:Q (.ref s.heap.objs.size) { s with heap:=s.heap.push { cls:=.type "dict_values",data:=.fields #[.ref d] } }):wpAny (model prog w) A (call (.builtin "dict.values") [.ref d]) Q E s:=by
 obtain ⟨od,d1,d2,d3⟩:=hd
 have ty:s.TypeIs (.ref d) "dict":=⟨od,d1,d2⟩
 refine call_meetsIn F.slot_dict_values ty F.entry_dict_values (F.args_dict_values_1 _) (S:=fun _ R s'=>s'=s∧R (.ok (.ret (.ref s'.heap.objs.size))) { s' with heap:=s'.heap.push { cls:=.type "dict_values",data:=.fields #[.ref d] } }) ?_ ⟨rfl,q⟩
 refine .of_wp fun A R s' h=>?_
 obtain ⟨rfl,h⟩:=h
 refine wpAny_bind ?_
 delta Builtin.Dict.noArgs
 refine wpAny_bind (wpAny_notOrdered_dict ty ?_)
 show wpAny _ _ (pure d) _ _ _
 refine wpAny_pure ?_
 show wpAny _ _ (Builtin.Dict.showsAll d >>= _) _ _ _
 delta Builtin.Dict.showsAll
 rw [if_neg (by rw [lo]; exact Bool.false_ne_true)]
 exact wpAny_bind (wpAny_pure (wpAny_bind (wpAny_newObj_type (wpAny_pure ⟨_,rfl,h⟩))))
end
end L2
namespace L2
open PySem PySem.Spec PyProof.Rows PySem.W SA
def ZdB (r a:Addr) (h:Heap):Prop:=h.IsValuesView r a
section
variable {prog:Program} {w:World} {A:Around} {E:Value->Shared->Prop} {s:Shared}
theorem Zca {α β:Type} {f:α->β} {m n:List β} (h:m.Perm n):∀ l:List α,n=l.map f->∃ l':List α,l'.Perm l∧m=l'.map f:=by
 induction h with
 | nil=>intro l e; exact ⟨l,List.Perm.refl _,e⟩
 | cons x _ ih =>
  intro l e
  match l,e with
  | y :: l,e =>
   injection e with e1 e2
   obtain ⟨l',p,e'⟩:=ih l e2
   exact ⟨y :: l',p.cons y,by rw [e1,e']; rfl⟩
 | swap x y l0 =>
  intro l e
  match l,e with
  | a :: b :: l,e =>
   injection e with e1 e2
   injection e2 with e2 e3
   exact ⟨b :: a :: l,List.Perm.swap ..,by rw [e1,e2,e3]; rfl⟩
 | trans _ _ ih1 ih2 =>
  intro l e
  obtain ⟨l1,p1,e1⟩:=ih2 l e
  obtain ⟨l2,p2,e2⟩:=ih1 l1 e1
  exact ⟨l2,p2.trans p1,e2⟩
theorem Zd7 {S : List RK → Prop} (hS : ∀ r q, S r → S q → Comp r q) {x : Value} {vs : List Value} {Q : Value → Shared → Prop} (hz : vs.length ≤ sizeLine) (hv : ∀ v, v ∈ vs → ∃ z r, S (.inr z :: r) ∧ TupAt s.heap v (.inr z :: r))
  (hc:∀ (A':Around) (Q':List Value->Shared->Prop),A'.handled=A.handled->(∀ h1 tk,(∀ b o,s.heap.get? b=some o->h1.get? b=some o)->s.heap.objs.size≤h1.objs.size->Q' vs { s with heap:=h1,toks:=tk })->wpAny (model prog w) A' (collect x) Q' E s)
  (h:∀ h' tk a e (out:List Value),(∀ b o,s.heap.get? b=some o->h'.get? b=some o)->s.heap.objs.size≤a->h'.get? a=some (seqObj "list" out.toArray e)->out.Perm vs->(out.map (Zeo s.heap)).Pairwise (fun x y=>rLt y x=false)->Q (.ref a) { s with heap:=h',toks:=tk }) :
  wpAny (model prog w) A (call (.builtin "sorted") [x]) Q E s:=by
 refine Calls.call_function_entry kind_sorted plain_sorted entry_sorted (args_sorted1 _) ?_
 unfold Builtin.«sorted»
 refine wpAny_bind (m:=checkCount "sorted" 1 1 _) (wpAny_pure (wpAny_bind (hc _ _ rfl fun h1 tk k1 z1=>wpAny_bind (wpAny_newList ?_))))
 have hoL:(h1.push (seqObj "list" vs.toArray 0)).get? h1.objs.size=some (seqObj "list" vs.toArray 0):=Heap.get?_push_size _ rfl
 have kp:∀ b o,s.heap.get? b=some o->(h1.push (seqObj "list" vs.toArray 0)).get? b=some o:=fun b o q=>Heap.get?_push_of_some _ (k1 b o q)
 show wpAny _ _ _ _ _ { s with heap:=h1.push (seqObj "list" vs.toArray 0),toks:=tk }
 have hv':∀ v,v∈vs->∃ z r,S (.inr z :: r)∧TupAt (h1.push (seqObj "list" vs.toArray 0)) v (.inr z :: r):=fun v hm=>by
  obtain ⟨z,r,a1,a2⟩:=hv v hm
  exact ⟨z,r,a1,a2.mono fun b o _ q=>kp b o q⟩
 refine wpAny_bind (wpAny_holding (wpAny_call_entry slot_list_sort ⟨_,hoL,rfl⟩ entry_list_sort (ZnF hS hoL hz hv' fun out p1 p2=>⟨_,rfl,?_⟩) (args_list_sort _)))
 obtain ⟨e,he⟩:=sortedHeap_at (out:=out.toArray) hoL
 refine wpAny_pure ⟨_,rfl,h _ tk _ e out (fun b o q=>?_) z1 he p1 ?_⟩
 ·have q1:=k1 _ _ q
  have lt:b<h1.objs.size:=Heap.lt_size q1
  rw [sortedHeap_old (Nat.ne_of_lt lt) (by rw [size_push']; exact Nat.lt_succ_of_lt lt)]
  exact Heap.get?_push_of_some _ q1
 ·have same:out.map (Zeo (h1.push (seqObj "list" vs.toArray 0)))=out.map (Zeo s.heap):=List.map_congr_left fun v hm=>by
   obtain ⟨z,r,a1,a2⟩:=hv v (p1.mem_iff.mp hm)
   rw [a2.row,(a2.mono fun b o _ q=>kp b o q).row]
  rw [← same]; exact p2
theorem Zqm {k:Key} {v:Value} (r:RelV (kV k) v):Zjl v∧ZiR v=k:=by
 cases k with
 | inl i=>obtain ⟨t,rfl⟩:=r; exact ⟨.inl ⟨_,_,rfl⟩,rfl⟩
 | inr x=>obtain ⟨t,rfl⟩:=r; exact ⟨.inr ⟨_,_,rfl⟩,rfl⟩
theorem Zht:∀ {ks:List Key} {us:List Value},Vals (ks.map kV) us->(∀ u,u∈us->Zjl u)∧us.map ZiR=ks
 | [],_,.nil=>⟨by simp,rfl⟩
 | k :: ks,_,.cons r t=>by
  obtain ⟨a1,a2⟩:=Zqm r
  obtain ⟨b1,b2⟩:=Zht t
  refine ⟨fun u hu=>?_,by rw [List.map_cons,a2,b2]⟩
  rcases List.mem_cons.mp hu with rfl | hu
  ·exact a1
  ·exact b1 u hu
end
section
variable {X:Cx}
theorem Zkv:MtR X "dict.values" (fun x xs H Q=>∃ a kvs,x=.ref a∧xs=[]∧H a=some (.dT kvs)∧∀ r,H r=none->Q (.ref r) (upd H r (.ext (ZdB r a)))):=by
 intro pins s σ H x xs v us Q I rx r h
 obtain ⟨a,kvs,rfl,rfl,ha,q⟩:=h
 cases r
 obtain rfl:v=Value.ref a:=rx
 obtain ⟨z,hd,xs,rel,o,es,ep,h1,h2,h3,h4,h5⟩:=Zmg I.hok ha
 refine ZoF hd ⟨o,h1,h2.1,h3⟩ ⟨.ref s.heap.objs.size,_,I.laid (t':=s.toks) (o:=.ext (ZdB s.heap.objs.size a)) (fun b u e=>Heap.get?_push_of_some _ e) (Nat.le_refl _) ?_,rfl,q _ (I.hok.fresh (Nat.le_refl _))⟩
 have g:(s.heap.push { cls:=.type "dict_values",data:=.fields #[.ref a] }).get? s.heap.objs.size=some { cls:=.type "dict_values",data:=.fields #[.ref a] }:=Heap.get?_push_size _ rfl
 refine ⟨⟨_,g,rfl,rfl⟩,⟨_,g⟩,fun g1 g2 φ k=>?_⟩
 obtain ⟨o,o1,o2⟩:=φ
 exact ⟨o,k o o1,o2⟩
theorem ZjI {S : List Key → Prop} (hS : ∀ r q, S r → S q → Comp r q) (K : W.Frag) (hc : X.calm=true) (hK : X.K=K := by rfl) : Zdd X (.builtin "sorted") (fun xs H Q => ∃ (r a : Addr) (kvs : List (List Key × V)) (bs : List (Addr × List Key)), xs=[.ref r] ∧ H r=some (.ext (ZdB r a)) ∧ H a=some (.dT kvs) ∧
  kvs.map (·.2)=bs.map (fun p=>V.ref p.1)∧(∀ p,p∈bs->SqT K H p.1 (p.2.map kV)∧S p.2∧∃ z t,p.2=.inr z :: t) ∧
  ∀ (D:Addr) (out:List (Addr × List Key)),H D=none->out.Perm bs->(out.map (·.2)).Pairwise (fun x y=>rLt y x=false)->Q (.ref D) (upd H D (.lst (out.map fun p=>V.ref p.1)))):=by
 subst hK
 intro pins s σ H xs us Q I rr h
 obtain ⟨r,a,kvs,bs,rfl,hr,ha,eb,hb,q⟩:=h
 obtain ⟨u,rfl,ru⟩:=ZfJ rr
 cases (show u=Value.ref r from ru)
 obtain ⟨z,hd,xs,rel,o,es,ep,h1,h2,h3,h4,h5⟩:=Zmg I.hok ha
 have hview:s.heap.IsValuesView r a:=(show ObjOk X.prog X.w H s.heap r (.ext (ZdB r a)) from I.hok r _ hr).1
 have hlen:kvs.length=bs.length:=by have:=congrArg List.length eb; simpa using this
 have hxl:xs.length=kvs.length:=rel.length.symm
 have hes:es.size=xs.length:=by rw [← Array.length_toList,h4,List.length_map]
 have atV:∀ {ks:List (List Key × V)} {ys:List (List Key × Addr × Value)} {cs:List (Addr × List Key)},KT H ks ys->ks.map (·.2)=cs.map (fun p=>V.ref p.1)->ys.map (fun y=>y.2.2)=cs.map (fun p=>Value.ref p.1):=by
  intro ks ys cs t
  induction t generalizing cs with
  | nil=>intro e; match cs,e with | [],_=>rfl
  | cons hh _ ih =>
   intro e
   match cs,e with
   | c :: cs,e =>
    injection e with e1 e2
    have r3:=hh.2.2
    dsimp only at e1
    rw [e1] at r3
    rw [List.map_cons,List.map_cons,ih e2]
    exact congrArg (· :: _) (show _=Value.ref c.1 from r3)
 have vals:=atV rel eb
 have esv:es.toList.map (·.val)=bs.map (fun p=>Value.ref p.1):=by rw [h4,List.map_map]; exact vals
 have tup:∀ p,p∈bs->TupAt s.heap (.ref p.1) p.2:=fun p hp=>by
  obtain ⟨its,rv,⟨ob,o1,o2,n,o3⟩,_⟩:=I.tuple (hb p hp).1
  obtain ⟨c1,c2⟩:=Zht rv
  exact ⟨p.1,ob,its.toArray,n,rfl,o1,o2,o3,by simpa using c1,by simpa using c2⟩
 refine Zd7 hS (vs:=bs.map fun p=>Value.ref p.1) (by rw [List.length_map,← hlen]; exact z) (fun v hv=>?_) (fun A' Q' hA q'=>Zla (Zqn (r:=r) (d:=a) (es:=es) (ep:=ep)) (by rw [hA]; exact I.ok.hd hc) ⟨hview,o,h1,h2.1,h3⟩ (by rw [hes,hxl]; exact z) fun h1' tk acc k1 z1 hacc=>?_) fun h' tk D e out k1 z1 he p1 p2=>?_
 ·obtain ⟨p,hp,rfl⟩:=List.mem_map.mp hv
  obtain ⟨_,b2,zz,tt,e⟩:=hb p hp
  have:=tup p hp
  rw [e] at this b2
  exact ⟨zz,tt,b2,this⟩
 ·have e:acc.toList=bs.map fun p=>Value.ref p.1:=by
   rw [← esv]
   apply List.ext_getElem?
   intro i
   rw [List.getElem?_map,Array.getElem?_toList,Array.getElem?_toList]
   rcases Nat.lt_or_ge i es.size with hi | hi
   ·have hi':i<acc.size:=by rw [hacc.1]; exact hi
    obtain ⟨en,e1,e2⟩:=hacc.2 i acc[i] (getElem?_pos acc i hi')
    rw [getElem?_pos acc i hi',e1,e2]; rfl
   ·rw [Array.getElem?_eq_none hi,Array.getElem?_eq_none (by rw [hacc.1]; exact hi)]; rfl
  have z:=q' h1' tk k1 z1
  rw [← e] at z
  exact z
 ·obtain ⟨out',p3,rfl⟩:=Zca p1 bs rfl
  have srt:(out'.map (·.2)).Pairwise (fun x y=>rLt y x=false):=by
   have e:(out'.map fun p=>Value.ref p.1).map (Zeo s.heap)=out'.map (·.2):=by
    rw [List.map_map]
    exact List.map_congr_left fun p hp=>(tup p (p3.mem_iff.mp hp)).row
   rw [← e]; exact p2
  have vv:∀ l:List (Addr × List Key),Vals (l.map fun p=>V.ref p.1) (l.map fun p=>Value.ref p.1):=by
   intro l
   induction l with
   | nil=>exact .nil
   | cons p l ih=>exact .cons rfl ih
  exact ⟨.ref D,_,I.laid (t':=tk) (o:=.lst (out'.map fun p=>V.ref p.1)) k1 z1 (show ObjOk X.prog X.w _ _ _ (.lst (out'.map fun p=>V.ref p.1)) from ⟨by rw [List.length_map,p3.length_eq,← hlen]; exact z,_,e,vv out',he⟩),rfl,q _ out' (I.hok.fresh z1) p3 srt⟩
end
theorem FunD.binds2 {K : W.Frag} {x qual : Str} {st : Stmt} {f T : Addr} {fd : FuncData} {ps : List Str} {o : Obj} {n : Nat} (F : FunD K x qual st f fd (.ref T)) (ho : K.lookup T=some o) (hs : o.data=.seq #[.none] n)
  (h:∀ (kV doc pm:Value) (an:Option Addr) (cdv ct:Value) (us:List Value),us.length=ps.length->∃ k:Option (Array Value)->Sem (List (Str × Value)),
   bindArgs (W.fnOf x qual (Zcg st) (ZbW st) (Zal st) (.ref T) kV doc pm an cdv ct) ⟨us,[]⟩=seqItems? (.ref T) >>= k∧k (some #[.none])=pure (ps.zip us)):Binds K fd ps []:=by
 obtain ⟨oc,od,kV,doc,pm,an,cdv,ct,osl,rfl,lk,hcd⟩:=F.ex
 intro s us hin hl
 rw [List.append_nil] at hl ⊢
 obtain ⟨k,h1,h2⟩:=h kV doc pm an cdv ct us hl
 exact W.binds_K hin rfl ho hs h1 h2
section
variable {X:Cx}
theorem ZmK:∀ {cs:List (Addr × List Key)} {us:List Value},Vals (cs.map fun p=>V.ref p.1) us->us=cs.map fun p=>Value.ref p.1
 | [],_,.nil=>rfl
 | c :: cs,_,.cons r t=>by rw [List.map_cons,ZmK t]; exact congrArg (· :: _) (show _=Value.ref c.1 from r)
theorem ZkA:∀ l:List (Addr × List Key),Vals (l.map fun p=>V.ref p.1) (l.map fun p=>Value.ref p.1)
 | []=>.nil
 | p :: l=>.cons rfl (ZkA l)
theorem Zd4 {S : List Key → Prop} (hS : ∀ r q, S r → S q → Comp r q) (K : W.Frag) (hK : X.K=K := by rfl) : Zdd X (.builtin "sorted") (fun xs H Q => ∃ (l : Addr) (bs : List (Addr × List Key)), xs=[.ref l] ∧ SqL K H l (bs.map fun p => V.ref p.1) ∧
  (∀ p,p∈bs->SqT K H p.1 (p.2.map kV)∧S p.2∧∃ z t,p.2=.inr z :: t) ∧
  ∀ (D:Addr) (out:List (Addr × List Key)),H D=none->out.Perm bs->(out.map (·.2)).Pairwise (fun x y=>rLt y x=false)->Q (.ref D) (upd H D (.lst (out.map fun p=>V.ref p.1)))):=by
 subst hK
 intro pins s σ H xs us Q I rr h
 obtain ⟨l,bs,rfl,hl,hb,q⟩:=h
 obtain ⟨u,rfl,ru⟩:=ZfJ rr
 cases (show u=Value.ref l from ru)
 obtain ⟨its,rv,pl,hz⟩:=I.list hl
 have ev:=ZmK rv
 subst ev
 rw [List.length_map] at hz
 have tup:∀ p,p∈bs->TupAt s.heap (.ref p.1) p.2:=fun p hp=>by
  obtain ⟨its,rv,⟨ob,o1,o2,n,o3⟩,_⟩:=I.tuple (hb p hp).1
  obtain ⟨c1,c2⟩:=Zht rv
  exact ⟨p.1,ob,its.toArray,n,rfl,o1,o2,o3,by simpa using c1,by simpa using c2⟩
 refine Zd7 hS (vs:=bs.map fun p=>Value.ref p.1) (by rw [List.length_map]; exact hz) (fun v hv=>?_) (fun A' Q' _ q'=>collect_list pl.isList (q' _ _ (fun b o e=>?_) ?_) (by rw [List.length_map]; exact hz)) fun h' tk D e out k1 z1 he p1 p2=>?_
 ·obtain ⟨p,hp,rfl⟩:=List.mem_map.mp hv
  obtain ⟨_,b2,zz,tt,e⟩:=hb p hp
  have:=tup p hp
  rw [e] at this b2
  exact ⟨zz,tt,b2,this⟩
 ·have lt:=Heap.lt_size e
  rw [Heap.get?_update_ne _ _ _ _ (Nat.ne_of_lt lt)]
  exact Heap.get?_push_of_some _ e
 ·rw [Heap.size_update,size_push']
  exact Nat.le_succ _
 ·obtain ⟨out',p3,rfl⟩:=Zca p1 bs rfl
  have srt:(out'.map (·.2)).Pairwise (fun x y=>rLt y x=false):=by
   have e:(out'.map fun p=>Value.ref p.1).map (Zeo s.heap)=out'.map (·.2):=by
    rw [List.map_map]
    exact List.map_congr_left fun p hp=>(tup p (p3.mem_iff.mp hp)).row
   rw [← e]; exact p2
  exact ⟨.ref D,_,I.laid (t':=tk) (o:=.lst (out'.map fun p=>V.ref p.1)) k1 z1 (show ObjOk X.prog X.w _ _ _ (.lst (out'.map fun p=>V.ref p.1)) from ⟨by rw [List.length_map,p3.length_eq]; exact hz,_,e,ZkA out',he⟩),rfl,q _ out' (I.hok.fresh z1) p3 srt⟩
end
section
variable {X:Cx} {pins:List (Addr × Obj)} {σ:St} {H H':Hp} {s:Shared} {d:Addr} {kvs:List (List Key × V)} {o:Obj}
theorem Inv.thawT (I:Inv X pins σ H s) (e:H d=some (.frz o (.dT kvs))) (n:∀ o u,X.H₀ d≠some (.frz o u)):Inv X pins σ (upd H d (.dT kvs)) s:=by
 have ne:∀ b,H b=none->b≠d:=fun b z q=>by subst q; rw [e] at z; cases z
 refine ⟨I.ok,I.os,I.bare,⟨I.base.keep,I.base.slot,fun b q h1 h2 h3=>?_,I.base.there,fun b xs h1=>?_,fun b q u h1=>?_,fun b ps h1=>?_⟩,I.loc,I.cell,?_,fun x c h1=>?_,fun p hp=>?_,fun b u h1=>?_,I.len⟩
 ·have:=I.base.free b q h1 h2 h3
  rw [Zak (ne b this)]; exact this
 ·have:=I.base.tups b xs h1
  rw [Zak (fun z=>by subst z; rw [e] at this; cases this)]; exact this
 ·have:=I.base.frzs b q u h1
  rw [Zak (fun z=>by subst z; exact n _ _ h1)]; exact this
 ·obtain ⟨more,this⟩:=I.base.tbls b ps h1
  exact ⟨more,by rw [Zak (fun z=>by subst z; rw [e] at this; cases this)]; exact this⟩
 ·rw [Zak (ne _ I.free)]; exact I.free
 ·have:=I.freeC x c h1
  rw [Zak (ne _ this)]; exact this
 ·obtain ⟨a1,a2,a3⟩:=I.pin p hp
  exact ⟨a1,by rw [Zak (ne _ a2)]; exact a2,a3⟩
 ·have st:∀ {b:Addr} {u:HO},ObjOk X.prog X.w H s.heap b u->ObjOk X.prog X.w (upd H d (.dT kvs)) s.heap b u:=fun x=>by
   refine x.stay (fun c v hc q=>q) (fun c q=>?_) fun c xs q=>?_
   ·rw [Zak (fun z=>by subst z; rw [e] at q; cases q)]; exact q
   ·rw [Zak (fun z=>by subst z; rw [e] at q; cases q)]; exact q
  by_cases z:b=d
  ·subst z
   rw [Zab] at h1
   cases h1
   exact st (show ObjOk X.prog X.w H s.heap b (.dT kvs) from (I.hok b _ e).2)
  ·rw [Zak z] at h1
   exact st (I.hok b u h1)
end
def ZrG (t:TS):TS:=fun D σ H=>∃ d kvs,H d=some (.dT kvs)∧t { nx:=fun σ' H'=>∃ o,H' d=some (.frz o (.dT kvs))∧D.nx σ' (upd H' d (.dT kvs)),rt:=fun _ _=>False } σ H
theorem Zpw {X:Cx} {st:Stmt} {t:TS} (hs:PS X st t):PS X st (ZrG t):=by
 intro pins s σ H D I h
 obtain ⟨d,kvs,hd,h⟩:=h
 have n:∀ o u,X.H₀ d≠some (.frz o u):=fun o u z=>by
  have:=I.base.frzs d o u z
  rw [hd] at this
  cases this
 refine thn (hs pins s σ H _ I h) fun fl s1 q=>?_
 cases fl with
 | next =>
  obtain ⟨σ1,H1,I1,o,e1,q1⟩:=q
  exact ⟨σ1,_,I1.thawT e1 n,q1⟩
 | brk=>obtain ⟨σ1,H1,I1,z⟩:=q; exact z.elim
 | cont=>obtain ⟨σ1,H1,I1,z⟩:=q; exact z.elim
 | ret u=>obtain ⟨v,σ1,H1,I1,r,z⟩:=q; exact z.elim
theorem Zq4 {H:Hp}:∀ {kvs:List (List Key × V)} {xs:List (List Key × Addr × Value)},KT H kvs xs->∀ (i:Nat) (p:List Key × V),kvs[i]?=some p->∃ x,xs[i]?=some x∧RelV p.2 x.2.2
 | [],_,r,i,p,e=>by cases e
 | q :: kvs,_,r,i,p,e=>by
  cases r with
  | @cons _ y _ _ h t =>
   cases i with
   | zero =>
    cases (show some q=some p from e)
    exact ⟨y,rfl,h.2.2⟩
   | succ i =>
    rw [List.getElem?_cons_succ] at e
    obtain ⟨x,hx⟩:=Zq4 t i p e
    exact ⟨x,by rw [List.getElem?_cons_succ]; exact hx.1,hx.2⟩
noncomputable def Zrk (d:Addr) (o:Obj) (kvs:List (List Key × V)):It where
 go:=fun i H=>H d=some (.frz o (.dT kvs))∧i<kvs.length
 stop:=fun i H=>H d=some (.frz o (.dT kvs))∧kvs.length≤i
 yld:=fun i H x H'=>H'=H∧(kvs[i]?.map fun p=>p.2)=some x
theorem ZnL {P:Program} {w:World} {K:W.Frag} {tg:Expr} (d it:Addr) (o:Obj) (kvs:List (List Key × V)) (es:Array DictEntry) (ep:Nat) (ho:o.data=.dict es ep) (hc:o.cls=.type "dict") (hz:es.size=kvs.length):Turn P w K tg (Zrk d o kvs) [it] it (fun i h=>h.IsValIter it d i es.size ep) where
 mem:=by simp
 obj:=fun i h st b hb=>by
  have e:b=it:=by simpa using hb
  subst e
  obtain ⟨o,e,c,d⟩:=st
  exact ⟨o,e,fun v z=>by rw [d] at z; cases z⟩
 keep:=fun i h h' st k=>by
  obtain ⟨o,e,c⟩:=st
  exact ⟨o,k it (by simp) o e,c⟩
 item:=by
  intro X hP hw hK hcalm i pins s σ H E I hf st hg
  subst hP hw hK
  obtain ⟨hq,hi⟩:=hg
  obtain ⟨g1,g2⟩:=(show s.heap.get? d=some o∧ObjOk X.prog X.w H s.heap d (.dT kvs) from I.hok d _ hq)
  obtain ⟨z,hd,xs,rel,o2,es2,ep2,h1,h2,h3,h4,h5⟩:=ZkD I.hok (.inr ⟨o,hq⟩)
  rw [g1] at h1
  cases h1
  rw [ho] at h3
  cases h3
  obtain ⟨x,hx,rx⟩:=Zq4 rel i kvs[i] (List.getElem?_eq_getElem hi)
  have hen:∃ en,es[i]?=some en∧en.val=x.2.2:=by
   have e1:es.toList[i]?=es[i]?:=Array.getElem?_toList ..
   rw [h4,List.getElem?_map,hx] at e1
   exact ⟨_,e1.symm,rfl⟩
  obtain ⟨en,hen,ev⟩:=hen
  obtain ⟨f0,f1,f2,f3,f4,f5⟩:=hf it (by simp)
  refine ZlF st ⟨o,g1,hc,ho⟩ hen fun h' st' sb=>?_
  have I1:Inv X pins σ H { s with heap:=h' }:=I.turned (t':=s.toks) (fun b o hb e=>(sb.2 b hb).trans e) f0 f1 f3 f4 f5
  obtain ⟨o3,e3,c3,d3⟩:=id st'
  exact ⟨en.val,rfl,Znb (s:={ s with heap:=h' }) e3 c3 d3 (by decide) ⟨kvs[i].2,H,I1,by rw [ev]; exact rx,⟨rfl,by rw [List.getElem?_eq_getElem hi]; rfl⟩,st',fun b hb=>(hf b hb).1⟩⟩
 done:=by
  intro X hP hw hK hcalm i pins s σ H E I hf st hg
  subst hP hw hK
  obtain ⟨hq,hi⟩:=hg
  obtain ⟨g1,g2⟩:=(show s.heap.get? d=some o∧ObjOk X.prog X.w H s.heap d (.dT kvs) from I.hok d _ hq)
  obtain ⟨f0,f1,f2,f3,f4,f5⟩:=hf it (by simp)
  exact ZmT (I.ok.hd hcalm) st ⟨o,g1,hc,ho⟩ (by omega) fun h' eb=>⟨rfl,I.turned (t':=s.toks) (fun b o hb e=>eb b o hb e) f0 f1 f3 f4 f5⟩
 self:=fun _ _ _ _ _ st h=>wpAny_pyIter_valiter st h
def Zse (tl:TE):TI:=fun σ H R=>tl σ H fun x H1=>∃ r a kvs,x=.ref r∧H1 r=some (.ext (ZdB r a))∧H1 a=some (.dT kvs)∧∀ o,R (Zrk a o kvs) (upd H1 a (.frz o (.dT kvs)))
theorem Zqw {X:Cx} {tg l:Expr} {tl:TE} (hl:PE X l tl):PI X tg l (Zse tl):=by
 intro pins s σ H R I h
 refine thn (hl pins s σ H _ I h) fun v s1 ⟨x,H1,I1,r1,q1⟩=>?_
 obtain ⟨r,a,kvs,e,hr,ha,q⟩:=q1
 subst e
 cases r1
 have hview:s1.heap.IsValuesView r a:=(show ObjOk X.prog X.w H1 s1.heap r (.ext (ZdB r a)) from I1.hok r _ hr).1
 obtain ⟨z,hd,xs,rel,o,es,ep,h1,h2,h3,h4,h5⟩:=Zmg I1.hok ha
 have hes:es.size=kvs.length:=by rw [← Array.length_toList,h4,List.length_map]; exact rel.length.symm
 have fz:∀ {c:Addr} {u:HO},ObjOk X.prog X.w H1 s1.heap c u->ObjOk X.prog X.w (upd H1 a (.frz o (.dT kvs))) s1.heap c u:=fun x=>by
  refine x.stay (fun c v hc qe=>qe) (fun c qe=>?_) fun c ys qe=>?_
  ·rw [Zak (fun z=>by subst z; rw [ha] at qe; cases qe)]; exact qe
  ·rw [Zak (fun z=>by subst z; rw [ha] at qe; cases qe)]; exact qe
 have If:Inv X pins σ (upd H1 a (.frz o (.dT kvs))) s1 :=
  I1.write (x:=a) (e:=a) (o:=.frz o (.dT kvs)) (h':=s1.heap) (t':=s1.toks) (by rw [ha]; exact True.intro) (.inl rfl) (fun b u _ e=>e) ⟨o,h1⟩ ⟨h1,fz (show ObjOk X.prog X.w H1 s1.heap a (.dT kvs) from I1.hok a _ ha)⟩
 refine ZlE hview ⟨o,h1,h2.1,h3⟩ ?_
 refine ⟨s1.heap.objs.size,[s1.heap.objs.size],_,_,_,rfl,If.kept (t':=s1.toks) fun b o e=>Heap.get?_push_of_some _ e,ZnL a _ o kvs es ep h3 h2.1 hes,⟨_,Heap.get?_push_size _ rfl,rfl,rfl⟩,fun b hb=>?_,q o⟩
 have e:b=s1.heap.objs.size:=by simpa using hb
 subst e
 exact If.fpOk (Nat.le_refl _) (If.hok.fresh (Nat.le_refl _))
theorem Zpt {d : Addr} {o : Obj} {kvs : List (List Key × V)} {g : TG} {tb : TS} {D : Ends} {σ : St} {H : Hp} (Pv : Nat → St → Hp → Prop) (h0 : Pv 0 σ H) (hl : ∀ i σ H, i ≤ kvs.length → Pv i σ H → H d=some (.frz o (.dT kvs)))
  (hs:∀ i p σ H,kvs[i]?=some p->Pv i σ H->g p.2 σ H fun σ2 H2=>tb { D with nx:=Pv (i+1),ct:=Pv (i+1),bk:=D.nx } σ2 H2) (hd:∀ σ H,Pv kvs.length σ H->D.nx σ H) :
  ∃ W:Nat->Nat->St->Hp->Prop,(∃ m,W 0 m σ H)∧∀ i m σ H,W i m σ H →
   ((Zrk d o kvs).stop i H∧D.nx σ H)∨((Zrk d o kvs).go i H∧∃ N:St->Hp->Prop,(∀ σ' H',N σ' H'->∃ m',m'<m∧W (i+1) m' σ' H')∧∀ x H',(Zrk d o kvs).yld i H x H'->g x σ H' fun σ2 H2=>tb { D with nx:=N,ct:=N,bk:=D.nx } σ2 H2):=by
 refine ⟨fun i m σ H=>m=kvs.length-i∧i≤kvs.length∧Pv i σ H,⟨kvs.length,by simp,Nat.zero_le _,h0⟩,?_⟩
 rintro i m σ H ⟨rfl,hi,p⟩
 have q:=hl i σ H hi p
 by_cases hlt:i<kvs.length
 ·refine .inr ⟨⟨q,hlt⟩,Pv (i+1),fun σ' H' p'=>⟨kvs.length-(i+1),by omega,rfl,hlt,p'⟩,fun x H' y=>?_⟩
  obtain ⟨e,y⟩:=y
  subst e
  rw [List.getElem?_eq_getElem hlt] at y
  cases (show kvs[i].2=x from Option.some.inj y)
  exact hs i kvs[i] σ _ (List.getElem?_eq_getElem hlt) p
 ·have e:i=kvs.length:=by omega
  subst e
  exact .inl ⟨⟨q,Nat.le_refl _⟩,hd σ H p⟩
section
variable {prog:Program} {w:World} {A:Around} {E:Value->Shared->Prop}
theorem ZlX {it l : Addr} {items : Array Value} (hne : l ≠ it) : ∀ (n i : Nat) (s : Shared) (Q : List Value → Shared → Prop), s.heap.IsListIter it l i → s.heap.IsList l items → i + n ≤ items.size →
  (∀ h',h'.IsListIter it l (i+n)->Heap.SameBut it s.heap h'->Q ((items.toList.drop i).take n) { s with heap:=h' })->wpAny (model prog w) A (draw (.ref it) n) Q E s
 | 0,i,s,Q,hit,_,_,hQ=>by
  show wpAny _ _ (pure []) Q E s
  exact wpAny_pure (by simpa using hQ s.heap hit (Heap.SameBut.refl ..))
 | n+1,i,s,Q,hit,ht,hle,hQ=>by
  have hlt:i<items.size:=by omega
  show wpAny _ _ (pyNext (.ref it) >>= _) Q E s
  refine wpAny_bind (wpAny_pyNext_list_item hit ht (x:=items[i]) (by simp [hlt]) fun h₁ hit₁ hs₁=>?_)
  have ht1:h₁.IsList l items:=by obtain ⟨o,ho,x⟩:=ht; exact ⟨o,hs₁.extBut l o hne ho,x⟩
  refine wpAny_bind (wpAny_holding (ZlX hne n (i+1) _ _ hit₁ ht1 (by omega) fun h₂ hit₂ hs₂=>wpAny_pure ?_))
  have hd:items.toList.drop i=items[i] :: items.toList.drop (i+1):=by simp [List.drop_eq_getElem_cons,hlt]
  have:=hQ h₂ (by rw [show i+(n+1)=i+1+n by omega]; exact hit₂) (hs₁.trans hs₂)
  rw [hd,List.take_succ_cons] at this
  exact this
theorem Zhc {s : Shared} {l : Addr} {items : Array Value} {Q : List Value → Shared → Prop} (hh : A.handled=none) (ht : s.heap.IsList l items)
  (hQ:∀ h',Heap.ExtBut s.heap.objs.size s.heap h'->Q items.toList { s with heap:=h' }):wpAny (model prog w) A (unpackItems (.ref l) items.size none) Q E s:=by
 have hlt:l≠s.heap.objs.size:=by obtain ⟨o,ho,_⟩:=ht; exact Nat.ne_of_lt (Heap.lt_size ho)
 have htp:∀ {x:Obj},(s.heap.push x).IsList l items:=fun {x}=>by obtain ⟨o,ho,y⟩:=ht; exact ⟨o,Heap.get?_push_of_some _ ho,y⟩
 unfold unpackItems
 refine wpAny_bind ?_
 ·unfold notIterableAtAll
  refine wpAny_bind (wpAny_specialOf ht.typeIs slot_list_iter.lookup ?_)
  refine wpAny_pure ?_
  simp only [Bool.false_eq_true,if_false]
  refine wpAny_bind (wpAny_holding (wpAny_pyIter_list ht ?_))
  refine wpAny_bind (wpAny_holding (ZlX hlt items.size 0 _ _ ⟨_,Heap.get?_push_size _ rfl,rfl,rfl⟩ htp (by omega) fun h₁ hit₁ hs₁=>?_))
  have hall:List.take items.size (List.drop 0 items.toList)=items.toList:=by
   rw [List.drop_zero]; exact List.take_of_length_le (by simp)
  rw [hall]
  rw [if_neg (by simp)]
  have ht₁:h₁.IsList l items:=by obtain ⟨o,ho,y⟩:=(htp:(s.heap.push _).IsList l items); exact ⟨o,hs₁.extBut l o hlt ho,y⟩
  refine wpAny_bind (wpAny_holding (wpAny_pyNext_list_end hh hit₁ ht₁ (by simp) fun h₂ he₂=>?_))
  simp only [Option.isSome_none,Bool.false_eq_true,if_false]
  refine wpAny_pure (hQ h₂ fun b o hb e=>he₂ b o hb (hs₁.extBut b o hb (Heap.get?_push_of_some _ e)))
end
def ZsO (K:W.Frag) (n:Nat) (t:TGs):TG:=fun v σ H Q=>∃ a xs,v=.ref a∧SqL K H a xs∧xs.length=n∧t xs σ H Q
theorem Zm3 {X : Cx} {es : List Expr} {k : Nat} {t : TGs} {n : Nat} {pos : Pos} (hc : X.calm=true) (h : PGs X es t)
  (hn:(assignEach es X.env).length=n:=by rfl) (hst:(assignEach es X.env).findIdx? (·.1)=none:=by rfl):PG X (.Tuple es k pos) (ZsO X.K n t):=by
 intro pins s σ H v u Q I r hw
 obtain ⟨a,xs,e1,hq,hl,hw⟩:=hw
 subst e1
 cases r
 obtain ⟨its,rv,ht,hz⟩:=I.list hq
 rw [arm_assign_Tuple]
 refine wpAny_bind (wpAny_standAt ?_)
 unfold unpack
 have hn2:(assignEach es X.env).length=its.toArray.size:=by simp [hn,← hl,rv.length]
 rw [hn2,hst]
 refine wpAny_bind (wpAny_holding (Zhc (I.ok.hd hc) ht.isList fun h' hx=>?_))
 have I1:Inv X pins σ H { s with heap:=h' }:=I.kept (t':=s.toks) fun b o e=>hx b o (Nat.ne_of_lt (Heap.lt_size e)) e
 exact h pins _ σ H xs _ Q I1 (by simpa using rv) hw
theorem Zne {α : Type} {J : It} {σ0 : St} {g : TG} {tt : TT} {te : TE} {Q : VK} {H1 : Hp} (sel : List (Option α)) (P : α → Hp → V → Prop) (mono : ∀ a H H' v D xs, P a H v → H D=some (.lst xs) → Zsw D H H' → P a H' v) (hn : sel.length<sizeLine) (σP : St → Prop) (h0 : σP σ0)
  (go:∀ i H,i<sel.length->Same H1 H->J.go i H) (stop:∀ H,Same H1 H->J.stop sel.length H)
  (step:∀ i σ H x H' o,sel[i]?=some o->σP σ->Same H1 H->J.yld i H x H'->∀ C:Option V->St->Hp->Prop,(o=none->∀ σ2 H6,σP σ2->Same H H6->C none σ2 H6)->(∀ a,o=some a->∀ y σ2 H6,σP σ2->Same H H6->P a H6 y->C (some y) σ2 H6)->g x σ H' fun σ2 H4=>tt σ2 H4 fun c H5=>if c=true then te σ2 H5 fun y' H6=>C (some y') σ2 H6 else C none σ2 H5)
  (fin:∀ D ys H',H1 D=none->Same H1 H'->H' D=some (.lst ys)->ys.length=(sel.filterMap id).length->(∀ (j:Nat) (y:V) (a:α),ys[j]?=some y->(sel.filterMap id)[j]?=some a->P a H' y)->Q (.ref D) H'):Zpp J σ0 g tt te Q H1:=by
 intro D hD
 have keep:∀ {H:Hp} {o:HO},Same H1 H->Same H1 (upd H D o):=fun {H o} e b u q=>by
  rw [Zak (Zat q hD)]
  exact e b u q
 have fl:∀ i,((sel.take i).filterMap id).length≤sel.length:=fun i=>Nat.le_trans (List.length_filterMap_le _ _) (by rw [List.length_take]; omega)
 refine ⟨fun i m σ ys H=>i≤sel.length∧m=sel.length-i∧σP σ∧ys.length=((sel.take i).filterMap id).length∧(∀ (j:Nat) (y:V) (a:α),ys[j]?=some y->((sel.take i).filterMap id)[j]?=some a->P a H y)∧H D=some (.lst ys)∧Same H1 H,⟨_,Nat.zero_le _,rfl,h0,rfl,fun j y a e=>by simp at e,Zab,keep (Same.refl H1)⟩,?_⟩
 rintro i m σ ys H ⟨hi,rfl,p,hy,hP,hd,sm⟩
 refine ⟨hd,?_⟩
 by_cases lt:i<sel.length
 ·have e:sel[i]?=some sel[i]:=by simp [lt]
  have tk:(sel.take (i+1)).filterMap id=(sel.take i).filterMap id++(match sel[i] with | none=>[] | some a=>[a]):=by
   rw [List.take_succ_eq_append_getElem lt,List.filterMap_append]
   cases sel[i] <;> rfl
  refine .inr ⟨go i H lt sm,fun σ2 ys2 H3=>σP σ2∧ys2.length=((sel.take (i+1)).filterMap id).length∧(∀ (j:Nat) (y:V) (a:α),ys2[j]?=some y->((sel.take (i+1)).filterMap id)[j]?=some a->P a H3 y)∧H3 D=some (.lst ys2)∧Same H1 H3,fun σ2 ys2 H3 ⟨a,b,c,d,e⟩=>⟨_,by omega,lt,rfl,a,b,c,d,e⟩,fun x H3 y=>?_⟩
  refine step i σ H x H3 sel[i] e p sm y (fun o σ2 H6=>match o with
   | some y'=>H6 D=some (.lst ys)∧ys.length<sizeLine∧σP σ2∧(ys++[y']).length=((sel.take (i+1)).filterMap id).length∧(∀ (j:Nat) (z:V) (a:α),(ys++[y'])[j]?=some z->((sel.take (i+1)).filterMap id)[j]?=some a->P a (upd H6 D (.lst (ys++[y']))) z)∧upd H6 D (.lst (ys++[y'])) D=some (.lst (ys++[y']))∧Same H1 (upd H6 D (.lst (ys++[y'])))
   | none=>σP σ2∧ys.length=((sel.take (i+1)).filterMap id).length∧(∀ (j:Nat) (z:V) (a:α),ys[j]?=some z->((sel.take (i+1)).filterMap id)[j]?=some a->P a H6 z)∧H6 D=some (.lst ys)∧Same H1 H6) (fun on σ2 H6 p2 s6=>?_) (fun a oa y' σ2 H6 p2 s6 hp6=>?_)
  ·have tn:(sel.take (i+1)).filterMap id=(sel.take i).filterMap id:=by rw [tk,on]; exact List.append_nil _
   refine ⟨p2,by rw [tn]; exact hy,fun j z a e1 e2=>?_,s6 _ _ hd,sm.trans s6⟩
   rw [tn] at e2
   exact mono a H H6 z D ys (hP j z a e1 e2) hd fun b u _ q=>s6 b u q
  ·have ts:(sel.take (i+1)).filterMap id=(sel.take i).filterMap id++[a]:=by rw [tk,oa]
   have hd6:=s6 _ _ hd
   have bt:Zsw D H6 (upd H6 D (.lst (ys++[y']))):=fun b u nb e=>by rw [Zak nb]; exact e
   have fi:=fl i
   refine ⟨hd6,by omega,p2,by rw [ts,List.length_append,List.length_append,hy]; rfl,fun j z b e1 e2=>?_,Zab,keep (sm.trans s6)⟩
   rw [ts] at e2
   by_cases jl:j<ys.length
   ·rw [List.getElem?_append_left jl] at e1
    rw [List.getElem?_append_left (by omega)] at e2
    exact mono b H _ z D _ (hP j z b e1 e2) hd (fun b u nb e=>bt b u nb (s6 b u e))
   ·have j0:j=ys.length:=by
     have:=(List.getElem?_eq_some_iff.mp e1).1
     simp at this
     omega
    subst j0
    rw [List.getElem?_append_right (Nat.le_refl _),Nat.sub_self] at e1
    rw [List.getElem?_append_right (by omega),hy,Nat.sub_self] at e2
    cases (show y'=z by simpa using e1)
    cases (show a=b by simpa using e2)
    exact mono a H6 _ _ D _ hp6 hd6 bt
 ·have e:i=sel.length:=by omega
  subst e
  rw [List.take_length] at hy hP
  exact .inl ⟨stop H sm,fin D ys H hD sm hd hy hP⟩
end L2
namespace L2
open PySem PySem.Spec PyProof.Rows PySem.W
noncomputable def Zcc (K:W.Frag) (f:Addr):FuncData:=match K.lookup f with
 | some ⟨_,_,.func fd,_⟩=>fd
 | _=>default
structure DefIn (K:W.Frag) (x q:Str) (st:Stmt) (f:Addr):Prop where
 ex:∃ (oc:Value) (od:Option Addr) (kV doc pm:Value) (an:Option Addr) (cdv ct:Value) (osl:Array (Option Value)),
  K.lookup f=some ⟨oc,od,.func (fnOf x q (Zcg st) (ZbW st) (Zal st) .none kV doc pm an cdv ct),osl⟩∧codeIn K cdv q=true
 kp:keepIn K (.ref f)=true
theorem DefIn.fn {K:W.Frag} {x q:Str} {st:Stmt} {f:Addr} (h:DefIn K x q st f):Fun K x q st f (Zcc K f):=by
 obtain ⟨oc,od,kV,doc,pm,an,cdv,ct,osl,lk,hc⟩:=h.ex
 have e:Zcc K f=fnOf x q (Zcg st) (ZbW st) (Zal st) .none kV doc pm an cdv ct:=by unfold Zcc; rw [lk]
 rw [e]
 exact ZqV lk hc h.kp
def Zoo (x q:Str) (st:Stmt) (ps:List Str):Prop:=∀ (kV doc pm:Value) (an:Option Addr) (cdv ct:Value) (us:List Value),us.length=ps.length->bindArgs (fnOf x q (Zcg st) (ZbW st) (Zal st) .none kV doc pm an cdv ct) ⟨us,[]⟩=pure (ps.zip us)
structure Df (K:W.Frag) (mg:Str->Option Value) (x:Str) (st:Stmt) (ps:List Str) where
 a:Addr
 F:Fun K x x st a (Zcc K a)
 b:Binds K (Zcc K a) ps []
 m:mg x=some (.ref a)
structure Dm (K:W.Frag) (C:Addr) (x q:Str) (st:Stmt) (ps:List Str) where
 a:Addr
 F:Fun K x q st a (Zcc K a)
 b:Binds K (Zcc K a) ps []
 me:Meth K C x a
noncomputable def Df.of {K:W.Frag} {mg:Str->Option Value} {h:Heap} {x:Str} {st:Stmt} {ps:List Str} {f:Addr} (X:K.In h) (G:h.Ns mainGlobals mg) (a:nsIn K mainGlobals x=some (some (.ref f))) (l:DefIn K x x st f) (hb:Zoo x x st ps):Df K mg x st ps:=⟨f,l.fn,l.fn.binds hb,mg_of X G a⟩
noncomputable def Dm.of {K:W.Frag} {C:Addr} {x q:Str} {st:Stmt} {ps:List Str} {f:Addr} (a:findIn K (.ref C) x=some (some (.ref f))) (i:isFn K (.ref f)=true) (l:DefIn K x q st f) (hb:Zoo x q st ps):Dm K C x q st ps:=⟨f,l.fn,l.fn.binds hb,⟨a,i,l.kp⟩⟩
theorem un1 {P:List Value->Prop} (h:∀ a,P [a]):∀ us,us.length=1->P us
 | [_],_=>h _
theorem un2 {P:List Value->Prop} (h:∀ a b,P [a,b]):∀ us,us.length=2->P us
 | [_,_],_=>h _ _
theorem un3 {P:List Value->Prop} (h:∀ a b c,P [a,b,c]):∀ us,us.length=3->P us
 | [_,_,_],_=>h _ _ _
theorem un4 {P:List Value->Prop} (h:∀ a b c d,P [a,b,c,d]):∀ us,us.length=4->P us
 | [_,_,_,_],_=>h _ _ _ _
end L2
set_option exponentiation.threshold 3000
seal L2.PSs L2.PS L2.PE L2.PT L2.PW L2.PA L2.PG L2.PI L2.PO
namespace K7
open PySem L2
noncomputable def top (i:Nat):Stmt:=PySem.Challenge.pw_heirbook_k07_unions_gifts_and_days.main.body.getD i (.Pass ⟨0,0,0,0⟩)
noncomputable abbrev Zfx:Stmt:=top 9
noncomputable abbrev Zgz:Stmt:=top 12
noncomputable abbrev ZiV:Stmt:=top 13
noncomputable abbrev ZeD:Stmt:=top 14
noncomputable abbrev ZgE:Stmt:=top 15
noncomputable abbrev Zey:Stmt:=top 16
noncomputable abbrev ZfC:Stmt:=top 18
noncomputable abbrev Zfp:Stmt:=top 19
noncomputable abbrev Zih:Stmt:=top 20
noncomputable abbrev Zfs:Stmt:=top 21
noncomputable abbrev Zix:Stmt:=top 22
noncomputable abbrev Zg8:Stmt:=top 23
noncomputable abbrev ZiH:Stmt:=top 24
noncomputable abbrev ZeI:Stmt:=top 27
noncomputable abbrev Zhu:Stmt:=top 31
noncomputable abbrev ZcO:Stmt:=ZbN (top 32) 0
noncomputable abbrev ZcP:Stmt:=ZbN (top 32) 8
noncomputable abbrev Zc2:Stmt:=ZbN (top 32) 11
noncomputable abbrev Zc1:Stmt:=ZbN (top 32) 12
noncomputable abbrev Zcd:Stmt:=ZbN (top 32) 4
noncomputable abbrev Ze3:Stmt:=ZbN (top 32) 3
noncomputable abbrev Zdn:Stmt:=ZbN (top 32) 2
noncomputable abbrev Ze0:Stmt:=ZbN (top 32) 7
noncomputable abbrev Zcm:Stmt:=ZbN (top 32) 5
noncomputable abbrev ZeC:Stmt:=ZbN (top 32) 16
noncomputable abbrev ZaO:Stmt:=ZbN (top 32) 14
noncomputable abbrev ZcN:Stmt:=ZbN (top 32) 6
noncomputable abbrev Zfo:Stmt:=ZbN (top 32) 1
noncomputable abbrev Zc7:Stmt:=ZbN (top 32) 9
noncomputable abbrev Zc0:Stmt:=ZbN (top 32) 13
noncomputable abbrev Zez:Stmt:=ZbN (top 32) 15
noncomputable abbrev ZdW:Stmt:=ZbN (top 32) 17
noncomputable abbrev ZcZ:Stmt:=top 34
noncomputable abbrev ZdJ:Stmt:=top 35
noncomputable abbrev ZdL:Stmt:=top 36
noncomputable abbrev ZeY:Stmt:=top 37
noncomputable abbrev Zfr:Stmt:=top 38
noncomputable abbrev Zdk:Stmt:=top 39
noncomputable abbrev ZeN:Stmt:=top 40
noncomputable abbrev Zex:Stmt:=top 41
noncomputable abbrev ZeV:Stmt:=top 42
noncomputable abbrev ZeZ:Stmt:=top 43
noncomputable abbrev Zea:Stmt:=top 44
noncomputable abbrev ZdM:Stmt:=top 45
noncomputable abbrev Zd3:Stmt:=top 46
noncomputable abbrev ZdI:Stmt:=top 47
noncomputable abbrev ZdH:Stmt:=top 48
noncomputable abbrev Zqx:Stmt:=top 49
set_option genInjectivity false
set_option genSizeOf false
structure Tx (K:W.Frag) (w:World) (mg:Str->Option Value) where
 c_Book:Addr
 ZbB:Df K mg "is_whole" Zfx ["thing"]
 ZaH:Df K mg "is_name" Zgz ["thing"]
 Zbt:Df K mg "is_day" ZiV ["thing"]
 Zbh:Df K mg "is_amount" ZeD ["thing"]
 Zb0:Df K mg "is_sort" ZgE ["thing"]
 Zba:Df K mg "is_parent" Zey ["thing"]
 Zco:Df K mg "has_form" ZfC ["parts","checks"]
 Zci:Df K mg "is_entry" Zfp ["thing"]
 Zcw:Df K mg "is_tie" Zih ["entry"]
 ZbA:Df K mg "named_in" Zfs ["entry"]
 Zcx:Df K mg "day_of" Zix ["entry"]
 Zb4:Df K mg "as_told" Zg8 ["entry"]
 Zct:Df K mg "key_of" ZiH ["entry"]
 Zb8:Df K mg "is_letter" ZeI ["thing"]
 Zb2:Df K mg "pair_of" Zhu ["one","other"]
 Zbc:Dm K c_Book "__init__" "Book.__init__" ZcO ["self"]
 Zap:Dm K c_Book "birth_of" "Book.birth_of" ZcP ["self","name"]
 Zby:Dm K c_Book "sort_of" "Book.sort_of" Zc2 ["self","name"]
 ZaF:Dm K c_Book "born_on" "Book.born_on" Zc1 ["self","name"]
 ZaJ:Dm K c_Book "parent_fits" "Book.parent_fits" Zcd ["self","name","sort","day"]
 Zck:Dm K c_Book "fits" "Book.fits" Ze3 ["self","entry"]
 ZbR:Dm K c_Book "refuse" "Book.refuse" Zdn ["self","entry"]
 ZaE:Dm K c_Book "link" "Book.link" Ze0 ["self","letter","begin","end"]
 Za8:Dm K c_Book "note_birth" "Book.note_birth" Zcm ["self","entry"]
 Zcq:Dm K c_Book "step" "Book.step" ZeC ["self","letter","name"]
 a_Book_stands:Addr
 fd_Book_stands:FuncData
 dt_Book_stands:Addr
 F_Book_stands:FunD K "stands" "Book.stands" ZaO a_Book_stands fd_Book_stands (.ref dt_Book_stands)
 b_Book_stands:Binds K fd_Book_stands ["self","one","other","day"] [.none]
 b3_Book_stands:Binds K fd_Book_stands ["self","one","other","day"] []
 Zbr:Dm K c_Book "note_tie" "Book.note_tie" ZcN ["self","entry"]
 Za2:Dm K c_Book "put" "Book.put" Zfo ["self","entry"]
 Za5:Dm K c_Book "entries" "Book.entries" Zc7 ["self"]
 Za6:Dm K c_Book "dead_on" "Book.dead_on" Zc0 ["self","name"]
 Zbi:Dm K c_Book "gave" "Book.gave" Zez ["self","giver","taker"]
 Za4:Dm K c_Book "until" "Book.until" ZdW ["self","day"]
 ZaD:Df K mg "_law_cell_at" ZcZ ["_law_script","_law_k"]
 ZbM:Df K mg "_law_whole" ZdJ ["_law_found"]
 ZbK:Df K mg "_law_names" ZdL ["_law_cell","_law_many"]
 ZaR:Df K mg "_law_draw" ZeY ["_law_cell","_law_k","_law_many"]
 ZaQ:Df K mg "_law_day" Zfr ["_law_cell"]
 Zbv:Df K mg "_law_births" Zdk ["_law_script","_law_names_here"]
 Zbf:Df K mg "_law_pair" ZeN ["_law_names_here","_law_cell"]
 Zbg:Df K mg "_law_told" Zex ["_law_rows","_law_one","_law_other","_law_day_here"]
 ZaT:Df K mg "_law_gave" ZeV ["_law_rows","_law_one","_law_other"]
 Zb7:Df K mg "_law_room" ZeZ ["_law_rows","_law_entry_here"]
 ZbG:Df K mg "_law_entry" Zea ["_law_names_here","_law_cell"]
 ZaL:Df K mg "_law_truth" ZdM ["_law_found","_law_due"]
 ZbF:Df K mg "_law_asked" Zd3 ["_law_book","_law_rows","_law_names_here","_law_cell"]
 ZbI:Df K mg "_law_shape" ZdI ["_law_row"]
 ZbH:Df K mg "_law_apart" ZdH ["_law_book","_law_births_here","_law_rows","_law_day_here"]
 ZkZ:Df K mg "law" Zqx ["_law_script"]
 c_HeirError:Addr
 m_HeirError:mg "HeirError"=some (.ref c_HeirError)
 c_NoEntry:Addr
 m_NoEntry:mg "NoEntry"=some (.ref c_NoEntry)
 c_Full:Addr
 m_Full:mg "Full"=some (.ref c_Full)
 c_NoPerson:Addr
 m_NoPerson:mg "NoPerson"=some (.ref c_NoPerson)
 c_Twice:Addr
 m_Twice:mg "Twice"=some (.ref c_Twice)
 c_NoFit:Addr
 m_NoFit:mg "NoFit"=some (.ref c_NoFit)
 c_NoWay:Addr
 m_NoWay:mg "NoWay"=some (.ref c_NoWay)
 x_HeirError:W.excIn K c_HeirError EBm "ValueError.__new__"=true
 e_HeirError:ExcK K c_HeirError
 x_NoEntry:W.excIn K c_NoEntry EBm "ValueError.__new__"=true
 e_NoEntry:ExcK K c_NoEntry
 x_Full:W.excIn K c_Full EBm "ValueError.__new__"=true
 e_Full:ExcK K c_Full
 x_NoPerson:W.excIn K c_NoPerson EBm "ValueError.__new__"=true
 e_NoPerson:ExcK K c_NoPerson
 x_Twice:W.excIn K c_Twice EBm "ValueError.__new__"=true
 e_Twice:ExcK K c_Twice
 x_NoFit:W.excIn K c_NoFit EBm "ValueError.__new__"=true
 e_NoFit:ExcK K c_NoFit
 x_NoWay:W.excIn K c_NoWay EBm "ValueError.__new__"=true
 e_NoWay:ExcK K c_NoWay
 m_Book:mg "Book"=some (.ref c_Book)
 cl_Book:Cls K c_Book
 mk_Book:Mk K c_Book Zbc.a
 na_Book_kept:NoAttr K c_Book "kept"
 na_Book_births:NoAttr K c_Book "births"
 na_Book_links:NoAttr K c_Book "links"
 na_Book_ties:NoAttr K c_Book "ties"
 na_Book_sums:NoAttr K c_Book "sums"
 me_Book_stands:Meth K c_Book "stands" a_Book_stands
 n_abs:mg "abs"=none
 n_all:mg "all"=none
 n_bool:mg "bool"=none
 n_int:mg "int"=none
 n_isinstance:mg "isinstance"=none
 n_len:mg "len"=none
 n_list:mg "list"=none
 n_max:mg "max"=none
 n_min:mg "min"=none
 n_range:mg "range"=none
 n_sorted:mg "sorted"=none
 n_str:mg "str"=none
 n_sum:mg "sum"=none
 n_tuple:mg "tuple"=none
 n_zip:mg "zip"=none
 k_int_int:W.kitOne K (.type "int") (.type "int")=some true
 k_int_str:W.kitOne K (.type "int") (.type "str")=some false
 k_int_tuple:W.kitOne K (.type "int") (.type "tuple")=some false
 k_int_bool:W.kitOne K (.type "int") (.type "bool")=some false
 k_str_int:W.kitOne K (.type "str") (.type "int")=some false
 k_str_str:W.kitOne K (.type "str") (.type "str")=some true
 k_str_tuple:W.kitOne K (.type "str") (.type "tuple")=some false
 k_bool_int:W.kitOne K (.type "bool") (.type "int")=some true
 k_bool_str:W.kitOne K (.type "bool") (.type "str")=some false
 k_bool_tuple:W.kitOne K (.type "bool") (.type "tuple")=some false
 k_bool_bool:W.kitOne K (.type "bool") (.type "bool")=some true
 k_NoneType_int:W.kitOne K (.type "NoneType") (.type "int")=some false
 k_NoneType_str:W.kitOne K (.type "NoneType") (.type "str")=some false
 k_NoneType_tuple:W.kitOne K (.type "NoneType") (.type "tuple")=some false
 k_tuple_int:W.kitOne K (.type "tuple") (.type "int")=some false
 k_tuple_str:W.kitOne K (.type "tuple") (.type "str")=some false
 k_tuple_tuple:W.kitOne K (.type "tuple") (.type "tuple")=some true
 k_list_int:W.kitOne K (.type "list") (.type "int")=some false
 k_list_str:W.kitOne K (.type "list") (.type "str")=some false
 k_list_tuple:W.kitOne K (.type "list") (.type "tuple")=some false
 k_dict_int:W.kitOne K (.type "dict") (.type "int")=some false
 k_dict_str:W.kitOne K (.type "dict") (.type "str")=some false
 k_dict_tuple:W.kitOne K (.type "dict") (.type "tuple")=some false
 kl_list:W.kitOne K (.type "list") (.type "list")=some true
 aF:Addr
 m_FORMS:mg "FORMS"=some (.ref aF)
 tkL:Tok
 m_LETTERS:mg "LETTERS"=some (.str "abcdefghijklmnopqrstuvwxyz" tkL)
 p0:Addr
 p1:Addr
 p2:Addr
 p3:Addr
 p4:Addr
 p5:Addr
 g0:Addr
 g1:Addr
 g2:Addr
 g3:Addr
 g4:Addr
 g5:Addr
 sF:∀ H,SqT K H aF [.ref p0,.ref p1,.ref p2,.ref p3,.ref p4,.ref p5]
 sp0:∀ H,SqT K H p0 [.str "born",.ref g0]
 sp1:∀ H,SqT K H p1 [.str "taken",.ref g1]
 sp2:∀ H,SqT K H p2 [.str "union",.ref g2]
 sp3:∀ H,SqT K H p3 [.str "parted",.ref g3]
 sp4:∀ H,SqT K H p4 [.str "dead",.ref g4]
 sp5:∀ H,SqT K H p5 [.str "given",.ref g5]
 sg0:∀ H,SqT K H g0 [.ref ZaH.a,.ref Zb0.a,.ref Zbt.a,.ref Zba.a,.ref Zba.a]
 sg1:∀ H,SqT K H g1 [.ref ZaH.a,.ref ZaH.a,.ref Zbt.a]
 sg2:∀ H,SqT K H g2 [.ref ZaH.a,.ref ZaH.a,.ref Zbt.a]
 sg3:∀ H,SqT K H g3 [.ref ZaH.a,.ref ZaH.a,.ref Zbt.a]
 sg4:∀ H,SqT K H g4 [.ref ZaH.a,.ref Zbt.a]
 sg5:∀ H,SqT K H g5 [.ref ZaH.a,.ref ZaH.a,.ref Zbh.a,.ref Zbt.a]
 a_STEP_LETTERS:Addr
 m_STEP_LETTERS:mg "STEP_LETTERS"=some (.ref a_STEP_LETTERS)
 Zeq:∀ H,SqT K H a_STEP_LETTERS [.str "F",.str "M",.str "T",.str "f",.str "m",.str "t",.str "S"]
 t_MOST_ENTRIES:Tok
 m_MOST_ENTRIES:mg "MOST_ENTRIES"=some (.int 400 t_MOST_ENTRIES)
 t_MOST_PEOPLE:Tok
 m_MOST_PEOPLE:mg "MOST_PEOPLE"=some (.int 60 t_MOST_PEOPLE)
def Zo3 (K:W.Frag):Sp:=fun vs H Q _=>∃ (a:Addr) (ns:List Int),vs=[.ref a]∧SqL K H a (ns.map V.int)∧ns.length≤63∧∀ H',Q (.bl true) H'
inductive Vk where
 | int (i:Int) | str (x:Str) | bl | non | tup | lst | dct
noncomputable def Vk.ty:Vk->Value
 | .int _=>.type "int"
 | .str _=>.type "str"
 | .bl=>.type "bool"
 | .non=>.type "NoneType"
 | .tup=>.type "tuple"
 | .lst=>.type "list"
 | .dct=>.type "dict"
noncomputable def Vk.isI:Vk->Bool
 | .int _=>true
 | _=>false
noncomputable def Vk.isB:Vk->Bool
 | .bl=>true
 | _=>false
noncomputable def Vk.isS:Vk->Bool
 | .str _=>true
 | _=>false
noncomputable def Vk.isT:Vk->Bool
 | .tup=>true
 | _=>false
def Vw (K:W.Frag) (H:Hp) (v:V):Vk->Prop
 | .int i=>v=.int i
 | .str x=>v=.str x∧x.length≤100
 | k=>Kd K H v k.ty
section
variable {K:W.Frag} {H H':Hp} {v:V} {t:Vk}
theorem Vw.kd (h:Vw K H v t):Kd K H v t.ty:=by
 cases t with
 | int i=>cases (show v=.int i from h); exact .of (.int i)
 | str x=>cases (show v=.str x from h.1); exact .of (.str x)
 | _=>exact h
theorem Vw.mono (h:Vw K H v t) (e:Same H H'):Vw K H' v t:=by
 cases t with
 | int i=>exact h
 | str x=>exact h
 | _=>exact e.kd h
end
def Vws (K:W.Frag) (H:Hp):List V->List Vk->Prop
 | [],[]=>True
 | x :: xs,t :: ts=>Vw K H x t∧Vws K H xs ts
 | _,_=>False
section
variable {K:W.Frag} {H H':Hp}
theorem Vws.length:∀ {xs:List V} {ts:List Vk},Vws K H xs ts->xs.length=ts.length
 | [],[],_=>rfl
 | x :: xs,t :: ts,h=>by rw [List.length_cons,List.length_cons,Vws.length h.2]
theorem Vws.mono (e:Same H H'):∀ {xs:List V} {ts:List Vk},Vws K H xs ts->Vws K H' xs ts
 | [],[],_=>True.intro
 | x :: xs,t :: ts,h=>⟨h.1.mono e,Vws.mono e h.2⟩
theorem Vws.get:∀ {xs:List V} {ts:List Vk} {i:Nat} {t:Vk},Vws K H xs ts->ts[i]?=some t->∃ x,xs[i]?=some x∧Vw K H x t
 | [],[],_,_,_,e=>by simp at e
 | x :: xs,t :: ts,0,t',h,e=>by
  cases (show some t=some t' by simpa using e)
  exact ⟨x,rfl,h.1⟩
 | x :: xs,t :: ts,i+1,t',h,e=>by
  obtain ⟨y,e1,e2⟩:=Vws.get (i:=i) h.2 (by simpa using e)
  exact ⟨y,by simpa using e1,e2⟩
end
def Tv (K:W.Frag) (H:Hp) (v:V) (ts:List Vk):Prop:=∃ a xs,v=.ref a∧SqT K H a xs∧Vws K H xs ts
noncomputable abbrev Zhh:Str:="abcdefghijklmnopqrstuvwxyz"
noncomputable def inL (c:Nat):Bool:=!(Builtin.Str.occurrences Zhh ⟨#[c]⟩ 0 Zhh.length 1).isEmpty
noncomputable def Ze8:Vk->Bool
 | .str x=>decide (1≤x.length)&&decide (x.length≤8)&&x.cps.toList.all inL
 | _=>false
noncomputable def ZoG:Vk->Bool
 | .int i=>decide ((if i<0 then -i else i)≤10 ^ 18)
 | _=>false
noncomputable def Zgs:Vk->Bool
 | .int i=>decide (1≤i)&&decide (i≤10 ^ 18)
 | _=>false
noncomputable def ZhX:Vk->Bool
 | .str x=>decide (x="he")||decide (x="she")||decide (x="")
 | _=>false
noncomputable def Zfg (t:Vk):Bool:=Ze8 t||match t with
 | .str x=>decide (x="")
 | _=>false
inductive Chk where
 | name | sort | day | amount | parent
noncomputable def chk:Chk->Vk->Bool
 | .name=>Ze8
 | .sort=>ZhX
 | .day=>ZoG
 | .amount=>Zgs
 | .parent=>Zfg
noncomputable def ZhA:List (Str × List Chk):=[("born",[.name,.sort,.day,.parent,.parent]),("taken",[.name,.name,.day]),("union",[.name,.name,.day]),("parted",[.name,.name,.day]),("dead",[.name,.day]),("given",[.name,.name,.amount,.day])]
noncomputable def Zew (w:Str):Option (List Chk):=(ZhA.find? fun p=>decide (w=p.1)).map (·.2)
noncomputable def ZcT:List Chk->List Vk->List Bool
 | c :: cs,t :: ts=>chk c t :: ZcT cs ts
 | _,_=>[]
noncomputable def Zcr (cs:List Chk) (ts:List Vk):Bool:=decide (ts.length=cs.length)&&(ZcT cs ts).all id
noncomputable def Zc5:List Vk->Bool
 | .str w :: ts=>((Zew w).map fun cs=>Zcr cs ts).getD false
 | _=>false
theorem Zcj (w:Str) (ts:List Vk):Zc5 (.str w :: ts)=((Zew w).map fun cs=>Zcr cs ts).getD false:=rfl
structure Nm (x:Str):Prop where
 lo:1≤x.length
 hi:x.length≤8
 all:x.cps.toList.all inL=true
theorem Nm.ok {x:Str} (h:Nm x):Ze8 (.str x)=true:=by
 show (decide (1≤x.length)&&decide (x.length≤8)&&x.cps.toList.all inL)=true
 rw [decide_eq_true h.lo,decide_eq_true h.hi,h.all]
 rfl
structure Good (w:Str) (ts:List Vk):Prop where
 ok:Zc5 (.str w :: ts)=true
 fit:ts.length≤5
 two:2≤ts.length
 name:∃ n,ts[0]?=some (.str n)∧Nm n
 day:∃ d,ts[if w="born" then 2 else ts.length-1]?=some (.int d)∧ZoG (.int d)=true
section
variable {K:W.Frag} {mg:Str->Option Value}
noncomputable def Tx.ad (T:Tx K w mg):Chk->Addr
 | .name=>T.ZaH.a
 | .sort=>T.Zb0.a
 | .day=>T.Zbt.a
 | .amount=>T.Zbh.a
 | .parent=>T.Zba.a
theorem kI (T:Tx K w mg):∀ t:Vk,W.kitOne K t.ty (.type "int")=some (t.isI||t.isB)
 | .int _=>T.k_int_int
 | .str _=>T.k_str_int
 | .bl=>T.k_bool_int
 | .non=>T.k_NoneType_int
 | .tup=>T.k_tuple_int
 | .lst=>T.k_list_int
 | .dct=>T.k_dict_int
theorem kS (T:Tx K w mg):∀ t:Vk,W.kitOne K t.ty (.type "str")=some t.isS
 | .int _=>T.k_int_str
 | .str _=>T.k_str_str
 | .bl=>T.k_bool_str
 | .non=>T.k_NoneType_str
 | .tup=>T.k_tuple_str
 | .lst=>T.k_list_str
 | .dct=>T.k_dict_str
theorem kT (T:Tx K w mg):∀ t:Vk,W.kitOne K t.ty (.type "tuple")=some t.isT
 | .int _=>T.k_int_tuple
 | .str _=>T.k_str_tuple
 | .bl=>T.k_bool_tuple
 | .non=>T.k_NoneType_tuple
 | .tup=>T.k_tuple_tuple
 | .lst=>T.k_list_tuple
 | .dct=>T.k_dict_tuple
end
theorem ZnJ {X : Cx} {N : List Str} {sc : Scope} {L : List (Str × NameKind)} {ns : St} (hk : sc.kind=.function) (hn : ∀ x ∈ sc.names, x.2=.local → sc.names.lookup x.1=some .local) (hc : ∀ y ∈ sc.names, y.2 ≠ .cell)
  (clos:closureFor sc X.env=pure []) (e:(relabel sc X.env).names=L) (hL:∀ y∈L,y.2≠.cell∧y.2≠.free) (hl:ns.length=N.length) (hs:∀ o∈ns,o=none):CompSc X N sc [] (fun _=>ns):=by
 have no:∀ (x:Str),¬ ((relabel sc X.env).names.lookup x=some .cell∨(relabel sc X.env).names.lookup x=some .free):=fun x h=>by
  rw [e] at h
  have lk:∀ (M:List (Str × NameKind)) (k:NameKind),M.lookup x=some k->∃ y∈M,y.2=k:=fun M k=>by
   induction M with
   | nil=>intro h; cases h
   | cons p r ih =>
    intro h
    rw [List.lookup_cons] at h
    split at h
    ·exact ⟨p,List.mem_cons_self ..,Option.some.inj h⟩
    ·obtain ⟨y,hy,q⟩:=ih h
     exact ⟨y,List.mem_cons_of_mem _ hy,q⟩
  rcases h with h | h
  ·obtain ⟨y,hy,q⟩:=lk _ _ h
   exact (hL y hy).1 q
  ·obtain ⟨y,hy,q⟩:=lk _ _ h
   exact (hL y hy).2 q
 refine ⟨hk,hn,hc,clos,(fun x c (h:([]:List (Str × Addr)).lookup x=some c)=>by cases h),fun x h=>absurd h (no x),fun _=>hl,fun σ i x v e1 e2=>?_⟩
 have:=hs _ (List.mem_of_getElem? e2)
 cases this
theorem nd1:(["sign"]:List Str).Nodup:=by decide +kernel
theorem nd2:(["check","part"]:List Str).Nodup:=by decide +kernel
theorem Zqe (z:Str):inV (.str z) [.str "he",.str "she",.str ""]=ZhX (.str z):=by
 unfold inV ZhX
 rw [Bool.eq_iff_iff]
 simp only [List.any_cons,List.any_nil,eqV,Bool.or_false,Bool.or_eq_true,beq_iff_eq,decide_eq_true_eq]
 constructor
 ·rintro (h | h | h)
  ·exact .inl (.inl h.symm)
  ·exact .inl (.inr h.symm)
  ·exact .inr h.symm
 ·rintro ((h | h) | h)
  ·exact .inl h.symm
  ·exact .inr (.inl h.symm)
  ·exact .inr (.inr h.symm)
theorem ZfD (x:Str):Ze8 (.str x)=(decide (1≤x.length)&&decide (x.length≤8)&&x.cps.toList.all inL):=rfl
theorem ZjM (i:Int):Zgs (.int i)=(decide (1≤i)&&decide (i≤10 ^ 18)):=rfl
theorem ZlG:∀ {cs:List Chk} {ts:List Vk},ts.length=cs.length->(ZcT cs ts).length=cs.length
 | [],[],_=>rfl
 | c :: cs,t :: ts,h=>by
  show (ZcT cs ts).length+1=cs.length+1
  rw [ZlG (by simpa using h)]
theorem Zlw:∀ {cs:List Chk} {ts:List Vk} {i:Nat} {y:V},ts.length=cs.length->((ZcT cs ts).map V.bl)[i]?=some y->∃ c t,cs[i]?=some c∧ts[i]?=some t∧y=.bl (chk c t):=by
 intro cs
 induction cs with
 | nil=>
  intro ts i y h e
  cases ts with
  | nil=>simp [ZcT] at e
  | cons t ts=>simp at h
 | cons c cs ih=>
  intro ts i y h e
  cases ts with
  | nil=>simp at h
  | cons t ts=>
   cases i with
   | zero=>exact ⟨c,t,rfl,rfl,by simpa [ZcT] using e.symm⟩
   | succ i=>
    obtain ⟨c',t',e1,e2,e3⟩:=ih (ts:=ts) (i:=i) (y:=y) (by simpa using h) (by simpa [ZcT] using e)
    exact ⟨c',t',by simpa using e1,by simpa using e2,e3⟩
theorem Zni {α:Type} {f:α->Bool}:∀ {l:List α} {i:Nat} {p:α},l[i]?=some p->(∀ j,j<i->∀ p',l[j]?=some p'->f p'=false)->f p=true->l.find? f=some p
 | x :: l,0,p,e,_,h=>by
  have e':x=p:=by simpa using e
  subst e'
  rw [List.find?_cons,h]
 | x :: l,i+1,p,e,b,h=>by
  rw [List.find?_cons,b 0 (by omega) x rfl]
  exact Zni (l:=l) (i:=i) (by simpa using e) (fun j hj p' e'=>b (j+1) (by omega) p' (by simpa using e')) h
theorem Zoj {w:Str} {i:Nat} {p:Str × List Chk} (e:ZhA[i]?=some p) (b:∀ j,j<i->∀ p',ZhA[j]?=some p'->w≠p'.1) (h:w=p.1):Zew w=some p.2:=by
 unfold Zew
 rw [Zni e (fun j hj p' e'=>decide_eq_false (b j hj p' e')) (decide_eq_true h)]
 rfl
theorem ZkG {w:Str} (b:∀ j,j<6->∀ p',ZhA[j]?=some p'->w≠p'.1):Zew w=none:=by
 unfold Zew
 rw [List.find?_eq_none.mpr]
 ·rfl
 ·intro p hp
  obtain ⟨j,hj,e⟩:=List.getElem_of_mem hp
  have:=b j hj p (by rw [← e]; exact List.getElem?_eq_getElem hj)
  simpa using this
theorem Zon:∀ p∈ZhA,p.2.length≤10:=by decide +kernel
theorem Zqk {K : W.Frag} {mg : Str → Option Value} (T : Tx K w mg) {i : Nat} {p : Str × List Chk} (e : ZhA[i]?=some p) :
  ∃ P G,[V.ref T.p0,.ref T.p1,.ref T.p2,.ref T.p3,.ref T.p4,.ref T.p5][i]?=some (.ref P)∧(∀ H,SqT K H P [.str p.1,.ref G])∧∀ H,SqT K H G (p.2.map fun c=>.ref (T.ad c)):=by
 match i,e with
 | 0,e=>cases e; exact ⟨_,_,rfl,T.sp0,T.sg0⟩
 | 1,e=>cases e; exact ⟨_,_,rfl,T.sp1,T.sg1⟩
 | 2,e=>cases e; exact ⟨_,_,rfl,T.sp2,T.sg2⟩
 | 3,e=>cases e; exact ⟨_,_,rfl,T.sp3,T.sg3⟩
 | 4,e=>cases e; exact ⟨_,_,rfl,T.sp4,T.sg4⟩
 | 5,e=>cases e; exact ⟨_,_,rfl,T.sp5,T.sg5⟩
 | n+6,e=>cases e
theorem Zpr (x:V) (xs:List V):Zi6 (x :: xs) (some 1) none=xs:=by
 unfold Zi6
 have e:HT.sIx (x :: xs).length 0 (some 1)=1:=by
  show HT.sIx (x :: xs).length 0 (some ((1:Nat):Int))=1
  rw [HT.sIx_nat,List.length_cons]
  omega
 rw [e]
 show (xs.take ((x :: xs).length-1))=xs
 simp
theorem few {n:Nat} (h:Nat.ble n 1000=true):n≤sizeLine:=Nat.le_of_lt (Zao (Nat.le_of_ble_eq_true h))
theorem Zbo {b:Bool} {A B:Prop} (e:b=true) (h:A):if b=true then A else B:=by rw [if_pos e]; exact h
theorem ZaC {b:Bool} {A B:Prop} (e:b=false) (h:B):if b=true then A else B:=by rw [if_neg (by rw [e]; decide)]; exact h
theorem Zsa {b:Bool} {A B:Prop} (h1:b=true->A) (h2:b=false->B):if b=true then A else B:=by
 cases b with
 | true=>exact Zda (h1 rfl)
 | false=>exact Zdz (h2 rfl)
section
variable {K:W.Frag} {H:Hp} {xs ys:List V} {ts:List Vk} {a b:Addr} {Q:VK}
theorem ZjP {lo hi:Option Int} (ha:SqT K H a xs) (hn:¬ (HT.sIx xs.length 0 lo=0∧HT.sIx xs.length xs.length hi=xs.length)) (h:∀ H' p,Same H H'->SqT K H' p (Zi6 xs lo hi)->Q (.ref p) H'):ZsL K (.ref a) lo hi H Q :=
 ⟨a,xs,rfl,ha,hn,fun p np=>h _ p (Zae np) (.of Zab)⟩
end
theorem Zsy {xs:List V} {i:Int} {x:V} (h0:0≤i) (e:xs[i.toNat]?=some x):atI xs i=some x:=by
 have:=Zc4 e
 rwa [Int.toNat_of_nonneg h0] at this
theorem ZeX {x y:Str}:decide (V.str x=V.str y)=decide (x=y):=by
 rw [Bool.eq_iff_iff]
 simp
inductive Ent where
 | born (n s:Str) (d:Int) (f m:Str)
 | taken (c t:Str) (d:Int)
 | union (a b:Str) (d:Int)
 | parted (a b:Str) (d:Int)
 | dead (n:Str) (d:Int)
 | given (g t:Str) (a d:Int)
noncomputable def Ent.row:Ent->List Key
 | .born n s d f m=>[.inr "born",.inr n,.inr s,.inl d,.inr f,.inr m]
 | .taken c t d=>[.inr "taken",.inr c,.inr t,.inl d]
 | .union a b d=>[.inr "union",.inr a,.inr b,.inl d]
 | .parted a b d=>[.inr "parted",.inr a,.inr b,.inl d]
 | .dead n d=>[.inr "dead",.inr n,.inl d]
 | .given g t a d=>[.inr "given",.inr g,.inr t,.inl a,.inl d]
noncomputable def Ent.tie:Ent->Bool
 | .union ..=>true
 | .parted ..=>true
 | _=>false
noncomputable def Ent.named:Ent->List Str
 | .born _ _ _ f m=>[f,m].filter fun x:Str=>decide (x≠"")
 | .taken c t _=>[c,t]
 | .union a b _=>[a,b]
 | .parted a b _=>[a,b]
 | .dead n _=>[n]
 | .given g t _ _=>[g,t]
noncomputable def Ent.day:Ent->Int
 | .born _ _ d _ _=>d
 | .taken _ _ d=>d
 | .union _ _ d=>d
 | .parted _ _ d=>d
 | .dead _ d=>d
 | .given _ _ _ d=>d
def EntAt (K:W.Frag) (H:Hp) (v:V) (e:Ent):Prop:=∃ a,v=.ref a∧SqT K H a (e.row.map kV)
theorem EntAt.mono {K:W.Frag} {H H':Hp} {v:V} {e:Ent} (h:EntAt K H v e) (s:Same H H'):EntAt K H' v e:=by
 obtain ⟨a,rfl,q⟩:=h
 exact ⟨a,rfl,s.sqt q⟩
theorem Zag {r:List V} {j:Nat} {x:V} (h:r[j]?=some x):atI r (j:Int)=some x:=Zc4 h
noncomputable def ZqJ (x:Str):Option V:=if x="" then none else some (.str x)
theorem ZlY:∀ l:List Str,(l.map ZqJ).filterMap id=(l.filter fun x:Str=>decide (x≠"")).map V.str
 | []=>rfl
 | x :: r=>by
  have ih:=ZlY r
  by_cases h:x=""
  ·subst h
   simp only [List.map_cons,List.filterMap_cons,List.filter_cons]
   simpa [ZqJ] using ih
  ·simp only [List.map_cons,List.filterMap_cons,List.filter_cons]
   simpa [ZqJ,h] using ih
theorem Zbp {H H1:Hp} {D:Addr} (s:Same H H1) (n:H1 D=none):H D=none:=by
 cases e:H D with
 | none=>rfl
 | some o=>rw [s D o e] at n; cases n
noncomputable def Ent.key:Ent->List Key
 | .born n _ _ _ _=>[.inr "born",.inr n]
 | .taken c t _=>[.inr "taken",.inr c,.inr t]
 | .union a b d=>[.inr "tie",.inr a,.inr b,.inl d]
 | .parted a b d=>[.inr "tie",.inr a,.inr b,.inl d]
 | .dead n _=>[.inr "dead",.inr n]
 | .given g t _ d=>[.inr "given",.inr g,.inr t,.inl d]
noncomputable def Ent.bornName:Ent->Option Str
 | .born n _ _ _ _=>some n
 | _=>none
structure Bk where
 kept:List (Ent × Addr)
 links:List ((Str × Str) × Addr × List Str)
 ties:List ((Str × Str) × Addr × List (Int × Str))
 sums:List ((Str × Str) × Int)
noncomputable def two (p:Str × Str):List Key:=[.inr p.1,.inr p.2]
noncomputable def Bk.keptD (B:Bk):List (List Key × V):=B.kept.map fun p=>(p.1.key,.ref p.2)
noncomputable def Bk.bornD (l:List (Ent × Addr)):List (Key × V):=l.filterMap fun p=>p.1.bornName.map fun n=>(.inr n,.ref p.2)
noncomputable def Bk.linksD (B:Bk):List (List Key × V):=B.links.map fun q=>(two q.1,.ref q.2.1)
noncomputable def Bk.tiesD (B:Bk):List (List Key × V):=B.ties.map fun q=>(two q.1,.ref q.2.1)
noncomputable def Bk.sumsD (B:Bk):List (List Key × V):=B.sums.map fun q=>(two q.1,.int q.2)
noncomputable def bkF (k bi li ti su:Addr):List (Str × V):=[("kept",.ref k),("births",.ref bi),("links",.ref li),("ties",.ref ti),("sums",.ref su)]
structure BkAt (K:W.Frag) (C:Addr) (H:Hp) (b dx k bi li ti su:Addr) (B:Bk):Prop where
 ob:H b=some (.ins C dx (bkF k bi li ti su))
 ap:[k,li,ti,su].Nodup
 at':(bi :: B.ties.map (·.2.1)).Nodup
 ke:H k=some (.dT B.keptD)
 bi:H bi=some (.dK (Bk.bornD B.kept))
 li:H li=some (.dT B.linksD)
 ti:H ti=some (.dT B.tiesD)
 su:H su=some (.dT B.sumsD)
 en:∀ p∈B.kept,SqT K H p.2 (p.1.row.map kV)
 ll:∀ q∈B.links,H q.2.1=some (.lst (q.2.2.map V.str))
 tt:∀ q∈B.ties,H q.2.1=some (.dK (q.2.2.map fun r=>(.inl r.1,.str r.2)))
theorem BkAt.mono {K:W.Frag} {C:Addr} {H H':Hp} {b dx k bi li ti su:Addr} {B:Bk} (h:BkAt K C H b dx k bi li ti su B) (s:Same H H'):BkAt K C H' b dx k bi li ti su B :=
 ⟨s _ _ h.ob,h.ap,h.at',s _ _ h.ke,s _ _ h.bi,s _ _ h.li,s _ _ h.ti,s _ _ h.su,fun p hp=>s.sqt (h.en p hp),fun q hq=>s _ _ (h.ll q hq),fun q hq=>s _ _ (h.tt q hq)⟩
def BkHas (K:W.Frag) (C:Addr) (H:Hp) (v:V) (B:Bk):Prop:=∃ b dx k bi li ti su,v=.ref b∧BkAt K C H b dx k bi li ti su B
theorem BkHas.mono {K:W.Frag} {C:Addr} {H H':Hp} {v:V} {B:Bk} (h:BkHas K C H v B) (s:Same H H'):BkHas K C H' v B:=by
 obtain ⟨b,dx,k,bi,li,ti,su,e,h⟩:=h
 exact ⟨b,dx,k,bi,li,ti,su,e,h.mono s⟩
noncomputable def ZaA (n:Str):List (Ent × Addr)->Option (Ent × Addr)
 | []=>none
 | p :: r=>if p.1.bornName=some n then some p else ZaA n r
theorem ZfO {n:Str}:∀ {l:List (Ent × Addr)} {p:Ent × Addr},ZaA n l=some p->p∈l∧p.1.bornName=some n
 | [],_,h=>by cases h
 | q :: r,p,h=>by
  unfold ZaA at h
  split at h
  ·cases h
   exact ⟨List.mem_cons_self ..,by assumption⟩
  ·obtain ⟨h1,h2⟩:=ZfO h
   exact ⟨List.mem_cons_of_mem _ h1,h2⟩
theorem Zib (n:Str):∀ l:List (Ent × Addr),ZdS (Bk.bornD l) (.inr n:Key)=(ZaA n l).map fun p=>.ref p.2
 | []=>rfl
 | p :: r=>by
  have ih:=Zib n r
  unfold Bk.bornD ZaA
  rw [List.filterMap_cons]
  cases h:p.1.bornName with
  | none =>
   simp only [Option.map_none]
   rw [if_neg (by simp)]
   exact ih
  | some x =>
   simp only [Option.map_some]
   by_cases e:x=n
   ·subst e
    rw [ZcF rfl,if_pos rfl]
    rfl
   ·rw [ZbD (fun q=>e (Sum.inr.inj q)),if_neg (fun q=>e (Option.some.inj q))]
    exact ih
theorem ZfM {k bi li ti su:Addr}:(bkF k bi li ti su).lookup ("kept" : Str)=some (.ref k):=rfl
theorem Zfk {k bi li ti su:Addr}:(bkF k bi li ti su).lookup ("births" : Str)=some (.ref bi):=rfl
theorem Zgi {k bi li ti su:Addr}:(bkF k bi li ti su).lookup ("links" : Str)=some (.ref li):=rfl
theorem Zot {k bi li ti su:Addr}:(bkF k bi li ti su).lookup ("ties" : Str)=some (.ref ti):=rfl
theorem ZkH {k bi li ti su:Addr}:(bkF k bi li ti su).lookup ("sums" : Str)=some (.ref su):=rfl
noncomputable def Zoq (B:Bk) (n:Str):Option (Str × Int):=match ZaA n B.kept with
 | some (.born _ s d _ _,_)=>some (s,d)
 | _=>none
noncomputable def Zr9 (B:Bk) (n:Str):Str:=((Zoq B n).map (·.1)).getD ""
noncomputable def ZfQ (B:Bk) (n:Str):Int:=((Zoq B n).map (·.2)).getD 0
theorem Ziu {B:Bk} {n n' s f m:Str} {d:Int} {p:Ent × Addr} (h:ZaA n B.kept=some p) (e:p.1=.born n' s d f m):ZfQ B n=d:=by
 obtain ⟨e',a⟩:=p
 cases e
 unfold ZfQ Zoq
 rw [h]
 rfl
noncomputable def ZrT (B:Bk) (n s:Str) (d:Int):Bool:=decide (n="")||(decide (Zr9 B n=s)&&decide (ZfQ B n<d))
def Known (B:Bk) (n:Str):Prop:=ZaA n B.kept≠none
noncomputable def ZdF (B:Bk) (e:Ent):Bool:=match e with
 | .born _ _ d f m=>ZrT B f "he" d&&ZrT B m "she" d
 | .taken c t d=>decide (c≠t)&&decide (ZfQ B t<ZfQ B c)&&e.named.all fun n=>decide (ZfQ B n≤d)
 | .dead n d=>decide (ZfQ B n≤d)
 | .union a b d=>decide (a≠b)&&e.named.all fun n=>decide (ZfQ B n≤d)
 | .parted a b d=>decide (a≠b)&&e.named.all fun n=>decide (ZfQ B n≤d)
 | .given a b _ d=>decide (a≠b)&&e.named.all fun n=>decide (ZfQ B n≤d)
theorem Zer {a b:TS} {D:Ends} {σ:St} {H:Hp} (J:St->Hp->Prop) (h1:∀ nx,(∀ σ H,J σ H->nx σ H)->a { D with nx:=nx } σ H) (h2:∀ σ H,J σ H->b D σ H):ZsJ a b D σ H:=h1 (b D) h2
noncomputable def Ent.isBorn:Ent->Bool
 | .born ..=>true
 | _=>false
noncomputable def Ent.same:Ent->Bool
 | .taken c t _=>decide (c=t)
 | .union a b _=>decide (a=b)
 | .parted a b _=>decide (a=b)
 | .given a b _ _=>decide (a=b)
 | _=>false
noncomputable def Ent.early (B:Bk):Ent->Bool
 | .taken c t _=>decide (ZfQ B c≤ZfQ B t)
 | _=>false
theorem Zj4 {B:Bk} {e:Ent} (h:e.isBorn=false):ZdF B e=(!e.same&&!e.early B&&e.named.all fun n=>decide (ZfQ B n≤e.day)):=by
 cases e with
 | born=>cases h
 | taken c t d =>
  unfold ZdF Ent.same Ent.early
  have h1:decide (c≠t)=!decide (c=t):=by simp
  have h2:decide (ZfQ B t<ZfQ B c)=!decide (ZfQ B c≤ZfQ B t):=by
   rw [Bool.eq_iff_iff]
   simp
  simp only [h1,h2]
  rfl
 | dead n d =>
  simp [ZdF,Ent.same,Ent.early,Ent.named,Ent.day]
  rfl
 | _ =>
  simp [ZdF,Ent.same,Ent.early,Ent.day]
  rfl
theorem Zp0 {k bi li ti su:Addr}:Zcb "sums" (.ref su) (Zcb "ties" (.ref ti) (Zcb "links" (.ref li) (Zcb "births" (.ref bi) (Zcb "kept" (.ref k) []))))=bkF k bi li ti su:=by
 rfl
noncomputable def bk0:Bk:=⟨[],[],[],[]⟩
theorem ZqT {H : Hp} {b dx C p : Addr} {fs : List (Str × V)} (f : Str) (o : HO) (h : H b=some (.ins C dx fs)) (n : H p=none) :
  (upd (upd H p o) b (.ins C dx (Zcb f (.ref p) fs))) b=some (.ins C dx (Zcb f (.ref p) fs))∧(upd (upd H p o) b (.ins C dx (Zcb f (.ref p) fs))) p=some o ∧
  (∀ c u,H c=some u->c≠b->(upd (upd H p o) b (.ins C dx (Zcb f (.ref p) fs))) c=some u)∧∀ c,(upd (upd H p o) b (.ins C dx (Zcb f (.ref p) fs))) c=none->H c=none:=by
 have pb:p≠b:=fun e=>by subst e; rw [h] at n; cases n
 refine ⟨Zab,(Zak pb).trans Zab,fun c u e cb=>(Zak cb).trans ((Zak (Zat e n)).trans e),fun c e=>?_⟩
 by_cases cb:c=b
 ·subst cb
  rw [Zab] at e
  cases e
 rw [Zak cb] at e
 by_cases cp:c=p
 ·subst cp
  exact n
 rw [Zak cp] at e
 exact e
noncomputable def Za0 (c:Str × Str):List ((Str × Str) × Addr × List Str)->Option (Addr × List Str)
 | []=>none
 | q :: r=>if q.1=c then some q.2 else Za0 c r
theorem ZdQ {a b:Str × Str} (h:two a=two b):a=b:=by
 unfold two at h
 simp at h
 exact Prod.ext h.1 h.2
theorem ZiF (c:Str × Str):∀ l:List ((Str × Str) × Addr × List Str),ZdS (l.map fun q=>(two q.1,V.ref q.2.1)) (two c)=(Za0 c l).map fun q=>.ref q.1
 | []=>rfl
 | q :: r=>by
  have ih:=ZiF c r
  unfold Za0
  rw [List.map_cons]
  by_cases e:q.1=c
  ·subst e
   rw [ZcF rfl,if_pos rfl]
   rfl
  ·rw [ZbD (fun z=>e (ZdQ z)),if_neg e]
   exact ih
theorem ZfB {c:Str × Str}:∀ {l:List ((Str × Str) × Addr × List Str)} {x:Addr × List Str},Za0 c l=some x->∃ q∈l,q.2=x
 | [],_,h=>by cases h
 | q :: r,x,h=>by
  unfold Za0 at h
  split at h
  ·cases h
   exact ⟨q,List.mem_cons_self ..,rfl⟩
  ·obtain ⟨z,hz,e⟩:=ZfB h
   exact ⟨z,List.mem_cons_of_mem _ hz,e⟩
noncomputable def ZbU (B:Bk) (l n:Str):List Str:=((Za0 (l,n) B.links).map (·.2)).getD []
noncomputable def Zgm:List Str:=["F","M","T","f","m","t","S"]
noncomputable def ZmC (x:Str):Bool:=decide (x∈Zgm)
theorem ZqE (x:Str):∀ l:List Str,inV (.str x) (l.map V.str)=decide (x∈l):=by
 intro l
 unfold inV
 induction l with
 | nil=>rfl
 | cons y r ih =>
  rw [List.map_cons,List.any_cons,ih]
  by_cases h:x=y
  ·subst h; simp [eqV]
  ·simp [eqV,h,Ne.symm h]
theorem Zb1 {a b:Str} (h1:ZaV a b=false) (h2:ZaV b a=false):a=b:=by
 unfold ZaV at h1 h2
 have e:a.cps.toList=b.cps.toList:=by
  have l1:=of_decide_eq_false h1
  have l2:=of_decide_eq_false h2
  exact List.le_antisymm (List.not_lt.mp l2) (List.not_lt.mp l1)
 obtain ⟨a⟩:=a
 obtain ⟨b⟩:=b
 have e2:a=b:=Array.toList_inj.mp e
 rw [e2]
noncomputable def Zai (a b:Str):Str × Str:=if ZaV b a=true then (b,a) else (a,b)
theorem Zef {a b:Str} {zs:List Str} (hp:zs.Perm [a,b]) (hs:PyProof.Rows.sortedS zs=true):zs=[(Zai a b).1,(Zai a b).2]:=by
 have hl:=hp.length_eq
 match zs,hl with
 | [x,y],_ =>
  have hs2:ZaV y x=false:=by
   have h3:(!PySem.Spec.ltCps y.cps.toList x.cps.toList&&true)=true:=hs
   rw [PyProof.Rows.ltCps_eq] at h3
   simpa [ZaV] using h3
  have hm:x∈[a,b]:=hp.subset (by simp)
  have hp2:(x=a∧y=b)∨(x=b∧y=a):=by
   rcases List.mem_cons.mp hm with rfl | hm
   ·have:=hp.cons_inv
    exact .inl ⟨rfl,by simpa using this⟩
   ·have e:x=b:=by simpa using hm
    subst e
    have h4:[x,y].Perm [x,a]:=hp.trans (List.Perm.swap ..)
    have:=h4.cons_inv
    exact .inr ⟨rfl,by simpa using this⟩
  unfold Zai
  rcases hp2 with ⟨rfl,rfl⟩ | ⟨rfl,rfl⟩
  ·rw [hs2]; rfl
  ·by_cases h:ZaV x y=true
   ·rw [if_pos h]
   ·rw [if_neg h,Zb1 (Bool.eq_false_iff.mpr h) hs2]
noncomputable def Ent.told:Ent->Ent
 | .union a b d=>.union (Zai a b).1 (Zai a b).2 d
 | .parted a b d=>.parted (Zai a b).1 (Zai a b).2 d
 | e=>e
theorem ZqB (a b:Str):(if ZaV b a=true then b else a)=(Zai a b).1:=by
 unfold Zai
 by_cases h:ZaV b a=true
 ·rw [if_pos h,if_pos h]
 ·rw [if_neg h,if_neg h]
theorem Zqq (a b:Str):(if ZaV a b=true then b else a)=(Zai a b).2:=by
 unfold Zai
 by_cases h:ZaV b a=true
 ·rw [if_pos h]
  by_cases h2:ZaV a b=true
  ·have l1:b.cps.toList<a.cps.toList:=of_decide_eq_true h
   have l2:a.cps.toList<b.cps.toList:=of_decide_eq_true h2
   exact absurd l1 (List.lt_asymm l2)
  ·rw [if_neg h2]
 ·rw [if_neg h]
  by_cases h2:ZaV a b=true
  ·rw [if_pos h2]
  ·rw [if_neg h2,Zb1 (Bool.eq_false_iff.mpr h) (Bool.eq_false_iff.mpr h2)]
noncomputable def Zrh:Key->Vk
 | .inl i=>.int i
 | .inr x=>.str x
theorem ZiW {K:W.Frag} {H:Hp}:∀ (l:List Key),(∀ x:Str,(.inr x:Key)∈l->x.length≤100)->Vws K H (l.map kV) (l.map Zrh)
 | [],_=>trivial
 | .inl i :: r,h=>⟨rfl,ZiW r fun x hx=>h x (List.mem_cons_of_mem _ hx)⟩
 | .inr y :: r,h=>⟨⟨rfl,h y (List.mem_cons_self ..)⟩,ZiW r fun x hx=>h x (List.mem_cons_of_mem _ hx)⟩
structure Ent.Ok (e:Ent):Prop where
 en:Zc5 (e.row.map Zrh)=true
 sh:∀ x:Str,(.inr x:Key)∈e.row->x.length≤100
theorem Ent.row_len (e:Ent):(e.row.map Zrh).length≤10:=by
 cases e <;> exact Nat.le_of_ble_eq_true rfl
theorem Ent.Ok.tv {e:Ent} (h:e.Ok) {K:W.Frag} {H:Hp} {a:Addr} (hE:SqT K H a (e.row.map kV)):Tv K H (.ref a) (e.row.map Zrh):=⟨a,_,rfl,hE,ZiW _ h.sh⟩
inductive Rf where
 | full | person | twice | fit
noncomputable def Bk.full (B:Bk) (e:Ent):Bool:=decide (400≤B.kept.length)||(e.isBorn&&decide (60≤(Bk.bornD B.kept).length))
noncomputable def Zjd (B:Bk) (e:Ent):Option Rf :=
 if B.full e=true then some .full
 else if (e.named.all fun n=>(ZaA n B.kept).isSome)=false then some .person
 else if (ZdS B.keptD e.told.key).isSome=true then some .twice
 else if ZdF B e=true then none else some .fit
theorem Zj6 {B:Bk} {e:Ent} (kn:∀ n∈e.named,Known B n):(e.named.all fun n=>(ZaA n B.kept).isSome)=true:=by
 rw [List.all_eq_true]
 intro n hn
 have:=kn n hn
 unfold Known at this
 exact Option.isSome_iff_ne_none.mpr this
theorem ZnU {B:Bk} {e:Ent} (h:B.full e=false) (kn:∀ n∈e.named,Known B n) (t:(ZdS B.keptD e.told.key).isSome=false) (f:ZdF B e=true):Zjd B e=none:=by
 unfold Zjd
 rw [h,if_neg (by decide),Zj6 kn,if_neg (by decide),t,if_neg (by decide),f,if_pos rfl]
theorem Zhp {a b c:Str} (h1:ZaV a b=true) (h2:ZaV b c=true):ZaV a c=true:=by
 unfold ZaV at *
 exact decide_eq_true (List.lt_trans (of_decide_eq_true h1) (of_decide_eq_true h2))
theorem Zl3 (a:Str):ZaV a a=false:=by
 unfold ZaV
 exact decide_eq_false (List.lt_irrefl _)
noncomputable def Zlk (a b:Str):Bool:=!ZaV b a
theorem ZhG {a b c:Str} (h1:Zlk a b=true) (h2:Zlk b c=true):Zlk a c=true:=by
 unfold Zlk at *
 simp only [Bool.not_eq_true'] at *
 cases h:ZaV c a with
 | false=>rfl
 | true =>
  by_cases e:a=b
  ·subst e; rw [h] at h2; cases h2
  ·have hab:ZaV a b=true:=by
    cases h3:ZaV a b with
    | true=>rfl
    | false=>exact absurd (Zb1 h3 h1) e
   rw [Zhp h hab] at h2
   cases h2
theorem Zmt (a b:Str):(Zlk a b||Zlk b a)=true:=by
 unfold Zlk
 cases h:ZaV b a with
 | false=>rfl
 | true =>
  cases h2:ZaV a b with
  | false=>rfl
  | true=>exact absurd (Zhp h2 h) (by rw [Zl3 a]; decide)
noncomputable def Zie (l:List Str):List Str:=l.mergeSort Zlk
theorem ZhY (l:List Str):(Zie l).Perm l:=List.mergeSort_perm ..
theorem ZoK (l:List Str):(Zie l).Pairwise fun a b=>Zlk a b=true:=List.pairwise_mergeSort (le:=Zlk) (fun _ _ _=>ZhG) Zmt l
theorem Zfm:∀ {l:List Str},PyProof.Rows.sortedS l=true->l.Pairwise fun a b=>Zlk a b=true
 | [],_=>.nil
 | [x],_=>.cons (by simp) .nil
 | x :: y :: r,h=>by
  have h':(!PySem.Spec.ltCps y.cps.toList x.cps.toList&&PyProof.Rows.risingS y r)=true:=h
  rw [Bool.and_eq_true] at h'
  obtain ⟨h1,h2⟩:=h'
  have ih:=Zfm (l:=y :: r) h2
  have hxy:Zlk x y=true:=by
   rw [PyProof.Rows.ltCps_eq] at h1
   exact h1
  refine .cons (fun z hz=>?_) ih
  rcases List.mem_cons.mp hz with rfl | hz
  ·exact hxy
  ·exact ZhG hxy (List.rel_of_pairwise_cons ih hz)
theorem Zm4:∀ {l m:List Str},l.Perm m->(l.Pairwise fun a b=>Zlk a b=true)->(m.Pairwise fun a b=>Zlk a b=true)->l=m
 | [],m,p,_,_=>p.nil_eq
 | x :: l,[],p,_,_=>absurd p.length_eq (by simp)
 | x :: l,y :: m,p,h1,h2=>by
  have e:x=y:=by
   by_cases e:x=y
   ·exact e
   have hx:x∈m:=by
    have:x∈y :: m:=p.subset (List.mem_cons_self ..)
    rcases List.mem_cons.mp this with h | h
    ·exact absurd h e
    ·exact h
   have hy:y∈l:=by
    have:y∈x :: l:=p.symm.subset (List.mem_cons_self ..)
    rcases List.mem_cons.mp this with h | h
    ·exact absurd h.symm e
    ·exact h
   have a1:=List.rel_of_pairwise_cons h1 hy
   have a2:=List.rel_of_pairwise_cons h2 hx
   unfold Zlk at a1 a2
   simp only [Bool.not_eq_true'] at a1 a2
   exact Zb1 a2 a1
  subst e
  rw [Zm4 p.cons_inv (List.pairwise_cons.mp h1).2 (List.pairwise_cons.mp h2).2]
theorem Zlu {zs l:List Str} (hp:zs.Perm l) (hs:PyProof.Rows.sortedS zs=true):zs=Zie l:=Zm4 (hp.trans (ZhY l).symm) (Zfm hs) (ZoK l)
structure But (S:List Addr) (H H':Hp):Prop where
 eq:∀ a o,a ∉ S->H a=some o->H' a=some o
 al:∀ a,H' a=none->H a=none
theorem But.of {H H':Hp} (S:List Addr) (s:Same H H'):But S H H':=⟨fun a o _ e=>s a o e,fun a n=>Zbp s n⟩
theorem But.trans {S:List Addr} {H H' H'':Hp} (h1:But S H H') (h2:But S H' H''):But S H H'':=⟨fun a o n e=>h2.eq a o n (h1.eq a o n e),fun a n=>h1.al a (h2.al a n)⟩
theorem But.put {S:List Addr} {H:Hp} {a:Addr} {o o':HO} (e:H a=some o) (h:a∈S):But S H (upd H a o'):=by
 refine ⟨fun c u n q=>(Zak (fun z:c=a=>n (by rw [z]; exact h))).trans q,fun c n=>?_⟩
 by_cases z:c=a
 ·subst z; rw [Zab] at n; cases n
 ·rw [Zak z] at n; exact n
noncomputable def ZbQ {κ α:Type} [DecidableEq κ] (l:List (κ × α)) (c:κ) (x:α):List (κ × α) :=
 if (l.any fun q=>decide (q.1=c))=true then l.map (fun q=>if q.1=c then (q.1,x) else q) else l++[(c,x)]
theorem Zgr {κ κ' α : Type} [DecidableEq κ] [DecidableEq κ'] {f : κ → κ'} (hf : ∀ a b, f a=f b → a=b) (g : α → V) (l : List (κ × α)) (c : κ) (x : α) :
  Zjc (l.map fun q=>(f q.1,g q.2)) (f c) (g x)=(ZbQ l c x).map fun q=>(f q.1,g q.2):=by
 have hd:∀ a:κ,decide (f a=f c)=decide (a=c):=fun a=>by
  by_cases e:a=c
  ·subst e; simp
  ·rw [decide_eq_false e,decide_eq_false (fun z=>e (hf _ _ z))]
 unfold Zjc ZbQ
 have e1:((l.map fun q=>(f q.1,g q.2)).any fun kv=>decide (kv.1=f c))=l.any fun q=>decide (q.1=c):=by
  rw [List.any_map]
  exact congrArg (fun z=>l.any z) (funext fun q=>hd q.1)
 rw [e1]
 by_cases h:(l.any fun q=>decide (q.1=c))=true
 ·rw [if_pos h,if_pos h,List.map_map,List.map_map]
  refine List.map_congr_left fun q _=>?_
  show (if f q.1=f c then (f q.1,g x) else (f q.1,g q.2))=(fun q=>(f q.1,g q.2)) (if q.1=c then (q.1,x) else q)
  by_cases e:q.1=c
  ·rw [if_pos e,if_pos (by rw [e])]
  ·rw [if_neg e,if_neg (fun z=>e (hf _ _ z))]
 ·rw [if_neg h,if_neg h,List.map_append]
  rfl
theorem Zgk {κ α:Type} [DecidableEq κ] {l:List (κ × α)} {c:κ} {x:α} {q:κ × α} (h:q∈ZbQ l c x):q=(c,x)∨q∈l:=by
 unfold ZbQ at h
 split at h
 ·obtain ⟨p,hp,e⟩:=List.mem_map.mp h
  split at e
  ·rename_i pc
   subst e
   exact .inl (by rw [pc])
  ·subst e
   exact .inr hp
 ·rcases List.mem_append.mp h with h | h
  ·exact .inr h
  ·exact .inl (by simpa using h)
theorem Zlt {k li ti su:Addr} (h:[k,li,ti,su].Nodup):k≠li∧k≠ti∧k≠su∧li≠ti∧li≠su∧ti≠su:=by
 simp at h
 exact ⟨h.1.1,h.1.2.1,h.1.2.2,h.2.1.1,h.2.1.2,h.2.2⟩
theorem ZaP {H:Hp} {a c:Addr} {o u:HO} (h1:H a=some o) (h2:H c=some u) (n:o≠u):a≠c:=fun e=>by
 subst e
 rw [h1] at h2
 exact n (Option.some.inj h2)
theorem ZcC {K:W.Frag} {H:Hp} {a c:Addr} {xs:List V} {o o':HO} (h:SqT K H a xs) (e:H c=some o) (no:∀ ys,o≠.tup ys) (nf:∀ x ys,o≠.frz x ys):SqT K (upd H c o') a xs:=by
 rcases h with h | h
 ·rcases h with h | ⟨x,h⟩
  ·exact .inl (.inl ((Zak (ZaP h e (fun z=>no _ z.symm))).trans h))
  ·exact .inl (.inr ⟨x,(Zak (ZaP h e (fun z=>nf _ _ z.symm))).trans h⟩)
 ·exact .inr h
theorem BkAt.links {K : W.Frag} {C : Addr} {H : Hp} {b dx k bi li ti su : Addr} {B : Bk} (h : BkAt K C H b dx k bi li ti su B) {l : List ((Str × Str) × Addr × List Str)}
  (hl:∀ q∈l,H q.2.1=some (.lst (q.2.2.map V.str))):BkAt K C (upd H li (.dT (l.map fun q=>(two q.1,V.ref q.2.1)))) b dx k bi li ti su { B with links:=l }:=by
 obtain ⟨n1,n2,n3,n4,n5,n6⟩:=Zlt h.ap
 have dk:∀ {c:Addr} {z:List (Key × V)},H c=some (.dK z)->c≠li:=fun e=>ZaP e h.li (fun z=>by cases z)
 exact ⟨(Zak (ZaP h.ob h.li (fun z=>by cases z))).trans h.ob,h.ap,h.at',(Zak n1).trans h.ke,(Zak (dk h.bi)).trans h.bi,Zab,(Zak n4.symm).trans h.ti,(Zak n5.symm).trans h.su,
  fun p hp=>ZcC (h.en p hp) h.li (fun _ z=>by cases z) (fun _ _ z=>by cases z),fun q hq=>(Zak (ZaP (hl q hq) h.li (fun z=>by cases z))).trans (hl q hq),fun q hq=>(Zak (dk (h.tt q hq))).trans (h.tt q hq)⟩
noncomputable def lk (ls:List ((Str × Str) × Addr × List Str)) (c:Str × Str):List Str:=((Za0 c ls).map (·.2)).getD []
noncomputable def Zl7 (f:Str × Str->List Str) (c:Str × Str) (m:Str):Str × Str->List Str:=fun x=>if x=c then Zie (f c++[m]) else f x
theorem Zho {c:Str × Str}:∀ {l:List ((Str × Str) × Addr × List Str)},(l.any fun q=>decide (q.1=c))=false->Za0 c l=none
 | [],_=>rfl
 | q :: r,h=>by
  rw [List.any_cons,Bool.or_eq_false_iff] at h
  unfold Za0
  rw [if_neg (of_decide_eq_false h.1)]
  exact Zho h.2
theorem Zh3 {c:Str × Str}:∀ {l m:List ((Str × Str) × Addr × List Str)},Za0 c (l++m)=(Za0 c l).or (Za0 c m)
 | [],m=>by simp [Za0]
 | q :: r,m=>by
  show (if q.1=c then some q.2 else Za0 c (r++m))=(if q.1=c then some q.2 else Za0 c r).or (Za0 c m)
  by_cases e:q.1=c
  ·rw [if_pos e,if_pos e]; rfl
  ·rw [if_neg e,if_neg e]; exact Zh3
theorem Zh0 {c d:Str × Str} {x:Addr × List Str}:∀ {l:List ((Str × Str) × Addr × List Str)},Za0 d (l.map fun q=>if q.1=c then (q.1,x) else q)=if d=c then (Za0 c l).map (fun _=>x) else Za0 d l
 | []=>by by_cases e:d=c <;> simp [Za0,e]
 | q :: r=>by
  have ih:=Zh0 (c:=c) (d:=d) (x:=x) (l:=r)
  rw [List.map_cons]
  by_cases e:q.1=c
  ·rw [if_pos e]
   by_cases e2:d=c
   ·subst e2
    rw [if_pos rfl]
    unfold Za0
    rw [if_pos e,if_pos e]
    rfl
   ·rw [if_neg e2] at ih ⊢
    unfold Za0
    rw [if_neg (fun z=>e2 (z.symm.trans e)),if_neg (fun z=>e2 (z.symm.trans e))]
    exact ih
  ·rw [if_neg e]
   by_cases e2:d=c
   ·subst e2
    rw [if_pos rfl] at ih ⊢
    unfold Za0
    rw [if_neg e,if_neg e]
    exact ih
   ·rw [if_neg e2] at ih ⊢
    unfold Za0
    by_cases e3:q.1=d
    ·rw [if_pos e3,if_pos e3]
    ·rw [if_neg e3,if_neg e3]; exact ih
theorem Zmy (l:List ((Str × Str) × Addr × List Str)) (c d:Str × Str) (x:Addr × List Str):Za0 d (ZbQ l c x)=if d=c then some x else Za0 d l:=by
 unfold ZbQ
 by_cases h:(l.any fun q=>decide (q.1=c))=true
 ·rw [if_pos h,Zh0]
  by_cases e:d=c
  ·rw [if_pos e,if_pos e]
   cases hk:Za0 c l with
   | some y=>rfl
   | none =>
    exfalso
    have:∀ {l:List ((Str × Str) × Addr × List Str)},Za0 c l=none->(l.any fun q=>decide (q.1=c))=false:=by
     intro l
     induction l with
     | nil=>intro _; rfl
     | cons q r ih =>
      intro hn
      unfold Za0 at hn
      by_cases e:q.1=c
      ·rw [if_pos e] at hn; cases hn
      ·rw [if_neg e] at hn
       rw [List.any_cons,ih hn,decide_eq_false e]; rfl
    rw [this hk] at h
    cases h
  ·rw [if_neg e,if_neg e]
 ·rw [if_neg h,Zh3]
  by_cases e:d=c
  ·subst e
   rw [if_pos rfl,Zho (Bool.eq_false_iff.mpr h)]
   simp [Za0]
  ·rw [if_neg e]
   cases Za0 d l with
   | some y=>rfl
   | none=>simp [Za0,Ne.symm e]
theorem Zgu {κ α:Type} [DecidableEq κ] (l:List (κ × α)) (c:κ) (x:α):(ZbQ l c x).length≤l.length+1:=by
 unfold ZbQ
 split
 ·rw [List.length_map]; omega
 ·rw [List.length_append]; exact Nat.le_refl _
theorem Zsf (B:Bk) (l n:Str):ZbU B l n=lk B.links (l,n):=rfl
noncomputable def Zkk (F:Str × Str->List Str) (n f m:Str):Str × Str->List Str :=
 let F1:=if f="" then F else Zl7 (Zl7 F ("F",n) f) ("f",f) n
 if m="" then F1 else Zl7 (Zl7 F1 ("M",n) m) ("m",m) n
theorem Znx (l:List (Ent × Addr)) (n s:Str) (d:Int) (f m:Str) (a:Addr):Bk.bornD (l++[(.born n s d f m,a)])=Bk.bornD l++[(.inr n,.ref a)]:=by
 unfold Bk.bornD
 rw [List.filterMap_append]
 rfl
theorem ZjL (l:List (Ent × Addr)):(Bk.bornD l).length≤l.length:=List.length_filterMap_le ..
theorem But.mono {S S':List Addr} {H H':Hp} (h:But S H H') (i:∀ a∈S,a∈S'):But S' H H':=⟨fun a o n e=>h.eq a o (fun z=>n (i a z)) e,h.al⟩
def Grows (H:Hp) (ls ls':List ((Str × Str) × Addr × List Str)):Prop:=∀ q∈ls',(∃ p∈ls,p.2.1=q.2.1)∨H q.2.1=none
theorem Grows.refl (H:Hp) (ls:List ((Str × Str) × Addr × List Str)):Grows H ls ls:=fun q hq=>.inl ⟨q,hq,rfl⟩
theorem Grows.put {H:Hp} {ls ls':List ((Str × Str) × Addr × List Str)} {c:Str × Str} {D:Addr} {x:List Str} (g:Grows H ls ls') (n:H D=none):Grows H ls (ZbQ ls' c (D,x)):=fun q hq=>by
 rcases Zgk hq with rfl | hq
 ·exact .inr n
 ·exact g q hq
theorem Grows.back {H H':Hp} {ls ls':List ((Str × Str) × Addr × List Str)} (g:Grows H' ls ls') (al:∀ a,H' a=none->H a=none):Grows H ls ls':=fun q hq=>(g q hq).imp id (al _)
noncomputable def ZaK {κ α:Type} [DecidableEq κ] (c:κ):List (κ × α)->Option α
 | []=>none
 | q :: r=>if q.1=c then some q.2 else ZaK c r
theorem ZhH {κ α:Type} [DecidableEq κ] {c:κ}:∀ {l:List (κ × α)},(l.any fun q=>decide (q.1=c))=false->ZaK c l=none
 | [],_=>rfl
 | q :: r,h=>by
  rw [List.any_cons,Bool.or_eq_false_iff] at h
  unfold ZaK
  rw [if_neg (of_decide_eq_false h.1)]
  exact ZhH h.2
theorem Ze5 {κ α:Type} [DecidableEq κ] {c:κ}:∀ {l:List (κ × α)},ZaK c l=none->(l.any fun q=>decide (q.1=c))=false
 | [],_=>rfl
 | q :: r,h=>by
  unfold ZaK at h
  by_cases e:q.1=c
  ·rw [if_pos e] at h; cases h
  ·rw [if_neg e] at h
   rw [List.any_cons,Ze5 h,decide_eq_false e]
   rfl
theorem Zff {κ α:Type} [DecidableEq κ] {c:κ}:∀ {l m:List (κ × α)},ZaK c (l++m)=(ZaK c l).or (ZaK c m)
 | [],m=>by simp [ZaK]
 | q :: r,m=>by
  show (if q.1=c then some q.2 else ZaK c (r++m))=(if q.1=c then some q.2 else ZaK c r).or (ZaK c m)
  by_cases e:q.1=c
  ·rw [if_pos e,if_pos e]; rfl
  ·rw [if_neg e,if_neg e]; exact Zff
theorem ZkC {κ α:Type} [DecidableEq κ] {c d:κ} {x:α}:∀ {l:List (κ × α)},ZaK d (l.map fun q=>if q.1=c then (q.1,x) else q)=if d=c then (ZaK c l).map (fun _=>x) else ZaK d l
 | []=>by by_cases e:d=c <;> simp [ZaK,e]
 | q :: r=>by
  have ih:=ZkC (c:=c) (d:=d) (x:=x) (l:=r)
  rw [List.map_cons]
  by_cases e:q.1=c
  ·rw [if_pos e]
   by_cases e2:d=c
   ·subst e2
    rw [if_pos rfl]
    unfold ZaK
    rw [if_pos e,if_pos e]
    rfl
   ·rw [if_neg e2] at ih ⊢
    unfold ZaK
    rw [if_neg (fun z=>e2 (z.symm.trans e)),if_neg (fun z=>e2 (z.symm.trans e))]
    exact ih
  ·rw [if_neg e]
   by_cases e2:d=c
   ·subst e2
    rw [if_pos rfl] at ih ⊢
    unfold ZaK
    rw [if_neg e,if_neg e]
    exact ih
   ·rw [if_neg e2] at ih ⊢
    unfold ZaK
    by_cases e3:q.1=d
    ·rw [if_pos e3,if_pos e3]
    ·rw [if_neg e3,if_neg e3]; exact ih
theorem Zkw {κ α:Type} [DecidableEq κ] (l:List (κ × α)) (c d:κ) (x:α):ZaK d (ZbQ l c x)=if d=c then some x else ZaK d l:=by
 unfold ZbQ
 by_cases h:(l.any fun q=>decide (q.1=c))=true
 ·rw [if_pos h,ZkC]
  by_cases e:d=c
  ·rw [if_pos e,if_pos e]
   cases hk:ZaK c l with
   | some y=>rfl
   | none=>rw [Ze5 hk] at h; cases h
  ·rw [if_neg e,if_neg e]
 ·rw [if_neg h,Zff]
  by_cases e:d=c
  ·subst e
   rw [if_pos rfl,ZhH (Bool.eq_false_iff.mpr h)]
   simp [ZaK]
  ·rw [if_neg e]
   cases ZaK d l with
   | some y=>rfl
   | none=>simp [ZaK,Ne.symm e]
theorem Zdg {κ α:Type} [DecidableEq κ] {c:κ}:∀ {l:List (κ × α)} {x:α},ZaK c l=some x->(c,x)∈l
 | [],_,h=>by cases h
 | q :: r,x,h=>by
  unfold ZaK at h
  by_cases e:q.1=c
  ·rw [if_pos e] at h
   cases h
   rw [← e]
   exact List.mem_cons_self ..
  ·rw [if_neg e] at h
   exact List.mem_cons_of_mem _ (Zdg h)
theorem Zeg {κ κ' α:Type} [DecidableEq κ] [DecidableEq κ'] {f:κ->κ'} (hf:∀ a b,f a=f b->a=b) (g:α->V) (c:κ):∀ l:List (κ × α),ZdS (l.map fun q=>(f q.1,g q.2)) (f c)=(ZaK c l).map g
 | []=>rfl
 | q :: r=>by
  have ih:=Zeg hf g c r
  unfold ZaK
  rw [List.map_cons]
  by_cases e:q.1=c
  ·subst e
   rw [ZcF rfl,if_pos rfl]
   rfl
  ·rw [ZbD (fun z=>e (hf _ _ z)),if_neg e]
   exact ih
noncomputable def Zbn (B:Bk) (c:Str × Str):List (Int × Str):=((ZaK c B.ties).map (·.2)).getD []
noncomputable def Zcn (l:List (Int × Str)):Bool:=match (l.map (·.1)).max? with
 | none=>false
 | some m=>decide (ZaK m l=some ("union" : Str))
noncomputable def Zd6 (B:Bk) (a b:Str):Bool:=Zcn (Zbn B (Zai a b))
noncomputable def Zh6 (l:List (Int × Str)):List (Key × V):=l.map fun r=>(.inl r.1,.str r.2)
theorem ZmM:∀ a b:Int,(.inl a:Key)=.inl b->a=b:=fun _ _ h=>Sum.inl.inj h
theorem Zm1 {l:List (Int × Str)} {m:Int} (h:m∈l.map (·.1)):∃ x,ZaK m l=some x:=by
 cases e:ZaK m l with
 | some x=>exact ⟨x,rfl⟩
 | none =>
  obtain ⟨q,hq,rfl⟩:=List.mem_map.mp h
  have:=Ze5 e
  rw [List.any_eq_false] at this
  exact absurd (decide_eq_true rfl) (this q hq)
theorem Zg5 {l:List (Int × Str)} {m:Int} {x:Str} (hm:m∈l.map (·.1)) (hx:∀ y∈l.map (·.1),y≤m) (e:ZaK m l=some x):Zcn l=decide (x="union"):=by
 have h:(l.map (·.1)).max?=some m:=List.max?_eq_some_iff.mpr ⟨hm,hx⟩
 unfold Zcn
 rw [h]
 show decide (ZaK m l=some ("union" : Str))=_
 rw [e]
 simp
theorem Zee (a b:Str):Zai a b=Zai b a:=by
 unfold Zai
 by_cases h:ZaV b a=true
 ·by_cases h2:ZaV a b=true
  ·have l1:b.cps.toList<a.cps.toList:=of_decide_eq_true h
   have l2:a.cps.toList<b.cps.toList:=of_decide_eq_true h2
   exact absurd l1 (List.lt_asymm l2)
  ·rw [if_pos h,if_neg h2]
 ·by_cases h2:ZaV a b=true
  ·rw [if_neg h,if_pos h2]
  ·rw [if_neg h,if_neg h2,Zb1 (Bool.eq_false_iff.mpr h) (Bool.eq_false_iff.mpr h2)]
theorem ZkB (B:Bk) (a b:Str):Zd6 B a b=Zd6 B b a:=by
 unfold Zd6
 rw [Zee]
noncomputable def ZbT (F:Str × Str->List Str) (st:Bool) (x y:Str):Str × Str->List Str:=fun c =>
 if c=(("S",x):Str × Str) then (if st=true then Zie ((F c).filter (fun n=>decide (n≠y))++[y]) else (F c).filter fun n=>decide (n≠y)) else F c
noncomputable def ZiJ (ts:List ((Str × Str) × Addr × List (Int × Str))) (c:Str × Str):List (Int × Str):=((ZaK c ts).map (·.2)).getD []
theorem Zi5 (B:Bk) (c:Str × Str):Zbn B c=ZiJ B.ties c:=rfl
theorem ZhM {ts:List ((Str × Str) × Addr × List (Int × Str))} {c:Str × Str} {d:Addr} {l l':List (Int × Str)} (n:(ts.map (·.1)).Nodup) (h:ZaK c ts=some (d,l)):(ZbQ ts c (d,l')).map (·.2.1)=ts.map (·.2.1)∧(ZbQ ts c (d,l')).map (·.1)=ts.map (·.1):=by
 have an:(ts.any fun q=>decide (q.1=c))=true:=by
  rw [List.any_eq_true]
  exact ⟨_,Zdg h,decide_eq_true rfl⟩
 unfold ZbQ
 rw [if_pos an,List.map_map,List.map_map]
 constructor
 ·refine List.map_congr_left fun q hq=>?_
  show (if q.1=c then (q.1,(d,l')) else q).2.1=q.2.1
  by_cases e:q.1=c
  ·rw [if_pos e]
   have:q.2=(d,l):=by
    have go:∀ {ts:List ((Str × Str) × Addr × List (Int × Str))},(ts.map (·.1)).Nodup->ZaK c ts=some (d,l)->q∈ts->q.2=(d,l):=by
     intro ts
     induction ts with
     | nil=>intro _ _ h; cases h
     | cons p r ih =>
      intro n f m
      rw [List.map_cons,List.nodup_cons] at n
      unfold ZaK at f
      by_cases e2:p.1=c
      ·rw [if_pos e2] at f
       rcases List.mem_cons.mp m with rfl | m
       ·exact Option.some.inj f
       ·exact absurd (List.mem_map.mpr ⟨q,m,e.trans e2.symm⟩) n.1
      ·rw [if_neg e2] at f
       rcases List.mem_cons.mp m with rfl | m
       ·exact absurd e e2
       ·exact ih n.2 f m
    exact go n h hq
   rw [this]
  ·rw [if_neg e]
 ·refine List.map_congr_left fun q hq=>?_
  show (if q.1=c then (q.1,(d,l')) else q).1=q.1
  split <;> rfl
theorem BkAt.newTie {K : W.Frag} {C : Addr} {H : Hp} {b dx k bi li ti su z : Addr} {B : Bk} (h : BkAt K C H b dx k bi li ti su B) (nz : H z=some (.dK [])) (fr : z ≠ bi ∧ ∀ q ∈ B.ties, q.2.1 ≠ z) (c : Str × Str) :
  BkAt K C (upd H ti (.dT (B.tiesD++[(two c,.ref z)]))) b dx k bi li ti su { B with ties:=B.ties++[(c,z,[])] }:=by
 obtain ⟨n1,n2,n3,n4,n5,n6⟩:=Zlt h.ap
 have dk:∀ {a:Addr} {w:List (Key × V)},H a=some (.dK w)->a≠ti:=fun e=>ZaP e h.ti (fun z=>by cases z)
 refine ⟨(Zak (ZaP h.ob h.ti (fun z=>by cases z))).trans h.ob,h.ap,?_,(Zak n2).trans h.ke,(Zak (dk h.bi)).trans h.bi,(Zak n4).trans h.li,?_,(Zak n6.symm).trans h.su,fun p hp=>ZcC (h.en p hp) h.ti (fun _ z=>by cases z) (fun _ _ z=>by cases z),
  fun q hq=>(Zak (ZaP (h.ll q hq) h.ti (fun z=>by cases z))).trans (h.ll q hq),fun q hq=>?_⟩
 ·show (bi :: (B.ties++[((c,z,[]):(Str × Str) × Addr × List (Int × Str))]).map (·.2.1)).Nodup
  rw [List.map_append,← List.cons_append,List.nodup_append]
  refine ⟨h.at',by simp,fun a ha x hx e=>?_⟩
  have ex:x=z:=by simpa using hx
  subst ex e
  rcases List.mem_cons.mp ha with rfl | ha
  ·exact fr.1 rfl
  ·obtain ⟨q,hq,rfl⟩:=List.mem_map.mp ha
   exact fr.2 q hq rfl
 ·rw [Zab]
  show some (HO.dT _)=some (.dT ((B.ties++[((c,z,[]):(Str × Str) × Addr × List (Int × Str))]).map fun q=>(two q.1,V.ref q.2.1)))
  rw [List.map_append]
  rfl
 ·rcases List.mem_append.mp hq with hq | hq
  ·exact (Zak (dk (h.tt q hq))).trans (h.tt q hq)
  ·have e:q=(c,z,[]):=by simpa using hq
   subst e
   exact (Zak (dk nz)).trans nz
theorem BkAt.putTie {K : W.Frag} {C : Addr} {H : Hp} {b dx k bi li ti su d : Addr} {B : Bk} {c : Str × Str} {l : List (Int × Str)} (h : BkAt K C H b dx k bi li ti su B) (n : (B.ties.map (·.1)).Nodup) (f : ZaK c B.ties=some (d, l)) (l' : List (Int × Str)) :
  BkAt K C (upd H d (.dK (Zh6 l'))) b dx k bi li ti su { B with ties:=ZbQ B.ties c (d,l') }:=by
 have hm:=Zdg f
 have hd:H d=some (.dK (Zh6 l)):=h.tt _ hm
 have at2:=h.at'
 rw [List.nodup_cons] at at2
 have bd:bi≠d:=fun e=>at2.1 (List.mem_map.mpr ⟨_,hm,e.symm⟩)
 have dt:∀ {a:Addr} {w:List (List Key × V)},H a=some (.dT w)->a≠d:=fun e=>ZaP e hd (fun z=>by cases z)
 obtain ⟨pa1,pa2⟩:=ZhM (l':=l') n f
 refine ⟨(Zak (ZaP h.ob hd (fun z=>by cases z))).trans h.ob,h.ap,?_,(Zak (dt h.ke)).trans h.ke,(Zak bd).trans h.bi,(Zak (dt h.li)).trans h.li,?_,(Zak (dt h.su)).trans h.su,fun p hp=>ZcC (h.en p hp) hd (fun _ z=>by cases z) (fun _ _ z=>by cases z),
  fun q hq=>(Zak (ZaP (h.ll q hq) hd (fun z=>by cases z))).trans (h.ll q hq),fun q hq=>?_⟩
 ·show (bi :: (ZbQ B.ties c (d,l')).map (·.2.1)).Nodup
  rw [pa1]
  exact h.at'
 ·have e:(ZbQ B.ties c (d,l')).map (fun q=>(two q.1,V.ref q.2.1))=B.tiesD:=by
   have e1:(fun q:(Str × Str) × Addr × List (Int × Str)=>(two q.1,V.ref q.2.1))=(fun p:(Str × Str) × Addr=>(two p.1,V.ref p.2)) ∘ fun q=>(q.1,q.2.1):=rfl
   have e2:∀ ts:List ((Str × Str) × Addr × List (Int × Str)),ts.map (fun q=>(q.1,q.2.1))=(ts.map (·.1)).zip (ts.map (·.2.1)):=fun ts=>by
    induction ts with
    | nil=>rfl
    | cons q r ih=>simp [ih]
   unfold Bk.tiesD
   rw [e1,← List.map_map,← List.map_map,e2,e2,pa1,pa2]
  rw [Zak (dt h.ti)]
  show H ti=some (.dT ((ZbQ B.ties c (d,l')).map fun q=>(two q.1,V.ref q.2.1)))
  rw [e]
  exact h.ti
 ·rcases Zgk hq with rfl | hq2
  ·exact Zab
  ·by_cases e:q.2.1=d
   ·-- the same address: the same pair
    have:q=(c,d,l)∨q=(c,d,l'):=by
     have hnd:=(List.nodup_cons.mp h.at').2
     have go:∀ {ts:List ((Str × Str) × Addr × List (Int × Str))},(ts.map (·.2.1)).Nodup->(c,d,l)∈ts->q∈ts->q=(c,d,l):=by
      intro ts
      induction ts with
      | nil=>intro _ h; cases h
      | cons p r ih =>
       intro n h1 h2
       rw [List.map_cons,List.nodup_cons] at n
       rcases List.mem_cons.mp h1 with e1 | h1'
       ·rcases List.mem_cons.mp h2 with e2 | h2'
        ·rw [e2,e1]
        ·rw [← e1] at n
         exact absurd (List.mem_map.mpr ⟨q,h2',e⟩) n.1
       ·rcases List.mem_cons.mp h2 with e2 | h2'
        ·rw [← e2] at n
         exact absurd (List.mem_map.mpr ⟨(c,d,l),h1',e.symm⟩) n.1
        ·exact ih n.2 h1' h2'
     exact .inl (go hnd hm hq2)
    rcases this with rfl | rfl
    ·-- then it was told anew
     have an:(B.ties.any fun q=>decide (q.1=c))=true:=by
      rw [List.any_eq_true]
      exact ⟨_,hm,decide_eq_true rfl⟩
     unfold ZbQ at hq
     rw [if_pos an] at hq
     obtain ⟨p,hp,ep⟩:=List.mem_map.mp hq
     by_cases pc:p.1=c
     ·rw [if_pos pc] at ep
      have:l'=l:=by
       have:=congrArg (fun z=>z.2.2) ep
       exact this
      subst this
      exact Zab
     ·rw [if_neg pc] at ep
      subst ep
      exact absurd rfl pc
    ·exact Zab
   ·exact (Zak e).trans (h.tt q hq2)
theorem Zpz (ts:List ((Str × Str) × Addr × List (Int × Str))) (c x:Str × Str) (d:Addr) (l:List (Int × Str)):ZiJ (ZbQ ts c (d,l)) x=if x=c then l else ZiJ ts x:=by
 unfold ZiJ
 rw [Zkw]
 by_cases e:x=c
 ·rw [if_pos e,if_pos e]; rfl
 ·rw [if_neg e,if_neg e]
theorem ZoQ (ts:List ((Str × Str) × Addr × List (Int × Str))) (c x:Str × Str) (d:Addr) (h:ZaK c ts=none):ZiJ (ts++[(c,d,[])]) x=ZiJ ts x:=by
 unfold ZiJ
 rw [Zff]
 cases e:ZaK x ts with
 | some y=>rfl
 | none =>
  unfold ZaK
  by_cases e2:c=x
  ·rw [if_pos e2]; rfl
  ·rw [if_neg e2]; rfl
noncomputable def Zqu (y:Str) (n:Str):Option V:=if n=y then none else some (.str n)
theorem ZlR (y:Str):∀ l:List Str,(l.map (Zqu y)).filterMap id=(l.filter fun n=>decide (n≠y)).map V.str
 | []=>rfl
 | n :: r=>by
  have ih:=ZlR y r
  by_cases h:n=y
  ·subst h
   simp only [List.map_cons,List.filterMap_cons,List.filter_cons]
   simpa [Zqu] using ih
  ·simp only [List.map_cons,List.filterMap_cons,List.filter_cons]
   simpa [Zqu,h] using ih
theorem ZnA (l:List ((Str × Str) × Addr × List Str)) (c d:Str × Str) (D:Addr) (z:List Str):lk (ZbQ l c (D,z)) d=if d=c then z else lk l d:=by
 unfold lk
 rw [Zmy]
 by_cases e:d=c
 ·rw [if_pos e,if_pos e]; rfl
 ·rw [if_neg e,if_neg e]
theorem Zhs (F:Str × Str->List Str) (st:Bool) (x y:Str) (c:Str × Str):(ZbT F st x y c).length≤(F c).length+1:=by
 unfold ZbT
 have h:=List.length_filter_le (fun n=>decide (n≠y)) (F c)
 split
 ·split
  ·rw [(ZhY _).length_eq,List.length_append]
   show _+1≤_
   omega
  ·omega
 ·omega
theorem ZcV (a b:Str):Zai (Zai a b).1 (Zai a b).2=Zai a b:=by
 unfold Zai
 by_cases h:ZaV b a=true
 ·rw [if_pos h]
  show (if ZaV a b=true then (a,b) else (b,a))=(b,a)
  by_cases h2:ZaV a b=true
  ·have l1:b.cps.toList<a.cps.toList:=of_decide_eq_true h
   have l2:a.cps.toList<b.cps.toList:=of_decide_eq_true h2
   exact absurd l1 (List.lt_asymm l2)
  ·rw [if_neg h2]
 ·rw [if_neg h]
  show (if ZaV b a=true then (b,a) else (a,b))=(a,b)
  rw [if_neg h]
theorem Zhb (e:Ent):e.told.told=e.told:=by
 cases e with
 | union a b d=>show Ent.union (Zai (Zai a b).1 (Zai a b).2).1 (Zai (Zai a b).1 (Zai a b).2).2 d=_; rw [ZcV]; rfl
 | parted a b d=>show Ent.parted (Zai (Zai a b).1 (Zai a b).2).1 (Zai (Zai a b).1 (Zai a b).2).2 d=_; rw [ZcV]; rfl
 | _=>rfl
noncomputable def ZoY (F:Str × Str->List (Int × Str)):Ent->Str × Str->List (Int × Str)
 | .union a b d=>fun c=>if c=Zai a b then ZbQ (F (Zai a b)) d "union" else F c
 | .parted a b d=>fun c=>if c=Zai a b then ZbQ (F (Zai a b)) d "parted" else F c
 | _=>F
noncomputable def ZqP (F:Str × Str->List Str) (G:Str × Str->List (Int × Str)):Ent->Str × Str->List Str
 | .born n _ _ f m=>Zkk F n f m
 | .taken c t _=>Zl7 (Zl7 F ("T",c) t) ("t",t) c
 | .union a b d=>ZbT (ZbT F (Zcn (ZbQ (G (Zai a b)) d "union")) a b) (Zcn (ZbQ (G (Zai a b)) d "union")) b a
 | .parted a b d=>ZbT (ZbT F (Zcn (ZbQ (G (Zai a b)) d "parted")) a b) (Zcn (ZbQ (G (Zai a b)) d "parted")) b a
 | _=>F
noncomputable def ZfG:V->Int->Bool
 | .int d,t=>decide (t≤d)
 | _,_=>true
noncomputable def ZdY (B:Bk) (z:V) (a b:Str):Bool:=Zcn ((Zbn B (Zai a b)).filter fun r=>ZfG z r.1)
theorem Zdx (B:Bk) (a b:Str):ZdY B .non a b=Zd6 B a b:=by
 unfold ZdY Zd6
 have e:((Zbn B (Zai a b)).filter fun r=>ZfG .non r.1)=Zbn B (Zai a b):=List.filter_eq_self.mpr fun r _=>rfl
 rw [e]
theorem ZjF {l:List (Int × Str)} {p:Int->Bool} {m:Int} (h:p m=true):ZaK m (l.filter fun r=>p r.1)=ZaK m l:=by
 induction l with
 | nil=>rfl
 | cons q r ih =>
  rw [List.filter_cons]
  by_cases e:q.1=m
  ·have:p q.1=true:=by rw [e]; exact h
   rw [if_pos this]
   unfold ZaK
   rw [if_pos e,if_pos e]
  ·by_cases h2:p q.1=true
   ·rw [if_pos h2]
    unfold ZaK
    rw [if_neg e,if_neg e]
    exact ih
   ·rw [if_neg h2]
    conv=>rhs; unfold ZaK
    rw [if_neg e]
    exact ih
noncomputable def ZqK (z:V) (r:Int × Str):Option V:=if ZfG z r.1=true then some (.int r.1) else none
theorem ZlO (z:V):∀ l:List (Int × Str),(l.map (ZqK z)).filterMap id=((l.filter fun r=>ZfG z r.1).map (·.1)).map V.int
 | []=>rfl
 | r :: l=>by
  have ih:=ZlO z l
  rw [List.map_cons,List.filterMap_cons,List.filter_cons]
  by_cases h:ZfG z r.1=true
  ·rw [if_pos h]
   unfold ZqK at ih ⊢
   rw [if_pos h]
   simp only [id,List.map_cons]
   rw [ih]
  ·rw [if_neg h]
   unfold ZqK at ih ⊢
   rw [if_neg h]
   simp only [id]
   exact ih
noncomputable def Zit (ss:List ((Str × Str) × Int)) (c:Str × Str):Int:=(ZaK c ss).getD 0
noncomputable def ZoA (F:Str × Str->Int):Ent->Str × Str->Int
 | .given g t am _=>fun c=>if c=(g,t) then F c+am else F c
 | _=>F
theorem ZoB (ss:List ((Str × Str) × Int)) (g t:Str) (am d:Int) (c:Str × Str):Zit (ZbQ ss (g,t) (Zit ss (g,t)+am)) c=ZoA (Zit ss) (.given g t am d) c:=by
 show _=if c=(g,t) then Zit ss c+am else Zit ss c
 unfold Zit
 rw [Zkw]
 by_cases e:c=(g,t)
 ·subst e
  rw [if_pos rfl,if_pos rfl]
  rfl
 ·rw [if_neg e,if_neg e]
noncomputable def Ent.bare:Ent->Bool
 | .taken ..=>false
 | .born _ _ _ f m=>decide (f="")&&decide (m="")
 | _=>true
theorem Zjh {n s f m:Str} {d:Int} (h:(Ent.born n s d f m).bare=true):f=""∧m="":=by simpa [Ent.bare] using h
noncomputable def Ent.isTaken:Ent->Bool
 | .taken ..=>true
 | _=>false
def GrowsT (H:Hp) (ts ts':List ((Str × Str) × Addr × List (Int × Str))):Prop:=∀ a∈ts'.map (·.2.1),a∈ts.map (·.2.1)∨H a=none
theorem GrowsT.refl (H:Hp) (ts:List ((Str × Str) × Addr × List (Int × Str))):GrowsT H ts ts:=fun _ h=>.inl h
theorem GrowsT.back {H H':Hp} {ts ts':List ((Str × Str) × Addr × List (Int × Str))} (g:GrowsT H' ts ts') (al:∀ a,H' a=none->H a=none):GrowsT H ts ts':=fun a ha=>(g a ha).imp id (al a)
structure Put (B:Bk) (e:Ent) (B':Bk):Prop where
 su:∀ c,Zit B'.sums c=ZoA (Zit B.sums) e.told c
 kept:∃ a,B'.kept=B.kept++[(e.told,a)]
 lks:∀ c,lk B'.links c=ZqP (lk B.links) (ZiJ B.ties) e.told c
 tis:∀ c,ZiJ B'.ties c=ZoY (ZiJ B.ties) e.told c
 nd:(B'.ties.map (·.1)).Nodup
 nl:B'.links.length≤B.links.length+4
 nt:B'.ties.length≤B.ties.length+1
 ns:B'.sums.length≤B.sums.length+1
structure Room1 (B:Bk):Prop where
 nd:(B.ties.map (·.1)).Nodup
 nl:B.links.length≤870
 nt:B.ties.length≤790
 ns:B.sums.length≤790
 ll:∀ c,(lk B.links c).length≤60
 tt:∀ c,(ZiJ B.ties c).length≤790
theorem Zpj {H:Hp} {a:Addr} {o:HO} (h:H a=some o):upd H a o=H:=by
 funext c
 by_cases e:c=a
 ·subst e; rw [Zab,h]
 ·rw [Zak e]
theorem BkAt.kept {K : W.Frag} {C : Addr} {H : Hp} {b dx k bi li ti su a : Addr} {B : Bk} {e : Ent} (h : BkAt K C H b dx k bi li ti su B) (ha : SqT K H a (e.row.map kV)) :
  BkAt K C (upd (upd H k (.dT (B.keptD++[(e.key,.ref a)]))) bi (.dK (Bk.bornD (B.kept++[(e,a)])))) b dx k bi li ti su { B with kept:=B.kept++[(e,a)] }:=by
 obtain ⟨n1,n2,n3,n4,n5,n6⟩:=Zlt h.ap
 have kb:k≠bi:=ZaP h.ke h.bi (fun z=>by cases z)
 have at2:=List.nodup_cons.mp h.at'
 have dt:∀ {c:Addr} {w:List (List Key × V)},H c=some (.dT w)->c≠k->(upd (upd H k (.dT (B.keptD++[(e.key,.ref a)]))) bi (.dK (Bk.bornD (B.kept++[(e,a)])))) c=some (.dT w):=fun hc n=>(Zak (ZaP hc h.bi (fun z=>by cases z))).trans ((Zak n).trans hc)
 have sq:∀ {c:Addr} {xs:List V},SqT K H c xs->SqT K (upd (upd H k (.dT (B.keptD++[(e.key,.ref a)]))) bi (.dK (Bk.bornD (B.kept++[(e,a)])))) c xs:=fun {c xs} hc=>by
  have h1:SqT K (upd H k (.dT (B.keptD++[(e.key,.ref a)]))) c xs:=ZcC hc h.ke (fun _ z=>by cases z) (fun _ _ z=>by cases z)
  exact ZcC h1 ((Zak kb.symm).trans h.bi) (fun _ z=>by cases z) (fun _ _ z=>by cases z)
 refine ⟨(Zak (ZaP h.ob h.bi (fun z=>by cases z))).trans ((Zak (ZaP h.ob h.ke (fun z=>by cases z))).trans h.ob),h.ap,h.at',(Zak kb).trans ?_,Zab,dt h.li n1.symm,dt h.ti n2.symm,dt h.su n3.symm,fun p hp=>?_,fun q hq=>?_,fun q hq=>?_⟩
 ·rw [Zab]
  show some (HO.dT _)=some (.dT ((B.kept++[(e,a)]).map fun p=>(p.1.key,V.ref p.2)))
  rw [List.map_append]
  rfl
 ·rcases List.mem_append.mp hp with hp | hp
  ·exact sq (h.en p hp)
  ·have ep:p=(e,a):=by simpa using hp
   subst ep
   exact sq ha
 ·exact (Zak (ZaP (h.ll q hq) h.bi (fun z=>by cases z))).trans ((Zak (ZaP (h.ll q hq) h.ke (fun z=>by cases z))).trans (h.ll q hq))
 ·exact (Zak (fun z=>at2.1 (List.mem_map.mpr ⟨q,hq,z⟩))).trans ((Zak (ZaP (h.tt q hq) h.ke (fun z=>by cases z))).trans (h.tt q hq))
theorem ZmG {l:List (Ent × Addr)} {e:Ent} {a:Addr} (h:e.isBorn=false):Bk.bornD (l++[(e,a)])=Bk.bornD l:=by
 unfold Bk.bornD
 rw [List.filterMap_append]
 cases e with
 | born=>cases h
 | _=>simp [Ent.bornName]
theorem BkAt.sums {K : W.Frag} {C : Addr} {H : Hp} {b dx k bi li ti su : Addr} {B : Bk} (h : BkAt K C H b dx k bi li ti su B) (l : List ((Str × Str) × Int)) :
  BkAt K C (upd H su (.dT (l.map fun q=>(two q.1,V.int q.2)))) b dx k bi li ti su { B with sums:=l }:=by
 obtain ⟨n1,n2,n3,n4,n5,n6⟩:=Zlt h.ap
 have dk:∀ {c:Addr} {z:List (Key × V)},H c=some (.dK z)->c≠su:=fun e=>ZaP e h.su (fun z=>by cases z)
 exact ⟨(Zak (ZaP h.ob h.su (fun z=>by cases z))).trans h.ob,h.ap,h.at',(Zak n3).trans h.ke,(Zak (dk h.bi)).trans h.bi,(Zak n5).trans h.li,(Zak n6).trans h.ti,Zab,
  fun p hp=>ZcC (h.en p hp) h.su (fun _ z=>by cases z) (fun _ _ z=>by cases z),fun q hq=>(Zak (ZaP (h.ll q hq) h.su (fun z=>by cases z))).trans (h.ll q hq),fun q hq=>(Zak (dk (h.tt q hq))).trans (h.tt q hq)⟩
theorem Zmj {l:List (Ent × Addr)} {n s f m:Str} {d:Int} (h:ZdS (l.map fun p=>(p.1.key,V.ref p.2)) (Ent.born n s d f m).key=none):ZaA n l=none:=by
 induction l with
 | nil=>rfl
 | cons p r ih =>
  unfold ZaA
  rw [List.map_cons] at h
  by_cases e:p.1.bornName=some n
  ·exfalso
   have ek:p.1.key=(Ent.born n s d f m).key:=by
    cases hp:p.1 with
    | born n' s' d' f' m' =>
     rw [hp] at e
     cases (show n'=n from Option.some.inj e)
     rfl
    | _=>rw [hp] at e; cases e
   rw [ZcF ek] at h
   cases h
  ·rw [if_neg e]
   by_cases ek:p.1.key=(Ent.born n s d f m).key
   ·rw [ZcF ek] at h
    cases h
   ·rw [ZbD ek] at h
    exact ih h
theorem Zjs {B:Bk} {e:Ent} (h:Zjd B e=none):ZdS B.keptD e.told.key=none∧B.kept.length<400∧∀ n∈e.named,Known B n:=by
 unfold Zjd at h
 by_cases f:B.full e=true
 ·rw [if_pos f] at h; cases h
 rw [if_neg f] at h
 by_cases p:(e.named.all fun n=>(ZaA n B.kept).isSome)=false
 ·rw [if_pos p] at h; cases h
 rw [if_neg p] at h
 by_cases t:(ZdS B.keptD e.told.key).isSome=true
 ·rw [if_pos t] at h; cases h
 refine ⟨by simpa using t,?_,fun n hn=>?_⟩
 ·unfold Bk.full at f
  simp only [Bool.or_eq_true,decide_eq_true_eq,not_or] at f
  omega
 ·have:=p
  rw [Bool.not_eq_false] at this
  rw [List.all_eq_true] at this
  have:=this n hn
  unfold Known
  exact Option.isSome_iff_ne_none.mp this
theorem Zmp (e:Ent) (n:Str):n∈e.told.named->n∈e.named:=by
 cases e with
 | union a b d =>
  show n∈[(Zai a b).1,(Zai a b).2]->n∈[a,b]
  unfold Zai
  split <;> simp <;> (intro h; rcases h with h | h <;> simp [h])
 | parted a b d =>
  show n∈[(Zai a b).1,(Zai a b).2]->n∈[a,b]
  unfold Zai
  split <;> simp <;> (intro h; rcases h with h | h <;> simp [h])
 | _=>exact id
theorem Zg2 (n:Str):∀ (l m:List (Ent × Addr)),ZaA n (l++m)=(ZaA n l).or (ZaA n m)
 | [],m=>by simp [ZaA]
 | p :: r,m=>by
  show (if p.1.bornName=some n then some p else ZaA n (r++m))=(if p.1.bornName=some n then some p else ZaA n r).or (ZaA n m)
  by_cases e:p.1.bornName=some n
  ·rw [if_pos e,if_pos e]; rfl
  ·rw [if_neg e,if_neg e]; exact Zg2 n r m
theorem Known.more {B B':Bk} {n:Str} {l:List (Ent × Addr)} (h:Known B n) (e:B'.kept=B.kept++l):Known B' n:=by
 unfold Known at *
 rw [e,Zg2]
 cases hb:ZaA n B.kept with
 | none=>exact absurd hb h
 | some p=>simp
noncomputable def Zox (at' be:Int) (c k j:Int):Int:=if j=be then c.fdiv 17+k.fdiv 26 else if j=at' then c.fdiv 11+k else c.fdiv 3+j*j*5
noncomputable def Zln (i:Int):Nat:=(97+i.fmod 26).toNat
noncomputable def nmL (at' be:Int) (c k:Int) (n:Nat):List Nat:=(List.range n).map fun j:Nat=>Zln (Zox at' be c k (j:Int))
theorem ZoP (at' be c k:Int) (n:Nat):nmL at' be c k (n+1)=nmL at' be c k n++[Zln (Zox at' be c k n)]:=by
 unfold nmL
 rw [List.range_succ,List.map_append]
 rfl
theorem Znm (at' be c k:Int) (n:Nat):(nmL at' be c k n).length=n:=by
 unfold nmL
 rw [List.length_map,List.length_range]
theorem ZqR (i:Int):inL (Zln i)=true:=by
 have h0:=Int.fmod_nonneg_of_pos i (show (0:Int)<26 by decide)
 have h1:=Int.fmod_lt_of_pos i (show (0:Int)<26 by decide)
 obtain ⟨m,hm,hl⟩:∃ m:Nat,i.fmod 26=(m:Int)∧m<26:=⟨(i.fmod 26).toNat,by omega,by omega⟩
 have e:Zln i=97+m:=by unfold Zln; rw [hm]; omega
 rw [e]
 have go:∀ m:Fin 26,inL (97+m.val)=true:=by decide +kernel
 exact go ⟨m,hl⟩
theorem Zsl {at' be c k:Int} {n:Nat} (h1:1≤n) (h8:n≤8):Nm ⟨(nmL at' be c k n).toArray⟩:=by
 have hl:(⟨(nmL at' be c k n).toArray⟩:Str).length=n:=by
  show (nmL at' be c k n).toArray.size=n
  rw [List.size_toArray,Znm]
 refine ⟨by omega,by omega,?_⟩
 show ((nmL at' be c k n).toArray.toList).all inL=true
 rw [List.all_eq_true]
 intro x hx
 have hx':x∈nmL at' be c k n:=by simpa using hx
 unfold nmL at hx'
 obtain ⟨j,_,rfl⟩:=List.mem_map.mp hx'
 exact ZqR _
theorem Znc {i j:Int} (h:Zln i=Zln j):i.fmod 26=j.fmod 26:=by
 have h0:=Int.fmod_nonneg_of_pos i (show (0:Int)<26 by decide)
 have h1:=Int.fmod_nonneg_of_pos j (show (0:Int)<26 by decide)
 unfold Zln at h
 omega
theorem ZpB (a b:Int) (h:a.fmod 26=b.fmod 26):∃ q,a-b=26*q:=by
 have e1:=Int.mul_fdiv_add_fmod a 26
 have e2:=Int.mul_fdiv_add_fmod b 26
 refine ⟨a.fdiv 26-b.fdiv 26,?_⟩
 rw [Int.mul_sub]
 omega
theorem Zro {at' be c : Int} {k k' : Nat} {n n' : Nat} (hk : k<60) (hk' : k'<60) (ha : 0 ≤ at' ∧ at'<n ∧ at'<n') (hb : 0 ≤ be ∧ be<n ∧ be<n') (ne : at' ≠ be)
  (h:(⟨(nmL at' be c k n).toArray⟩:Str)=⟨(nmL at' be c k' n').toArray⟩):k=k':=by
 have e:nmL at' be c k n=nmL at' be c k' n':=by
  have:=congrArg (fun z:Str=>z.cps.toList) h
  simpa using this
 have at_:∀ j:Int,0≤j->j<n->j<n'->Zln (Zox at' be c k j)=Zln (Zox at' be c k' j):=fun j j0 j1 j2=>by
  obtain ⟨m,rfl⟩:∃ m:Nat,j=(m:Int):=⟨j.toNat,by omega⟩
  have g1:(nmL at' be c k n)[m]?=some (Zln (Zox at' be c k m)):=by
   unfold nmL
   rw [List.getElem?_map,List.getElem?_range (by omega)]
   rfl
  have g2:(nmL at' be c k' n')[m]?=some (Zln (Zox at' be c k' m)):=by
   unfold nmL
   rw [List.getElem?_map,List.getElem?_range (by omega)]
   rfl
  rw [e,g2] at g1
  exact (Option.some.inj g1).symm
 have a:=Znc (at_ at' ha.1 ha.2.1 ha.2.2)
 have b:=Znc (at_ be hb.1 hb.2.1 hb.2.2)
 unfold Zox at a b
 rw [if_neg ne,if_pos rfl,if_neg ne,if_pos rfl] at a
 rw [if_pos rfl,if_pos rfl] at b
 obtain ⟨q1,h1⟩:=ZpB _ _ a
 obtain ⟨q2,h2⟩:=ZpB _ _ b
 have d1:((k:Int)).fdiv 26=((k/26:Nat):Int):=by rw [Int.fdiv_eq_ediv_of_nonneg _ (by decide)]; rfl
 have d2:((k':Int)).fdiv 26=((k'/26:Nat):Int):=by rw [Int.fdiv_eq_ediv_of_nonneg _ (by decide)]; rfl
 rw [d1,d2] at h2
 have z1:k/26≤2:=by omega
 have z2:k'/26≤2:=by omega
 omega
theorem ZoL {ns:List Int} {k:Nat} (h:k<ns.length):(ns.map V.int)[k]?=some (V.int (ns.getD k 0)):=by
 simp [List.getD,List.getElem?_eq_getElem h,h]
theorem Zkr {α β:Type} {f:α->β}:∀ {l:List α},(∀ a∈l,∀ b∈l,f a=f b->a=b)->l.Nodup->(l.map f).Nodup
 | [],_,_=>List.nodup_nil
 | a :: l,h,n=>by
  rw [List.nodup_cons] at n
  rw [List.map_cons,List.nodup_cons]
  refine ⟨fun m=>?_,Zkr (fun x hx y hy=>h x (List.mem_cons_of_mem _ hx) y (List.mem_cons_of_mem _ hy)) n.2⟩
  obtain ⟨b,hb,e⟩:=List.mem_map.mp m
  have:=h b (List.mem_cons_of_mem _ hb) a (List.mem_cons_self ..) e
  rw [this] at hb
  exact n.1 hb
theorem Zmo (i:Int):atI Zhh.cps.toList (i.fmod 26)=some (Zln i):=by
 have h0:=Int.fmod_nonneg_of_pos i (show (0:Int)<26 by decide)
 have h1:=Int.fmod_lt_of_pos i (show (0:Int)<26 by decide)
 obtain ⟨m,hm,hl⟩:∃ m:Nat,i.fmod 26=(m:Int)∧m<26:=⟨(i.fmod 26).toNat,by omega,by omega⟩
 have e:Zln i=97+m:=by unfold Zln; rw [hm]; omega
 rw [e,hm]
 have go:∀ m:Fin 26,Zhh.cps.toList[m.val]?=some (97+m.val):=by decide +kernel
 exact Zc4 (go ⟨m,hl⟩)
theorem ZoJ (l:List Nat) (c:Nat):(⟨l.toArray⟩:Str)++⟨#[c]⟩=⟨(l++[c]).toArray⟩:=by
 show (⟨l.toArray++#[c]⟩:Str)=_
 rw [show l.toArray++#[c]=(l++[c]).toArray by simp]
theorem Zqz (l:List Nat):(⟨l.toArray⟩:Str).length=l.length:=by
 show l.toArray.size=_
 rw [List.size_toArray]
theorem Zkz {H H1:Hp} {a:Addr} {o:HO} (e:Same H H1) (n:H a=none):Same H (upd H1 a o):=fun b u q=>by
 rw [Zak (Zat q n)]
 exact e b u q
inductive BOk:List Ent->Prop
 | nil:BOk []
 | snoc {bs : List Ent} {n s f m : Str} {d : Int} (h : BOk bs) (hn : Nm n) (nw : ∀ e ∈ bs, e.bornName ≠ some n) (hs : s="he" ∨ s="she" ∨ s="")
   (lo:4*10 ^ 16*(bs.length:Int)-9*10 ^ 17≤d) (hi:d≤4*10 ^ 16*(bs.length:Int)-9*10 ^ 17+3*10 ^ 16+6)
   (hf:f=""∨∃ d' f' m',Ent.born f "he" d' f' m'∈bs) (hm:m=""∨∃ d' f' m',Ent.born m "she" d' f' m'∈bs):BOk (bs++[.born n s d f m])
theorem Zn6 (ns:List Int) (a b:Nat):∃ cs:List Int,Zi6 (ns.map V.int) (some (a:Int)) (some (b:Int))=cs.map V.int∧cs.length=min b ns.length-min a ns.length:=by
 refine ⟨(ns.drop (min a ns.length)).take (min b ns.length-min a ns.length),?_,?_⟩
 ·unfold Zi6
  rw [List.map_take,List.map_drop,List.length_map,HT.sIx_nat,HT.sIx_nat]
 ·rw [List.length_take,List.length_drop]
  omega
noncomputable def ZaS (bs:List (Ent × Addr)):List V:=bs.map fun p=>V.ref p.2
def RowsAt (K:W.Frag) (H:Hp) (bs:List (Ent × Addr)):Prop:=∀ p∈bs,SqT K H p.2 (p.1.row.map kV)
theorem RowsAt.mono {K:W.Frag} {H H':Hp} {bs:List (Ent × Addr)} (h:RowsAt K H bs) (s:Same H H'):RowsAt K H' bs:=fun p hp=>s.sqt (h p hp)
theorem RowsAt.put {K:W.Frag} {H:Hp} {bs:List (Ent × Addr)} {c:Addr} {xs:List V} {o':HO} (h:RowsAt K H bs) (e:H c=some (.lst xs)):RowsAt K (upd H c o') bs:=fun p hp=>ZcC (h p hp) e (fun _ z=>by cases z) (fun _ _ z=>by cases z)
theorem ZqC {cs:List Int} {i:Nat} {y:V} (h:(cs.map V.int)[i]?=some y):∃ z,y=.int z∧cs[i]?=some z:=by
 rw [List.getElem?_map] at h
 obtain ⟨z,hz,e⟩:=Option.map_eq_some_iff.mp h
 exact ⟨z,e.symm,hz⟩
theorem ZiK {d:Int} (h1:-10 ^ 18≤d) (h2:d≤10 ^ 18):ZoG (.int d)=true:=by
 show decide ((if d<0 then -d else d)≤10 ^ 18)=true
 exact decide_eq_true (by split <;> omega)
theorem Zj3 {x:Str} (h:x=""∨Nm x):Zfg (.str x)=true:=by
 rcases h with h | h
 ·subst h; decide +kernel
 ·unfold Zfg
  rw [h.ok]
  rfl
theorem Zqp {s:Str} (h:s="he"∨s="she"∨s=""):ZhX (.str s)=true:=by
 rcases h with h | h | h <;> subst h <;> decide +kernel
theorem Zf5 {x:Str} (h:Nm x):x.length≤100:=Nat.le_trans h.hi (by decide)
theorem ZqG {n s f m:Str} {d:Int} (hn:Nm n) (hs:s="he"∨s="she"∨s="") (d1:-10 ^ 18≤d) (d2:d≤10 ^ 18) (hf:f=""∨Nm f) (hm:m=""∨Nm m):(Ent.born n s d f m).Ok:=by
 refine ⟨?_,fun x hx=>?_⟩
 ·show Zc5 [.str "born",.str n,.str s,.int d,.str f,.str m]=true
  rw [Zcj,show Zew "born"=some [.name,.sort,.day,.parent,.parent] by rfl]
  show Zcr _ _=true
  unfold Zcr ZcT
  simp [ZcT,chk,hn.ok,Zqp hs,ZiK d1 d2,Zj3 hf,Zj3 hm]
 ·have hf':f.length≤100:=hf.elim (fun h=>by subst h; decide +kernel) Zf5
  have hm':m.length≤100:=hm.elim (fun h=>by subst h; decide +kernel) Zf5
  have hs':s.length≤100:=by rcases hs with h | h | h <;> subst h <;> decide +kernel
  simp only [Ent.row,List.mem_cons,List.not_mem_nil,or_false] at hx
  rcases hx with h | h | h | h | h | h
  ·cases h; decide +kernel
  ·cases h; exact Zf5 hn
  ·cases h; exact hs'
  ·cases h
  ·cases h; exact hf'
  ·cases h; exact hm'
theorem Zh4 {w a b:Str} {d:Int} (hw:w="taken"∨w="union"∨w="parted") (ha:Nm a) (hb:Nm b) (d1:-10 ^ 18≤d) (d2:d≤10 ^ 18):Zc5 [.str w,.str a,.str b,.int d]=true:=by
 rw [Zcj]
 have:Zew w=some [.name,.name,.day]:=by rcases hw with h | h | h <;> subst h <;> rfl
 rw [this]
 show Zcr _ _=true
 unfold Zcr
 simp [ZcT,chk,ha.ok,hb.ok,ZiK d1 d2]
theorem ZhQ {w a b:Str} {d:Int} (hw:w.length≤100) (ha:Nm a) (hb:Nm b):∀ x:Str,(.inr x:Key)∈([.inr w,.inr a,.inr b,.inl d]:List Key)->x.length≤100:=fun x hx=>by
 simp only [List.mem_cons,List.not_mem_nil,or_false] at hx
 rcases hx with h | h | h | h
 ·cases h; exact hw
 ·cases h; exact Zf5 ha
 ·cases h; exact Zf5 hb
 ·cases h
theorem ZhL {n s f m:Str} {d:Int}:∀ {l:List (Ent × Addr)},Ent.born n s d f m∈l.map (·.1)->(∀ {s' d' f' m'},Ent.born n s' d' f' m'∈l.map (·.1)->Ent.born n s' d' f' m'=.born n s d f m)->∃ a,ZaA n l=some (.born n s d f m,a)
 | [],h,_=>by cases h
 | p :: r,h,u=>by
  unfold ZaA
  by_cases e:p.1.bornName=some n
  ·rw [if_pos e]
   cases hp:p.1 with
   | born n' s' d' f' m' =>
    rw [hp] at e
    cases (show n'=n from Option.some.inj e)
    have:=u (s':=s') (d':=d') (f':=f') (m':=m') (by rw [List.map_cons,hp]; exact List.mem_cons_self ..)
    refine ⟨p.2,?_⟩
    rw [← this,← hp]
   | _=>rw [hp] at e; cases e
  ·rw [if_neg e]
   have h':Ent.born n s d f m∈r.map (·.1):=by
    rw [List.map_cons] at h
    rcases List.mem_cons.mp h with h | h
    ·exfalso
     rw [← h] at e
     exact e rfl
    ·exact h
   exact ZhL h' fun hm=>u (by rw [List.map_cons]; exact List.mem_cons_of_mem _ hm)
abbrev TiT:=Str × Str->List (Int × Str)
noncomputable def Ent.pr:Ent->Str × Str
 | .union a b _=>(a,b)
 | .parted a b _=>(a,b)
 | _=>("","")
noncomputable def Ent.kind:Ent->Str
 | .union ..=>"union"
 | .parted ..=>"parted"
 | _=>""
noncomputable def tl (c:Str × Str) (es:List Ent):List (Int × Str):=es.filterMap fun e=>if e.tie=true∧Zai e.pr.1 e.pr.2=c then some (e.day,e.kind) else none
theorem Zls {l:List (Int × Str)} {d:Int} {k:Str} (h:d ∉ l.map (·.1)):ZbQ l d k=l++[(d,k)]:=by
 unfold ZbQ
 rw [if_neg]
 intro z
 rw [List.any_eq_true] at z
 obtain ⟨q,hq,e⟩:=z
 exact h (List.mem_map.mpr ⟨q,hq,of_decide_eq_true e⟩)
theorem ZoV {G:TiT} {es:List Ent} {e:Ent} (hG:∀ c,G c=tl c es) (n:e.tie=true->e.day ∉ (tl (Zai e.pr.1 e.pr.2) es).map (·.1)) (c:Str × Str):ZoY G e c=tl c (es++[e]):=by
 have ap:tl c (es++[e])=tl c es++tl c [e]:=by unfold tl; rw [List.filterMap_append]
 rw [ap]
 cases e with
 | union a b d =>
  show (if c=Zai a b then ZbQ (G (Zai a b)) d "union" else G c)=_
  by_cases h:c=Zai a b
  ·subst h
   have n':d ∉ (tl (Zai a b) es).map (·.1):=n rfl
   rw [if_pos rfl,hG,Zls n']
   simp [tl,Ent.tie,Ent.pr,Ent.day,Ent.kind]
  ·rw [if_neg h,hG]
   simp [tl,Ent.tie,Ent.pr,Ne.symm h]
 | parted a b d =>
  show (if c=Zai a b then ZbQ (G (Zai a b)) d "parted" else G c)=_
  by_cases h:c=Zai a b
  ·subst h
   have n':d ∉ (tl (Zai a b) es).map (·.1):=n rfl
   rw [if_pos rfl,hG,Zls n']
   simp [tl,Ent.tie,Ent.pr,Ent.day,Ent.kind]
  ·rw [if_neg h,hG]
   simp [tl,Ent.tie,Ent.pr,Ne.symm h]
 | _=>rw [show ZoY G _ c=G c from rfl,hG]; simp [tl,Ent.tie]
def Zsx (es:List Ent):Prop:=∀ c,((tl c es).map (·.1)).Nodup
noncomputable def Ze4 (a b:Str) (last:Option Ent) (e:Ent):Option Ent:=if e.tie=true∧Zai e.pr.1 e.pr.2=Zai a b then (match last with | none=>some e | some l=>if l.day<e.day then some e else some l) else last
noncomputable def Zjz (ds:List Ent) (a b:Str):Bool:=match ds.foldl (Ze4 a b) none with
 | some e=>decide (e.kind="union")
 | none=>false
def ZhN (last:Option Ent) (l:List (Int × Str)):Prop:=match last with
 | none=>l=[]
 | some e=>(e.day,e.kind)∈l∧∀ q∈l,q.1≤e.day
theorem ZnY {a b:Str} {last:Option Ent} {xs:List Ent} {e:Ent} (h:ZhN last (tl (Zai a b) xs)):ZhN (Ze4 a b last e) (tl (Zai a b) (xs++[e])):=by
 have ap:tl (Zai a b) (xs++[e])=tl (Zai a b) xs++tl (Zai a b) [e]:=by unfold tl; rw [List.filterMap_append]
 rw [ap]
 unfold Ze4
 by_cases c:e.tie=true∧Zai e.pr.1 e.pr.2=Zai a b
 ·rw [if_pos c]
  have e1:tl (Zai a b) [e]=[(e.day,e.kind)]:=by unfold tl; simp [c.1,c.2]
  rw [e1]
  cases last with
  | none =>
   have h':tl (Zai a b) xs=[]:=h
   rw [h']
   exact ⟨List.mem_cons_self ..,fun q hq=>by rw [show q=(e.day,e.kind) by simpa using hq]; exact Int.le_refl _⟩
  | some l =>
   obtain ⟨h1,h2⟩:=(show (l.day,l.kind)∈tl (Zai a b) xs∧∀ q∈tl (Zai a b) xs,q.1≤l.day from h)
   by_cases lt:l.day<e.day
   ·show ZhN (if l.day<e.day then some e else some l) _
    rw [if_pos lt]
    refine ⟨by simp,fun q hq=>?_⟩
    rcases List.mem_append.mp hq with hq | hq
    ·have:=h2 q hq
     show q.1≤e.day
     omega
    ·rw [show q=(e.day,e.kind) by simpa using hq]
     exact Int.le_refl _
   ·show ZhN (if l.day<e.day then some e else some l) _
    rw [if_neg lt]
    refine ⟨List.mem_append.mpr (.inl h1),fun q hq=>?_⟩
    rcases List.mem_append.mp hq with hq | hq
    ·exact h2 q hq
    ·rw [show q=(e.day,e.kind) by simpa using hq]
     show e.day≤l.day
     omega
 ·rw [if_neg c]
  have e1:tl (Zai a b) [e]=[]:=by unfold tl; simp [c]
  rw [e1,List.append_nil]
  exact h
theorem Zlr {a b:Str}:∀ (ds xs:List Ent) (last:Option Ent),ZhN last (tl (Zai a b) xs)->ZhN (ds.foldl (Ze4 a b) last) (tl (Zai a b) (xs++ds))
 | [],xs,last,h=>by rw [List.append_nil]; exact h
 | e :: ds,xs,last,h=>by
  rw [List.foldl_cons,show xs++e :: ds=(xs++[e])++ds by simp]
  exact Zlr ds (xs++[e]) _ (ZnY h)
theorem ZoR {l:List (Int × Str)} {m:Int} {k:Str}:(l.map (·.1)).Nodup->(m,k)∈l->ZaK m l=some k:=by
 induction l with
 | nil=>intro _ h; cases h
 | cons q r ih =>
  intro n h
  rw [List.map_cons,List.nodup_cons] at n
  unfold ZaK
  rcases List.mem_cons.mp h with h | h
  ·rw [if_pos (by rw [← h]),← h]
  ·rw [if_neg (fun z=>n.1 (List.mem_map.mpr ⟨(m,k),h,z.symm⟩))]
   exact ih n.2 h
theorem ZmW {ds:List Ent} (o:Zsx ds) (a b:Str):Zjz ds a b=Zcn (tl (Zai a b) ds):=by
 have h:=Zlr (a:=a) (b:=b) ds [] none rfl
 rw [List.nil_append] at h
 unfold Zjz
 cases hl:ds.foldl (Ze4 a b) none with
 | none =>
  rw [hl] at h
  rw [show tl (Zai a b) ds=[] from h]
  rfl
 | some e =>
  rw [hl] at h
  obtain ⟨h1,h2⟩:=(show (e.day,e.kind)∈tl (Zai a b) ds∧∀ q∈tl (Zai a b) ds,q.1≤e.day from h)
  have:=Zg5 (l:=tl (Zai a b) ds) (m:=e.day) (x:=e.kind) (List.mem_map.mpr ⟨_,h1,rfl⟩) (fun y hy=>by
   obtain ⟨q,hq,rfl⟩:=List.mem_map.mp hy
   exact h2 q hq) (ZoR (o _) h1)
  rw [this]
theorem ZlT (e:Ent):e.told.tie=e.tie∧Zai e.told.pr.1 e.told.pr.2=Zai e.pr.1 e.pr.2∧e.told.day=e.day∧e.told.kind=e.kind:=by
 cases e with
 | union a b d=>exact ⟨rfl,ZcV a b,rfl,rfl⟩
 | parted a b d=>exact ⟨rfl,ZcV a b,rfl,rfl⟩
 | _=>exact ⟨rfl,rfl,rfl,rfl⟩
theorem ZqH (c:Str × Str) (ds:List Ent):tl c (ds.map Ent.told)=tl c ds:=by
 unfold tl
 rw [List.filterMap_map]
 congr 1
 funext e
 obtain ⟨h1,h2,h3,h4⟩:=ZlT e
 show (if e.told.tie=true∧Zai e.told.pr.1 e.told.pr.2=c then some (e.told.day,e.told.kind) else none)=_
 rw [h1,h2,h3,h4]
theorem ZpS (c:Str × Str) (es:List Ent):(tl c es).length≤es.length:=List.length_filterMap_le ..
theorem Zj2 {κ:Type} [DecidableEq κ] {k:κ}:∀ {l:List (κ × V)},(∀ p∈l,p.1≠k)->ZdS l k=none
 | [],_=>rfl
 | p :: l,h=>by
  rw [ZbD (h p (List.mem_cons_self ..))]
  exact Zj2 fun q hq=>h q (List.mem_cons_of_mem _ hq)
theorem Zpd {B:Bk} {es:List Ent} (hk:B.kept.map (·.1)=es) {k:List Key} (h:∀ e∈es,e.key≠k):ZdS B.keptD k=none:=by
 refine Zj2 fun p hp=>?_
 obtain ⟨q,hq,rfl⟩:=List.mem_map.mp hp
 exact h q.1 (by rw [← hk]; exact List.mem_map.mpr ⟨q,hq,rfl⟩)
theorem Zio {B:Bk} {es:List Ent} (hk:B.kept.map (·.1)=es):B.kept.length=es.length:=by rw [← hk,List.length_map]
noncomputable def kD:Key->D
 | .inl i=>.int i
 | .inr x=>.str x
theorem Zk5 {K:W.Frag} {H:Hp}:∀ ks:List Key,IsL K H (ks.map kD) (ks.map kV)
 | []=>rfl
 | .inl i :: ks=>⟨_,_,rfl,rfl,Zk5 ks⟩
 | .inr x :: ks=>⟨_,_,rfl,rfl,Zk5 ks⟩
theorem Zp7 (a b:Key):deq (kD a) (kD b)=decide (a=b):=by
 cases a with
 | inl i =>
  cases b with
  | inl j=>show (i == j)=_; rw [Bool.eq_iff_iff]; simp
  | inr y=>show false=_; rw [decide_eq_false (fun z=>by cases z)]
 | inr x =>
  cases b with
  | inl j=>show false=_; rw [decide_eq_false (fun z=>by cases z)]
  | inr y=>show (x == y)=_; rw [Bool.eq_iff_iff]; simp
theorem Zgo:∀ a b:List Key,Zfn (a.map kD) (b.map kD)=decide (a=b)
 | [],[]=>rfl
 | [],b :: bs=>by show false=_; rw [decide_eq_false (fun z=>by cases z)]
 | a :: as,[]=>by show false=_; rw [decide_eq_false (fun z=>by cases z)]
 | a :: as,b :: bs=>by
  show (deq (kD a) (kD b)&&Zfn (as.map kD) (bs.map kD))=_
  rw [Zp7,Zgo as bs,Bool.eq_iff_iff]
  simp
theorem Zgt:∀ a:List Key,ZfS (a.map kD)=0
 | []=>rfl
 | a :: as=>by
  show max (dep (kD a)) (ZfS (as.map kD))=0
  rw [Zgt as]
  cases a <;> rfl
theorem Zju {K:W.Frag} {H:Hp} {a:Addr} {ks:List Key} (h:SqT K H a (ks.map kV)):Is K H (.tup (ks.map kD)) (.ref a):=⟨a,_,rfl,h,Zk5 ks⟩
theorem ZlL (ks:List Key) (j:Nat) (h:j≤ks.length):Zi6 (ks.map kV) none (some (j:Int))=(ks.take j).map kV:=by
 unfold Zi6
 show ((ks.map kV).drop 0).take (HT.sIx (ks.map kV).length (ks.map kV).length (some (j:Int))-0)=_
 rw [HT.sIx_nat,List.drop_zero,Nat.sub_zero,List.length_map,Nat.min_eq_left h,List.map_take]
theorem Zlz (e:Ent):3≤e.row.length:=by cases e <;> exact Nat.le_of_ble_eq_true rfl
theorem ZiT {e:Ent} {g t:Str} (am d:Int) (h:¬ e.row.take 3=[.inr "given",.inr g,.inr t]):e.told.key≠(Ent.given g t am d).told.key:=by
 intro z
 cases e with
 | given g' t' a' d' =>
  have z':[(.inr "given" : Key),.inr g',.inr t',.inl d']=[.inr "given",.inr g,.inr t,.inl d]:=z
  injection z' with _ z1
  injection z1 with z2 z3
  injection z3 with z4 _
  exact h (by show [(.inr "given" : Key),.inr g',.inr t']=_; rw [Sum.inr.inj z2,Sum.inr.inj z4])
 | _=>injection z with z1; exact absurd (Sum.inr.inj z1) (by decide +kernel)
theorem Ze9 {e:Ent} {g t:Str} (h:e.row.take 3=[.inr "given",.inr g,.inr t]):∃ am d,e=.given g t am d:=by
 cases e with
 | given g' t' a' d' =>
  have h':[(.inr "given" : Key),.inr g',.inr t']=[.inr "given",.inr g,.inr t]:=h
  injection h' with _ z1
  injection z1 with z2 z3
  injection z3 with z4 _
  exact ⟨a',d',by rw [Sum.inr.inj z2,Sum.inr.inj z4]⟩
 | _=>injection h with z1; exact absurd (Sum.inr.inj z1) (by decide +kernel)
theorem ZeR {bs:List (Ent × Addr)} {i:Nat} {y:V} (h:(ZaS bs)[i]?=some y):∃ p,bs[i]?=some p∧y=.ref p.2:=by
 unfold ZaS at h
 rw [List.getElem?_map] at h
 obtain ⟨p,hp,e⟩:=Option.map_eq_some_iff.mp h
 exact ⟨p,hp,e.symm⟩
theorem ZaY (bs:List (Ent × Addr)):(ZaS bs).length=bs.length:=by unfold ZaS; rw [List.length_map]
theorem ZmQ {K:W.Frag} {H:Hp}:∀ zs:List Str,IsL K H (zs.map D.str) (zs.map V.str)
 | []=>rfl
 | z :: zs=>⟨_,_,rfl,rfl,ZmQ zs⟩
theorem Zij:∀ zs:List Str,ZfS (zs.map D.str)=0
 | []=>rfl
 | z :: zs=>by
  show max 0 (ZfS (zs.map D.str))=0
  rw [Zij zs]
  rfl
theorem Ziq:∀ a b:List Str,Zfn (a.map D.str) (b.map D.str)=decide (a=b)
 | [],[]=>rfl
 | [],b :: bs=>by show false=_; rw [decide_eq_false (fun z=>by cases z)]
 | a :: as,[]=>by show false=_; rw [decide_eq_false (fun z=>by cases z)]
 | a :: as,b :: bs=>by
  show ((a == b)&&Zfn (as.map D.str) (bs.map D.str))=_
  rw [Ziq as bs,Bool.eq_iff_iff]
  simp
theorem Zgq {K:W.Frag} {H:Hp} {a:Addr} {zs:List Str} (h:SqL K H a (zs.map V.str)):Is K H (.lst (zs.map D.str)) (.ref a):=⟨a,_,rfl,h,ZmQ zs⟩
noncomputable def Zsb:Option (Ent × Addr)->V
 | none=>.non
 | some p=>.ref p.2
theorem ZnM {β:Type} (f:β->Ent->β) (b:β) {ds:List (Ent × Addr)} {i:Nat} {p:Ent × Addr} (h:ds[i]?=some p):((ds.take (i+1)).map (·.1)).foldl f b=f (((ds.take i).map (·.1)).foldl f b) p.1:=by
 rw [List.take_succ,h,List.map_append,List.foldl_append]
 rfl
theorem ZoW {a b:Str} {last:Option Ent} {e:Ent} (h:¬ (e.tie=true∧Zai e.pr.1 e.pr.2=Zai a b)):Ze4 a b last e=last:=by unfold Ze4; rw [if_neg h]
theorem ZkV {a b:Str} {e:Ent} (h:e.tie=true∧Zai e.pr.1 e.pr.2=Zai a b):Ze4 a b none e=some e:=by unfold Ze4; rw [if_pos h]
theorem Zmw {a b:Str} {l e:Ent} (h:e.tie=true∧Zai e.pr.1 e.pr.2=Zai a b):Ze4 a b (some l) e=if l.day<e.day then some e else some l:=by unfold Ze4; rw [if_pos h]
theorem Zhg {e:Ent} (t:e.tie=true):∃ x y,e.row=[.inr e.kind,.inr x,.inr y,.inl e.day]∧e.pr=(x,y):=by
 cases e with
 | union a b d=>exact ⟨a,b,rfl,rfl⟩
 | parted a b d=>exact ⟨a,b,rfl,rfl⟩
 | _=>cases t
def Zsn (ds:List (Ent × Addr)) (last:Option (Ent × Addr)):Prop:=∀ p,last=some p->p∈ds∧p.1.tie=true
def ZpQ (K:W.Frag) (H:Hp) (B:Bk) (x:V):Prop:=(∃ ty,Kd K H x ty∧W.kitOne K ty (.type "str")=some false)∨∃ n,x=.str n∧ZaA n B.kept=none
theorem Zrc {xs:List V} {i:Int} (h0:0≤i) (h1:i<xs.length):∃ o∈xs,atI xs i=some o:=by
 have hi:i.toNat<xs.length:=by omega
 exact ⟨xs[i.toNat],List.getElem_mem _,Zsy h0 (List.getElem?_eq_getElem hi)⟩
theorem Zrv {xs:List V} (i:Int) {m:Nat} (h:xs.length=m) (m0:0<m):∃ o∈xs,atI xs (i.fmod (m:Int))=some o:=by
 have h0:=Int.fmod_nonneg_of_pos i (show (0:Int)<m by omega)
 have h1:=Int.fmod_lt_of_pos i (show (0:Int)<m by omega)
 exact Zrc h0 (by rw [h]; exact h1)
structure Keeps (K:W.Frag) (H H':Hp):Prop where
 lst:∀ a xs,H a=some (.lst xs)->H' a=some (.lst xs)
 sql:∀ a xs,SqL K H a xs->SqL K H' a xs
 sqt:∀ a xs,SqT K H a xs->SqT K H' a xs
 al:∀ a,H' a=none->H a=none
theorem Keeps.of {K:W.Frag} {H H':Hp} (s:Same H H'):Keeps K H H':=⟨fun _ _ e=>s _ _ e,fun _ _ h=>s.sql h,fun _ _ h=>s.sqt h,fun _ n=>Zbp s n⟩
theorem ZgR {K:W.Frag} {C:Addr} {H H':Hp} {b dx k bi li ti su y:Addr} {B:Bk} (h:BkAt K C H b dx k bi li ti su B) (bt:But [k,bi,li,ti,su,y] H H') (hy:H y=none∨∃ w,H y=some (.dK w)):Keeps K H H':=by
 have off:∀ {a:Addr} {o:HO},H a=some o->(∀ w,o≠.dK w)->(∀ w,o≠.dT w)->a ∉ [k,bi,li,ti,su,y]:=fun {a o} e n1 n2 m=>by
  simp only [List.mem_cons,List.not_mem_nil,or_false] at m
  rcases m with rfl | rfl | rfl | rfl | rfl | rfl
  ·rw [h.ke] at e; cases e; exact n2 _ rfl
  ·rw [h.bi] at e; cases e; exact n1 _ rfl
  ·rw [h.li] at e; cases e; exact n2 _ rfl
  ·rw [h.ti] at e; cases e; exact n2 _ rfl
  ·rw [h.su] at e; cases e; exact n2 _ rfl
  ·rcases hy with hy | ⟨w,hy⟩ <;> rw [hy] at e <;> cases e
   exact n1 _ rfl
 refine ⟨fun a xs e=>bt.eq _ _ (off e (fun _ z=>by cases z) (fun _ z=>by cases z)) e,fun a xs q=>?_,fun a xs q=>?_,bt.al⟩
 ·rcases q with (e | ⟨o,e⟩) | e
  ·exact .inl (.inl (bt.eq _ _ (off e (fun _ z=>by cases z) (fun _ z=>by cases z)) e))
  ·exact .inl (.inr ⟨o,bt.eq _ _ (off e (fun _ z=>by cases z) (fun _ z=>by cases z)) e⟩)
  ·exact .inr e
 ·rcases q with (e | ⟨o,e⟩) | e
  ·exact .inl (.inl (bt.eq _ _ (off e (fun _ z=>by cases z) (fun _ z=>by cases z)) e))
  ·exact .inl (.inr ⟨o,bt.eq _ _ (off e (fun _ z=>by cases z) (fun _ z=>by cases z)) e⟩)
  ·exact .inr e
theorem BkAt.off {K:W.Frag} {C:Addr} {H:Hp} {b dx k bi li ti su c:Addr} {B:Bk} {xs:List V} {o:HO} (h:BkAt K C H b dx k bi li ti su B) (e:H c=some (.lst xs)) (n:∀ q∈B.links,q.2.1≠c):BkAt K C (upd H c o) b dx k bi li ti su B:=by
 have off:∀ {a:Addr} {o':HO},H a=some o'->(∀ ys,o'≠.lst ys)->upd H c o a=some o':=fun {a o'} ea no=>(Zak (fun z=>by subst z; rw [e] at ea; cases ea; exact no _ rfl)).trans ea
 exact ⟨off h.ob (fun _ z=>by cases z),h.ap,h.at',off h.ke (fun _ z=>by cases z),off h.bi (fun _ z=>by cases z),off h.li (fun _ z=>by cases z),off h.ti (fun _ z=>by cases z),off h.su (fun _ z=>by cases z),
  fun p hp=>ZcC (h.en p hp) e (fun _ z=>by cases z) (fun _ _ z=>by cases z),fun q hq=>(Zak (n q hq)).trans (h.ll q hq),fun q hq=>off (h.tt q hq) (fun _ z=>by cases z)⟩
theorem ZjS {ds:List (Ent × Addr)} {i:Nat} {p:Ent × Addr} (h:ds[i]?=some p):ds.take (i+1)=ds.take i++[p]:=by
 rw [List.take_succ,h]
 rfl
theorem ZlD {H:Hp} {ls ls':List ((Str × Str) × Addr × List Str)} {c:Addr} (g:Grows H ls ls') (h:∀ q∈ls,q.2.1≠c) (hc:H c≠none):∀ q∈ls',q.2.1≠c:=fun q hq z=>by
 rcases g q hq with ⟨p,hp,e⟩ | e
 ·exact h p hp (e.trans z)
 ·rw [z] at e; exact hc e
theorem Zi1 {bs:List (Ent × Addr)} {i:Nat} {p:Ent × Addr} (h:bs[i]?=some p):(bs.take (i+1)).map (·.1)=(bs.take i).map (·.1)++[p.1]:=by
 rw [ZjS h,List.map_append]
 rfl
def ZsC (r:List Key):Prop:=∃ e:Ent,r=e.row
theorem Ze7:∀ r q,ZsC r->ZsC q->SA.Comp r q:=by
 rintro r q ⟨e,rfl⟩ ⟨f,rfl⟩
 cases e <;> cases f <;> simp [Ent.row,SA.Comp,SA.sameT] <;> (intro h; exact absurd h (by decide +kernel))
theorem Zfi (e:Ent):∃ z t,e.row=.inr z :: t:=by cases e <;> exact ⟨_,_,rfl⟩
noncomputable def ZdD (n:Str):List (Ent × Addr)->Option (Int × Addr)
 | []=>none
 | p :: r=>match p.1 with
  | .dead n' d=>if n'=n then some (d,p.2) else ZdD n r
  | _=>ZdD n r
theorem ZlA (n:Str):∀ l:List (Ent × Addr),ZdS (l.map fun p=>(p.1.key,V.ref p.2)) ([.inr "dead",.inr n]:List Key)=(ZdD n l).map fun q=>.ref q.2
 | []=>rfl
 | (e,a) :: r=>by
  have ih:=ZlA n r
  rw [List.map_cons]
  cases e with
  | dead n' d =>
   unfold ZdD
   dsimp only
   by_cases h:n'=n
   ·subst h
    rw [ZcF (show ((Ent.dead n' d).key,V.ref a).1=([.inr "dead",.inr n']:List Key) from rfl),if_pos rfl]
    rfl
   ·rw [ZbD (fun z=>h (by simpa [Ent.key] using z)),if_neg h]
    exact ih
  | born=>rw [ZbD (fun z=>absurd (List.cons.inj z).1 (by decide +kernel))]; exact ih
  | taken=>rw [ZbD (fun z=>absurd (List.cons.inj z).1 (by decide +kernel))]; exact ih
  | union=>rw [ZbD (fun z=>absurd (List.cons.inj z).1 (by decide +kernel))]; exact ih
  | parted=>rw [ZbD (fun z=>absurd (List.cons.inj z).1 (by decide +kernel))]; exact ih
  | given=>rw [ZbD (fun z=>absurd (List.cons.inj z).1 (by decide +kernel))]; exact ih
theorem Zdc {n:Str} {d:Int} {a:Addr}:∀ {l:List (Ent × Addr)},ZdD n l=some (d,a)->(Ent.dead n d,a)∈l
 | [],h=>by cases h
 | (e,b) :: r,h=>by
  cases e with
  | dead n' d' =>
   unfold ZdD at h
   dsimp only at h
   by_cases e:n'=n
   ·rw [if_pos e] at h
    cases h
    subst e
    exact List.mem_cons_self ..
   ·rw [if_neg e] at h
    exact List.mem_cons_of_mem _ (Zdc h)
  | _=>exact List.mem_cons_of_mem _ (Zdc h)
theorem ZeE {n:Str}:∀ {l:List (Ent × Addr)},ZdD n l=none->∀ p∈l,∀ d,p.1≠Ent.dead n d
 | [],_,p,hp,_=>by cases hp
 | (e,b) :: r,h,p,hp,d=>by
  cases e with
  | dead n' d' =>
   unfold ZdD at h
   dsimp only at h
   by_cases e:n'=n
   ·rw [if_pos e] at h; cases h
   ·rw [if_neg e] at h
    rcases List.mem_cons.mp hp with rfl | hp
    ·intro z; cases z; exact e rfl
    ·exact ZeE h p hp d
  | _ =>
   rcases List.mem_cons.mp hp with rfl | hp
   ·intro z; cases z
   ·exact ZeE (l:=r) h p hp d
noncomputable def ZjN (B:Bk) (n:Str):V:=match ZdD n B.kept with
 | none=>.non
 | some q=>.int q.1
theorem ZqS {n:Str} {d:Int} (hn:Nm n) (d1:-10 ^ 18≤d) (d2:d≤10 ^ 18):(Ent.dead n d).Ok:=by
 refine ⟨?_,fun y hy=>?_⟩
 ·show Zc5 [.str "dead",.str n,.int d]=true
  rw [Zcj,show Zew "dead"=some [.name,.day] by rfl]
  show Zcr _ _=true
  unfold Zcr
  simp [ZcT,chk,hn.ok,ZiK d1 d2]
 ·simp only [Ent.row,List.mem_cons,List.not_mem_nil,or_false] at hy
  rcases hy with h | h | h
  ·cases h; decide +kernel
  ·cases h; exact Zf5 hn
  ·cases h
theorem Zkg:∀ {l m:List (List Key)},l.Perm m->(l.Pairwise fun x y=>SA.rLt y x=false)->(m.Pairwise fun x y=>SA.rLt y x=false)->l=m
 | [],m,p,_,_=>p.nil_eq
 | x :: l,[],p,_,_=>absurd p.length_eq (by simp)
 | x :: l,y :: m,p,h1,h2=>by
  have e:x=y:=by
   by_cases e:x=y
   ·exact e
   have hx:x∈m:=by
    have:x∈y :: m:=p.subset (List.mem_cons_self ..)
    rcases List.mem_cons.mp this with h | h
    ·exact absurd h e
    ·exact h
   have hy:y∈l:=by
    have:y∈x :: l:=p.symm.subset (List.mem_cons_self ..)
    rcases List.mem_cons.mp this with h | h
    ·exact absurd h.symm e
    ·exact h
   exact SA.rLt_total _ _ (List.rel_of_pairwise_cons h2 hx) (List.rel_of_pairwise_cons h1 hy)
  subst e
  rw [Zkg p.cons_inv (List.pairwise_cons.mp h1).2 (List.pairwise_cons.mp h2).2]
noncomputable def ZpF (r:List Key):D:=.tup (r.map kD)
theorem Znj {K:W.Frag} {H:Hp}:∀ {ps:List (Ent × Addr)},RowsAt K H ps->IsL K H ((ps.map fun p=>p.1.row).map ZpF) (ZaS ps)
 | [],_=>rfl
 | p :: r,h=>⟨_,_,rfl,Zju (h p (List.mem_cons_self ..)),Znj fun q hq=>h q (List.mem_cons_of_mem _ hq)⟩
theorem Zik:∀ rs:List (List Key),ZfS (rs.map ZpF)≤1
 | []=>Nat.zero_le _
 | r :: rs=>by
  show max (ZfS (r.map kD)+1) (ZfS (rs.map ZpF))≤1
  rw [Zgt]
  have:=Zik rs
  omega
theorem Zil:∀ rs:List (List Key),Zfn (rs.map ZpF) (rs.map ZpF)=true
 | []=>rfl
 | r :: rs=>by
  show (Zfn (r.map kD) (r.map kD)&&Zfn (rs.map ZpF) (rs.map ZpF))=true
  rw [Zgo,decide_eq_true rfl,Zil rs]
  rfl
theorem ZmI {K:W.Frag} {H:Hp} {B:Bk} {x:V} {P:Prop} {R:Str->Ent × Addr->Prop} (h:ZpQ K H B x) (e:P):(∃ ty,Kd K H x ty∧W.kitOne K ty (.type "str")=some false∧P)∨∃ n,x=.str n∧(ZaA n B.kept=none->P)∧∀ p,ZaA n B.kept=some p->R n p:=by
 rcases h with ⟨ty,a,b⟩ | ⟨n,rfl,hn⟩
 ·exact .inl ⟨ty,a,b,e⟩
 ·exact .inr ⟨n,rfl,fun _=>e,fun p hp=>absurd (hn.symm.trans hp) (by simp)⟩
theorem Zgl {K:W.Frag} {H:Hp} {a:Addr} {ps:List (Ent × Addr)} (h:SqL K H a (ZaS ps)) (r:RowsAt K H ps):Is K H (.lst ((ps.map fun p=>p.1.row).map ZpF)) (.ref a):=⟨a,_,rfl,h,Znj r⟩
theorem BkAt.but0 {K:W.Frag} {C:Addr} {H H':Hp} {b dx k bi li ti su:Addr} {S:List Addr} (h:BkAt K C H b dx k bi li ti su bk0) (bt:But S H H') (n:∀ a∈[b,k,bi,li,ti,su],a ∉ S):BkAt K C H' b dx k bi li ti su bk0 :=
 ⟨bt.eq _ _ (n _ (by simp)) h.ob,h.ap,h.at',bt.eq _ _ (n _ (by simp)) h.ke,bt.eq _ _ (n _ (by simp)) h.bi,bt.eq _ _ (n _ (by simp)) h.li,bt.eq _ _ (n _ (by simp)) h.ti,bt.eq _ _ (n _ (by simp)) h.su,fun p hp=>(by cases hp),fun q hq=>(by cases hq),fun q hq=>(by cases hq)⟩
theorem ZpE {g t:Str} {am d:Int} (hg:Nm g) (ht:Nm t) (a1:1≤am) (a2:am≤10 ^ 18) (d1:-10 ^ 18≤d) (d2:d≤10 ^ 18):(Ent.given g t am d).Ok:=by
 refine ⟨?_,fun y hy=>?_⟩
 ·show Zc5 [.str "given",.str g,.str t,.int am,.int d]=true
  rw [Zcj,show Zew "given"=some [.name,.name,.amount,.day] by rfl]
  show Zcr _ _=true
  unfold Zcr
  have am':Zgs (.int am)=true:=by
   show (decide (1≤am)&&decide (am≤10 ^ 18))=true
   rw [decide_eq_true a1,decide_eq_true a2]
   rfl
  simp [ZcT,chk,hg.ok,ht.ok,am',ZiK d1 d2]
 ·simp only [Ent.row,List.mem_cons,List.not_mem_nil,or_false] at hy
  rcases hy with h | h | h | h | h
  ·cases h; decide +kernel
  ·cases h; exact Zf5 hg
  ·cases h; exact Zf5 ht
  ·cases h
  ·cases h
structure Acc (xs:List Ent) (e:Ent):Prop where
 ok:e.Ok
 told:e.told=e
 nt:e.isTaken=false
 np:∀ n s d f m,e=.born n s d f m->f=""∧m=""
 bl:e.isBorn=true->xs.length≤50
 kn:e.isBorn=false->∀ n∈e.named,∃ s d f m,Ent.born n s d f m∈xs∧d≤e.day
 key:∀ x∈xs,x.key≠e.key
 ne:e.same=false
theorem Acc.bare {xs:List Ent} {e:Ent} (h:Acc xs e):e.bare=true:=by
 have t:=h.nt
 have p:=h.np
 cases e with
 | born n s d f m =>
  obtain ⟨rfl,rfl⟩:=p n s d f m rfl
  rfl
 | taken=>cases t
 | _=>rfl
inductive Gd:List Ent->Prop
 | nil:Gd []
 | snoc {xs:List Ent} {e:Ent} (h:Gd xs) (l:xs.length≤70) (t:(xs.filter Ent.tie).length≤60) (a:Acc xs e):Gd (xs++[e])
theorem Gd.last {l:List Ent} (h:Gd l) {xs:List Ent} {e:Ent} (el:l=xs++[e]):Gd xs∧xs.length≤70∧(xs.filter Ent.tie).length≤60∧Acc xs e:=by
 cases h with
 | nil=>simp at el
 | snoc h l t a =>
  obtain ⟨e1,e2⟩:=List.append_inj' el rfl
  have e3:=List.cons.inj e2
  obtain ⟨e3,_⟩:=e3
  subst e1 e3
  exact ⟨h,l,t,a⟩
theorem Gd.take {l:List Ent} (h:Gd l):∀ i,Gd (l.take i):=by
 induction h with
 | nil=>intro i; rw [List.take_nil]; exact .nil
 | @snoc xs e h l t a ih =>
  intro i
  by_cases il:i≤xs.length
  ·rw [List.take_append_of_le_length il]
   exact ih i
  ·rw [List.take_of_length_le (by rw [List.length_append]; show _+1≤_; omega)]
   exact .snoc h l t a
theorem ZeJ {l:List Ent} (d:Int) (h:Gd l):Gd (l.filter fun e=>decide (e.day≤d)):=by
 induction h with
 | nil=>exact .nil
 | @snoc xs e h l t a ih =>
  rw [List.filter_append]
  by_cases hd:e.day≤d
  ·have e1:[e].filter (fun e=>decide (e.day≤d))=[e]:=by simp [hd]
   rw [e1]
   refine .snoc ih (Nat.le_trans (List.length_filter_le ..) l) (Nat.le_trans ?_ t) ⟨a.ok,a.told,a.nt,a.np,fun z=>Nat.le_trans (List.length_filter_le ..) (a.bl z),fun z n hn=>?_,fun x hx=>a.key x (List.mem_filter.mp hx).1,a.ne⟩
   ·have e2:(xs.filter fun e=>decide (e.day≤d)).filter Ent.tie=(xs.filter Ent.tie).filter fun e=>decide (e.day≤d):=by
     rw [List.filter_filter,List.filter_filter]
     exact congrArg (fun z=>xs.filter z) (funext fun x=>Bool.and_comm ..)
    rw [e2]
    exact List.length_filter_le ..
   ·obtain ⟨s,d',f,m,h1,h2⟩:=a.kn z n hn
    exact ⟨s,d',f,m,List.mem_filter.mpr ⟨h1,decide_eq_true (show d'≤d by omega)⟩,h2⟩
  ·have e1:[e].filter (fun e=>decide (e.day≤d))=[]:=by simp [hd]
   rw [e1,List.append_nil]
   exact ih
theorem Gd.told {l:List Ent} (h:Gd l):∀ x∈l,x.told=x:=by
 induction h with
 | nil=>intro x hx; cases hx
 | snoc h l t a ih =>
  intro x hx
  rcases List.mem_append.mp hx with hx | hx
  ·exact ih x hx
  ·rw [List.mem_singleton.mp hx]; exact a.told
theorem Gd.names {l:List Ent} (h:Gd l):∀ {n s d f m s' d' f' m'},Ent.born n s d f m∈l->Ent.born n s' d' f' m'∈l->Ent.born n s d f m=.born n s' d' f' m':=by
 induction h with
 | nil=>intro _ _ _ _ _ _ _ _ _ h; cases h
 | @snoc xs e h l t a ih =>
  intro n s d f m s' d' f' m' h1 h2
  rcases List.mem_append.mp h1 with h1 | h1 <;> rcases List.mem_append.mp h2 with h2 | h2
  ·exact ih h1 h2
  ·have:=List.mem_singleton.mp h2
   exact absurd (show Ent.key (.born n s d f m)=e.key by rw [← this]; rfl) (a.key _ h1)
  ·have:=List.mem_singleton.mp h1
   exact absurd (show Ent.key (.born n s' d' f' m')=e.key by rw [← this]; rfl) (a.key _ h2)
  ·rw [List.mem_singleton.mp h1,List.mem_singleton.mp h2]
noncomputable def amt (c:Str × Str):Ent->Int
 | .given g t am _=>if c=(g,t) then am else 0
 | _=>0
noncomputable def ZfH (c:Str × Str) (es:List Ent):Int:=(es.map (amt c)).sum
theorem ZnX (c:Str × Str) (es:List Ent) (e:Ent):ZfH c (es++[e])=ZfH c es+amt c e:=by
 unfold ZfH
 rw [List.map_append,List.sum_append]
 simp
structure SB (B:Bk) (es:List Ent):Prop where
 kept:B.kept.map (·.1)=es
 lks:∀ c,(lk B.links c).length≤(es.filter Ent.tie).length
 tis:∀ c,ZiJ B.ties c=tl c es
 sus:∀ c,Zit B.sums c=ZfH c es
 nd:(B.ties.map (·.1)).Nodup
 nl:B.links.length≤4*es.length
 nt:B.ties.length≤es.length
 ns:B.sums.length≤es.length
theorem SB.start:SB bk0 []:=⟨rfl,fun _=>Nat.le_refl _,fun _=>rfl,fun _=>rfl,List.nodup_nil,Nat.le_refl _,Nat.le_refl _,Nat.le_refl _⟩
theorem ZlP {F:Str × Str->List Str} {st:Bool} {a b:Str} (ne:a≠b) (c:Str × Str):(ZbT (ZbT F st a b) st b a c).length≤(F c).length+1:=by
 by_cases e:c=(("S",b):Str × Str)
 ·refine Nat.le_trans (Zhs ..) ?_
  have:ZbT F st a b c=F c:=by
   unfold ZbT
   rw [if_neg]
   intro z
   rw [e] at z
   injection z with _ z2
   exact ne z2.symm
  rw [this]
  exact Nat.le_refl _
 ·have:ZbT (ZbT F st a b) st b a c=ZbT F st a b c:=by
   show (if c=(("S",b):Str × Str) then _ else ZbT F st a b c)=_
   rw [if_neg e]
  rw [this]
  exact Zhs ..
theorem Zm2 {x:Ent} (h:x.tie=true):x.key=[.inr "tie",.inr x.pr.1,.inr x.pr.2,.inl x.day]:=by
 cases x <;> first | rfl | cases h
theorem ZmU {x:Ent} (t:x.told=x) (h:x.tie=true):Zai x.pr.1 x.pr.2=x.pr:=by
 cases x with
 | union a b d =>
  have:Ent.union (Zai a b).1 (Zai a b).2 d=.union a b d:=t
  injection this with e1 e2
  show Zai a b=(a,b)
  exact Prod.ext e1 e2
 | parted a b d =>
  have:Ent.parted (Zai a b).1 (Zai a b).2 d=.parted a b d:=t
  injection this with e1 e2
  show Zai a b=(a,b)
  exact Prod.ext e1 e2
 | _=>cases h
theorem Zpy {es:List Ent} {e:Ent} (g:Gd es) (a:Acc es e) (t:e.tie=true):e.day ∉ (tl (Zai e.pr.1 e.pr.2) es).map (·.1):=fun hm=>by
 obtain ⟨r,hr,er⟩:=List.mem_map.mp hm
 unfold tl at hr
 obtain ⟨x,hx,ex⟩:=List.mem_filterMap.mp hr
 by_cases c:x.tie=true∧Zai x.pr.1 x.pr.2=Zai e.pr.1 e.pr.2
 ·rw [if_pos c] at ex
  cases ex
  have e1:x.pr=e.pr:=by rw [← ZmU (g.told x hx) c.1,← ZmU a.told t]; exact c.2
  exact a.key x hx (by rw [Zm2 c.1,Zm2 t,e1,show x.day=e.day from er])
 ·rw [if_neg c] at ex
  cases ex
theorem Zmu (es:List Ent) (e:Ent):((es++[e]).filter Ent.tie).length=(es.filter Ent.tie).length+(if e.tie=true then 1 else 0):=by
 rw [List.filter_append,List.length_append]
 by_cases h:e.tie=true
 ·rw [if_pos h]; simp [h]
 ·rw [if_neg h]; simp [h]
theorem SB.put {B B':Bk} {es:List Ent} {e:Ent} (h:SB B es) (g:Gd es) (p:Put B e B') (a:Acc es e.told):SB B' (es++[e.told]):=by
 obtain ⟨ad,hk⟩:=p.kept
 have hk':B'.kept.map (·.1)=es++[e.told]:=by rw [hk,List.map_append,h.kept]; rfl
 have lks:=p.lks
 have tis:=p.tis
 have sus:=p.su
 have tf:=Zmu es e.told
 have l1:(es++[e.told]).length=es.length+1:=by rw [List.length_append]; rfl
 have n1:=p.nl
 have n2:=p.nt
 have n3:=p.ns
 have m1:=h.nl
 have m2:=h.nt
 have m3:=h.ns
 refine ⟨hk',fun c=>?_,fun c=>?_,fun c=>?_,p.nd,by omega,by omega,by omega⟩
 ·rw [lks c,tf]
  have hc:=h.lks c
  have ha:=a
  generalize e.told=e' at *
  cases e' with
  | born n s d f m =>
   obtain ⟨rfl,rfl⟩:=ha.np n s d f m rfl
   show (Zkk (lk B.links) n "" "" c).length≤_
   unfold Zkk
   simp only [if_true]
   exact Nat.le_trans hc (Nat.le_add_right _ _)
  | taken=>cases ha.nt
  | union x y d =>
   have ne:x≠y:=fun z=>by have:=ha.ne; rw [show Ent.same (.union x y d)=decide (x=y) from rfl,decide_eq_true z] at this; cases this
   exact Nat.le_trans (ZlP ne c) (Nat.succ_le_succ hc)
  | parted x y d =>
   have ne:x≠y:=fun z=>by have:=ha.ne; rw [show Ent.same (.parted x y d)=decide (x=y) from rfl,decide_eq_true z] at this; cases this
   exact Nat.le_trans (ZlP ne c) (Nat.succ_le_succ hc)
  | dead n d=>exact Nat.le_trans hc (Nat.le_add_right _ _)
  | given x y am d=>exact Nat.le_trans hc (Nat.le_add_right _ _)
 ·exact (tis c).trans (ZoV h.tis (fun t=>Zpy g a t) c)
 ·rw [sus c,ZnX]
  generalize e.told=e' at *
  cases e' with
  | given x y am d =>
   show (if c=(x,y) then Zit B.sums c+am else Zit B.sums c)=ZfH c es+(if c=(x,y) then am else 0)
   rw [h.sus]
   split <;> simp
  | _=>rw [show ZoA (Zit B.sums) _ c=Zit B.sums c from rfl,h.sus]; exact (Int.add_zero _).symm
theorem SB.birth {B:Bk} {es:List Ent} (h:SB B es) (g:Gd es) {n s f m:Str} {d:Int} (hm:Ent.born n s d f m∈es):∃ a,ZaA n B.kept=some (.born n s d f m,a) :=
 ZhL (by rw [h.kept]; exact hm) fun hm'=>by
  rw [h.kept] at hm'
  exact g.names hm' hm
theorem SB.room {B:Bk} {es:List Ent} (h:SB B es) (l:es.length≤70) (t:(es.filter Ent.tie).length≤60):Room1 B:=by
 have m1:=h.nl
 have m2:=h.nt
 have m3:=h.ns
 refine ⟨h.nd,by omega,by omega,by omega,fun c=>Nat.le_trans (h.lks c) t,fun c=>?_⟩
 rw [h.tis]
 exact Nat.le_trans (ZpS c es) (by omega)
theorem ZgT {B:Bk} {es:List Ent} {e:Ent} (h:SB B es) (g:Gd es) (l:es.length≤70) (a:Acc es e):Zjd B e=none:=by
 have kl:=Zio h.kept
 have bl:=ZjL B.kept
 have kn:e.isBorn=false->∀ n∈e.named,Known B n∧ZfQ B n≤e.day:=fun z n hn=>by
  obtain ⟨s,d,f,m,h1,h2⟩:=a.kn z n hn
  obtain ⟨ad,ha⟩:=h.birth g h1
  exact ⟨by unfold Known; rw [ha]; simp,by rw [Ziu ha rfl]; exact h2⟩
 refine ZnU ?_ (fun n hn=>?_) ?_ ?_
 ·unfold Bk.full
  rw [decide_eq_false (show ¬ 400≤B.kept.length by omega)]
  cases hi:e.isBorn with
  | false=>rfl
  | true =>
   have:=a.bl hi
   rw [decide_eq_false (show ¬ 60≤(Bk.bornD B.kept).length by omega)]
   rfl
 ·cases hi:e.isBorn with
  | false=>exact (kn hi n hn).1
  | true =>
   cases e with
   | born n' s d f m =>
    obtain ⟨rfl,rfl⟩:=a.np n' s d f m rfl
    simp [Ent.named] at hn
   | _=>cases hi
 ·rw [a.told,Zpd h.kept a.key]
  rfl
 ·cases hi:e.isBorn with
  | false =>
   rw [Zj4 hi,a.ne]
   have he:e.early B=false:=by
    have:=a.nt
    cases e <;> first | rfl | cases this
   rw [he]
   show (e.named.all fun n=>decide (ZfQ B n≤e.day))=true
   rw [List.all_eq_true]
   exact fun n hn=>decide_eq_true (kn hi n hn).2
  | true =>
   cases e with
   | born n' s d f m =>
    obtain ⟨rfl,rfl⟩:=a.np n' s d f m rfl
    simp [ZdF,ZrT]
   | _=>cases hi
theorem Zph {K:W.Frag} {H:Hp} {a c:Addr} {xs:List V} {o:Obj} {w:List (List Key × V)} {o':HO} (h:SqT K H a xs) (e:H c=some (.frz o (.dT w))):SqT K (upd H c o') a xs:=by
 rcases h with (h | ⟨x,h⟩) | h
 ·exact .inl (.inl ((Zak (ZaP h e (fun z=>by cases z))).trans h))
 ·exact .inl (.inr ⟨x,(Zak (ZaP h e (fun z=>by cases z))).trans h⟩)
 ·exact .inr h
theorem BkAt.thaw {K:W.Frag} {C:Addr} {H:Hp} {b dx k bi li ti su c:Addr} {B:Bk} {ob:Obj} {w:List (List Key × V)} {o:HO} (h:BkAt K C H b dx k bi li ti su B) (e:H c=some (.frz ob (.dT w))):BkAt K C (upd H c o) b dx k bi li ti su B:=by
 have off:∀ {a:Addr} {o':HO},H a=some o'->(∀ x y,o'≠.frz x y)->upd H c o a=some o':=fun {a o'} ea no=>(Zak (fun z=>by subst z; rw [e] at ea; cases ea; exact no _ _ rfl)).trans ea
 exact ⟨off h.ob (fun _ _ z=>by cases z),h.ap,h.at',off h.ke (fun _ _ z=>by cases z),off h.bi (fun _ _ z=>by cases z),off h.li (fun _ _ z=>by cases z),off h.ti (fun _ _ z=>by cases z),off h.su (fun _ _ z=>by cases z),
  fun p hp=>Zph (h.en p hp) e,fun q hq=>off (h.ll q hq) (fun _ _ z=>by cases z),fun q hq=>off (h.tt q hq) (fun _ _ z=>by cases z)⟩
theorem Zpk {B:Bk} {e:Ent} (h:Zjd B e=none):B.kept.length<400∧(e.isBorn=true->(Bk.bornD B.kept).length<60)∧(∀ n∈e.named,Known B n)∧ZdS B.keptD e.told.key=none∧ZdF B e=true:=by
 obtain ⟨h1,h2,h3⟩:=Zjs h
 unfold Zjd at h
 by_cases f:B.full e=true
 ·rw [if_pos f] at h; cases h
 ·rw [if_neg f,if_neg (by rw [Zj6 h3]; decide),if_neg (by rw [h1]; decide)] at h
  refine ⟨h2,fun b=>?_,h3,h1,?_⟩
  ·unfold Bk.full at f
   rw [b,Bool.true_and,Bool.or_eq_true,not_or] at f
   have:=f.2
   rw [decide_eq_true_eq] at this
   omega
  ·cases hf:ZdF B e with
   | true=>rfl
   | false=>rw [hf,if_neg (by decide)] at h; cases h
noncomputable def Ent.two:Ent->Bool
 | .union ..=>true
 | .parted ..=>true
 | .given ..=>true
 | _=>false
def D7 (nms:List Str) (e:Ent):Prop:=∃ a b d,a∈nms∧b∈nms∧a≠b∧-9*10 ^ 17≤d∧d≤9*10 ^ 17∧(e=.union a b d∨e=.parted a b d∨∃ am,1≤am∧am≤10 ^ 18∧e=.given a b am d)
theorem D7.two {nms:List Str} {e:Ent} (h:D7 nms e):e.two=true:=by
 obtain ⟨a,b,d,_,_,_,_,_,rfl | rfl | ⟨am,_,_,rfl⟩⟩:=h <;> rfl
def B7 (nms:List Str) (bs:List Ent):Prop:=∀ (i:Nat) (e:Ent),bs[i]?=some e->∃ n s d,nms[i]?=some n∧e=.born n s d "" ""∧(s="he"∨s="she"∨s="")∧(i:Int)*10 ^ 16-10 ^ 18≤d∧d<(i:Int)*10 ^ 16+10 ^ 16-10 ^ 18
theorem Zpi (x:Int):∃ s:Str,atI [V.str "",.str "he",.str "she"] (x.fmod 3)=some (.str s)∧(s="he"∨s="she"∨s=""):=by
 have h0:=Int.fmod_nonneg_of_pos x (show (0:Int)<3 by decide)
 have h1:=Int.fmod_lt_of_pos x (show (0:Int)<3 by decide)
 have:x.fmod 3=0∨x.fmod 3=1∨x.fmod 3=2:=by omega
 rcases this with e | e | e <;> rw [e]
 ·exact ⟨"",Zc4 (j:=0) rfl,.inr (.inr rfl)⟩
 ·exact ⟨"he",Zc4 (j:=1) rfl,.inl rfl⟩
 ·exact ⟨"she",Zc4 (j:=2) rfl,.inr (.inl rfl)⟩
theorem ZpZ {nms:List Str} {z:Int} (h0:0≤z) (h1:z<(nms.length:Int)):∃ n,nms[z.toNat]?=some n∧atI (nms.map V.str) z=some (.str n):=by
 have hi:z.toNat<nms.length:=by omega
 refine ⟨nms[z.toNat],List.getElem?_eq_getElem hi,Zsy h0 ?_⟩
 rw [List.getElem?_map,List.getElem?_eq_getElem hi]
 rfl
theorem Zpf {x z n:Int} (x0:0≤x) (x1:x<n) (z0:0≤z) (z1:z<n-1):0≤(x+1+z).fmod n∧(x+1+z).fmod n<n∧(x+1+z).fmod n≠x:=by
 have n0:0<n:=by omega
 have f0:=Int.fmod_nonneg_of_pos (x+1+z) n0
 have f1:=Int.fmod_lt_of_pos (x+1+z) n0
 refine ⟨f0,f1,fun e=>?_⟩
 have d:=Int.mul_fdiv_add_fmod (x+1+z) n
 rw [e] at d
 generalize (x+1+z).fdiv n=w at d
 have:w≤0∨1≤w:=by omega
 rcases this with hw | hw
 ·have:=Int.mul_le_mul_of_nonneg_left hw (show 0≤n by omega)
  omega
 ·have:=Int.mul_le_mul_of_nonneg_left hw (show 0≤n by omega)
  omega
theorem Zgh {nms:List Str} (nd:nms.Nodup) {i j:Nat} {a b:Str} (ha:nms[i]?=some a) (hb:nms[j]?=some b) (ne:i≠j):a≠b:=fun e=>by
 obtain ⟨hi,ei⟩:=List.getElem?_eq_some_iff.mp ha
 obtain ⟨hj,ej⟩:=List.getElem?_eq_some_iff.mp hb
 rcases Nat.lt_or_gt_of_ne ne with h | h
 ·exact (List.pairwise_iff_getElem.mp nd i j hi hj h) (by rw [ei,ej,e])
 ·exact (List.pairwise_iff_getElem.mp nd j i hj hi h) (by rw [ei,ej,e])
noncomputable def Zi4 (d:Int) (a b:Str) (last:Option Ent) (e:Ent):Option Ent:=if decide (e.day≤d)=true then Ze4 a b last e else last
theorem ZnD (d:Int) (a b:Str) (es:List Ent):es.foldl (Zi4 d a b) none=(es.filter fun e=>decide (e.day≤d)).foldl (Ze4 a b) none:=by
 rw [List.foldl_filter]
 rfl
theorem Zlx {d:Int} {a b:Str} {last:Option Ent} {e:Ent} (h:¬ (e.tie=true∧Zai e.pr.1 e.pr.2=Zai a b)):Zi4 d a b last e=last:=by
 unfold Zi4
 rw [ZoW h]
 split <;> rfl
theorem Zmf {d:Int} {a b:Str} {last:Option Ent} {e:Ent} (h:¬ e.day≤d):Zi4 d a b last e=last:=by
 unfold Zi4
 rw [if_neg (by rw [decide_eq_false h]; decide)]
theorem Zpx {d:Int} {a b:Str} {last:Option Ent} {e:Ent} (h:e.day≤d):Zi4 d a b last e=Ze4 a b last e:=by
 unfold Zi4
 rw [if_pos (decide_eq_true h)]
noncomputable def Zoy (c:Str × Str) (p:Ent × Addr):Option V:=if p.1.row.take 3=[.inr "given",.inr c.1,.inr c.2] then some (.int (amt c p.1)) else none
theorem Zoh {c:Str × Str} {p:Ent × Addr} (h:p.1.row.take 3=[.inr "given",.inr c.1,.inr c.2]):∃ am d,p.1=.given c.1 c.2 am d∧Zoy c p=some (.int am):=by
 obtain ⟨am,d,e⟩:=Ze9 h
 refine ⟨am,d,e,?_⟩
 unfold Zoy
 rw [if_pos h,e]
 show some (V.int (if c=(c.1,c.2) then am else 0))=_
 rw [if_pos rfl]
theorem Zoz {c:Str × Str} {e:Ent} (h:¬ e.row.take 3=[.inr "given",.inr c.1,.inr c.2]):amt c e=0:=by
 cases e with
 | given g t am d =>
  show (if c=(g,t) then am else 0)=0
  rw [if_neg]
  intro z
  exact h (by rw [z]; rfl)
 | _=>rfl
theorem ZlS (c:Str × Str):∀ l:List (Ent × Addr),∃ is:List Int,(l.map (Zoy c)).filterMap id=is.map V.int∧is.sum=ZfH c (l.map (·.1))
 | []=>⟨[],rfl,rfl⟩
 | p :: l=>by
  obtain ⟨is,h1,h2⟩:=ZlS c l
  have e3:ZfH c ((p :: l).map (·.1))=amt c p.1+ZfH c (l.map (·.1)):=by
   unfold ZfH
   rw [List.map_cons,List.map_cons,List.sum_cons]
  rw [e3,List.map_cons,List.filterMap_cons]
  by_cases h:p.1.row.take 3=[.inr "given",.inr c.1,.inr c.2]
  ·have e4:Zoy c p=some (.int (amt c p.1)):=by unfold Zoy; rw [if_pos h]
   rw [e4]
   refine ⟨amt c p.1 :: is,by simp only [id]; rw [h1,List.map_cons],by rw [List.sum_cons,h2]⟩
  ·have e4:Zoy c p=none:=by unfold Zoy; rw [if_neg h]
   rw [e4,Zoz h,Int.zero_add]
   exact ⟨is,by simp only [id]; exact h1,h2⟩
theorem ZlV {a b:Str} (h:decide (b.cps.toList<a.cps.toList)=true):Zai a b=(b,a):=by
 unfold Zai
 rw [if_pos (show ZaV b a=true from h)]
theorem Zkm {a b:Str} (h:decide (b.cps.toList<a.cps.toList)=false):Zai a b=(a,b):=by
 unfold Zai
 rw [if_neg (show ¬ ZaV b a=true from by rw [show ZaV b a=false from h]; decide)]
theorem Zlo {x:Ent} (h:x.tie=true):x.told.key=[.inr "tie",.inr (Zai x.pr.1 x.pr.2).1,.inr (Zai x.pr.1 x.pr.2).2,.inl x.day]:=by
 cases x <;> first | rfl | cases h
theorem Zgp {x y:Ent} (hx:x.tie=true) (hy:y.tie=true):(x.told.key=y.told.key)↔(Zai x.pr.1 x.pr.2=Zai y.pr.1 y.pr.2∧x.day=y.day):=by
 rw [Zlo hx,Zlo hy]
 constructor
 ·intro h
  injection h with _ h
  injection h with h1 h
  injection h with h2 h
  injection h with h3
  exact ⟨Prod.ext (Sum.inr.inj h1) (Sum.inr.inj h2),Sum.inl.inj h3⟩
 ·rintro ⟨h1,h2⟩
  rw [h1,h2]
theorem ZiY {x:Ent} {g t:Str} {am d:Int} (hx:x.tie=true):x.told.key≠(Ent.given g t am d).told.key:=by
 rw [Zlo hx]
 intro h
 have h:(.inr "tie" : Key)=.inr "given":=by injection h
 exact absurd h (by decide +kernel)
theorem Zov {e:Ent} (h:e.two=true):(∃ g t am d,e=.given g t am d)∨e.tie=true:=by
 cases e with
 | given g t am d=>exact .inl ⟨g,t,am,d,rfl⟩
 | union=>exact .inr rfl
 | parted=>exact .inr rfl
 | _=>cases h
theorem Znr {e:Ent} (h:e.tie=true):e.kind="union"∨e.kind="parted":=by
 cases e with
 | union=>exact .inl rfl
 | parted=>exact .inr rfl
 | _=>cases h
theorem ZlH {e:Ent} (h:e.tie=true):decide (V.str e.kind=V.str "given")=false:=by rcases Znr h with z | z <;> rw [z] <;> decide +kernel
theorem Zoe {e:Ent} (h:e.tie=true):inV (V.str e.kind) [V.str "union",V.str "parted"]=true:=by rcases Znr h with z | z <;> rw [z] <;> decide +kernel
structure W7 (nms:List Str) (bs rs:List Ent):Prop where
 nm:∀ x∈nms,Nm x
 nd:nms.Nodup
 n2:2≤nms.length
 n5:nms.length≤5
 bl:bs.length=nms.length
 b7:B7 nms bs
 r7:∀ e∈rs,D7 nms e
 key:(rs.map fun e=>e.told.key).Nodup
 rl:rs.length≤60
noncomputable def es7 (bs rs:List Ent):List Ent:=bs++rs.map Ent.told
theorem B7.mem {nms:List Str} {bs:List Ent} (h:B7 nms bs) {e:Ent} (he:e∈bs):∃ (i:Nat) (n s:Str) (d:Int),bs[i]?=some e∧nms[i]?=some n∧e=.born n s d "" ""∧(s="he"∨s="she"∨s="")∧(i:Int)*10 ^ 16-10 ^ 18≤d∧d<(i:Int)*10 ^ 16+10 ^ 16-10 ^ 18:=by
 obtain ⟨i,hi,e1⟩:=List.getElem_of_mem he
 have h1:bs[i]?=some e:=by rw [List.getElem?_eq_getElem hi,e1]
 obtain ⟨n,s,d,h2⟩:=h i e h1
 exact ⟨i,n,s,d,h1,h2⟩
theorem Zhw {nms:List Str} {bs:List Ent} (b7:B7 nms bs) (nm:∀ x∈nms,Nm x) (nd:nms.Nodup) (n5:nms.length≤5) (bl:bs.length≤nms.length):Gd bs:=by
 have go:∀ i,i≤bs.length->Gd (bs.take i):=by
  intro i
  induction i with
  | zero=>intro _; rw [List.take_zero]; exact .nil
  | succ i ih =>
   intro hi
   have il:i<bs.length:=by omega
   rw [List.take_succ_eq_append_getElem il]
   have tl:(bs.take i).length=i:=by rw [List.length_take]; omega
   obtain ⟨n,s,d,h1,h2,h3,h4,h5⟩:=b7 i bs[i] (List.getElem?_eq_getElem il)
   rw [h2]
   have fl:=List.length_filter_le Ent.tie (bs.take i)
   refine .snoc (ih (by omega)) (by omega) (by omega) ⟨ZqG (nm n (List.mem_of_getElem? h1)) h3 (by omega) (by omega) (.inl rfl) (.inl rfl),rfl,rfl,fun n' s' d' f' m' e=>(by cases e; exact ⟨rfl,rfl⟩),fun _=>by omega,fun z=>(by cases z),fun x hx e=>?_,rfl⟩
   obtain ⟨j,hj,ej⟩:=List.getElem_of_mem hx
   rw [List.getElem_take] at ej
   rw [List.length_take] at hj
   obtain ⟨n',s',d',g1,g2,_⟩:=b7 j bs[j] (List.getElem?_eq_getElem (by omega))
   rw [← ej,g2] at e
   have e':[(.inr "born" : Key),.inr n']=[.inr "born",.inr n]:=e
   injection e' with _ e'
   injection e' with e'
   exact Zgh nd g1 h1 (by omega) (Sum.inr.inj e')
 have:=go bs.length (Nat.le_refl _)
 rwa [List.take_length] at this
theorem D7.ok {nms:List Str} {e:Ent} (nm:∀ x∈nms,Nm x) (h:D7 nms e):e.Ok∧e.told.Ok:=by
 obtain ⟨a,b,d,ha,hb,ne,d0,d1,h⟩:=h
 have na:=nm a ha
 have nb:=nm b hb
 have sp:Zai a b=(a,b)∨Zai a b=(b,a):=by
  unfold Zai
  split
  ·exact .inr rfl
  ·exact .inl rfl
 rcases h with rfl | rfl | ⟨am,a1,a2,rfl⟩
 ·refine ⟨⟨Zh4 (.inr (.inl rfl)) na nb (by omega) (by omega),ZhQ (by decide +kernel) na nb⟩,?_⟩
  show (Ent.union (Zai a b).1 (Zai a b).2 d).Ok
  rcases sp with e | e <;> rw [e]
  ·exact ⟨Zh4 (.inr (.inl rfl)) na nb (by omega) (by omega),ZhQ (by decide +kernel) na nb⟩
  ·exact ⟨Zh4 (.inr (.inl rfl)) nb na (by omega) (by omega),ZhQ (by decide +kernel) nb na⟩
 ·refine ⟨⟨Zh4 (.inr (.inr rfl)) na nb (by omega) (by omega),ZhQ (by decide +kernel) na nb⟩,?_⟩
  show (Ent.parted (Zai a b).1 (Zai a b).2 d).Ok
  rcases sp with e | e <;> rw [e]
  ·exact ⟨Zh4 (.inr (.inr rfl)) na nb (by omega) (by omega),ZhQ (by decide +kernel) na nb⟩
  ·exact ⟨Zh4 (.inr (.inr rfl)) nb na (by omega) (by omega),ZhQ (by decide +kernel) nb na⟩
 ·have:=ZpE (am:=am) (d:=d) na nb a1 a2 (by omega) (by omega)
  exact ⟨this,this⟩
theorem D7.named {nms:List Str} {e:Ent} (h:D7 nms e):(∀ n∈e.told.named,n∈nms)∧e.told.same=false∧e.told.isBorn=false∧e.told.isTaken=false∧-9*10 ^ 17≤e.told.day∧e.told.day≤9*10 ^ 17:=by
 obtain ⟨a,b,d,ha,hb,ne,d0,d1,h⟩:=h
 have sp:Zai a b=(a,b)∨Zai a b=(b,a):=by
  unfold Zai
  split
  ·exact .inr rfl
  ·exact .inl rfl
 have two:∀ x y:Str,x∈nms->y∈nms->∀ n∈[x,y],n∈nms:=fun x y hx hy n hn=>by
  simp only [List.mem_cons,List.not_mem_nil,or_false] at hn
  rcases hn with rfl | rfl
  ·exact hx
  ·exact hy
 rcases h with rfl | rfl | ⟨am,a1,a2,rfl⟩
 ·show (∀ n∈[(Zai a b).1,(Zai a b).2],n∈nms)∧decide ((Zai a b).1=(Zai a b).2)=false∧_
  rcases sp with e | e <;> rw [e]
  ·exact ⟨two _ _ ha hb,decide_eq_false ne,rfl,rfl,d0,d1⟩
  ·exact ⟨two _ _ hb ha,decide_eq_false ne.symm,rfl,rfl,d0,d1⟩
 ·show (∀ n∈[(Zai a b).1,(Zai a b).2],n∈nms)∧decide ((Zai a b).1=(Zai a b).2)=false∧_
  rcases sp with e | e <;> rw [e]
  ·exact ⟨two _ _ ha hb,decide_eq_false ne,rfl,rfl,d0,d1⟩
  ·exact ⟨two _ _ hb ha,decide_eq_false ne.symm,rfl,rfl,d0,d1⟩
 ·exact ⟨two _ _ ha hb,decide_eq_false ne,rfl,rfl,d0,d1⟩
theorem Zi8 {nms:List Str} {bs:List Ent} (b7:B7 nms bs) (n5:nms.length≤5) (bl:bs.length=nms.length) {n:Str} (hn:n∈nms):∃ s d f m,Ent.born n s d f m∈bs∧d≤-9*10 ^ 17:=by
 obtain ⟨i,hi,e1⟩:=List.getElem_of_mem hn
 obtain ⟨n',s,d,h1,h2,_,h4,h5⟩:=b7 i (bs[i]'(by omega)) (List.getElem?_eq_getElem (by omega))
 rw [List.getElem?_eq_getElem hi,e1] at h1
 cases h1
 exact ⟨s,d,"","",by rw [← h2]; exact List.getElem_mem _,by omega⟩
theorem Zoi {nms:List Str} {bs xs:List Ent} {e:Ent} (b7:B7 nms bs) (nm:∀ x∈nms,Nm x) (n5:nms.length≤5) (bl:bs.length=nms.length) (sub:∀ x∈bs,x∈xs) (h:D7 nms e) (key:∀ x∈xs,x.key≠e.told.key):Acc xs e.told:=by
 obtain ⟨h1,h2,h3,h4,h5,h6⟩:=h.named
 refine ⟨(h.ok nm).2,Zhb e,h4,fun n s d f m z=>?_,fun z=>?_,fun _ n hn=>?_,key,h2⟩
 ·rw [z] at h3; cases h3
 ·rw [h3] at z; cases z
 ·obtain ⟨s,d,f,m,g1,g2⟩:=Zi8 b7 n5 bl (h1 n hn)
  exact ⟨s,d,f,m,sub _ g1,by omega⟩
theorem Zip {e x:Ent} (h:e.two=true) (hx:x.isBorn=true):x.key≠e.told.key:=by
 cases x with
 | born n s d f m =>
  cases e with
  | union a b d=>intro z; have z:(.inr "born" : Key)=.inr "tie":=(List.cons.inj z).1; exact absurd z (by decide +kernel)
  | parted a b d=>intro z; have z:(.inr "born" : Key)=.inr "tie":=(List.cons.inj z).1; exact absurd z (by decide +kernel)
  | given a b am d=>intro z; have z:(.inr "born" : Key)=.inr "given":=(List.cons.inj z).1; exact absurd z (by decide +kernel)
  | _=>cases h
 | _=>cases hx
theorem B7.born {nms:List Str} {bs:List Ent} (h:B7 nms bs) {e:Ent} (he:e∈bs):e.isBorn=true:=by
 obtain ⟨_,_,_,_,_,_,rfl,_⟩:=h.mem he
 rfl
theorem W7.good {nms:List Str} {bs rs:List Ent} (w:W7 nms bs rs):Gd (es7 bs rs):=by
 have gb:=Zhw w.b7 w.nm w.nd w.n5 (by rw [w.bl]; exact Nat.le_refl _)
 have bl:=w.bl
 have n5:=w.n5
 have go:∀ i,i≤rs.length->Gd (bs++(rs.take i).map Ent.told):=by
  intro i
  induction i with
  | zero=>intro _; rw [List.take_zero,List.map_nil,List.append_nil]; exact gb
  | succ i ih =>
   intro hi
   have il:i<rs.length:=by omega
   rw [List.take_succ_eq_append_getElem il,List.map_append,← List.append_assoc]
   have rl:=w.rl
   have tl:((rs.take i).map Ent.told).length=i:=by rw [List.length_map,List.length_take]; omega
   have hd:=w.r7 rs[i] (List.getElem_mem il)
   have ft:((bs++(rs.take i).map Ent.told).filter Ent.tie).length≤60:=by
    rw [List.filter_append,List.length_append]
    have e1:bs.filter Ent.tie=[]:=List.filter_eq_nil_iff.mpr fun x hx=>by
     obtain ⟨_,_,_,_,_,_,rfl,_⟩:=w.b7.mem hx
     exact fun z=>by cases z
    have:=List.length_filter_le Ent.tie ((rs.take i).map Ent.told)
    rw [e1,List.length_nil]
    omega
   refine .snoc (ih (by omega)) (by rw [List.length_append]; omega) ft (Zoi w.b7 w.nm w.n5 w.bl (fun x hx=>List.mem_append.mpr (.inl hx)) hd fun x hx=>?_)
   rcases List.mem_append.mp hx with hx | hx
   ·exact Zip hd.two (w.b7.born hx)
   ·obtain ⟨y,hy,rfl⟩:=List.mem_map.mp hx
    obtain ⟨j,hj,ej⟩:=List.getElem_of_mem hy
    rw [List.getElem_take] at ej
    rw [List.length_take] at hj
    rw [← ej]
    have:=List.pairwise_iff_getElem.mp w.key j i (by rw [List.length_map]; omega) (by rw [List.length_map]; exact il) (by omega)
    rw [List.getElem_map,List.getElem_map] at this
    exact this
 have:=go rs.length (Nat.le_refl _)
 rwa [List.take_length] at this
theorem W7.once {nms:List Str} {bs rs:List Ent} (w:W7 nms bs rs) (p:Ent->Bool):Zsx (rs.filter p):=fun c=>by
 have kn:((rs.filter p).map fun e=>e.told.key).Nodup:=List.Nodup.sublist (List.Sublist.map _ List.filter_sublist) w.key
 generalize rs.filter p=l at kn
 unfold tl
 rw [List.map_filterMap]
 unfold List.Nodup at kn ⊢
 rw [List.pairwise_map] at kn
 refine List.Pairwise.filterMap _ (fun x y hxy d hd d' hd' e=>?_) kn
 by_cases hx:x.tie=true∧Zai x.pr.1 x.pr.2=c
 ·by_cases hy:y.tie=true∧Zai y.pr.1 y.pr.2=c
  ·rw [if_pos hx] at hd
   rw [if_pos hy] at hd'
   have h1:x.day=d:=Option.some.inj hd
   have h2:y.day=d':=Option.some.inj hd'
   exact hxy ((Zgp hx.1 hy.1).mpr ⟨hx.2.trans hy.2.symm,by rw [h1,h2,e]⟩)
  ·rw [if_neg hy] at hd'; cases hd'
 ·rw [if_neg hx] at hd; cases hd
theorem Zn3 {nms:List Str} {bs:List Ent} (h:B7 nms bs) (c:Str × Str):∀ l:List Ent,(∀ e∈l,e∈bs)->tl c l=[]:=fun l hl=>by
 unfold tl
 refine List.filterMap_eq_nil_iff.mpr fun e he=>?_
 obtain ⟨_,_,_,_,_,_,rfl,_⟩:=h.mem (hl e he)
 rw [if_neg]
 rintro ⟨z,_⟩
 cases z
theorem Zfa (e:Ent):e.told.day=e.day:=(ZlT e).2.2.1
theorem Zry {nms:List Str} {bs rs:List Ent} (w:W7 nms bs rs) (d:Int) (c:Str × Str):tl c ((es7 bs rs).filter fun e=>decide (e.day≤d))=tl c (rs.filter fun e=>decide (e.day≤d)):=by
 have ap:∀ a b:List Ent,tl c (a++b)=tl c a++tl c b:=fun a b=>by unfold tl; rw [List.filterMap_append]
 unfold es7
 rw [List.filter_append,ap,Zn3 w.b7 c _ (fun e he=>(List.mem_filter.mp he).1),List.nil_append,List.filter_map]
 have:((fun e:Ent=>decide (e.day≤d)) ∘ Ent.told)=fun e=>decide (e.day≤d):=funext fun e=>by show decide (e.told.day≤d)=_; rw [Zfa]
 rw [this,ZqH]
theorem Zm5 (c:Str × Str) (z:V) (d:Int) (hz:z=.int d) (es:List Ent):(tl c es).filter (fun r=>ZfG z r.1)=tl c (es.filter fun e=>decide (e.day≤d)):=by
 subst hz
 unfold tl
 induction es with
 | nil=>rfl
 | cons e es ih =>
  rw [List.filterMap_cons,List.filter_cons]
  by_cases hd:e.day≤d
  ·rw [if_pos (decide_eq_true hd),List.filterMap_cons]
   by_cases h:e.tie=true∧Zai e.pr.1 e.pr.2=c
   ·rw [if_pos h]
    simp only
    rw [List.filter_cons,if_pos (show ZfG (.int d) e.day=true from decide_eq_true hd),ih]
   ·rw [if_neg h]
    simp only
    exact ih
  ·rw [if_neg (show ¬ decide (e.day≤d)=true from by rw [decide_eq_false hd]; decide)]
   by_cases h:e.tie=true∧Zai e.pr.1 e.pr.2=c
   ·rw [if_pos h]
    simp only
    rw [List.filter_cons,if_neg (show ¬ ZfG (.int d) e.day=true from by show ¬ decide (e.day≤d)=true; rw [decide_eq_false hd]; decide),ih]
   ·rw [if_neg h]
    simp only
    exact ih
theorem Zlq (c:Str × Str) (a b:List Ent):ZfH c (a++b)=ZfH c a+ZfH c b:=by
 unfold ZfH
 rw [List.map_append,List.sum_append]
theorem ZhK {nms:List Str} {bs:List Ent} (h:B7 nms bs) (c:Str × Str):∀ l:List Ent,(∀ e∈l,e∈bs)->ZfH c l=0
 | [],_=>rfl
 | e :: l,hl=>by
  obtain ⟨_,_,_,_,_,_,he,_⟩:=h.mem (hl e (List.mem_cons_self ..))
  have ih:=ZhK h c l fun x hx=>hl x (List.mem_cons_of_mem _ hx)
  unfold ZfH at ih ⊢
  rw [List.map_cons,List.sum_cons,ih,he]
  rfl
theorem Zo2 (c:Str × Str) (e:Ent):amt c e.told=amt c e:=by cases e <;> rfl
theorem ZpI {nms:List Str} {bs rs:List Ent} (w:W7 nms bs rs) (c:Str × Str):ZfH c (es7 bs rs)=ZfH c rs:=by
 unfold es7
 rw [Zlq,ZhK w.b7 c bs (fun _ h=>h),Int.zero_add]
 unfold ZfH
 rw [List.map_map]
 exact congrArg List.sum (List.map_congr_left fun e _=>Zo2 c e)
theorem Zej {nms:List Str} {bs es:List Ent} {B:Bk} (sb:SB B es) (g:Gd es) (b7:B7 nms bs) (n5:nms.length≤5) (bl:bs.length=nms.length) (sub:∀ e∈bs,e.day≤-9*10 ^ 17->e∈es) {n:Str} (hn:n∈nms):Known B n:=by
 obtain ⟨s,d,f,m,h1,h2⟩:=Zi8 b7 n5 bl hn
 obtain ⟨a,ha⟩:=sb.birth g (sub _ h1 h2)
 unfold Known
 rw [ha]
 simp
theorem Zg7 {nms:List Str} {bs rs:List Ent} {B:Bk} (w:W7 nms bs rs) {d:Int} (sb:SB B ((es7 bs rs).filter fun e=>decide (e.day≤d))) (a b:Str):ZdY B .non a b=Zjz (rs.filter fun e=>decide (e.day≤d)) a b:=by
 rw [Zdx,ZmW (w.once _)]
 unfold Zd6
 rw [Zi5,sb.tis,Zry w]
theorem Zkx {nms:List Str} {bs rs:List Ent} {B:Bk} (w:W7 nms bs rs) (d:Int) (sb:SB B (es7 bs rs)) (a b:Str):ZdY B (.int d) a b=Zjz (rs.filter fun e=>decide (e.day≤d)) a b:=by
 rw [ZmW (w.once _)]
 unfold ZdY
 rw [Zi5,sb.tis,Zm5 _ _ d rfl,Zry w]
theorem Zgj {nms:List Str} {bs rs:List Ent} (w:W7 nms bs rs):(es7 bs rs).filter (fun e=>decide (e.day≤10 ^ 18))=es7 bs rs∧rs.filter (fun e=>decide (e.day≤10 ^ 18))=rs:=by
 have n5:=w.n5
 have bl:=w.bl
 have hr:∀ e∈rs,e.day≤10 ^ 18:=fun e he=>by
  obtain ⟨_,_,_,_,_,h6⟩:=(w.r7 e he).named
  rw [Zfa] at h6
  omega
 refine ⟨List.filter_eq_self.mpr fun e he=>decide_eq_true ?_,List.filter_eq_self.mpr fun e he=>decide_eq_true (hr e he)⟩
 rcases List.mem_append.mp he with he | he
 ·obtain ⟨i,n,s,d,h1,h2,rfl,_,h4,h5⟩:=w.b7.mem he
  have:=(List.getElem?_eq_some_iff.mp h1).1
  show d≤10 ^ 18
  omega
 ·obtain ⟨x,hx,rfl⟩:=List.mem_map.mp he
  rw [Zfa]
  exact hr x hx
theorem Zin {bs rs:List Ent} {d:Int} (h:-9*10 ^ 17≤d):∀ e∈bs,e.day≤-9*10 ^ 17->e∈(es7 bs rs).filter fun e=>decide (e.day≤d):=fun e he hd=>List.mem_filter.mpr ⟨List.mem_append.mpr (.inl he),decide_eq_true (by omega)⟩
theorem BkAt.other {K:W.Frag} {C:Addr} {H H0 H':Hp} {b dx k bi li ti su:Addr} {B:Bk} {S:List Addr} (h:BkAt K C H b dx k bi li ti su B) (bt:But S H H') (hS:∀ c∈S,H c=none∨(((∃ w,H c=some (.dT w))∨∃ w,H c=some (.dK w))∧H0 c≠none)) (n5:∀ c∈[k,bi,li,ti,su],H0 c=none) (ft:∀ c∈B.ties.map (·.2.1),H0 c=none):BkAt K C H' b dx k bi li ti su B:=by
 have off:∀ {a:Addr} {o:HO},H a=some o->(H0 a=none∨((∀ w,o≠.dT w)∧∀ w,o≠.dK w))->H' a=some o:=fun {a o} e z=>bt.eq a o (fun m=>by
  rcases hS a m with n | ⟨kd,n⟩
  ·rw [n] at e; cases e
  ·rcases z with z | ⟨z1,z2⟩
   ·exact n z
   ·rcases kd with ⟨w,kd⟩ | ⟨w,kd⟩ <;> rw [kd] at e <;> cases e
    ·exact z1 _ rfl
    ·exact z2 _ rfl) e
 have sq:∀ {a:Addr} {xs:List V},SqT K H a xs->SqT K H' a xs:=fun {a xs} q=>by
  rcases q with (q | ⟨o,q⟩) | q
  ·exact .inl (.inl (off q (.inr ⟨fun _ z=>(by cases z),fun _ z=>(by cases z)⟩)))
  ·exact .inl (.inr ⟨o,off q (.inr ⟨fun _ z=>(by cases z),fun _ z=>(by cases z)⟩)⟩)
  ·exact .inr q
 exact ⟨off h.ob (.inr ⟨fun _ z=>(by cases z),fun _ z=>(by cases z)⟩),h.ap,h.at',off h.ke (.inl (n5 _ (by simp))),off h.bi (.inl (n5 _ (by simp))),off h.li (.inl (n5 _ (by simp))),off h.ti (.inl (n5 _ (by simp))),off h.su (.inl (n5 _ (by simp))),
  fun p hp=>sq (h.en p hp),fun q hq=>off (h.ll q hq) (.inr ⟨fun _ z=>(by cases z),fun _ z=>(by cases z)⟩),fun q hq=>off (h.tt q hq) (.inl (ft _ (List.mem_map.mpr ⟨q,hq,rfl⟩)))⟩
noncomputable def Znk (d:Int) (p:Ent × Addr):Option V:=if p.1.day≤d then some (.ref p.2) else none
noncomputable def ZbO (d:Int) (p:Ent × Addr):Bool:=decide (p.1.day≤d)
theorem Zim (d:Int):∀ l:List (Ent × Addr),(l.map (Znk d)).filterMap id=ZaS (l.filter (ZbO d))
 | []=>rfl
 | p :: l=>by
  have ih:=Zim d l
  rw [List.map_cons,List.filterMap_cons,List.filter_cons]
  by_cases h:p.1.day≤d
  ·rw [show Znk d p=some (.ref p.2) from if_pos h,if_pos (show ZbO d p=true from decide_eq_true h)]
   simp only [id]
   rw [ih]
   rfl
  ·rw [show Znk d p=none from if_neg h,if_neg (show ¬ ZbO d p=true from by show ¬ decide (p.1.day≤d)=true; rw [decide_eq_false h]; decide)]
   simp only [id]
   exact ih
noncomputable def Zrd (d:Int) (p:Ent × Addr):Option (Ent × Addr):=if p.1.day≤d then some p else none
theorem ZlI (d:Int):∀ l:List (Ent × Addr),(l.map (Zrd d)).filterMap id=l.filter (ZbO d)
 | []=>rfl
 | p :: l=>by
  have ih:=ZlI d l
  rw [List.map_cons,List.filterMap_cons,List.filter_cons]
  by_cases h:p.1.day≤d
  ·rw [show Zrd d p=some p from if_pos h,if_pos (show ZbO d p=true from decide_eq_true h)]
   simp only [id]
   rw [ih]
  ·rw [show Zrd d p=none from if_neg h,if_neg (show ¬ ZbO d p=true from by show ¬ decide (p.1.day≤d)=true; rw [decide_eq_false h]; decide)]
   simp only [id]
   exact ih
theorem ZfL (d:Int) (l:List (Ent × Addr)):(l.filter (ZbO d)).map (·.1)=(l.map (·.1)).filter fun e=>decide (e.day≤d):=by
 rw [List.filter_map]
 rfl
theorem Zh1 {K:W.Frag} {H:Hp}:∀ {ps:List (Ent × Addr)} {ys:List V},ys.length=ps.length->(∀ (j:Nat) (y:V) (a:Ent × Addr),ys[j]?=some y->ps[j]?=some a->∃ t,y=.ref t∧SqT K H t (a.1.told.row.map kV))->∃ sl:List (Ent × Addr),ys=ZaS sl∧sl.map (·.1)=ps.map (fun p=>p.1.told)∧RowsAt K H sl
 | [],[],_,_=>⟨[],rfl,rfl,fun p hp=>by cases hp⟩
 | [],_ :: _,h,_=>by cases h
 | _ :: _,[],h,_=>by cases h
 | p :: ps,y :: ys,h,hp=>by
  obtain ⟨t,e2,e3⟩:=hp 0 y p rfl rfl
  obtain ⟨sl,l1,l2,l3⟩:=Zh1 (K:=K) (ps:=ps) (ys:=ys) (Nat.succ.inj h) fun i y a e=>hp (i+1) y a e
  refine ⟨(p.1.told,t) :: sl,by rw [e2,l1]; rfl,by rw [List.map_cons,List.map_cons,l2],fun q hq=>?_⟩
  rcases List.mem_cons.mp hq with rfl | hq
  ·exact e3
  ·exact l3 q hq
theorem Zqf {e:Ent} (h:e.two=true):atI (e.row.map kV) ((((e.row.map kV).length:Nat):Int)-1)=some (.int e.day):=by
 cases e with
 | union a b d=>exact Zag (j:=3) rfl
 | parted a b d=>exact Zag (j:=3) rfl
 | given a b am d=>exact Zag (j:=4) rfl
 | _=>cases h
theorem Zfz (bs rs:List Ent) (d:Int):(es7 bs rs).filter (fun e=>decide (e.day≤d))=bs.filter (fun e=>decide (e.day≤d))++(rs.filter fun e=>decide (e.day≤d)).map Ent.told:=by
 unfold es7
 rw [List.filter_append,List.filter_map]
 have:((fun e:Ent=>decide (e.day≤d)) ∘ Ent.told)=fun e=>decide (e.day≤d):=funext fun e=>by show decide (e.told.day≤d)=_; rw [Zfa]
 rw [this]
theorem ZoS {nms:List Str} {bs rs:List Ent} (w:W7 nms bs rs) {d:Int} (h:d< -9*10 ^ 17):(es7 bs rs).filter (fun e=>decide (e.day≤d))=bs.filter fun e=>decide (e.day≤d):=by
 rw [Zfz]
 have:rs.filter (fun e=>decide (e.day≤d))=[]:=List.filter_eq_nil_iff.mpr fun e he=>by
  obtain ⟨_,_,_,_,h5,_⟩:=(w.r7 e he).named
  rw [Zfa] at h5
  rw [decide_eq_false (show ¬ e.day≤d by omega)]
  decide
 rw [this,List.map_nil,List.append_nil]
theorem ZnP {c:Str × Str} {a b:List Ent} (h:a.Perm b):ZfH c a=ZfH c b:=by
 induction h with
 | nil=>rfl
 | cons x _ ih=>unfold ZfH at ih ⊢; rw [List.map_cons,List.map_cons,List.sum_cons,List.sum_cons,ih]
 | swap x y l=>unfold ZfH; simp only [List.map_cons,List.sum_cons]; omega
 | trans _ _ h1 h2=>exact h1.trans h2
noncomputable def Ent.isDead:Ent->Bool
 | .dead ..=>true
 | _=>false
theorem Znq {B:Bk} {es:List Ent} (h:B.kept.map (·.1)=es) (nd:∀ e∈es,e.isDead=false) (n:Str):ZjN B n=.non:=by
 unfold ZjN
 cases e:ZdD n B.kept with
 | none=>rfl
 | some q =>
  have hm:Ent.dead n q.1∈es:=by rw [← h]; exact List.mem_map.mpr ⟨_,Zdc (a:=q.2) e,rfl⟩
  have:=nd _ hm
  cases this
theorem ZmN {B:Bk} {es:List Ent} {n:Str} {d:Int} (h:B.kept.map (·.1)=es++[.dead n d]) (nd:∀ e∈es,e.isDead=false):ZjN B n=.int d:=by
 unfold ZjN
 cases e:ZdD n B.kept with
 | none =>
  exfalso
  have hm:Ent.dead n d∈B.kept.map (·.1):=by rw [h]; simp
  obtain ⟨p,hp,ep⟩:=List.mem_map.mp hm
  exact ZeE e p hp d ep
 | some q =>
  have hm:Ent.dead n q.1∈es++[.dead n d]:=by rw [← h]; exact List.mem_map.mpr ⟨_,Zdc (a:=q.2) e,rfl⟩
  rcases List.mem_append.mp hm with hm | hm
  ·have:=nd _ hm; cases this
  ·have:=List.mem_singleton.mp hm
   injection this with _ e2
   show V.int q.1=_
   rw [e2]
theorem W7.undead {nms:List Str} {bs rs:List Ent} (w:W7 nms bs rs):∀ e∈es7 bs rs,e.isDead=false:=fun e he=>by
 rcases List.mem_append.mp he with he | he
 ·obtain ⟨_,_,_,_,_,_,rfl,_⟩:=w.b7.mem he
  rfl
 ·obtain ⟨x,hx,rfl⟩:=List.mem_map.mp he
  have:=(w.r7 x hx).two
  cases x <;> first | rfl | cases this
theorem ZoX {nms:List Str} {bs xs:List Ent} {n:Str} {d:Int} (b7:B7 nms bs) (nm:∀ x∈nms,Nm x) (n5:nms.length≤5) (bl:bs.length=nms.length) (sub:∀ e∈bs,e.day≤-9*10 ^ 17->e∈xs) (hn:n∈nms) (d0:-9*10 ^ 17≤d) (d1:d≤9*10 ^ 17) (nd:∀ e∈xs,e.isDead=false):Acc xs (.dead n d):=by
 refine ⟨ZqS (nm n hn) (by omega) (by omega),rfl,rfl,fun _ _ _ _ _ z=>(by cases z),fun z=>(by cases z),fun _ x hx=>?_,fun x hx z=>?_,rfl⟩
 ·have:x=n:=by simpa [Ent.named] using hx
  subst this
  obtain ⟨s,d',f,m,g1,g2⟩:=Zi8 b7 n5 bl hn
  exact ⟨s,d',f,m,sub _ g1 g2,by show d'≤d; omega⟩
 ·have:=nd x hx
  cases x with
  | dead=>cases this
  | born=>have z:(.inr "born" : Key)=.inr "dead":=(List.cons.inj z).1; exact absurd z (by decide +kernel)
  | taken=>have z:(.inr "taken" : Key)=.inr "dead":=(List.cons.inj z).1; exact absurd z (by decide +kernel)
  | union=>have z:(.inr "tie" : Key)=.inr "dead":=(List.cons.inj z).1; exact absurd z (by decide +kernel)
  | parted=>have z:(.inr "tie" : Key)=.inr "dead":=(List.cons.inj z).1; exact absurd z (by decide +kernel)
  | given=>have z:(.inr "given" : Key)=.inr "dead":=(List.cons.inj z).1; exact absurd z (by decide +kernel)
theorem Zly {nms:List Str} {bs rs:List Ent} {a b:Str} (w:W7 nms bs rs) (ha:a∈nms) (hb:b∈nms) (ne:a≠b):Acc (es7 bs rs) (.given a b 7 (10 ^ 18)):=by
 refine ⟨ZpE (w.nm a ha) (w.nm b hb) (by decide) (by decide) (by decide) (by decide),rfl,rfl,fun _ _ _ _ _ z=>(by cases z),fun z=>(by cases z),fun _ x hx=>?_,fun x hx z=>?_,decide_eq_false ne⟩
 ·have hx':x∈[a,b]:=hx
  simp only [List.mem_cons,List.not_mem_nil,or_false] at hx'
  have hm:x∈nms:=hx'.elim (fun z=>by rw [z]; exact ha) (fun z=>by rw [z]; exact hb)
  obtain ⟨s,d',f,m,g1,g2⟩:=Zi8 w.b7 w.n5 w.bl hm
  exact ⟨s,d',f,m,List.mem_append.mpr (.inl g1),by show d'≤10 ^ 18; omega⟩
 ·rcases List.mem_append.mp hx with hx | hx
  ·exact Zip (e:=.given a b 7 (10 ^ 18)) rfl (w.b7.born hx) z
  ·obtain ⟨y,hy,rfl⟩:=List.mem_map.mp hx
   obtain ⟨_,_,_,_,_,h6⟩:=(w.r7 y hy).named
   have ht:=(w.r7 y hy).two
   cases y with
   | given g t am d =>
    have z:[(.inr "given" : Key),.inr g,.inr t,.inl d]=[.inr "given",.inr a,.inr b,.inl (10 ^ 18)]:=z
    injection z with _ z
    injection z with _ z
    injection z with _ z
    injection z with z
    have z:=Sum.inl.inj z
    have h6:d≤9*10 ^ 17:=h6
    omega
   | union=>exact ZiY (x:=Ent.union _ _ _) rfl z
   | parted=>exact ZiY (x:=Ent.parted _ _ _) rfl z
   | _=>cases ht
theorem ZhI {B : Bk} {ps o1 o2 : List (Ent × Addr)} (hp : B.kept.map (·.1)=ps.map (·.1)) (p1 : o1.Perm B.kept) (p2 : o2.Perm ps)
  (s1:(o1.map fun p=>p.1.row).Pairwise fun x y=>SA.rLt y x=false) (s2:(o2.map fun p=>p.1.row).Pairwise fun x y=>SA.rLt y x=false):(o1.map fun p=>p.1.row)=o2.map fun p=>p.1.row:=by
 have e:∀ l:List (Ent × Addr),(l.map fun p=>p.1.row)=(l.map (·.1)).map Ent.row:=fun l=>by rw [List.map_map]; rfl
 refine Zkg ?_ s1 s2
 have a1:=p1.map fun p=>p.1.row
 have a2:=p2.map fun p=>p.1.row
 rw [e B.kept,hp] at a1
 rw [e ps] at a2
 exact a1.trans a2.symm
theorem Zfl {nms:List Str} {bs rs:List Ent} (w:W7 nms bs rs) (d:Int):(((es7 bs rs).filter fun e=>decide (e.day≤d)).filter Ent.tie).length≤60:=by
 rw [Zfz,List.filter_append,List.length_append]
 have e1:(bs.filter fun e=>decide (e.day≤d)).filter Ent.tie=[]:=List.filter_eq_nil_iff.mpr fun x hx=>by
  obtain ⟨_,_,_,_,_,_,rfl,_⟩:=w.b7.mem (List.mem_filter.mp hx).1
  exact fun z=>by cases z
 have l1:=List.length_filter_le Ent.tie ((rs.filter fun e=>decide (e.day≤d)).map Ent.told)
 have l2:=List.length_filter_le (fun e:Ent=>decide (e.day≤d)) rs
 have:=w.rl
 rw [List.length_map] at l1
 rw [e1,List.length_nil]
 omega
theorem Zm8 {B:Bk} {e:Ent} (h:e.two=true):Zjd B e.told=Zjd B e:=by
 have sw:∀ a b:Str,∀ w:Str->Str->Ent,(∀ x y,(w x y).told=w (Zai x y).1 (Zai x y).2)->Zjd B (w b a)=Zjd B (w a b)->Zjd B (w a b).told=Zjd B (w a b):=fun a b w hw h=>by
  rw [hw]
  by_cases c:ZaV b a=true
  ·rw [show Zai a b=(b,a) from if_pos c]; exact h
  ·rw [show Zai a b=(a,b) from if_neg c]
 cases e with
 | union a b d =>
  refine sw a b (fun x y=>.union x y d) (fun _ _=>rfl) ?_
  have k:(Ent.union b a d).told.key=(Ent.union a b d).told.key:=(Zgp rfl rfl).mpr ⟨Zee b a,rfl⟩
  unfold Zjd
  rw [k]
  have f:B.full (.union b a d)=B.full (.union a b d):=rfl
  have n:((Ent.union b a d).named.all fun n=>(ZaA n B.kept).isSome)=((Ent.union a b d).named.all fun n=>(ZaA n B.kept).isSome):=by simp [Ent.named,Bool.and_comm]
  have t:ZdF B (.union b a d)=ZdF B (.union a b d):=by simp [ZdF,Ent.named,Bool.and_comm,eq_comm]
  rw [f,n,t]
 | parted a b d =>
  refine sw a b (fun x y=>.parted x y d) (fun _ _=>rfl) ?_
  have k:(Ent.parted b a d).told.key=(Ent.parted a b d).told.key:=(Zgp rfl rfl).mpr ⟨Zee b a,rfl⟩
  unfold Zjd
  rw [k]
  have f:B.full (.parted b a d)=B.full (.parted a b d):=rfl
  have n:((Ent.parted b a d).named.all fun n=>(ZaA n B.kept).isSome)=((Ent.parted a b d).named.all fun n=>(ZaA n B.kept).isSome):=by simp [Ent.named,Bool.and_comm]
  have t:ZdF B (.parted b a d)=ZdF B (.parted a b d):=by simp [ZdF,Ent.named,Bool.and_comm,eq_comm]
  rw [f,n,t]
 | given=>rfl
 | _=>cases h
theorem ZpT {K:W.Frag} {C:Addr} {H:Hp} {b dx k bi li ti su y:Addr} {B:Bk} (h:BkAt K C H b dx k bi li ti su B) (hy:H y=none∨y=bi∨y∈B.ties.map (·.2.1)):H y=none∨∃ w,H y=some (.dK w):=by
 rcases hy with z | z | z
 ·exact .inl z
 ·exact .inr ⟨_,by rw [z]; exact h.bi⟩
 ·obtain ⟨r,hr,er⟩:=List.mem_map.mp z
  exact .inr ⟨_,by rw [← er]; exact h.tt r hr⟩
theorem Zpq (bs rs:List Ent) (e:Ent):es7 bs (rs++[e])=es7 bs rs++[e.told]:=by
 unfold es7
 rw [List.map_append,← List.append_assoc]
 rfl
theorem W7.snoc {nms:List Str} {bs rs:List Ent} {e:Ent} (w:W7 nms bs rs) (h:D7 nms e) (k:∀ x∈rs,x.told.key≠e.told.key) (l:rs.length<60):W7 nms bs (rs++[e]):=by
 refine ⟨w.nm,w.nd,w.n2,w.n5,w.bl,w.b7,fun x hx=>?_,?_,by rw [List.length_append]; exact l⟩
 ·rcases List.mem_append.mp hx with hx | hx
  ·exact w.r7 x hx
  ·rw [List.mem_singleton.mp hx]; exact h
 ·rw [List.map_append,List.nodup_append]
  refine ⟨w.key,by simp,fun a ha b hb z=>?_⟩
  obtain ⟨x,hx,rfl⟩:=List.mem_map.mp ha
  rw [show b=e.told.key by simpa using hb] at z
  exact k x hx z
theorem Zqh {nms:List Str} {bs rs:List Ent} {e:Ent} (w:W7 nms bs rs) (h:D7 nms e) (k:∀ x∈rs,x.told.key≠e.told.key):Acc (es7 bs rs) e.told :=
 Zoi w.b7 w.nm w.n5 w.bl (fun x hx=>List.mem_append.mpr (.inl hx)) h fun x hx=>by
  rcases List.mem_append.mp hx with hx | hx
  ·exact Zip h.two (w.b7.born hx)
  ·obtain ⟨y,hy,rfl⟩:=List.mem_map.mp hx
   exact k y hy
theorem ZoI {e:Ent} (h:e.two=true):e.bare=true:=by cases e <;> first | rfl | cases h
section
variable {K:W.Frag} {w:World} {mg:Str->Option Value}
theorem ZkM:FnScope ["thing"] ["thing"] (Zal Zfx):=⟨rfl,rfl,rfl,by decide +kernel,rfl,by decide +kernel,by decide +kernel⟩
def Zle (T:Tx K w mg):Sp:=fun vs H Q E=>vs.length=1∧(∃ x t,vs=[x]∧Vw K H x t∧∀ H',Same H H'->Q (.bl (Vk.isI t)) H')
theorem Zma:FnScope ["thing"] ["thing"] (Zal Zgz):=⟨rfl,rfl,rfl,by decide +kernel,rfl,by decide +kernel,by decide +kernel⟩
def ZhW (T:Tx K w mg):Sp:=fun vs H Q E=>vs.length=1∧(∃ x t,vs=[x]∧Vw K H x t∧∀ H',Same H H'->Q (.bl (Ze8 t)) H')
theorem Zom:FnScope ["thing"] ["thing"] (Zal ZiV):=⟨rfl,rfl,rfl,by decide +kernel,rfl,by decide +kernel,by decide +kernel⟩
def Zj5 (T:Tx K w mg):Sp:=fun vs H Q E=>vs.length=1∧(∃ x t,vs=[x]∧Vw K H x t∧∀ H',Same H H'->Q (.bl (ZoG t)) H')
theorem ZjG:FnScope ["thing"] ["thing"] (Zal ZeD):=⟨rfl,rfl,rfl,by decide +kernel,rfl,by decide +kernel,by decide +kernel⟩
def ZfU (T:Tx K w mg):Sp:=fun vs H Q E=>vs.length=1∧(∃ x t,vs=[x]∧Vw K H x t∧∀ H',Same H H'->Q (.bl (Zgs t)) H')
theorem Zmr:FnScope ["thing"] ["thing"] (Zal ZgE):=⟨rfl,rfl,rfl,by decide +kernel,rfl,by decide +kernel,by decide +kernel⟩
def ZhP (T:Tx K w mg):Sp:=fun vs H Q E=>vs.length=1∧(∃ x t,vs=[x]∧Vw K H x t∧∀ H',Same H H'->Q (.bl (ZhX t)) H')
theorem ZjQ:FnScope ["thing"] ["thing"] (Zal Zey):=⟨rfl,rfl,rfl,by decide +kernel,rfl,by decide +kernel,by decide +kernel⟩
def ZfZ (T:Tx K w mg):Sp:=fun vs H Q E=>vs.length=1∧(∃ x t,vs=[x]∧Vw K H x t∧∀ H',Same H H'->Q (.bl (Zfg t)) H')
theorem ZkI:FnScope ["parts","checks"] ["parts","checks"] (Zal ZfC):=⟨rfl,rfl,rfl,by decide +kernel,rfl,by decide +kernel,by decide +kernel⟩
def Zk2 (T:Tx K w mg):Sp:=fun vs H Q E=>vs.length=2∧(∃ a b xs ts cs,vs=[.ref a,.ref b]∧SqT K H a xs∧Vws K H xs ts∧SqT K H b (cs.map fun c=>.ref (T.ad c))∧cs.length≤10∧∀ H',Same H H'->Q (.bl (Zcr cs ts)) H')
theorem ZeH:FnScope ["thing","word","checks"] ["thing"] (Zal Zfp):=⟨rfl,rfl,rfl,by decide +kernel,rfl,by decide +kernel,by decide +kernel⟩
def Zlg (T:Tx K w mg):Sp:=fun vs H Q E=>vs.length=1∧(∃ x,vs=[x]∧((∃ t,Vw K H x t∧t.isT=false∧∀ H',Same H H'->Q (.bl false) H')∨∃ ts,Tv K H x ts∧ts.length≤10∧∀ H',Same H H'->Q (.bl (Zc5 ts)) H'))
theorem ZmE:FnScope ["entry"] ["entry"] (Zal Zih):=⟨rfl,rfl,rfl,by decide +kernel,rfl,by decide +kernel,by decide +kernel⟩
def Zn8 (T:Tx K w mg):Sp:=fun vs H Q E=>vs.length=1∧(∃ v e,vs=[v]∧EntAt K H v e∧∀ H',Same H H'->Q (.bl e.tie) H')
theorem Zk8:FnScope ["entry"] ["entry"] (Zal Zfs):=⟨rfl,rfl,rfl,by decide +kernel,rfl,by decide +kernel,by decide +kernel⟩
def Zlp (T:Tx K w mg):Sp:=fun vs H Q E=>vs.length=1∧(∃ v e,vs=[v]∧EntAt K H v e∧∀ H' D,Same H H'->H D=none->SqL K H' D (e.named.map V.str)->Q (.ref D) H')
theorem ZnE:FnScope ["entry"] ["entry"] (Zal Zix):=⟨rfl,rfl,rfl,by decide +kernel,rfl,by decide +kernel,by decide +kernel⟩
def ZnI (T:Tx K w mg):Sp:=fun vs H Q E=>vs.length=1∧(∃ v e,vs=[v]∧EntAt K H v e∧Q (.int e.day) H)
theorem ZhJ:FnScope ["entry","names"] ["entry"] (Zal Zg8):=⟨rfl,rfl,rfl,by decide +kernel,rfl,by decide +kernel,by decide +kernel⟩
def Zms (T:Tx K w mg):Sp:=fun vs H Q E=>vs.length=1∧(∃ v e,vs=[v]∧EntAt K H v e∧∀ H' u,Same H H'->EntAt K H' u e.told->Q u H')
theorem Zn4:FnScope ["entry"] ["entry"] (Zal ZiH):=⟨rfl,rfl,rfl,by decide +kernel,rfl,by decide +kernel,by decide +kernel⟩
def ZnS (T:Tx K w mg):Sp:=fun vs H Q E=>vs.length=1∧(∃ v e,vs=[v]∧EntAt K H v e∧∀ H' p,Same H H'->H p=none->H' p=some (.tup (e.told.key.map kV))->Q (.ref p) H')
theorem ZjU:FnScope ["thing"] ["thing"] (Zal ZeI):=⟨rfl,rfl,rfl,by decide +kernel,rfl,by decide +kernel,by decide +kernel⟩
def ZjY (T:Tx K w mg):Sp:=fun vs H Q E=>vs.length=1∧(∃ x,vs=[x]∧((∃ ty,Kd K H x ty∧W.kitOne K ty (.type "str")=some false∧Q (.bl false) H)∨∃ l,x=.str l∧Q (.bl (ZmC l)) H))
theorem Zl9:FnScope ["one","other"] ["one","other"] (Zal Zhu):=⟨rfl,rfl,rfl,by decide +kernel,rfl,by decide +kernel,by decide +kernel⟩
def ZlZ (T:Tx K w mg):Sp:=fun vs H Q E=>vs.length=2∧(∃ a b,vs=[.str a,.str b]∧∀ H' p,Same H H'->H p=none->H' p=some (.tup [.str (Zai a b).1,.str (Zai a b).2])->Q (.ref p) H')
theorem Zf7:FnScope ["self"] ["self"] (Zal ZcO):=⟨rfl,rfl,rfl,by decide +kernel,rfl,by decide +kernel,by decide +kernel⟩
def Zgb (T:Tx K w mg):Sp:=fun vs H Q E=>vs.length=1∧(∃ b dx,vs=[.ref b]∧H b=some (.ins T.c_Book dx [])∧∀ H' k bi li ti su,BkAt K T.c_Book H' b dx k bi li ti su bk0->(∀ c o,H c=some o->c≠b->H' c=some o)->H k=none->H bi=none->H li=none->H ti=none->H su=none->Q .non H')
theorem Zgc:FnScope ["self","name"] ["self","name"] (Zal ZcP):=⟨rfl,rfl,rfl,by decide +kernel,rfl,by decide +kernel,by decide +kernel⟩
def Zge (T:Tx K w mg):Sp:=fun vs H Q E=>vs.length=2∧(∃ v x B,vs=[v,x]∧BkHas K T.c_Book H v B∧((∃ ty,Kd K H x ty∧W.kitOne K ty (.type "str")=some false∧E (.ref T.c_NoPerson) none H)∨∃ n,x=.str n∧(ZaA n B.kept=none->E (.ref T.c_NoPerson) none H)∧∀ p,ZaA n B.kept=some p->Q (.ref p.2) H))
theorem ZgW:FnScope ["self","name"] ["self","name"] (Zal Zc2):=⟨rfl,rfl,rfl,by decide +kernel,rfl,by decide +kernel,by decide +kernel⟩
def ZgN (T:Tx K w mg):Sp:=fun vs H Q E=>vs.length=2∧(False)
theorem ZgB:FnScope ["self","name"] ["self","name"] (Zal Zc1):=⟨rfl,rfl,rfl,by decide +kernel,rfl,by decide +kernel,by decide +kernel⟩
def Zgy (T:Tx K w mg):Sp:=fun vs H Q E=>vs.length=2∧(∃ v x B,vs=[v,x]∧BkHas K T.c_Book H v B∧((∃ ty,Kd K H x ty∧W.kitOne K ty (.type "str")=some false∧E (.ref T.c_NoPerson) none H)∨∃ n,x=.str n∧(ZaA n B.kept=none->E (.ref T.c_NoPerson) none H)∧∀ p,ZaA n B.kept=some p->∀ n' s d f m,p.1=.born n' s d f m->Q (.int d) H))
theorem ZeP:FnScope ["self","name","sort","day"] ["self","name","sort","day"] (Zal Zcd):=⟨rfl,rfl,rfl,by decide +kernel,rfl,by decide +kernel,by decide +kernel⟩
def ZeB (T:Tx K w mg):Sp:=fun vs H Q E=>vs.length=4∧(∃ v s d,vs=[v,.str "",s,.int d]∧Q (.bl true) H)
theorem ZfX:FnScope ["self","entry","names"] ["self","entry"] (Zal Ze3):=⟨rfl,rfl,rfl,by decide +kernel,rfl,by decide +kernel,by decide +kernel⟩
def Zjg (T:Tx K w mg):Sp:=fun vs H Q E=>vs.length=2∧(∃ v x B e,vs=[v,x]∧BkHas K T.c_Book H v B∧EntAt K H x e∧e.bare=true∧(∀ n∈e.named,Known B n)∧∀ H',Same H H'->Q (.bl (ZdF B e)) H')
theorem Zev:FnScope ["self","entry","name"] ["self","entry"] (Zal Zdn):=⟨rfl,rfl,rfl,by decide +kernel,rfl,by decide +kernel,by decide +kernel⟩
def ZhB (T:Tx K w mg):Sp:=fun vs H Q E=>vs.length=2∧(∃ v x B e,vs=[v,x]∧BkHas K T.c_Book H v B∧EntAt K H x e∧e.Ok∧e.bare=true∧Zjd B e=none∧∀ H',Same H H'->Q .non H')
theorem ZjO:FnScope ["self","letter","begin","end"] ["self","letter","begin","end"] (Zal Ze0):=⟨rfl,rfl,rfl,by decide +kernel,rfl,by decide +kernel,by decide +kernel⟩
def Zki (T:Tx K w mg):Sp:=fun vs H Q E=>vs.length=4∧(∃ b dx k bi li ti su B l n m,vs=[.ref b,.str l,.str n,.str m]∧BkAt K T.c_Book H b dx k bi li ti su B∧(ZbU B l n).length≤61∧B.links.length≤900∧∀ H' D,BkAt K T.c_Book H' b dx k bi li ti su { B with links:=ZbQ B.links (l,n) (D,Zie (ZbU B l n++[m])) }->But [li] H H'->H D=none->Q .non H')
theorem Zfe:FnScope ["self","entry"] ["self","entry"] (Zal Zcm):=⟨rfl,rfl,rfl,by decide +kernel,rfl,by decide +kernel,by decide +kernel⟩
def Zfd (T:Tx K w mg):Sp:=fun vs H Q E=>vs.length=2∧(∃ b dx k bi li ti su B0 B n s d a,vs=[.ref b,.ref a]∧B.kept=B0++[(.born n s d "" "",a)]∧H b=some (.ins T.c_Book dx (bkF k bi li ti su))∧H bi=some (.dK (Bk.bornD B0))∧ZaA n B0=none∧B0.length≤900∧SqT K H a ((Ent.born n s d "" "").row.map kV)∧BkAt K T.c_Book (upd H bi (.dK (Bk.bornD B.kept))) b dx k bi li ti su B∧Q .non (upd H bi (.dK (Bk.bornD B.kept))))
theorem Zkf:FnScope ["self","letter","name"] ["self","letter","name"] (Zal ZeC):=⟨rfl,rfl,rfl,by decide +kernel,rfl,by decide +kernel,by decide +kernel⟩
def Zkl (T:Tx K w mg):Sp:=fun vs H Q E=>vs.length=3∧(∃ v x y B,vs=[v,x,y]∧BkHas K T.c_Book H v B∧((∃ ty,Kd K H x ty∧W.kitOne K ty (.type "str")=some false∧E (.ref T.c_NoWay) none H)∨∃ l,x=.str l∧(ZmC l=false->E (.ref T.c_NoWay) none H)∧(ZmC l=true->((∃ ty,Kd K H y ty∧W.kitOne K ty (.type "str")=some false∧E (.ref T.c_NoPerson) none H)∨∃ n,y=.str n∧(ZaA n B.kept=none->E (.ref T.c_NoPerson) none H)∧(Known B n->∀ H' D,Same H H'->H D=none->H' D=some (.lst ((ZbU B l n).map V.str))->Q (.ref D) H')))))
theorem Zc8:FnScope ["self","one","other","day","ties","days"] ["self","one","other","day"] (Zal ZaO):=⟨rfl,rfl,rfl,by decide +kernel,rfl,by decide +kernel,by decide +kernel⟩
def ZhC (T:Tx K w mg):Sp:=fun vs H Q E=>vs.length=4∧(∃ v a c z B,vs=[v,.str a,.str c,z]∧(z=.non∨∃ d,z=.int d)∧BkHas K T.c_Book H v B∧Known B a∧Known B c∧(Zbn B (Zai a c)).length≤900∧∀ H',Same H H'->Q (.bl (ZdY B z a c)) H')
theorem Zb6:FnScope ["self","entry","days","begin","end"] ["self","entry"] (Zal ZcN):=⟨rfl,rfl,rfl,by decide +kernel,rfl,by decide +kernel,by decide +kernel⟩
def Zga (T:Tx K w mg):Sp:=fun vs H Q E=>vs.length=2∧(∃ b dx k bi li ti su B a kd p1 p2 d,vs=[.ref b,.ref a]∧SqT K H a [.str kd,.str p1,.str p2,.int d]∧BkAt K T.c_Book H b dx k bi li ti su B∧Known B p1∧Known B p2∧(B.ties.map (·.1)).Nodup∧B.ties.length≤800∧(Zbn B (Zai p1 p2)).length≤800∧B.links.length≤880∧(∀ c,(lk B.links c).length≤60)∧∀ H' ls ts y,BkAt K T.c_Book H' b dx k bi li ti su { B with links:=ls,ties:=ts }->(ts.map (·.1)).Nodup->ts.length≤B.ties.length+1->(∀ c,ZiJ ts c=if c=Zai p1 p2 then ZbQ (Zbn B (Zai p1 p2)) d kd else Zbn B c)->(∀ c,lk ls c=ZbT (ZbT (lk B.links) (Zcn (ZbQ (Zbn B (Zai p1 p2)) d kd)) p1 p2) (Zcn (ZbQ (Zbn B (Zai p1 p2)) d kd)) p2 p1 c)->ls.length≤B.links.length+4->But [li,ti,y] H H'->(H y=none∨y∈B.ties.map (·.2.1))->GrowsT H B.ties ts->Grows H B.links ls->Q .non H')
theorem Ze1:FnScope ["self","entry","told","given"] ["self","entry"] (Zal Zfo):=⟨rfl,rfl,rfl,by decide +kernel,rfl,by decide +kernel,by decide +kernel⟩
def ZkQ (T:Tx K w mg):Sp:=fun vs H Q E=>vs.length=2∧(∃ b dx k bi li ti su B x e,vs=[.ref b,x]∧BkAt K T.c_Book H b dx k bi li ti su B∧EntAt K H x e∧e.Ok∧e.bare=true∧Zjd B e=none∧Room1 B∧∀ H' B' y,BkAt K T.c_Book H' b dx k bi li ti su B'->Put B e B'->But [k,bi,li,ti,su,y] H H'->(H y=none∨y=bi∨y∈B.ties.map (·.2.1))->Grows H B.links B'.links->GrowsT H B.ties B'.ties->Q .non H')
theorem Zg4:FnScope ["self"] ["self"] (Zal Zc7):=⟨rfl,rfl,rfl,by decide +kernel,rfl,by decide +kernel,by decide +kernel⟩
def Zgw (T:Tx K w mg):Sp:=fun vs H Q E=>vs.length=1∧(∃ v B,vs=[v]∧BkHas K T.c_Book H v B∧B.kept.length≤900∧∀ H' D (out:List (Ent × Addr)),Same H H'->H D=none->out.Perm B.kept->((out.map fun p=>p.1.row).Pairwise fun x y=>SA.rLt y x=false)->H' D=some (.lst (ZaS out))->Q (.ref D) H')
theorem Zd1:FnScope ["self","name","death"] ["self","name"] (Zal Zc0):=⟨rfl,rfl,rfl,by decide +kernel,rfl,by decide +kernel,by decide +kernel⟩
def Zhm (T:Tx K w mg):Sp:=fun vs H Q E=>vs.length=2∧(∃ v x B,vs=[v,x]∧BkHas K T.c_Book H v B∧((ZpQ K H B x∧E (.ref T.c_NoPerson) none H)∨∃ n,x=.str n∧Known B n∧∀ H',Same H H'->Q (ZjN B n) H'))
theorem Zjp:FnScope ["self","giver","taker"] ["self","giver","taker"] (Zal Zez):=⟨rfl,rfl,rfl,by decide +kernel,rfl,by decide +kernel,by decide +kernel⟩
def Zjj (T:Tx K w mg):Sp:=fun vs H Q E=>vs.length=3∧(∃ v a c B,vs=[v,.str a,.str c]∧BkHas K T.c_Book H v B∧Known B a∧Known B c∧∀ H',Same H H'->Q (.int (Zit B.sums (a,c))) H')
theorem Zdm:FnScope ["self","day","book","entry"] ["self","day"] (Zal ZdW):=⟨rfl,rfl,rfl,by decide +kernel,rfl,by decide +kernel,by decide +kernel⟩
def ZiB (T:Tx K w mg):Sp:=fun vs H Q E=>vs.length=2∧(∃ b dx k bi li ti su B d,vs=[.ref b,.int d]∧BkAt K T.c_Book H b dx k bi li ti su B∧Gd (B.kept.map (·.1))∧∀ H' b' dx' k' bi' li' ti' su' B',BkAt K T.c_Book H' b' dx' k' bi' li' ti' su' B'->SB B' ((B.kept.map (·.1)).filter fun e=>decide (e.day≤d))->Same H H'->(∀ c∈[k',bi',li',ti',su'],H c=none)->(∀ c∈B'.ties.map (·.2.1),H c=none)->Q (.ref b') H')
theorem ZgL:FnScope ["_law_script","_law_k"] ["_law_script","_law_k"] (Zal ZcZ):=⟨rfl,rfl,rfl,by decide +kernel,rfl,by decide +kernel,by decide +kernel⟩
def ZgM (T:Tx K w mg):Sp:=fun vs H Q E=>vs.length=2∧(∃ (l:Addr) (ns:List Int) (k:Int),vs=[.ref l,.int k]∧SqL K H l (ns.map V.int)∧0≤k∧∀ z,Q (.int z) H)
theorem ZiL:FnScope ["_law_found"] ["_law_found"] (Zal ZdJ):=⟨rfl,rfl,rfl,by decide +kernel,rfl,by decide +kernel,by decide +kernel⟩
def ZiS (T:Tx K w mg):Sp:=fun vs H Q E=>vs.length=1∧(∃ i,vs=[.int i]∧Q (.bl true) H)
theorem ZaG:FnScope ["_law_cell","_law_many","_law_size","_law_at","_law_beside","_law_short","_law_names_here","_law_k","_law_name","_law_j","_law_number"] ["_law_cell","_law_many"] (Zal ZdL):=⟨rfl,rfl,rfl,by decide +kernel,rfl,by decide +kernel,by decide +kernel⟩
def ZiE (T:Tx K w mg):Sp:=fun vs H Q E=>vs.length=2∧(∃ c m,vs=[.int c,.int m]∧0≤m∧m≤60∧∀ (H':Hp) (D:Addr) (ns:List Str),Same H H'->H' D=some (.lst (ns.map V.str))->ns.length=m.toNat->(∀ x∈ns,Nm x)->ns.Nodup->Q (.ref D) H')
theorem Zd5:FnScope ["_law_cell","_law_k","_law_many","_law_by","_law_prime"] ["_law_cell","_law_k","_law_many"] (Zal ZeY):=⟨rfl,rfl,rfl,by decide +kernel,rfl,by decide +kernel,by decide +kernel⟩
def ZjA (T:Tx K w mg):Sp:=fun vs H Q E=>vs.length=3∧(∃ c k m,vs=[.int c,.int k,.int m]∧0≤k∧k<4∧0<m∧∀ H' z,Same H H'->0≤z->z<m->Q (.int z) H')
theorem Zli:FnScope ["_law_cell"] ["_law_cell"] (Zal Zfr):=⟨rfl,rfl,rfl,by decide +kernel,rfl,by decide +kernel,by decide +kernel⟩
def Zlm (T:Tx K w mg):Sp:=fun vs H Q E=>vs.length=1∧(∃ c,vs=[.int c]∧∀ H' z,Same H H'->-9*10 ^ 17≤z->z≤9*10 ^ 17->Q (.int z) H')
theorem Zcu:FnScope ["_law_script","_law_names_here","_law_births_here","_law_k","_law_day_here"] ["_law_script","_law_names_here"] (Zal Zdk):=⟨rfl,rfl,rfl,by decide +kernel,rfl,by decide +kernel,by decide +kernel⟩
def ZhD (T:Tx K w mg):Sp:=fun vs H Q E=>vs.length=2∧(∃ (l:Addr) (ns:List Int) (D:Addr) (nms:List Str),vs=[.ref l,.ref D]∧SqL K H l (ns.map V.int)∧SqL K H D (nms.map V.str)∧nms.length≤5∧∀ H' Db (bs:List (Ent × Addr)),Same H H'->H Db=none->H' Db=some (.lst (ZaS bs))->RowsAt K H' bs->B7 nms (bs.map (·.1))->bs.length=nms.length->Q (.ref Db) H')
theorem Zf1:FnScope ["_law_names_here","_law_cell","_law_one"] ["_law_names_here","_law_cell"] (Zal ZeN):=⟨rfl,rfl,rfl,by decide +kernel,rfl,by decide +kernel,by decide +kernel⟩
def Zku (T:Tx K w mg):Sp:=fun vs H Q E=>vs.length=2∧(∃ (D:Addr) (nms:List Str) (c:Int),vs=[.ref D,.int c]∧SqL K H D (nms.map V.str)∧2≤nms.length∧nms.Nodup∧∀ H' P a b,Same H H'->H P=none->H' P=some (.lst [.str a,.str b])->a∈nms->b∈nms->a≠b->Q (.ref P) H')
theorem ZcX:FnScope ["_law_rows","_law_one","_law_other","_law_day_here","_law_last","_law_row"] ["_law_rows","_law_one","_law_other","_law_day_here"] (Zal Zex):=⟨rfl,rfl,rfl,by decide +kernel,rfl,by decide +kernel,by decide +kernel⟩
def ZjC (T:Tx K w mg):Sp:=fun vs H Q E=>vs.length=4∧(∃ (R:Addr) (rs:List (Ent × Addr)) (a b:Str) (d:Int),vs=[.ref R,.str a,.str b,.int d]∧SqL K H R (ZaS rs)∧RowsAt K H rs∧(∀ p∈rs,p.1.two=true)∧∀ H',Same H H'->Q (.bl (Zjz ((rs.map (·.1)).filter fun e=>decide (e.day≤d)) a b)) H')
theorem Zkp:FnScope ["_law_rows","_law_one","_law_other"] ["_law_rows","_law_one","_law_other"] (Zal ZeV):=⟨rfl,rfl,rfl,by decide +kernel,rfl,by decide +kernel,by decide +kernel⟩
def Zjq (T:Tx K w mg):Sp:=fun vs H Q E=>vs.length=3∧(∃ (R:Addr) (rs:List (Ent × Addr)) (a b:Str),vs=[.ref R,.str a,.str b]∧SqL K H R (ZaS rs)∧RowsAt K H rs∧rs.length≤900∧∀ H',Same H H'->Q (.int (ZfH (a,b) (rs.map (·.1)))) H')
theorem Zf6:FnScope ["_law_rows","_law_entry_here","_law_row"] ["_law_rows","_law_entry_here"] (Zal ZeZ):=⟨rfl,rfl,rfl,by decide +kernel,rfl,by decide +kernel,by decide +kernel⟩
def ZjZ (T:Tx K w mg):Sp:=fun vs H Q E=>vs.length=2∧(∃ (R:Addr) (rs:List (Ent × Addr)) (v:Addr) (e:Ent),vs=[.ref R,.ref v]∧SqL K H R (ZaS rs)∧RowsAt K H rs∧(∀ p∈rs,p.1.two=true)∧SqT K H v (e.row.map kV)∧e.two=true∧(∀ H',Same H H'->(∃ p∈rs,p.1.told.key=e.told.key)->Q (.bl false) H')∧∀ H',Same H H'->(∀ p∈rs,p.1.told.key≠e.told.key)->Q (.bl true) H')
theorem ZcG:FnScope ["_law_names_here","_law_cell","_law_one","_law_other","_law_kind"] ["_law_names_here","_law_cell"] (Zal Zea):=⟨rfl,rfl,rfl,by decide +kernel,rfl,by decide +kernel,by decide +kernel⟩
def Zja (T:Tx K w mg):Sp:=fun vs H Q E=>vs.length=2∧(∃ (D:Addr) (nms:List Str) (c:Int),vs=[.ref D,.int c]∧SqL K H D (nms.map V.str)∧2≤nms.length∧nms.Nodup∧∀ (H':Hp) (t:Addr) (e:Ent),Same H H'->H t=none->H' t=some (.tup (e.row.map kV))->D7 nms e->Q (.ref t) H')
theorem Ziv:FnScope ["_law_found","_law_due"] ["_law_found","_law_due"] (Zal ZdM):=⟨rfl,rfl,rfl,by decide +kernel,rfl,by decide +kernel,by decide +kernel⟩
def Zi9 (T:Tx K w mg):Sp:=fun vs H Q E=>vs.length=2∧(∃ x,vs=[.bl x,.bl x]∧Q (.bl true) H)
theorem ZbP:FnScope ["_law_book","_law_rows","_law_names_here","_law_cell","_law_one","_law_other","_law_day_here","_law_then","_law_found"] ["_law_book","_law_rows","_law_names_here","_law_cell"] (Zal Zd3):=⟨rfl,rfl,rfl,by decide +kernel,rfl,by decide +kernel,by decide +kernel⟩
def Ziz (T:Tx K w mg):Sp:=fun vs H Q E=>vs.length=4∧(∃ b dx k bi li ti su B R rs D nms bs c,vs=[.ref b,.ref R,.ref D,.int c]∧BkAt K T.c_Book H b dx k bi li ti su B∧SB B (es7 bs (rs.map (·.1)))∧W7 nms bs (rs.map (·.1))∧SqL K H R (ZaS rs)∧RowsAt K H rs∧SqL K H D (nms.map V.str)∧∀ H',Same H H'->Q (.bl true) H')
theorem Zh8:FnScope ["_law_row"] ["_law_row"] (Zal ZdI):=⟨rfl,rfl,rfl,by decide +kernel,rfl,by decide +kernel,by decide +kernel⟩
def Zig (T:Tx K w mg):Sp:=fun vs H Q E=>vs.length=1∧(∃ (a:Addr) (e:Ent),vs=[.ref a]∧SqT K H a (e.row.map kV)∧e.two=true∧∀ H' t,Same H H'->SqT K H' t (e.told.row.map kV)->Q (.ref t) H')
theorem Zbx:FnScope ["_law_book","_law_births_here","_law_rows","_law_day_here","_law_due","_law_early","_law_part","_law_one","_law_other"] ["_law_book","_law_births_here","_law_rows","_law_day_here"] (Zal ZdH):=⟨rfl,rfl,rfl,by decide +kernel,rfl,by decide +kernel,by decide +kernel⟩
def Zi3 (T:Tx K w mg):Sp:=fun vs H Q E=>vs.length=4∧(∃ b dx k bi li ti su B R rs D bs nms d,vs=[.ref b,.ref D,.ref R,.int d]∧BkAt K T.c_Book H b dx k bi li ti su B∧SB B (es7 (bs.map (·.1)) (rs.map (·.1)))∧W7 nms (bs.map (·.1)) (rs.map (·.1))∧SqL K H R (ZaS rs)∧RowsAt K H rs∧SqL K H D (ZaS bs)∧RowsAt K H bs∧-9*10 ^ 17≤d∧d≤9*10 ^ 17∧∀ H' B' n0 n1,BkAt K T.c_Book H' b dx k bi li ti su B'->SB B' (es7 (bs.map (·.1)) (rs.map (·.1))++[.given n0 n1 7 (10 ^ 18)])->nms[0]?=some n0->nms[1]?=some n1->Keeps K H H'->Q (.bl true) H')
theorem Zd8:FnScope ["_law_script","_law_names_here","_law_births_here","_law_rows","_law_book","_law_row","_law_day_here","_law_cell","_law_entry_here","_law_last"] ["_law_script"] (Zal Zqx):=⟨rfl,rfl,rfl,by decide +kernel,rfl,by decide +kernel,by decide +kernel⟩
def ZpN (T:Tx K w mg):Sp:=fun vs H Q E=>vs.length=1∧(∃ (l:Addr) (ns:List Int),vs=[.ref l]∧SqL K H l (ns.map V.int)∧ns.length≤63∧∀ H',Q (.bl true) H')
abbrev ZfE (P:Program) (base:Heap) (T:Tx K w mg):Prop:=FnOk P w K mg base (CX1 P w) 1 T.ZbB.a (Zcc K T.ZbB.a) ["thing"] (Zle T)
abbrev ZgO (P:Program) (base:Heap) (T:Tx K w mg):Prop:=FnOk P w K mg base (CX1 P w) 1 T.ZaH.a (Zcc K T.ZaH.a) ["thing"] (ZhW T)
abbrev ZlW (P:Program) (base:Heap) (T:Tx K w mg):Prop:=FnOk P w K mg base (CX1 P w) 2 T.Zbt.a (Zcc K T.Zbt.a) ["thing"] (Zj5 T)
abbrev Zgv (P:Program) (base:Heap) (T:Tx K w mg):Prop:=FnOk P w K mg base (CX1 P w) 2 T.Zbh.a (Zcc K T.Zbh.a) ["thing"] (ZfU T)
abbrev Zkh (P:Program) (base:Heap) (T:Tx K w mg):Prop:=FnOk P w K mg base (CX1 P w) 1 T.Zb0.a (Zcc K T.Zb0.a) ["thing"] (ZhP T)
abbrev ZgG (P:Program) (base:Heap) (T:Tx K w mg):Prop:=FnOk P w K mg base (CX1 P w) 2 T.Zba.a (Zcc K T.Zba.a) ["thing"] (ZfZ T)
abbrev ZhO (P:Program) (base:Heap) (T:Tx K w mg):Prop:=FnOk P w K mg base (CX1 P w) 3 T.Zco.a (Zcc K T.Zco.a) ["parts","checks"] (Zk2 T)
abbrev ZhU (P:Program) (base:Heap) (T:Tx K w mg):Prop:=FnOk P w K mg base (CX1 P w) 4 T.Zci.a (Zcc K T.Zci.a) ["thing"] (Zlg T)
abbrev Zid (P:Program) (base:Heap) (T:Tx K w mg):Prop:=FnOk P w K mg base (CX1 P w) 1 T.Zcw.a (Zcc K T.Zcw.a) ["entry"] (Zn8 T)
abbrev Zfv (P:Program) (base:Heap) (T:Tx K w mg):Prop:=FnOk P w K mg base (CX1 P w) 1 T.ZbA.a (Zcc K T.ZbA.a) ["entry"] (Zlp T)
abbrev Ziw (P:Program) (base:Heap) (T:Tx K w mg):Prop:=FnOk P w K mg base (CX1 P w) 1 T.Zcx.a (Zcc K T.Zcx.a) ["entry"] (ZnI T)
abbrev ZgZ (P:Program) (base:Heap) (T:Tx K w mg):Prop:=FnOk P w K mg base (CX1 P w) 2 T.Zb4.a (Zcc K T.Zb4.a) ["entry"] (Zms T)
abbrev ZiO (P:Program) (base:Heap) (T:Tx K w mg):Prop:=FnOk P w K mg base (CX1 P w) 3 T.Zct.a (Zcc K T.Zct.a) ["entry"] (ZnS T)
abbrev Zhq (P:Program) (base:Heap) (T:Tx K w mg):Prop:=FnOk P w K mg base (CX1 P w) 1 T.Zb8.a (Zcc K T.Zb8.a) ["thing"] (ZjY T)
abbrev Zhr (P:Program) (base:Heap) (T:Tx K w mg):Prop:=FnOk P w K mg base (CX1 P w) 1 T.Zb2.a (Zcc K T.Zb2.a) ["one","other"] (ZlZ T)
abbrev ZcQ (P:Program) (base:Heap) (T:Tx K w mg):Prop:=FnOk P w K mg base (CX1 P w) 1 T.Zbc.a (Zcc K T.Zbc.a) ["self"] (Zgb T)
abbrev ZaW (P:Program) (base:Heap) (T:Tx K w mg):Prop:=FnOk P w K mg base (CX1 P w) 1 T.Zap.a (Zcc K T.Zap.a) ["self","name"] (Zge T)
abbrev Zes (P:Program) (base:Heap) (T:Tx K w mg):Prop:=FnOk P w K mg base (CX1 P w) 2 T.Zby.a (Zcc K T.Zby.a) ["self","name"] (ZgN T)
abbrev Zc6 (P:Program) (base:Heap) (T:Tx K w mg):Prop:=FnOk P w K mg base (CX1 P w) 2 T.ZaF.a (Zcc K T.ZaF.a) ["self","name"] (Zgy T)
abbrev ZcY (P:Program) (base:Heap) (T:Tx K w mg):Prop:=FnOk P w K mg base (CX1 P w) 3 T.ZaJ.a (Zcc K T.ZaJ.a) ["self","name","sort","day"] (ZeB T)
abbrev Zg3 (P:Program) (base:Heap) (T:Tx K w mg):Prop:=FnOk P w K mg base (CX1 P w) 4 T.Zck.a (Zcc K T.Zck.a) ["self","entry"] (Zjg T)
abbrev Zfb (P:Program) (base:Heap) (T:Tx K w mg):Prop:=FnOk P w K mg base (CX1 P w) 5 T.ZbR.a (Zcc K T.ZbR.a) ["self","entry"] (ZhB T)
abbrev Zdq (P:Program) (base:Heap) (T:Tx K w mg):Prop:=FnOk P w K mg base (CX1 P w) 1 T.ZaE.a (Zcc K T.ZaE.a) ["self","letter","begin","end"] (Zki T)
abbrev Zdj (P:Program) (base:Heap) (T:Tx K w mg):Prop:=FnOk P w K mg base (CX1 P w) 2 T.Za8.a (Zcc K T.Za8.a) ["self","entry"] (Zfd T)
abbrev Zhd (P:Program) (base:Heap) (T:Tx K w mg):Prop:=FnOk P w K mg base (CX1 P w) 2 T.Zcq.a (Zcc K T.Zcq.a) ["self","letter","name"] (Zkl T)
abbrev Zdo (P:Program) (base:Heap) (T:Tx K w mg):Prop:=FnOk P w K mg base (CX1 P w) 2 T.a_Book_stands T.fd_Book_stands ["self","one","other","day"] (ZhC T)
abbrev ZdK (P:Program) (base:Heap) (T:Tx K w mg):Prop:=FnOk P w K mg base (CX1 P w) 3 T.Zbr.a (Zcc K T.Zbr.a) ["self","entry"] (Zga T)
abbrev Zem (P:Program) (base:Heap) (T:Tx K w mg):Prop:=FnOk P w K mg base (CX1 P w) 6 T.Za2.a (Zcc K T.Za2.a) ["self","entry"] (ZkQ T)
abbrev Zet (P:Program) (base:Heap) (T:Tx K w mg):Prop:=FnOk P w K mg base (CX1 P w) 1 T.Za5.a (Zcc K T.Za5.a) ["self"] (Zgw T)
abbrev Zeu (P:Program) (base:Heap) (T:Tx K w mg):Prop:=FnOk P w K mg base (CX1 P w) 2 T.Za6.a (Zcc K T.Za6.a) ["self","name"] (Zhm T)
abbrev Zdu (P:Program) (base:Heap) (T:Tx K w mg):Prop:=FnOk P w K mg base (CX1 P w) 2 T.Zbi.a (Zcc K T.Zbi.a) ["self","giver","taker"] (Zjj T)
abbrev ZdZ (P:Program) (base:Heap) (T:Tx K w mg):Prop:=FnOk P w K mg base (CX1 P w) 7 T.Za4.a (Zcc K T.Za4.a) ["self","day"] (ZiB T)
abbrev Zc3 (P:Program) (base:Heap) (T:Tx K w mg):Prop:=FnOk P w K mg base (CX1 P w) 1 T.ZaD.a (Zcc K T.ZaD.a) ["_law_script","_law_k"] (ZgM T)
abbrev ZfP (P:Program) (base:Heap) (T:Tx K w mg):Prop:=FnOk P w K mg base (CX1 P w) 1 T.ZbM.a (Zcc K T.ZbM.a) ["_law_found"] (ZiS T)
abbrev ZfW (P:Program) (base:Heap) (T:Tx K w mg):Prop:=FnOk P w K mg base (CX1 P w) 1 T.ZbK.a (Zcc K T.ZbK.a) ["_law_cell","_law_many"] (ZiE T)
abbrev ZeU (P:Program) (base:Heap) (T:Tx K w mg):Prop:=FnOk P w K mg base (CX1 P w) 1 T.ZaR.a (Zcc K T.ZaR.a) ["_law_cell","_law_k","_law_many"] (ZjA T)
abbrev Zen (P:Program) (base:Heap) (T:Tx K w mg):Prop:=FnOk P w K mg base (CX1 P w) 1 T.ZaQ.a (Zcc K T.ZaQ.a) ["_law_cell"] (Zlm T)
abbrev Zfc (P:Program) (base:Heap) (T:Tx K w mg):Prop:=FnOk P w K mg base (CX1 P w) 2 T.Zbv.a (Zcc K T.Zbv.a) ["_law_script","_law_names_here"] (ZhD T)
abbrev Ze2 (P:Program) (base:Heap) (T:Tx K w mg):Prop:=FnOk P w K mg base (CX1 P w) 2 T.Zbf.a (Zcc K T.Zbf.a) ["_law_names_here","_law_cell"] (Zku T)
abbrev Zhf (P:Program) (base:Heap) (T:Tx K w mg):Prop:=FnOk P w K mg base (CX1 P w) 1 T.Zbg.a (Zcc K T.Zbg.a) ["_law_rows","_law_one","_law_other","_law_day_here"] (ZjC T)
abbrev Zds (P:Program) (base:Heap) (T:Tx K w mg):Prop:=FnOk P w K mg base (CX1 P w) 1 T.ZaT.a (Zcc K T.ZaT.a) ["_law_rows","_law_one","_law_other"] (Zjq T)
abbrev Zha (P:Program) (base:Heap) (T:Tx K w mg):Prop:=FnOk P w K mg base (CX1 P w) 1 T.Zb7.a (Zcc K T.Zb7.a) ["_law_rows","_law_entry_here"] (ZjZ T)
abbrev Zf2 (P:Program) (base:Heap) (T:Tx K w mg):Prop:=FnOk P w K mg base (CX1 P w) 3 T.ZbG.a (Zcc K T.ZbG.a) ["_law_names_here","_law_cell"] (Zja T)
abbrev Zf4 (P:Program) (base:Heap) (T:Tx K w mg):Prop:=FnOk P w K mg base (CX1 P w) 1 T.ZaL.a (Zcc K T.ZaL.a) ["_law_found","_law_due"] (Zi9 T)
abbrev ZfY (P:Program) (base:Heap) (T:Tx K w mg):Prop:=FnOk P w K mg base (CX1 P w) 8 T.ZbF.a (Zcc K T.ZbF.a) ["_law_book","_law_rows","_law_names_here","_law_cell"] (Ziz T)
abbrev ZfR (P:Program) (base:Heap) (T:Tx K w mg):Prop:=FnOk P w K mg base (CX1 P w) 1 T.ZbI.a (Zcc K T.ZbI.a) ["_law_row"] (Zig T)
abbrev ZfV (P:Program) (base:Heap) (T:Tx K w mg):Prop:=FnOk P w K mg base (CX1 P w) 8 T.ZbH.a (Zcc K T.ZbH.a) ["_law_book","_law_births_here","_law_rows","_law_day_here"] (Zi3 T)
abbrev ZrP (P:Program) (base:Heap) (T:Tx K w mg):Prop:=FnOk P w K mg base (CX1 P w) 9 T.ZkZ.a (Zcc K T.ZkZ.a) ["_law_script"] (ZpN T)
theorem Ztc:(["name"]:List Str).Nodup:=by decide +kernel
theorem Zta:(["name","entry","self"]:List Str).Nodup:=by decide +kernel
theorem Zs7:(["tied_on","day"]:List Str).Nodup:=by decide +kernel
theorem ZsQ:(["name","end"]:List Str).Nodup:=by decide +kernel
theorem ZsS:(["_law_row","_law_one","_law_other"]:List Str).Nodup:=by decide +kernel
theorem Ztb:(["_law_row","_law_births_here"]:List Str).Nodup:=by decide +kernel
theorem ZsB:(["_law_row","_law_day_here"]:List Str).Nodup:=by decide +kernel
end
section
variable {K:W.Frag} {mg:Str->Option Value}
def spC (K:W.Frag) (f:Vk->Bool):Sp:=fun vs H Q _=>vs.length=1∧∃ x t,vs=[x]∧Vw K H x t∧∀ H',Same H H'->Q (.bl (f t)) H'
def Fam (T:Tx K w mg):Addr->Sp->Prop:=fun f sp=>∃ c,f=T.ad c∧sp=spC K (chk c)
theorem Zq6 {P : Program} {w : World} {base : Heap} {X : Cx} (T : Tx K w mg) (h1 : FnOk P w K mg base (CX1 P w) 1 T.ZaH.a (Zcc K T.ZaH.a) ["thing"] (ZhW T)) (h2 : FnOk P w K mg base (CX1 P w) 1 T.Zb0.a (Zcc K T.Zb0.a) ["thing"] (ZhP T))
  (h3:FnOk P w K mg base (CX1 P w) 2 T.Zbt.a (Zcc K T.Zbt.a) ["thing"] (Zj5 T)) (h4:FnOk P w K mg base (CX1 P w) 2 T.Zbh.a (Zcc K T.Zbh.a) ["thing"] (ZfU T)) (h5:FnOk P w K mg base (CX1 P w) 2 T.Zba.a (Zcc K T.Zba.a) ["thing"] (ZfZ T))
  (hr:Room 2 X.A) (e1:X.prog=P) (e2:X.w=w) (e3:X.K=K) (e4:X.mg=mg) (e5:X.base=base):ZrA X (CX1 P w) (Fam T):=by
 subst e1 e2 e3 e4 e5
 rintro f sp ⟨c,rfl,rfl⟩
 cases c with
 | name=>exact ⟨1,_,_,h1,hr.mono (by decide),T.ZaH.F.kp,T.ZaH.b⟩
 | sort=>exact ⟨1,_,_,h2,hr.mono (by decide),T.Zb0.F.kp,T.Zb0.b⟩
 | day=>exact ⟨2,_,_,h3,hr,T.Zbt.F.kp,T.Zbt.b⟩
 | amount=>exact ⟨2,_,_,h4,hr,T.Zbh.F.kp,T.Zbh.b⟩
 | parent=>exact ⟨2,_,_,h5,hr,T.Zba.F.kp,T.Zba.b⟩
end
section
variable {P:Program} {w:World} {K:W.Frag} {mg:Str->Option Value} {base:Heap}
theorem ZkS (T:Tx K w mg)  : ZfE P base T:=by
 refine Fun.okX (k:=0) T.ZbB.F ZkM (fun vs H Q E h=>h.1) (fun cdv A outer s H vs Q E hr h=>?_)
 obtain ⟨-,h⟩:=h
 obtain ⟨x,t,rfl,hv,q⟩:=h
 refine ⟨_,(Zaj (Zax (ZcL (ZdC K (by rfl) T.n_isinstance (Zaa (pv 0) (Zaa (ZcA (v:=.ty "int") (by rfl) T.n_int ZpP rfl) Zad))) (ZcE (ZpG (ZdC K (by rfl) T.n_isinstance (Zaa (pv 0) (Zaa (ZcA (v:=.ty "bool") (by rfl) T.n_bool Zk6 rfl) Zad)))))))),?_⟩
 refine ⟨_,rfl,_,.ty "int",_,_,rfl,rfl,hv.kd,kI T t,_,rfl,?_⟩
 cases t with
 | int i=>exact Zda ⟨_,rfl,_,.ty "bool",_,_,rfl,rfl,hv.kd,T.k_int_bool,_,rfl,q _ (Same.refl H)⟩
 | bl=>exact Zda ⟨_,rfl,_,.ty "bool",_,_,rfl,rfl,hv.kd,T.k_bool_bool,_,rfl,q _ (Same.refl H)⟩
 | _=>exact Zdz (q _ (Same.refl H))
theorem Zl4 (T:Tx K w mg)  : ZgO P base T:=by
 refine Fun.okX (k:=0) T.ZaH.F Zma (fun vs H Q E h=>h.1) (fun cdv A outer s H vs Q E hr h=>?_)
 obtain ⟨-,h⟩:=h
 obtain ⟨x,t,rfl,hv,q⟩:=h
 refine ⟨_, (Zaf (Za9 (PW.pt (Zjk (Zdf (ZcD (ZdC K (by rfl) T.n_isinstance (Zaa (pv 0) (Zaa (ZcA (v := .ty "str") (by rfl) T.n_str ZhZ rfl) Zad))))) (Zjk (Zas Zo5 (Zaz ZfT (by rfl) T.n_len ZcM (Zaa (pv 0) Zad)) Zac (Zaw _)) (ZhT (Zas Zrq (Zaz ZfT (by rfl) T.n_len ZcM (Zaa (pv 0) Zad)) Zac (Zaw _)))))) (Zaj (Zax Zep)) Zay)
   (Zaj (Zax (Zaz (Zi2 rfl) (by rfl) T.n_all Znw (Zaa (ZdP (N:=["sign"]) (cl:=[]) (σc:=fun _=>[none]) rfl (ZnJ (L:=[(".0",.local),("sign",.local),("LETTERS",.globalImplicit)]) (by rfl) (by decide +kernel) (by decide +kernel) (by rfl) (by rfl) (by decide) (by rfl) (by simp)) (ZqM (pv 0)) (fun _ _ _=>(ZaM (i:=0) nd1 rfl (Or.inl rfl))) (fun _ _ _=>Zld) (fun _ _ _=>(Zbj Zng (pv 0) (ZgU (v:=.str Zhh) (by rfl) T.m_LETTERS ⟨_,rfl⟩) (by rfl)))) Zad))))),?_⟩
 refine ⟨_,rfl,_,.ty "str",_,_,rfl,rfl,hv.kd,kS T t,_,rfl,?_⟩
 cases t with
 | str z =>
  obtain ⟨e,hz⟩:=hv
  subst e
  have hs:z.length≤sizeLine:=Nat.le_of_lt (Zao (by omega))
  refine Zdz ⟨_,rfl,z,rfl,hs,_,_,rfl,rfl,_,rfl,?_⟩
  by_cases h1:((z.length:Nat):Int)<1
  ·rw [decide_eq_true h1]
   have e:Ze8 (.str z)=false:=by
    rw [ZfD]
    rw [decide_eq_false (show ¬ 1≤z.length by omega)]
    rfl
   rw [e] at q
   exact Zda (q _ (Same.refl H))
  rw [decide_eq_false h1]
  refine Zdz ⟨_,rfl,z,rfl,hs,_,_,rfl,rfl,_,rfl,?_⟩
  by_cases h2:(8:Int)<((z.length:Nat):Int)
  ·rw [decide_eq_true h2]
   have e:Ze8 (.str z)=false:=by
    rw [ZfD]
    rw [decide_eq_false (show ¬ z.length≤8 by omega),Bool.and_false]
    rfl
   rw [e] at q
   exact Zda (q _ (Same.refl H))
  rw [decide_eq_false h2]
  have e:Ze8 (.str z)=(z.cps.toList.map inL).all id:=by
   rw [ZfD]
   rw [decide_eq_true (show 1≤z.length by omega),decide_eq_true (show z.length≤8 by omega),List.all_map]
   rfl
  rw [e] at q
  have hl:z.cps.size=z.length:=rfl
  refine Zdz ⟨_,rfl,z,rfl,?_⟩
  refine Zh9 ((z.cps.toList.map inL).map V.bl) (by simp only [List.length_map,Array.length_toList]; exact Nat.lt_of_le_of_lt (Nat.le_of_eq hl) (Zao (by omega))) (fun σ=>∃ o,σ=[o]) ⟨none,rfl⟩ ?_ ?_ ?_ ?_
  ·intro i H2 hi _
   show i<z.cps.size
   simpa using hi
  ·intro H2 _
   show (((z.cps.toList.map inL).map V.bl).length:Nat)=z.cps.size
   simp
  ·rintro i σ H2 v H3 y hy ⟨o,rfl⟩ s2 ⟨e3,c,hc,ev⟩ C hC
   subst e3 ev
   have ey:y=.bl (inL c):=by
    have hc':z.cps.toList[i]?=some c:=by simpa using hc
    rw [List.getElem?_map,List.getElem?_map,hc'] at hy
    exact (Option.some.inj hy).symm
   subst ey
   exact ⟨_,rfl,_,_,rfl,rfl,hC _ _ ⟨_,rfl⟩ (Same.refl _)⟩
  ·intro D H2 hD s2 hl2
   exact ⟨D,_,rfl,hl2,q _ s2⟩
 | _=>exact Zda (q _ (Same.refl H))
theorem Znp (T:Tx K w mg) (ZcJ:ZfE P base T):ZlW P base T:=by
 refine Fun.okX (k:=1) T.Zbt.F Zom (fun vs H Q E h=>h.1) (fun cdv A outer s H vs Q E hr h=>?_)
 obtain ⟨-,h⟩:=h
 obtain ⟨x,t,rfl,hv,q⟩:=h
 refine ⟨_,(Zaj (Zax (ZcL (Zar ZcJ (hr.mono (by decide)) (by rfl) T.ZbB.m T.ZbB.F.kp T.ZbB.b .nil Zah (Zaa (pv 0) Zad)) (ZcE (Zbj Zke (Zaz Zo1 (by rfl) T.n_abs Zru (Zaa (pv 0) Zad)) (ZaB ZdA Zac Zac) (Zaw _)))))),?_⟩
 refine ⟨_,rfl,rfl,x,t,rfl,hv,fun H1 s1=>⟨_,rfl,?_⟩⟩
 cases t with
 | int i =>
  cases (show x=.int i from hv)
  exact Zda ⟨_,rfl,i,rfl,_,_,rfl,rfl,(show Zo9 10 18 from ⟨by decide,by decide,by decide +kernel⟩),_,_,rfl,rfl,q _ s1⟩
 | _=>exact Zdz (q _ s1)
theorem Zko (T:Tx K w mg) (ZcJ:ZfE P base T):Zgv P base T:=by
 refine Fun.okX (k:=1) T.Zbh.F ZjG (fun vs H Q E h=>h.1) (fun cdv A outer s H vs Q E hr h=>?_)
 obtain ⟨-,h⟩:=h
 obtain ⟨x,t,rfl,hv,q⟩:=h
 refine ⟨_,(Zaj (Zax (ZcL (Zar ZcJ (hr.mono (by decide)) (by rfl) T.ZbB.m T.ZbB.F.kp T.ZbB.b .nil Zah (Zaa (pv 0) Zad)) (ZcL (Zbj Zol (pv 0) Zac (Zaw _)) (ZcE (Zbj Zke (pv 0) (ZaB ZdA Zac Zac) (Zaw _))))))),?_⟩
 refine ⟨_,rfl,rfl,x,t,rfl,hv,fun H1 s1=>⟨_,rfl,?_⟩⟩
 cases t with
 | int i =>
  cases (show x=.int i from hv)
  refine Zda ⟨_,rfl,_,_,rfl,rfl,_,rfl,?_⟩
  have q1:=q _ s1
  rw [ZjM] at q1
  by_cases h1:1≤i
  ·rw [decide_eq_true h1] at q1 ⊢
   exact Zda ⟨_,rfl,_,_,rfl,rfl,(show Zo9 10 18 from ⟨by decide,by decide,by decide +kernel⟩),_,_,rfl,rfl,q1⟩
  ·rw [decide_eq_false h1] at q1 ⊢
   exact Zdz q1
 | _=>exact Zdz (q _ s1)
theorem Zmi (T:Tx K w mg)  : Zkh P base T:=by
 refine Fun.okX (k:=0) T.Zb0.F Zmr (fun vs H Q E h=>h.1) (fun cdv A outer s H vs Q E hr h=>?_)
 obtain ⟨-,h⟩:=h
 obtain ⟨x,t,rfl,hv,q⟩:=h
 refine ⟨_,(Zaj (Zax (ZcL (ZdC K (by rfl) T.n_isinstance (Zaa (pv 0) (Zaa (ZcA (v:=.ty "str") (by rfl) T.n_str ZhZ rfl) Zad))) (ZcE (Zbj ZcK (pv 0) (Zbd (Zaa Zav (Zaa Zav (Zaa Zav Zad)))) (by rfl)))))),?_⟩
 refine ⟨_,rfl,_,.ty "str",_,_,rfl,rfl,hv.kd,kS T t,_,rfl,?_⟩
 cases t with
 | str z =>
  cases (show x=.str z from hv.1)
  refine Zda ⟨_,rfl,by decide,fun p hp=>⟨p,_,rfl,.inr (.of Zab),rfl,rfl,?_⟩⟩
  have e:(if false=true then !inV (.str z) [.str "he",.str "she",.str ""] else inV (.str z) [.str "he",.str "she",.str ""])=ZhX (.str z):=by
   rw [if_neg (by decide)]
   exact Zqe z
  rw [e]
  exact q _ (Zae hp)
 | _=>exact Zdz (q _ (Same.refl H))
theorem Zjy (T:Tx K w mg) (Zdh:ZgO P base T):ZgG P base T:=by
 refine Fun.okX (k:=1) T.Zba.F ZjQ (fun vs H Q E h=>h.1) (fun cdv A outer s H vs Q E hr h=>?_)
 obtain ⟨-,h⟩:=h
 obtain ⟨x,t,rfl,hv,q⟩:=h
 refine ⟨_,(Zaj (Zax (Zq1 (Zar Zdh (hr.mono (by decide)) (by rfl) T.ZaH.m T.ZaH.F.kp T.ZaH.b .nil Zah (Zaa (pv 0) Zad)) (ZcE (ZcL (ZdC K (by rfl) T.n_isinstance (Zaa (pv 0) (Zaa (ZcA (v:=.ty "str") (by rfl) T.n_str ZhZ rfl) Zad))) (ZcE (Zbj ZbZ (pv 0) Zav (Zaw _)))))))),?_⟩
 refine ⟨_,rfl,rfl,x,t,rfl,hv,fun H1 s1=>⟨_,rfl,?_⟩⟩
 have q1:=q _ s1
 unfold Zfg at q1
 cases hn:Ze8 t with
 | true =>
  rw [hn] at q1
  exact Zda q1
 | false =>
  rw [hn,Bool.false_or] at q1
  refine Zdz ⟨_,rfl,_,.ty "str",_,_,rfl,rfl,(hv.mono s1).kd,kS T t,_,rfl,?_⟩
  cases t with
  | str z =>
   cases (show x=.str z from hv.1)
   have e:decide (V.str z=V.str "")=decide (z=""):=by
    rw [Bool.eq_iff_iff]
    simp
   exact Zda ⟨_,rfl,rfl,by rw [e]; exact q1⟩
  | _=>exact Zdz q1
theorem ZkU (T:Tx K w mg) (Zdh:ZgO P base T) (ZiC:ZlW P base T) (ZeM:Zgv P base T) (ZgP:Zkh P base T) (ZeG:ZgG P base T):ZhO P base T:=by
 refine Fun.okX (k:=2) T.Zco.F ZkI (fun vs H Q E h=>h.1) (fun cdv A outer s H vs Q E hr h=>?_)
 obtain ⟨-,h⟩:=h
 obtain ⟨a,b,xs,ts,cs,rfl,ha,hx,hb,hc,q⟩:=h
 refine ⟨_, (Zaf (Za9 (Zas ZkX (Zaz ZaX (by rfl) T.n_len ZcM (Zaa (pv 0) Zad)) (Zaz ZaX (by rfl) T.n_len ZcM (Zaa (pv 1) Zad)) (Zaw _)) (Zaj (Zax Zep)) Zay)
   (Zaj (Zax (Zaz (Zi2 rfl) (by rfl) T.n_all Znw (Zaa (ZdP (N:=["check","part"]) (cl:=[]) (σc:=fun _=>[none,none]) rfl (ZnJ (L:=[(".0",.local),("check",.local),("part",.local)]) (by rfl) (by decide +kernel) (by decide +kernel) (by rfl) (by rfl) (by decide) (by rfl) (by simp)) (Zq8 K (by rfl) T.n_zip (Zaa (pv 1) (Zaa (pv 0) Zad))) (fun _ _ _=>(Zp6 (n:=2) K rfl (Zb5 (ZaM (i:=0) nd2 rfl (Or.inl rfl)) (Zb5 (ZaM (i:=1) nd2 rfl (Or.inl rfl)) ZfI)))) (fun _ _ _=>Zld) (fun _ _ _=>(Zpm (Fam:=Fam T) (i:=0) (Zq6 T Zdh ZgP ZiC ZeM ZeG (hr.mono (by decide)) rfl rfl rfl rfl rfl) rfl (Or.inl rfl) Zah (Zaa (pv 1) Zad)))) Zad))))),?_⟩
 have lx:=hx.length
 refine ⟨_,rfl,a,_,rfl,.inr ha,_,rfl,b,_,rfl,.inr hb,rfl,_,rfl,?_⟩
 have e0:(!decide (V.int (xs.length:Nat)=V.int ((cs.map fun c=>V.ref (T.ad c)).length:Nat)))=!decide (ts.length=cs.length):=by
  rw [lx,List.length_map]
  congr 1
  rw [Bool.eq_iff_iff]
  simp only [decide_eq_true_eq,V.int.injEq]
  omega
 rw [e0]
 unfold Zcr at q
 by_cases hl:ts.length=cs.length
 ·rw [decide_eq_true hl] at q ⊢
  rw [Bool.true_and] at q
  have lo:(ZcT cs ts).length=cs.length:=ZlG hl
  refine Zdz ⟨_,rfl,_,rfl,b,a,rfl,⟨_,hb⟩,⟨_,ha⟩,?_⟩
  refine Zh9 ((ZcT cs ts).map V.bl) (by rw [List.length_map,lo]; exact Zao (by omega)) (fun σ=>∃ o u,σ=[o,u]) ⟨none,none,rfl⟩ ?_ ?_ ?_ ?_
  ·intro i H2 hi s2
   rw [List.length_map,lo] at hi
   have h1:i<(cs.map fun c=>V.ref (T.ad c)).length:=by rw [List.length_map]; exact hi
   have h2:i<xs.length:=by omega
   exact ⟨_,_,_,_,s2.sqt hb,s2.sqt ha,List.getElem?_eq_getElem h1,List.getElem?_eq_getElem h2⟩
  ·intro H2 s2
   exact ⟨_,s2.sqt hb,by rw [List.length_map,List.length_map,lo]⟩
  ·rintro i σ H2 v H3 y hy ⟨o,u,rfl⟩ s2 ⟨A',x1,x2,nA,rfl,f1,f2,rfl⟩ C hC
   obtain ⟨c,t,e1,e2,e3⟩:=Zlw hl hy
   have g1:=f1 _ (s2.sqt hb)
   have g2:=f2 _ (s2.sqt ha)
   rw [List.getElem?_map,e1] at g1
   have g1':x1=.ref (T.ad c):=(Option.some.inj g1).symm
   obtain ⟨x,ex,vx⟩:=hx.get e2
   rw [ex] at g2
   have g2':x2=x:=(Option.some.inj g2).symm
   subst g1' g2' e3
   have sA:=Zae (o:=.tup [.ref (T.ad c),x2]) nA
   refine ⟨A',_,rfl,.of Zab,rfl,?_⟩
   refine ⟨_,_,rfl,_,_,rfl,rfl,?_⟩
   refine ⟨_,_,rfl,⟨c,rfl,rfl⟩,_,rfl,rfl,x2,t,rfl,(vx.mono s2).mono sA,fun H5 s5=>hC _ _ ⟨_,_,rfl⟩ (sA.trans s5)⟩
  ·intro D H2 hD s2 hl2
   exact ⟨D,_,rfl,hl2,q _ s2⟩
 ·rw [decide_eq_false hl] at q ⊢
  exact Zda (q _ (Same.refl H))
theorem ZkN (T:Tx K w mg) (ZfF:ZhO P base T):ZhU P base T:=by
 refine Fun.okX (k:=3) T.Zci.F ZeH (fun vs H Q E h=>h.1) (fun cdv A outer s H vs Q E hr h=>?_)
 obtain ⟨-,h⟩:=h
 obtain ⟨x,rfl,h⟩:=h
 refine ⟨_, (Zaf (Za9 (PW.pt (Zjk (Zdf (ZcD (ZdC K (by rfl) T.n_isinstance (Zaa (pv 0) (Zaa (ZcA (v := .ty "tuple") (by rfl) T.n_tuple Zpa rfl) Zad))))) (Zjk (Zas ZbZ (Zaz ZaX (by rfl) T.n_len ZcM (Zaa (pv 0) Zad)) Zac (Zaw _)) (ZhT (Zdf (ZcD (ZdC K (by rfl) T.n_isinstance (Zaa (Zaq Zan (pv 0) Zac (fun _ _ => rfl)) (Zaa (ZcA (v := .ty "str") (by rfl) T.n_str ZhZ rfl) Zad))))))))) (Zaj (Zax Zep)) Zay)
   (Zaf (ZdV PassesOwn.leaving rfl (ZnB (ZgU (v:=.ref T.aF) (by rfl) T.m_FORMS rfl)) (Znv rfl (Zb5 (ZaM (i:=1) ZeH.nd rfl (Or.inl rfl)) (Zb5 (ZaM (i:=2) ZeH.nd rfl (Or.inl rfl)) ZfI)))
    (Zaj (Za9 (Zas ZbZ (Zaq Zan (pv 0) Zac (fun _ _=>rfl)) (pv 1) (Zaw _)) (Zaj (Zax (Zar ZfF (hr.mono (by decide)) (by rfl) T.Zco.m T.Zco.F.kp T.Zco.b .nil Zah (Zaa (Zcf ZjT (pv 0) (ZbV Zac) Zfu) (Zaa (pv 2) Zad))))) Zay)))
   (Zaj (Zax Zep)))),?_⟩
 rcases h with ⟨t,hv,ht,q⟩ | ⟨ts,⟨a,xs,rfl,hS,hx⟩,hl,q⟩
 ·have k:=kT T t
  rw [ht] at k
  exact ⟨_,rfl,_,.ty "tuple",_,_,rfl,rfl,hv.kd,k,_,rfl,Zda (q _ (Same.refl H))⟩
 refine ⟨_,rfl,_,.ty "tuple",_,_,rfl,rfl,.sqt hS,T.k_tuple_tuple,_,rfl,?_⟩
 refine Zdz ⟨_,rfl,a,_,rfl,.inr hS,rfl,_,rfl,?_⟩
 match xs,ts,hx with
 | [],[],_=>exact Zda (q _ (Same.refl H))
 | x :: xs,t :: ts,hx =>
  have e0:decide (V.int ((x :: xs).length:Nat)=V.int 0)=false:=by
   rw [List.length_cons]
   exact decide_eq_false fun z=>by
    have:=V.int.inj z
    omega
  rw [e0]
  have at0:atI (x :: xs) 0=some x:=Zc4 (j:=0) rfl
  refine Zdz ⟨_,rfl,a,_,_,_,rfl,rfl,hS,at0,_,.ty "str",_,_,rfl,rfl,hx.1.kd,kS T t,_,rfl,?_⟩
  cases t with
  | str w =>
   have ex:x=.str w:=hx.1.1
   refine Zdz ⟨T.aF,rfl,⟨_,T.sF _⟩,Znd (fun i σ H2=>∃ v1 v2,σ=[some (.ref a),v1,v2]∧Same H H2∧∀ j,j<i->∀ p',ZhA[j]?=some p'->w≠p'.1) ⟨none,none,rfl,Same.refl H,fun j hj=>by omega⟩ (fun _ _ _ _ _=>T.sF _) ?turn ?done⟩
   case done =>
    rintro σ H2 ⟨v1,v2,rfl,s2,b⟩
    have e:Zc5 (.str w :: ts)=false:=by
     rw [Zcj,ZkG b]
     rfl
    rw [e] at q
    exact q _ s2
   case turn =>
    rintro i y σ H2 hy ⟨v1,v2,rfl,s2,b⟩
    have hi:i<6:=(List.getElem?_eq_some_iff.mp hy).1
    have hf:ZhA[i]?=some (ZhA[i]'hi):=List.getElem?_eq_getElem hi
    generalize ZhA[i]'hi=p at hf
    obtain ⟨P,G,e1,e2,e3⟩:=Zqk T hf
    rw [hy] at e1
    have ey:y=.ref P:=Option.some.inj e1
    subst ey
    refine ⟨P,_,rfl,e2 _,rfl,_,_,rfl,_,_,rfl,rfl,?_⟩
    refine ⟨_,rfl,a,_,_,_,rfl,rfl,s2.sqt hS,at0,_,rfl,by rw [ex]; rfl,_,rfl,?_⟩
    rw [ex]
    have ed:decide (V.str w=V.str p.1)=decide (w=p.1):=by
     rw [Bool.eq_iff_iff]
     simp
    rw [ed]
    by_cases hw:w=p.1
    ·rw [decide_eq_true hw]
     have e:Zc5 (.str w :: ts)=Zcr p.2 ts:=by
      rw [Zcj,Zoj hf b hw]
      rfl
     rw [e] at q
     refine Zda ⟨_,rfl,_,rfl,a,_,rfl,s2.sqt hS,?_,fun n hn=>?_⟩
     ·rintro ⟨z,_⟩
      have:HT.sIx (x :: xs).length 0 (some ((1:Nat):Int))=0:=z
      rw [HT.sIx_nat,List.length_cons] at this
      omega
     ·rw [Zpr]
      have sn:=Zae (o:=.tup xs) hn
      refine ⟨_,rfl,rfl,n,G,xs,ts,p.2,rfl,.of Zab,(hx.2.mono s2).mono sn,e3 _,Zon p (List.mem_of_getElem? hf),fun H5 s5=>q _ (s2.trans (sn.trans s5))⟩
    ·rw [decide_eq_false hw]
     refine Zdz ⟨_,_,rfl,s2,fun j hj p' e'=>?_⟩
     by_cases hji:j<i
     ·exact b j hji p' e'
     ·have:j=i:=by omega
      subst this
      rw [hf] at e'
      cases e'
      exact hw
  | _=>exact Zda (q _ (Same.refl H))
theorem Zos (T:Tx K w mg)  : Zid P base T:=by
 refine Fun.okX (k:=0) T.Zcw.F ZmE (fun vs H Q E h=>h.1) (fun cdv A outer s H vs Q E hr h=>?_)
 obtain ⟨-,h⟩:=h
 obtain ⟨v,e,rfl,⟨a,rfl,hE⟩,q⟩:=h
 refine ⟨_,(Zaj (Zax (Zbj ZcK (Zaq Zan (pv 0) Zac (fun _ _=>rfl)) (Zbd (Zaa Zav (Zaa Zav Zad))) (by rfl)))),?_⟩
 cases e with
 | born n s d f m=>exact ⟨_,rfl,a,_,_,_,rfl,rfl,hE,Zag (j:=0) rfl,few rfl,fun p np=>⟨p,_,rfl,.inr (.of Zab),rfl,rfl,q _ (Zae np)⟩⟩
 | taken c t d=>exact ⟨_,rfl,a,_,_,_,rfl,rfl,hE,Zag (j:=0) rfl,few rfl,fun p np=>⟨p,_,rfl,.inr (.of Zab),rfl,rfl,q _ (Zae np)⟩⟩
 | union x y d=>exact ⟨_,rfl,a,_,_,_,rfl,rfl,hE,Zag (j:=0) rfl,few rfl,fun p np=>⟨p,_,rfl,.inr (.of Zab),rfl,rfl,q _ (Zae np)⟩⟩
 | parted x y d=>exact ⟨_,rfl,a,_,_,_,rfl,rfl,hE,Zag (j:=0) rfl,few rfl,fun p np=>⟨p,_,rfl,.inr (.of Zab),rfl,rfl,q _ (Zae np)⟩⟩
 | dead n d=>exact ⟨_,rfl,a,_,_,_,rfl,rfl,hE,Zag (j:=0) rfl,few rfl,fun p np=>⟨p,_,rfl,.inr (.of Zab),rfl,rfl,q _ (Zae np)⟩⟩
 | given x y z d=>exact ⟨_,rfl,a,_,_,_,rfl,rfl,hE,Zag (j:=0) rfl,few rfl,fun p np=>⟨p,_,rfl,.inr (.of Zab),rfl,rfl,q _ (Zae np)⟩⟩
theorem Zlc (T:Tx K w mg)  : Zfv P base T:=by
 refine Fun.okX (k:=0) T.ZbA.F Zk8 (fun vs H Q E h=>h.1) (fun cdv A outer s H vs Q E hr h=>?_)
 obtain ⟨-,h⟩:=h
 obtain ⟨v,e,rfl,⟨a,rfl,hE⟩,q⟩:=h
 refine ⟨_, (Zaf (Za9 (Zas ZbZ (Zaq Zan (pv 0) Zac (fun _ _ => rfl)) Zav (Zaw _)) (Zaj (Zax (ZdP rfl (ZcW (N := ["name"]) [] [none] rfl (by decide +kernel) (by decide +kernel) (by rfl) (by rfl) (by rfl) (by rfl) (by rfl)) (ZnB (Zcf ZjT (pv 0) (ZbV Zac) Zfu)) (fun _ _ _ => (ZaM (i := 0) Ztc rfl (Or.inl rfl))) (fun _ _ _ => (ZeT (Zas ZkX (pv 0) Zav (Zaw _)))) (fun _ _ _ => (pv 0))))) Zay)
   (Zaf (Za9 (Zas ZbZ (Zaq Zan (pv 0) Zac (fun _ _=>rfl)) Zav (Zaw _)) (Zaj (Zax (Zch (Zaa (Zaq Zan (pv 0) Zac (fun _ _=>rfl)) Zad)))) Zay)
   (Zaj (Zax (Zch (Zaa (Zaq Zan (pv 0) Zac (fun _ _=>rfl)) (Zaa (Zaq Zan (pv 0) Zac (fun _ _=>rfl)) Zad))))))),?_⟩
 cases e with
 | born n s d f m =>
  refine ⟨_,rfl,a,_,_,_,rfl,rfl,hE,Zag (j:=0) rfl,rfl,_,rfl,Zbo (by decide +kernel) ⟨_,rfl,_,rfl,?_⟩⟩
  dsimp only [ZeW]
  refine ZjP hE (fun h=>absurd h.1 (show ¬ (4:Nat)=0 by decide)) fun H1 p s1 hp=>?_
  have hp':SqT K H1 p ([f,m].map V.str):=hp
  refine ⟨p,rfl,⟨_,hp'⟩,Zde ([f,m].map ZqJ) (Zao (by simp)) (fun σ=>∃ v,σ=[v]) ⟨_,rfl⟩ (fun i H2 hi sm=>?go) (fun H2 sm=>?stop) (fun i σ H2 x H3 o ho hσ sm hx C hC=>?step) (fun D H2 nD sm hD=>?fin)⟩
  case go =>
   have hi':i<([f,m].map V.str).length:=hi
   exact ⟨_,_,sm.sqt hp',List.getElem?_eq_getElem hi'⟩
  case stop=>exact ⟨_,sm.sqt hp',by simp⟩
  case step =>
   obtain ⟨v,rfl⟩:=hσ
   obtain ⟨rfl,hx⟩:=hx
   have e1:=hx _ (sm.sqt hp')
   rw [List.getElem?_map] at e1 ho
   obtain ⟨z,hz,rfl⟩:=Option.map_eq_some_iff.mp e1
   rw [hz] at ho
   obtain rfl:ZqJ z=o:=Option.some.inj ho
   refine ⟨_,rfl,rfl,_,rfl,?_⟩
   by_cases hz0:z=""
   ·subst hz0
    exact ZaC (by decide +kernel) (hC _ _ ⟨_,rfl⟩ (Same.refl _))
   ·have e2:ZqJ z=some (.str z):=if_neg hz0
    rw [e2] at hC
    exact Zbo (by rw [ZeX,decide_eq_false hz0]; rfl) ⟨_,rfl,hC _ _ ⟨_,rfl⟩ (Same.refl _)⟩
  case fin =>
   rw [ZlY] at hD
   exact q _ D (s1.trans sm) (Zbp s1 nD) (.of hD)
 | dead n d=>exact ⟨_,rfl,a,_,_,_,rfl,rfl,hE,Zag (j:=0) rfl,rfl,_,rfl,ZaC (by decide +kernel) ⟨_,rfl,a,_,_,_,rfl,rfl,hE,Zag (j:=0) rfl,rfl,_,rfl,Zbo (by decide +kernel) ⟨_,rfl,a,_,_,_,rfl,rfl,hE,Zag (j:=1) rfl,few rfl,fun D nD=>q _ D (Zae nD) nD (.of Zab)⟩⟩⟩
 | taken c t d=>exact ⟨_,rfl,a,_,_,_,rfl,rfl,hE,Zag (j:=0) rfl,rfl,_,rfl,ZaC (by decide +kernel) ⟨_,rfl,a,_,_,_,rfl,rfl,hE,Zag (j:=0) rfl,rfl,_,rfl,ZaC (by decide +kernel) ⟨_,rfl,a,_,_,_,rfl,rfl,hE,Zag (j:=1) rfl,_,rfl,a,_,_,_,rfl,rfl,hE,Zag (j:=2) rfl,few rfl,fun D nD=>q _ D (Zae nD) nD (.of Zab)⟩⟩⟩
 | union x y d=>exact ⟨_,rfl,a,_,_,_,rfl,rfl,hE,Zag (j:=0) rfl,rfl,_,rfl,ZaC (by decide +kernel) ⟨_,rfl,a,_,_,_,rfl,rfl,hE,Zag (j:=0) rfl,rfl,_,rfl,ZaC (by decide +kernel) ⟨_,rfl,a,_,_,_,rfl,rfl,hE,Zag (j:=1) rfl,_,rfl,a,_,_,_,rfl,rfl,hE,Zag (j:=2) rfl,few rfl,fun D nD=>q _ D (Zae nD) nD (.of Zab)⟩⟩⟩
 | parted x y d=>exact ⟨_,rfl,a,_,_,_,rfl,rfl,hE,Zag (j:=0) rfl,rfl,_,rfl,ZaC (by decide +kernel) ⟨_,rfl,a,_,_,_,rfl,rfl,hE,Zag (j:=0) rfl,rfl,_,rfl,ZaC (by decide +kernel) ⟨_,rfl,a,_,_,_,rfl,rfl,hE,Zag (j:=1) rfl,_,rfl,a,_,_,_,rfl,rfl,hE,Zag (j:=2) rfl,few rfl,fun D nD=>q _ D (Zae nD) nD (.of Zab)⟩⟩⟩
 | given x y z d=>exact ⟨_,rfl,a,_,_,_,rfl,rfl,hE,Zag (j:=0) rfl,rfl,_,rfl,ZaC (by decide +kernel) ⟨_,rfl,a,_,_,_,rfl,rfl,hE,Zag (j:=0) rfl,rfl,_,rfl,ZaC (by decide +kernel) ⟨_,rfl,a,_,_,_,rfl,rfl,hE,Zag (j:=1) rfl,_,rfl,a,_,_,_,rfl,rfl,hE,Zag (j:=2) rfl,few rfl,fun D nD=>q _ D (Zae nD) nD (.of Zab)⟩⟩⟩
theorem ZnG (T:Tx K w mg)  : Ziw P base T:=by
 refine Fun.okX (k:=0) T.Zcx.F ZnE (fun vs H Q E h=>h.1) (fun cdv A outer s H vs Q E hr h=>?_)
 obtain ⟨-,h⟩:=h
 obtain ⟨v,e,rfl,⟨a,rfl,hE⟩,q⟩:=h
 refine ⟨_, (Zaf (Za9 (Zas ZbZ (Zaq Zan (pv 0) Zac (fun _ _ => rfl)) Zav (Zaw _)) (Zaj (Zax (Zaq Zan (pv 0) Zac (fun _ _ => rfl)))) Zay)
   (Zaj (Zax (Zaq Zan (pv 0) (ZpY Zou Zac) (fun _ _=>rfl))))),?_⟩
 cases e with
 | born n s d f m=>exact ⟨_,rfl,a,_,_,_,rfl,rfl,hE,Zag (j:=0) rfl,rfl,_,rfl,Zbo (by decide +kernel) ⟨_,rfl,a,_,_,_,rfl,rfl,hE,Zag (j:=3) rfl,q⟩⟩
 | taken c t d=>exact ⟨_,rfl,a,_,_,_,rfl,rfl,hE,Zag (j:=0) rfl,rfl,_,rfl,ZaC (by decide +kernel) ⟨_,rfl,_,rfl,a,_,_,_,rfl,rfl,hE,rfl,q⟩⟩
 | union x y d=>exact ⟨_,rfl,a,_,_,_,rfl,rfl,hE,Zag (j:=0) rfl,rfl,_,rfl,ZaC (by decide +kernel) ⟨_,rfl,_,rfl,a,_,_,_,rfl,rfl,hE,rfl,q⟩⟩
 | parted x y d=>exact ⟨_,rfl,a,_,_,_,rfl,rfl,hE,Zag (j:=0) rfl,rfl,_,rfl,ZaC (by decide +kernel) ⟨_,rfl,_,rfl,a,_,_,_,rfl,rfl,hE,rfl,q⟩⟩
 | dead n d=>exact ⟨_,rfl,a,_,_,_,rfl,rfl,hE,Zag (j:=0) rfl,rfl,_,rfl,ZaC (by decide +kernel) ⟨_,rfl,_,rfl,a,_,_,_,rfl,rfl,hE,rfl,q⟩⟩
 | given x y z d=>exact ⟨_,rfl,a,_,_,_,rfl,rfl,hE,Zag (j:=0) rfl,rfl,_,rfl,ZaC (by decide +kernel) ⟨_,rfl,_,rfl,a,_,_,_,rfl,rfl,hE,rfl,q⟩⟩
theorem Zmb (T:Tx K w mg) (Zei:Zid P base T):ZgZ P base T:=by
 refine Fun.okX (k:=1) T.Zb4.F ZhJ (fun vs H Q E h=>h.1) (fun cdv A outer s H vs Q E hr h=>?_)
 obtain ⟨-,h⟩:=h
 obtain ⟨v,e,rfl,hx,q⟩:=h
 refine ⟨_, (Zaf (Za9 (Zdf (ZcD (Zar Zei (hr.mono (by decide)) (by rfl) T.Zcw.m T.Zcw.F.kp T.Zcw.b .nil Zah (Zaa (pv 0) Zad)))) (Zaj (Zax (pv 0))) Zay)
   (Zaf (ZaN (i:=1) ZhJ.nd rfl (Or.inl rfl) (Zaz (ZcH K) (by rfl) T.n_sorted Zb3 (Zaa (Zcf ZjT (pv 0) (ZbV Zac) (ZbV Zac)) Zad)))
   (Zaj (Zax (Zbd (Zaa (Zaq Zan (pv 0) Zac (fun _ _=>rfl)) (Zaa (Zaq Zbb (pv 1) Zac (fun _ _=>rfl)) (Zaa (Zaq Zbb (pv 1) Zac (fun _ _=>rfl)) (Zaa (Zaq Zan (pv 0) Zac (fun _ _=>rfl)) Zad))))))))),?_⟩
 obtain ⟨a,rfl,hE⟩:=id hx
 refine ⟨_,rfl,rfl,.ref a,e,rfl,hx,fun H1 s1=>⟨_,rfl,?_⟩⟩
 have hE1:=s1.sqt hE
 cases e with
 | born n s d f m=>exact Zda ⟨_,rfl,q _ _ s1 (hx.mono s1)⟩
 | taken c t d=>exact Zda ⟨_,rfl,q _ _ s1 (hx.mono s1)⟩
 | union x y d =>
  refine Zdz ⟨_,rfl,_,rfl,_,rfl,?_⟩
  refine ZjP hE1 (fun h=>absurd h.1 (show ¬ (1:Nat)=0 by decide)) fun H2 p s2 hp=>?_
  have hp':SqT K H2 p ([x,y].map V.str):=hp
  refine ⟨p,[x,y],rfl,hp',Nat.le_of_ble_eq_true rfl,fun D zs nD perm so=>?_⟩
  rw [Zef perm so]
  have s3:=Zae (o:=.lst ([(Zai x y).1,(Zai x y).2].map V.str)) nD
  have hE3:=s3.sqt (s2.sqt hE1)
  have hD:SqL K (upd H2 D (.lst ([(Zai x y).1,(Zai x y).2].map V.str))) D ([(Zai x y).1,(Zai x y).2].map V.str):=.of Zab
  refine ⟨_,rfl,a,_,_,_,rfl,rfl,hE3,Zag (j:=0) rfl,_,rfl,D,_,_,_,rfl,rfl,hD,Zag (j:=0) rfl,_,rfl,D,_,_,_,rfl,rfl,hD,Zag (j:=1) rfl,_,rfl,a,_,_,_,rfl,rfl,hE3,Zag (j:=3) rfl,few rfl,fun t nt=>?_⟩
  exact q _ _ (s1.trans (s2.trans (s3.trans (Zae nt)))) ⟨t,rfl,.of Zab⟩
 | parted x y d =>
  refine Zdz ⟨_,rfl,_,rfl,_,rfl,?_⟩
  refine ZjP hE1 (fun h=>absurd h.1 (show ¬ (1:Nat)=0 by decide)) fun H2 p s2 hp=>?_
  have hp':SqT K H2 p ([x,y].map V.str):=hp
  refine ⟨p,[x,y],rfl,hp',Nat.le_of_ble_eq_true rfl,fun D zs nD perm so=>?_⟩
  rw [Zef perm so]
  have s3:=Zae (o:=.lst ([(Zai x y).1,(Zai x y).2].map V.str)) nD
  have hE3:=s3.sqt (s2.sqt hE1)
  have hD:SqL K (upd H2 D (.lst ([(Zai x y).1,(Zai x y).2].map V.str))) D ([(Zai x y).1,(Zai x y).2].map V.str):=.of Zab
  refine ⟨_,rfl,a,_,_,_,rfl,rfl,hE3,Zag (j:=0) rfl,_,rfl,D,_,_,_,rfl,rfl,hD,Zag (j:=0) rfl,_,rfl,D,_,_,_,rfl,rfl,hD,Zag (j:=1) rfl,_,rfl,a,_,_,_,rfl,rfl,hE3,Zag (j:=3) rfl,few rfl,fun t nt=>?_⟩
  exact q _ _ (s1.trans (s2.trans (s3.trans (Zae nt)))) ⟨t,rfl,.of Zab⟩
 | dead n d=>exact Zda ⟨_,rfl,q _ _ s1 (hx.mono s1)⟩
 | given x y z d=>exact Zda ⟨_,rfl,q _ _ s1 (hx.mono s1)⟩
theorem Zns (T:Tx K w mg) (Zdb:ZgZ P base T):ZiO P base T:=by
 refine Fun.okX (k:=2) T.Zct.F Zn4 (fun vs H Q E h=>h.1) (fun cdv A outer s H vs Q E hr h=>?_)
 obtain ⟨-,h⟩:=h
 obtain ⟨v,e,rfl,hx,q⟩:=h
 refine ⟨_, (Zaf (Za9 (Zas ZcK (Zaq Zan (pv 0) Zac (fun _ _ => rfl)) (Zbd (Zaa Zav (Zaa Zav Zad))) (by rfl)) (Zaj (Zax (Zbd (Zaa (Zaq Zan (pv 0) Zac (fun _ _ => rfl)) (Zaa (Zaq Zan (pv 0) Zac (fun _ _ => rfl)) Zad))))) Zay)
   (Zaf (Za9 (Zas ZbZ (Zaq Zan (pv 0) Zac (fun _ _=>rfl)) Zav (Zaw _)) (Zaj (Zax (Zbd (Zaa (Zaq Zan (pv 0) Zac (fun _ _=>rfl)) (Zaa (Zaq Zan (pv 0) Zac (fun _ _=>rfl)) (Zaa (Zaq Zan (pv 0) Zac (fun _ _=>rfl)) Zad)))))) Zay)
   (Zaf (Za9 (Zas ZbZ (Zaq Zan (pv 0) Zac (fun _ _=>rfl)) Zav (Zaw _)) (Zaj (Zax (Zbd (Zaa (Zaq Zan (pv 0) Zac (fun _ _=>rfl)) (Zaa (Zaq Zan (pv 0) Zac (fun _ _=>rfl)) (Zaa (Zaq Zan (pv 0) Zac (fun _ _=>rfl)) (Zaa (Zaq Zan (pv 0) Zac (fun _ _=>rfl)) Zad))))))) Zay)
   (Zaj (Zax (ZaB Zqo (Zbd (Zaa Zav Zad)) (Zcf ZjT (Zar Zdb (hr.mono (by decide)) (by rfl) T.Zb4.m T.Zb4.F.kp T.Zb4.b .nil Zah (Zaa (pv 0) Zad)) (ZbV Zac) Zfu))))))),?_⟩
 obtain ⟨a,rfl,hE⟩:=id hx
 cases e with
 | born n s d f m =>
  refine ⟨_,rfl,a,_,_,_,rfl,rfl,hE,Zag (j:=0) rfl,few rfl,fun p np=>⟨p,_,rfl,.inr (.of Zab),rfl,rfl,_,rfl,Zbo (by decide +kernel) ?_⟩⟩
  have s1:=Zae (o:=.tup [.str "born",.str "dead"]) np
  have hE1:=s1.sqt hE
  exact ⟨_,rfl,a,_,_,_,rfl,rfl,hE1,Zag (j:=0) rfl,_,rfl,a,_,_,_,rfl,rfl,hE1,Zag (j:=1) rfl,few rfl,fun t nt=>q _ t (s1.trans (Zae nt)) (Zbp s1 nt) Zab⟩
 | taken c t d =>
  refine ⟨_,rfl,a,_,_,_,rfl,rfl,hE,Zag (j:=0) rfl,few rfl,fun p np=>⟨p,_,rfl,.inr (.of Zab),rfl,rfl,_,rfl,ZaC (by decide +kernel) ?_⟩⟩
  have s1:=Zae (o:=.tup [.str "born",.str "dead"]) np
  have hE1:=s1.sqt hE
  refine ⟨_,rfl,a,_,_,_,rfl,rfl,hE1,Zag (j:=0) rfl,rfl,_,rfl,Zbo (by decide +kernel) ?_⟩
  exact ⟨_,rfl,a,_,_,_,rfl,rfl,hE1,Zag (j:=0) rfl,_,rfl,a,_,_,_,rfl,rfl,hE1,Zag (j:=1) rfl,_,rfl,a,_,_,_,rfl,rfl,hE1,Zag (j:=2) rfl,few rfl,fun t nt=>q _ t (s1.trans (Zae nt)) (Zbp s1 nt) Zab⟩
 | union x y d =>
  refine ⟨_,rfl,a,_,_,_,rfl,rfl,hE,Zag (j:=0) rfl,few rfl,fun p np=>⟨p,_,rfl,.inr (.of Zab),rfl,rfl,_,rfl,ZaC (by decide +kernel) ?_⟩⟩
  have s1:=Zae (o:=.tup [.str "born",.str "dead"]) np
  have hE1:=s1.sqt hE
  refine ⟨_,rfl,a,_,_,_,rfl,rfl,hE1,Zag (j:=0) rfl,rfl,_,rfl,ZaC (by decide +kernel) ?_⟩
  refine ⟨_,rfl,a,_,_,_,rfl,rfl,hE1,Zag (j:=0) rfl,rfl,_,rfl,ZaC (by decide +kernel) ?_⟩
  refine ⟨few rfl,fun t nt=>⟨_,rfl,rfl,.ref a,_,rfl,(hx.mono s1).mono (Zae nt),fun H2 u s2 hu=>?_⟩⟩
  obtain ⟨b,rfl,hb⟩:=hu
  refine ⟨_,rfl,?_⟩
  dsimp only [ZeW]
  refine ZjP hb (fun h=>absurd h.1 (show ¬ (1:Nat)=0 by decide)) fun H3 c s3 hc=>?_
  refine ⟨t,c,[.str "tie"],[.str (Zai x y).1,.str (Zai x y).2,.int d],rfl,rfl,.of (s3 _ _ (s2 _ _ Zab)),hc,by simp,few rfl,fun h=>absurd h (by simp),fun _ z nz=>?_⟩
  have s4:=(s1.trans (Zae nt)).trans (s2.trans s3)
  exact q _ z (s4.trans (Zae nz)) (Zbp s4 nz) Zab
 | parted x y d =>
  refine ⟨_,rfl,a,_,_,_,rfl,rfl,hE,Zag (j:=0) rfl,few rfl,fun p np=>⟨p,_,rfl,.inr (.of Zab),rfl,rfl,_,rfl,ZaC (by decide +kernel) ?_⟩⟩
  have s1:=Zae (o:=.tup [.str "born",.str "dead"]) np
  have hE1:=s1.sqt hE
  refine ⟨_,rfl,a,_,_,_,rfl,rfl,hE1,Zag (j:=0) rfl,rfl,_,rfl,ZaC (by decide +kernel) ?_⟩
  refine ⟨_,rfl,a,_,_,_,rfl,rfl,hE1,Zag (j:=0) rfl,rfl,_,rfl,ZaC (by decide +kernel) ?_⟩
  refine ⟨few rfl,fun t nt=>⟨_,rfl,rfl,.ref a,_,rfl,(hx.mono s1).mono (Zae nt),fun H2 u s2 hu=>?_⟩⟩
  obtain ⟨b,rfl,hb⟩:=hu
  refine ⟨_,rfl,?_⟩
  dsimp only [ZeW]
  refine ZjP hb (fun h=>absurd h.1 (show ¬ (1:Nat)=0 by decide)) fun H3 c s3 hc=>?_
  refine ⟨t,c,[.str "tie"],[.str (Zai x y).1,.str (Zai x y).2,.int d],rfl,rfl,.of (s3 _ _ (s2 _ _ Zab)),hc,by simp,few rfl,fun h=>absurd h (by simp),fun _ z nz=>?_⟩
  have s4:=(s1.trans (Zae nt)).trans (s2.trans s3)
  exact q _ z (s4.trans (Zae nz)) (Zbp s4 nz) Zab
 | dead n d =>
  refine ⟨_,rfl,a,_,_,_,rfl,rfl,hE,Zag (j:=0) rfl,few rfl,fun p np=>⟨p,_,rfl,.inr (.of Zab),rfl,rfl,_,rfl,Zbo (by decide +kernel) ?_⟩⟩
  have s1:=Zae (o:=.tup [.str "born",.str "dead"]) np
  have hE1:=s1.sqt hE
  exact ⟨_,rfl,a,_,_,_,rfl,rfl,hE1,Zag (j:=0) rfl,_,rfl,a,_,_,_,rfl,rfl,hE1,Zag (j:=1) rfl,few rfl,fun t nt=>q _ t (s1.trans (Zae nt)) (Zbp s1 nt) Zab⟩
 | given x y z d =>
  refine ⟨_,rfl,a,_,_,_,rfl,rfl,hE,Zag (j:=0) rfl,few rfl,fun p np=>⟨p,_,rfl,.inr (.of Zab),rfl,rfl,_,rfl,ZaC (by decide +kernel) ?_⟩⟩
  have s1:=Zae (o:=.tup [.str "born",.str "dead"]) np
  have hE1:=s1.sqt hE
  refine ⟨_,rfl,a,_,_,_,rfl,rfl,hE1,Zag (j:=0) rfl,rfl,_,rfl,ZaC (by decide +kernel) ?_⟩
  refine ⟨_,rfl,a,_,_,_,rfl,rfl,hE1,Zag (j:=0) rfl,rfl,_,rfl,Zbo (by decide +kernel) ?_⟩
  exact ⟨_,rfl,a,_,_,_,rfl,rfl,hE1,Zag (j:=0) rfl,_,rfl,a,_,_,_,rfl,rfl,hE1,Zag (j:=1) rfl,_,rfl,a,_,_,_,rfl,rfl,hE1,Zag (j:=2) rfl,_,rfl,a,_,_,_,rfl,rfl,hE1,Zag (j:=4) rfl,few rfl,fun t nt=>q _ t (s1.trans (Zae nt)) (Zbp s1 nt) Zab⟩
theorem ZjJ (T:Tx K w mg)  : Zhq P base T:=by
 refine Fun.okX (k:=0) T.Zb8.F ZjU (fun vs H Q E h=>h.1) (fun cdv A outer s H vs Q E hr h=>?_)
 obtain ⟨-,h⟩:=h
 obtain ⟨x,rfl,h⟩:=h
 refine ⟨_,(Zaj (Zax (ZcL (ZdC K (by rfl) T.n_isinstance (Zaa (pv 0) (Zaa (ZcA (v:=.ty "str") (by rfl) T.n_str ZhZ rfl) Zad))) (ZcE (Zbj ZcK (pv 0) (ZgU (v:=.ref T.a_STEP_LETTERS) (by rfl) T.m_STEP_LETTERS rfl) (by rfl)))))),?_⟩
 rcases h with ⟨ty,hk,ks,q⟩ | ⟨l,rfl,q⟩
 ·exact ⟨_,rfl,_,.ty "str",_,_,rfl,rfl,hk,ks,_,rfl,Zdz q⟩
 refine ⟨_,rfl,_,.ty "str",_,_,rfl,rfl,.of (.str _),T.k_str_str,_,rfl,Zda ⟨_,rfl,T.a_STEP_LETTERS,_,rfl,.inr (T.Zeq _),rfl,rfl,?_⟩⟩
 have e:(if false=true then !inV (.str l) (Zgm.map V.str) else inV (.str l) (Zgm.map V.str))=ZmC l:=ZqE l Zgm
 rw [← e] at q
 exact q
theorem Zl6 (T:Tx K w mg)  : Zhr P base T:=by
 refine Fun.okX (k:=0) T.Zb2.F Zl9 (fun vs H Q E h=>h.1) (fun cdv A outer s H vs Q E hr h=>?_)
 obtain ⟨-,h⟩:=h
 obtain ⟨a,b,rfl,q⟩:=h
 refine ⟨_,(Zaj (Zax (Zbd (Zaa (Zaz (Zmv rfl) (by rfl) T.n_min Zq5 (Zaa (pv 0) (Zaa (pv 1) Zad))) (Zaa (Zaz (Zme rfl) (by rfl) T.n_max ZnK (Zaa (pv 0) (Zaa (pv 1) Zad))) Zad))))),?_⟩
 refine ⟨_,rfl,_,rfl,_,_,rfl,_,rfl,_,rfl,_,_,rfl,few rfl,fun p np=>?_⟩
 rw [ZqB,Zqq]
 exact q _ p (Zae np) np Zab
theorem Zgd (T:Tx K w mg)  : ZcQ P base T:=by
 refine Fun.okX (k:=0) T.Zbc.F Zf7 (fun vs H Q E h=>h.1) (fun cdv A outer s H vs Q E hr h=>?_)
 obtain ⟨-,h⟩:=h
 obtain ⟨b,dx,rfl,h0,q⟩:=h
 refine ⟨_, (Zaf (Zj0 (pv 0) Zgn rfl)
   (Zaf (Zj0 (pv 0) ZiX rfl)
   (Zaf (Zj0 (pv 0) Zgn rfl)
   (Zaf (Zj0 (pv 0) Zgn rfl)
   (Zaj (Zj0 (pv 0) Zgn rfl)))))),?_⟩
 refine fun k nk=>⟨_,rfl,b,T.c_Book,dx,[],rfl,(Zak (Zat h0 nk)).trans h0,T.cl_Book,T.na_Book_kept,Nat.lt_of_lt_of_le (m:=10) (Nat.le_of_ble_eq_true rfl) (by decide),?_⟩
 obtain ⟨g1,p1,s1,m1⟩:=ZqT (fs:=[]) "kept" (.dT []) h0 nk
 generalize hH1:upd (upd H k (.dT [])) b (.ins T.c_Book dx (Zcb "kept" (.ref k) ([])))=H1 at *
 refine fun bi nbi=>⟨_,rfl,b,T.c_Book,dx,Zcb "kept" (.ref k) [],rfl,(Zak (Zat g1 nbi)).trans g1,T.cl_Book,T.na_Book_births,Nat.lt_of_lt_of_le (m:=10) (Nat.le_of_ble_eq_true rfl) (by decide),?_⟩
 obtain ⟨g2,p2,s2,m2⟩:=ZqT (fs:=Zcb "kept" (.ref k) []) "births" (.dK []) g1 nbi
 generalize hH2:upd (upd H1 bi (.dK [])) b (.ins T.c_Book dx (Zcb "births" (.ref bi) (Zcb "kept" (.ref k) [])))=H2 at *
 refine fun li nli=>⟨_,rfl,b,T.c_Book,dx,Zcb "births" (.ref bi) (Zcb "kept" (.ref k) []),rfl,(Zak (Zat g2 nli)).trans g2,T.cl_Book,T.na_Book_links,Nat.lt_of_lt_of_le (m:=10) (Nat.le_of_ble_eq_true rfl) (by decide),?_⟩
 obtain ⟨g3,p3,s3,m3⟩:=ZqT (fs:=Zcb "births" (.ref bi) (Zcb "kept" (.ref k) [])) "links" (.dT []) g2 nli
 generalize hH3:upd (upd H2 li (.dT [])) b (.ins T.c_Book dx (Zcb "links" (.ref li) (Zcb "births" (.ref bi) (Zcb "kept" (.ref k) []))))=H3 at *
 refine fun ti nti=>⟨_,rfl,b,T.c_Book,dx,Zcb "links" (.ref li) (Zcb "births" (.ref bi) (Zcb "kept" (.ref k) [])),rfl,(Zak (Zat g3 nti)).trans g3,T.cl_Book,T.na_Book_ties,Nat.lt_of_lt_of_le (m:=10) (Nat.le_of_ble_eq_true rfl) (by decide),?_⟩
 obtain ⟨g4,p4,s4,m4⟩:=ZqT (fs:=Zcb "links" (.ref li) (Zcb "births" (.ref bi) (Zcb "kept" (.ref k) []))) "ties" (.dT []) g3 nti
 generalize hH4:upd (upd H3 ti (.dT [])) b (.ins T.c_Book dx (Zcb "ties" (.ref ti) (Zcb "links" (.ref li) (Zcb "births" (.ref bi) (Zcb "kept" (.ref k) [])))))=H4 at *
 refine fun su nsu=>⟨_,rfl,b,T.c_Book,dx,Zcb "ties" (.ref ti) (Zcb "links" (.ref li) (Zcb "births" (.ref bi) (Zcb "kept" (.ref k) []))),rfl,(Zak (Zat g4 nsu)).trans g4,T.cl_Book,T.na_Book_sums,Nat.lt_of_lt_of_le (m:=10) (Nat.le_of_ble_eq_true rfl) (by decide),?_⟩
 obtain ⟨g5,p5,s5,m5⟩:=ZqT (fs:=Zcb "ties" (.ref ti) (Zcb "links" (.ref li) (Zcb "births" (.ref bi) (Zcb "kept" (.ref k) [])))) "sums" (.dT []) g4 nsu
 generalize hH5:upd (upd H4 su (.dT [])) b (.ins T.c_Book dx (Zcb "sums" (.ref su) (Zcb "ties" (.ref ti) (Zcb "links" (.ref li) (Zcb "births" (.ref bi) (Zcb "kept" (.ref k) []))))))=H5 at *
 have kb:∀ {c:Addr} {o:HO} {Hx:Hp},Hx c=some o->(∀ fs,o≠.ins T.c_Book dx fs)->∀ {fs},Hx b=some (.ins T.c_Book dx fs)->c≠b:=fun e no fs eb z=>by subst z; rw [eb] at e; cases e; exact no _ rfl
 have dT:∀ fs,HO.dT []≠.ins T.c_Book dx fs:=fun _ z=>by cases z
 have dK:∀ fs,HO.dK []≠.ins T.c_Book dx fs:=fun _ z=>by cases z
 have a1:=s5 _ _ (s4 _ _ (s3 _ _ (s2 _ _ p1 (kb p1 dT g1)) (kb (s2 _ _ p1 (kb p1 dT g1)) dT g2)) (kb (s3 _ _ (s2 _ _ p1 (kb p1 dT g1)) (kb (s2 _ _ p1 (kb p1 dT g1)) dT g2)) dT g3)) (kb p1 dT g1)
 have a2:=s5 _ _ (s4 _ _ (s3 _ _ p2 (kb p2 dK g2)) (kb p2 dK g2)) (kb p2 dK g2)
 have a3:=s5 _ _ (s4 _ _ p3 (kb p3 dT g3)) (kb p3 dT g3)
 have a4:=s5 _ _ p4 (kb p4 dT g4)
 rw [Zp0] at g5
 have kli:k≠li:=Zat (s2 _ _ p1 (kb p1 dT g1)) nli
 have kti:k≠ti:=Zat (s3 _ _ (s2 _ _ p1 (kb p1 dT g1)) (kb (s2 _ _ p1 (kb p1 dT g1)) dT g2)) nti
 have ksu:k≠su:=Zat (s4 _ _ (s3 _ _ (s2 _ _ p1 (kb p1 dT g1)) (kb (s2 _ _ p1 (kb p1 dT g1)) dT g2)) (kb (s3 _ _ (s2 _ _ p1 (kb p1 dT g1)) (kb (s2 _ _ p1 (kb p1 dT g1)) dT g2)) dT g3)) nsu
 have liti:li≠ti:=Zat p3 nti
 have lisu:li≠su:=Zat (s4 _ _ p3 (kb p3 dT g3)) nsu
 have tisu:ti≠su:=Zat p4 nsu
 exact q H5 k bi li ti su ⟨g5,by simp [kli,kti,ksu,liti,lisu,tisu],by simp [bk0],a1,a2,a3,a4,p5,fun _ h=>(nomatch h),fun _ h=>(nomatch h),fun _ h=>(nomatch h)⟩ (fun c o e cb=>s5 _ _ (s4 _ _ (s3 _ _ (s2 _ _ (s1 _ _ e cb) cb) cb) cb) cb) nk (m1 _ nbi) (m1 _ (m2 _ nli)) (m1 _ (m2 _ (m3 _ nti))) (m1 _ (m2 _ (m3 _ (m4 _ nsu))))
theorem Zf8 (T:Tx K w mg)  : ZaW P base T:=by
 refine Fun.okX (k:=0) T.Zap.F Zgc (fun vs H Q E h=>h.1) (fun cdv A outer s H vs Q E hr h=>?_)
 obtain ⟨-,h⟩:=h
 obtain ⟨v,x,B,rfl,⟨b,dx,k,bi,li,ti,su,rfl,hB⟩,h⟩:=h
 refine ⟨_, (Zaf (Za9 (PW.pt (Zjk (Zdf (ZcD (ZdC K (by rfl) T.n_isinstance (Zaa (pv 1) (Zaa (ZcA (v := .ty "str") (by rfl) T.n_str ZhZ rfl) Zad))))) (ZhT (ZpO (Zm7 (ZdU hr) (pv 1) (Zce (pv 0) rfl)))))) (Zaj (Zdt (by rfl) T.m_NoPerson T.x_NoPerson EB rfl Zdp (Zaa Zav Zad))) Zay)
   (Zaj (Zax (Znu (ZdU hr) (Zce (pv 0) rfl) (pv 1) (fun _ _=>rfl))))),?_⟩
 rcases h with ⟨ty,hk,ks,qe⟩ | ⟨n,rfl,qe,q⟩
 ·exact ⟨_,rfl,_,.ty "str",_,_,rfl,rfl,hk,ks,_,rfl,Zda (Zda ⟨few rfl,qe⟩)⟩
 have dg:=DGet.k (k:=.inr n) hB.bi
 rw [Zib] at dg
 refine ⟨_,rfl,_,.ty "str",_,_,rfl,rfl,.of (.str _),T.k_str_str,_,rfl,Zdz ⟨_,rfl,_,rfl,b,T.c_Book,dx,_,_,rfl,hB.ob,T.cl_Book,T.na_Book_births,Zfk,bi,_,rfl,dg,_,rfl,?_⟩⟩
 cases hb:ZaA n B.kept with
 | none=>exact Zda ⟨few rfl,qe hb⟩
 | some p =>
  rw [hb] at dg
  exact Zdz ⟨_,rfl,b,T.c_Book,dx,_,_,rfl,hB.ob,T.cl_Book,T.na_Book_births,Zfk,_,rfl,bi,.ref p.2,rfl,dg,q p hb⟩
theorem Zhk (T:Tx K w mg) (Zam:ZaW P base T):Zes P base T:=by
 refine Fun.okX (k:=1) T.Zby.F ZgW (fun vs H Q E h=>h.1) (fun cdv A outer s H vs Q E hr h=>?_)
 obtain ⟨-,h⟩:=h
 exact h.elim
theorem Zg0 (T:Tx K w mg) (Zam:ZaW P base T):Zc6 P base T:=by
 refine Fun.okX (k:=1) T.ZaF.F ZgB (fun vs H Q E h=>h.1) (fun cdv A outer s H vs Q E hr h=>?_)
 obtain ⟨-,h⟩:=h
 obtain ⟨v,x,B,rfl,hv,h⟩:=h
 refine ⟨_,(Zaj (Zax (Zaq Zan (Zau (pv 0) T.cl_Book T.Zap.me Zam (hr.mono (by decide)) T.Zap.b .nil ZbX (Zaa (pv 1) Zad)) Zac (fun _ _=>rfl)))),?_⟩
 obtain ⟨b,dx,k,bi,li,ti,su,rfl,hB⟩:=id hv
 refine ⟨_,rfl,b,dx,_,rfl,hB.ob,rfl,_,rfl,rfl,.ref b,x,B,rfl,hv,?_⟩
 rcases h with ⟨ty,hk,ks,qe⟩ | ⟨n,rfl,qe,q⟩
 ·exact .inl ⟨ty,hk,ks,qe⟩
 refine .inr ⟨n,rfl,qe,fun p hp=>?_⟩
 obtain ⟨hm,hn⟩:=ZfO hp
 have hE:=hB.en p hm
 obtain ⟨n',s,d,f,m,he⟩:∃ n' s d f m,p.1=.born n' s d f m:=by
  cases e:p.1 with
  | born n' s d f m=>exact ⟨n',s,d,f,m,rfl⟩
  | _=>rw [e] at hn; cases hn
 rw [he] at hE
 exact ⟨p.2,_,_,_,rfl,rfl,hE,Zag (j:=3) rfl,q p hp n' s d f m he⟩
theorem ZeS (T:Tx K w mg) (Zc9:Zes P base T) (Za7:Zc6 P base T):ZcY P base T:=by
 refine Fun.okX (k:=2) T.ZaJ.F ZeP (fun vs H Q E h=>h.1) (fun cdv A outer s H vs Q E hr h=>?_)
 obtain ⟨-,h⟩:=h
 obtain ⟨v,s,d,rfl,q⟩:=h
 refine ⟨_,(Zaj (Zax (Zq1 (Zbj ZbZ (pv 1) Zav (Zaw _)) (ZcE (ZcL (Zbj ZbZ (Zau (pv 0) T.cl_Book T.Zby.me Zc9 (hr.mono (by decide)) T.Zby.b .nil ZbX (Zaa (pv 1) Zad)) (pv 2) (Zaw _)) (ZcE (Zbj Zo5 (Zau (pv 0) T.cl_Book T.ZaF.me Za7 (hr.mono (by decide)) T.ZaF.b .nil ZbX (Zaa (pv 1) Zad)) (pv 3) (Zaw _)))))))),?_⟩
 exact ⟨_,rfl,rfl,_,rfl,Zbo (by decide +kernel) q⟩
theorem Zkn (T:Tx K w mg) (ZcI:Zfv P base T) (Zeh:Ziw P base T) (Za7:Zc6 P base T) (ZbE:ZcY P base T):Zg3 P base T:=by
 refine Fun.okX (k:=3) T.Zck.F ZfX (fun vs H Q E h=>h.1) (fun cdv A outer s H vs Q E hr h=>?_)
 obtain ⟨-,h⟩:=h
 obtain ⟨v,x,B,e,rfl,hv,hx,bar,kn,q⟩:=h
 refine ⟨_, (Zaf (Za9 (Zas ZbZ (Zaq Zan (pv 1) Zac (fun _ _ => rfl)) Zav (Zaw _)) (Zaj (Zax (ZcL (Zau (pv 0) T.cl_Book T.ZaJ.me ZbE (hr.mono (by decide)) T.ZaJ.b .nil ZbX (Zaa (Zaq Zan (pv 1) Zac (fun _ _ => rfl)) (Zaa Zav (Zaa (Zaq Zan (pv 1) Zac (fun _ _ => rfl)) Zad)))) (ZcE (Zau (pv 0) T.cl_Book T.ZaJ.me ZbE (hr.mono (by decide)) T.ZaJ.b .nil ZbX (Zaa (Zaq Zan (pv 1) Zac (fun _ _ => rfl)) (Zaa Zav (Zaa (Zaq Zan (pv 1) Zac (fun _ _ => rfl)) Zad)))))))) Zay)
   (Zaf (ZaN (i:=2) ZfX.nd rfl (Or.inl rfl) (Zar ZcI (hr.mono (by decide)) (by rfl) T.ZbA.m T.ZbA.F.kp T.ZbA.b .nil Zah (Zaa (pv 1) Zad)))
   (Zaf (Za9 (PW.pt (ZdG (Zas ZbZ (Zaz ZaX (by rfl) T.n_len ZcM (Zaa (pv 2) Zad)) Zac (Zaw _)) (Zdv (Zas ZbZ (Zaq Zbb (pv 2) Zac (fun _ _=>rfl)) (Zaq Zbb (pv 2) Zac (fun _ _=>rfl)) (Zaw _))))) (Zaj (Zax Zep)) Zay)
   (Zaf (Za9 (PW.pt (ZdG (Zas ZbZ (Zaq Zan (pv 1) Zac (fun _ _=>rfl)) Zav (Zaw _)) (Zdv (Zas Zol (Zau (pv 0) T.cl_Book T.ZaF.me Za7 (hr.mono (by decide)) T.ZaF.b .nil ZbX (Zaa (Zaq Zan (pv 1) Zac (fun _ _=>rfl)) Zad)) (Zau (pv 0) T.cl_Book T.ZaF.me Za7 (hr.mono (by decide)) T.ZaF.b .nil ZbX (Zaa (Zaq Zan (pv 1) Zac (fun _ _=>rfl)) Zad)) (Zaw _))))) (Zaj (Zax Zep)) Zay)
   (Zaj (Zax (Zaz (Zi2 rfl) (by rfl) T.n_all Znw (Zaa (ZdP rfl (ZcW (N:=["name","entry","self"]) ["self","entry"] [none,some 1,some 0] rfl (by decide +kernel) (by decide +kernel) (by rfl) (by rfl) (by rfl) (by rfl) (by rfl)) (ZcS (pv 2)) (fun _ _ _=>(ZaM (i:=0) Zta rfl (Or.inl rfl))) (fun _ _ _=>Zld) (fun _ _ _=>(Zbj Zol (Zar Zeh (hr.mono (by decide)) (by rfl) T.Zcx.m T.Zcx.F.kp T.Zcx.b .nil Zah (Zaa (pv 1) Zad)) (Zau (pv 2) T.cl_Book T.ZaF.me Za7 (hr.mono (by decide)) T.ZaF.b .nil Zah (Zaa (pv 0) Zad)) (Zaw _)))) Zad)))))))),?_⟩
 obtain ⟨b,dx,k,bi,li,ti,su,rfl,hB⟩:=id hv
 obtain ⟨a,rfl,hE⟩:=id hx
 by_cases hb:e.isBorn=true
 ·cases e with
  | born n s d f m =>
   obtain ⟨rfl,rfl⟩:=Zjh bar
   have q1:=q _ (Same.refl H)
   have ef:ZdF B (.born n s d "" "")=true:=by simp [ZdF,ZrT]
   rw [ef] at q1
   exact ⟨_,rfl,a,_,_,_,rfl,rfl,hE,Zag (j:=0) rfl,rfl,_,rfl,Zbo (by decide +kernel) ⟨_,rfl,b,dx,_,rfl,hB.ob,rfl,_,rfl,a,_,_,_,rfl,rfl,hE,Zag (j:=4) rfl,_,rfl,a,_,_,_,rfl,rfl,hE,Zag (j:=3) rfl,rfl,.ref b,.str "he",d,rfl,_,rfl,Zda ⟨_,rfl,b,dx,_,rfl,hB.ob,rfl,_,rfl,a,_,_,_,rfl,rfl,hE,Zag (j:=5) rfl,_,rfl,a,_,_,_,rfl,rfl,hE,Zag (j:=3) rfl,rfl,.ref b,.str "she",d,rfl,q1⟩⟩⟩
  | _=>cases hb
 replace hb:=Bool.eq_false_iff.mpr hb
 rw [Zj4 hb] at q
 have w0:∃ w:Str,(e.row.map kV)[0]?=some (.str w)∧w≠"born":=by
  cases e with
  | born=>cases hb
  | _=>exact ⟨_,rfl,by decide +kernel⟩
 obtain ⟨w,hw,hwb⟩:=w0
 refine ⟨_,rfl,a,_,_,_,rfl,rfl,hE,Zag hw,rfl,_,rfl,ZaC (by rw [ZeX]; exact decide_eq_false hwb) ?_⟩
 refine ⟨_,rfl,rfl,.ref a,e,rfl,hx,fun H1 D s1 nD hD=>?_⟩
 dsimp only [Zkj]
 refine Zer (fun σ H2=>σ=[some (.ref b),some (.ref a),some (.ref D)]∧H2=H1∧e.same=false) (fun nx rest=>?_) (fun σ H2 hJ=>?_)
 ·cases e with
  | born=>cases hb
  | dead n d =>
   exact ⟨_,rfl,D,_,rfl,.inl hD,rfl,_,rfl,ZaC rfl (Zdz (rest _ _ ⟨rfl,rfl,rfl⟩))⟩
  | _ =>
   refine ⟨_,rfl,D,_,rfl,.inl hD,rfl,_,rfl,Zbo rfl ⟨_,rfl,D,_,_,_,rfl,rfl,hD,Zag (j:=0) rfl,_,rfl,D,_,_,_,rfl,rfl,hD,Zag (j:=1) rfl,rfl,_,rfl,?_⟩⟩
   refine Zsa (fun h1=>?_) (fun h1=>rest _ _ ⟨rfl,rfl,?_⟩)
   ·have q1:=q _ s1
    rw [ZeX] at h1
    simp only [Ent.same,h1,Bool.not_true,Bool.false_and] at q1
    exact q1
   ·rw [ZeX] at h1
    exact h1
 obtain ⟨rfl,rfl,hsame⟩:=hJ
 have hv2:=hv.mono s1
 have hB2:=hB.mono s1
 have hE2:=s1.sqt hE
 have kn2:∀ n∈e.named,∀ {P:Prop},ZaA n B.kept=none->P:=fun n h _ no=>absurd no (kn n h)
 rw [hsame] at q
 refine Zer (fun σ H3=>σ=[some (.ref b),some (.ref a),some (.ref D)]∧H3=H2∧e.early B=false) (fun nx rest=>?_) (fun σ H3 hJ=>?_)
 ·cases e with
  | born=>cases hb
  | taken c t d =>
   refine ⟨_,rfl,a,_,_,_,rfl,rfl,hE2,Zag (j:=0) rfl,rfl,_,rfl,Zbo (by decide +kernel) ?_⟩
   refine ⟨_,rfl,b,dx,_,rfl,hB2.ob,rfl,_,rfl,a,_,_,_,rfl,rfl,hE2,Zag (j:=2) rfl,rfl,.ref b,.str t,B,rfl,hv2,.inr ⟨t,rfl,kn2 t (by simp [Ent.named]),fun p hp n' s' d' f m he=>?_⟩⟩
   refine ⟨_,rfl,b,dx,_,rfl,hB2.ob,rfl,_,rfl,a,_,_,_,rfl,rfl,hE2,Zag (j:=1) rfl,rfl,.ref b,.str c,B,rfl,hv2,.inr ⟨c,rfl,kn2 c (by simp [Ent.named]),fun p2 hp2 n2 s2 d2 f2 m2 he2=>?_⟩⟩
   have e1:=Ziu hp he
   have e2:=Ziu hp2 he2
   refine ⟨_,_,rfl,rfl,_,rfl,Zsa (fun h1=>?_) (fun h1=>rest _ _ ⟨rfl,rfl,?_⟩)⟩
   ·have q1:=q _ s1
    have e3:(Ent.taken c t d).early B=true:=by
     show decide (ZfQ B c≤ZfQ B t)=true
     rw [e1,e2]
     exact h1
    rw [e3] at q1
    exact q1
   ·show decide (ZfQ B c≤ZfQ B t)=false
    rw [e1,e2]
    exact h1
  | _=>exact ⟨_,rfl,a,_,_,_,rfl,rfl,hE2,Zag (j:=0) rfl,rfl,_,rfl,ZaC (by decide +kernel) (Zdz (rest _ _ ⟨rfl,rfl,rfl⟩))⟩
 obtain ⟨rfl,rfl,hearly⟩:=hJ
 rw [hearly] at q
 refine ⟨_,rfl,D,rfl,⟨_,hD⟩,Zh9 (e.named.map fun n=>V.bl (decide (ZfQ B n≤e.day))) ?len (fun σ=>∃ v,σ=[v,some (.ref a),some (.ref b)]) ⟨_,rfl⟩ (fun i H3 hi sm=>?go) (fun H3 sm=>?stop) (fun i σ H3 x H4 y hy hσ sm hx2 C hC=>?step) (fun D2 H3 nD2 sm hD2=>?fin)⟩
 case len =>
  refine Zao ?_
  rw [List.length_map]
  cases e with
  | born=>cases hb
  | _=>exact Nat.le_of_ble_eq_true rfl
 case go =>
  have hi':i<(e.named.map V.str).length:=by rw [List.length_map] at hi ⊢; exact hi
  exact ⟨_,_,sm.sql hD,List.getElem?_eq_getElem hi'⟩
 case stop=>exact ⟨_,sm.sql hD,by simp⟩
 case step =>
  obtain ⟨v,rfl⟩:=hσ
  obtain ⟨rfl,hx3⟩:=hx2
  have e1:=hx3 _ (sm.sql hD)
  rw [List.getElem?_map] at e1 hy
  obtain ⟨n,hn,rfl⟩:=Option.map_eq_some_iff.mp e1
  rw [hn] at hy
  obtain rfl:V.bl (decide (ZfQ B n≤e.day))=y:=Option.some.inj hy
  have hB3:=hB2.mono sm
  refine ⟨_,rfl,rfl,.ref a,e,rfl,hx.mono (s1.trans sm),_,rfl,b,dx,_,rfl,hB3.ob,rfl,_,rfl,rfl,.ref b,.str n,B,rfl,hv2.mono sm,.inr ⟨n,rfl,kn2 n (List.mem_of_getElem? hn),fun p hp n' s' d' f m he=>⟨_,_,rfl,rfl,?_⟩⟩⟩
  rw [Ziu hp he] at hC
  exact hC _ _ ⟨_,rfl⟩ (Same.refl _)
 case fin =>
  refine ⟨D2,e.named.map fun n=>decide (ZfQ B n≤e.day),rfl,by rw [hD2,List.map_map]; rfl,?_⟩
  have q1:=q _ (s1.trans sm)
  rw [List.all_map]
  exact q1
theorem ZhF (T:Tx K w mg) (Zfq:ZhU P base T) (ZcI:Zfv P base T) (Zed:ZiO P base T) (Zam:ZaW P base T) (ZeF:Zg3 P base T):Zfb P base T:=by
 refine Fun.okX (k:=4) T.ZbR.F Zev (fun vs H Q E h=>h.1) (fun cdv A outer s H vs Q E hr h=>?_)
 obtain ⟨-,h⟩:=h
 obtain ⟨v,x,B,e,rfl,hv,hx,hok,bar,no,q⟩:=h
 refine ⟨_, (Zaf (Za9 (Zdf (ZcD (Zar Zfq (hr.mono (by decide)) (by rfl) T.Zci.m T.Zci.F.kp T.Zci.b .nil Zah (Zaa (pv 1) Zad)))) (Zaj (Zdt (by rfl) T.m_NoEntry T.x_NoEntry EB rfl Zdp (Zaa Zav Zad))) Zay)
   (Zaf (Za9 (Zas Zol (Zaz Zml (by rfl) T.n_len ZcM (Zaa (Zce (pv 0) rfl) Zad)) (ZgU (v:=.int 400) (by rfl) T.m_MOST_ENTRIES ⟨_,rfl⟩) (Zaw _)) (Zaj (Zdt (by rfl) T.m_Full T.x_Full EB rfl Zdp (Zaa Zav Zad))) Zay)
   (Zaf (Za9 (PW.pt (ZdG (Zas ZbZ (Zaq Zan (pv 1) Zac (fun _ _=>rfl)) Zav (Zaw _)) (Zdv (Zas Zol (Zaz Zob (by rfl) T.n_len ZcM (Zaa (Zce (pv 0) rfl) Zad)) (ZgU (v:=.int 60) (by rfl) T.m_MOST_PEOPLE ⟨_,rfl⟩) (Zaw _))))) (Zaj (Zdt (by rfl) T.m_Full T.x_Full EB rfl Zdp (Zaa Zav Zad))) Zay)
   (Zaf (ZdV PassesOwn.leaving rfl (ZcS (Zar ZcI (hr.mono (by decide)) (by rfl) T.ZbA.m T.ZbA.F.kp T.ZbA.b .nil Zah (Zaa (pv 1) Zad))) (ZaM (i:=2) Zev.nd rfl (Or.inl rfl))
    (Zaj (Za3 (Zau (pv 0) T.cl_Book T.Zap.me Zam (hr.mono (by decide)) T.Zap.b .nil ZbX (Zaa (pv 2) Zad)))))
   (Zaf (Za9 (ZpO (Zrl (ZdU hr) (Zar Zed (hr.mono (by decide)) (by rfl) T.Zct.m T.Zct.F.kp T.Zct.b .nil Zah (Zaa (pv 1) Zad)) (Zce (pv 0) rfl))) (Zaj (Zdt (by rfl) T.m_Twice T.x_Twice EB rfl Zdp (Zaa Zav Zad))) Zay)
   (Zaj (Za9 (Zdf (ZcD (Zau (pv 0) T.cl_Book T.Zck.me ZeF (hr.mono (by decide)) T.Zck.b .nil ZbX (Zaa (pv 1) Zad)))) (Zaj (Zdt (by rfl) T.m_NoFit T.x_NoFit EB rfl Zdp (Zaa Zav Zad))) Zay))))))),?_⟩
 obtain ⟨b,dx,k,bi,li,ti,su,rfl,hB⟩:=id hv
 obtain ⟨h400,h60,kn',h1,hf⟩:=Zpk no
 obtain ⟨a,rfl,hE⟩:=id hx
 refine ⟨_,rfl,rfl,.ref a,rfl,.inr ⟨e.row.map Zrh,hok.tv hE,e.row_len,fun H1 s1=>⟨_,rfl,?_⟩⟩⟩
 rw [hok.en]
 have hB1:=hB.mono s1
 have hE1:=s1.sqt hE
 have hlen:B.keptD.length=B.kept.length:=List.length_map ..
 refine Zdz ⟨_,rfl,b,T.c_Book,dx,_,_,rfl,hB1.ob,T.cl_Book,T.na_Book_kept,ZfM,k,_,rfl,hB1.ke,_,_,rfl,rfl,_,rfl,ZaC (decide_eq_false (by rw [hlen]; omega)) ?_⟩
 dsimp only [Zrs]
 refine Zer (fun σ H2=>σ=[some (.ref b),some (.ref a),none]∧H2=H1) (fun nx rest=>?_) (fun σ H2 hJ=>?_)
 ·cases e with
  | born n s d f m=>exact ⟨_,rfl,a,_,_,_,rfl,rfl,hE1,Zag (j:=0) rfl,rfl,_,rfl,Zbo (by decide +kernel) ⟨_,rfl,b,T.c_Book,dx,_,_,rfl,hB1.ob,T.cl_Book,T.na_Book_births,Zfk,bi,_,rfl,hB1.bi,_,_,rfl,rfl,_,rfl,ZaC (decide_eq_false (by have:=h60 rfl; omega)) (rest _ _ ⟨rfl,rfl⟩)⟩⟩
  | _=>exact ⟨_,rfl,a,_,_,_,rfl,rfl,hE1,Zag (j:=0) rfl,rfl,_,rfl,ZaC (by decide +kernel) (Zdz (rest _ _ ⟨rfl,rfl⟩))⟩
 obtain ⟨rfl,rfl⟩:=hJ
 refine ⟨_,rfl,rfl,.ref a,e,rfl,hx.mono s1,fun H2 D s2 nD hD=>⟨D,rfl,⟨_,hD⟩,Zfh (xs:=e.named.map V.str) (fun i σ H3=>(∃ v,σ=[some (.ref b),some (.ref a),v])∧Same H2 H3) ⟨⟨_,rfl⟩,Same.refl _⟩ ?sq ?turn ?done⟩⟩
 case sq =>
  rintro i σ H3 hi ⟨_,s3⟩
  exact s3.sql hD
 case turn =>
  rintro i x σ H3 hx3 ⟨⟨v,rfl⟩,s3⟩
  rw [List.getElem?_map] at hx3
  obtain ⟨n,hn,rfl⟩:=Option.map_eq_some_iff.mp hx3
  have sa:=s1.trans (s2.trans s3)
  have hB3:=hB.mono sa
  exact ⟨_,rfl,b,dx,_,rfl,hB3.ob,rfl,_,rfl,rfl,.ref b,.str n,B,rfl,hv.mono sa,.inr ⟨n,rfl,fun no=>absurd no (kn' n (List.mem_of_getElem? hn)),fun p hp=>⟨⟨_,rfl⟩,s3⟩⟩⟩
 case done =>
  rintro σ H3 ⟨⟨v,rfl⟩,s3⟩
  have sa:=s1.trans (s2.trans s3)
  refine ⟨_,rfl,rfl,.ref a,e,rfl,hx.mono sa,fun H4 p s4 np hp=>?_⟩
  have sb:=sa.trans s4
  have hB4:=hB.mono sb
  have dg:=DGet.t hB4.ke hp
  rw [h1] at dg
  refine ⟨_,rfl,b,T.c_Book,dx,_,_,rfl,hB4.ob,T.cl_Book,T.na_Book_kept,ZfM,k,_,rfl,dg,_,rfl,Zdz ?_⟩
  refine ⟨_,rfl,b,dx,_,rfl,hB4.ob,rfl,_,rfl,rfl,.ref b,.ref a,B,e,rfl,hv.mono sb,hx.mono sb,bar,kn',fun H5 s5=>⟨_,rfl,?_⟩⟩
  rw [hf]
  exact Zdz (q _ (sb.trans s5))
theorem Zjf (T:Tx K w mg)  : Zdq P base T:=by
 refine Fun.okX (k:=0) T.ZaE.F ZjO (fun vs H Q E h=>h.1) (fun cdv A outer s H vs Q E hr h=>?_)
 obtain ⟨-,h⟩:=h
 obtain ⟨b,dx,k,bi,li,ti,su,B,l,n,m,rfl,hB,hl,hz,q⟩:=h
 refine ⟨_,(Zaj (Zfy (ZdU hr) (Zce (pv 0) rfl) (Zbd (Zaa (pv 1) (Zaa (pv 2) Zad))) (Zaz (Zf3 K) (by rfl) T.n_sorted Zb3 (Zaa (ZaB Znn (Zel (ZdU hr) (Zce (pv 0) rfl) (Zbd (Zaa (pv 1) (Zaa (pv 2) Zad))) (Zch Zad) ⟨rfl,rfl,rfl,rfl⟩) (Zch (Zaa (pv 3) Zad))) Zad)) rfl)),?_⟩
 refine ⟨_,rfl,b,T.c_Book,dx,_,_,rfl,hB.ob,T.cl_Book,T.na_Book_links,Zgi,li,rfl,.inr ⟨_,.inl hB.li⟩,_,rfl,_,rfl,few rfl,fun t nt=>⟨few rfl,fun z nz=>?_⟩⟩
 have s1:=Zae (o:=.tup [.str l,.str n]) nt
 have s2:=Zae (o:=.lst []) nz
 have s3:=s1.trans s2
 have hz0:(upd (upd H t (.tup [.str l,.str n])) z (.lst [])) z=some (.lst []):=Zab
 have dg:=DGet.t (k:=two (l,n)) (s3 _ _ hB.li) (s2 _ _ (Zab (o:=.tup [.str l,.str n])))
 generalize upd (upd H t (.tup [.str l,.str n])) z (.lst [])=H2 at *
 rw [show B.linksD=B.links.map fun q=>(two q.1,V.ref q.2.1) from rfl,ZiF] at dg
 have rest:∀ (D:Addr) (H3:Hp),Same H H3->H D=none->H3 D=some (.lst ((Zie (ZbU B l n++[m])).map V.str))->Zsu K (Zri 0) "links" (L2.start ["self","letter","begin","end"] [.ref b,.str l,.str n,.str m]) H3 fun x H4=>(Zsv (ZqF (Zri 1) (ZqF (Zri 2) ZrV))) (L2.start ["self","letter","begin","end"] [.ref b,.str l,.str n,.str m]) H4 fun y H5=>∃ a H6,x=.ref a∧DPut H5 a y (.ref D) H6∧Q .non H6:=by
  intro D H3 sA nD0 hD
  have hB3:=hB.mono sA
  refine ⟨_,rfl,b,T.c_Book,dx,_,_,rfl,hB3.ob,T.cl_Book,T.na_Book_links,Zgi,_,rfl,_,rfl,few rfl,fun t2 nt2=>?_⟩
  have sB:=Zae (o:=.tup [.str l,.str n]) nt2
  have hB4:=hB3.mono sB
  refine ⟨li,_,rfl,DPut.t (k:=two (l,n)) hB4.li Zab ?_,?_⟩
  ·rw [show B.linksD.length=B.links.length from List.length_map ..]
   exact Zao (by omega)
  rw [show B.linksD=B.links.map fun q=>(two q.1,V.ref q.2.1) from rfl,Zgr (f:=two) (fun _ _=>ZdQ) (fun p:Addr × List Str=>V.ref p.1) B.links (l,n) (D,Zie (ZbU B l n++[m]))]
  refine q _ D (hB4.links fun q hq=>?_) ((But.of [li] (sA.trans sB)).trans (But.put hB4.li (by simp))) nD0
  rcases Zgk hq with rfl | hq
  ·exact sB _ _ hD
  ·exact hB4.ll q hq
 refine ⟨_,dg,?_⟩
 cases hk:Za0 (l,n) B.links with
 | none =>
   have e:ZbU B l n=[]:=by unfold ZbU; rw [hk]; rfl
   have hX:H2 z=some (.lst ((ZbU B l n).map V.str)):=by rw [e]; exact hz0
   refine ⟨_,rfl,few rfl,fun y ny=>⟨z,y,_,_,rfl,rfl,(Zak (Zat hX ny)).trans hX,Zab,?len,fun p np=>⟨p,ZbU B l n++[m],rfl,.of (by rw [Zab,List.map_append]; rfl),?len2,fun D zs nD perm so=>?go⟩⟩⟩
   case len=>rw [List.length_map]; exact Nat.le_of_lt (Zao (by show _+1≤1000; omega))
   case len2=>rw [List.length_append]; show _+1<64; omega
   have s4:=(s3.trans (Zae ny)).trans ((Zae np).trans (Zae (o:=.lst (zs.map V.str)) nD))
   have hDD:(upd (upd (upd H2 y (.lst [V.str m])) p (.lst ((ZbU B l n).map V.str++[V.str m]))) D (.lst (zs.map V.str))) D=some (.lst (zs.map V.str)):=Zab
   rw [Zlu perm so] at hDD s4 ⊢
   exact rest D _ s4 (Zbp ((s3.trans (Zae ny)).trans (Zae np)) nD) hDD
 | some x =>
   have e:ZbU B l n=x.2:=by unfold ZbU; rw [hk]; rfl
   obtain ⟨y0,hy0,ey⟩:=ZfB hk
   have hl2:=hB.ll y0 hy0
   rw [ey] at hl2
   have hX:H2 x.1=some (.lst ((ZbU B l n).map V.str)):=by rw [e]; exact (s3 _ _ hl2)
   refine ⟨_,rfl,few rfl,fun y ny=>⟨x.1,y,_,_,rfl,rfl,(Zak (Zat hX ny)).trans hX,Zab,?lenb,fun p np=>⟨p,ZbU B l n++[m],rfl,.of (by rw [Zab,List.map_append]; rfl),?len2b,fun D zs nD perm so=>?gob⟩⟩⟩
   case lenb=>rw [List.length_map]; exact Nat.le_of_lt (Zao (by show _+1≤1000; omega))
   case len2b=>rw [List.length_append]; show _+1<64; omega
   have s4:=(s3.trans (Zae ny)).trans ((Zae np).trans (Zae (o:=.lst (zs.map V.str)) nD))
   have hDD:(upd (upd (upd H2 y (.lst [V.str m])) p (.lst ((ZbU B l n).map V.str++[V.str m]))) D (.lst (zs.map V.str))) D=some (.lst (zs.map V.str)):=Zab
   rw [Zlu perm so] at hDD s4 ⊢
   exact rest D _ s4 (Zbp ((s3.trans (Zae ny)).trans (Zae np)) nD) hDD
theorem Zfj (T:Tx K w mg) (ZaU:Zdq P base T):Zdj P base T:=by
 refine Fun.okX (k:=1) T.Za8.F Zfe (fun vs H Q E h=>h.1) (fun cdv A outer s H vs Q E hr h=>?_)
 obtain ⟨-,h⟩:=h
 obtain ⟨b,dx,k,bi,li,ti,su,B0,B,n,s,d,a,rfl,hk,hb,hbi,no,hl0,hE,hB,q⟩:=h
 refine ⟨_, (Zaf (Zfy (ZdU hr) (Zce (pv 0) rfl) (Zaq Zan (pv 1) Zac (fun _ _ => rfl)) (pv 1) rfl)
   (Zaf (Za9 (Zas ZkX (Zaq Zan (pv 1) Zac (fun _ _=>rfl)) Zav (Zaw _)) (Zaf (Za3 (Zau (pv 0) T.cl_Book T.ZaE.me ZaU (hr.mono (by decide)) T.ZaE.b .nil Zah (Zaa Zav (Zaa (Zaq Zan (pv 1) Zac (fun _ _=>rfl)) (Zaa (Zaq Zan (pv 1) Zac (fun _ _=>rfl)) Zad)))))
   (Zaj (Za3 (Zau (pv 0) T.cl_Book T.ZaE.me ZaU (hr.mono (by decide)) T.ZaE.b .nil Zah (Zaa Zav (Zaa (Zaq Zan (pv 1) Zac (fun _ _=>rfl)) (Zaa (Zaq Zan (pv 1) Zac (fun _ _=>rfl)) Zad))))))) Zay)
   (Zaj (Za9 (Zas ZkX (Zaq Zan (pv 1) Zac (fun _ _=>rfl)) Zav (Zaw _)) (Zaf (Za3 (Zau (pv 0) T.cl_Book T.ZaE.me ZaU (hr.mono (by decide)) T.ZaE.b .nil Zah (Zaa Zav (Zaa (Zaq Zan (pv 1) Zac (fun _ _=>rfl)) (Zaa (Zaq Zan (pv 1) Zac (fun _ _=>rfl)) Zad)))))
   (Zaj (Za3 (Zau (pv 0) T.cl_Book T.ZaE.me ZaU (hr.mono (by decide)) T.ZaE.b .nil Zah (Zaa Zav (Zaa (Zaq Zan (pv 1) Zac (fun _ _=>rfl)) (Zaa (Zaq Zan (pv 1) Zac (fun _ _=>rfl)) Zad))))))) Zay)))),?_⟩
 have hb0:ZdS (Bk.bornD B0) (.inr n:Key)=none:=by rw [Zib,no]; rfl
 refine ⟨_,rfl,_,rfl,b,T.c_Book,dx,_,_,rfl,hb,T.cl_Book,T.na_Book_births,Zfk,_,rfl,a,_,_,_,rfl,rfl,hE,Zag (j:=1) rfl,bi,_,rfl,DPut.k (k:=.inr n) hbi (Zao (Nat.le_trans (Nat.le_trans (ZjL B0) hl0) (by decide))),?_⟩
 rw [ZiP _ hb0,← Znx B0 n s d "" "" a,← hk]
 have hE3:=hB.en _ (show (Ent.born n s d "" "",a)∈B.kept by rw [hk]; simp)
 exact ⟨_,rfl,a,_,_,_,rfl,rfl,hE3,Zag (j:=4) rfl,rfl,_,rfl,ZaC (by decide +kernel) ⟨_,rfl,a,_,_,_,rfl,rfl,hE3,Zag (j:=5) rfl,rfl,_,rfl,ZaC (by decide +kernel) q⟩⟩
theorem Zjn (T:Tx K w mg) (ZeL:Zhq P base T) (Zam:ZaW P base T):Zhd P base T:=by
 refine Fun.okX (k:=1) T.Zcq.F Zkf (fun vs H Q E h=>h.1) (fun cdv A outer s H vs Q E hr h=>?_)
 obtain ⟨-,h⟩:=h
 obtain ⟨v,x,y,B,rfl,hv,h⟩:=h
 refine ⟨_, (Zaf (Za9 (Zdf (ZcD (Zar ZeL (hr.mono (by decide)) (by rfl) T.Zb8.m T.Zb8.F.kp T.Zb8.b .nil Zah (Zaa (pv 1) Zad)))) (Zaj (Zdt (by rfl) T.m_NoWay T.x_NoWay EB rfl Zdp (Zaa Zav Zad))) Zay)
   (Zaf (Za3 (Zau (pv 0) T.cl_Book T.Zap.me Zam (hr.mono (by decide)) T.Zap.b .nil ZbX (Zaa (pv 2) Zad)))
   (Zaj (Zax (ZnR Zj8 (by rfl) T.n_list Zqg (Zaa (Zel (ZdU hr) (Zce (pv 0) rfl) (Zbd (Zaa (pv 1) (Zaa (pv 2) Zad))) (Zch Zad) ⟨rfl,rfl,rfl,rfl⟩) Zad)))))),?_⟩
 obtain ⟨b,dx,k,bi,li,ti,su,rfl,hB⟩:=id hv
 rcases h with ⟨ty,hk,ks,qe⟩ | ⟨l,rfl,q1,q23⟩
 ·exact ⟨_,rfl,rfl,x,rfl,.inl ⟨ty,hk,ks,_,rfl,Zda ⟨few rfl,qe⟩⟩⟩
 refine ⟨_,rfl,rfl,.str l,rfl,.inr ⟨l,rfl,_,rfl,?_⟩⟩
 cases hl:ZmC l with
 | false=>exact Zda ⟨few rfl,q1 hl⟩
 | true =>
  refine Zdz ⟨_,rfl,b,dx,_,rfl,hB.ob,rfl,_,rfl,rfl,.ref b,y,B,rfl,hv,?_⟩
  rcases q23 hl with ⟨ty,hk,ks,qe⟩ | ⟨n,rfl,q2,q3⟩
  ·exact .inl ⟨ty,hk,ks,qe⟩
  refine .inr ⟨n,rfl,q2,fun p hp=>?_⟩
  have kn:Known B n:=by unfold Known; rw [hp]; simp
  refine ⟨_,rfl,b,T.c_Book,dx,_,_,rfl,hB.ob,T.cl_Book,T.na_Book_links,Zgi,li,rfl,.inr ⟨_,.inl hB.li⟩,_,rfl,_,rfl,few rfl,fun t nt=>⟨few rfl,fun z nz=>?_⟩⟩
  have s1:=Zae (o:=.tup [.str l,.str n]) nt
  have s2:=Zae (o:=.lst []) nz
  have s3:=s1.trans s2
  have dg:=DGet.t (k:=two (l,n)) (s3 _ _ hB.li) (s2 _ _ (Zab (o:=.tup [.str l,.str n])))
  rw [show B.linksD=B.links.map fun q=>(two q.1,V.ref q.2.1) from rfl,ZiF] at dg
  refine ⟨_,dg,?_⟩
  cases hk:Za0 (l,n) B.links with
  | none =>
   have e:ZbU B l n=[]:=by unfold ZbU; rw [hk]; rfl
   rw [e] at q3
   exact ⟨z,[],rfl,.inl (.of Zab),fun D nD=>q3 kn _ D (s3.trans (Zae nD)) (Zbp s3 nD) Zab⟩
  | some x =>
   have e:ZbU B l n=x.2:=by unfold ZbU; rw [hk]; rfl
   rw [e] at q3
   obtain ⟨y,hy,ey⟩:=ZfB hk
   have hl2:=hB.ll y hy
   rw [ey] at hl2
   exact ⟨x.1,_,rfl,.inl (.of (s3 _ _ hl2)),fun D nD=>q3 kn _ D (s3.trans (Zae nD)) (Zbp s3 nD) Zab⟩
theorem Zhz (T:Tx K w mg) (Zdi:Zhr P base T) (Zam:ZaW P base T):Zdo P base T:=by
 refine FunD.okX (k:=1) T.F_Book_stands Zc8 (fun vs H Q E h=>h.1) (fun cdv A outer s H vs Q E hr h=>?_)
 obtain ⟨-,h⟩:=h
 obtain ⟨v,a,c,z0,B,rfl,hz0,hv,ka,kc,hlen,q⟩:=h
 refine ⟨_, (Zaf (Za3 (Zau (pv 0) T.cl_Book T.Zap.me Zam (hr.mono (by decide)) T.Zap.b .nil ZbX (Zaa (pv 1) Zad)))
   (Zaf (Za3 (Zau (pv 0) T.cl_Book T.Zap.me Zam (hr.mono (by decide)) T.Zap.b .nil ZbX (Zaa (pv 2) Zad)))
   (Zaf (ZaN (i:=4) Zc8.nd rfl (Or.inl rfl) (Zel (ZdU hr) (Zce (pv 0) rfl) (Zar Zdi (hr.mono (by decide)) (by rfl) T.Zb2.m T.Zb2.F.kp T.Zb2.b .nil Zah (Zaa (pv 1) (Zaa (pv 2) Zad))) ZiX ⟨rfl,rfl,rfl,rfl⟩))
   (Zaf (Zp5 (Zm0 (i:=5) rfl  Zc8.nd rfl (Or.inl rfl) (ZcW (N:=["tied_on","day"]) ["day"] [none,some 3] rfl (by decide +kernel) (by decide +kernel) (by rfl) (by rfl) (by rfl) (by rfl) (by rfl)) (ZqA (pv 4)) (fun _ _ _=>(ZaM (i:=0) Zs7 rfl (Or.inl rfl))) (fun _ _ _=>(ZeT (PW.pt (Zjk (Zas Znz (pv 1) ZfN (Zaw _)) (ZhT (Zas Zke (pv 0) (pv 1) (Zaw _))))))) (fun _ _ _=>(pv 0))))
   (Zaj (Zax (ZcL (Zbj Zrq (Zaz ZaX (by rfl) T.n_len ZcM (Zaa (pv 5) Zad)) Zac (Zaw _)) (ZcE (Zbj ZbZ (Znu (ZdU hr) (pv 4) (Zaz (ZmS K rfl) (by rfl) T.n_max ZnK (Zaa (pv 5) Zad)) (fun _ _=>rfl)) Zav (Zaw _)))))))))),?_⟩
 obtain ⟨b,dx,k,bi,li,ti,su,rfl,hB⟩:=id hv
 refine ⟨_,rfl,b,dx,_,rfl,hB.ob,rfl,_,rfl,rfl,.ref b,.str a,B,rfl,hv,.inr ⟨a,rfl,fun no=>absurd no ka,fun p1 hp1=>?_⟩⟩
 refine ⟨_,rfl,b,dx,_,rfl,hB.ob,rfl,_,rfl,rfl,.ref b,.str c,B,rfl,hv,.inr ⟨c,rfl,fun no=>absurd no kc,fun p2 hp2=>?_⟩⟩
 dsimp only
 refine Zer (fun σ' H'=>∃ d,σ'=[some (.ref b),some (.str a),some (.str c),some z0,some (.ref d),none]∧Same H H'∧H' d=some (.dK (Zh6 (Zbn B (Zai a c))))) (fun nx hnx=>?_) ?_
 ·refine ⟨_,rfl,b,T.c_Book,dx,_,_,rfl,hB.ob,T.cl_Book,T.na_Book_ties,Zot,ti,rfl,.inr ⟨_,.inl hB.ti⟩,_,rfl,_,rfl,rfl,a,c,rfl,fun H1 t s1 nt ht=>fun z nz=>?_⟩
  have s2:=Zae (o:=.dK []) nz
  have s3:=s1.trans s2
  have dg:=DGet.t (k:=two (Zai a c)) (s3 _ _ hB.ti) (s2 _ _ ht)
  rw [show B.tiesD=B.ties.map fun q=>(two q.1,V.ref q.2.1) from rfl,Zeg (f:=two) (fun _ _=>ZdQ) (fun p:Addr × List (Int × Str)=>V.ref p.1)] at dg
  refine ⟨_,dg,?_⟩
  cases hk:ZaK (Zai a c) B.ties with
  | none =>
   refine hnx _ _ ⟨z,rfl,s3,?_⟩
   have e:Zbn B (Zai a c)=[]:=by unfold Zbn; rw [hk]; rfl
   rw [e]
   exact Zab
  | some x =>
   refine hnx _ _ ⟨x.1,rfl,s3,?_⟩
   have e:Zbn B (Zai a c)=x.2:=by unfold Zbn; rw [hk]; rfl
   rw [e]
   exact s3 _ _ (hB.tt _ (Zdg hk))
 rintro σ' H2 ⟨d,rfl,s2,hd⟩
 have est:ZdY B z0 a c=Zcn ((Zbn B (Zai a c)).filter fun r=>ZfG z0 r.1):=rfl
 rw [est] at q
 generalize Zbn B (Zai a c)=l at *
 have llen:(Zh6 l).length=l.length:=List.length_map ..
 refine ⟨d,Zh6 l,hd,_,rfl,d,Zh6 l,rfl,hd,fun o=>Zde (l.map (ZqK z0)) (Zao (by rw [List.length_map]; omega)) (fun σ=>∃ w,σ=[w,some z0]) ⟨_,rfl⟩ (fun i H3 hi sm=>?go) (fun H3 sm=>?stop) (fun i σ H3 x H4 y hy hσ sm hx C hC=>?step) (fun D H3 nD sm hD=>?fin)⟩
 case go=>exact ⟨sm _ _ Zab,by rw [llen]; rw [List.length_map] at hi; exact hi⟩
 case stop=>exact ⟨sm _ _ Zab,by rw [llen,List.length_map]; exact Nat.le_refl _⟩
 case step =>
  obtain ⟨w,rfl⟩:=hσ
  obtain ⟨rfl,hx2⟩:=hx
  rw [List.getElem?_map] at hy
  obtain ⟨r,hr2,rfl⟩:=Option.map_eq_some_iff.mp hy
  have ex:x=.int r.1:=by
   unfold Zh6 at hx2
   rw [List.getElem?_map,hr2] at hx2
   exact (Option.some.inj hx2).symm
  subst ex
  rcases hz0 with rfl | ⟨dd,rfl⟩
  ·exact ⟨_,rfl,rfl,_,rfl,Zbo (by rfl) (Zda ⟨_,rfl,hC _ _ ⟨_,rfl⟩ (Same.refl _)⟩)⟩
  ·refine ⟨_,rfl,rfl,_,rfl,ZaC (by rfl) ⟨_,rfl,_,rfl,_,_,rfl,rfl,_,rfl,?_⟩⟩
   by_cases hd2:r.1≤dd
   ·rw [show ZqK (.int dd) r=some (.int r.1) from if_pos (decide_eq_true hd2)] at hC
    exact Zbo (decide_eq_true hd2) ⟨_,rfl,hC _ _ ⟨_,rfl⟩ (Same.refl _)⟩
   ·rw [show ZqK (.int dd) r=none from if_neg (by show ¬ decide (r.1≤dd)=true; rw [decide_eq_false hd2]; decide)] at hC
    exact ZaC (decide_eq_false hd2) (hC _ _ ⟨_,rfl⟩ (Same.refl _))
 case fin =>
  rw [ZlO] at hD
  refine ⟨o,sm _ _ Zab,?_⟩
  have nDd:D≠d:=fun e=>by subst e; rw [Zab] at nD; cases nD
  have hD4:(upd H3 d (.dK (Zh6 l))) D=some (.lst (((l.filter fun r=>ZfG z0 r.1).map (·.1)).map V.int)):=(Zak nDd).trans hD
  have hd4:(upd H3 d (.dK (Zh6 l))) d=some (.dK (Zh6 l)):=Zab
  have s4:Same H2 (upd H3 d (.dK (Zh6 l))):=fun x u e=>by
   by_cases xd:x=d
   ·subst xd; rw [hd] at e; cases e; exact hd4
   ·rw [Zak xd]
    exact sm _ _ ((Zak xd).trans e)
  generalize upd H3 d (.dK (Zh6 l))=H5 at *
  refine ⟨_,rfl,D,_,rfl,.inl (.of hD4),_,_,rfl,rfl,_,rfl,?_⟩
  rw [List.length_map,List.length_map]
  cases hl2:l.filter fun r=>ZfG z0 r.1 with
  | nil =>
   rw [hl2] at q
   exact Zdz (q _ (s2.trans s4))
  | cons r0 l0 =>
   rw [hl2] at q hD4
   refine Zbo (decide_eq_true (by rw [List.length_cons]; omega)) ⟨_,rfl,_,rfl,D,(r0 :: l0).map (·.1),rfl,.of hD4,by simp,fun m hm hx=>?_⟩
   obtain ⟨x,ex⟩:=Zm1 hm
   have um:ZfG z0 m=true:=by
    obtain ⟨rr,hrr,rfl⟩:=List.mem_map.mp hm
    rw [← hl2] at hrr
    exact (List.mem_filter.mp hrr).2
   have ex2:ZaK m l=some x:=by rw [← ZjF (p:=ZfG z0) um,hl2]; exact ex
   have dg:=DGet.k (k:=.inl m) hd4
   rw [show Zh6 l=l.map fun q=>((.inl q.1:Key),V.str q.2) from rfl,Zeg (f:=(Sum.inl:Int->Key)) ZmM V.str,ex2] at dg
   have q2:=q _ (s2.trans s4)
   rw [Zg5 hm hx ex] at q2
   refine ⟨d,.str x,rfl,dg,rfl,?_⟩
   rw [ZeX]
   exact q2
theorem Zgf (T:Tx K w mg) (Zdi:Zhr P base T) (ZaU:Zdq P base T) (ZeQ:Zhd P base T) (Zbe:Zdo P base T):ZdK P base T:=by
 refine Fun.okX (k:=2) T.Zbr.F Zb6 (fun vs H Q E h=>h.1) (fun cdv A outer s H vs Q E hr h=>?_)
 obtain ⟨-,h⟩:=h
 obtain ⟨b,dx,k,bi,li,ti,su,B,a,kd,p1,p2,d,rfl,hE,hB,k1,k2,nd,tl,dl,ll,lf,q⟩:=h
 refine ⟨_, (Zaf (ZaN (i := 2) Zb6.nd rfl (Or.inl rfl) (Zpc (ZdU hr) (Zce (pv 0) rfl) (Zar Zdi (hr.mono (by decide)) (by rfl) T.Zb2.m T.Zb2.F.kp T.Zb2.b .nil Zah (Zaa (Zaq Zan (pv 1) Zac (fun _ _ => rfl)) (Zaa (Zaq Zan (pv 1) Zac (fun _ _ => rfl)) Zad))) ZiX ⟨rfl, rfl, rfl, rfl⟩))
   (Zaf (Zfy (ZdU hr) (pv 2) (Zaq Zan (pv 1) Zac (fun _ _=>rfl)) (Zaq Zan (pv 1) Zac (fun _ _=>rfl)) rfl)
   (Zaj (ZdV PassesOwn.leaving rfl (ZnB (Zbd (Zaa (Zbd (Zaa (Zaq Zan (pv 1) Zac (fun _ _=>rfl)) (Zaa (Zaq Zan (pv 1) Zac (fun _ _=>rfl)) Zad))) (Zaa (Zbd (Zaa (Zaq Zan (pv 1) Zac (fun _ _=>rfl)) (Zaa (Zaq Zan (pv 1) Zac (fun _ _=>rfl)) Zad))) Zad)))) (Znv rfl (Zb5 (ZaM (i:=3) Zb6.nd rfl (Or.inl rfl)) (Zb5 (ZaM (i:=4) Zb6.nd rfl (Or.inr rfl)) ZfI)))
    (Zaf (Zfy (ZdU hr) (Zce (pv 0) rfl) (Zbd (Zaa Zav (Zaa (pv 3) Zad))) (ZdP rfl (ZcW (N:=["name","end"]) ["end"] [none,some 4] rfl (by decide +kernel) (by decide +kernel) (by rfl) (by rfl) (by rfl) (by rfl) (by rfl)) (ZcS (Zau (pv 0) T.cl_Book T.Zcq.me ZeQ (hr.mono (by decide)) T.Zcq.b .nil Zah (Zaa Zav (Zaa (pv 3) Zad)))) (fun _ _ _=>(ZaM (i:=0) ZsQ rfl (Or.inl rfl))) (fun _ _ _=>(ZeT (Zas ZkX (pv 0) (pv 1) (Zaw _)))) (fun _ _ _=>(pv 0))) rfl)
   (Zaj (Za9 (ZcD (Zau (pv 0) T.cl_Book T.me_Book_stands Zbe (hr.mono (by decide)) T.b_Book_stands (.cons (show RelV V.non Value.none from rfl) .nil) Zah (Zaa (pv 3) (Zaa (pv 4) Zad)))) (Zaj (Za3 (Zau (pv 0) T.cl_Book T.ZaE.me ZaU (hr.mono (by decide)) T.ZaE.b .nil Zah (Zaa Zav (Zaa (pv 3) (Zaa (pv 4) Zad)))))) Zay))))))),?_⟩
 refine Zer (fun σ' H'=>∃ y ts,σ'=[some (.ref b),some (.ref a),some (.ref y),none,none]∧BkAt K T.c_Book H' b dx k bi li ti su { B with ties:=ts }∧(ts.map (·.1)).Nodup∧ts.length≤B.ties.length+1∧ZaK (Zai p1 p2) ts=some (y,Zbn B (Zai p1 p2))∧(∀ c,ZiJ ts c=Zbn B c)∧But [li,ti,y] H H'∧(H y=none∨y∈B.ties.map (·.2.1))∧GrowsT H B.ties ts∧SqT K H' a [.str kd,.str p1,.str p2,.int d]) (fun nx hnx=>?_) ?_
 ·refine ⟨_,rfl,b,T.c_Book,dx,_,_,rfl,hB.ob,T.cl_Book,T.na_Book_ties,Zot,ti,rfl,.inr ⟨_,.inl hB.ti⟩,_,rfl,a,_,_,_,rfl,rfl,hE,Zag (j:=1) rfl,_,rfl,a,_,_,_,rfl,rfl,hE,Zag (j:=2) rfl,rfl,p1,p2,rfl,fun H1 t s1 nt ht=>fun z nz=>?_⟩
  have s2:=Zae (o:=.dK []) nz
  have s3:=s1.trans s2
  have hB1:=hB.mono s1
  have hB3:=hB.mono s3
  have hlen:B.tiesD.length=B.ties.length:=List.length_map ..
  have hval:ZdS B.tiesD (two (Zai p1 p2))=(ZaK (Zai p1 p2) B.ties).map fun p=>V.ref p.1:=Zeg (f:=two) (fun _ _=>ZdQ) (fun p:Addr × List (Int × Str)=>V.ref p.1) _ _
  refine ⟨_,two (Zai p1 p2),t,hB3.ti,rfl,s2 _ _ ht,by rw [hlen]; exact Zao (by omega),fun v hv=>?_,fun hn=>?_⟩
  ·rw [hval] at hv
   obtain ⟨x,hk,rfl⟩:=Option.map_eq_some_iff.mp hv
   have e:Zbn B (Zai p1 p2)=x.2:=by unfold Zbn; rw [hk]; rfl
   exact hnx _ _ ⟨x.1,B.ties,rfl,hB3,nd,by omega,by rw [hk,e],fun c=>rfl,But.of _ s3,.inr (List.mem_map.mpr ⟨_,Zdg hk,rfl⟩),GrowsT.refl _ _,s3.sqt hE⟩
  ·rw [hval] at hn
   have hk:ZaK (Zai p1 p2) B.ties=none:=by simpa using hn
   have e:Zbn B (Zai p1 p2)=[]:=by unfold Zbn; rw [hk]; rfl
   have zn:∀ {x:Addr} {o:HO},H1 x=some o->x≠z:=fun h=>Zat h nz
   refine hnx _ _ ⟨z,B.ties++[(Zai p1 p2,z,[])],rfl,hB3.newTie Zab ⟨(zn hB1.bi).symm,fun q hq=>zn (hB1.tt q hq)⟩ _,?_,by rw [List.length_append]; exact Nat.le_refl _,?_,fun c=>ZoQ _ _ _ _ hk,?_,.inl (Zbp s1 nz),(fun a ha=>by rw [List.map_append] at ha; exact (List.mem_append.mp ha).imp id (fun ha=>by rw [show a=z by simpa using ha]; exact Zbp s1 nz)),?_⟩
   ·rw [List.map_append,List.nodup_append]
    refine ⟨nd,by simp,fun x hx w hw ex=>?_⟩
    have ew:w=Zai p1 p2:=by simpa using hw
    subst ew ex
    obtain ⟨p,hp,ep⟩:=List.mem_map.mp hx
    have:=Ze5 hk
    rw [List.any_eq_false] at this
    exact absurd (decide_eq_true ep) (this p hp)
   ·rw [Zff,hk,e]
    unfold ZaK
    rw [if_pos rfl]
    rfl
   ·exact (But.of _ s3).trans (But.put hB3.ti (by simp))
   ·exact ZcC (s3.sqt hE) hB3.ti (fun _ z=>by cases z) (fun _ _ z=>by cases z)
 rintro σ' H1 ⟨y,ts,rfl,hB1,nd1,tl1,hf,htf,bt1,hy0,grT,hE1⟩
 generalize hl:Zbn B (Zai p1 p2)=l at *
 have hy:H1 y=some (.dK (Zh6 l)):=hB1.tt _ (Zdg hf)
 have hB2:=hB1.putTie nd1 hf (ZbQ l d kd)
 obtain ⟨pa1,pa2⟩:=ZhM (l':=ZbQ l d kd) nd1 hf
 have grT2:GrowsT H B.ties (ZbQ ts (Zai p1 p2) (y,ZbQ l d kd)):=fun a ha=>grT a (by rw [← pa1]; exact ha)
 have tl2:(ZbQ ts (Zai p1 p2) (y,ZbQ l d kd)).length=ts.length:=by
  have:=congrArg List.length pa1
  rwa [List.length_map,List.length_map] at this
 have htf2:∀ c,ZiJ (ZbQ ts (Zai p1 p2) (y,ZbQ l d kd)) c=if c=Zai p1 p2 then ZbQ l d kd else Zbn B c:=fun c=>by rw [Zpz,htf]
 have nd2:((ZbQ ts (Zai p1 p2) (y,ZbQ l d kd)).map (·.1)).Nodup:=by rw [pa2]; exact nd1
 have hE2:SqT K (upd H1 y (.dK (Zh6 (ZbQ l d kd)))) a [.str kd,.str p1,.str p2,.int d]:=ZcC hE1 hy (fun _ z=>by cases z) (fun _ _ z=>by cases z)
 have bt2:But [li,ti,y] H (upd H1 y (.dK (Zh6 (ZbQ l d kd)))):=bt1.trans (But.put hy (by simp))
 have dlen:(Zh6 l).length=l.length:=List.length_map ..
 refine ⟨_,rfl,a,_,_,_,rfl,rfl,hE1,Zag (j:=0) rfl,_,rfl,_,rfl,a,_,_,_,rfl,rfl,hE1,Zag (j:=3) rfl,y,_,rfl,DPut.k (k:=.inl d) hy (by rw [dlen]; exact Zao (by omega)),?_⟩
 rw [show Zjc (Zh6 l) (.inl d) (.str kd)=Zh6 (ZbQ l d kd) from Zgr (f:=(Sum.inl:Int->Key)) ZmM V.str l d kd]
 generalize upd H1 y (.dK (Zh6 (ZbQ l d kd)))=H2 at *
 generalize ZbQ ts (Zai p1 p2) (y,ZbQ l d kd)=ts2 at *
 generalize hst:Zcn (ZbQ l d kd)=st at *
 have ldl:(ZbQ l d kd).length≤801:=by have:=Zgu l d kd; omega
 refine ⟨_,rfl,a,_,_,_,rfl,rfl,hE2,Zag (j:=1) rfl,_,rfl,a,_,_,_,rfl,rfl,hE2,Zag (j:=2) rfl,few rfl,fun t1 nt1=>?_⟩
 have s1:=Zae (o:=.tup [.str p1,.str p2]) nt1
 refine ⟨_,rfl,a,_,_,_,rfl,rfl,(s1.sqt hE2),Zag (j:=2) rfl,_,rfl,a,_,_,_,rfl,rfl,(s1.sqt hE2),Zag (j:=1) rfl,few rfl,fun t2 nt2=>?_⟩
 have s2:=Zae (o:=.tup [.str p2,.str p1]) nt2
 refine ⟨few rfl,fun t3 nt3=>?_⟩
 have s3:=Zae (o:=.tup [.ref t1,.ref t2]) nt3
 have s123:=s1.trans (s2.trans s3)
 refine ⟨t3,rfl,⟨_,.of Zab⟩,Znd (xs:=[.ref t1,.ref t2]) (fun i σ H5=>∃ ls v3 v4,σ=[some (.ref b),some (.ref a),some (.ref y),v3,v4]∧BkAt K T.c_Book H5 b dx k bi li ti su { B with links:=ls,ties:=ts2 }∧(∀ c,lk ls c=(match i with | 0=>lk B.links | 1=>ZbT (lk B.links) st p1 p2 | _=>ZbT (ZbT (lk B.links) st p1 p2) st p2 p1) c)∧ls.length≤B.links.length+2*i∧But [li,ti,y] H H5∧SqT K H5 t1 [.str p1,.str p2]∧SqT K H5 t2 [.str p2,.str p1]∧SqT K H5 t3 [.ref t1,.ref t2]∧Grows H B.links ls) ?start ?list ?turn ?done⟩
 case start=>exact ⟨B.links,none,none,rfl,hB2.mono s123,fun c=>rfl,by omega,bt2.trans (But.of _ s123),(s2.trans s3).sqt (.of Zab),s3.sqt (.of Zab),.of Zab,Grows.refl _ _⟩
 case list =>
  rintro i σ H5 _ ⟨ls,v3,v4,rfl,_,_,_,_,_,_,h3,_⟩
  exact h3
 case done =>
  rintro σ H5 ⟨ls,v3,v4,rfl,hB5,hlk,hls,bt5,_,_,_,gr⟩
  exact q H5 ls ts2 y hB5 nd2 (by omega) htf2 hlk (by simp at hls; omega) bt5 hy0 grT2 gr
 case turn =>
  rintro i x σ H5 hx ⟨ls,v3,v4,rfl,hB5,hlk,hls,bt5,h1,h2,h3,gr⟩
  have pick:∃ tq u w,x=.ref tq∧SqT K H5 tq [.str u,.str w]∧Known B u∧Known B w∧Zai u w=Zai p1 p2∧i≤1∧∀ F:Str × Str->List Str,(∀ c,F c=ZbT (match i with | 0=>lk B.links | 1=>ZbT (lk B.links) st p1 p2 | _=>ZbT (ZbT (lk B.links) st p1 p2) st p2 p1) st u w c)->∀ c,F c=(match i+1 with | 0=>lk B.links | 1=>ZbT (lk B.links) st p1 p2 | _=>ZbT (ZbT (lk B.links) st p1 p2) st p2 p1) c:=by
   match i,hx with
   | 0,hx=>exact ⟨t1,p1,p2,(Option.some.inj hx).symm,h1,k1,k2,rfl,by omega,fun F hF=>hF⟩
   | 1,hx=>exact ⟨t2,p2,p1,(Option.some.inj hx).symm,h2,k2,k1,Zee p2 p1,by omega,fun F hF=>hF⟩
  obtain ⟨tq,u,w,rfl,hq,ku,kw,hpr,i1,hG⟩:=pick
  have gl:∀ c,((match i with | 0=>lk B.links | 1=>ZbT (lk B.links) st p1 p2 | _=>ZbT (ZbT (lk B.links) st p1 p2) st p2 p1) c).length≤61:=by
   intro c
   match i,i1 with
   | 0,_=>have:=lf c; exact Nat.le_succ_of_le this
   | 1,_=>exact Nat.le_trans (Zhs ..) (by have:=lf c; omega)
  generalize (match i with | 0=>lk B.links | 1=>ZbT (lk B.links) st p1 p2 | _=>ZbT (ZbT (lk B.links) st p1 p2) st p2 p1)=G at *
  refine ⟨tq,_,rfl,hq,rfl,_,_,rfl,_,_,rfl,rfl,?_⟩
  dsimp only [Zkj]
  refine Zer (fun σ' H'=>∃ D2,σ'=[some (.ref b),some (.ref a),some (.ref y),some (.str u),some (.str w)]∧BkAt K T.c_Book H' b dx k bi li ti su { B with links:=ZbQ ls ("S",u) (D2,(G ("S",u)).filter fun n=>decide (n≠w)),ties:=ts2 }∧But [li,ti,y] H H'∧SqT K H' t1 [.str p1,.str p2]∧SqT K H' t2 [.str p2,.str p1]∧SqT K H' t3 [.ref t1,.ref t2]∧H D2=none) (fun nx hnx=>?_) ?_
  ·refine ⟨_,rfl,b,dx,_,rfl,hB5.ob,rfl,_,rfl,rfl,.ref b,.str "S",.str u,_,rfl,⟨b,dx,k,bi,li,ti,su,rfl,hB5⟩,.inr ⟨"S",rfl,fun h=>absurd h (by decide +kernel),fun _=>.inr ⟨u,rfl,fun no=>absurd no ku,fun _ H6 D s6 nD hD0=>?_⟩⟩⟩
   have eL:ZbU { B with links:=ls,ties:=ts2 } "S" u=G ("S",u):=hlk ("S",u)
   rw [eL] at hD0
   have hD:SqL K H6 D ((G ("S",u)).map V.str):=.of hD0
   refine ⟨D,rfl,⟨_,hD⟩,Zde ((G ("S",u)).map (Zqu w)) (Zao (by rw [List.length_map]; have:=gl ("S",u); omega)) (fun σ=>∃ v,σ=[v,some (.str w)]) ⟨_,rfl⟩ (fun j H7 hj sm=>?go) (fun H7 sm=>?stop) (fun j σ H7 x H8 o ho hσ sm hx C hC=>?step) (fun D2 H7 nD2 sm hD2=>?fin)⟩
   case go=>exact ⟨_,_,sm.sql hD,List.getElem?_eq_getElem (by rw [List.length_map] at hj ⊢; exact hj)⟩
   case stop=>exact ⟨_,sm.sql hD,by rw [List.length_map,List.length_map]; exact Nat.le_refl _⟩
   case step =>
    obtain ⟨v,rfl⟩:=hσ
    obtain ⟨rfl,hx2⟩:=hx
    have e1:=hx2 _ (sm.sql hD)
    rw [List.getElem?_map] at e1 ho
    obtain ⟨n,hn,rfl⟩:=Option.map_eq_some_iff.mp e1
    rw [hn] at ho
    obtain rfl:Zqu w n=o:=Option.some.inj ho
    refine ⟨_,rfl,_,rfl,rfl,_,rfl,?_⟩
    by_cases hz0:n=w
    ·have e2:Zqu w n=none:=if_pos hz0
     rw [e2] at hC
     exact ZaC (by show (!decide (V.str n=V.str w))=false; rw [ZeX,decide_eq_true hz0]; rfl) (hC _ _ ⟨_,rfl⟩ (Same.refl _))
    ·have e2:Zqu w n=some (.str n):=if_neg hz0
     rw [e2] at hC
     exact Zbo (by show (!decide (V.str n=V.str w))=true; rw [ZeX,decide_eq_false hz0]; rfl) ⟨_,rfl,hC _ _ ⟨_,rfl⟩ (Same.refl _)⟩
   case fin =>
    rw [ZlR] at hD2
    have s67:=s6.trans sm
    have hB7:=hB5.mono s67
    refine ⟨_,rfl,b,T.c_Book,dx,_,_,rfl,hB7.ob,T.cl_Book,T.na_Book_links,Zgi,_,rfl,few rfl,fun t nt=>?_⟩
    have s8:=Zae (o:=.tup [.str "S",.str u]) nt
    have hB8:=hB7.mono s8
    have llen:({ B with links:=ls,ties:=ts2 }:Bk).linksD.length=ls.length:=List.length_map ..
    refine ⟨li,_,rfl,DPut.t (k:=two ("S",u)) hB8.li Zab (by rw [llen]; exact Zao (by omega)),?_⟩
    rw [show ({ B with links:=ls,ties:=ts2 }:Bk).linksD=ls.map fun q=>(two q.1,V.ref q.2.1) from rfl,Zgr (f:=two) (fun _ _=>ZdQ) (fun p:Addr × List Str=>V.ref p.1) ls ("S",u) (D2,(G ("S",u)).filter fun n=>decide (n≠w))]
    have li8:=hB8.li
    have kp:∀ {c:Addr} {xs:List V},SqT K H5 c xs->SqT K (upd (upd H7 t (.tup [.str "S",.str u])) li (.dT ((ZbQ ls ("S",u) (D2,(G ("S",u)).filter fun n=>decide (n≠w))).map fun q=>(two q.1,V.ref q.2.1)))) c xs:=fun h=>ZcC ((s67.trans s8).sqt h) li8 (fun _ z=>by cases z) (fun _ _ z=>by cases z)
    refine hnx _ _ ⟨D2,rfl,hB8.links fun q hq=>?_,bt5.trans ((But.of _ (s67.trans s8)).trans (But.put li8 (by simp))),kp h1,kp h2,kp h3,bt5.al _ (Zbp s6 nD2)⟩
    rcases Zgk hq with rfl | hq
    ·exact s8 _ _ hD2
    ·exact hB8.ll q hq
  ·rintro σ' H6 ⟨D2,rfl,hB6,bt6,g1,g2,g3,n2⟩
   have pl:=Zgu ls ("S",u) (D2,(G ("S",u)).filter fun n=>decide (n≠w))
   have lk6:∀ c,lk (ZbQ ls ("S",u) (D2,(G ("S",u)).filter fun n=>decide (n≠w))) c=if c=(("S",u):Str × Str) then (G ("S",u)).filter (fun n=>decide (n≠w)) else G c:=fun c=>by rw [ZnA,hlk]
   have et:Zbn { B with links:=ZbQ ls ("S",u) (D2,(G ("S",u)).filter fun n=>decide (n≠w)),ties:=ts2 } (Zai u w)=ZbQ l d kd:=by
    rw [Zi5]
    show ZiJ ts2 (Zai u w)=_
    rw [htf2,if_pos hpr]
   have es:Zd6 { B with links:=ZbQ ls ("S",u) (D2,(G ("S",u)).filter fun n=>decide (n≠w)),ties:=ts2 } u w=st:=by
    unfold Zd6
    rw [et,hst]
   refine ⟨_,rfl,b,dx,_,rfl,hB6.ob,rfl,_,rfl,_,rfl,rfl,.ref b,u,w,.non,_,rfl,.inl rfl,⟨b,dx,k,bi,li,ti,su,rfl,hB6⟩,ku,kw,by rw [et]; omega,fun H7 s7=>⟨_,rfl,?_⟩⟩
   rw [Zdx,es]
   have hB7:=hB6.mono s7
   have bt7:=bt6.trans (But.of _ s7)
   refine Zsa (fun hs=>?_) (fun hs=>?_)
   ·have la:ZbU { B with links:=ZbQ ls ("S",u) (D2,(G ("S",u)).filter fun n=>decide (n≠w)),ties:=ts2 } "S" u=(G ("S",u)).filter fun n=>decide (n≠w):=by
     rw [Zsf]
     show lk (ZbQ ls ("S",u) _) ("S",u)=_
     rw [lk6,if_pos rfl]
    refine ⟨_,rfl,b,dx,_,rfl,hB7.ob,rfl,_,rfl,_,rfl,rfl,b,dx,k,bi,li,ti,su,_,"S",u,w,rfl,hB7,?_,?_,fun H8 D8 hB8 bt8 nD8=>?_⟩
    ·rw [la]
     exact Nat.le_trans (List.length_filter_le ..) (gl _)
    ·show (ZbQ ls ("S",u) _).length≤900
     omega
    ·have li7:=hB7.li
     have kp:∀ {c:Addr} {xs:List V},SqT K H7 c xs->SqT K H8 c xs:=fun {c xs} h=>by
      rcases h with (h | ⟨o,h⟩) | h
      ·exact .inl (.inl (bt8.eq _ _ (fun z=>by rw [show c=li by simpa using z,li7] at h; cases h) h))
      ·exact .inl (.inr ⟨o,bt8.eq _ _ (fun z=>by rw [show c=li by simpa using z,li7] at h; cases h) h⟩)
      ·exact .inr h
     rw [la] at hB8
     refine ⟨_,_,_,rfl,hB8,hG _ fun c=>?_,?_,bt7.trans (bt8.mono (by simp)),kp (s7.sqt g1),kp (s7.sqt g2),kp (s7.sqt g3),(gr.put n2).put (bt7.al _ nD8)⟩
     ·rw [ZnA]
      unfold ZbT
      by_cases ec:c=(("S",u):Str × Str)
      ·subst ec
       rw [if_pos rfl,if_pos rfl,if_pos hs]
      ·rw [if_neg ec,if_neg ec,lk6,if_neg ec]
     ·have p2:=Zgu (ZbQ ls ("S",u) (D2,(G ("S",u)).filter fun n=>decide (n≠w))) ("S",u) (D8,Zie ((G ("S",u)).filter (fun n=>decide (n≠w))++[w]))
      show (ZbQ (ZbQ ls ("S",u) _) ("S",u) _).length≤_
      omega
   ·refine ⟨_,_,_,rfl,hB7,hG _ fun c=>?_,by show (ZbQ ls ("S",u) _).length≤_; omega,bt7,s7.sqt g1,s7.sqt g2,s7.sqt g3,gr.put n2⟩
    rw [lk6]
    unfold ZbT
    by_cases ec:c=(("S",u):Str × Str)
    ·subst ec
     rw [if_pos rfl,if_pos rfl,if_neg (by rw [hs]; decide)]
    ·rw [if_neg ec,if_neg ec]
theorem ZkT (T:Tx K w mg) (Zei:Zid P base T) (Zdb:ZgZ P base T) (Zed:ZiO P base T) (Zdw:Zfb P base T) (ZaU:Zdq P base T) (Zcl:Zdj P base T) (ZcR:ZdK P base T):Zem P base T:=by
 refine Fun.okX (k:=5) T.Za2.F Ze1 (fun vs H Q E h=>h.1) (fun cdv A outer s H vs Q E hr h=>?_)
 obtain ⟨-,h⟩:=h
 obtain ⟨b,dx,k,bi,li,ti,su,B,x,e,rfl,hB,hx,ok,nt,no,rm,q⟩:=h
 refine ⟨_, (Zaf (Za3 (Zau (pv 0) T.cl_Book T.ZbR.me Zdw (hr.mono (by decide)) T.ZbR.b .nil ZbX (Zaa (pv 1) Zad)))
   (Zaf (ZaN (i:=2) Ze1.nd rfl (Or.inl rfl) (Zar Zdb (hr.mono (by decide)) (by rfl) T.Zb4.m T.Zb4.F.kp T.Zb4.b .nil Zah (Zaa (pv 1) Zad)))
   (Zaf (Zfy (ZdU hr) (Zce (pv 0) rfl) (Zar Zed (hr.mono (by decide)) (by rfl) T.Zct.m T.Zct.F.kp T.Zct.b .nil Zah (Zaa (pv 2) Zad)) (pv 2) rfl)
   (Zaj (Za9 (Zas ZbZ (Zaq Zan (pv 2) Zac (fun _ _=>rfl)) Zav (Zaw _)) (Zaj (Za3 (Zau (pv 0) T.cl_Book T.Za8.me Zcl (hr.mono (by decide)) T.Za8.b .nil Zah (Zaa (pv 2) Zad)))) (Zaj (Za9 (Zas ZbZ (Zaq Zan (pv 2) Zac (fun _ _=>rfl)) Zav (Zaw _)) (Zaf (Za3 (Zau (pv 0) T.cl_Book T.ZaE.me ZaU (hr.mono (by decide)) T.ZaE.b .nil Zah (Zaa Zav (Zaa (Zaq Zan (pv 2) Zac (fun _ _=>rfl)) (Zaa (Zaq Zan (pv 2) Zac (fun _ _=>rfl)) Zad)))))
   (Zaj (Za3 (Zau (pv 0) T.cl_Book T.ZaE.me ZaU (hr.mono (by decide)) T.ZaE.b .nil Zah (Zaa Zav (Zaa (Zaq Zan (pv 2) Zac (fun _ _=>rfl)) (Zaa (Zaq Zan (pv 2) Zac (fun _ _=>rfl)) Zad))))))) (Zaj (Za9 (Zas ZbZ (Zaq Zan (pv 2) Zac (fun _ _=>rfl)) Zav (Zaw _)) (Zaf (ZaN (i:=3) Ze1.nd rfl (Or.inl rfl) (Zbd (Zaa (Zaq Zan (pv 2) Zac (fun _ _=>rfl)) (Zaa (Zaq Zan (pv 2) Zac (fun _ _=>rfl)) Zad))))
   (Zaj (Zfy (ZdU hr) (Zce (pv 0) rfl) (pv 3) (ZaB Zcy (Zel (ZdU hr) (Zce (pv 0) rfl) (pv 3) Zac ⟨rfl,rfl,rfl,rfl⟩) (Zaq Zan (pv 2) Zac (fun _ _=>rfl))) rfl))) (Zaj (Za9 (ZcD (Zar Zei (hr.mono (by decide)) (by rfl) T.Zcw.m T.Zcw.F.kp T.Zcw.b .nil Zah (Zaa (pv 2) Zad))) (Zaj (Za3 (Zau (pv 0) T.cl_Book T.Zbr.me ZcR (hr.mono (by decide)) T.Zbr.b .nil Zah (Zaa (pv 2) Zad)))) Zay))))))))))),?_⟩
 refine ⟨_,rfl,b,dx,_,rfl,hB.ob,rfl,_,rfl,rfl,.ref b,x,B,e,rfl,⟨b,dx,k,bi,li,ti,su,rfl,hB⟩,hx,ok,nt,no,fun H1 s1=>?_⟩
 obtain ⟨hno,hk400,kn⟩:=Zjs no
 refine ⟨_,rfl,rfl,x,e,rfl,hx.mono s1,fun H2 u s2 hu=>?_⟩
 obtain ⟨a,rfl,hA⟩:=hu
 have s12:=s1.trans s2
 have hB2:=hB.mono s12
 have klen:B.keptD.length=B.kept.length:=List.length_map ..
 refine ⟨_,rfl,_,rfl,b,T.c_Book,dx,_,_,rfl,hB2.ob,T.cl_Book,T.na_Book_kept,ZfM,_,rfl,rfl,.ref a,e.told,rfl,⟨a,rfl,hA⟩,fun H3 p s3 np hp=>⟨k,_,rfl,DPut.t (k:=e.told.told.key) (s3 _ _ hB2.ke) hp (by rw [klen]; exact Zao (by omega)),?_⟩⟩
 rw [Zhb,ZiP _ hno]
 have s13:=s12.trans s3
 have hB3:=hB.mono s13
 have hA3:=s3.sqt hA
 have kn2:∀ n∈e.told.named,Known B n:=fun n hn=>kn n (Zmp e n hn)
 have nt':e.told.bare=true:=by cases e <;> first | exact nt | cases nt | rfl
 have tk:∀ (e':Ent),e.told=e'->e'.told=e':=fun e' h=>by rw [← h,Zhb]
 have pt:∀ {B':Bk} (e':Ent),e.told=e'->(∀ c,Zit B'.sums c=ZoA (Zit B.sums) e' c)->(∃ a,B'.kept=B.kept++[(e',a)])->(∀ c,lk B'.links c=ZqP (lk B.links) (ZiJ B.ties) e' c)->(∀ c,ZiJ B'.ties c=ZoY (ZiJ B.ties) e' c)->(B'.ties.map (·.1)).Nodup->B'.links.length≤B.links.length+4->B'.ties.length≤B.ties.length+1->B'.sums.length≤B.sums.length+1->Put B e B':=fun {B'} e' h=>by
  subst h
  exact Put.mk
 generalize e.told=e' at *
 have hK:=hB3.kept (e:=e') hA3
 have kb:k≠bi:=ZaP hB3.ke hB3.bi (fun z=>by cases z)
 have hA4:SqT K (upd H3 k (.dT (B.keptD++[(e'.key,.ref a)]))) a (e'.row.map kV):=ZcC hA3 hB3.ke (fun _ z=>by cases z) (fun _ _ z=>by cases z)
 have btk:But [k,bi,li,ti,su] H (upd H3 k (.dT (B.keptD++[(e'.key,.ref a)]))):=(But.of _ s13).trans (But.put hB3.ke (by simp))
 have hbi:(upd H3 k (.dT (B.keptD++[(e'.key,.ref a)]))) bi=some (.dK (Bk.bornD B.kept)):=(Zak kb.symm).trans hB3.bi
 have hob:(upd H3 k (.dT (B.keptD++[(e'.key,.ref a)]))) b=some (.ins T.c_Book dx (bkF k bi li ti su)):=(Zak (ZaP hB3.ob hB3.ke (fun z=>by cases z))).trans hB3.ob
 have hKn:e'.isBorn=false->BkAt K T.c_Book (upd H3 k (.dT (B.keptD++[(e'.key,.ref a)]))) b dx k bi li ti su { B with kept:=B.kept++[(e',a)] }:=fun nb=>by
  rw [ZmG nb,Zpj hbi] at hK
  exact hK
 have fresh:∀ {y:Addr},H3 y=none->(H y=none∨∃ w,H y=some (.dK w)):=fun h=>.inl (Zbp s13 h)
 generalize hH4:upd H3 k (.dT (B.keptD++[(e'.key,.ref a)]))=H4 at *
 dsimp only
 have hbiH:∃ w,H bi=some (.dK w):=⟨_,hB.bi⟩
 cases e' with
 | born n s d f m =>
  obtain ⟨rfl,rfl⟩:=Zjh nt'
  refine ⟨_,rfl,a,_,_,_,rfl,rfl,hA4,Zag (j:=0) rfl,rfl,_,rfl,Zbo (by decide +kernel) ?_⟩
  refine ⟨_,rfl,b,dx,_,rfl,hob,rfl,_,rfl,rfl,b,dx,k,bi,li,ti,su,B.kept,{ B with kept:=B.kept++[(.born n s d "" "",a)] },n,s,d,a,rfl,rfl,hob,hbi,Zmj hno,by omega,hA4,hK,?_⟩
  exact q _ _ bi hK (pt _ rfl (fun c=>rfl) ⟨a,rfl⟩ (fun c=>by show lk B.links c=Zkk (lk B.links) n "" "" c; unfold Zkk; simp only [if_true]) (fun c=>rfl) rm.nd (Nat.le_add_right ..) (Nat.le_succ _) (Nat.le_succ _)) ((btk.trans (But.put hbi (by simp))).mono (by simp)) (.inr (.inl rfl)) (Grows.refl _ _) (GrowsT.refl _ _)
 | taken c t d=>cases nt'
 | given g t am d =>
  have hB4:=hKn rfl
  have rs:=rm.ns
  refine ⟨_,rfl,a,_,_,_,rfl,rfl,hA4,Zag (j:=0) rfl,rfl,_,rfl,ZaC (by decide +kernel) ⟨_,rfl,a,_,_,_,rfl,rfl,hA4,Zag (j:=0) rfl,rfl,_,rfl,ZaC (by decide +kernel) ⟨_,rfl,a,_,_,_,rfl,rfl,hA4,Zag (j:=0) rfl,rfl,_,rfl,Zbo (by decide +kernel) ?_⟩⟩⟩
  refine ⟨_,rfl,a,_,_,_,rfl,rfl,hA4,Zag (j:=1) rfl,_,rfl,a,_,_,_,rfl,rfl,hA4,Zag (j:=2) rfl,few rfl,fun pg npg=>?_⟩
  have s5:=Zae (o:=.tup [.str g,.str t]) npg
  have hB5:=hB4.mono s5
  have hA5:=s5.sqt hA4
  have dg:=DGet.t (k:=two (g,t)) hB5.su (Zab (o:=.tup [.str g,.str t]))
  have hval:ZdS ({ B with kept:=B.kept++[(.given g t am d,a)] }:Bk).sumsD (two (g,t))=(ZaK (g,t) B.sums).map V.int:=Zeg (f:=two) (fun _ _=>ZdQ) V.int _ _
  rw [hval] at dg
  have slen:({ B with kept:=B.kept++[(.given g t am d,a)] }:Bk).sumsD.length=B.sums.length:=List.length_map ..
  have iv:∃ i:Int,((ZaK (g,t) B.sums).map V.int).getD (.int 0)=.int i:=by
   cases ZaK (g,t) B.sums with
   | none=>exact ⟨0,rfl⟩
   | some i=>exact ⟨i,rfl⟩
  obtain ⟨i,hi⟩:=iv
  refine ⟨_,rfl,b,T.c_Book,dx,_,_,rfl,hB5.ob,T.cl_Book,T.na_Book_sums,ZkH,su,rfl,.inr ⟨_,.inl hB5.su⟩,_,rfl,_,dg,_,rfl,a,_,_,_,rfl,rfl,hA5,Zag (j:=3) rfl,i,am,hi,rfl,_,rfl,b,T.c_Book,dx,_,_,rfl,hB5.ob,T.cl_Book,T.na_Book_sums,ZkH,_,rfl,su,_,rfl,DPut.t (k:=two (g,t)) hB5.su (Zab (o:=.tup [.str g,.str t])) (by rw [slen]; exact Zao (by omega)),?_⟩
  rw [show Zjc ({ B with kept:=B.kept++[(.given g t am d,a)] }:Bk).sumsD (two (g,t)) (V.int (i+am))=(ZbQ B.sums (g,t) (i+am)).map fun q=>(two q.1,V.int q.2) from Zgr (f:=two) (fun _ _=>ZdQ) V.int B.sums (g,t) (i+am)]
  have ei:i=Zit B.sums (g,t):=by
   unfold Zit
   cases hf:ZaK (g,t) B.sums with
   | none=>rw [hf] at hi; exact (V.int.inj hi).symm
   | some j=>rw [hf] at hi; exact (V.int.inj hi).symm
  exact q _ _ bi (hB5.sums _) (pt _ rfl (fun c=>by rw [ei]; exact ZoB B.sums g t am d c) ⟨a,rfl⟩ (fun c=>rfl) (fun c=>rfl) rm.nd (Nat.le_add_right ..) (Nat.le_succ _) (Zgu ..)) ((btk.mono (by simp)).trans ((But.of _ s5).trans (But.put hB5.su (by simp)))) (.inr (.inl rfl)) (Grows.refl _ _) (GrowsT.refl _ _)
 | dead n d =>
  have hB4:=hKn rfl
  refine ⟨_,rfl,a,_,_,_,rfl,rfl,hA4,Zag (j:=0) rfl,rfl,_,rfl,ZaC (by decide +kernel) ⟨_,rfl,a,_,_,_,rfl,rfl,hA4,Zag (j:=0) rfl,rfl,_,rfl,ZaC (by decide +kernel) ⟨_,rfl,a,_,_,_,rfl,rfl,hA4,Zag (j:=0) rfl,rfl,_,rfl,ZaC (by decide +kernel) ?_⟩⟩⟩
  refine ⟨_,rfl,rfl,.ref a,.dead n d,rfl,⟨a,rfl,hA4⟩,fun H5 s5=>⟨_,rfl,Zdz ?_⟩⟩
  exact q _ _ bi (hB4.mono s5) (pt _ rfl (fun c=>rfl) ⟨a,rfl⟩ (fun c=>rfl) (fun c=>rfl) rm.nd (Nat.le_add_right ..) (Nat.le_succ _) (Nat.le_succ _)) ((btk.mono (by simp)).trans (But.of _ s5)) (.inr (.inl rfl)) (Grows.refl _ _) (GrowsT.refl _ _)
 | union x y d =>
  have hB4:=hKn rfl
  refine ⟨_,rfl,a,_,_,_,rfl,rfl,hA4,Zag (j:=0) rfl,rfl,_,rfl,ZaC (by decide +kernel) ⟨_,rfl,a,_,_,_,rfl,rfl,hA4,Zag (j:=0) rfl,rfl,_,rfl,ZaC (by decide +kernel) ⟨_,rfl,a,_,_,_,rfl,rfl,hA4,Zag (j:=0) rfl,rfl,_,rfl,ZaC (by decide +kernel) ?_⟩⟩⟩
  refine ⟨_,rfl,rfl,.ref a,.union x y d,rfl,⟨a,rfl,hA4⟩,fun H5 s5=>⟨_,rfl,Zda ?_⟩⟩
  have hB5:=hB4.mono s5
  have rl:=rm.nl
  have rt:=rm.nt
  refine ⟨_,rfl,b,dx,_,rfl,hB5.ob,rfl,_,rfl,rfl,b,dx,k,bi,li,ti,su,_,a,"union",x,y,d,rfl,s5.sqt hA4,hB5,(kn2 x (by simp [Ent.named])).more rfl,(kn2 y (by simp [Ent.named])).more rfl,rm.nd,Nat.le_trans rm.nt (by omega),Nat.le_trans (rm.tt _) (by omega),Nat.le_trans rm.nl (by omega),rm.ll,fun H6 ls ts z hB6 nd6 tl6 htf hlk hls bt6 hz grT6 gr6=>?_⟩
  exact q H6 _ z hB6 (pt _ rfl (fun c=>rfl) ⟨a,rfl⟩ hlk htf nd6 hls tl6 (Nat.le_succ _)) ((btk.mono (by simp)).trans ((But.of _ s5).trans (bt6.mono (by simp)))) (hz.imp (fun h=>btk.al _ (Zbp s5 h)) .inr) (gr6.back fun a n=>btk.al a (Zbp s5 n)) (grT6.back fun a n=>btk.al a (Zbp s5 n))
 | parted x y d =>
  have hB4:=hKn rfl
  refine ⟨_,rfl,a,_,_,_,rfl,rfl,hA4,Zag (j:=0) rfl,rfl,_,rfl,ZaC (by decide +kernel) ⟨_,rfl,a,_,_,_,rfl,rfl,hA4,Zag (j:=0) rfl,rfl,_,rfl,ZaC (by decide +kernel) ⟨_,rfl,a,_,_,_,rfl,rfl,hA4,Zag (j:=0) rfl,rfl,_,rfl,ZaC (by decide +kernel) ?_⟩⟩⟩
  refine ⟨_,rfl,rfl,.ref a,.parted x y d,rfl,⟨a,rfl,hA4⟩,fun H5 s5=>⟨_,rfl,Zda ?_⟩⟩
  have hB5:=hB4.mono s5
  have rl:=rm.nl
  have rt:=rm.nt
  refine ⟨_,rfl,b,dx,_,rfl,hB5.ob,rfl,_,rfl,rfl,b,dx,k,bi,li,ti,su,_,a,"parted",x,y,d,rfl,s5.sqt hA4,hB5,(kn2 x (by simp [Ent.named])).more rfl,(kn2 y (by simp [Ent.named])).more rfl,rm.nd,Nat.le_trans rm.nt (by omega),Nat.le_trans (rm.tt _) (by omega),Nat.le_trans rm.nl (by omega),rm.ll,fun H6 ls ts z hB6 nd6 tl6 htf hlk hls bt6 hz grT6 gr6=>?_⟩
  exact q H6 _ z hB6 (pt _ rfl (fun c=>rfl) ⟨a,rfl⟩ hlk htf nd6 hls tl6 (Nat.le_succ _)) ((btk.mono (by simp)).trans ((But.of _ s5).trans (bt6.mono (by simp)))) (hz.imp (fun h=>btk.al _ (Zbp s5 h)) .inr) (gr6.back fun a n=>btk.al a (Zbp s5 n)) (grT6.back fun a n=>btk.al a (Zbp s5 n))
theorem Zhe (T:Tx K w mg)  : Zet P base T:=by
 refine Fun.okX (k:=0) T.Za5.F Zg4 (fun vs H Q E h=>h.1) (fun cdv A outer s H vs Q E hr h=>?_)
 obtain ⟨-,h⟩:=h
 obtain ⟨v,B,rfl,⟨b,dx,k,bi,li,ti,su,rfl,hB⟩,hl,q⟩:=h
 refine ⟨_,(Zaj (Zax (Zaz (ZjI Ze7 K rfl) (by rfl) T.n_sorted Zb3 (Zaa (Zor K PySem.F.plainAttrs_dict PySem.F.slot_dict_values PySem.F.type_dict_values Zkv (Zce (pv 0) rfl)) Zad)))),?_⟩
 have hk:H k=some (.dT B.keptD):=hB.ke
 refine ⟨_,rfl,b,T.c_Book,dx,_,_,rfl,hB.ob,T.cl_Book,T.na_Book_kept,ZfM,.inr (.inr (.inl ⟨rfl,.inr ⟨_,hk⟩⟩)),k,_,rfl,rfl,hk,fun r nr=>?_⟩
 have sr:=Zae (o:=.ext (ZdB r k)) nr
 have hB1:=hB.mono sr
 refine ⟨r,k,_,B.kept.map fun p=>(p.2,p.1.row),rfl,Zab,hB1.ke,?_,fun p hp=>?_,fun D out nD pm so=>?_⟩
 ·unfold Bk.keptD; rw [List.map_map,List.map_map]; rfl
 ·obtain ⟨z,hz,rfl⟩:=List.mem_map.mp hp
  exact ⟨hB1.en z hz,⟨_,rfl⟩,Zfi _⟩
 ·obtain ⟨o2,p2,rfl⟩:=Zca pm B.kept rfl
  refine q _ D o2 (sr.trans (Zae nD)) (Zbp sr nD) p2 ?_ ?_
  ·rw [List.map_map] at so; exact so
  ·rw [Zab,List.map_map]; rfl
theorem ZgJ (T:Tx K w mg) (Zam:ZaW P base T):Zeu P base T:=by
 refine Fun.okX (k:=1) T.Za6.F Zd1 (fun vs H Q E h=>h.1) (fun cdv A outer s H vs Q E hr h=>?_)
 obtain ⟨-,h⟩:=h
 obtain ⟨v,x,B,rfl,hv,h⟩:=h
 refine ⟨_, (Zaf (Za3 (Zau (pv 0) T.cl_Book T.Zap.me Zam (hr.mono (by decide)) T.Zap.b .nil ZbX (Zaa (pv 1) Zad)))
   (Zaf (ZaN (i:=2) Zd1.nd rfl (Or.inl rfl) (Zel (ZdU hr) (Zce (pv 0) rfl) (Zbd (Zaa Zav (Zaa (pv 1) Zad))) ZfN ⟨rfl,rfl,rfl,rfl⟩))
   (Zaj (Zax (Zpo (Zas Znz (pv 2) ZfN (Zaw _)) ZfN (Zaq Zan (pv 2) Zac (fun _ _=>rfl))))))),?_⟩
 obtain ⟨b,dx,k,bi,li,ti,su,rfl,hB⟩:=id hv
 rcases h with ⟨hx,hE⟩ | ⟨n,rfl,kn,q⟩
 ·exact ⟨_,rfl,b,dx,_,rfl,hB.ob,rfl,_,rfl,rfl,.ref b,x,B,rfl,hv,ZmI hx hE⟩
 refine ⟨_,rfl,b,dx,_,rfl,hB.ob,rfl,_,rfl,rfl,.ref b,.str n,B,rfl,hv,.inr ⟨n,rfl,fun no=>absurd no kn,fun p0 hp0=>?_⟩⟩
 refine ⟨_,rfl,b,T.c_Book,dx,_,_,rfl,hB.ob,T.cl_Book,T.na_Book_kept,ZfM,k,rfl,.inr ⟨_,.inl hB.ke⟩,_,rfl,few rfl,fun t nt=>?_⟩
 have s1:=Zae (o:=.tup [.str "dead",.str n]) nt
 have dg:=DGet.t (k:=([.inr "dead",.inr n]:List Key)) (s1 _ _ hB.ke) Zab
 rw [show B.keptD=B.kept.map fun p=>(p.1.key,V.ref p.2) from rfl,ZlA] at dg
 refine ⟨_,dg,?_⟩
 have q1:=q _ s1
 unfold ZjN at q1
 cases hd:ZdD n B.kept with
 | none =>
  rw [hd] at q1
  exact ⟨_,rfl,rfl,_,rfl,Zbo (by rfl) q1⟩
 | some r =>
  obtain ⟨d,a⟩:=r
  rw [hd] at q1
  exact ⟨_,rfl,rfl,_,rfl,ZaC (by rfl) ⟨_,rfl,a,_,_,_,rfl,rfl,s1.sqt (hB.en _ (Zdc hd)),Zag (j:=2) rfl,q1⟩⟩
theorem Zj1 (T:Tx K w mg) (Zam:ZaW P base T):Zdu P base T:=by
 refine Fun.okX (k:=1) T.Zbi.F Zjp (fun vs H Q E h=>h.1) (fun cdv A outer s H vs Q E hr h=>?_)
 obtain ⟨-,h⟩:=h
 obtain ⟨v,a,c,B,rfl,hv,ka,kc,q⟩:=h
 refine ⟨_, (Zaf (Za3 (Zau (pv 0) T.cl_Book T.Zap.me Zam (hr.mono (by decide)) T.Zap.b .nil ZbX (Zaa (pv 1) Zad)))
   (Zaf (Za3 (Zau (pv 0) T.cl_Book T.Zap.me Zam (hr.mono (by decide)) T.Zap.b .nil ZbX (Zaa (pv 2) Zad)))
   (Zaj (Zax (Zel (ZdU hr) (Zce (pv 0) rfl) (Zbd (Zaa (pv 1) (Zaa (pv 2) Zad))) Zac ⟨rfl,rfl,rfl,rfl⟩))))),?_⟩
 obtain ⟨b,dx,k,bi,li,ti,su,rfl,hB⟩:=id hv
 refine ⟨_,rfl,b,dx,_,rfl,hB.ob,rfl,_,rfl,rfl,.ref b,.str a,B,rfl,hv,.inr ⟨a,rfl,fun no=>absurd no ka,fun p1 hp1=>?_⟩⟩
 refine ⟨_,rfl,b,dx,_,rfl,hB.ob,rfl,_,rfl,rfl,.ref b,.str c,B,rfl,hv,.inr ⟨c,rfl,fun no=>absurd no kc,fun p2 hp2=>?_⟩⟩
 refine ⟨_,rfl,b,T.c_Book,dx,_,_,rfl,hB.ob,T.cl_Book,T.na_Book_sums,ZkH,su,rfl,.inr ⟨_,.inl hB.su⟩,_,rfl,_,rfl,few rfl,fun t nt=>?_⟩
 have s1:=Zae (o:=.tup [.str a,.str c]) nt
 have dg:=DGet.t (k:=two (a,c)) (s1 _ _ hB.su) Zab
 rw [show B.sumsD=B.sums.map fun q=>(two q.1,V.int q.2) from rfl,Zeg (f:=two) (fun _ _=>ZdQ) V.int] at dg
 refine ⟨_,dg,?_⟩
 have q1:=q _ s1
 unfold Zit at q1
 cases hf:ZaK (a,c) B.sums with
 | none=>rw [hf] at q1; exact q1
 | some i=>rw [hf] at q1; exact q1
theorem ZiQ (T:Tx K w mg) (Zeh:Ziw P base T) (Zbq:ZcQ P base T) (Zbs:Zem P base T):ZdZ P base T:=by
 refine Fun.okX (k:=6) T.Za4.F Zdm (fun vs H Q E h=>h.1) (fun cdv A outer s H vs Q E hr h=>?_)
 obtain ⟨-,h⟩:=h
 obtain ⟨b,dx,k,bi,li,ti,su,B,d,rfl,hB,gd,q⟩:=h
 refine ⟨_, (Zaf (ZaN (i := 2) Zdm.nd rfl (Or.inl rfl) (ZjR T.mk_Book Zbq (hr.mono (by decide)) (by rfl) T.m_Book T.Zbc.b .nil Zah))
   (Zaf (Zpw (ZdV PassesOwn.leaving rfl (Zqw (Zor K PySem.F.plainAttrs_dict PySem.F.slot_dict_values PySem.F.type_dict_values Zkv (Zce (pv 0) rfl))) (ZaM (i:=3) Zdm.nd rfl (Or.inl rfl))
    (Zaj (Za9 (Zas Zke (Zar Zeh (hr.mono (by decide)) (by rfl) T.Zcx.m T.Zcx.F.kp T.Zcx.b .nil Zah (Zaa (pv 3) Zad)) (pv 1) (Zaw _)) (Zaj (Za3 (Zau (pv 2) T.cl_Book T.Za2.me Zbs (hr.mono (by decide)) T.Za2.b .nil Zah (Zaa (pv 3) Zad)))) Zay))))
   (Zaj (Zax (pv 2))))),?_⟩
 refine fun b2 dx2 nb ndx nn=>⟨rfl,b2,dx2,rfl,Zab,fun H2 k2 bi2 li2 ti2 su2 hB2 keep nk nbi nli nti nsu=>⟨rfl,?_⟩⟩
 have sb:Same H (upd (upd H dx2 (.own b2)) b2 (.ins T.c_Book dx2 [])):=fun c o e=>by rw [Zak (Zat e nb),Zak (Zat e ndx)]; exact e
 have s2:Same H H2:=fun c o e=>keep c o (sb c o e) (Zat e nb)
 have hBm:=hB.mono s2
 have hk:=hBm.ke
 refine ⟨k,B.keptD,hk,_,rfl,b,T.c_Book,dx,_,_,rfl,hBm.ob,T.cl_Book,T.na_Book_kept,ZfM,.inr (.inr (.inl ⟨rfl,.inr ⟨_,hk⟩⟩)),k,_,rfl,rfl,hk,fun r nr=>?_⟩
 have sr:=Zae (o:=.ext (ZdB r k)) nr
 refine ⟨r,k,B.keptD,rfl,Zab,sr _ _ hk,fun o=>?_⟩
 have hBr:=hB2.mono sr
 have kk:k≠k2:=fun z=>by have e:=hB.ke; rw [z,Zbp sb nk] at e; cases e
 have n5:∀ c∈[k2,bi2,li2,ti2,su2],H c=none:=fun c hc=>by
  simp only [List.mem_cons,List.not_mem_nil,or_false] at hc
  rcases hc with rfl | rfl | rfl | rfl | rfl
  ·exact Zbp sb nk
  ·exact Zbp sb nbi
  ·exact Zbp sb nli
  ·exact Zbp sb nti
  ·exact Zbp sb nsu
 have kH:∃ w,H k=some w:=⟨_,hB.ke⟩
 have k5:k ∉ [k2,bi2,li2,ti2,su2]:=fun z=>by obtain ⟨w,e⟩:=kH; rw [n5 k z] at e; cases e
 have hBf : BkAt K T.c_Book (upd (upd H2 r (.ext (ZdB r k))) k (.frz o (.dT B.keptD))) b2 dx2 k2 bi2 li2 ti2 su2 bk0 := hBr.but0 (S := [k]) ⟨fun a u na e => (Zak (fun z => na (by rw [z]; simp))).trans e, fun a e => by
   by_cases z:a=k
   ·subst z; rw [Zab] at e; cases e
   ·rw [Zak z] at e; exact e⟩ (fun a ha z=>by
  have ea:a=k:=by simpa using z
  subst ea
  rcases List.mem_cons.mp ha with e | e
  ·have e1:=hB.ke; rw [e,nb] at e1; cases e1
  ·exact k5 e)
 have sf:∀ c u,c≠k->H c=some u->(upd (upd H2 r (.ext (ZdB r k))) k (.frz o (.dT B.keptD))) c=some u:=fun c u nc e=>(Zak nc).trans (sr _ _ (s2 _ _ e))
 have fk:(upd (upd H2 r (.ext (ZdB r k))) k (.frz o (.dT B.keptD))) k=some (.frz o (.dT B.keptD)):=Zab
 generalize upd (upd H2 r (.ext (ZdB r k))) k (.frz o (.dT B.keptD))=Hf at *
 have klen:B.keptD.length=B.kept.length:=List.length_map ..
 refine Zpt (fun i σ Hc=>∃ (B2:Bk) (v3:Option V),σ=[some (.ref b),some (.int d),some (.ref b2),v3]∧BkAt K T.c_Book Hc b2 dx2 k2 bi2 li2 ti2 su2 B2∧SB B2 (((B.kept.take i).map (·.1)).filter fun e=>decide (e.day≤d))∧(∀ c u,c≠k->H c=some u->Hc c=some u)∧Hc k=some (.frz o (.dT B.keptD))∧(∀ c∈B2.ties.map (·.2.1),H c=none)) ?start ?list ?turn ?done
 case start=>exact ⟨bk0,none,rfl,hBf,SB.start,sf,fk,fun c hc=>(by cases hc)⟩
 case list =>
  rintro i σ Hc _ ⟨B2,v3,rfl,_,_,_,fk,_⟩
  exact fk
 case done =>
  rintro σ Hc ⟨B2,v3,rfl,hBc,sbk,sf,fk,ft⟩
  rw [klen,List.take_length] at sbk
  refine ⟨o,fk,?_⟩
  have sZ:Same H (upd Hc k (.dT B.keptD)):=fun c u e=>by
   by_cases z:c=k
   ·subst z; rw [hB.ke] at e; cases e; exact Zab
   ·rw [Zak z]; exact sf c u z e
  exact ⟨_,rfl,q _ b2 dx2 k2 bi2 li2 ti2 su2 B2 (hBc.thaw fk) sbk sZ n5 ft⟩
 case turn =>
  rintro i p σ Hc hp ⟨B2,v3,rfl,hBc,sbk,sf,fk,ft⟩
  unfold Bk.keptD at hp
  rw [List.getElem?_map] at hp
  obtain ⟨⟨e,a⟩,he,rfl⟩:=Option.map_eq_some_iff.mp hp
  have hm:=List.mem_of_getElem? he
  have row:SqT K Hc a (e.row.map kV):=by
   rcases hB.en _ hm with (h | ⟨x,h⟩) | h
   ·exact .inl (.inl (sf _ _ (ZaP h hB.ke (fun z=>by cases z)) h))
   ·exact .inl (.inr ⟨x,sf _ _ (ZaP h hB.ke (fun z=>by cases z)) h⟩)
   ·exact .inr h
  have tk:(B.kept.take (i+1)).map (·.1)=(B.kept.take i).map (·.1)++[e]:=Zi1 he
  have gt:Gd (((B.kept.take (i+1)).map (·.1)).filter fun e=>decide (e.day≤d)):=by rw [List.map_take]; exact ZeJ d (gd.take _)
  refine ⟨_,rfl,rfl,.ref a,e,rfl,⟨a,rfl,row⟩,_,rfl,_,_,rfl,rfl,_,rfl,?_⟩
  by_cases hd:e.day≤d
  ·refine Zbo (decide_eq_true hd) ?_
   have ef:((B.kept.take (i+1)).map (·.1)).filter (fun e=>decide (e.day≤d))=((B.kept.take i).map (·.1)).filter (fun e=>decide (e.day≤d))++[e]:=by
    rw [tk,List.filter_append]
    congr 1
    simp [hd]
   obtain ⟨g0,l70,t60,acc⟩:=gt.last ef
   refine ⟨_,rfl,b2,dx2,_,rfl,hBc.ob,rfl,_,rfl,rfl,b2,dx2,k2,bi2,li2,ti2,su2,B2,.ref a,e,rfl,hBc,⟨a,rfl,row⟩,acc.ok,acc.bare,ZgT sbk g0 l70 acc,sbk.room l70 t60,fun H3 B3 y hB3 hput bt hy gr grT=>?_⟩
   have acc':Acc (((B.kept.take i).map (·.1)).filter fun e=>decide (e.day≤d)) e.told:=by rw [acc.told]; exact acc
   have sb3:=sbk.put g0 hput acc'
   rw [acc.told,← ef] at sb3
   have ny:∀ c u,c≠k->H c=some u->c ∉ [k2,bi2,li2,ti2,su2,y]:=fun c u nc e m=>by
    have m':c∈[k2,bi2,li2,ti2,su2]∨c=y:=by
     simp only [List.mem_cons,List.not_mem_nil,or_false] at m ⊢
     rcases m with h | h | h | h | h | h <;> simp [h]
    rcases m' with h | h
    ·rw [n5 c h] at e; cases e
    ·rcases hy with z | z | z
     ·have:=sf c u nc e; rw [h,z] at this; cases this
     ·rw [h,z,n5 bi2 (by simp)] at e; cases e
     ·rw [h,ft y z] at e; cases e
   have nk5:k ∉ [k2,bi2,li2,ti2,su2,y]:=fun m=>by
    have m':k∈[k2,bi2,li2,ti2,su2]∨k=y:=by
     simp only [List.mem_cons,List.not_mem_nil,or_false] at m ⊢
     rcases m with h | h | h | h | h | h <;> simp [h]
    rcases m' with h | h
    ·exact k5 h
    ·obtain ⟨w,ew⟩:=kH
     rcases hy with z | z | z
     ·rw [← h,fk] at z; cases z
     ·exact k5 (by rw [h,z]; simp)
     ·rw [h,ft y z] at ew; cases ew
   refine ⟨B3,_,rfl,hB3,sb3,fun c u nc e=>bt.eq c u (ny c u nc e) (sf c u nc e),bt.eq _ _ nk5 fk,fun c hc=>?_⟩
   rcases grT c hc with h | h
   ·exact ft c h
   ·cases hH:H c with
    | none=>rfl
    | some u =>
     by_cases z:c=k
     ·rw [z,fk] at h; cases h
     ·rw [sf c u z hH] at h; cases h
  ·refine ZaC (decide_eq_false hd) ⟨B2,_,rfl,hBc,?_,sf,fk,ft⟩
   rw [tk,List.filter_append]
   have e0:[e].filter (fun e=>decide (e.day≤d))=[]:=by simp [hd]
   rw [e0,List.append_nil]
   exact sbk
theorem Zgx (T:Tx K w mg)  : Zc3 P base T:=by
 refine Fun.okX (k:=0) T.ZaD.F ZgL (fun vs H Q E h=>h.1) (fun cdv A outer s H vs Q E hr h=>?_)
 obtain ⟨-,h⟩:=h
 obtain ⟨l,ns,k,rfl,hS,hk,q⟩:=h
 refine ⟨_, (Zaf (Za9 (Zas Zo5 (pv 1) (Zaz ZaX (by rfl) T.n_len ZcM (Zaa (pv 0) Zad)) (Zaw _)) (Zaj (Zax (Zaq Zbb (pv 0) (pv 1) (fun _ _ => rfl)))) Zay)
   (Zaj (Zax Zac))),?_⟩
 refine ⟨_,rfl,_,rfl,l,_,rfl,.inl hS,_,_,rfl,rfl,_,rfl,?_⟩
 by_cases kl:k<((ns.map V.int).length:Int)
 ·rw [decide_eq_true kl]
  obtain ⟨j,rfl⟩:∃ j:Nat,k=(j:Int):=⟨k.toNat,by omega⟩
  refine Zda ⟨_,rfl,_,rfl,l,_,_,_,rfl,rfl,hS,Zc4 (ZoL (by rw [List.length_map] at kl; omega)),q _⟩
 ·rw [decide_eq_false kl]
  exact Zdz (q _)
theorem Zic (T:Tx K w mg)  : ZfP P base T:=by
 refine Fun.okX (k:=0) T.ZbM.F ZiL (fun vs H Q E h=>h.1) (fun cdv A outer s H vs Q E hr h=>?_)
 obtain ⟨-,h⟩:=h
 obtain ⟨i,rfl,q⟩:=h
 refine ⟨_,(Zaj (Zax (ZcL (ZdC K (by rfl) T.n_isinstance (Zaa (pv 0) (Zaa (ZcA (v:=.ty "int") (by rfl) T.n_int ZpP rfl) Zad))) (ZcE (ZpG (ZdC K (by rfl) T.n_isinstance (Zaa (pv 0) (Zaa (ZcA (v:=.ty "bool") (by rfl) T.n_bool Zk6 rfl) Zad)))))))),?_⟩
 exact ⟨_,rfl,_,.ty "int",_,_,rfl,rfl,.of (.int i),T.k_int_int,_,rfl,Zda ⟨_,rfl,_,.ty "bool",_,_,rfl,rfl,.of (.int i),T.k_int_bool,_,rfl,q⟩⟩
theorem ZiD (T:Tx K w mg)  : ZfW P base T:=by
 refine Fun.okX (k:=0) T.ZbK.F ZaG (fun vs H Q E h=>h.1) (fun cdv A outer s H vs Q E hr h=>?_)
 obtain ⟨-,h⟩:=h
 obtain ⟨c,m,rfl,m0,m1,q⟩:=h
 refine ⟨_, (Zaf (ZaN (i := 2) ZaG.nd rfl (Or.inl rfl) (ZaB Zcy Zac (ZaB ZbJ (pv 0) Zac)))
   (Zaf (ZaN (i:=3) ZaG.nd rfl (Or.inl rfl) (ZaB ZbJ (ZaB ZbC (pv 0) Zac) (pv 2)))
   (Zaf (ZaN (i:=4) ZaG.nd rfl (Or.inl rfl) (ZaB ZbJ (ZaB Zcy (ZaB Zcy (pv 3) Zac) (ZaB ZbJ (ZaB ZbC (pv 0) Zac) (ZaB ZhR (pv 2) Zac))) (pv 2)))
   (Zaf (ZaN (i:=5) ZaG.nd rfl (Or.inl rfl) (ZaB Zcy Zac (Zaz (ZnC rfl) (by rfl) T.n_max ZnK (Zaa (pv 3) (Zaa (pv 4) Zad)))))
   (Zaf (ZaN (i:=6) ZaG.nd rfl (Or.inl rfl) (Zch Zad))
   (Zaf (ZdV PassesOwn.leaving rfl (ZgV (by rfl) T.n_range (Zaa (pv 1) Zad)) (ZaM (i:=7) ZaG.nd rfl (Or.inl rfl))
    (Zaf (ZaN (i:=8) ZaG.nd rfl (Or.inl rfl) Zav)
   (Zaf (ZdV PassesOwn.leaving rfl (ZgV (by rfl) T.n_range (Zaa (ZaB Zcy (pv 5) (ZaB ZbJ (pv 7) (ZaB Zcy (ZaB ZhR (pv 2) (pv 5)) Zac))) Zad)) (ZaM (i:=9) ZaG.nd rfl (Or.inl rfl))
    (Zaf (ZaN (i:=10) ZaG.nd rfl (Or.inl rfl) (ZaB Zcy (ZaB ZbC (pv 0) Zac) (ZaB Zkb (ZaB Zna (pv 9) (pv 9)) Zac)))
   (Zaf (Za9 (Zas ZbZ (pv 9) (pv 3) (Zaw _)) (Zaj (ZaN (i:=10) ZaG.nd rfl (Or.inl rfl) (ZaB Zcy (ZaB ZbC (pv 0) Zac) (pv 7)))) Zay)
   (Zaf (Za9 (Zas ZbZ (pv 9) (pv 4) (Zaw _)) (Zaj (ZaN (i:=10) ZaG.nd rfl (Or.inl rfl) (ZaB Zcy (ZaB ZbC (pv 0) Zac) (ZaB ZbC (pv 7) Zac)))) Zay)
   (Zaj (ZaN (i:=8) ZaG.nd rfl (Or.inl rfl) (ZaB Zl2 (pv 8) (Zaq ZqX Zav (ZaB ZbJ (pv 10) Zac) (fun _ _=>rfl)))))))))
   (Zaj (Za3 (Zqa PySem.F.plainAttrs_list PySem.F.slot_list_append PySem.F.type_list_append Ze6 (pv 6) (Zaa (pv 8) Zad)))))))
   (Zaj (Zax (pv 6))))))))),?_⟩
 have z7:(7:Int)≠0∧(7:Int).natAbs<2 ^ 1000:=⟨by decide,by decide +kernel⟩
 have zd:∀ n:Int,1≤n->n≤100->n≠0∧n.natAbs<2 ^ 1000:=fun n h1 h2=>⟨by omega,Nat.lt_of_le_of_lt (show n.natAbs≤100 by omega) (by decide +kernel)⟩
 have s0:=Int.fmod_nonneg_of_pos c (show (0:Int)<7 by decide)
 have s1:=Int.fmod_lt_of_pos c (show (0:Int)<7 by decide)
 refine ⟨_,rfl,_,_,rfl,rfl,z7.1,_,_,rfl,rfl,?_⟩
 try dsimp only
 generalize hsz:2+c.fmod 7=size at *
 have a0:=Int.fmod_nonneg_of_pos (c.fdiv 7) (show 0<size by omega)
 have a1:=Int.fmod_lt_of_pos (c.fdiv 7) (show 0<size by omega)
 refine ⟨_,rfl,_,_,rfl,rfl,z7,_,rfl,_,_,rfl,rfl,(show size≠0 by omega),?_⟩
 try dsimp only
 generalize hat:(c.fdiv 7).fmod size=at' at *
 have e0:=Int.fmod_nonneg_of_pos (c.fdiv 61) (show 0<size-1 by omega)
 have e1:=Int.fmod_lt_of_pos (c.fdiv 61) (show 0<size-1 by omega)
 have b0:=Int.fmod_nonneg_of_pos (at'+1+(c.fdiv 61).fmod (size-1)) (show 0<size by omega)
 have b1:=Int.fmod_lt_of_pos (at'+1+(c.fdiv 61).fmod (size-1)) (show 0<size by omega)
 refine ⟨_,rfl,_,_,rfl,rfl,_,rfl,_,_,rfl,rfl,zd 61 (by decide) (by decide),_,rfl,_,_,rfl,rfl,_,_,rfl,rfl,(show size-1≠0 by omega),_,_,rfl,rfl,_,rfl,_,_,rfl,rfl,(show size≠0 by omega),?_⟩
 try dsimp only
 have ne:at'≠(at'+1+(c.fdiv 61).fmod (size-1)).fmod size:=by
  intro h
  have d:=Int.mul_fdiv_add_fmod (at'+1+(c.fdiv 61).fmod (size-1)) size
  rw [← h] at d
  have d2:size*(at'+1+(c.fdiv 61).fmod (size-1)).fdiv size=1+(c.fdiv 61).fmod (size-1):=by omega
  generalize (at'+1+(c.fdiv 61).fmod (size-1)).fdiv size=w at *
  have:w≤0∨1≤w:=by omega
  rcases this with hw | hw
  ·have:=Int.mul_le_mul_of_nonneg_left hw (show 0≤size by omega)
   omega
  ·have:=Int.mul_le_mul_of_nonneg_left hw (show 0≤size by omega)
   omega
 generalize (at'+1+(c.fdiv 61).fmod (size-1)).fmod size=be at *
 refine ⟨_,rfl,_,rfl,_,_,rfl,_,_,rfl,rfl,?_⟩
 try dsimp only
 have sh:1+(if be > at' then be else at')≤size∧at'<1+(if be > at' then be else at')∧be<1+(if be > at' then be else at'):=by split <;> omega
 generalize 1+(if be > at' then be else at')=short at *
 refine ⟨few rfl,fun D nD=>?_⟩
 let ln:Nat->Nat:=fun k=>(short+((k:Nat):Int).fmod (size-short+1)).toNat
 have lnb:∀ k,short≤((ln k:Nat):Int)∧((ln k:Nat):Int)≤size:=fun k=>by
  have f0:=Int.fmod_nonneg_of_pos ((k:Nat):Int) (show 0<size-short+1 by omega)
  have f1:=Int.fmod_lt_of_pos ((k:Nat):Int) (show 0<size-short+1 by omega)
  show short≤(((short+((k:Nat):Int).fmod (size-short+1)).toNat:Nat):Int)∧(((short+((k:Nat):Int).fmod (size-short+1)).toNat:Nat):Int)≤size
  omega
 let nm:Nat->Str:=fun k=>⟨(nmL at' be c k (ln k)).toArray⟩
 refine ⟨_,rfl,m,rfl,by omega,by omega,ZgC (fun i σ H2=>∃ v7 v8 v9 v10,σ=[some (.int c),some (.int m),some (.int size),some (.int at'),some (.int be),some (.int short),some (.ref D),v7,v8,v9,v10]∧Same H H2∧H2 D=some (.lst (((List.range i).map nm).map V.str))) ?start ?turn ?done⟩
 case start=>exact ⟨none,none,none,none,rfl,Zae nD,Zab⟩
 case done =>
  rintro σ H2 ⟨v7,v8,v9,v10,rfl,s2,hD⟩
  refine ⟨_,rfl,q _ D _ s2 hD (by rw [List.length_map,List.length_range]) (fun x hx=>?_) ?_⟩
  ·obtain ⟨k,_,rfl⟩:=List.mem_map.mp hx
   have:=lnb k
   exact Zsl (by omega) (by omega)
  ·refine Zkr (fun k hk k' hk' e=>?_) List.nodup_range
   have l1:=lnb k
   have l2:=lnb k'
   have k1:=List.mem_range.mp hk
   have k2:=List.mem_range.mp hk'
   exact Zro (by omega) (by omega) ⟨by omega,by omega,by omega⟩ ⟨by omega,by omega,by omega⟩ ne e
 case turn =>
  rintro i σ H2 hi ⟨v7,v8,v9,v10,rfl,s2,hD⟩
  rw [show (0:Int)+(i:Int)=i from Int.zero_add _]
  have f0:=Int.fmod_nonneg_of_pos (i:Int) (show 0<size-short+1 by omega)
  have f1:=Int.fmod_lt_of_pos (i:Int) (show 0<size-short+1 by omega)
  have lb:=lnb i
  refine ⟨_,rfl,_,rfl,_,rfl,_,rfl,_,_,rfl,rfl,_,_,rfl,rfl,_,_,rfl,rfl,(show size-short+1≠0 by omega),_,_,rfl,rfl,_,rfl,by show -(2 ^ 62)≤short+(i:Int).fmod (size-short+1); omega,by show short+(i:Int).fmod (size-short+1)<2 ^ 62; omega,ZgC (fun j σ H3=>∃ v9 v10,σ=[some (.int c),some (.int m),some (.int size),some (.int at'),some (.int be),some (.int short),some (.ref D),some (.int i),some (.str ⟨(nmL at' be c i j).toArray⟩),v9,v10]∧H2=H3) ?start2 ?turn2 ?done2⟩
  case start2=>exact ⟨_,_,rfl,rfl⟩
  case done2 =>
   rintro σ H3 ⟨v9,v10,rfl,rfl⟩
   refine ⟨_,rfl,.inl ⟨rfl,_,.of hD⟩,_,rfl,D,_,_,rfl,rfl,hD,Zao (by rw [List.length_map,List.length_map,List.length_range]; omega),?_⟩
   refine ⟨_,_,_,_,rfl,Zkz s2 nD,?_⟩
   rw [Zab,List.range_succ,List.map_append,List.map_append]
   rfl
  case turn2 =>
   rintro j σ H3 hj ⟨v9,v10,rfl,rfl⟩
   rw [show (0:Int)+(j:Int)=j from Int.zero_add _]
   have jl:j<8:=by
    have:j<(short+(i:Int).fmod (size-short+1)).toNat:=hj
    omega
   have cb:Zsq (j:Int) (j:Int):=⟨Nat.lt_of_le_of_lt (show ((j:Int)).natAbs≤10 by omega) (by decide +kernel),Nat.lt_of_le_of_lt (show ((j:Int)).natAbs≤10 by omega) (by decide +kernel)⟩
   refine ⟨_,rfl,_,_,rfl,rfl,zd 3 (by decide) (by decide),_,rfl,_,rfl,_,_,rfl,rfl,cb,_,_,rfl,rfl,.inr ⟨by decide,by decide⟩,_,_,rfl,rfl,?_⟩
   dsimp only [Zkj]
   refine Zer (fun σ' H'=>σ'=[some (.int c),some (.int m),some (.int size),some (.int at'),some (.int be),some (.int short),some (.ref D),some (.int i),some (.str ⟨(nmL at' be c i j).toArray⟩),some (.int j),some (.int (if (j:Int)=at' then c.fdiv 11+i else c.fdiv 3+j*j*5))]∧H2=H') (fun nx hnx=>?_) ?_
   ·refine ⟨_,rfl,_,rfl,rfl,_,rfl,?_⟩
    by_cases e:(j:Int)=at'
    ·refine Zbo (decide_eq_true (by rw [e])) ⟨_,rfl,_,_,rfl,rfl,zd 11 (by decide) (by decide),_,rfl,_,_,rfl,rfl,?_⟩
     exact hnx _ _ ⟨by rw [if_pos e]; rfl,rfl⟩
    ·exact ZaC (decide_eq_false (fun z=>e (V.int.inj z))) (hnx _ _ ⟨by rw [if_neg e]; rfl,rfl⟩)
   rintro σ' H4 ⟨rfl,rfl⟩
   refine Zer (fun σ' H'=>σ'=[some (.int c),some (.int m),some (.int size),some (.int at'),some (.int be),some (.int short),some (.ref D),some (.int i),some (.str ⟨(nmL at' be c i j).toArray⟩),some (.int j),some (.int (Zox at' be c i j))]∧H2=H') (fun nx hnx=>?_) ?_
   ·refine ⟨_,rfl,_,rfl,rfl,_,rfl,?_⟩
    by_cases e:(j:Int)=be
    ·refine Zbo (decide_eq_true (by rw [e])) ⟨_,rfl,_,_,rfl,rfl,zd 17 (by decide) (by decide),_,rfl,_,_,rfl,rfl,zd 26 (by decide) (by decide),_,_,rfl,rfl,?_⟩
     exact hnx _ _ ⟨by unfold Zox; rw [if_pos e]; rfl,rfl⟩
    ·exact ZaC (decide_eq_false (fun z=>e (V.int.inj z))) (hnx _ _ ⟨by unfold Zox; rw [if_neg e],rfl⟩)
   rintro σ' H5 ⟨rfl,rfl⟩
   refine ⟨_,rfl,_,rfl,_,_,rfl,rfl,(by decide:(26:Int)≠0),_,_,_,rfl,rfl,few rfl,Zmo _,_,_,rfl,rfl,?_,?_⟩
   ·rw [Zqz,Znm]
    exact Nat.le_of_lt (Zao (by show j+1≤1000; omega))
   ·rw [ZoJ]
    exact ⟨_,_,by rw [ZoP]; rfl,rfl⟩
theorem Zks (T:Tx K w mg)  : ZeU P base T:=by
 refine Fun.okX (k:=0) T.ZaR.F Zd5 (fun vs H Q E h=>h.1) (fun cdv A outer s H vs Q E hr h=>?_)
 obtain ⟨-,h⟩:=h
 obtain ⟨c,k,m,rfl,k0,k4,m0,q⟩:=h
 refine ⟨_, (Zaf (ZaN (i := 3) Zd5.nd rfl (Or.inl rfl) (Zaq Zbb (Zch (Zaa Zac (Zaa Zac (Zaa Zac (Zaa Zac Zad))))) (pv 1) (fun _ _ => rfl)))
   (Zaf (ZaN (i:=4) Zd5.nd rfl (Or.inl rfl) (Zaq Zbb (Zch (Zaa Zac (Zaa Zac (Zaa Zac (Zaa Zac Zad))))) (pv 1) (fun _ _=>rfl)))
   (Zaj (Zax (ZaB ZbJ (ZaB ZbJ (ZaB Zkb (pv 0) (pv 3)) (pv 4)) (pv 2)))))),?_⟩
 obtain rfl | rfl | rfl | rfl:k=0∨k=1∨k=2∨k=3:=by omega
 ·refine ⟨few rfl,fun L1 n1=>⟨_,rfl,L1,_,_,_,rfl,rfl,.of Zab,Zag (j:=0) rfl,few rfl,fun L2 n2=>⟨_,rfl,L2,_,_,_,rfl,rfl,.of Zab,Zag (j:=0) rfl,_,rfl,_,rfl,_,_,rfl,rfl,.inr ⟨by decide,by decide⟩,_,rfl,_,_,rfl,rfl,(by decide:(2147483647:Int)≠0),_,rfl,_,_,rfl,rfl,(show m≠0 by omega),q _ _ ((Zae n1).trans (Zae n2)) (Int.fmod_nonneg_of_pos _ m0) (Int.fmod_lt_of_pos _ m0)⟩⟩⟩
 ·refine ⟨few rfl,fun L1 n1=>⟨_,rfl,L1,_,_,_,rfl,rfl,.of Zab,Zag (j:=1) rfl,few rfl,fun L2 n2=>⟨_,rfl,L2,_,_,_,rfl,rfl,.of Zab,Zag (j:=1) rfl,_,rfl,_,rfl,_,_,rfl,rfl,.inr ⟨by decide,by decide⟩,_,rfl,_,_,rfl,rfl,(by decide:(1000000007:Int)≠0),_,rfl,_,_,rfl,rfl,(show m≠0 by omega),q _ _ ((Zae n1).trans (Zae n2)) (Int.fmod_nonneg_of_pos _ m0) (Int.fmod_lt_of_pos _ m0)⟩⟩⟩
 ·refine ⟨few rfl,fun L1 n1=>⟨_,rfl,L1,_,_,_,rfl,rfl,.of Zab,Zag (j:=2) rfl,few rfl,fun L2 n2=>⟨_,rfl,L2,_,_,_,rfl,rfl,.of Zab,Zag (j:=2) rfl,_,rfl,_,rfl,_,_,rfl,rfl,.inr ⟨by decide,by decide⟩,_,rfl,_,_,rfl,rfl,(by decide:(998244353:Int)≠0),_,rfl,_,_,rfl,rfl,(show m≠0 by omega),q _ _ ((Zae n1).trans (Zae n2)) (Int.fmod_nonneg_of_pos _ m0) (Int.fmod_lt_of_pos _ m0)⟩⟩⟩
 ·refine ⟨few rfl,fun L1 n1=>⟨_,rfl,L1,_,_,_,rfl,rfl,.of Zab,Zag (j:=3) rfl,few rfl,fun L2 n2=>⟨_,rfl,L2,_,_,_,rfl,rfl,.of Zab,Zag (j:=3) rfl,_,rfl,_,rfl,_,_,rfl,rfl,.inr ⟨by decide,by decide⟩,_,rfl,_,_,rfl,rfl,(by decide:(2147483399:Int)≠0),_,rfl,_,_,rfl,rfl,(show m≠0 by omega),q _ _ ((Zae n1).trans (Zae n2)) (Int.fmod_nonneg_of_pos _ m0) (Int.fmod_lt_of_pos _ m0)⟩⟩⟩
theorem Zk3 (T:Tx K w mg)  : Zen P base T:=by
 refine Fun.okX (k:=0) T.ZaQ.F Zli (fun vs H Q E h=>h.1) (fun cdv A outer s H vs Q E hr h=>?_)
 obtain ⟨-,h⟩:=h
 obtain ⟨c,rfl,q⟩:=h
 refine ⟨_, (Zaf (Za9 (Zas ZbZ (ZaB ZbJ (pv 0) Zac) Zac (Zaw _)) (Zaj (Zax (ZaB ZhR (ZaB ZbJ (ZaB ZbC (pv 0) Zac) (ZaB Zcy (ZaB Zkb Zac (ZaB ZdA Zac Zac)) Zac)) (ZaB Zkb Zac (ZaB ZdA Zac Zac))))) Zay)
   (Zaj (Zax (Zaq Zbb (Zch (Zaa (ZpY Zou (ZaB ZdA Zac Zac)) (Zaa (ZpY Zou Zac) (Zaa Zac (Zaa Zac (Zaa Zac (Zaa (ZaB Zkb Zac (ZaB ZdA Zac Zac)) Zad))))))) (ZaB ZbJ (ZaB ZbC (pv 0) Zac) Zac) (fun _ _=>rfl))))),?_⟩
 have zd:∀ n:Int,1≤n->n≤1000->n≠0∧n.natAbs<2 ^ 1000:=fun n h1 h2=>⟨by omega,Nat.lt_of_le_of_lt (show n.natAbs≤1000 by omega) (by decide +kernel)⟩
 have cp17:Zo9 10 17:=⟨by decide,by decide,by decide +kernel⟩
 refine ⟨_,rfl,_,_,rfl,rfl,(by decide:(3:Int)≠0),rfl,_,rfl,?_⟩
 by_cases h3:c.fmod 3=0
 ·have n1:(18:Int)*10 ^ (17:Int).toNat+1≠0:=by decide
  have x0:=Int.fmod_nonneg_of_pos (c.fdiv 3) (show (0:Int)<18*10 ^ (17:Int).toNat+1 by decide)
  have x1:=Int.fmod_lt_of_pos (c.fdiv 3) (show (0:Int)<18*10 ^ (17:Int).toNat+1 by decide)
  have p17:(10:Int) ^ (17:Int).toNat=10 ^ 17:=rfl
  rw [p17] at x0 x1
  refine Zbo (decide_eq_true (by show V.int (c.fmod 3)=_; rw [h3])) ⟨_,rfl,_,_,rfl,rfl,zd 3 (by decide) (by decide),_,_,rfl,rfl,cp17,_,_,rfl,rfl,.inl ⟨by decide,by decide⟩,_,_,rfl,rfl,_,_,rfl,rfl,n1,_,_,rfl,rfl,cp17,_,_,rfl,rfl,.inl ⟨by decide,by decide⟩,_,_,rfl,rfl,q _ _ (Same.refl _) ?_ ?_⟩
  ·show -9*10 ^ 17≤(c.fdiv 3).fmod (18*10 ^ 17+1)-9*10 ^ 17
   omega
  ·show (c.fdiv 3).fmod (18*10 ^ 17+1)-9*10 ^ 17≤9*10 ^ 17
   omega
 ·refine ZaC (decide_eq_false (fun z=>h3 (V.int.inj z))) ⟨_,_,rfl,rfl,cp17,_,rfl,_,rfl,_,_,rfl,rfl,cp17,_,_,rfl,rfl,.inl ⟨by decide,by decide⟩,few rfl,fun L nL=>?_⟩
  obtain ⟨o,mo,ato⟩:=Zrv (xs:=[V.int (-(10 ^ (17:Int).toNat)),.int (-1),.int 0,.int 1,.int 8,.int (9*10 ^ (17:Int).toNat)]) (c.fdiv 3) (m:=6) rfl (by decide)
  refine ⟨_,rfl,_,_,rfl,rfl,zd 3 (by decide) (by decide),_,_,rfl,rfl,(by decide:(6:Int)≠0),L,_,_,_,rfl,rfl,.of Zab,ato,?_⟩
  have sL:=Zae (o:=.lst [V.int (-(10 ^ (17:Int).toNat)),.int (-1),.int 0,.int 1,.int 8,.int (9*10 ^ (17:Int).toNat)]) nL
  simp only [List.mem_cons,List.not_mem_nil,or_false] at mo
  rcases mo with rfl | rfl | rfl | rfl | rfl | rfl <;> exact q _ _ sL (by decide) (by decide)
theorem Zhy (T:Tx K w mg) (Zbk:Zc3 P base T):Zfc P base T:=by
 refine Fun.okX (k:=1) T.Zbv.F Zcu (fun vs H Q E h=>h.1) (fun cdv A outer s H vs Q E hr h=>?_)
 obtain ⟨-,h⟩:=h
 obtain ⟨l,ns,D,nms,rfl,hl,hD,n5,q⟩:=h
 refine ⟨_, (Zaf (ZaN (i := 2) Zcu.nd rfl (Or.inl rfl) (Zch Zad))
   (Zaf (ZdV PassesOwn.leaving rfl (ZgV (by rfl) T.n_range (Zaa (Zaz ZaX (by rfl) T.n_len ZcM (Zaa (pv 1) Zad)) Zad)) (ZaM (i:=3) Zcu.nd rfl (Or.inl rfl))
    (Zaf (ZaN (i:=4) Zcu.nd rfl (Or.inl rfl) (ZaB Zcy (ZaB ZhR (ZaB Zna (pv 3) (ZaB ZdA Zac Zac)) (ZaB ZdA Zac Zac)) (ZaB ZbJ (Zar Zbk (hr.mono (by decide)) (by rfl) T.ZaD.m T.ZaD.F.kp T.ZaD.b .nil Zah (Zaa (pv 0) (Zaa (pv 3) Zad))) (ZaB ZdA Zac Zac))))
   (Zaj (Za3 (Zqa PySem.F.plainAttrs_list PySem.F.slot_list_append PySem.F.type_list_append Ze6 (pv 2) (Zaa (Zbd (Zaa Zav (Zaa (Zaq Zbb (pv 1) (pv 3) (fun _ _=>rfl)) (Zaa (Zaq Zbb (Zch (Zaa Zav (Zaa Zav (Zaa Zav Zad)))) (ZaB ZbJ (pv 3) Zac) (fun _ _=>rfl)) (Zaa (pv 4) (Zaa Zav (Zaa Zav Zad))))))) Zad))))))
   (Zaj (Zax (pv 2))))),?_⟩
 have cp16:Zo9 10 16:=⟨by decide,by decide,by decide +kernel⟩
 have cp18:Zo9 10 18:=⟨by decide,by decide,by decide +kernel⟩
 refine ⟨few rfl,fun Db nDb=>?_⟩
 have s0:=Zae (o:=.lst []) nDb
 have nl:(nms.map V.str).length=nms.length:=List.length_map ..
 refine ⟨_,rfl,D,_,rfl,.inl (s0.sql hD),_,rfl,by omega,by omega,ZgC (fun i σ Hc=>∃ (bs:List (Ent × Addr)) (v3 v4:Option V),σ=[some (.ref l),some (.ref D),some (.ref Db),v3,v4]∧Same H Hc∧Hc Db=some (.lst (ZaS bs))∧RowsAt K Hc bs∧B7 nms (bs.map (·.1))∧bs.length=i) ?start ?turn ?done⟩
 case start=>exact ⟨[],_,_,rfl,s0,Zab,fun p hp=>(by cases hp),fun i e z=>(by simp at z),rfl⟩
 case done =>
  rintro σ Hc ⟨bs,v3,v4,rfl,sc,hb,hr2,ok,bl⟩
  refine ⟨_,rfl,q Hc Db bs sc nDb hb hr2 ok ?_⟩
  have:bs.length=(nms.map V.str).length:=bl
  omega
 case turn =>
  rintro i σ Hc hi ⟨bs,v3,v4,rfl,sc,hb,hr2,ok,bl⟩
  rw [show (0:Int)+(i:Int)=i from Int.zero_add _]
  have il:i<nms.length:=by have:i<(nms.map V.str).length:=hi; omega
  have cb:Zsq (i:Int) (10 ^ (16:Int).toNat):=⟨Nat.lt_of_le_of_lt (show ((i:Int)).natAbs≤100 by omega) (by decide +kernel),by decide +kernel⟩
  refine ⟨_,rfl,_,_,rfl,rfl,cp16,_,_,rfl,rfl,cb,_,_,rfl,rfl,cp18,_,_,rfl,rfl,_,rfl,_,rfl,rfl,l,ns,(i:Int),rfl,sc.sql hl,by omega,fun z=>?_⟩
  refine ⟨_,_,rfl,rfl,cp16,_,_,rfl,rfl,(by decide:(10:Int) ^ (16:Int).toNat≠0),_,_,rfl,rfl,?_⟩
  have y0:=Int.fmod_nonneg_of_pos z (show (0:Int)<10 ^ (16:Int).toNat by decide)
  have y1:=Int.fmod_lt_of_pos z (show (0:Int)<10 ^ (16:Int).toNat by decide)
  have p16:(10:Int) ^ (16:Int).toNat=10 ^ 16:=rfl
  have p18:(10:Int) ^ (18:Int).toNat=10 ^ 18:=rfl
  rw [p16] at y0 y1
  try dsimp only
  rw [p16,p18]
  generalize hday:(i:Int)*10 ^ 16-10 ^ 18+z.fmod (10 ^ 16)=day at *
  obtain ⟨nm,hnm,atN⟩:=ZpZ (nms:=nms) (z:=(i:Int)) (by omega) (by omega)
  obtain ⟨srt,ats,hso⟩:=Zpi (i:Int)
  refine ⟨_,rfl,.inl ⟨rfl,_,.of hb⟩,_,rfl,_,rfl,D,_,_,_,rfl,rfl,sc.sql hD,atN,few rfl,fun L nL=>⟨_,rfl,_,_,rfl,rfl,(by decide:(3:Int)≠0),L,_,_,_,rfl,rfl,.of Zab,ats,_,rfl,few rfl,fun t nt=>?_⟩⟩
  have s3:=Zae (o:=.lst [V.str "",.str "he",.str "she"]) nL
  have s4:=Zae (o:=.tup [V.str "born",.str nm,.str srt,.int day,.str "",.str ""]) nt
  have hb4:=(s3.trans s4) _ _ hb
  have rl:(ZaS bs).length=i:=by rw [ZaY]; exact bl
  refine ⟨Db,_,_,rfl,rfl,hb4,Zao (by omega),?_⟩
  have erows:ZaS bs++[V.ref t]=ZaS (bs++[(.born nm srt day "" "",t)]):=by unfold ZaS; rw [List.map_append]; rfl
  rw [erows]
  refine ⟨bs++[(.born nm srt day "" "",t)],_,_,rfl,Zkz (sc.trans (s3.trans s4)) nDb,Zab,RowsAt.put (fun p hp=>?_) hb4,fun j e he=>?_,by rw [List.length_append]; show _+1=_; omega⟩
  ·rcases List.mem_append.mp hp with hp | hp
   ·exact (s3.trans s4).sqt (hr2 p hp)
   ·have ep:p=(.born nm srt day "" "",t):=by simpa using hp
    subst ep
    exact .of Zab
  ·rw [List.map_append] at he
   have bm:(bs.map (·.1)).length=i:=by rw [List.length_map]; exact bl
   by_cases jl:j<i
   ·rw [List.getElem?_append_left (by omega)] at he
    exact ok j e he
   ·have jl2:=(List.getElem?_eq_some_iff.mp he).1
    rw [List.length_append,bm] at jl2
    have ej:j=i:=by simp at jl2; omega
    subst ej
    rw [List.getElem?_append_right (by omega),bm,Nat.sub_self] at he
    cases (Option.some.inj he:Ent.born nm srt day "" ""=e)
    rw [show (((j:Nat):Int)).toNat=j by omega] at hnm
    exact ⟨nm,srt,day,hnm,rfl,hso,by omega,by omega⟩
theorem Zjr (T:Tx K w mg) (Zb9:ZeU P base T):Ze2 P base T:=by
 refine Fun.okX (k:=1) T.Zbf.F Zf1 (fun vs H Q E h=>h.1) (fun cdv A outer s H vs Q E hr h=>?_)
 obtain ⟨-,h⟩:=h
 obtain ⟨D,nms,c,rfl,hD,n2,nd,q⟩:=h
 refine ⟨_, (Zaf (ZaN (i := 2) Zf1.nd rfl (Or.inl rfl) (Zar Zb9 (hr.mono (by decide)) (by rfl) T.ZaR.m T.ZaR.F.kp T.ZaR.b .nil Zah (Zaa (pv 1) (Zaa Zac (Zaa (Zaz ZaX (by rfl) T.n_len ZcM (Zaa (pv 0) Zad)) Zad)))))
   (Zaj (Zax (Zch (Zaa (Zaq Zbb (pv 0) (pv 2) (fun _ _=>rfl)) (Zaa (Zaq Zbb (pv 0) (ZaB ZbJ (ZaB Zcy (ZaB Zcy (pv 2) Zac) (Zar Zb9 (hr.mono (by decide)) (by rfl) T.ZaR.m T.ZaR.F.kp T.ZaR.b .nil Zah (Zaa (pv 1) (Zaa Zac (Zaa (ZaB ZhR (Zaz ZaX (by rfl) T.n_len ZcM (Zaa (pv 0) Zad)) Zac) Zad))))) (Zaz ZaX (by rfl) T.n_len ZcM (Zaa (pv 0) Zad))) (fun _ _=>rfl)) Zad)))))),?_⟩
 have nl:(nms.map V.str).length=nms.length:=List.length_map ..
 refine ⟨_,rfl,_,rfl,D,_,rfl,.inl hD,rfl,c,0,_,rfl,by decide,by decide,by omega,fun H1 x s1 x0 x1=>?_⟩
 rw [nl] at x1
 obtain ⟨a,ha,atA⟩:=ZpZ x0 x1
 refine ⟨_,rfl,_,rfl,D,_,_,_,rfl,rfl,s1.sql hD,atA,_,rfl,_,rfl,_,_,rfl,rfl,_,rfl,_,rfl,D,_,rfl,.inl (s1.sql hD),_,_,rfl,rfl,rfl,c,1,_,rfl,by decide,by decide,by omega,fun H2 z s2 z0 z1=>?_⟩
 rw [nl] at z1
 obtain ⟨y0,y1,yne⟩:=Zpf x0 x1 z0 z1
 obtain ⟨b,hb,atB⟩:=ZpZ y0 y1
 have atB':atI (nms.map V.str) ((x+1+z).fmod (((nms.map V.str).length:Nat):Int))=some (.str b):=by rw [nl]; exact atB
 refine ⟨_,_,rfl,rfl,_,rfl,D,_,rfl,.inl ((s1.trans s2).sql hD),_,_,rfl,rfl,(show ((nms.map V.str).length:Int)≠0 by omega),D,_,_,_,rfl,rfl,(s1.trans s2).sql hD,atB',few rfl,fun P nP=>?_⟩
 exact q _ P a b ((s1.trans s2).trans (Zae nP)) (Zbp (s1.trans s2) nP) Zab (List.mem_of_getElem? ha) (List.mem_of_getElem? hb) (Zgh nd ha hb (by omega))
theorem Zjw (T:Tx K w mg)  : Zhf P base T:=by
 refine Fun.okX (k:=0) T.Zbg.F ZcX (fun vs H Q E h=>h.1) (fun cdv A outer s H vs Q E hr h=>?_)
 obtain ⟨-,h⟩:=h
 obtain ⟨E',ds,a,b,dd,rfl,hE,hR,nb,q⟩:=h
 refine ⟨_, (Zaf (ZaN (i := 4) ZcX.nd rfl (Or.inl rfl) ZfN)
   (Zaf (ZdV PassesOwn.leaving rfl (ZcS (pv 0)) (ZaM (i:=5) ZcX.nd rfl (Or.inl rfl))
    (Zaj (Za9 (PW.pt (ZdG (Zas ZcK (Zaq Zan (pv 5) Zac (fun _ _=>rfl)) (Zbd (Zaa Zav (Zaa Zav Zad))) (by rfl)) (ZdG (Zas (Zje hr.units) (Zaz (ZcH K) (by rfl) T.n_sorted Zb3 (Zaa (Zcf ZfA (pv 5) (ZbV Zac) (ZbV Zac)) Zad)) (Zaz (Zf3 K) (by rfl) T.n_sorted Zb3 (Zaa (Zch (Zaa (pv 1) (Zaa (pv 2) Zad))) Zad)) (Zaw _)) (Zdv (Zas Zke (Zaq Zan (pv 5) Zac (fun _ _=>rfl)) (pv 3) (Zaw _)))))) (Zaj (Za9 (PW.pt (Zjk (Zas Znz (pv 4) ZfN (Zaw _)) (ZhT (Zas Zo5 (Zaq Zan (pv 4) Zac (fun _ _=>rfl)) (Zaq Zan (pv 5) Zac (fun _ _=>rfl)) (Zaw _))))) (Zaj (ZaN (i:=4) ZcX.nd rfl (Or.inl rfl) (pv 5))) Zay)) Zay)))
   (Zaj (Zax (ZcL (Zbj ZmX (pv 4) ZfN (Zaw _)) (ZcE (Zbj ZbZ (Zaq Zan (pv 4) Zac (fun _ _=>rfl)) Zav (Zaw _)))))))),?_⟩
 refine ⟨_,rfl,E',rfl,⟨_,hE⟩,Zfh (xs:=ZaS ds) (fun i σ H2=>∃ (last:Option (Ent × Addr)) (v4:Option V),σ=[some (.ref E'),some (.str a),some (.str b),some (.int dd),some (Zsb last),v4]∧Same H H2∧last.map (·.1)=((ds.take i).map (·.1)).foldl (Zi4 dd a b) none∧Zsn ds last) ?start ?list ?turn ?done⟩
 case start=>exact ⟨none,none,rfl,fun _ _ z=>z,rfl,fun p z=>by cases z⟩
 case list =>
  rintro i σ H2 _ ⟨last,v4,rfl,s2,_⟩
  exact s2.sql hE
 case done =>
  rintro σ H2 ⟨last,v4,rfl,s2,hl,ht⟩
  rw [ZaY,List.take_length] at hl
  have qq:=q _ s2
  unfold Zjz at qq
  rw [← ZnD,← hl] at qq
  cases last with
  | none=>exact ⟨_,rfl,rfl,_,rfl,ZaC rfl qq⟩
  | some p =>
   obtain ⟨hm,tt⟩:=ht p rfl
   obtain ⟨x,y,er,ep⟩:=Zhg tt
   have hp2:=s2.sqt (hR p hm)
   rw [er] at hp2
   refine ⟨_,rfl,rfl,_,rfl,Zbo rfl ⟨_,rfl,p.2,_,_,_,rfl,rfl,hp2,Zag (j:=0) rfl,rfl,?_⟩⟩
   have e2:decide (kV (.inr p.1.kind)=V.str "union")=decide (p.1.kind="union"):=by rw [Bool.eq_iff_iff]; simp [kV]
   rw [e2]
   exact qq
 case turn =>
  rintro i y σ H2 hy ⟨last,v4,rfl,s2,hl,ht⟩
  obtain ⟨p,hp,rfl⟩:=ZeR hy
  have pm:=List.mem_of_getElem? hp
  have hp2:=s2.sqt (hR p pm)
  have hn:=nb p pm
  have fo:=ZnM (Zi4 dd a b) none hp
  rw [← hl] at fo
  obtain ⟨e,w⟩:=p
  dsimp only at hp2 hn fo
  rcases Zov hn with ⟨g1,t1,a1,d1,rfl⟩ | xtie
  ·refine ⟨_,rfl,w,_,_,_,rfl,rfl,hp2,Zag (j:=0) rfl,few rfl,fun t nt=>⟨t,_,rfl,.inr (.of Zab),rfl,rfl,_,rfl,ZaC (by decide +kernel) ?_⟩⟩
   exact ⟨last,_,rfl,s2.trans (Zae nt),fo.symm ▸ (Zlx (fun z=>by cases z.1)).symm,ht⟩
  ·obtain ⟨a1,b1,xr,xp⟩:=Zhg xtie
   rw [xr] at hp2
   refine ⟨_,rfl,w,_,_,_,rfl,rfl,hp2,Zag (j:=0) rfl,few rfl,fun t nt=>⟨t,_,rfl,.inr (.of Zab),rfl,rfl,_,rfl,Zbo (Zoe xtie) ?_⟩⟩
   have s0:=Zae (o:=.tup [V.str "union",.str "parted"]) nt
   refine ⟨_,rfl,_,rfl,_,rfl,w,_,rfl,s0.sqt hp2,fun H3 p1 s1 hp1=>⟨p1,[a1,b1],rfl,hp1,by show 2<64; decide,fun F1 zs1 nF1 perm1 so1=>?_⟩⟩
   obtain rfl:=Zef perm1 so1
   have t1:=Zae (o:=.lst ([(Zai a1 b1).1,(Zai a1 b1).2].map V.str)) nF1
   refine ⟨_,rfl,_,rfl,few rfl,fun F2 nF2=>?_⟩
   have t2:=Zae (o:=.lst [V.str a,.str b]) nF2
   refine ⟨F2,[a,b],rfl,.of Zab,by show 2<64; decide,fun F3 zs3 nF3 perm3 so3=>?_⟩
   obtain rfl:=Zef perm3 so3
   have t3:=Zae (o:=.lst ([(Zai a b).1,(Zai a b).2].map V.str)) nF3
   have s03:=s0.trans (s1.trans (t1.trans (t2.trans t3)))
   have s02:=s2.trans s03
   refine ⟨_,_,Zgq (zs:=[(Zai a1 b1).1,(Zai a1 b1).2]) (.of ((t2.trans t3) _ _ Zab)),Zgq (zs:=[(Zai a b).1,(Zai a b).2]) (.of Zab),.inr ⟨_,_,rfl,rfl⟩,by show ZfS _+1≤60; rw [Zij]; decide,_,rfl,?_⟩
   show if Zfn _ _=true then _ else _
   rw [Ziq]
   by_cases c:Zai a1 b1=Zai a b
   ·rw [decide_eq_true (show [(Zai a1 b1).1,(Zai a1 b1).2]=[(Zai a b).1,(Zai a b).2] by rw [c])]
    have c':e.tie=true∧Zai e.pr.1 e.pr.2=Zai a b:=⟨xtie,by rw [xp]; exact c⟩
    refine Zda ⟨_,rfl,w,_,_,_,rfl,rfl,s03.sqt hp2,Zag (j:=3) rfl,_,rfl,_,_,rfl,rfl,_,rfl,?_⟩
    by_cases hdd:e.day≤dd
    rotate_left
    ·exact ZaC (decide_eq_false hdd) ⟨last,_,rfl,s02,by rw [fo]; exact (Zmf hdd).symm,ht⟩
    refine Zbo (decide_eq_true hdd) ?_
    rw [Zpx hdd] at fo
    cases last with
    | none =>
     refine ⟨_,rfl,rfl,_,rfl,Zbo rfl ?_⟩
     exact ⟨_,rfl,some (e,w),_,rfl,s02,by rw [fo]; exact (ZkV c').symm,fun p' z=>by cases z; exact ⟨pm,xtie⟩⟩
    | some l =>
     obtain ⟨hm,tt⟩:=ht l rfl
     obtain ⟨x,y,er,ep⟩:=Zhg tt
     have hl2:=s02.sqt (hR l hm)
     rw [er] at hl2
     refine ⟨_,rfl,rfl,_,rfl,ZaC rfl ⟨_,rfl,l.2,_,_,_,rfl,rfl,hl2,Zag (j:=3) rfl,_,rfl,w,_,_,_,rfl,rfl,s03.sqt hp2,Zag (j:=3) rfl,_,_,rfl,rfl,_,rfl,?_⟩⟩
     have fm:Ze4 a b ((some l).map (·.1)) _=_:=Zmw (l:=l.1) c'
     by_cases lt:l.1.day<e.day
     ·refine Zbo (decide_eq_true lt) ?_
      exact ⟨_,rfl,some (e,w),_,rfl,s02,by rw [fo,fm]; exact (if_pos lt).symm,fun p' z=>by cases z; exact ⟨pm,xtie⟩⟩
     ·refine ZaC (decide_eq_false lt) ?_
      exact ⟨some l,_,rfl,s02,by rw [fo,fm]; exact (if_neg lt).symm,ht⟩
   ·rw [decide_eq_false (fun z=>c (by injection z with z1 z2; injection z2 with z3; exact Prod.ext z1 z3))]
    exact Zdz ⟨last,_,rfl,s02,by rw [fo]; refine (Zlx ?_).symm; intro z; rw [xp] at z; exact c z.2,ht⟩
theorem ZjD (T:Tx K w mg)  : Zds P base T:=by
 refine Fun.okX (k:=0) T.ZaT.F Zkp (fun vs H Q E h=>h.1) (fun cdv A outer s H vs Q E hr h=>?_)
 obtain ⟨-,h⟩:=h
 obtain ⟨R,rs,a,b,rfl,hE,hR,rl,q⟩:=h
 refine ⟨_,(Zaj (Zax (Zaz (Zn7 K rfl) (by rfl) T.n_sum ZqO (Zaa (ZdP rfl (ZcW (N:=["_law_row","_law_one","_law_other"]) ["_law_other","_law_one"] [none,some 1,some 2] rfl (by decide +kernel) (by decide +kernel) (by rfl) (by rfl) (by rfl) (by rfl) (by rfl)) (ZcS (pv 0)) (fun _ _ _=>(ZaM (i:=0) ZsS rfl (Or.inl rfl))) (fun _ _ _=>(ZeT (Zas (Zqy K rfl hr.units) (Zcf (ZoZ K rfl) (pv 0) Zfu (ZbV Zac)) (Zbd (Zaa Zav (Zaa (pv 1) (Zaa (pv 2) Zad)))) (Zaw _)))) (fun _ _ _=>(Zaq (ZgF K rfl) (pv 0) Zac (fun _ _=>rfl)))) Zad)))),?_⟩
 refine ⟨_,rfl,R,rfl,⟨_,hE⟩,Zde (rs.map (Zoy (a,b))) (Zao (by rw [List.length_map]; omega)) (fun σ=>∃ w,σ=[w,some (.str a),some (.str b)]) ⟨_,rfl⟩ (fun j H4 hj sm=>?go) (fun H4 sm=>?stop) (fun j σ H4 x H5 z hz hσ sm hx C hC=>?step) (fun F1 H4 nF sm hF=>?fin)⟩
 case go=>exact ⟨_,_,sm.sql hE,List.getElem?_eq_getElem (by rw [ZaY]; rw [List.length_map] at hj; exact hj)⟩
 case stop=>exact ⟨_,sm.sql hE,by rw [ZaY,List.length_map]; exact Nat.le_refl _⟩
 case step =>
  obtain ⟨w,rfl⟩:=hσ
  obtain ⟨rfl,hx2⟩:=hx
  obtain ⟨p,hp,rfl⟩:=ZeR (hx2 _ (sm.sql hE))
  have pm:=List.mem_of_getElem? hp
  rw [List.getElem?_map,hp] at hz
  obtain rfl:Zoy (a,b) p=z:=Option.some.inj hz
  have hp2:=sm.sqt (hR p pm)
  refine ⟨_,rfl,_,rfl,?_⟩
  dsimp only [ZeW]
  refine ⟨p.2,_,rfl,hp2,fun H6 p1 s6 hp1=>⟨_,rfl,_,rfl,few rfl,fun t nt=>?_⟩⟩
  have st:=Zae (o:=.tup [V.str "given",.str a,.str b]) nt
  have h1:SqT K (upd H6 t (.tup [V.str "given",.str a,.str b])) p1 ((p.1.row.take 3).map kV):=by
   have:=st.sqt hp1
   rwa [show Zi6 (p.1.row.map kV) none (some 3)=(p.1.row.take 3).map kV from ZlL p.1.row 3 (Zlz _)] at this
  have h2:SqT K (upd H6 t (.tup [V.str "given",.str a,.str b])) t ([.inr "given",.inr a,.inr b].map kV):=.of Zab
  refine ⟨_,_,Zju h1,Zju h2,.inl ⟨_,_,rfl,rfl⟩,by show ZfS _+1≤60; rw [Zgt]; decide,_,rfl,?_⟩
  show if Zfn _ _=true then _ else _
  rw [Zgo]
  by_cases c:p.1.row.take 3=[.inr "given",.inr a,.inr b]
  ·rw [decide_eq_true c]
   obtain ⟨am,d,ep,es⟩:=Zoh (c:=(a,b)) c
   rw [es] at hC
   rw [ep] at hp2
   exact Zda ⟨_,rfl,p.2,_,_,_,rfl,rfl,(s6.trans st).sqt hp2,Zag (j:=3) rfl,hC _ _ ⟨_,rfl⟩ (s6.trans st)⟩
  ·rw [decide_eq_false c]
   rw [show Zoy (a,b) p=none from if_neg c] at hC
   exact Zdz (hC _ _ ⟨_,rfl⟩ (s6.trans st))
 case fin =>
  obtain ⟨is,e1,e2⟩:=ZlS (a,b) rs
  rw [e1] at hF
  refine ⟨F1,is,rfl,.of hF,?_⟩
  rw [e2]
  exact q _ sm
theorem Zjv (T:Tx K w mg)  : Zha P base T:=by
 refine Fun.okX (k:=0) T.Zb7.F Zf6 (fun vs H Q E h=>h.1) (fun cdv A outer s H vs Q E hr h=>?_)
 obtain ⟨-,h⟩:=h
 obtain ⟨R,rs,v,e,rfl,hE,hR,tw,hV0,te,qf,qt⟩:=h
 refine ⟨_, (Zaf (ZdV PassesOwn.leaving rfl (ZcS (pv 0)) (ZaM (i := 2) Zf6.nd rfl (Or.inl rfl))
    (Zaf (Za9 (PW.pt (ZdG (Zas ZbZ (Zaq Zan (pv 1) Zac (fun _ _=>rfl)) Zav (Zaw _)) (ZdG (Zas (Zje hr.units) (Zcf ZfA (pv 2) Zfu (ZbV Zac)) (Zcf ZfA (pv 1) Zfu (ZbV Zac)) (Zaw _)) (Zdv (Zas ZbZ (Zaq Zan (pv 2) Zac (fun _ _=>rfl)) (Zaq Zan (pv 1) Zac (fun _ _=>rfl)) (Zaw _)))))) (Zaj (Zax Zep)) Zay)
   (Zaj (Za9 (PW.pt (ZdG (Zas ZkX (Zaq Zan (pv 1) Zac (fun _ _=>rfl)) Zav (Zaw _)) (Zdv (Zas ZcK (Zaq Zan (pv 2) Zac (fun _ _=>rfl)) (Zbd (Zaa Zav (Zaa Zav Zad))) (by rfl))))) (Zaj (Za9 (PW.pt (ZdG (Zas (Zje hr.units) (Zaz (ZcH K) (by rfl) T.n_sorted Zb3 (Zaa (Zcf ZfA (pv 2) (ZbV Zac) (ZbV Zac)) Zad)) (Zaz (ZcH K) (by rfl) T.n_sorted Zb3 (Zaa (Zcf ZfA (pv 1) (ZbV Zac) (ZbV Zac)) Zad)) (Zaw _)) (Zdv (Zas ZbZ (Zaq Zan (pv 2) Zac (fun _ _=>rfl)) (Zaq Zan (pv 1) Zac (fun _ _=>rfl)) (Zaw _))))) (Zaj (Zax Zep)) Zay)) Zay))))
   (Zaj (Zax Zep))),?_⟩
 refine ⟨_,rfl,R,rfl,⟨_,hE⟩,Zfh (xs:=ZaS rs) (fun i σ Hc=>∃ v2,σ=[some (.ref R),some (.ref v),v2]∧Same H Hc∧∀ p∈rs.take i,p.1.told.key≠e.told.key) ?start ?list ?turn ?done⟩
 case start=>exact ⟨none,rfl,fun _ _ z=>z,fun p hp=>by simp at hp⟩
 case list =>
  rintro i σ Hc _ ⟨v2,rfl,s0,_⟩
  exact s0.sql hE
 case done =>
  rintro σ Hc ⟨v2,rfl,s0,hn⟩
  rw [ZaY,List.take_length] at hn
  exact qt _ s0 hn
 case turn =>
  rintro i y σ Hc hy ⟨v2,rfl,s0,hn⟩
  obtain ⟨p,hp,rfl⟩:=ZeR hy
  have pm:=List.mem_of_getElem? hp
  have hU:=s0.sqt (hR p pm)
  have hV:=s0.sqt hV0
  have hx:=tw p pm
  have more:∀ r∈rs.take (i+1),r∈rs.take i∨r=p:=fun r hr=>by
   rw [ZjS hp] at hr
   exact (List.mem_append.mp hr).imp id (fun z=>by simpa using z)
  obtain ⟨x,u⟩:=p
  dsimp only at hU hx
  rcases Zov te with ⟨g,t,am,d,rfl⟩ | htie
  ·refine ⟨_,rfl,v,_,_,_,rfl,rfl,hV,Zag (j:=0) rfl,rfl,_,rfl,Zbo (by decide +kernel) ⟨_,rfl,_,rfl,?_⟩⟩
   dsimp only [ZeW]
   refine ⟨u,_,rfl,hU,fun H1 p1 s1 hp1=>⟨_,rfl,_,rfl,?_⟩⟩
   dsimp only [ZeW]
   refine ⟨v,_,rfl,s1.sqt hV,fun H2 p2 s2 hp2=>?_⟩
   have s12:=s1.trans s2
   have h1:SqT K H2 p1 ((x.row.take 3).map kV):=by
    have:=s2.sqt hp1
    rwa [show Zi6 (x.row.map kV) none (some 3)=(x.row.take 3).map kV from ZlL x.row 3 (Zlz x)] at this
   have h2:SqT K H2 p2 ([.inr "given",.inr g,.inr t].map kV):=hp2
   refine ⟨_,_,Zju h1,Zju h2,.inl ⟨_,_,rfl,rfl⟩,by show ZfS _+1≤60; rw [Zgt]; decide,_,rfl,?_⟩
   show if Zfn _ _=true then _ else _
   rw [Zgo]
   by_cases c:x.row.take 3=[.inr "given",.inr g,.inr t]
   ·rw [decide_eq_true c]
    obtain ⟨am',d',rfl⟩:=Ze9 c
    refine Zda ⟨_,rfl,u,_,_,_,rfl,rfl,(s12.sqt hU),Zag (j:=4) rfl,_,rfl,v,_,_,_,rfl,rfl,(s12.sqt hV),Zag (j:=4) rfl,rfl,_,rfl,?_⟩
    by_cases hd:d'=d
    ·subst hd
     exact Zbo (decide_eq_true rfl) (qf _ (s0.trans s12) ⟨_,pm,rfl⟩)
    ·refine ZaC (decide_eq_false (fun z=>hd (V.int.inj z))) ⟨_,rfl,v,_,_,_,rfl,rfl,(s12.sqt hV),Zag (j:=0) rfl,rfl,_,rfl,ZaC (by decide +kernel) ?_⟩
     exact ⟨_,rfl,s0.trans s12,fun r hr=>(more r hr).elim (hn r) (fun z=>by rw [z]; exact (fun z=>hd (by simpa [Ent.told,Ent.key] using z)))⟩
   ·rw [decide_eq_false c]
    refine Zdz ⟨_,rfl,v,_,_,_,rfl,rfl,(s12.sqt hV),Zag (j:=0) rfl,rfl,_,rfl,ZaC (by decide +kernel) ?_⟩
    exact ⟨_,rfl,s0.trans s12,fun r hr=>(more r hr).elim (hn r) (fun z=>by rw [z]; exact ZiT am d c)⟩
  ·obtain ⟨x1,y1,er,ep⟩:=Zhg htie
   rw [er] at hV
   refine ⟨_,rfl,v,_,_,_,rfl,rfl,hV,Zag (j:=0) rfl,rfl,_,rfl,ZaC (ZlH htie) ⟨_,rfl,v,_,_,_,rfl,rfl,hV,Zag (j:=0) rfl,rfl,_,rfl,Zbo (by show (!decide (V.str e.kind=V.str "given"))=true; rw [ZlH htie]; rfl) ?_⟩⟩
   rcases Zov hx with ⟨g,t,am,d',rfl⟩ | xtie
   ·refine ⟨_,rfl,u,_,_,_,rfl,rfl,hU,Zag (j:=0) rfl,few rfl,fun w nw=>⟨w,_,rfl,.inr (.of Zab),rfl,rfl,_,rfl,ZaC (by decide +kernel) ?_⟩⟩
    exact ⟨_,rfl,s0.trans (Zae nw),fun r hr=>(more r hr).elim (hn r) (fun z=>by rw [z]; exact (ZiY htie).symm)⟩
   ·obtain ⟨x2,y2,xr,xp⟩:=Zhg xtie
    rw [xr] at hU
    refine ⟨_,rfl,u,_,_,_,rfl,rfl,hU,Zag (j:=0) rfl,few rfl,fun w nw=>⟨w,_,rfl,.inr (.of Zab),rfl,rfl,_,rfl,Zbo (Zoe xtie) ?_⟩⟩
    have sw:=Zae (o:=.tup [V.str "union",.str "parted"]) nw
    refine ⟨_,rfl,_,rfl,_,rfl,u,_,rfl,sw.sqt hU,fun H3 p1 s1 hp1=>⟨p1,[x2,y2],rfl,hp1,by show 2<64; decide,fun F1 zs1 nF1 perm1 so1=>?_⟩⟩
    obtain rfl:=Zef perm1 so1
    have t1:=Zae (o:=.lst ([(Zai x2 y2).1,(Zai x2 y2).2].map V.str)) nF1
    refine ⟨_,rfl,_,rfl,_,rfl,v,_,rfl,(sw.trans (s1.trans t1)).sqt hV,fun H4 p2 s2 hp2=>⟨p2,[x1,y1],rfl,hp2,by show 2<64; decide,fun F3 zs3 nF3 perm3 so3=>?_⟩⟩
    obtain rfl:=Zef perm3 so3
    have t3:=Zae (o:=.lst ([(Zai x1 y1).1,(Zai x1 y1).2].map V.str)) nF3
    have s02:=sw.trans (s1.trans (t1.trans (s2.trans t3)))
    refine ⟨_,_,Zgq (zs:=[(Zai x2 y2).1,(Zai x2 y2).2]) (.of ((s2.trans t3) _ _ Zab)),Zgq (zs:=[(Zai x1 y1).1,(Zai x1 y1).2]) (.of Zab),.inr ⟨_,_,rfl,rfl⟩,by show ZfS _+1≤60; rw [Zij]; decide,_,rfl,?_⟩
    show if Zfn _ _=true then _ else _
    rw [Ziq]
    have kt:=Zgp xtie htie
    rw [xp,ep] at kt
    by_cases c:Zai x2 y2=Zai x1 y1
    ·rw [decide_eq_true (show [(Zai x2 y2).1,(Zai x2 y2).2]=[(Zai x1 y1).1,(Zai x1 y1).2] by rw [c])]
     refine Zda ⟨_,rfl,u,_,_,_,rfl,rfl,(s02.sqt hU),Zag (j:=3) rfl,_,rfl,v,_,_,_,rfl,rfl,(s02.sqt hV),Zag (j:=3) rfl,rfl,_,rfl,?_⟩
     by_cases hd:x.day=e.day
     ·exact Zbo (decide_eq_true (by rw [hd])) (qf _ (s0.trans s02) ⟨_,pm,kt.mpr ⟨c,hd⟩⟩)
     ·refine ZaC (decide_eq_false (fun z=>hd (V.int.inj z))) ?_
      exact ⟨_,rfl,s0.trans s02,fun r hr=>(more r hr).elim (hn r) (fun z=>by rw [z]; exact fun z=>hd (kt.mp z).2)⟩
    ·rw [decide_eq_false (fun z=>c (by injection z with z1 z2; injection z2 with z3; exact Prod.ext z1 z3))]
     refine Zdz ?_
     exact ⟨_,rfl,s0.trans s02,fun r hr=>(more r hr).elim (hn r) (fun z=>by rw [z]; exact fun z=>c (kt.mp z).1)⟩
theorem Zi7 (T:Tx K w mg) (Zb9:ZeU P base T) (Zbz:Zen P base T) (Zcp:Ze2 P base T):Zf2 P base T:=by
 refine Fun.okX (k:=2) T.ZbG.F ZcG (fun vs H Q E h=>h.1) (fun cdv A outer s H vs Q E hr h=>?_)
 obtain ⟨-,h⟩:=h
 obtain ⟨D,nms,c,rfl,hD,n2,nd,q⟩:=h
 refine ⟨_, (Zaf (Zny (Zar Zcp (hr.mono (by decide)) (by rfl) T.Zbf.m T.Zbf.F.kp T.Zbf.b .nil Zah (Zaa (pv 0) (Zaa (pv 1) Zad))) (Zm3 rfl (Zb5 (ZaM (i := 2) ZcG.nd rfl (Or.inl rfl)) (Zb5 (ZaM (i := 3) ZcG.nd rfl (Or.inl rfl)) ZfI))))
   (Zaf (ZaN (i:=4) ZcG.nd rfl (Or.inl rfl) (Zar Zb9 (hr.mono (by decide)) (by rfl) T.ZaR.m T.ZaR.F.kp T.ZaR.b .nil Zah (Zaa (pv 1) (Zaa Zac (Zaa Zac Zad)))))
   (Zaf (Za9 (Zas ZbZ (pv 4) Zac (Zaw _)) (Zaj (Zax (Zbd (Zaa Zav (Zaa (pv 2) (Zaa (pv 3) (Zaa (ZaB Zcy Zac (ZaB ZbJ (ZaB ZbC (pv 1) Zac) (ZaB ZdA Zac Zac))) (Zaa (Zar Zbz (hr.mono (by decide)) (by rfl) T.ZaQ.m T.ZaQ.F.kp T.ZaQ.b .nil Zah (Zaa (ZaB ZbC (pv 1) Zac) Zad)) Zad)))))))) Zay)
   (Zaj (Zax (Zbd (Zaa (Zaq Zbb (Zch (Zaa Zav (Zaa Zav (Zaa Zav (Zaa Zav Zad))))) (pv 4) (fun _ _=>rfl)) (Zaa (pv 2) (Zaa (pv 3) (Zaa (Zar Zbz (hr.mono (by decide)) (by rfl) T.ZaQ.m T.ZaQ.F.kp T.ZaQ.b .nil Zah (Zaa (ZaB ZbC (pv 1) Zac) Zad)) Zad)))))))))),?_⟩
 have zd:∀ n:Int,1≤n->n≤1000->n≠0∧n.natAbs<2 ^ 1000:=fun n h1 h2=>⟨by omega,Nat.lt_of_le_of_lt (show n.natAbs≤1000 by omega) (by decide +kernel)⟩
 have cp18:Zo9 10 18:=⟨by decide,by decide,by decide +kernel⟩
 have ne18:(10:Int) ^ ((18:Int).toNat)≠0:=by decide
 refine ⟨_,rfl,_,rfl,rfl,D,nms,c,rfl,hD,n2,nd,fun H1 P1 a b s1 nP1 hP1 ha hb ne=>⟨P1,_,rfl,.of hP1,rfl,_,_,rfl,_,_,rfl,rfl,?_⟩⟩
 refine ⟨_,rfl,rfl,c,2,5,rfl,by decide,by decide,by decide,fun H2 kd s2 k0 k1=>?_⟩
 refine ⟨_,rfl,rfl,_,rfl,?_⟩
 by_cases h4:kd=4
 ·subst h4
  refine Zbo (by rfl) ⟨_,rfl,_,rfl,_,rfl,_,_,rfl,rfl,zd 7 (by decide) (by decide),_,_,rfl,rfl,cp18,_,_,rfl,rfl,ne18,_,_,rfl,rfl,_,rfl,_,_,rfl,rfl,zd 2 (by decide) (by decide),rfl,_,rfl,fun H3 d s3 d0 d1=>⟨few rfl,fun t nt=>?_⟩⟩
  have x0:=Int.fmod_nonneg_of_pos (c.fdiv 7) (show (0:Int)<10 ^ (18:Int).toNat by decide)
  have x1:=Int.fmod_lt_of_pos (c.fdiv 7) (show (0:Int)<10 ^ (18:Int).toNat by decide)
  have p18:(10:Int) ^ (18:Int).toNat=10 ^ 18:=rfl
  rw [p18] at x0 x1
  have sZ:=(s1.trans s2).trans s3
  exact q _ t (.given a b (1+(c.fdiv 7).fmod (10 ^ 18)) d) (sZ.trans (Zae nt)) (Zbp sZ nt) Zab ⟨a,b,d,ha,hb,ne,d0,d1,.inr (.inr ⟨_,by omega,by omega,rfl⟩)⟩
 ·refine ZaC (decide_eq_false (fun z=>h4 (V.int.inj z))) ?_
  obtain rfl | rfl | rfl | rfl:kd=0∨kd=1∨kd=2∨kd=3:=by omega
  ·refine ⟨few rfl,fun L nL=>⟨_,rfl,L,_,_,_,rfl,rfl,.of Zab,Zag (j:=0) rfl,_,rfl,_,rfl,_,rfl,_,_,rfl,rfl,zd 2 (by decide) (by decide),rfl,_,rfl,fun H3 d s3 d0 d1=>⟨few rfl,fun t nt=>?_⟩⟩⟩
   have sL:=Zae (o:=.lst [V.str "union",.str "union",.str "union",.str "parted"]) nL
   have sZ:=(s1.trans s2).trans (sL.trans s3)
   exact q _ t (.union a b d) (sZ.trans (Zae nt)) (Zbp sZ nt) Zab ⟨a,b,d,ha,hb,ne,d0,d1,.inl rfl⟩
  ·refine ⟨few rfl,fun L nL=>⟨_,rfl,L,_,_,_,rfl,rfl,.of Zab,Zag (j:=1) rfl,_,rfl,_,rfl,_,rfl,_,_,rfl,rfl,zd 2 (by decide) (by decide),rfl,_,rfl,fun H3 d s3 d0 d1=>⟨few rfl,fun t nt=>?_⟩⟩⟩
   have sL:=Zae (o:=.lst [V.str "union",.str "union",.str "union",.str "parted"]) nL
   have sZ:=(s1.trans s2).trans (sL.trans s3)
   exact q _ t (.union a b d) (sZ.trans (Zae nt)) (Zbp sZ nt) Zab ⟨a,b,d,ha,hb,ne,d0,d1,.inl rfl⟩
  ·refine ⟨few rfl,fun L nL=>⟨_,rfl,L,_,_,_,rfl,rfl,.of Zab,Zag (j:=2) rfl,_,rfl,_,rfl,_,rfl,_,_,rfl,rfl,zd 2 (by decide) (by decide),rfl,_,rfl,fun H3 d s3 d0 d1=>⟨few rfl,fun t nt=>?_⟩⟩⟩
   have sL:=Zae (o:=.lst [V.str "union",.str "union",.str "union",.str "parted"]) nL
   have sZ:=(s1.trans s2).trans (sL.trans s3)
   exact q _ t (.union a b d) (sZ.trans (Zae nt)) (Zbp sZ nt) Zab ⟨a,b,d,ha,hb,ne,d0,d1,.inl rfl⟩
  ·refine ⟨few rfl,fun L nL=>⟨_,rfl,L,_,_,_,rfl,rfl,.of Zab,Zag (j:=3) rfl,_,rfl,_,rfl,_,rfl,_,_,rfl,rfl,zd 2 (by decide) (by decide),rfl,_,rfl,fun H3 d s3 d0 d1=>⟨few rfl,fun t nt=>?_⟩⟩⟩
   have sL:=Zae (o:=.lst [V.str "union",.str "union",.str "union",.str "parted"]) nL
   have sZ:=(s1.trans s2).trans (sL.trans s3)
   exact q _ t (.parted a b d) (sZ.trans (Zae nt)) (Zbp sZ nt) Zab ⟨a,b,d,ha,hb,ne,d0,d1,.inr (.inl rfl)⟩
theorem ZiG (T:Tx K w mg)  : Zf4 P base T:=by
 refine Fun.okX (k:=0) T.ZaL.F Ziv (fun vs H Q E h=>h.1) (fun cdv A outer s H vs Q E hr h=>?_)
 obtain ⟨-,h⟩:=h
 obtain ⟨x,rfl,q⟩:=h
 refine ⟨_,(Zaj (Zax (ZcL (ZdC K (by rfl) T.n_isinstance (Zaa (pv 0) (Zaa (ZcA (v:=.ty "bool") (by rfl) T.n_bool Zk6 rfl) Zad))) (ZcE (Zbj ZbZ (pv 0) (pv 1) (Zaw _)))))),?_⟩
 refine ⟨_,rfl,_,.ty "bool",_,_,rfl,rfl,.of (.bl x),T.k_bool_bool,_,rfl,Zda ⟨_,rfl,_,rfl,rfl,?_⟩⟩
 show Q (.bl (decide (V.bl x=V.bl x))) H
 rw [decide_eq_true rfl]
 exact q
theorem ZiZ (T:Tx K w mg) (Zbe:Zdo P base T) (Zbu:Zdu P base T) (ZbL:ZdZ P base T) (ZdN:ZfP P base T) (Zbz:Zen P base T) (Zcp:Ze2 P base T) (Zdl:Zhf P base T) (Zbw:Zds P base T) (Zcz:Zf4 P base T):ZfY P base T:=by
 refine Fun.okX (k:=7) T.ZbF.F ZbP (fun vs H Q E h=>h.1) (fun cdv A outer s H vs Q E hr h=>?_)
 obtain ⟨-,h⟩:=h
 obtain ⟨b,dx,k,bi,li,ti,su,B,R,rs,D,nms,bs,c,rfl,hB,sb,W,hE,hR,hD,q⟩:=h
 refine ⟨_, (Zaf (Zny (Zar Zcp (hr.mono (by decide)) (by rfl) T.Zbf.m T.Zbf.F.kp T.Zbf.b .nil Zah (Zaa (pv 2) (Zaa (ZaB ZbC (pv 3) Zac) Zad))) (Zm3 rfl (Zb5 (ZaM (i := 4) ZbP.nd rfl (Or.inl rfl)) (Zb5 (ZaM (i := 5) ZbP.nd rfl (Or.inl rfl)) ZfI))))
   (Zaf (ZaN (i:=6) ZbP.nd rfl (Or.inl rfl) (Zar Zbz (hr.mono (by decide)) (by rfl) T.ZaQ.m T.ZaQ.F.kp T.ZaQ.b .nil Zah (Zaa (ZaB ZbC (pv 3) Zac) Zad)))
   (Zaf (ZaN (i:=7) ZbP.nd rfl (Or.inl rfl) (Zar Zdl (hr.mono (by decide)) (by rfl) T.Zbg.m T.Zbg.F.kp T.Zbg.b .nil Zah (Zaa (pv 1) (Zaa (pv 4) (Zaa (pv 5) (Zaa (pv 6) Zad))))))
   (Zaf (Za9 (PW.pt (ZdG (Zas ZbZ (ZaB ZbJ (pv 3) Zac) Zac (Zaw _)) (Zdv (Zdf (ZcD (Zar Zcz (hr.mono (by decide)) (by rfl) T.ZaL.m T.ZaL.F.kp T.ZaL.b .nil Zah (Zaa (Zau (Zau (pv 0) T.cl_Book T.Za4.me ZbL (hr.mono (by decide)) T.Za4.b .nil Zah (Zaa (pv 6) Zad)) T.cl_Book T.me_Book_stands Zbe (hr.mono (by decide)) T.b_Book_stands (.cons (show RelV V.non Value.none from rfl) .nil) Zah (Zaa (pv 4) (Zaa (pv 5) Zad))) (Zaa (pv 7) Zad)))))))) (Zaj (Zax Zep)) Zay)
   (Zaf (Za9 (Zdf (ZcD (Zar Zcz (hr.mono (by decide)) (by rfl) T.ZaL.m T.ZaL.F.kp T.ZaL.b .nil Zah (Zaa (Zau (pv 0) T.cl_Book T.me_Book_stands Zbe (hr.mono (by decide)) T.b_Book_stands (.cons (show RelV V.non Value.none from rfl) .nil) Zah (Zaa (pv 5) (Zaa (pv 4) Zad))) (Zaa (Zar Zdl (hr.mono (by decide)) (by rfl) T.Zbg.m T.Zbg.F.kp T.Zbg.b .nil Zah (Zaa (pv 1) (Zaa (pv 4) (Zaa (pv 5) (Zaa (ZaB ZdA Zac Zac) Zad))))) Zad))))) (Zaj (Zax Zep)) Zay)
   (Zaf (Za9 (Zdf (ZcD (Zar Zcz (hr.mono (by decide)) (by rfl) T.ZaL.m T.ZaL.F.kp T.ZaL.b .nil Zah (Zaa (Zau (pv 0) T.cl_Book T.me_Book_stands Zbe (hr.mono (by decide)) T.b3_Book_stands .nil Zah (Zaa (pv 4) (Zaa (pv 5) (Zaa (pv 6) Zad)))) (Zaa (pv 7) Zad))))) (Zaj (Zax Zep)) Zay)
   (Zaf (ZaN (i:=8) ZbP.nd rfl (Or.inl rfl) (Zau (pv 0) T.cl_Book T.Zbi.me Zbu (hr.mono (by decide)) T.Zbi.b .nil Zah (Zaa (pv 4) (Zaa (pv 5) Zad))))
   (Zaj (Zax (ZcL (Zar ZdN (hr.mono (by decide)) (by rfl) T.ZbM.m T.ZbM.F.kp T.ZbM.b .nil Zah (Zaa (pv 8) Zad)) (ZcE (Zbj ZbZ (pv 8) (Zar Zbw (hr.mono (by decide)) (by rfl) T.ZaT.m T.ZaT.F.kp T.ZaT.b .nil Zah (Zaa (pv 1) (Zaa (pv 4) (Zaa (pv 5) Zad)))) (Zaw _))))))))))))),?_⟩
 have zd:∀ n:Int,1≤n->n≤1000->n≠0∧n.natAbs<2 ^ 1000:=fun n h1 h2=>⟨by omega,Nat.lt_of_le_of_lt (show n.natAbs≤1000 by omega) (by decide +kernel)⟩
 have cp18:Zo9 10 18:=⟨by decide,by decide,by decide +kernel⟩
 have tw:∀ p∈rs,p.1.two=true:=fun p hp=>(W.r7 p.1 (List.mem_map.mpr ⟨p,hp,rfl⟩)).two
 have gd:Gd (B.kept.map (·.1)):=by rw [sb.kept]; exact W.good
 have rl:rs.length≤60:=by have:=W.rl; rwa [List.length_map] at this
 have n5:=W.n5
 have bl:=W.bl
 have el:(es7 bs (rs.map (·.1))).length≤70:=by unfold es7; rw [List.length_append,List.length_map,List.length_map]; omega
 have knA:∀ x∈nms,Known B x:=fun x hx=>Zej sb W.good W.b7 W.n5 W.bl (fun e he _=>List.mem_append.mpr (.inl he)) hx
 have tiL:∀ {B':Bk} {es:List Ent} (c:Str × Str),SB B' es->es.length≤70->(Zbn B' c).length≤900:=fun c s h=>by rw [Zi5,s.tis]; exact Nat.le_trans (ZpS c _) (by omega)
 refine ⟨_,rfl,_,rfl,_,_,rfl,rfl,zd 3 (by decide) (by decide),rfl,D,nms,c.fdiv 3,rfl,hD,W.n2,W.nd,fun H1 P1 a b' s1 nP1 hP1 ha hb ne=>⟨P1,_,rfl,.of hP1,rfl,_,_,rfl,_,_,rfl,rfl,?_⟩⟩
 refine ⟨_,rfl,_,_,rfl,rfl,zd 5 (by decide) (by decide),rfl,_,rfl,fun H2 d s2 d0 d1=>?_⟩
 have s12:=s1.trans s2
 refine ⟨_,rfl,_,rfl,_,rfl,_,rfl,rfl,R,rs,a,b',d,rfl,s12.sql hE,hR.mono s12,tw,fun H3 s3=>?_⟩
 have s13:=s12.trans s3
 have hB3:=hB.mono s13
 have all_st:ZdY B .non b' a=Zjz ((rs.map (·.1)).filter fun e=>decide (e.day≤10 ^ 18)) a b':=by
  have e1:SB B ((es7 bs (rs.map (·.1))).filter fun e=>decide (e.day≤10 ^ 18)):=by rw [(Zgj W).1]; exact sb
  rw [← Zg7 W e1,Zdx,Zdx,ZkB]
 dsimp only [Zkj]
 refine Zer (fun σ' H'=>σ'=[some (.ref b),some (.ref R),some (.ref D),some (.int c),some (.str a),some (.str b'),some (.int d),some (.bl (Zjz ((rs.map (·.1)).filter fun e=>decide (e.day≤d)) a b')),none]∧Same H H') (fun nx hnx=>?_) ?_
 ·refine ⟨_,rfl,_,_,rfl,rfl,(by decide:(2:Int)≠0),rfl,_,rfl,?_⟩
  by_cases h2:c.fmod 2=0
  ·refine Zbo (decide_eq_true (by show V.int (c.fmod 2)=_; rw [h2])) ?_
   refine ⟨_,rfl,b,dx,_,rfl,hB3.ob,rfl,_,rfl,rfl,b,dx,k,bi,li,ti,su,B,d,rfl,hB3,gd,fun H4 b2 dx2 k2 bi2 li2 ti2 su2 B2 hB4 sb4 s4 _ _=>?_⟩
   rw [sb.kept] at sb4
   have g4:=ZeJ d W.good
   have kn4:∀ x∈nms,Known B2 x:=fun x hx=>Zej sb4 g4 W.b7 W.n5 W.bl (Zin d0) hx
   refine ⟨b2,dx2,_,rfl,hB4.ob,rfl,_,rfl,_,rfl,rfl,.ref b2,a,b',.non,B2,rfl,.inl rfl,⟨b2,dx2,k2,bi2,li2,ti2,su2,rfl,hB4⟩,kn4 a ha,kn4 b' hb,tiL _ sb4 (Nat.le_trans (List.length_filter_le ..) el),fun H5 s5=>⟨_,rfl,rfl,_,by rw [Zg7 W sb4]; rfl,?_⟩⟩
   exact ⟨_,rfl,ZaC rfl (hnx _ _ ⟨rfl,s13.trans (s4.trans s5)⟩)⟩
  ·exact ZaC (decide_eq_false (fun z=>h2 (V.int.inj z))) (Zdz (hnx _ _ ⟨rfl,s13⟩))
 rintro σ' H4 ⟨rfl,s4⟩
 have hB4:=hB.mono s4
 refine ⟨_,rfl,b,dx,_,rfl,hB4.ob,rfl,_,rfl,_,rfl,rfl,.ref b,b',a,.non,B,rfl,.inl rfl,⟨b,dx,k,bi,li,ti,su,rfl,hB4⟩,knA b' hb,knA a ha,tiL _ sb el,fun H5 s5=>?_⟩
 have s45:=s4.trans s5
 refine ⟨_,rfl,_,rfl,_,rfl,_,_,rfl,rfl,cp18,rfl,R,rs,a,b',10 ^ 18,rfl,s45.sql hE,hR.mono s45,tw,fun H6 s6=>⟨rfl,_,by rw [all_st]; rfl,⟨_,rfl,ZaC rfl ?_⟩⟩⟩
 have s46:=s45.trans s6
 have hB6:=hB.mono s46
 refine ⟨_,rfl,b,dx,_,rfl,hB6.ob,rfl,_,rfl,_,rfl,_,rfl,rfl,.ref b,a,b',.int d,B,rfl,.inr ⟨d,rfl⟩,⟨b,dx,k,bi,li,ti,su,rfl,hB6⟩,knA a ha,knA b' hb,tiL _ sb el,fun H7 s7=>⟨_,rfl,rfl,_,by rw [Zkx W d sb]; rfl,⟨_,rfl,ZaC rfl ?_⟩⟩⟩
 have s47:=s46.trans s7
 have hB7:=hB.mono s47
 refine ⟨_,rfl,b,dx,_,rfl,hB7.ob,rfl,_,rfl,_,rfl,rfl,.ref b,a,b',B,rfl,⟨b,dx,k,bi,li,ti,su,rfl,hB7⟩,knA a ha,knA b' hb,fun H8 s8=>?_⟩
 have s48:=s47.trans s8
 refine ⟨_,rfl,rfl,_,rfl,_,rfl,Zda ⟨_,rfl,_,rfl,_,rfl,_,rfl,rfl,R,rs,a,b',rfl,s48.sql hE,hR.mono s48,by omega,fun H9 s9=>⟨rfl,?_⟩⟩⟩
 rw [sb.sus,ZpI W]
 show Q (.bl (decide (V.int _=V.int _))) _
 rw [decide_eq_true rfl]
 exact q _ (s48.trans s9)
theorem ZiI (T:Tx K w mg)  : ZfR P base T:=by
 refine Fun.okX (k:=0) T.ZbI.F Zh8 (fun vs H Q E h=>h.1) (fun cdv A outer s H vs Q E hr h=>?_)
 obtain ⟨-,h⟩:=h
 obtain ⟨a,e,rfl,hA,tw,q⟩:=h
 refine ⟨_, (Zaf (Za9 (PW.pt (ZdG (Zas ZcK (Zaq Zan (pv 0) Zac (fun _ _ => rfl)) (Zbd (Zaa Zav (Zaa Zav Zad))) (by rfl)) (Zdv (Zas ZmF (Zaq Zan (pv 0) Zac (fun _ _ => rfl)) (Zaq Zan (pv 0) Zac (fun _ _ => rfl)) (Zaw _))))) (Zaj (Zax (Zbd (Zaa (Zaq Zan (pv 0) Zac (fun _ _ => rfl)) (Zaa (Zaq Zan (pv 0) Zac (fun _ _ => rfl)) (Zaa (Zaq Zan (pv 0) Zac (fun _ _ => rfl)) (Zaa (Zaq Zan (pv 0) Zac (fun _ _ => rfl)) Zad))))))) Zay)
   (Zaj (Zax (pv 0)))),?_⟩
 cases e with
 | born=>cases tw
 | taken=>cases tw
 | dead=>cases tw
 | given g t am d=>exact ⟨_,rfl,a,_,_,_,rfl,rfl,hA,Zag (j:=0) rfl,few rfl,fun t nt=>⟨t,_,rfl,.inr (.of Zab),rfl,rfl,_,rfl,ZaC (by decide +kernel) ⟨_,rfl,q _ a (Zae nt) ((Zae nt).sqt hA)⟩⟩⟩
 | union x y d =>
  refine ⟨_,rfl,a,_,_,_,rfl,rfl,hA,Zag (j:=0) rfl,few rfl,fun t nt=>⟨t,_,rfl,.inr (.of Zab),rfl,rfl,_,rfl,Zbo (by decide +kernel) ?_⟩⟩
  have st:=Zae (o:=.tup [V.str "union",.str "parted"]) nt
  have hA1:=st.sqt hA
  refine ⟨_,rfl,a,_,_,_,rfl,rfl,hA1,Zag (j:=2) rfl,_,rfl,a,_,_,_,rfl,rfl,hA1,Zag (j:=1) rfl,_,_,rfl,rfl,_,rfl,?_⟩
  cases hc:decide (y.cps.toList<x.cps.toList) with
  | true =>
   refine Zda ⟨_,rfl,a,_,_,_,rfl,rfl,hA1,Zag (j:=0) rfl,_,rfl,a,_,_,_,rfl,rfl,hA1,Zag (j:=2) rfl,_,rfl,a,_,_,_,rfl,rfl,hA1,Zag (j:=1) rfl,_,rfl,a,_,_,_,rfl,rfl,hA1,Zag (j:=3) rfl,few rfl,fun u nu=>q _ u (st.trans (Zae nu)) ?_⟩
   rw [show (Ent.union x y d).told=.union y x d from by show Ent.union (Zai x y).1 (Zai x y).2 d=_; rw [ZlV hc]]
   exact .of Zab
  | false =>
   refine Zdz ⟨_,rfl,q _ a st ?_⟩
   rw [show (Ent.union x y d).told=.union x y d from by show Ent.union (Zai x y).1 (Zai x y).2 d=_; rw [Zkm hc]]
   exact hA1
 | parted x y d =>
  refine ⟨_,rfl,a,_,_,_,rfl,rfl,hA,Zag (j:=0) rfl,few rfl,fun t nt=>⟨t,_,rfl,.inr (.of Zab),rfl,rfl,_,rfl,Zbo (by decide +kernel) ?_⟩⟩
  have st:=Zae (o:=.tup [V.str "union",.str "parted"]) nt
  have hA1:=st.sqt hA
  refine ⟨_,rfl,a,_,_,_,rfl,rfl,hA1,Zag (j:=2) rfl,_,rfl,a,_,_,_,rfl,rfl,hA1,Zag (j:=1) rfl,_,_,rfl,rfl,_,rfl,?_⟩
  cases hc:decide (y.cps.toList<x.cps.toList) with
  | true =>
   refine Zda ⟨_,rfl,a,_,_,_,rfl,rfl,hA1,Zag (j:=0) rfl,_,rfl,a,_,_,_,rfl,rfl,hA1,Zag (j:=2) rfl,_,rfl,a,_,_,_,rfl,rfl,hA1,Zag (j:=1) rfl,_,rfl,a,_,_,_,rfl,rfl,hA1,Zag (j:=3) rfl,few rfl,fun u nu=>q _ u (st.trans (Zae nu)) ?_⟩
   rw [show (Ent.parted x y d).told=.parted y x d from by show Ent.parted (Zai x y).1 (Zai x y).2 d=_; rw [ZlV hc]]
   exact .of Zab
  | false =>
   refine Zdz ⟨_,rfl,q _ a st ?_⟩
   rw [show (Ent.parted x y d).told=.parted x y d from by show Ent.parted (Zai x y).1 (Zai x y).2 d=_; rw [Zkm hc]]
   exact hA1
theorem Zia (T:Tx K w mg) (Zbs:Zem P base T) (Zcv:Zet P base T) (Zcs:Zeu P base T) (Zbu:Zdu P base T) (ZbL:ZdZ P base T) (Zbw:Zds P base T) (Zd2:ZfR P base T):ZfV P base T:=by
 refine Fun.okX (k:=7) T.ZbH.F Zbx (fun vs H Q E h=>h.1) (fun cdv A outer s H vs Q E hr h=>?_)
 obtain ⟨-,h⟩:=h
 obtain ⟨b,dx,k,bi,li,ti,su,B,R,rs,D,bs,nms,d,rfl,hB,sb,W,hE,hR,hD,hS,d0,d1,q⟩:=h
 refine ⟨_, (Zaf (Zm0 (i := 4) rfl  Zbx.nd rfl (Or.inl rfl) (ZcW (N := ["_law_row", "_law_day_here"]) ["_law_day_here"] [none, some 3] rfl (by decide +kernel) (by decide +kernel) (by rfl) (by rfl) (by rfl) (by rfl) (by rfl)) (ZcS (pv 1)) (fun _ _ _ => (ZaM (i := 0) ZsB rfl (Or.inl rfl))) (fun _ _ _ => (ZeT (Zas Zke (Zaq (ZgF K rfl) (pv 0) Zac (fun _ _ => rfl)) (pv 1) (Zaw _)))) (fun _ _ _ => (pv 0)))
   (Zaf (ZaN (i:=4) Zbx.nd rfl (Or.inl rfl) (Zaz (Zd4 Ze7 K rfl) (by rfl) T.n_sorted Zb3 (Zaa (ZaB Znn (pv 4) (ZdP rfl (ZcW (N:=["_law_row","_law_day_here"]) ["_law_day_here"] [none,some 3] rfl (by decide +kernel) (by decide +kernel) (by rfl) (by rfl) (by rfl) (by rfl) (by rfl)) (ZcS (pv 2)) (fun _ _ _=>(ZaM (i:=0) ZsB rfl (Or.inl rfl))) (fun _ _ _=>(ZeT (Zas Zke (Zaq (ZgF K rfl) (pv 0) (ZaB ZhR (Zaz (Zop K rfl) (by rfl) T.n_len ZcM (Zaa (pv 0) Zad)) Zac) (fun _ _=>rfl)) (pv 1) (Zaw _)))) (fun _ _ _=>(Zar Zd2 (hr.mono (by decide)) (by rfl) T.ZbI.m T.ZbI.F.kp T.ZbI.b .nil Zah (Zaa (pv 0) Zad))))) Zad)))
   (Zaf (ZaN (i:=5) Zbx.nd rfl (Or.inl rfl) (Zau (pv 0) T.cl_Book T.Za4.me ZbL (hr.mono (by decide)) T.Za4.b .nil Zah (Zaa (Zaq Zan (Zaq Zbb (pv 1) Zac (fun _ _=>rfl)) Zac (fun _ _=>rfl)) Zad)))
   (Zaf (Za9 (Zas (ZqZ hr.units) (Zkq (pv 5) T.cl_Book T.Za5.me Zcv (hr.mono (by decide)) T.Za5.b .nil Zah) (Zaz (Zd4 Ze7 K rfl) (by rfl) T.n_sorted Zb3 (Zaa (ZdP rfl (ZcW (N:=["_law_row","_law_births_here"]) ["_law_births_here"] [none,some 1] rfl (by decide +kernel) (by decide +kernel) (by rfl) (by rfl) (by rfl) (by rfl) (by rfl)) (ZcS (pv 1)) (fun _ _ _=>(ZaM (i:=0) Ztb rfl (Or.inl rfl))) (fun _ _ _=>(ZeT (Zas Zke (Zaq (ZgF K rfl) (pv 0) Zac (fun _ _=>rfl)) (Zaq (ZgF K rfl) (Zaq (ZoM K rfl) (pv 1) Zac (fun _ _=>rfl)) Zac (fun _ _=>rfl)) (Zaw _)))) (fun _ _ _=>(pv 0))) Zad)) (Zaw _)) (Zaj (Zax Zep)) Zay)
   (Zaf (ZaN (i:=6) Zbx.nd rfl (Or.inl rfl) (Zau (pv 0) T.cl_Book T.Za4.me ZbL (hr.mono (by decide)) T.Za4.b .nil Zah (Zaa (pv 3) Zad)))
   (Zaf (Zny (Zch (Zaa (Zaq Zan (Zaq Zbb (pv 1) Zac (fun _ _=>rfl)) Zac (fun _ _=>rfl)) (Zaa (Zaq Zan (Zaq Zbb (pv 1) Zac (fun _ _=>rfl)) Zac (fun _ _=>rfl)) Zad))) (Zm3 rfl (Zb5 (ZaM (i:=7) Zbx.nd rfl (Or.inl rfl)) (Zb5 (ZaM (i:=8) Zbx.nd rfl (Or.inl rfl)) ZfI))))
   (Zaf (Za3 (Zau (pv 6) T.cl_Book T.Za2.me Zbs (hr.mono (by decide)) T.Za2.b .nil Zah (Zaa (Zbd (Zaa Zav (Zaa (pv 7) (Zaa (pv 3) Zad)))) Zad)))
   (Zaf (Za3 (Zau (pv 0) T.cl_Book T.Za2.me Zbs (hr.mono (by decide)) T.Za2.b .nil Zah (Zaa (Zbd (Zaa Zav (Zaa (pv 7) (Zaa (pv 8) (Zaa Zac (Zaa (ZaB ZdA Zac Zac) Zad)))))) Zad)))
   (Zaf (Za9 (PW.pt (Zjk (Zas ZmX (Zau (pv 0) T.cl_Book T.Za6.me Zcs (hr.mono (by decide)) T.Za6.b .nil Zah (Zaa (pv 7) Zad)) ZfN (Zaw _)) (ZhT (Zas ZkX (Zau (pv 6) T.cl_Book T.Za6.me Zcs (hr.mono (by decide)) T.Za6.b .nil Zah (Zaa (pv 7) Zad)) (pv 3) (Zaw _))))) (Zaj (Zax Zep)) Zay)
   (Zaj (Zax (ZcL (Zbj (Zje hr.units) (Zkq (pv 6) T.cl_Book T.Za5.me Zcv (hr.mono (by decide)) T.Za5.b .nil Zah) (Zaz (Zd4 Ze7 K rfl) (by rfl) T.n_sorted Zb3 (Zaa (ZaB Znn (pv 4) (Zch (Zaa (Zbd (Zaa Zav (Zaa (pv 7) (Zaa (pv 3) Zad)))) Zad))) Zad)) (Zaw _)) (ZcE (Zbj ZbZ (Zau (pv 6) T.cl_Book T.Zbi.me Zbu (hr.mono (by decide)) T.Zbi.b .nil Zah (Zaa (pv 7) (Zaa (pv 8) Zad))) (Zar Zbw (hr.mono (by decide)) (by rfl) T.ZaT.m T.ZaT.F.kp T.ZaT.b .nil Zah (Zaa (pv 4) (Zaa (pv 7) (Zaa (pv 8) Zad)))) (Zaw _))))))))))))))),?_⟩
 have cp18:Zo9 10 18:=⟨by decide,by decide,by decide +kernel⟩
 have tw:∀ p∈rs,p.1.two=true:=fun p hp=>(W.r7 p.1 (List.mem_map.mpr ⟨p,hp,rfl⟩)).two
 have gd:Gd (B.kept.map (·.1)):=by rw [sb.kept]; exact W.good
 have rl:rs.length≤60:=by have:=W.rl; rwa [List.length_map] at this
 have n5:=W.n5
 have n2:=W.n2
 have bl:bs.length=nms.length:=by have:=W.bl; rwa [List.length_map] at this
 have el:(es7 (bs.map (·.1)) (rs.map (·.1))).length≤70:=by unfold es7; rw [List.length_append,List.length_map,List.length_map,List.length_map]; omega
 have kn:∀ x∈nms,Known B x:=fun x hx=>Zej sb W.good W.b7 W.n5 W.bl (fun e he _=>List.mem_append.mpr (.inl he)) hx
 have bo:∀ p∈bs,∃ n s dd,p.1=.born n s dd "" "":=fun p hp=>by
  obtain ⟨_,n,s,dd,_,_,e,_⟩:=W.b7.mem (List.mem_map.mpr ⟨p,hp,rfl⟩:p.1∈bs.map (·.1))
  exact ⟨n,s,dd,e⟩
 have nth:∀ i:Nat,i<2->∃ p n s dd,bs[i]?=some p∧p∈bs∧p.1=.born n s dd "" ""∧nms[i]?=some n∧dd< -9*10 ^ 17∧atI (ZaS bs) (i:Int)=some (.ref p.2)∧SqT K H p.2 ((Ent.born n s dd "" "").row.map kV):=fun i hi=>by
  have il:i<bs.length:=by omega
  obtain ⟨n,s,dd,h1,h2,_,h4,h5⟩:=W.b7 i bs[i].1 (by rw [List.getElem?_map,List.getElem?_eq_getElem il]; rfl)
  refine ⟨bs[i],n,s,dd,List.getElem?_eq_getElem il,List.getElem_mem il,h2,h1,by omega,Zc4 (by unfold ZaS; rw [List.getElem?_map,List.getElem?_eq_getElem il]; rfl),?_⟩
  rw [← h2]
  exact hS _ (List.getElem_mem il)
 obtain ⟨p0,n0,sx0,x0,hp0,pm0,ep0,hn0,lt0,at0,row0⟩:=nth 0 (by decide)
 obtain ⟨p1,n1,sx1,x1,hp1,pm1,ep1,hn1,lt1,at1,row1⟩:=nth 1 (by decide)
 have hne:n0≠n1:=Zgh W.nd hn0 hn1 (by decide)
 have hm0:=List.mem_of_getElem? hn0
 have hm1:=List.mem_of_getElem? hn1
 have stepB:∀ {Hx:Hp} {p:Ent × Addr},p∈bs->Same H Hx->SqT K Hx p.2 (p.1.row.map kV)∧atI (p.1.row.map kV) 3=some (.int p.1.day):=fun {Hx p} hp s=>by
  refine ⟨s.sqt (hS p hp),?_⟩
  obtain ⟨n,s,dd,e⟩:=bo p hp
  rw [e]
  exact Zag (j:=3) rfl
 refine ⟨_,rfl,D,rfl,⟨_,hD⟩,Zde (bs.map (Znk d)) (Zao (by rw [List.length_map]; omega)) (fun σ=>∃ w,σ=[w,some (.int d)]) ⟨_,rfl⟩ (fun j H4 hj sm=>?go) (fun H4 sm=>?stop) (fun j σ H4 x H5 z hz hσ sm hx C hC=>?step) (fun F1 H1 nF s1 hF1=>?fin)⟩
 case go=>exact ⟨_,_,sm.sql hD,List.getElem?_eq_getElem (by rw [ZaY]; rw [List.length_map] at hj; exact hj)⟩
 case stop=>exact ⟨_,sm.sql hD,by rw [ZaY,List.length_map]; exact Nat.le_refl _⟩
 case step =>
  obtain ⟨w,rfl⟩:=hσ
  obtain ⟨rfl,hx2⟩:=hx
  obtain ⟨p,hp,rfl⟩:=ZeR (hx2 _ (sm.sql hD))
  have pm:=List.mem_of_getElem? hp
  rw [List.getElem?_map,hp] at hz
  obtain rfl:Znk d p=z:=Option.some.inj hz
  obtain ⟨rw1,at3⟩:=stepB pm sm
  refine ⟨_,rfl,p.2,_,_,_,rfl,rfl,rw1,at3,_,rfl,_,_,rfl,rfl,_,rfl,?_⟩
  by_cases hd:p.1.day≤d
  ·rw [show Znk d p=some (.ref p.2) from if_pos hd] at hC
   exact Zbo (decide_eq_true hd) ⟨_,rfl,hC _ _ ⟨_,rfl⟩ (Same.refl _)⟩
  ·rw [show Znk d p=none from if_neg hd] at hC
   exact ZaC (decide_eq_false hd) (hC _ _ ⟨_,rfl⟩ (Same.refl _))
 case fin =>
  rw [Zim] at hF1
  refine ⟨_,rfl,_,rfl,R,rfl,⟨_,s1.sql hE⟩,Zne (rs.map (Zrd d)) (fun p H v=>∃ t,v=.ref t∧SqT K H t (p.1.told.row.map kV)) ?mono2 (Zao (by rw [List.length_map]; omega)) (fun σ=>∃ w,σ=[w,some (.int d)]) ⟨_,rfl⟩ (fun j H4 hj sm=>?go2) (fun H4 sm=>?stop2) (fun j σ H4 x H5 z hz hσ sm hx C hC1 hC2=>?step2) (fun F2 ys H2 nF2 s2 hF2 yl hP=>?fin2)⟩
  case mono2 =>
   rintro p Ha Hb v Dx xs ⟨t,rfl,ht⟩ hDx bt
   refine ⟨t,rfl,?_⟩
   rcases ht with (ht | ⟨o,ht⟩) | ht
   ·exact .inl (.inl (bt _ _ (ZaP ht hDx (fun z=>by cases z)) ht))
   ·exact .inl (.inr ⟨o,bt _ _ (ZaP ht hDx (fun z=>by cases z)) ht⟩)
   ·exact .inr ht
  case go2=>exact ⟨_,_,sm.sql (s1.sql hE),List.getElem?_eq_getElem (by rw [ZaY]; rw [List.length_map] at hj; exact hj)⟩
  case stop2=>exact ⟨_,sm.sql (s1.sql hE),by rw [ZaY,List.length_map]; exact Nat.le_refl _⟩
  case step2 =>
   obtain ⟨w,rfl⟩:=hσ
   obtain ⟨rfl,hx2⟩:=hx
   obtain ⟨p,hp,rfl⟩:=ZeR (hx2 _ (sm.sql (s1.sql hE)))
   have pm:=List.mem_of_getElem? hp
   rw [List.getElem?_map,hp] at hz
   obtain rfl:Zrd d p=z:=Option.some.inj hz
   have hp2:=sm.sqt (s1.sqt (hR p pm))
   refine ⟨_,rfl,_,rfl,p.2,_,rfl,.inr hp2,_,_,rfl,rfl,p.2,_,_,_,rfl,rfl,hp2,Zqf (tw p pm),_,rfl,_,_,rfl,rfl,_,rfl,?_⟩
   by_cases hd:p.1.day≤d
   ·refine Zbo (decide_eq_true hd) ⟨_,rfl,rfl,p.2,p.1,rfl,hp2,tw p pm,fun H6 t s6 ht=>?_⟩
    exact hC2 p (if_pos hd) _ _ _ ⟨_,rfl⟩ s6 ⟨t,rfl,ht⟩
   ·exact ZaC (decide_eq_false hd) (hC1 (if_neg hd) _ _ ⟨_,rfl⟩ (Same.refl _))
  case fin2 =>
   rw [ZlI] at yl hP
   obtain ⟨sl,ey,sm1,sr⟩:=Zh1 (K:=K) yl hP
   subst ey
   rw [ZaY] at yl
   have fl1:=List.length_filter_le (ZbO d) bs
   have fl2:=List.length_filter_le (ZbO d) rs
   refine ⟨F1,F2,_,_,rfl,rfl,s2 _ _ hF1,hF2,Nat.le_of_lt (Zao (by rw [ZaY,ZaY]; omega)),fun P nP=>?_⟩
   have eP:ZaS (bs.filter (ZbO d))++ZaS sl=ZaS (bs.filter (ZbO d)++sl):=by unfold ZaS; rw [List.map_append]
   rw [eP]
   have sP:=Zae (o:=.lst (ZaS (bs.filter (ZbO d)++sl))) nP
   have rp:RowsAt K (upd H2 P (.lst (ZaS (bs.filter (ZbO d)++sl)))) (bs.filter (ZbO d)++sl):=fun p hp=>by
    rcases List.mem_append.mp hp with hp | hp
    ·exact sP.sqt (s2.sqt (s1.sqt (hS p (List.mem_filter.mp hp).1)))
    ·exact sP.sqt (sr p hp)
   have hps:(bs.filter (ZbO d)++sl).map (·.1)=(es7 (bs.map (·.1)) (rs.map (·.1))).filter fun e=>decide (e.day≤d):=by
    rw [Zfz,List.map_append,sm1,← ZfL,← ZfL,List.map_map]
    rfl
   refine ⟨P,(bs.filter (ZbO d)++sl).map fun p=>(p.2,p.1.row),rfl,.of (by rw [Zab,List.map_map]; rfl),fun p hp=>?rows1,fun Dz out nDz pz so=>?_⟩
   case rows1 =>
    obtain ⟨z,hz,rfl⟩:=List.mem_map.mp hp
    exact ⟨rp z hz,⟨_,rfl⟩,Zfi _⟩
   obtain ⟨o2,p2,rfl⟩:=Zca pz (bs.filter (ZbO d)++sl) rfl
   rw [List.map_map] at so
   have hDz:(upd (upd H2 P (.lst (ZaS (bs.filter (ZbO d)++sl)))) Dz (.lst (((o2.map fun p=>(p.2,p.1.row))).map fun p=>V.ref p.1))) Dz=some (.lst (ZaS o2)):=by rw [Zab,List.map_map]; rfl
   have sZ:=Zae (o:=.lst (((o2.map fun p=>(p.2,p.1.row))).map fun p=>V.ref p.1)) nDz
   have r2:RowsAt K _ o2:=fun p hp=>sZ.sqt (rp p (p2.mem_iff.mp hp))
   have s3:=(s1.trans s2).trans (sP.trans sZ)
   generalize upd (upd H2 P (.lst (ZaS (bs.filter (ZbO d)++sl)))) Dz (.lst (((o2.map fun p=>(p.2,p.1.row))).map fun p=>V.ref p.1))=H3 at *
   have o2l:o2.length≤70:=by rw [p2.length_eq,List.length_append]; omega
   have hB3:=hB.mono s3
   dsimp only
   refine ⟨_,rfl,b,dx,_,rfl,hB3.ob,rfl,_,rfl,D,_,_,_,rfl,rfl,s3.sql hD,at1,p1.2,_,_,_,rfl,rfl,s3.sqt row1,Zag (j:=3) rfl,rfl,b,dx,k,bi,li,ti,su,B,x1,rfl,hB3,gd,fun H4 b3 dx3 k3 bi3 li3 ti3 su3 B3 hB4 sb4 s4 _ _=>?_⟩
   rw [sb.kept,ZoS W lt1] at sb4
   have kl4:=Zio sb4.kept
   have fl4:=List.length_filter_le (fun e:Ent=>decide (e.day≤x1)) (bs.map (·.1))
   rw [List.length_map] at fl4
   refine ⟨_,rfl,b3,dx3,_,rfl,hB4.ob,rfl,rfl,.ref b3,B3,rfl,⟨b3,dx3,k3,bi3,li3,ti3,su3,rfl,hB4⟩,by omega,fun H5 E1 o1 s5 nE1 pmE soE hE1=>?_⟩
   have s05:=s3.trans (s4.trans s5)
   refine ⟨_,rfl,D,rfl,⟨_,s05.sql hD⟩,Zde (bs.map (Znk x1)) (Zao (by rw [List.length_map]; omega)) (fun σ=>∃ w,σ=[w,some (.ref D)]) ⟨_,rfl⟩ (fun j H4 hj sm=>?go3) (fun H4 sm=>?stop3) (fun j σ H4 x H5 z hz hσ sm hx C hC=>?step3) (fun F3 H6 nF3 s6 hF3=>?fin3)⟩
   case go3=>exact ⟨_,_,sm.sql (s05.sql hD),List.getElem?_eq_getElem (by rw [ZaY]; rw [List.length_map] at hj; exact hj)⟩
   case stop3=>exact ⟨_,sm.sql (s05.sql hD),by rw [ZaY,List.length_map]; exact Nat.le_refl _⟩
   case step3 =>
    obtain ⟨w,rfl⟩:=hσ
    obtain ⟨rfl,hx2⟩:=hx
    obtain ⟨p,hp,rfl⟩:=ZeR (hx2 _ (sm.sql (s05.sql hD)))
    have pm:=List.mem_of_getElem? hp
    rw [List.getElem?_map,hp] at hz
    obtain rfl:Znk x1 p=z:=Option.some.inj hz
    obtain ⟨rw1,at3⟩:=stepB pm (s05.trans sm)
    refine ⟨_,rfl,p.2,_,_,_,rfl,rfl,rw1,at3,_,rfl,D,_,_,_,rfl,rfl,sm.sql (s05.sql hD),at1,p1.2,_,_,_,rfl,rfl,sm.sqt (s05.sqt row1),Zag (j:=3) rfl,_,_,rfl,rfl,_,rfl,?_⟩
    by_cases hd:p.1.day≤x1
    ·rw [show Znk x1 p=some (.ref p.2) from if_pos hd] at hC
     exact Zbo (decide_eq_true hd) ⟨_,rfl,hC _ _ ⟨_,rfl⟩ (Same.refl _)⟩
    ·rw [show Znk x1 p=none from if_neg hd] at hC
     exact ZaC (decide_eq_false hd) (hC _ _ ⟨_,rfl⟩ (Same.refl _))
   case fin3 =>
    rw [Zim] at hF3
    have s06:=s05.trans s6
    have re:RowsAt K H6 (bs.filter (ZbO x1)):=fun p hp=>s06.sqt (hS p (List.mem_filter.mp hp).1)
    refine ⟨F3,(bs.filter (ZbO x1)).map fun p=>(p.2,p.1.row),rfl,.of (by rw [hF3,List.map_map]; rfl),fun p hp=>?rows2,fun D3 out3 nD3 pz3 so3=>?_⟩
    case rows2 =>
     obtain ⟨z,hz,rfl⟩:=List.mem_map.mp hp
     exact ⟨re z hz,⟨_,rfl⟩,Zfi _⟩
    obtain ⟨o3,p3,rfl⟩:=Zca pz3 (bs.filter (ZbO x1)) rfl
    rw [List.map_map] at so3
    have s7:=Zae (o:=.lst (((o3.map fun p=>(p.2,p.1.row))).map fun p=>V.ref p.1)) nD3
    have hD3:(upd H6 D3 (.lst (((o3.map fun p=>(p.2,p.1.row))).map fun p=>V.ref p.1))) D3=some (.lst (ZaS o3)):=by rw [Zab,List.map_map]; rfl
    have re3:RowsAt K _ o3:=fun p hp=>s7.sqt (re p (p3.mem_iff.mp hp))
    have s47:=s5.trans (s6.trans s7)
    generalize upd H6 D3 (.lst (((o3.map fun p=>(p.2,p.1.row))).map fun p=>V.ref p.1))=H7 at *
    have r1:RowsAt K H7 o1:=fun p hp=>s47.sqt (hB4.en p (pmE.mem_iff.mp hp))
    have eq3:(o1.map fun p=>p.1.row)=o3.map fun p=>p.1.row:=ZhI (by rw [sb4.kept,ZfL]) pmE p3 soE so3
    refine ⟨_,_,Zgl (.of ((s6.trans s7) _ _ hE1)) r1,Zgl (.of hD3) re3,Nat.le_trans (Zik _) (by decide),_,rfl,ZaC (by rw [eq3,Zil]; rfl) ?_⟩
    have s37:=s4.trans s47
    have s07:=s3.trans s37
    have hB7:=hB.mono s07
    refine ⟨_,rfl,b,dx,_,rfl,hB7.ob,rfl,_,rfl,rfl,b,dx,k,bi,li,ti,su,B,d,rfl,hB7,gd,fun H8 b4 dx4 k4 bi4 li4 ti4 su4 B4 hB8 sb8 s8 m5 ft=>?_⟩
    rw [sb.kept] at sb8
    have s08:=s07.trans s8
    refine ⟨_,rfl,D,_,_,_,rfl,rfl,s08.sql hD,at0,p0.2,_,_,_,rfl,rfl,s08.sqt row0,Zag (j:=1) rfl,_,rfl,D,_,_,_,rfl,rfl,s08.sql hD,at1,p1.2,_,_,_,rfl,rfl,s08.sqt row1,Zag (j:=1) rfl,few rfl,fun L nL=>⟨L,_,rfl,.of Zab,rfl,_,_,rfl,_,_,rfl,rfl,?_⟩⟩
    dsimp only [kV]
    have sL:=Zae (o:=.lst [V.str n0,.str n1]) nL
    have hB9:=hB8.mono sL
    have s7L:=s8.trans sL
    generalize upd H8 L (.lst [V.str n0,.str n1])=H9 at *
    refine ⟨_,rfl,b4,dx4,_,rfl,hB9.ob,rfl,_,rfl,_,rfl,few rfl,fun t nt=>?_⟩
    have st:=Zae (o:=.tup [V.str "dead",.str n0,.int d]) nt
    have hB10:=hB9.mono st
    have s7t:=s7L.trans st
    have ht10:(upd H9 t (.tup [V.str "dead",.str n0,.int d])) t=some (.tup [V.str "dead",.str n0,.int d]):=Zab
    generalize upd H9 t (.tup [V.str "dead",.str n0,.int d])=H10 at *
    have g8:=ZeJ d W.good
    have l8:((es7 (bs.map (·.1)) (rs.map (·.1))).filter fun e=>decide (e.day≤d)).length≤70:=Nat.le_trans (List.length_filter_le ..) el
    have t8:(((es7 (bs.map (·.1)) (rs.map (·.1))).filter fun e=>decide (e.day≤d)).filter Ent.tie).length≤60:=Zfl W _
    have nd8:∀ e∈(es7 (bs.map (·.1)) (rs.map (·.1))).filter (fun e=>decide (e.day≤d)),e.isDead=false:=fun e he=>W.undead e (List.mem_filter.mp he).1
    have acD:=ZoX (n:=n0) W.b7 W.nm W.n5 W.bl (Zin d0) hm0 d0 d1 nd8
    refine ⟨rfl,b4,dx4,k4,bi4,li4,ti4,su4,B4,.ref t,.dead n0 d,rfl,hB10,⟨t,rfl,.of ht10⟩,acD.ok,rfl,ZgT sb8 g8 l8 acD,sb8.room l8 t8,fun H11 B5 y hB11 hput bt hy gr grT=>?_⟩
    have sb11:SB B5 (((es7 (bs.map (·.1)) (rs.map (·.1))).filter fun e=>decide (e.day≤d))++[.dead n0 d]):=sb8.put g8 hput acD
    have g11:Gd (((es7 (bs.map (·.1)) (rs.map (·.1))).filter fun e=>decide (e.day≤d))++[.dead n0 d]):=.snoc g8 l8 t8 acD
    have s711:Same H7 H11:=fun c u e=>by
     refine bt.eq c u (fun m=>?_) (s7t c u e)
     have m':c∈[k4,bi4,li4,ti4,su4]∨c=y:=by
      simp only [List.mem_cons,List.not_mem_nil,or_false] at m ⊢
      rcases m with h | h | h | h | h | h <;> simp [h]
     rcases m' with h | h
     ·rw [m5 c h] at e; cases e
     ·rcases hy with z | z | z
      ·have:=s7t c u e; rw [h,z] at this; cases this
      ·rw [h,z,m5 bi4 (by simp)] at e; cases e
      ·rw [h,ft y z] at e; cases e
    have ft11:∀ c∈B5.ties.map (·.2.1),H7 c=none:=fun c hc=>by
     rcases grT c hc with h | h
     ·exact ft c h
     ·exact Zbp s7t h
    have s011:=s07.trans s711
    have hBm:=hB.mono s011
    have acG:=Zly W hm0 hm1 hne
    refine ⟨_,rfl,b,dx,_,rfl,hBm.ob,rfl,_,rfl,_,rfl,_,_,rfl,rfl,cp18,few rfl,fun u nu=>?_⟩
    have su':=Zae (o:=.tup [V.str "given",.str n0,.str n1,.int 7,.int (10 ^ 18)]) nu
    have hu12:(upd H11 u (.tup [V.str "given",.str n0,.str n1,.int 7,.int (10 ^ 18)])) u=some (.tup [V.str "given",.str n0,.str n1,.int 7,.int (10 ^ 18)]):=Zab
    have hBm2:=hBm.mono su'
    have hBp:=hB11.mono su'
    have s712:=s711.trans su'
    try dsimp only
    rw [show (10:Int) ^ (18:Int).toNat=10 ^ 18 from rfl]
    generalize upd H11 u (.tup [V.str "given",.str n0,.str n1,.int 7,.int (10 ^ 18)])=H12 at *
    have tE:((es7 (bs.map (·.1)) (rs.map (·.1))).filter Ent.tie).length≤60:=by have:=Zfl W (10 ^ 18); rwa [(Zgj W).1] at this
    refine ⟨rfl,b,dx,k,bi,li,ti,su,B,.ref u,.given n0 n1 7 (10 ^ 18),rfl,hBm2,⟨u,rfl,.of hu12⟩,acG.ok,rfl,ZgT sb W.good el acG,sb.room el tE,fun H13 B6 y2 hB13 hput2 bt2 hy2 gr2 grT2=>?_⟩
    have sb13:=sb.put W.good hput2 acG
    have hy2':H12 y2=none∨∃ w,H12 y2=some (.dK w):=by
     rcases hy2 with h | h | h
     ·exact .inl h
     ·exact .inr ⟨_,by rw [h]; exact hBm2.bi⟩
     ·obtain ⟨r,hr2,er⟩:=List.mem_map.mp h
      exact .inr ⟨_,by rw [← er]; exact hBm2.tt r hr2⟩
    have kp:=ZgR hBm2 bt2 hy2'
    have hB7k:=hB.mono s07
    have al7:∀ c,c∈[k,bi,li,ti,su]∨c∈B.ties.map (·.2.1)->H7 c≠none∧((∃ w,H12 c=some (.dT w))∨∃ w,H12 c=some (.dK w)):=fun c hc=>by
     rcases hc with hc | hc
     ·simp only [List.mem_cons,List.not_mem_nil,or_false] at hc
      rcases hc with rfl | rfl | rfl | rfl | rfl
      ·exact ⟨by rw [hB7k.ke]; simp,.inl ⟨_,hBm2.ke⟩⟩
      ·exact ⟨by rw [hB7k.bi]; simp,.inr ⟨_,hBm2.bi⟩⟩
      ·exact ⟨by rw [hB7k.li]; simp,.inl ⟨_,hBm2.li⟩⟩
      ·exact ⟨by rw [hB7k.ti]; simp,.inl ⟨_,hBm2.ti⟩⟩
      ·exact ⟨by rw [hB7k.su]; simp,.inl ⟨_,hBm2.su⟩⟩
     ·obtain ⟨r,hr2,er⟩:=List.mem_map.mp hc
      rw [← er]
      exact ⟨by rw [hB7k.tt r hr2]; simp,.inr ⟨_,hBm2.tt r hr2⟩⟩
    have hP13:BkAt K T.c_Book H13 b4 dx4 k4 bi4 li4 ti4 su4 B5:=hBp.other (H0:=H7) bt2 (fun c hc=>by
     have m':c∈[k,bi,li,ti,su]∨c=y2:=by
      simp only [List.mem_cons,List.not_mem_nil,or_false] at hc ⊢
      rcases hc with h | h | h | h | h | h <;> simp [h]
     rcases m' with h | h
     ·obtain ⟨a1,a2⟩:=al7 c (.inl h); exact .inr ⟨a2,a1⟩
     ·rcases hy2 with z | z | z
      ·exact .inl (by rw [h]; exact z)
      ·obtain ⟨a1,a2⟩:=al7 c (.inl (by rw [h,z]; simp)); exact .inr ⟨a2,a1⟩
      ·obtain ⟨a1,a2⟩:=al7 c (.inr (by rw [h]; exact z)); exact .inr ⟨a2,a1⟩) m5 ft11
    have g13:Gd (es7 (bs.map (·.1)) (rs.map (·.1))++[.given n0 n1 7 (10 ^ 18)]):=.snoc W.good el tE acG
    have kn13:Known B6 n0:=Zej sb13 g13 W.b7 W.n5 W.bl (fun e he _=>List.mem_append.mpr (.inl (List.mem_append.mpr (.inl he)))) hm0
    have knP:∀ x∈nms,Known B5 x:=fun x hx=>Zej sb11 g11 W.b7 W.n5 W.bl (fun e he h=>List.mem_append.mpr (.inl (Zin d0 e he h))) hx
    have dn:ZjN B6 n0=.non:=Znq sb13.kept (fun e he=>by
     rcases List.mem_append.mp he with he | he
     ·exact W.undead e he
     ·rw [List.mem_singleton.mp he]; rfl) n0
    have dsm:ZjN B5 n0=.int d:=ZmN sb11.kept nd8
    refine ⟨_,rfl,b,dx,_,rfl,hB13.ob,rfl,_,rfl,rfl,.ref b,.str n0,B6,rfl,⟨b,dx,k,bi,li,ti,su,rfl,hB13⟩,.inr ⟨n0,rfl,kn13,fun H14 s14=>?_⟩⟩
    rw [dn]
    refine ⟨rfl,_,rfl,ZaC (by rfl) ?_⟩
    have hP14:=hP13.mono s14
    refine ⟨_,rfl,b4,dx4,_,rfl,hP14.ob,rfl,_,rfl,rfl,.ref b4,.str n0,B5,rfl,⟨b4,dx4,k4,bi4,li4,ti4,su4,rfl,hP14⟩,.inr ⟨n0,rfl,knP n0 hm0,fun H15 s15=>?_⟩⟩
    rw [dsm]
    refine ⟨_,rfl,rfl,_,rfl,ZaC (by show (!decide (V.int d=V.int d))=false; rw [decide_eq_true rfl]; rfl) ?_⟩
    have hP15:=hP14.mono s15
    have kl5:=Zio sb11.kept
    rw [List.length_append] at kl5
    have l1:([Ent.dead n0 d]:List Ent).length=1:=rfl
    refine ⟨_,rfl,b4,dx4,_,rfl,hP15.ob,rfl,rfl,.ref b4,B5,rfl,⟨b4,dx4,k4,bi4,li4,ti4,su4,rfl,hP15⟩,by omega,fun H16 E5 o5 s16 nE5 pm5 so5 hE5=>⟨_,rfl,_,rfl,_,rfl,few rfl,fun t2 nt2=>⟨few rfl,fun L2 nL2=>?_⟩⟩⟩
    have st2:=Zae (o:=.tup [V.str "dead",.str n0,.int d]) nt2
    have sL2:=Zae (o:=.lst [V.ref t2]) nL2
    have s1316:=s14.trans (s15.trans s16)
    have kz:Keeps K H3 H13:=⟨fun a xs e=>kp.lst _ _ (s712 _ _ (s37 _ _ e)),fun a xs e=>kp.sql _ _ (s712.sql (s37.sql e)),fun a xs e=>kp.sqt _ _ (s712.sqt (s37.sqt e)),fun a n=>Zbp s37 (Zbp s712 (kp.al a n))⟩
    have hDz16:=(s1316.trans (st2.trans sL2)) _ _ (kz.lst _ _ hDz)
    have r216:RowsAt K (upd (upd H16 t2 (.tup [V.str "dead",.str n0,.int d])) L2 (.lst [V.ref t2])) o2:=fun p hp=>(s1316.trans (st2.trans sL2)).sqt (kz.sqt _ _ (r2 p hp))
    have ht16:SqT K (upd (upd H16 t2 (.tup [V.str "dead",.str n0,.int d])) L2 (.lst [V.ref t2])) t2 ((Ent.dead n0 d).row.map kV):=.of (sL2 _ _ Zab)
    have hL16:(upd (upd H16 t2 (.tup [V.str "dead",.str n0,.int d])) L2 (.lst [V.ref t2])) L2=some (.lst [V.ref t2]):=Zab
    have hE16:=(st2.trans sL2) _ _ hE5
    have r516:RowsAt K (upd (upd H16 t2 (.tup [V.str "dead",.str n0,.int d])) L2 (.lst [V.ref t2])) o5:=fun p hp=>(s16.trans (st2.trans sL2)).sqt (hP15.en p (pm5.mem_iff.mp hp))
    have s1317:=s1316.trans (st2.trans sL2)
    generalize upd (upd H16 t2 (.tup [V.str "dead",.str n0,.int d])) L2 (.lst [V.ref t2])=H17 at *
    refine ⟨Dz,L2,_,_,rfl,rfl,hDz16,hL16,Nat.le_of_lt (Zao (by rw [ZaY]; show _+1≤1000; omega)),fun P2 nP2=>?_⟩
    have eP2:ZaS o2++[V.ref t2]=ZaS (o2++[((Ent.dead n0 d,t2):Ent × Addr)]):=by unfold ZaS; rw [List.map_append]; rfl
    rw [eP2]
    have sP2:=Zae (o:=.lst (ZaS (o2++[((Ent.dead n0 d,t2):Ent × Addr)]))) nP2
    have rp2:RowsAt K (upd H17 P2 (.lst (ZaS (o2++[((Ent.dead n0 d,t2):Ent × Addr)])))) (o2++[((Ent.dead n0 d,t2):Ent × Addr)]):=fun p hp=>by
     rcases List.mem_append.mp hp with hp | hp
     ·exact sP2.sqt (r216 p hp)
     ·rw [List.mem_singleton.mp hp]; exact sP2.sqt ht16
    refine ⟨P2,(o2++[((Ent.dead n0 d,t2):Ent × Addr)]).map fun p=>(p.2,p.1.row),rfl,.of (by rw [Zab,List.map_map]; rfl),fun p hp=>?rows3,fun D6 out6 nD6 pz6 so6=>?_⟩
    case rows3 =>
     obtain ⟨z,hz,rfl⟩:=List.mem_map.mp hp
     exact ⟨rp2 z hz,⟨_,rfl⟩,Zfi _⟩
    obtain ⟨o6,p6,rfl⟩:=Zca pz6 (o2++[((Ent.dead n0 d,t2):Ent × Addr)]) rfl
    rw [List.map_map] at so6
    have sD6:=Zae (o:=.lst (((o6.map fun p=>(p.2,p.1.row))).map fun p=>V.ref p.1)) nD6
    have hD6:(upd (upd H17 P2 (.lst (ZaS (o2++[((Ent.dead n0 d,t2):Ent × Addr)])))) D6 (.lst (((o6.map fun p=>(p.2,p.1.row))).map fun p=>V.ref p.1))) D6=some (.lst (ZaS o6)):=by rw [Zab,List.map_map]; rfl
    have r6:RowsAt K _ o6:=fun p hp=>sD6.sqt (rp2 p (p6.mem_iff.mp hp))
    have s1718:=sP2.trans sD6
    generalize upd (upd H17 P2 (.lst (ZaS (o2++[((Ent.dead n0 d,t2):Ent × Addr)])))) D6 (.lst (((o6.map fun p=>(p.2,p.1.row))).map fun p=>V.ref p.1))=H18 at *
    have eq6:(o5.map fun p=>p.1.row)=o6.map fun p=>p.1.row:=ZhI (ps:=(bs.filter (ZbO d)++sl)++[(.dead n0 d,t2)]) (by rw [sb11.kept,List.map_append,hps]; rfl) pm5 (p6.trans (p2.append_right _)) so5 so6
    refine ⟨_,_,Zgl (.of (s1718 _ _ hE16)) (r516.mono s1718),Zgl (.of hD6) r6,.inr ⟨_,_,rfl,rfl⟩,Nat.le_trans (Nat.succ_le_succ (Zik _)) (by decide),_,rfl,?_⟩
    show if Zfn _ _=true then _ else _
    rw [eq6,Zil]
    have s1318:=s1317.trans s1718
    have hP18:=hP13.mono s1318
    refine Zda ⟨_,rfl,b4,dx4,_,rfl,hP18.ob,rfl,_,rfl,_,rfl,rfl,.ref b4,n0,n1,B5,rfl,⟨b4,dx4,k4,bi4,li4,ti4,su4,rfl,hP18⟩,knP n0 hm0,knP n1 hm1,fun H19 s19=>?_⟩
    have s1719:=s1718.trans s19
    refine ⟨_,rfl,_,rfl,_,rfl,rfl,Dz,o2,n0,n1,rfl,.of (s1719 _ _ hDz16),r216.mono s1719,by omega,fun H20 s20=>⟨rfl,?_⟩⟩
    rw [sb11.sus,Zlq,ZnP (p2.map (·.1)),hps]
    show Q (.bl (decide (V.int (ZfH (n0,n1) _+0)=V.int (ZfH (n0,n1) _)))) _
    rw [Int.add_zero,decide_eq_true rfl]
    have sZZ:=s1318.trans (s19.trans s20)
    exact q H20 B6 n0 n1 (hB13.mono sZZ) sb13 hn0 hn1 ⟨fun a xs e=>sZZ _ _ (kp.lst _ _ (s712 _ _ (s07 _ _ e))),fun a xs e=>sZZ.sql (kp.sql _ _ (s712.sql (s07.sql e))),fun a xs e=>sZZ.sqt (kp.sqt _ _ (s712.sqt (s07.sqt e))),fun a n=>Zbp s07 (Zbp s712 (kp.al a (Zbp sZZ n)))⟩
theorem ZqY (T:Tx K w mg) (Zbq:ZcQ P base T) (Zbs:Zem P base T) (Zbu:Zdu P base T) (Zbk:Zc3 P base T) (ZdO:ZfW P base T) (Zbz:Zen P base T) (Zdy:Zfc P base T) (Zbw:Zds P base T) (ZeK:Zha P base T) (ZdT:Zf2 P base T) (Zd0:ZfY P base T) (Zec:ZfV P base T):ZrP P base T:=by
 refine Fun.okX (k:=8) T.ZkZ.F Zd8 (fun vs H Q E h=>h.1) (fun cdv A outer s H vs Q E hr h=>?_)
 obtain ⟨-,h⟩:=h
 obtain ⟨l,ns,rfl,hl,hlen,q⟩:=h
 refine ⟨_, (Zaf (ZaN (i := 1) Zd8.nd rfl (Or.inl rfl) (Zar ZdO (hr.mono (by decide)) (by rfl) T.ZbK.m T.ZbK.F.kp T.ZbK.b .nil Zah (Zaa (Zar Zbk (hr.mono (by decide)) (by rfl) T.ZaD.m T.ZaD.F.kp T.ZaD.b .nil Zah (Zaa (pv 0) (Zaa Zac Zad))) (Zaa (ZaB Zcy Zac (ZaB ZbJ (Zar Zbk (hr.mono (by decide)) (by rfl) T.ZaD.m T.ZaD.F.kp T.ZaD.b .nil Zah (Zaa (pv 0) (Zaa Zac Zad))) Zac)) Zad))))
   (Zaf (ZaN (i:=2) Zd8.nd rfl (Or.inl rfl) (Zar Zdy (hr.mono (by decide)) (by rfl) T.Zbv.m T.Zbv.F.kp T.Zbv.b .nil Zah (Zaa (pv 0) (Zaa (pv 1) Zad))))
   (Zaf (ZaN (i:=3) Zd8.nd rfl (Or.inl rfl) (Zch Zad))
   (Zaf (ZaN (i:=4) Zd8.nd rfl (Or.inl rfl) (ZjR T.mk_Book Zbq (hr.mono (by decide)) (by rfl) T.m_Book T.Zbc.b .nil Zah))
   (Zaf (ZdV PassesOwn.leaving rfl (ZcS (pv 2)) (ZaM (i:=5) Zd8.nd rfl (Or.inl rfl))
    (Zaj (Za3 (Zau (pv 4) T.cl_Book T.Za2.me Zbs (hr.mono (by decide)) T.Za2.b .nil Zah (Zaa (pv 5) Zad)))))
   (Zaf (ZaN (i:=6) Zd8.nd rfl (Or.inl rfl) Zac)
   (Zaf (ZdV PassesOwn.leaving rfl (ZcS (Zcf Zqs (pv 0) (ZbV Zac) (ZbV Zac))) (ZaM (i:=7) Zd8.nd rfl (Or.inl rfl))
    (Zaf (ZaN (i:=8) Zd8.nd rfl (Or.inl rfl) (Zar ZdT (hr.mono (by decide)) (by rfl) T.ZbG.m T.ZbG.F.kp T.ZbG.b .nil Zah (Zaa (pv 1) (Zaa (pv 7) Zad))))
   (Zaf (Za9 (ZcD (Zar ZeK (hr.mono (by decide)) (by rfl) T.Zb7.m T.Zb7.F.kp T.Zb7.b .nil Zah (Zaa (pv 3) (Zaa (pv 8) Zad)))) (Zaf (Za3 (Zau (pv 4) T.cl_Book T.Za2.me Zbs (hr.mono (by decide)) T.Za2.b .nil Zah (Zaa (pv 8) Zad)))
   (Zaj (Za3 (Zqa PySem.F.plainAttrs_list PySem.F.slot_list_append PySem.F.type_list_append Ze6 (pv 3) (Zaa (pv 8) Zad))))) Zay)
   (Zaf (ZaN (i:=6) Zd8.nd rfl (Or.inl rfl) (Zar Zbz (hr.mono (by decide)) (by rfl) T.ZaQ.m T.ZaQ.F.kp T.ZaQ.b .nil Zah (Zaa (ZaB ZbC (pv 7) Zac) Zad)))
   (Zaj (Za9 (Zdf (ZcD (Zar Zd0 (hr.mono (by decide)) (by rfl) T.ZbF.m T.ZbF.F.kp T.ZbF.b .nil Zah (Zaa (pv 4) (Zaa (pv 3) (Zaa (pv 1) (Zaa (pv 7) Zad))))))) (Zaj (Zax Zep)) Zay))))))
   (Zaf (Za9 (Zdf (ZcD (Zar Zec (hr.mono (by decide)) (by rfl) T.ZbH.m T.ZbH.F.kp T.ZbH.b .nil Zah (Zaa (pv 4) (Zaa (pv 2) (Zaa (pv 3) (Zaa (pv 6) Zad))))))) (Zaj (Zax Zep)) Zay)
   (Zaf (ZaN (i:=9) Zd8.nd rfl (Or.inl rfl) (Zch (Zaa (Zaq Zan (Zaq Zbb (pv 2) Zac (fun _ _=>rfl)) Zac (fun _ _=>rfl)) (Zaa (Zaq Zan (Zaq Zbb (pv 2) Zac (fun _ _=>rfl)) Zac (fun _ _=>rfl)) Zad))))
   (Zaj (Zax (Zbj ZbZ (Zau (pv 4) T.cl_Book T.Zbi.me Zbu (hr.mono (by decide)) T.Zbi.b .nil Zah (Zaa (Zaq Zbb (pv 9) Zac (fun _ _=>rfl)) (Zaa (Zaq Zbb (pv 9) Zac (fun _ _=>rfl)) Zad))) (ZaB Zcy Zac (Zar Zbw (hr.mono (by decide)) (by rfl) T.ZaT.m T.ZaT.F.kp T.ZaT.b .nil Zah (Zaa (pv 3) (Zaa (Zaq Zbb (pv 9) Zac (fun _ _=>rfl)) (Zaa (Zaq Zbb (pv 9) Zac (fun _ _=>rfl)) Zad))))) (Zaw _))))))))))))),?_⟩
 have zd:∀ n:Int,1≤n->n≤1000->n≠0∧n.natAbs<2 ^ 1000:=fun n h1 h2=>⟨by omega,Nat.lt_of_le_of_lt (show n.natAbs≤1000 by omega) (by decide +kernel)⟩
 refine ⟨_,rfl,rfl,l,ns,0,rfl,hl,by decide,fun z0=>⟨_,rfl,rfl,l,ns,1,rfl,hl,by decide,fun z1=>?_⟩⟩
 have m0:=Int.fmod_nonneg_of_pos z1 (show (0:Int)<4 by decide)
 have m1:=Int.fmod_lt_of_pos z1 (show (0:Int)<4 by decide)
 refine ⟨_,_,rfl,rfl,(by decide:(4:Int)≠0),_,_,rfl,rfl,rfl,z0,2+z1.fmod 4,rfl,by omega,by omega,fun H1 D nms s1 hDn nlen nnm nnd=>?_⟩
 have n2:2≤nms.length:=by omega
 have n5:nms.length≤5:=by omega
 refine ⟨_,rfl,_,rfl,rfl,l,ns,D,nms,rfl,s1.sql hl,.of hDn,n5,fun H2 Db bs s2 nDb hDb hRb b7 blen=>?_⟩
 have gb:Gd (bs.map (·.1)):=Zhw b7 nnm nnd n5 (by rw [List.length_map]; omega)
 have bl5:bs.length≤5:=by omega
 refine ⟨few rfl,fun R nR=>?_⟩
 have sR:=Zae (o:=.lst []) nR
 have hR3:(upd H2 R (.lst [])) R=some (.lst []):=Zab
 generalize upd H2 R (.lst [])=H3 at *
 refine fun b dx nb ndx nn=>⟨rfl,b,dx,rfl,Zab,fun H4 k bi li ti su hB4 keep nk nbi nli nti nsu=>⟨rfl,?_⟩⟩
 have s4:Same H3 H4:=fun c o e=>keep c o (by rw [Zak (Zat e nb),Zak (Zat e ndx)]; exact e) (Zat e nb)
 have s24:=sR.trans s4
 have hDb4:=s24 _ _ hDb
 have hD4:=s24 _ _ (s2 _ _ hDn)
 have hR4:=s4 _ _ hR3
 have rb4:=hRb.mono s24
 have hl4:=(s1.trans (s2.trans s24)).sql hl
 have DR:D≠R:=fun z=>by have e:=s2 _ _ hDn; rw [z,nR] at e; cases e
 have DbR:Db≠R:=fun z=>by rw [z,nR] at hDb; cases hDb
 refine ⟨_,rfl,Db,rfl,⟨_,.of hDb4⟩,Zfh (xs:=ZaS bs) (fun i σ Hc=>∃ (B:Bk) (v5:Option V),σ=[some (.ref l),some (.ref D),some (.ref Db),some (.ref R),some (.ref b),v5,none,none,none,none]∧BkAt K T.c_Book Hc b dx k bi li ti su B∧SB B ((bs.take i).map (·.1))∧Keeps K H4 Hc∧∀ q∈B.links,q.2.1≠R) ?start ?list ?turn ?done⟩
 case start=>exact ⟨bk0,none,rfl,hB4,SB.start,Keeps.of (Same.refl H4),fun r hr=>(by cases hr)⟩
 case list =>
  rintro i σ Hc _ ⟨B,v5,rfl,_,_,kp,_⟩
  exact .of (kp.lst _ _ hDb4)
 case turn =>
  rintro i y σ Hc hy ⟨B,v5,rfl,hB,sb,kp,lo⟩
  obtain ⟨p,hp,rfl⟩:=ZeR hy
  have pm:=List.mem_of_getElem? hp
  have gt:=gb.take (i+1)
  rw [← List.map_take] at gt
  obtain ⟨g0,l70,t60,acc⟩:=gt.last (Zi1 hp)
  refine ⟨_,rfl,b,dx,_,rfl,hB.ob,rfl,_,rfl,rfl,b,dx,k,bi,li,ti,su,B,.ref p.2,p.1,rfl,hB,⟨p.2,rfl,kp.sqt _ _ (rb4 p pm)⟩,acc.ok,acc.bare,ZgT sb g0 l70 acc,sb.room l70 t60,fun H6 B' y hB6 hput bt hy6 gr _=>?_⟩
  have kp6:=ZgR hB bt (ZpT hB hy6)
  have sb6:=sb.put g0 hput (by rw [acc.told]; exact acc)
  rw [acc.told,← Zi1 hp] at sb6
  exact ⟨B',_,rfl,hB6,sb6,⟨fun a xs e=>kp6.lst _ _ (kp.lst _ _ e),fun a xs e=>kp6.sql _ _ (kp.sql _ _ e),fun a xs e=>kp6.sqt _ _ (kp.sqt _ _ e),fun a n=>kp.al a (kp6.al a n)⟩,ZlD gr lo (by rw [kp.lst _ _ hR4]; simp)⟩
 case done =>
  rintro σ H5 ⟨B,v5,rfl,hB5,sb5,kp5,lo5⟩
  rw [ZaY,List.take_length] at sb5
  have w5:W7 nms (bs.map (·.1)) ([]:List Ent):=⟨nnm,nnd,n2,n5,by rw [List.length_map]; exact blen,b7,fun e he=>(by cases he),.nil,Nat.zero_le _⟩
  obtain ⟨cs,ecs,clen⟩:=Zn6 ns 2 62
  refine ⟨_,rfl,_,rfl,_,rfl,l,_,rfl,kp5.sql _ _ hl4,fun lc nlc=>?_⟩
  rw [show Zi6 (List.map V.int ns) (some 2) (some 62)=cs.map V.int from ecs]
  have sC:=Zae (o:=.lst (cs.map V.int)) nlc
  have hlc:(upd H5 lc (.lst (cs.map V.int))) lc=some (.lst (cs.map V.int)):=Zab
  have lcR:lc≠R:=fun z=>by have e:=kp5.lst _ _ hR4; rw [← z,nlc] at e; cases e
  have hB6:=hB5.mono sC
  have hD6:=sC _ _ (kp5.lst _ _ hD4)
  have hDb6:=sC _ _ (kp5.lst _ _ hDb4)
  have hR6:=sC _ _ (kp5.lst _ _ hR4)
  have rb6:RowsAt K (upd H5 lc (.lst (cs.map V.int))) bs:=fun p hp=>sC.sqt (kp5.sqt _ _ (rb4 p hp))
  generalize upd H5 lc (.lst (cs.map V.int))=H6 at *
  refine ⟨lc,rfl,⟨_,.of hlc⟩,Zfh (xs:=cs.map V.int) (fun i σ Hc=>∃ (B:Bk) (rs:List (Ent × Addr)) (v5 v7 v8:Option V) (dy:Int),σ=[some (.ref l),some (.ref D),some (.ref Db),some (.ref R),some (.ref b),v5,some (.int dy),v7,v8,none]∧BkAt K T.c_Book Hc b dx k bi li ti su B∧SB B (es7 (bs.map (·.1)) (rs.map (·.1)))∧W7 nms (bs.map (·.1)) (rs.map (·.1))∧rs.length≤i∧Hc R=some (.lst (ZaS rs))∧RowsAt K Hc rs∧(Hc D=some (.lst (nms.map V.str))∧Hc Db=some (.lst (ZaS bs))∧RowsAt K Hc bs∧Hc lc=some (.lst (cs.map V.int)))∧(∀ q∈B.links,q.2.1≠R)∧-9*10 ^ 17≤dy∧dy≤9*10 ^ 17) ?start2 ?list2 ?turn2 ?done2⟩
  case start2=>exact ⟨B,[],_,_,_,0,rfl,hB6,by show SB B (bs.map (·.1)++[]); rw [List.append_nil]; exact sb5,w5,Nat.le_refl _,hR6,fun p hp=>(by cases hp),⟨hD6,hDb6,rb6,hlc⟩,lo5,by decide,by decide⟩
  case list2 =>
   rintro i σ Hc _ ⟨B,rs,v5,v7,v8,dy,rfl,_,_,_,_,_,_,⟨_,_,_,h⟩,_⟩
   exact .of h
  case turn2 =>
   rintro i y σ Hc hy ⟨B,rs,v5,v7,v8,dy,rfl,hB,sb,W,rl,hRc,rr,⟨hDc,hDbc,rbc,hlcc⟩,lo,y0,y1⟩
   obtain ⟨c,rfl,hc⟩:=ZqC hy
   have il:i<cs.length:=(List.getElem?_eq_some_iff.mp hc).1
   have rl60:rs.length<60:=by omega
   refine ⟨_,rfl,_,rfl,rfl,D,nms,c,rfl,.of hDc,n2,nnd,fun H7 t e s7 nt ht d7=>?_⟩
   have tw:∀ p∈rs,p.1.two=true:=fun p hp=>(W.r7 p.1 (List.mem_map.mpr ⟨p,hp,rfl⟩)).two
   dsimp only [Zkj]
   refine Zer (fun σ' H'=>∃ (B:Bk) (rs:List (Ent × Addr)),σ'=[some (.ref l),some (.ref D),some (.ref Db),some (.ref R),some (.ref b),v5,some (.int dy),some (.int c),some (.ref t),none]∧BkAt K T.c_Book H' b dx k bi li ti su B∧SB B (es7 (bs.map (·.1)) (rs.map (·.1)))∧W7 nms (bs.map (·.1)) (rs.map (·.1))∧rs.length≤i+1∧H' R=some (.lst (ZaS rs))∧RowsAt K H' rs∧(H' D=some (.lst (nms.map V.str))∧H' Db=some (.lst (ZaS bs))∧RowsAt K H' bs∧H' lc=some (.lst (cs.map V.int)))∧(∀ q∈B.links,q.2.1≠R)) (fun nx hnx=>?_) ?_
   ·refine ⟨_,rfl,_,rfl,rfl,R,rs,t,e,rfl,.of (s7 _ _ hRc),rr.mono s7,tw,.of ht,d7.two,fun H8 s8 dup=>⟨_,rfl,ZaC rfl ?_⟩,fun H8 s8 fresh=>⟨_,rfl,Zbo rfl ?_⟩⟩
    ·have s78:=s7.trans s8
     exact hnx _ _ ⟨B,rs,rfl,hB.mono s78,sb,W,by omega,s78 _ _ hRc,rr.mono s78,⟨s78 _ _ hDc,s78 _ _ hDbc,rbc.mono s78,s78 _ _ hlcc⟩,lo⟩
    ·have s78:=s7.trans s8
     have hB8:=hB.mono s78
     have fr:∀ x∈rs.map (·.1),x.told.key≠e.told.key:=fun x hx=>by
      obtain ⟨p,hp,rfl⟩:=List.mem_map.mp hx
      exact fresh p hp
     have acc:=Zqh W d7 fr
     have el:(es7 (bs.map (·.1)) (rs.map (·.1))).length≤70:=by unfold es7; rw [List.length_append,List.length_map,List.length_map,List.length_map]; omega
     have tE:((es7 (bs.map (·.1)) (rs.map (·.1))).filter Ent.tie).length≤60:=by have:=Zfl W (10 ^ 18); rwa [(Zgj W).1] at this
     have rf:Zjd B e=none:=by rw [← Zm8 d7.two]; exact ZgT sb W.good el acc
     refine ⟨_,rfl,b,dx,_,rfl,hB8.ob,rfl,_,rfl,rfl,b,dx,k,bi,li,ti,su,B,.ref t,e,rfl,hB8,⟨t,rfl,.of (s8 _ _ ht)⟩,(d7.ok nnm).1,ZoI d7.two,rf,sb.room el tE,fun H9 B' y hB9 hput bt hy9 gr _=>?_⟩
     have kp:=ZgR hB8 bt (ZpT hB8 hy9)
     have sb9:=sb.put W.good hput acc
     rw [← Zpq] at sb9
     have hR9:=kp.lst _ _ (s78 _ _ hRc)
     have rrl:(ZaS rs).length=rs.length:=ZaY rs
     refine ⟨_,rfl,.inl ⟨rfl,_,.of hR9⟩,_,rfl,R,_,_,rfl,rfl,hR9,Zao (by omega),?_⟩
     have er:ZaS rs++[V.ref t]=ZaS (rs++[(e,t)]):=by unfold ZaS; rw [List.map_append]; rfl
     rw [er]
     have lo9:=ZlD gr lo (by rw [s78 _ _ hRc]; simp)
     have ht9:=kp.sqt t _ (.of (s8 _ _ ht))
     refine hnx _ _ ⟨B',rs++[(e,t)],rfl,hB9.off hR9 lo9,by rw [List.map_append]; exact sb9,by rw [List.map_append]; exact W.snoc d7 fr (by rw [List.length_map]; exact rl60),by rw [List.length_append]; exact Nat.succ_le_succ rl,Zab,RowsAt.put (fun p hp=>?_) hR9,⟨(Zak DR).trans (kp.lst _ _ (s78 _ _ hDc)),(Zak DbR).trans (kp.lst _ _ (s78 _ _ hDbc)),RowsAt.put (fun p hp=>kp.sqt _ _ (s78.sqt (rbc p hp))) hR9,(Zak lcR).trans (kp.lst _ _ (s78 _ _ hlcc))⟩,lo9⟩
     rcases List.mem_append.mp hp with hp | hp
     ·exact kp.sqt _ _ (s78.sqt (rr p hp))
     ·rw [List.mem_singleton.mp hp]; exact ht9
   rintro σ' H8 ⟨B8,rs8,rfl,hB8,sb8,W8,rl8,hR8,rr8,⟨hD8,hDb8,rb8,hlc8⟩,lo8⟩
   refine ⟨_,rfl,_,_,rfl,rfl,zd 5 (by decide) (by decide),rfl,_,rfl,fun H9 dy9 s9 u0 u1=>?_⟩
   refine ⟨_,rfl,_,rfl,_,rfl,_,rfl,rfl,b,dx,k,bi,li,ti,su,B8,R,rs8,D,nms,bs.map (·.1),c,rfl,hB8.mono s9,sb8,W8,.of (s9 _ _ hR8),rr8.mono s9,.of (s9 _ _ hD8),fun H10 s10=>⟨_,rfl,ZaC rfl ?_⟩⟩
   have sZ:=s9.trans s10
   exact ⟨B8,rs8,_,_,_,dy9,rfl,hB8.mono sZ,sb8,W8,rl8,sZ _ _ hR8,rr8.mono sZ,⟨sZ _ _ hD8,sZ _ _ hDb8,rb8.mono sZ,sZ _ _ hlc8⟩,lo8,u0,u1⟩
  case done2 =>
   rintro σ Hc ⟨B,rs,v5,v7,v8,dy,rfl,hB,sb,W,rl,hRc,rr,⟨hDc,hDbc,rbc,hlcc⟩,lo,y0,y1⟩
   refine ⟨_,rfl,_,rfl,_,rfl,_,rfl,rfl,b,dx,k,bi,li,ti,su,B,R,rs,Db,bs,nms,dy,rfl,hB,sb,W,.of hRc,rr,.of hDbc,rbc,y0,y1,fun H7 B7 n0 n1 hB7 sb7 hn0 hn1 kp=>⟨_,rfl,ZaC rfl ?_⟩⟩
   have nth:∀ i:Nat,i<2->∃ p n s dd,p∈bs∧p.1=.born n s dd "" ""∧nms[i]?=some n∧atI (ZaS bs) (i:Int)=some (.ref p.2)∧SqT K H7 p.2 ((Ent.born n s dd "" "").row.map kV):=fun i hi=>by
    have il:i<bs.length:=by omega
    obtain ⟨n,s,dd,h1,h2,_⟩:=b7 i bs[i].1 (by rw [List.getElem?_map,List.getElem?_eq_getElem il]; rfl)
    refine ⟨bs[i],n,s,dd,List.getElem_mem il,h2,h1,Zc4 (by unfold ZaS; rw [List.getElem?_map,List.getElem?_eq_getElem il]; rfl),?_⟩
    rw [← h2]
    exact kp.sqt _ _ (rbc _ (List.getElem_mem il))
   obtain ⟨p0,m0',sx0,x0,pm0,ep0,hm0,at0,row0⟩:=nth 0 (by decide)
   obtain ⟨p1,m1',sx1,x1,pm1,ep1,hm1,at1,row1⟩:=nth 1 (by decide)
   cases hn0.symm.trans hm0
   cases hn1.symm.trans hm1
   have i0:=List.mem_of_getElem? hn0
   have i1:=List.mem_of_getElem? hn1
   have hne:n0≠n1:=Zgh nnd hn0 hn1 (by decide)
   have el:(es7 (bs.map (·.1)) (rs.map (·.1))).length≤70:=by unfold es7; rw [List.length_append,List.length_map,List.length_map,List.length_map]; have:=W.rl; rw [List.length_map] at this; omega
   have tE:((es7 (bs.map (·.1)) (rs.map (·.1))).filter Ent.tie).length≤60:=by have:=Zfl W (10 ^ 18); rwa [(Zgj W).1] at this
   have g7:Gd (es7 (bs.map (·.1)) (rs.map (·.1))++[.given n0 n1 7 (10 ^ 18)]):=.snoc W.good el tE (Zly W i0 i1 hne)
   have kn:∀ x∈nms,Known B7 x:=fun x hx=>Zej sb7 g7 W.b7 W.n5 W.bl (fun e he _=>List.mem_append.mpr (.inl (List.mem_append.mpr (.inl he)))) hx
   have hDb7:SqL K H7 Db (ZaS bs):=.of (kp.lst _ _ hDbc)
   refine ⟨_,rfl,Db,_,_,_,rfl,rfl,hDb7,at0,p0.2,_,_,_,rfl,rfl,row0,Zag (j:=1) rfl,_,rfl,Db,_,_,_,rfl,rfl,hDb7,at1,p1.2,_,_,_,rfl,rfl,row1,Zag (j:=1) rfl,few rfl,fun L nL=>?_⟩
   dsimp only [kV]
   have sL:=Zae (o:=.lst [V.str n0,.str n1]) nL
   have hL:(upd H7 L (.lst [V.str n0,.str n1])) L=some (.lst [V.str n0,.str n1]):=Zab
   have hB8:=hB7.mono sL
   generalize upd H7 L (.lst [V.str n0,.str n1])=H8 at *
   refine ⟨_,rfl,b,dx,_,rfl,hB8.ob,rfl,_,rfl,L,_,_,_,rfl,rfl,.of hL,Zag (j:=0) rfl,_,rfl,L,_,_,_,rfl,rfl,.of hL,Zag (j:=1) rfl,rfl,.ref b,n0,n1,B7,rfl,⟨b,dx,k,bi,li,ti,su,rfl,hB8⟩,kn n0 i0,kn n1 i1,fun H9 s9=>?_⟩
   have hL9:=s9 _ _ hL
   refine ⟨_,rfl,_,rfl,L,_,_,_,rfl,rfl,.of hL9,Zag (j:=0) rfl,_,rfl,L,_,_,_,rfl,rfl,.of hL9,Zag (j:=1) rfl,rfl,R,rs,n0,n1,rfl,.of (s9 _ _ (sL _ _ (kp.lst _ _ hRc))),fun p hp=>(sL.trans s9).sqt (kp.sqt _ _ (rr p hp)),by have:=W.rl; rw [List.length_map] at this; omega,fun H10 s10=>⟨_,_,rfl,rfl,rfl,?_⟩⟩
   rw [sb7.sus,Zlq,ZpI W]
   show Q (.bl (decide (V.int (ZfH (n0,n1) (rs.map (·.1))+((if (n0,n1)=(n0,n1) then 7 else 0)+0))=V.int (7+ZfH (n0,n1) (rs.map (·.1)))))) _
   rw [if_pos rfl,decide_eq_true (by congr 1; omega)]
   exact q _
end
theorem Zq9 {P:Program} {w:World} {K:W.Frag} {mg:Str->Option Value} {base:Heap} (T:Tx K w mg):ZrP P base T:=by
 have ZcJ:=ZkS (P:=P) (w:=w) (base:=base) T
 have Zdh:=Zl4 (P:=P) (w:=w) (base:=base) T
 have ZiC:=Znp (P:=P) (w:=w) (base:=base) T ZcJ
 have ZeM:=Zko (P:=P) (w:=w) (base:=base) T ZcJ
 have ZgP:=Zmi (P:=P) (w:=w) (base:=base) T
 have ZeG:=Zjy (P:=P) (w:=w) (base:=base) T Zdh
 have ZfF:=ZkU (P:=P) (w:=w) (base:=base) T Zdh ZiC ZeM ZgP ZeG
 have Zfq:=ZkN (P:=P) (w:=w) (base:=base) T ZfF
 have Zei:=Zos (P:=P) (w:=w) (base:=base) T
 have ZcI:=Zlc (P:=P) (w:=w) (base:=base) T
 have Zeh:=ZnG (P:=P) (w:=w) (base:=base) T
 have Zdb:=Zmb (P:=P) (w:=w) (base:=base) T Zei
 have Zed:=Zns (P:=P) (w:=w) (base:=base) T Zdb
 have ZeL:=ZjJ (P:=P) (w:=w) (base:=base) T
 have Zdi:=Zl6 (P:=P) (w:=w) (base:=base) T
 have Zbq:=Zgd (P:=P) (w:=w) (base:=base) T
 have Zam:=Zf8 (P:=P) (w:=w) (base:=base) T
 have Zc9:=Zhk (P:=P) (w:=w) (base:=base) T Zam
 have Za7:=Zg0 (P:=P) (w:=w) (base:=base) T Zam
 have ZbE:=ZeS (P:=P) (w:=w) (base:=base) T Zc9 Za7
 have ZeF:=Zkn (P:=P) (w:=w) (base:=base) T ZcI Zeh Za7 ZbE
 have Zdw:=ZhF (P:=P) (w:=w) (base:=base) T Zfq ZcI Zed Zam ZeF
 have ZaU:=Zjf (P:=P) (w:=w) (base:=base) T
 have Zcl:=Zfj (P:=P) (w:=w) (base:=base) T ZaU
 have ZeQ:=Zjn (P:=P) (w:=w) (base:=base) T ZeL Zam
 have Zbe:=Zhz (P:=P) (w:=w) (base:=base) T Zdi Zam
 have ZcR:=Zgf (P:=P) (w:=w) (base:=base) T Zdi ZaU ZeQ Zbe
 have Zbs:=ZkT (P:=P) (w:=w) (base:=base) T Zei Zdb Zed Zdw ZaU Zcl ZcR
 have Zcv:=Zhe (P:=P) (w:=w) (base:=base) T
 have Zcs:=ZgJ (P:=P) (w:=w) (base:=base) T Zam
 have Zbu:=Zj1 (P:=P) (w:=w) (base:=base) T Zam
 have ZbL:=ZiQ (P:=P) (w:=w) (base:=base) T Zeh Zbq Zbs
 have Zbk:=Zgx (P:=P) (w:=w) (base:=base) T
 have ZdN:=Zic (P:=P) (w:=w) (base:=base) T
 have ZdO:=ZiD (P:=P) (w:=w) (base:=base) T
 have Zb9:=Zks (P:=P) (w:=w) (base:=base) T
 have Zbz:=Zk3 (P:=P) (w:=w) (base:=base) T
 have Zdy:=Zhy (P:=P) (w:=w) (base:=base) T Zbk
 have Zcp:=Zjr (P:=P) (w:=w) (base:=base) T Zb9
 have Zdl:=Zjw (P:=P) (w:=w) (base:=base) T
 have Zbw:=ZjD (P:=P) (w:=w) (base:=base) T
 have ZeK:=Zjv (P:=P) (w:=w) (base:=base) T
 have ZdT:=Zi7 (P:=P) (w:=w) (base:=base) T Zb9 Zbz Zcp
 have Zcz:=ZiG (P:=P) (w:=w) (base:=base) T
 have Zd0:=ZiZ (P:=P) (w:=w) (base:=base) T Zbe Zbu ZbL ZdN Zbz Zcp Zdl Zbw Zcz
 have Zd2:=ZiI (P:=P) (w:=w) (base:=base) T
 have Zec:=Zia (P:=P) (w:=w) (base:=base) T Zbs Zcv Zcs Zbu ZbL Zbw Zd2
 have Zr0:=ZqY (P:=P) (w:=w) (base:=base) T Zbq Zbs Zbu Zbk ZdO Zbz Zdy Zbw ZeK ZdT Zd0 Zec
 exact Zr0
theorem Zrx {K:W.Frag} {w:World} {mg:Str->Option Value} (T:Tx K w mg) {vs:List V} {H:Hp} {Q:VK} {E:XK} (h:Zo3 K vs H Q E):ZpN T vs H Q E:=by
 obtain ⟨a,ns,rfl,r⟩:=h
 exact ⟨rfl,a,ns,rfl,r⟩
theorem all_mk {l : W.OpenLaw} {w : World} {K : W.Frag} {h : Heap} {mg : Str → Option Value} {fa : Addr} (X : K.In h) (G : h.Ns mainGlobals mg) (hfa : mg "law"=some (.ref fa))
  {OC_Book:Addr}
  {f0:Addr}
  {f1:Addr}
  {f2:Addr}
  {f3:Addr}
  {f4:Addr}
  {f5:Addr}
  {f6:Addr}
  {f7:Addr}
  {f8:Addr}
  {f9:Addr}
  {f10:Addr}
  {f11:Addr}
  {f12:Addr}
  {f13:Addr}
  {f14:Addr}
  {f15:Addr}
  {f16:Addr}
  {f17:Addr}
  {f18:Addr}
  {f19:Addr}
  {f20:Addr}
  {f21:Addr}
  {f22:Addr}
  {f23:Addr}
  {f24:Addr}
  {f25:Addr}
  {od25 an25:Option Addr} {sl25:Array (Option Value)} {oc25 kV25 dc25 pm25 cd25 ct25:Value}
  {DT25:Addr} {odD25:Option Addr} {nD25:Nat} {slD25:Array (Option Value)}
  {f26:Addr}
  {f27:Addr}
  {f28:Addr}
  {f29:Addr}
  {f30:Addr}
  {f31:Addr}
  {f32:Addr}
  {f33:Addr}
  {f34:Addr}
  {f35:Addr}
  {f36:Addr}
  {f37:Addr}
  {f38:Addr}
  {f39:Addr}
  {f40:Addr}
  {f41:Addr}
  {f42:Addr}
  {f43:Addr}
  {f44:Addr}
  {f45:Addr}
  {f46:Addr}
  {f47:Addr}
  {C0:Addr}
  {C1:Addr}
  {C2:Addr}
  {C3:Addr}
  {C4:Addr}
  {C5:Addr}
  {C6:Addr}
  {F0:Addr} {odF:Option Addr} {nF:Nat} {slF:Array (Option Value)} {tL:Tok}
  {P0 G0:Addr} {tp0:Tok} {odp0 odg0:Option Addr} {np0 ng0:Nat} {slp0 slg0:Array (Option Value)}
  {P1 G1:Addr} {tp1:Tok} {odp1 odg1:Option Addr} {np1 ng1:Nat} {slp1 slg1:Array (Option Value)}
  {P2 G2:Addr} {tp2:Tok} {odp2 odg2:Option Addr} {np2 ng2:Nat} {slp2 slg2:Array (Option Value)}
  {P3 G3:Addr} {tp3:Tok} {odp3 odg3:Option Addr} {np3 ng3:Nat} {slp3 slg3:Array (Option Value)}
  {P4 G4:Addr} {tp4:Tok} {odp4 odg4:Option Addr} {np4 ng4:Nat} {slp4 slg4:Array (Option Value)}
  {P5 G5:Addr} {tp5:Tok} {odp5 odg5:Option Addr} {np5 ng5:Nat} {slp5 slg5:Array (Option Value)}
  {KT0:Addr} {odT0:Option Addr} {nT0:Nat} {slT0:Array (Option Value)} {tt0_0:Tok} {tt0_1:Tok} {tt0_2:Tok} {tt0_3:Tok} {tt0_4:Tok} {tt0_5:Tok} {tt0_6:Tok}
  {ti0:Tok}
  {ti1:Tok}
  (ao0:W.nsIn K mainGlobals "Book"=some (some (.ref OC_Book)))
  (a0:W.nsIn K mainGlobals "is_whole"=some (some (.ref f0)))
  (l0:DefIn K "is_whole" "is_whole" Zfx f0)
  (a1:W.nsIn K mainGlobals "is_name"=some (some (.ref f1)))
  (l1:DefIn K "is_name" "is_name" Zgz f1)
  (a2:W.nsIn K mainGlobals "is_day"=some (some (.ref f2)))
  (l2:DefIn K "is_day" "is_day" ZiV f2)
  (a3:W.nsIn K mainGlobals "is_amount"=some (some (.ref f3)))
  (l3:DefIn K "is_amount" "is_amount" ZeD f3)
  (a4:W.nsIn K mainGlobals "is_sort"=some (some (.ref f4)))
  (l4:DefIn K "is_sort" "is_sort" ZgE f4)
  (a5:W.nsIn K mainGlobals "is_parent"=some (some (.ref f5)))
  (l5:DefIn K "is_parent" "is_parent" Zey f5)
  (a6:W.nsIn K mainGlobals "has_form"=some (some (.ref f6)))
  (l6:DefIn K "has_form" "has_form" ZfC f6)
  (a7:W.nsIn K mainGlobals "is_entry"=some (some (.ref f7)))
  (l7:DefIn K "is_entry" "is_entry" Zfp f7)
  (a8:W.nsIn K mainGlobals "is_tie"=some (some (.ref f8)))
  (l8:DefIn K "is_tie" "is_tie" Zih f8)
  (a9:W.nsIn K mainGlobals "named_in"=some (some (.ref f9)))
  (l9:DefIn K "named_in" "named_in" Zfs f9)
  (a10:W.nsIn K mainGlobals "day_of"=some (some (.ref f10)))
  (l10:DefIn K "day_of" "day_of" Zix f10)
  (a11:W.nsIn K mainGlobals "as_told"=some (some (.ref f11)))
  (l11:DefIn K "as_told" "as_told" Zg8 f11)
  (a12:W.nsIn K mainGlobals "key_of"=some (some (.ref f12)))
  (l12:DefIn K "key_of" "key_of" ZiH f12)
  (a13:W.nsIn K mainGlobals "is_letter"=some (some (.ref f13)))
  (l13:DefIn K "is_letter" "is_letter" ZeI f13)
  (a14:W.nsIn K mainGlobals "pair_of"=some (some (.ref f14)))
  (l14:DefIn K "pair_of" "pair_of" Zhu f14)
  (a15:W.findIn K (.ref OC_Book) "__init__"=some (some (.ref f15))) (i15:W.isFn K (.ref f15)=true)
  (l15:DefIn K "__init__" "Book.__init__" ZcO f15)
  (a16:W.findIn K (.ref OC_Book) "birth_of"=some (some (.ref f16))) (i16:W.isFn K (.ref f16)=true)
  (l16:DefIn K "birth_of" "Book.birth_of" ZcP f16)
  (a17:W.findIn K (.ref OC_Book) "sort_of"=some (some (.ref f17))) (i17:W.isFn K (.ref f17)=true)
  (l17:DefIn K "sort_of" "Book.sort_of" Zc2 f17)
  (a18:W.findIn K (.ref OC_Book) "born_on"=some (some (.ref f18))) (i18:W.isFn K (.ref f18)=true)
  (l18:DefIn K "born_on" "Book.born_on" Zc1 f18)
  (a19:W.findIn K (.ref OC_Book) "parent_fits"=some (some (.ref f19))) (i19:W.isFn K (.ref f19)=true)
  (l19:DefIn K "parent_fits" "Book.parent_fits" Zcd f19)
  (a20:W.findIn K (.ref OC_Book) "fits"=some (some (.ref f20))) (i20:W.isFn K (.ref f20)=true)
  (l20:DefIn K "fits" "Book.fits" Ze3 f20)
  (a21:W.findIn K (.ref OC_Book) "refuse"=some (some (.ref f21))) (i21:W.isFn K (.ref f21)=true)
  (l21:DefIn K "refuse" "Book.refuse" Zdn f21)
  (a22:W.findIn K (.ref OC_Book) "link"=some (some (.ref f22))) (i22:W.isFn K (.ref f22)=true)
  (l22:DefIn K "link" "Book.link" Ze0 f22)
  (a23:W.findIn K (.ref OC_Book) "note_birth"=some (some (.ref f23))) (i23:W.isFn K (.ref f23)=true)
  (l23:DefIn K "note_birth" "Book.note_birth" Zcm f23)
  (a24:W.findIn K (.ref OC_Book) "step"=some (some (.ref f24))) (i24:W.isFn K (.ref f24)=true)
  (l24:DefIn K "step" "Book.step" ZeC f24)
  (a25:W.findIn K (.ref OC_Book) "stands"=some (some (.ref f25))) (i25:W.isFn K (.ref f25)=true)
  (l25:K.lookup f25=some ⟨oc25,od25,.func (W.fnOf "stands" "Book.stands" (Zcg ZaO) (ZbW ZaO) (Zal ZaO) (.ref DT25) kV25 dc25 pm25 an25 cd25 ct25),sl25⟩)
  (cc25:W.codeIn K cd25 "Book.stands"=true) (k25:W.keepIn K (.ref f25)=true)
  (ldt25:K.lookup DT25=some ⟨.type "tuple",odD25,.seq #[.none] nD25,slD25⟩)
  (a26:W.findIn K (.ref OC_Book) "note_tie"=some (some (.ref f26))) (i26:W.isFn K (.ref f26)=true)
  (l26:DefIn K "note_tie" "Book.note_tie" ZcN f26)
  (a27:W.findIn K (.ref OC_Book) "put"=some (some (.ref f27))) (i27:W.isFn K (.ref f27)=true)
  (l27:DefIn K "put" "Book.put" Zfo f27)
  (a28:W.findIn K (.ref OC_Book) "entries"=some (some (.ref f28))) (i28:W.isFn K (.ref f28)=true)
  (l28:DefIn K "entries" "Book.entries" Zc7 f28)
  (a29:W.findIn K (.ref OC_Book) "dead_on"=some (some (.ref f29))) (i29:W.isFn K (.ref f29)=true)
  (l29:DefIn K "dead_on" "Book.dead_on" Zc0 f29)
  (a30:W.findIn K (.ref OC_Book) "gave"=some (some (.ref f30))) (i30:W.isFn K (.ref f30)=true)
  (l30:DefIn K "gave" "Book.gave" Zez f30)
  (a31:W.findIn K (.ref OC_Book) "until"=some (some (.ref f31))) (i31:W.isFn K (.ref f31)=true)
  (l31:DefIn K "until" "Book.until" ZdW f31)
  (a32:W.nsIn K mainGlobals "_law_cell_at"=some (some (.ref f32)))
  (l32:DefIn K "_law_cell_at" "_law_cell_at" ZcZ f32)
  (a33:W.nsIn K mainGlobals "_law_whole"=some (some (.ref f33)))
  (l33:DefIn K "_law_whole" "_law_whole" ZdJ f33)
  (a34:W.nsIn K mainGlobals "_law_names"=some (some (.ref f34)))
  (l34:DefIn K "_law_names" "_law_names" ZdL f34)
  (a35:W.nsIn K mainGlobals "_law_draw"=some (some (.ref f35)))
  (l35:DefIn K "_law_draw" "_law_draw" ZeY f35)
  (a36:W.nsIn K mainGlobals "_law_day"=some (some (.ref f36)))
  (l36:DefIn K "_law_day" "_law_day" Zfr f36)
  (a37:W.nsIn K mainGlobals "_law_births"=some (some (.ref f37)))
  (l37:DefIn K "_law_births" "_law_births" Zdk f37)
  (a38:W.nsIn K mainGlobals "_law_pair"=some (some (.ref f38)))
  (l38:DefIn K "_law_pair" "_law_pair" ZeN f38)
  (a39:W.nsIn K mainGlobals "_law_told"=some (some (.ref f39)))
  (l39:DefIn K "_law_told" "_law_told" Zex f39)
  (a40:W.nsIn K mainGlobals "_law_gave"=some (some (.ref f40)))
  (l40:DefIn K "_law_gave" "_law_gave" ZeV f40)
  (a41:W.nsIn K mainGlobals "_law_room"=some (some (.ref f41)))
  (l41:DefIn K "_law_room" "_law_room" ZeZ f41)
  (a42:W.nsIn K mainGlobals "_law_entry"=some (some (.ref f42)))
  (l42:DefIn K "_law_entry" "_law_entry" Zea f42)
  (a43:W.nsIn K mainGlobals "_law_truth"=some (some (.ref f43)))
  (l43:DefIn K "_law_truth" "_law_truth" ZdM f43)
  (a44:W.nsIn K mainGlobals "_law_asked"=some (some (.ref f44)))
  (l44:DefIn K "_law_asked" "_law_asked" Zd3 f44)
  (a45:W.nsIn K mainGlobals "_law_shape"=some (some (.ref f45)))
  (l45:DefIn K "_law_shape" "_law_shape" ZdI f45)
  (a46:W.nsIn K mainGlobals "_law_apart"=some (some (.ref f46)))
  (l46:DefIn K "_law_apart" "_law_apart" ZdH f46)
  (a47:W.nsIn K mainGlobals "law"=some (some (.ref f47)))
  (l47:DefIn K "law" "law" Zqx f47)
  (pg0:W.plainGet K OC_Book Str.empty=true) (hd0:W.hasDictIn K OC_Book=true) (po0:W.plainOver K OC_Book=true) (sa0:W.findIn K (.ref OC_Book) "__setattr__"=some (some (.builtin "object.__setattr__"))) (mk0:W.makesIn K OC_Book=true) (kc0:W.keepIn K (.ref OC_Book)=true)
  (na0_kept:W.findIn K (.ref OC_Book) "kept"=some none)
  (na0_births:W.findIn K (.ref OC_Book) "births"=some none)
  (na0_links:W.findIn K (.ref OC_Book) "links"=some none)
  (na0_ties:W.findIn K (.ref OC_Book) "ties"=some none)
  (na0_sums:W.findIn K (.ref OC_Book) "sums"=some none)
  (ac0:W.nsIn K mainGlobals "HeirError"=some (some (.ref C0)))
  (xc0:W.excIn K C0 EBm "ValueError.__new__"=true)
  (e1_0:W.findIn K (.ref C0) "__getattribute__"=some (some (.builtin "BaseException.__getattribute__"))) (e2_0:W.findIn K (.ref C0) "__getattr__"=some none) (e3_0:W.findIn K (.ref C0) "__class__"=some (some (.builtin "object.__class__"))) (e4_0:W.mroIn K C0 (.type "BaseException")=some true) (e5_0:W.mroIn K C0 (.type "object")=some true)
  (ac1:W.nsIn K mainGlobals "NoEntry"=some (some (.ref C1)))
  (xc1:W.excIn K C1 EBm "ValueError.__new__"=true)
  (e1_1:W.findIn K (.ref C1) "__getattribute__"=some (some (.builtin "BaseException.__getattribute__"))) (e2_1:W.findIn K (.ref C1) "__getattr__"=some none) (e3_1:W.findIn K (.ref C1) "__class__"=some (some (.builtin "object.__class__"))) (e4_1:W.mroIn K C1 (.type "BaseException")=some true) (e5_1:W.mroIn K C1 (.type "object")=some true)
  (ac2:W.nsIn K mainGlobals "Full"=some (some (.ref C2)))
  (xc2:W.excIn K C2 EBm "ValueError.__new__"=true)
  (e1_2:W.findIn K (.ref C2) "__getattribute__"=some (some (.builtin "BaseException.__getattribute__"))) (e2_2:W.findIn K (.ref C2) "__getattr__"=some none) (e3_2:W.findIn K (.ref C2) "__class__"=some (some (.builtin "object.__class__"))) (e4_2:W.mroIn K C2 (.type "BaseException")=some true) (e5_2:W.mroIn K C2 (.type "object")=some true)
  (ac3:W.nsIn K mainGlobals "NoPerson"=some (some (.ref C3)))
  (xc3:W.excIn K C3 EBm "ValueError.__new__"=true)
  (e1_3:W.findIn K (.ref C3) "__getattribute__"=some (some (.builtin "BaseException.__getattribute__"))) (e2_3:W.findIn K (.ref C3) "__getattr__"=some none) (e3_3:W.findIn K (.ref C3) "__class__"=some (some (.builtin "object.__class__"))) (e4_3:W.mroIn K C3 (.type "BaseException")=some true) (e5_3:W.mroIn K C3 (.type "object")=some true)
  (ac4:W.nsIn K mainGlobals "Twice"=some (some (.ref C4)))
  (xc4:W.excIn K C4 EBm "ValueError.__new__"=true)
  (e1_4:W.findIn K (.ref C4) "__getattribute__"=some (some (.builtin "BaseException.__getattribute__"))) (e2_4:W.findIn K (.ref C4) "__getattr__"=some none) (e3_4:W.findIn K (.ref C4) "__class__"=some (some (.builtin "object.__class__"))) (e4_4:W.mroIn K C4 (.type "BaseException")=some true) (e5_4:W.mroIn K C4 (.type "object")=some true)
  (ac5:W.nsIn K mainGlobals "NoFit"=some (some (.ref C5)))
  (xc5:W.excIn K C5 EBm "ValueError.__new__"=true)
  (e1_5:W.findIn K (.ref C5) "__getattribute__"=some (some (.builtin "BaseException.__getattribute__"))) (e2_5:W.findIn K (.ref C5) "__getattr__"=some none) (e3_5:W.findIn K (.ref C5) "__class__"=some (some (.builtin "object.__class__"))) (e4_5:W.mroIn K C5 (.type "BaseException")=some true) (e5_5:W.mroIn K C5 (.type "object")=some true)
  (ac6:W.nsIn K mainGlobals "NoWay"=some (some (.ref C6)))
  (xc6:W.excIn K C6 EBm "ValueError.__new__"=true)
  (e1_6:W.findIn K (.ref C6) "__getattribute__"=some (some (.builtin "BaseException.__getattribute__"))) (e2_6:W.findIn K (.ref C6) "__getattr__"=some none) (e3_6:W.findIn K (.ref C6) "__class__"=some (some (.builtin "object.__class__"))) (e4_6:W.mroIn K C6 (.type "BaseException")=some true) (e5_6:W.mroIn K C6 (.type "object")=some true)
  (z_abs:W.nsIn K mainGlobals "abs"=some none)
  (z_all:W.nsIn K mainGlobals "all"=some none)
  (z_bool:W.nsIn K mainGlobals "bool"=some none)
  (z_int:W.nsIn K mainGlobals "int"=some none)
  (z_isinstance:W.nsIn K mainGlobals "isinstance"=some none)
  (z_len:W.nsIn K mainGlobals "len"=some none)
  (z_list:W.nsIn K mainGlobals "list"=some none)
  (z_max:W.nsIn K mainGlobals "max"=some none)
  (z_min:W.nsIn K mainGlobals "min"=some none)
  (z_range:W.nsIn K mainGlobals "range"=some none)
  (z_sorted:W.nsIn K mainGlobals "sorted"=some none)
  (z_str:W.nsIn K mainGlobals "str"=some none)
  (z_sum:W.nsIn K mainGlobals "sum"=some none)
  (z_tuple:W.nsIn K mainGlobals "tuple"=some none)
  (z_zip:W.nsIn K mainGlobals "zip"=some none)
  (q_k_int_int:W.kitOne K (.type "int") (.type "int")=some true)
  (q_k_int_str:W.kitOne K (.type "int") (.type "str")=some false)
  (q_k_int_tuple:W.kitOne K (.type "int") (.type "tuple")=some false)
  (q_k_int_bool:W.kitOne K (.type "int") (.type "bool")=some false)
  (q_k_str_int:W.kitOne K (.type "str") (.type "int")=some false)
  (q_k_str_str:W.kitOne K (.type "str") (.type "str")=some true)
  (q_k_str_tuple:W.kitOne K (.type "str") (.type "tuple")=some false)
  (q_k_bool_int:W.kitOne K (.type "bool") (.type "int")=some true)
  (q_k_bool_str:W.kitOne K (.type "bool") (.type "str")=some false)
  (q_k_bool_tuple:W.kitOne K (.type "bool") (.type "tuple")=some false)
  (q_k_bool_bool:W.kitOne K (.type "bool") (.type "bool")=some true)
  (q_k_NoneType_int:W.kitOne K (.type "NoneType") (.type "int")=some false)
  (q_k_NoneType_str:W.kitOne K (.type "NoneType") (.type "str")=some false)
  (q_k_NoneType_tuple:W.kitOne K (.type "NoneType") (.type "tuple")=some false)
  (q_k_tuple_int:W.kitOne K (.type "tuple") (.type "int")=some false)
  (q_k_tuple_str:W.kitOne K (.type "tuple") (.type "str")=some false)
  (q_k_tuple_tuple:W.kitOne K (.type "tuple") (.type "tuple")=some true)
  (q_k_list_int:W.kitOne K (.type "list") (.type "int")=some false)
  (q_k_list_str:W.kitOne K (.type "list") (.type "str")=some false)
  (q_k_list_tuple:W.kitOne K (.type "list") (.type "tuple")=some false)
  (q_k_dict_int:W.kitOne K (.type "dict") (.type "int")=some false)
  (q_k_dict_str:W.kitOne K (.type "dict") (.type "str")=some false)
  (q_k_dict_tuple:W.kitOne K (.type "dict") (.type "tuple")=some false)
  (q_kl_list:W.kitOne K (.type "list") (.type "list")=some true)
  (zF:W.nsIn K mainGlobals "FORMS"=some (some (.ref F0)))
  (zL:W.nsIn K mainGlobals "LETTERS"=some (some (.str "abcdefghijklmnopqrstuvwxyz" tL)))
  (uF:K.lookup F0=some ⟨.type "tuple",odF,.seq #[.ref P0,.ref P1,.ref P2,.ref P3,.ref P4,.ref P5] nF,slF⟩)
  (up0:K.lookup P0=some ⟨.type "tuple",odp0,.seq #[.str "born" tp0,.ref G0] np0,slp0⟩)
  (up1:K.lookup P1=some ⟨.type "tuple",odp1,.seq #[.str "taken" tp1,.ref G1] np1,slp1⟩)
  (up2:K.lookup P2=some ⟨.type "tuple",odp2,.seq #[.str "union" tp2,.ref G2] np2,slp2⟩)
  (up3:K.lookup P3=some ⟨.type "tuple",odp3,.seq #[.str "parted" tp3,.ref G3] np3,slp3⟩)
  (up4:K.lookup P4=some ⟨.type "tuple",odp4,.seq #[.str "dead" tp4,.ref G4] np4,slp4⟩)
  (up5:K.lookup P5=some ⟨.type "tuple",odp5,.seq #[.str "given" tp5,.ref G5] np5,slp5⟩)
  (ug0:K.lookup G0=some ⟨.type "tuple",odg0,.seq #[.ref f1,.ref f4,.ref f2,.ref f5,.ref f5] ng0,slg0⟩)
  (ug1:K.lookup G1=some ⟨.type "tuple",odg1,.seq #[.ref f1,.ref f1,.ref f2] ng1,slg1⟩)
  (ug2:K.lookup G2=some ⟨.type "tuple",odg2,.seq #[.ref f1,.ref f1,.ref f2] ng2,slg2⟩)
  (ug3:K.lookup G3=some ⟨.type "tuple",odg3,.seq #[.ref f1,.ref f1,.ref f2] ng3,slg3⟩)
  (ug4:K.lookup G4=some ⟨.type "tuple",odg4,.seq #[.ref f1,.ref f2] ng4,slg4⟩)
  (ug5:K.lookup G5=some ⟨.type "tuple",odg5,.seq #[.ref f1,.ref f1,.ref f3,.ref f2] ng5,slg5⟩)
  (zt0:W.nsIn K mainGlobals "STEP_LETTERS"=some (some (.ref KT0)))
  (ut0:K.lookup KT0=some ⟨.type "tuple",odT0,.seq #[.str "F" tt0_0,.str "M" tt0_1,.str "T" tt0_2,.str "f" tt0_3,.str "m" tt0_4,.str "t" tt0_5,.str "S" tt0_6] nT0,slT0⟩)
  (zi0:W.nsIn K mainGlobals "MOST_ENTRIES"=some (some (.int 400 ti0)))
  (zi1:W.nsIn K mainGlobals "MOST_PEOPLE"=some (some (.int 60 ti1))) :
  ∃ fd:FuncData,(∀ (s:Shared) (v:Value),BindsTo s fd ⟨[v],[]⟩ [("_law_script",v)])∧∀ base:Heap,K.In base->base.Ns mainGlobals mg->FnOk l.prog w K mg base (CX1 l.prog w) 9 fa fd ["_law_script"] (Zo3 K):=by
 have e:=hfa.symm.trans (W.mg_of X G a47)
 cases e
 have T:Σ' (T:Tx K w mg),T.ZkZ.a=fa:=⟨{ c_Book:=OC_Book,ZbB:=.of X G a0 l0 (fun _ _ _ _ _ _=>un1 fun _=>rfl),ZaH:=.of X G a1 l1 (fun _ _ _ _ _ _=>un1 fun _=>rfl),Zbt:=.of X G a2 l2 (fun _ _ _ _ _ _=>un1 fun _=>rfl),Zbh:=.of X G a3 l3 (fun _ _ _ _ _ _=>un1 fun _=>rfl),Zb0:=.of X G a4 l4 (fun _ _ _ _ _ _=>un1 fun _=>rfl),Zba:=.of X G a5 l5 (fun _ _ _ _ _ _=>un1 fun _=>rfl),Zco:=.of X G a6 l6 (fun _ _ _ _ _ _=>un2 fun _ _=>rfl),Zci:=.of X G a7 l7 (fun _ _ _ _ _ _=>un1 fun _=>rfl),Zcw:=.of X G a8 l8 (fun _ _ _ _ _ _=>un1 fun _=>rfl),ZbA:=.of X G a9 l9 (fun _ _ _ _ _ _=>un1 fun _=>rfl),Zcx:=.of X G a10 l10 (fun _ _ _ _ _ _=>un1 fun _=>rfl),Zb4:=.of X G a11 l11 (fun _ _ _ _ _ _=>un1 fun _=>rfl),Zct:=.of X G a12 l12 (fun _ _ _ _ _ _=>un1 fun _=>rfl),Zb8:=.of X G a13 l13 (fun _ _ _ _ _ _=>un1 fun _=>rfl),Zb2:=.of X G a14 l14 (fun _ _ _ _ _ _=>un2 fun _ _=>rfl),Zbc:=.of a15 i15 l15 (fun _ _ _ _ _ _=>un1 fun _=>rfl),Zap:=.of a16 i16 l16 (fun _ _ _ _ _ _=>un2 fun _ _=>rfl),Zby:=.of a17 i17 l17 (fun _ _ _ _ _ _=>un2 fun _ _=>rfl),ZaF:=.of a18 i18 l18 (fun _ _ _ _ _ _=>un2 fun _ _=>rfl),ZaJ:=.of a19 i19 l19 (fun _ _ _ _ _ _=>un4 fun _ _ _ _=>rfl),Zck:=.of a20 i20 l20 (fun _ _ _ _ _ _=>un2 fun _ _=>rfl),ZbR:=.of a21 i21 l21 (fun _ _ _ _ _ _=>un2 fun _ _=>rfl),ZaE:=.of a22 i22 l22 (fun _ _ _ _ _ _=>un4 fun _ _ _ _=>rfl),Za8:=.of a23 i23 l23 (fun _ _ _ _ _ _=>un2 fun _ _=>rfl),Zcq:=.of a24 i24 l24 (fun _ _ _ _ _ _=>un3 fun _ _ _=>rfl),a_Book_stands:=f25,fd_Book_stands:=W.fnOf "stands" "Book.stands" (Zcg ZaO) (ZbW ZaO) (Zal ZaO) (.ref DT25) kV25 dc25 pm25 an25 cd25 ct25,dt_Book_stands:=DT25,F_Book_stands:=Zk1 (st:=ZaO) l25 cc25 k25,b_Book_stands:=(Zk1 (st:=ZaO) l25 cc25 k25).binds1 ldt25 rfl (fun _ _ _ _ _ _ us hl=>match us,hl with | [_,_,_],_=>⟨_,rfl,rfl⟩),b3_Book_stands:=(Zk1 (st:=ZaO) l25 cc25 k25).binds2 ldt25 rfl (fun _ _ _ _ _ _ us hl=>match us,hl with | [_,_,_,_],_=>⟨_,rfl,rfl⟩),me_Book_stands:=⟨a25,i25,k25⟩,Zbr:=.of a26 i26 l26 (fun _ _ _ _ _ _=>un2 fun _ _=>rfl),Za2:=.of a27 i27 l27 (fun _ _ _ _ _ _=>un2 fun _ _=>rfl),Za5:=.of a28 i28 l28 (fun _ _ _ _ _ _=>un1 fun _=>rfl),Za6:=.of a29 i29 l29 (fun _ _ _ _ _ _=>un2 fun _ _=>rfl),Zbi:=.of a30 i30 l30 (fun _ _ _ _ _ _=>un3 fun _ _ _=>rfl),Za4:=.of a31 i31 l31 (fun _ _ _ _ _ _=>un2 fun _ _=>rfl),ZaD:=.of X G a32 l32 (fun _ _ _ _ _ _=>un2 fun _ _=>rfl),ZbM:=.of X G a33 l33 (fun _ _ _ _ _ _=>un1 fun _=>rfl),ZbK:=.of X G a34 l34 (fun _ _ _ _ _ _=>un2 fun _ _=>rfl),ZaR:=.of X G a35 l35 (fun _ _ _ _ _ _=>un3 fun _ _ _=>rfl),ZaQ:=.of X G a36 l36 (fun _ _ _ _ _ _=>un1 fun _=>rfl),Zbv:=.of X G a37 l37 (fun _ _ _ _ _ _=>un2 fun _ _=>rfl),Zbf:=.of X G a38 l38 (fun _ _ _ _ _ _=>un2 fun _ _=>rfl),Zbg:=.of X G a39 l39 (fun _ _ _ _ _ _=>un4 fun _ _ _ _=>rfl),ZaT:=.of X G a40 l40 (fun _ _ _ _ _ _=>un3 fun _ _ _=>rfl),Zb7:=.of X G a41 l41 (fun _ _ _ _ _ _=>un2 fun _ _=>rfl),ZbG:=.of X G a42 l42 (fun _ _ _ _ _ _=>un2 fun _ _=>rfl),ZaL:=.of X G a43 l43 (fun _ _ _ _ _ _=>un2 fun _ _=>rfl),ZbF:=.of X G a44 l44 (fun _ _ _ _ _ _=>un4 fun _ _ _ _=>rfl),ZbI:=.of X G a45 l45 (fun _ _ _ _ _ _=>un1 fun _=>rfl),ZbH:=.of X G a46 l46 (fun _ _ _ _ _ _=>un4 fun _ _ _ _=>rfl),ZkZ:=.of X G a47 l47 (fun _ _ _ _ _ _=>un1 fun _=>rfl),m_Book:=(W.mg_of X G ao0),cl_Book:=⟨pg0,hd0,po0,sa0⟩,mk_Book:=⟨mk0,a15,i15,kc0⟩,na_Book_kept:=na0_kept,na_Book_births:=na0_births,na_Book_links:=na0_links,na_Book_ties:=na0_ties,na_Book_sums:=na0_sums,c_HeirError:=C0,m_HeirError:=(W.mg_of X G ac0),x_HeirError:=xc0,e_HeirError:=⟨e1_0,e2_0,e3_0,e4_0,e5_0⟩,c_NoEntry:=C1,m_NoEntry:=(W.mg_of X G ac1),x_NoEntry:=xc1,e_NoEntry:=⟨e1_1,e2_1,e3_1,e4_1,e5_1⟩,c_Full:=C2,m_Full:=(W.mg_of X G ac2),x_Full:=xc2,e_Full:=⟨e1_2,e2_2,e3_2,e4_2,e5_2⟩,c_NoPerson:=C3,m_NoPerson:=(W.mg_of X G ac3),x_NoPerson:=xc3,e_NoPerson:=⟨e1_3,e2_3,e3_3,e4_3,e5_3⟩,c_Twice:=C4,m_Twice:=(W.mg_of X G ac4),x_Twice:=xc4,e_Twice:=⟨e1_4,e2_4,e3_4,e4_4,e5_4⟩,c_NoFit:=C5,m_NoFit:=(W.mg_of X G ac5),x_NoFit:=xc5,e_NoFit:=⟨e1_5,e2_5,e3_5,e4_5,e5_5⟩,c_NoWay:=C6,m_NoWay:=(W.mg_of X G ac6),x_NoWay:=xc6,e_NoWay:=⟨e1_6,e2_6,e3_6,e4_6,e5_6⟩,n_abs:=(W.mg_none_of X G z_abs),n_all:=(W.mg_none_of X G z_all),n_bool:=(W.mg_none_of X G z_bool),n_int:=(W.mg_none_of X G z_int),n_isinstance:=(W.mg_none_of X G z_isinstance),n_len:=(W.mg_none_of X G z_len),n_list:=(W.mg_none_of X G z_list),n_max:=(W.mg_none_of X G z_max),n_min:=(W.mg_none_of X G z_min),n_range:=(W.mg_none_of X G z_range),n_sorted:=(W.mg_none_of X G z_sorted),n_str:=(W.mg_none_of X G z_str),n_sum:=(W.mg_none_of X G z_sum),n_tuple:=(W.mg_none_of X G z_tuple),n_zip:=(W.mg_none_of X G z_zip),k_int_int:=q_k_int_int,k_int_str:=q_k_int_str,k_int_tuple:=q_k_int_tuple,k_int_bool:=q_k_int_bool,k_str_int:=q_k_str_int,k_str_str:=q_k_str_str,k_str_tuple:=q_k_str_tuple,k_bool_int:=q_k_bool_int,k_bool_str:=q_k_bool_str,k_bool_tuple:=q_k_bool_tuple,k_bool_bool:=q_k_bool_bool,k_NoneType_int:=q_k_NoneType_int,k_NoneType_str:=q_k_NoneType_str,k_NoneType_tuple:=q_k_NoneType_tuple,k_tuple_int:=q_k_tuple_int,k_tuple_str:=q_k_tuple_str,k_tuple_tuple:=q_k_tuple_tuple,k_list_int:=q_k_list_int,k_list_str:=q_k_list_str,k_list_tuple:=q_k_list_tuple,k_dict_int:=q_k_dict_int,k_dict_str:=q_k_dict_str,k_dict_tuple:=q_k_dict_tuple,kl_list:=q_kl_list,aF:=F0,m_FORMS:=(W.mg_of X G zF),tkL:=tL,m_LETTERS:=(W.mg_of X G zL),p0:=P0,g0:=G0,p1:=P1,g1:=G1,p2:=P2,g2:=G2,p3:=P3,g3:=G3,p4:=P4,g4:=G4,p5:=P5,g5:=G5,sF:=fun _=>.inr ⟨_,_,_,uF,rfl,rfl,Zao (Nat.le_of_ble_eq_true rfl),.cons rfl (.cons rfl (.cons rfl (.cons rfl (.cons rfl (.cons rfl .nil)))))⟩,sp0:=fun _=>.inr ⟨_,_,_,up0,rfl,rfl,Zao (Nat.le_of_ble_eq_true rfl),.cons ⟨_,rfl⟩ (.cons rfl .nil)⟩,sp1:=fun _=>.inr ⟨_,_,_,up1,rfl,rfl,Zao (Nat.le_of_ble_eq_true rfl),.cons ⟨_,rfl⟩ (.cons rfl .nil)⟩,sp2:=fun _=>.inr ⟨_,_,_,up2,rfl,rfl,Zao (Nat.le_of_ble_eq_true rfl),.cons ⟨_,rfl⟩ (.cons rfl .nil)⟩,sp3:=fun _=>.inr ⟨_,_,_,up3,rfl,rfl,Zao (Nat.le_of_ble_eq_true rfl),.cons ⟨_,rfl⟩ (.cons rfl .nil)⟩,sp4:=fun _=>.inr ⟨_,_,_,up4,rfl,rfl,Zao (Nat.le_of_ble_eq_true rfl),.cons ⟨_,rfl⟩ (.cons rfl .nil)⟩,sp5:=fun _=>.inr ⟨_,_,_,up5,rfl,rfl,Zao (Nat.le_of_ble_eq_true rfl),.cons ⟨_,rfl⟩ (.cons rfl .nil)⟩,sg0:=fun _=>.inr ⟨_,_,_,ug0,rfl,rfl,Zao (Nat.le_of_ble_eq_true rfl),.cons rfl (.cons rfl (.cons rfl (.cons rfl (.cons rfl (.nil)))))⟩,sg1:=fun _=>.inr ⟨_,_,_,ug1,rfl,rfl,Zao (Nat.le_of_ble_eq_true rfl),.cons rfl (.cons rfl (.cons rfl (.nil)))⟩,sg2:=fun _=>.inr ⟨_,_,_,ug2,rfl,rfl,Zao (Nat.le_of_ble_eq_true rfl),.cons rfl (.cons rfl (.cons rfl (.nil)))⟩,sg3:=fun _=>.inr ⟨_,_,_,ug3,rfl,rfl,Zao (Nat.le_of_ble_eq_true rfl),.cons rfl (.cons rfl (.cons rfl (.nil)))⟩,sg4:=fun _=>.inr ⟨_,_,_,ug4,rfl,rfl,Zao (Nat.le_of_ble_eq_true rfl),.cons rfl (.cons rfl (.nil))⟩,sg5:=fun _=>.inr ⟨_,_,_,ug5,rfl,rfl,Zao (Nat.le_of_ble_eq_true rfl),.cons rfl (.cons rfl (.cons rfl (.cons rfl (.nil))))⟩,a_STEP_LETTERS:=KT0,m_STEP_LETTERS:=(W.mg_of X G zt0),Zeq:=fun _=>.inr ⟨_,_,_,ut0,rfl,rfl,Zao (Nat.le_of_ble_eq_true rfl),.cons ⟨_,rfl⟩ (.cons ⟨_,rfl⟩ (.cons ⟨_,rfl⟩ (.cons ⟨_,rfl⟩ (.cons ⟨_,rfl⟩ (.cons ⟨_,rfl⟩ (.cons ⟨_,rfl⟩ (.nil)))))))⟩,t_MOST_ENTRIES:=ti0,m_MOST_ENTRIES:=(W.mg_of X G zi0),t_MOST_PEOPLE:=ti1,m_MOST_PEOPLE:=(W.mg_of X G zi1) },rfl⟩
 obtain ⟨T,ea⟩:=T
 subst ea
 refine ⟨(Zcc K T.ZkZ.a),fun s v=>?_,fun base _ _=>(Zq9 T).imp fun vs H Q E z=>?_⟩
 ·obtain ⟨oc,od,kV,doc,pm,an,cdv,ct,osl,e,_⟩:=T.ZkZ.F.ex
  rw [e]
  exact .of_eq rfl
 exact Zrx T z
theorem walk {l : W.OpenLaw} {q : Program} {loose : List Str} {XP : (Str → Option Value) → Heap → Prop} {YP : World → Heap → Prop} {d : DefRec} {K : Params → W.Frag} (hn : l.most=some 63) (hdf : d.params.defaults=[])
  (hY:∀ (w:World) (h:Heap),YP w h->(K w.params).In h)
  (F:∀ (w:World) (mg:Str->Option Value) (fa:Addr) (h:Heap),(K w.params).In h->h.Ns mainGlobals mg->mg d.name=some (.ref fa) →
   ∃ fd:FuncData,(∀ (s:Shared) (u:Value),BindsTo s fd ⟨[u],[]⟩ [("_law_script",u)])∧∀ base:Heap,(K w.params).In base->base.Ns mainGlobals mg->FnOk l.prog w (K w.params) mg base (CX1 l.prog w) 9 fa fd ["_law_script"] (Zo3 (K w.params))) :
  W.WalkO q loose XP YP l.row.toRowW d [] (fun f vs=>PySem.call f vs) :=
 L2.walk_of (n:=63) (k:=9) (x:="_law_script") (CX:=fun w=>CX1 l.prog w) (sp:=fun w=>Zo3 (K w.params)) hn (by decide) hdf ⟨rfl,by decide,by decide⟩ hY F (fun _ _ a ns hl _ hS=>⟨a,ns,rfl,hS,hl,fun _=>rfl⟩) fun _ _ _ _ _ ⟨_,_,_,_,_,z⟩=>z
end K7
open PySem PySem.W PyProof.Rows
set_option maxRecDepth 100000 in
set_option maxHeartbeats 0 in
theorem PySem.Challenge.cw_heirbook_k07_unions_gifts_and_days_holds : PySem.Challenge.rw_heirbook_k07_unions_gifts_and_days.Holds := by
 refine K7.hd ?_
 k_fill
 refine K7.walk (l:=PySem.Challenge.rw_heirbook_k07_unions_gifts_and_days) rfl rfl (fun w h Y=>PySem.W.kIn_of Y) ?F
 case F =>
  intro w mg fa h KX G hmg
  apply K7.all_mk KX G hmg
  case ao0 | a0 | a1 | a2 | a3 | a4 | a5 | a6 | a7 | a8 | a9 | a10 | a11 | a12 | a13 | a14 | a15 | i15 | a16 | i16 | a17 | i17 | a18 | i18 | a19 | i19 | a20 | i20 | a21 | i21 | a22 | i22 | a23 | i23 | a24 | i24 | a25 | i25 | l25 | cc25 | k25 | ldt25 | a26 | i26 | a27 | i27 | a28 | i28 | a29 | i29 | a30 | i30 | a31 | i31 | a32 | a33 | a34 | a35 | a36 | a37 | a38 | a39 | a40 | a41 | a42 | a43 | a44 | a45 | a46 | a47 | pg0 | hd0 | po0 | sa0 | mk0 | kc0 | na0_kept | na0_births | na0_links | na0_ties | na0_sums | ac0 | e1_0 | e2_0 | e3_0 | e4_0 | e5_0 | ac1 | e1_1 | e2_1 | e3_1 | e4_1 | e5_1 | ac2 | e1_2 | e2_2 | e3_2 | e4_2 | e5_2 | ac3 | e1_3 | e2_3 | e3_3 | e4_3 | e5_3 | ac4 | e1_4 | e2_4 | e3_4 | e4_4 | e5_4 | ac5 | e1_5 | e2_5 | e3_5 | e4_5 | e5_5 | ac6 | e1_6 | e2_6 | e3_6 | e4_6 | e5_6 | z_abs | z_all | z_bool | z_int | z_isinstance | z_len | z_list | z_max | z_min | z_range | z_sorted | z_str | z_sum | z_tuple | z_zip | zF | zL | uF | up0 | up1 | up2 | up3 | up4 | up5 | ug0 | ug1 | ug2 | ug3 | ug4 | ug5 | zt0 | ut0 | zi0 | zi1=>k_is
  case l0 | l1 | l2 | l3 | l4 | l5 | l6 | l7 | l8 | l9 | l10 | l11 | l12 | l13 | l14 | l15 | l16 | l17 | l18 | l19 | l20 | l21 | l22 | l23 | l24 | l26 | l27 | l28 | l29 | l30 | l31 | l32 | l33 | l34 | l35 | l36 | l37 | l38 | l39 | l40 | l41 | l42 | l43 | l44 | l45 | l46 | l47=>exact ⟨⟨_,_,_,_,_,_,_,_,_,by k_is,by k_is⟩,by k_is⟩
  case xc0 | xc1 | xc2 | xc3 | xc4 | xc5 | xc6=>k_exc
  case q_k_int_int | q_k_int_str | q_k_int_tuple | q_k_int_bool | q_k_str_int | q_k_str_str | q_k_str_tuple | q_k_bool_int | q_k_bool_str | q_k_bool_tuple | q_k_bool_bool | q_k_NoneType_int | q_k_NoneType_str | q_k_NoneType_tuple | q_k_tuple_int | q_k_tuple_str | q_k_tuple_tuple | q_k_list_int | q_k_list_str | q_k_list_tuple | q_k_dict_int | q_k_dict_str | q_k_dict_tuple | q_kl_list=>kit_is
