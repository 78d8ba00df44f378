import PyProof.Rows.All
import Wide.All
import OpenK.AllK
import Wide.FinOn
import Lean
import PyProof.EqAt
import PyProof.EqKinds
import PyProof.TupleCall
import PyProof.NeKinds
import PyProof.ZipIter
import PyProof.Draws
import PyProof.ConsumeWalk
import PyProof.StrCaseBound
import PyProof.StrLawsIn
import PyProof.StrLawsJoin
import PyProof.Rows.StrSplitAre
import PyProof.WalkInts
import PyProof.EnumMake
import KE.KRevSl
import PyProof.Rows.SumAny
import PyProof.Rows.SortRuns
import PyProof.Rows.SortKey
import KE.KSortTup
import KE.KDictList
import PyProof.DictValues
import PyProof.StrLawsFirst
import PyProof.AutoListH
import PySem.Str
import PyProof.Rows.StrNews2
import PyProof.StrLawsIdx
import PyProof.StrBlockI
import PySem.Challenge.RW_heirbook_k33_texts_of_no_tongue
set_option Elab.async false
set_option linter.all false
/-! The head's one run, by the kernel at one go: no state on the way is written down, so no twin of a state is made. -/
namespace LR
open PySem PySem.W PyProof.Rows
noncomputable abbrev fRun := @Fast.tw14082659384304107361
noncomputable abbrev fTab := Fast.tw14364793385576792824
noncomputable abbrev fSeen := @Fast.tw4187177175401517315
noncomputable def allIn (p : Program) (P : Params) (s : Shared) : Bool :=
  staticsOk (importedModules p.main.body) (boot_heap P) s.heap && namesBound p s.heap && gensDone s && laidKept (boot_heap P) s.heap
noncomputable abbrev sA (q : Program) (loose mods : List Str) (Xt : Shared → Bool) (g0 : Bool) (s : Shared) :=
  ((fSeen q loose mods Xt g0 s).1, (fSeen q loose mods Xt g0 s).2.1, (fSeen q loose mods Xt g0 s).2.2.1, (fSeen q loose mods Xt g0 s).2.2.2.1)
noncomputable abbrev sB (q : Program) (loose mods : List Str) (Xt : Shared → Bool) (g0 : Bool) (s : Shared) := (fSeen q loose mods Xt g0 s).2.2.2.2
noncomputable abbrev gA (q : Program) (loose : List Str) := ((openGood q loose).1, (openGood q loose).2.1, (openGood q loose).2.2.1, (openGood q loose).2.2.2.1)
noncomputable abbrev gB (q : Program) (loose : List Str) := (openGood q loose).2.2.2.2
noncomputable abbrev ran (p : Program) (m : Nat) (ann : Option Value) (N : Nat) (w : World) (os : OsState) : Option Shared :=
  fRun fTab p w m ann N ⟨boot_heap w.params, Array.mk [], boot_drawn, boot_toks, os⟩ (topStub p)
theorem left_run {p q : Program} {loose : List Str} {Xt : Shared → Bool} {α : Type} {Yf : Shared → α} {Ya : World → α} {N m : Nat} {g0 : Bool} {ann : Option Value}
    (e : opening p = plainProg p.main.scope.names) (f : ∀ s, fenceModules? p s = some s) (hN : Nat.ble 600 N = true)
    (h1 : ∀ w : World, (boot_heap w.params).isNs mainGlobals = true) (h2 : ∀ w : World, (boot_heap w.params).objs.size = m) (h3 : ∀ w : World, (boot_heap w.params).nsMap mainGlobals "__annotations__" = ann)
    (r1 : ∀ (w : World) (os : OsState), (ran p m ann N w os).map (allIn p w.params) = some true)
    (r2 : ∀ (w : World) (os : OsState), (ran p m ann N w os).map (sA q loose (importedModules p.main.body) Xt g0) = some (gA q loose))
    (r2' : ∀ (w : World) (os : OsState), (ran p m ann N w os).map (sB q loose (importedModules p.main.body) Xt g0) = some (gB q loose))
    (r3 : ∀ (w : World) (os : OsState), (ran p m ann N w os).map Yf = some (Ya w)) : LeftO p q loose Xt Yf Ya N g0 := by
  intro w
  cases hb : fencedOpening treeTable p w N with
  | none => have z := boot_open e hN f w; rw [hb] at z; cases z
  | some s0 =>
    have z := boot_open e hN f w
    rw [hb] at z
    obtain ⟨h, gs, d, k, os⟩ := s0
    injection z with z
    injection z with z4 z; injection z with z5 z; injection z with z6 z7
    dsimp only at z4 z5 z6 z7
    subst z4 z5 z6 z7
    have a := r1 w os
    have b := r2 w os
    have b' := r2' w os
    have c := r3 w os
    unfold ran fRun fTab at a b b' c
    unfold sA gA fSeen at b
    unfold sB gB fSeen at b'
    rw [← Fast.te14082659384304107361, ← Fast.te14364793385576792824] at a b b' c
    rw [← Fast.te4187177175401517315] at b b'
    cases hs : topRun treeTable p w m ann N ⟨boot_heap w.params, Array.mk [], boot_drawn, boot_toks, os⟩ (topStub p) with
    | none => rw [hs] at a; cases a
    | some s =>
      rw [hs] at a b b' c
      injection a with a
      injection b with b
      injection b' with b'
      injection b with x1 b; injection b with x2 b; injection b with x3 x4
      injection c with c
      have b : openSeen q loose (importedModules p.main.body) Xt g0 s = openGood q loose := Prod.ext x1 (Prod.ext x2 (Prod.ext x3 (Prod.ext x4 b')))
      have t : topFrom treeTable p w N ⟨boot_heap w.params, Array.mk [], boot_drawn, boot_toks, os⟩ = some s := by
        unfold topFrom
        simp only [h1 w, h2 w, h3 w, hs]
        unfold allIn at a
        show (Option.bind (some s) fun x => _) = _
        rw [Option.bind_some, a]
      show Option.map _ (Option.bind (fencedOpening treeTable p w N) _) = _
      rw [hb, Option.bind_some, t, Option.map_some, b, c]
end LR

/-! The same run over a heap that is a tree. -/
namespace LR
open PySem PySem.W PyProof.Rows
noncomputable def runG (st : SharedT → Thread → Option (SharedT × Thread)) (ok : Thread → Bool) : Nat → SharedT → Thread → Option SharedT := fun n =>
  Nat.rec (motive := fun _ => SharedT → Thread → Option SharedT) (fun _ _ => none) (fun _ ih s t => match through t with
    | true => some s
    | false => match ok t with
      | false => none
      | true => match st s t with
        | some (s', t') => ih s' t'
        | none => none) n
theorem runG_top {tb : String → Option Builtin} {p : Program} {w : World} {n₀ : Nat} {ann : Option Value} : ∀ (n : Nat) (s : SharedT) (t : Thread) (s' : SharedT), runG (stepT (denote tb) p w) (stepOk n₀ ann) n s t = some s' → topRun tb p w n₀ ann n s.abs t = some s'.abs
  | 0, _, _, _, h => by cases h
  | n + 1, s, t, s', h => by
    have h2 : (match through t with
      | true => some s
      | false => match stepOk n₀ ann t with
        | false => none
        | true => match stepT (denote tb) p w s t with
          | some (s', t') => runG (stepT (denote tb) p w) (stepOk n₀ ann) n s' t'
          | none => none) = some s' := h
    unfold topRun
    cases ht : through t with
    | true => rw [ht] at h2; cases h2; rfl
    | false =>
      rw [ht] at h2
      cases hk : stepOk n₀ ann t with
      | false => rw [hk] at h2; cases h2
      | true =>
        rw [hk] at h2
        cases hs : stepT (denote tb) p w s t with
        | none => rw [hs] at h2; cases h2
        | some r =>
          obtain ⟨s₂, t₂⟩ := r
          rw [hs] at h2
          rw [stepT_spec hs]
          exact runG_top n s₂ t₂ s' h2
noncomputable def bootT (P : Params) (m : Nat) : BT := Nat.rec (motive := fun _ => BT) .nil (fun i T => T.ins i (((boot_heap P).objs[i]?).getD default)) m
noncomputable abbrev fStep := @Fast.tw10156331382660048174
noncomputable abbrev fDen := @Fast.tw11892475500146522536
noncomputable abbrev fOk := @Fast.tw6613529449190102663
noncomputable abbrev s0T (P : Params) (m : Nat) (os : OsState) : SharedT := ⟨bootT P m, m, (boot_heap P).life, Array.mk [], boot_drawn, boot_toks, os⟩
noncomputable abbrev ranT (p : Program) (m : Nat) (ann : Option Value) (N : Nat) (w : World) (os : OsState) : Option SharedT :=
  runG (fStep (fDen fTab) p w) (fOk m ann) N (s0T w.params m os) (topStub p)
theorem ranT_ran {p : Program} {m : Nat} {ann : Option Value} {N : Nat} {w : World} {os : OsState} (hb : (s0T w.params m os).abs = ⟨boot_heap w.params, Array.mk [], boot_drawn, boot_toks, os⟩) {s : SharedT} (h : ranT p m ann N w os = some s) : ran p m ann N w os = some s.abs := by
  unfold ranT fStep fDen fOk fTab at h
  rw [← Fast.te10156331382660048174, ← Fast.te11892475500146522536, ← Fast.te6613529449190102663, ← Fast.te14364793385576792824] at h
  have := runG_top _ _ _ _ h
  rw [hb] at this
  unfold ran fRun fTab
  rw [← Fast.te14082659384304107361, ← Fast.te14364793385576792824]
  exact this
theorem mapT {α : Type} {p : Program} {m : Nat} {ann : Option Value} {N : Nat} {w : World} {os : OsState} (hb : (s0T w.params m os).abs = ⟨boot_heap w.params, Array.mk [], boot_drawn, boot_toks, os⟩) {f : Shared → α} {a : α} (h : (ranT p m ann N w os).map (fun s => f s.abs) = some a) : (ran p m ann N w os).map f = some a := by
  cases e : ranT p m ann N w os with
  | none => rw [e] at h; cases h
  | some s =>
    rw [e] at h
    rw [ranT_ran hb e]
    exact h
end LR

namespace K33
open PySem PySem.W PyProof.Rows
abbrev rwOf : OpenLaw := PySem.Challenge.rw_heirbook_k33_texts_of_no_tongue
abbrev pwOf : Program := PySem.Challenge.pw_heirbook_k33_texts_of_no_tongue
noncomputable def vw : Program := view pwOf [0,2,3,4,5,6,7,8,9,10,11,12,13,14,15,16,17,18,19,21,22,24,25,26,27,29,31,32,33,34,36,37,38,39,40,41,42,43,44,45,47,48,49,50,51,52,53,54,55,56,57,58]
noncomputable abbrev lo : List Str := []
noncomputable abbrev xt (s : Shared) : Bool := xlAt vw [] s && recOk (RowW.records (OpenRow.toRowW (OpenLaw.row rwOf))) s
noncomputable abbrev rn := LR.ranT pwOf 11 (some (.ref 6)) 6277
set_option maxRecDepth 100000
set_option maxHeartbeats 0
theorem said : OpenLaw.wellSaid rwOf = true := by kernel_rfl
theorem hb (w : World) (os : OsState) : (LR.s0T w.params 11 os).abs = ⟨boot_heap w.params, Array.mk [], boot_drawn, boot_toks, os⟩ := by kernel_rfl
theorem r1T (w : World) (os : OsState) : (rn w os).map (fun s => (LR.allIn pwOf w.params) s.abs) = some (true) := by kernel_rfl
theorem r1 (w : World) (os : OsState) : (LR.ran pwOf 11 (some (.ref 6)) 6277 w os).map (LR.allIn pwOf w.params) = some (true) := LR.mapT (hb w os) (r1T w os)
theorem r2T (w : World) (os : OsState) : (rn w os).map (fun s => (LR.sA vw lo (importedModules pwOf.main.body) xt true) s.abs) = some (LR.gA vw lo) := by kernel_rfl
theorem r2 (w : World) (os : OsState) : (LR.ran pwOf 11 (some (.ref 6)) 6277 w os).map (LR.sA vw lo (importedModules pwOf.main.body) xt true) = some (LR.gA vw lo) := LR.mapT (hb w os) (r2T w os)
theorem r3T (w : World) (os : OsState) : (rn w os).map (fun s => (LR.sB vw lo (importedModules pwOf.main.body) xt true) s.abs) = some (LR.gB vw lo) := by kernel_rfl
theorem r3 (w : World) (os : OsState) : (LR.ran pwOf 11 (some (.ref 6)) 6277 w os).map (LR.sB vw lo (importedModules pwOf.main.body) xt true) = some (LR.gB vw lo) := LR.mapT (hb w os) (r3T w os)
end K33
local macro_rules
  | `(tactic| o_law) => `(tactic| refine PySem.W.holds_law K33.said fun sd => ?_)
local macro_rules
  | `(tactic| o_head $H) => do
    let hw := Lean.mkIdent `hw
    let hc := Lean.mkIdent `hc
    `(tactic| (
      refine PySem.W.holds_open (q := K33.vw) (loose := K33.lo) (N := 6277) (Xt := K33.xt) (XP := PySem.W.XL K33.vw []) (Yf := PySem.W.Hook.obs $H)
        (Ya := PySem.W.Hook.val $H) (YP := PySem.W.Hook.says $H)
        (LR.left_run (p := K33.pwOf) (m := 11) (ann := (some (.ref 6))) ?e1 ?e2 (by decide) ?e3 ?e4 ?e5 K33.r1 K33.r2 K33.r3 ?e6)
        (PySem.W.Hook.of $H) (PySem.W.Hook.keeps $H) ?f1
        PySem.W.XL.keeps (by rfl) (by rfl) (by rfl) ?f2 ?g4 ?g5 ?g6 ?g7 ?$hw ?$hc
      case e1 => kernel_rfl
      case e2 => intro s; kernel_rfl
      case e3 => intro w; kernel_rfl
      case e4 => intro w; kernel_rfl
      case e5 => intro w; kernel_rfl
      case e6 => (intro w os; refine LR.mapT (K33.hb w os) ?_; kernel_rfl)
      case f1 => intro s e; exact PySem.W.xl_of s (Bool.and_eq_true_iff.mp e).1
      case f2 => intro s e; exact PySem.W.recFacts_of (Bool.and_eq_true_iff.mp e).2
      case g4 => rfl
      case g5 => assumption
      case g6 => decide +kernel
      case g7 => exact ⟨rfl, rfl, rfl, rfl, rfl, by decide +kernel⟩))
set_option maxRecDepth 100000 in
set_option maxHeartbeats 0 in
open_top K33.hd for PySem.Challenge.rw_heirbook_k33_texts_of_no_tongue
set_option Elab.async false
set_option linter.all false
set_option maxRecDepth 100000
/-! THE HAND LAYER, for ints, bools, texts, own classes, LISTS and tuples (index, slices, in, append, pop ..), calls, loops. Paste it whole ahead of your own text; what your proof does not reach may be deleted. -/
namespace L2
open PySem PySem.Spec PyProof.Rows

/-- a key: an int or a str -/
abbrev Key := Sum Int Str
def keyIs : Key → Value → Bool
  | .inl k, v => Value.isInt k v
  | .inr x, v => Value.isStrOf x v
def keyH (w : World) : Key → Int
  | .inl k => hashInt k
  | .inr x => hashStr w x
theorem keyIs_shape : ∀ {k : Key} {v : Value}, keyIs k v = true → (∃ i t, k = Sum.inl i ∧ v = Value.int i t) ∨ (∃ x t, k = Sum.inr x ∧ v = Value.str x t)
  | .inl i, v, h => by
    obtain ⟨t, e⟩ := Value.isInt_shape (k := i) (v := v) h
    exact .inl ⟨i, t, rfl, e⟩
  | .inr x, v, h => by
    obtain ⟨t, e⟩ := Value.isStrOf_shape (x := x) (v := v) h
    exact .inr ⟨x, t, rfl, e⟩
theorem keyIs_int (i : Int) (t : Tok) : keyIs (.inl i) (.int i t) = true := by simp [keyIs, Value.isInt]
theorem keyIs_str (x : Str) (t : Tok) : keyIs (.inr x) (.str x t) = true := by simp [keyIs, Value.isStrOf]
theorem key_ll (a b : Int) : decide ((Sum.inl a : Key) = Sum.inl b) = (a == b) := by
  by_cases e : a = b
  · subst e; simp
  · have h : ¬ (Sum.inl a : Key) = Sum.inl b := fun q => e (Sum.inl.inj q)
    rw [decide_eq_false h]
    exact (beq_eq_false_iff_ne.mpr e).symm
theorem key_rr (a b : Str) : decide ((Sum.inr a : Key) = Sum.inr b) = decide (a = b) := by
  by_cases e : a = b
  · subst e; simp
  · have h : ¬ (Sum.inr a : Key) = Sum.inr b := fun q => e (Sum.inr.inj q)
    rw [decide_eq_false h, decide_eq_false e]
theorem key_lr (a : Int) (b : Str) : decide ((Sum.inl a : Key) = Sum.inr b) = false := decide_eq_false (fun q => nomatch q)
theorem key_rl (a : Str) (b : Int) : decide ((Sum.inr a : Key) = Sum.inl b) = false := decide_eq_false (fun q => nomatch q)

def mixKind (prog : Program) (w : World) : PySem.KeyKind prog w Key where
  is := keyIs
  hash := keyH w
  inj := fun v a b ha hb => by
    rcases keyIs_shape ha with ⟨i, t, rfl, rfl⟩ | ⟨x, t, rfl, rfl⟩
    · rcases keyIs_shape hb with ⟨j, u, rfl, e⟩ | ⟨y, u, rfl, e⟩
      · injection e with e1 _; rw [e1]
      · exact nomatch e
    · rcases keyIs_shape hb with ⟨j, u, rfl, e⟩ | ⟨y, u, rfl, e⟩
      · exact nomatch e
      · injection e with e1 _; rw [e1]
  byValue := fun k v h => by
    rcases keyIs_shape h with ⟨i, t, rfl, rfl⟩ | ⟨x, t, rfl, rfl⟩ <;> rfl
  pyHash := fun hv h => by
    rcases keyIs_shape hv with ⟨i, t, rfl, rfl⟩ | ⟨x, t, rfl, rfl⟩
    · exact wpAny_pyHash_int h
    · exact wpAny_pyHash_str h
  eqBool := fun hu hv h => by
    rcases keyIs_shape hu with ⟨i, t, rfl, rfl⟩ | ⟨x, t, rfl, rfl⟩
    · rcases keyIs_shape hv with ⟨j, u, rfl, rfl⟩ | ⟨y, u, rfl, rfl⟩
      · rw [key_ll] at h; exact wpAny_eqBool_int h
      · rw [key_lr] at h; exact SeqAt.EqAt.int_str i t y u _ _ _ _ h
    · rcases keyIs_shape hv with ⟨j, u, rfl, rfl⟩ | ⟨y, u, rfl, rfl⟩
      · rw [key_rl] at h; exact SeqAt.EqAt.str_int x t j u _ _ _ _ h
      · rw [key_rr] at h; exact wpAny_eqBool_str h
  «strs» := fun k x t v h => by
    rcases keyIs_shape h with ⟨i, u, rfl, e⟩ | ⟨y, u, rfl, e⟩
    · exact nomatch e
    · injection e with e1 _
      subst e1
      cases v <;> rfl

theorem mixKind_int (prog : Program) (w : World) (i : Int) (t : Tok) : (mixKind prog w).is (.inl i) (.int i t) = true := keyIs_int i t
theorem mixKind_str (prog : Program) (w : World) (x : Str) (t : Tok) : (mixKind prog w).is (.inr x) (.str x t) = true := keyIs_str x t
end L2

namespace L2
open PySem PySem.Spec PyProof.Rows

/-- a value, without the heap -/
inductive V where
  | non | bl (b : Bool) | int (i : Int) | str (x : Str) | byt (b : Array UInt8) | flt (b : UInt64) | ref (a : Addr) | ty (n : String)
  deriving DecidableEq

def RelV : V → Value → Prop
  | .non, u => u = Value.none
  | .bl b, u => u = Value.bool b
  | .int i, u => ∃ t, u = Value.int i t
  | .str x, u => ∃ t, u = Value.str x t
  | .byt b, u => ∃ t, u = Value.bytes b t
  | .flt b, u => ∃ t, u = Value.float b t
  | .ref a, u => u = Value.ref a
  | .ty n, u => u = Value.type n

abbrev Vals : List V → List Value → Prop := Paired RelV
theorem Vals.length {xs : List V} {us : List Value} (r : Vals xs us) : xs.length = us.length := Paired.length r
theorem Vals.get : ∀ {xs : List V} {us : List Value} {i : Nat} {x : V}, Vals xs us → xs[i]? = some x → ∃ u, us[i]? = some u ∧ RelV x u
  | _, _, _, _, .nil, e => by simp at e
  | _, _, 0, _, .cons r _, e => by simp at e; subst e; exact ⟨_, rfl, r⟩
  | _, _, i + 1, x, .cons _ t, e => by
    obtain ⟨u, h1, h2⟩ := Vals.get (i := i) (x := x) t (by simpa using e)
    exact ⟨u, by simpa using h1, h2⟩
theorem Vals.set {x : V} {u : Value} (r : RelV x u) : ∀ {xs : List V} {us : List Value} (i : Nat), Vals xs us → Vals (xs.set i x) (us.set i u)
  | _, _, _, .nil => .nil
  | _, _, 0, .cons _ t => .cons r t
  | _, _, i + 1, .cons q t => .cons q (Vals.set r i t)
theorem Vals.append : ∀ {xs ys : List V} {us ws : List Value}, Vals xs us → Vals ys ws → Vals (xs ++ ys) (us ++ ws)
  | _, _, _, _, .nil, s => s
  | _, _, _, _, .cons r t, s => .cons r (Vals.append t s)
theorem Vals.take : ∀ {xs : List V} {us : List Value} (n : Nat), Vals xs us → Vals (xs.take n) (us.take n)
  | _, _, 0, _ => .nil
  | _, _, _ + 1, .nil => .nil
  | _, _, n + 1, .cons r t => .cons r (Vals.take n t)
theorem Vals.drop : ∀ {xs : List V} {us : List Value} (n : Nat), Vals xs us → Vals (xs.drop n) (us.drop n)
  | _, _, 0, r => r
  | _, _, _ + 1, .nil => .nil
  | _, _, n + 1, .cons _ t => Vals.drop n t
def RelO : Option V → Option Value → Prop
  | some v, some u => RelV v u
  | none, none => True
  | _, _ => False
def KV {κ : Type} : List (κ × V) → List (κ × Value) → Prop := Paired fun (p : κ × V) (q : κ × Value) => p.1 = q.1 ∧ RelV p.2 q.2

/-- a key of a dict (00_mix): an int or a text -/
def kV : Key → V
  | .inl i => .int i
  | .inr x => .str x

/-- what stands at a tracked address -/
inductive HO where
  /-- a list -/
  | lst (xs : List V)
  /-- a tuple (never changes) -/
  | tup (xs : List V)
  /-- a dict whose keys are ints and texts; one whose keys are tuples of ints and texts (the empty one is both) -/
  | dK (kvs : List (Key × V)) | dT (kvs : List (List Key × V))
  /-- a set of ints: its members, its size -/
  | set (S : Int → Bool) (n : Nat)
  /-- an instance of the class at C, its dict at dx, its attributes -/
  | ins (C dx : Addr) (fs : List (Str × V))
  /-- the dict of the instance at x -/
  | own (x : Addr)
  /-- the dict of an exception -/
  | xd (fs : List (Str × V))
  /-- a bound method, f of x -/
  | met (f x : Addr)
  /-- a range object lo, lo + 1, .. below hi -/
  | rng (lo hi : Int)
  /-- a thing that is known to the object (the script; a dict while a loop walks it): read, never written while it is so -/
  | frz (o : Obj) (u : HO)
  /-- a code object's table -/
  | tbl (ps : Array Value)
  /-- any other thing, by what is true of its one object (a def of one's own: SetO a S n := HO.ext fun h => ..) -/
  | ext (φ : Heap → Prop)

abbrev Hp := Addr → Option HO
def upd (H : Hp) (a : Addr) (o : HO) : Hp := fun b => if b = a then some o else H b
theorem upd_same {H : Hp} {a : Addr} {o : HO} : upd H a o a = some o := by unfold upd; rw [if_pos rfl]
theorem upd_ne {H : Hp} {a b : Addr} {o : HO} (h : b ≠ a) : upd H a o b = H b := by unfold upd; rw [if_neg h]
/-- two objects of different content stand apart -/
theorem ne_of {H : Hp} {a b : Addr} {o u : HO} (h : H a = some o) (h' : H b = some u) (d : o ≠ u) : a ≠ b := by
  intro e; subst e; rw [h] at h'; exact d (Option.some.inj h')
theorem ne_of_none {H : Hp} {a b : Addr} {o : HO} (h : H a = some o) (h' : H b = none) : a ≠ b := by
  intro e; subst e; rw [h] at h'; cases h'

section
variable (P : Program) (w : World)
def ObjOk (H : Hp) (h : Heap) (a : Addr) : HO → Prop
  | .lst xs => xs.length ≤ sizeLine ∧ ∃ (its : List Value) (n : Nat), Vals xs its ∧ h.get? a = some { cls := .type "list", data := .seq its.toArray n }
  | .tup xs => xs.length ≤ sizeLine ∧ ∃ its : List Value, Vals xs its ∧ IsTup h a its.toArray
  | .dK kvs => kvs.length ≤ sizeLine ∧ (a == sysModules) = false ∧ ∃ vs, KV kvs vs ∧ h.DictOf (mixKind P w) a vs
  | .dT kvs => kvs.length ≤ sizeLine ∧ (a == sysModules) = false ∧ ∃ xs : List (List Key × Addr × Value),
      Paired (fun (p : List Key × V) (q : List Key × Addr × Value) => p.1 = q.1 ∧ H q.2.1 = some (.tup (p.1.map kV)) ∧ RelV p.2 q.2.2) kvs xs ∧
      ∃ o es ep, h.get? a = some o ∧ o.ExactDict ∧ o.data = .dict es ep ∧ es.toList = xs.map (entryOfKey (tupleKind (mixKind P w))) ∧ (xs.map (·.1)).Nodup
  | .set S n => h.SetOf (intKind P w) a S n
  | .ins C dx fs => H dx = some (.own a) ∧ fs.length ≤ 1000 ∧ dx ≠ a ∧ h.get? a = some (PySem.W.instObj C dx) ∧
      ∃ mA, h.Ns1 dx mA ∧ (∀ f, RelO (fs.lookup f) (mA f)) ∧ PySem.Within mA (fs.map (·.1))
  | .own _ => ∃ o, h.get? a = some o
  | .xd fs => ∃ mA, h.Ns1 a mA ∧ ∀ f, RelO (fs.lookup f) (mA f)
  | .rng lo hi => ∃ t u v, h.get? a = some { cls := .type "range", data := .fields #[.int lo t, .int hi u, .int 1 v] }
  | .frz o u => h.get? a = some o ∧ ObjOk H h a u
  | .tbl ps => h.get? a = some { cls := .none, data := .fields ps }
  | .met f x => h.get? a = some (PySem.W.methodObj (.ref f) (.ref x))
  | .ext φ => φ h ∧ (∃ o, h.get? a = some o) ∧ ∀ h1 h2 : Heap, φ h1 → (∀ o, h1.get? a = some o → h2.get? a = some o) → φ h2
/-- the abstract heap is held -/
def HOk (H : Hp) (h : Heap) : Prop := ∀ a o, H a = some o → ObjOk P w H h a o
end

section
variable {P : Program} {w : World} {H H' : Hp} {h h' : Heap} {a : Addr} {o : HO}
theorem ObjOk.lt (x : ObjOk P w H h a o) : a < h.objs.size := by
  cases o with
  | lst xs => obtain ⟨_, _, _, _, e⟩ := x; exact Heap.lt_size e
  | tup xs => obtain ⟨_, _, _, p⟩ := x; exact p.lt
  | dK kvs => obtain ⟨_, _, _, _, o, _, _, e, _⟩ := x; exact Heap.lt_size e
  | dT kvs => obtain ⟨_, _, _, _, o, _, _, e, _⟩ := x; exact Heap.lt_size e
  | set S n => obtain ⟨o, _, _, _, e, _⟩ := x; exact Heap.lt_size e
  | ins C dx fs => obtain ⟨_, _, _, e, _⟩ := x; exact Heap.lt_size e
  | own y => obtain ⟨_, e⟩ := x; exact Heap.lt_size e
  | xd fs => obtain ⟨_, ⟨_, _, _, e, _⟩, _⟩ := x; exact Heap.lt_size e
  | rng lo hi => obtain ⟨_, _, _, e⟩ := x; exact Heap.lt_size e
  | frz ob u => obtain ⟨e, _⟩ := x; exact Heap.lt_size e
  | tbl ps => exact Heap.lt_size (show h.get? a = some _ from x)
  | met f y => exact Heap.lt_size (show h.get? a = some _ from x)
  | ext φ => obtain ⟨_, ⟨_, e⟩, _⟩ := x; exact Heap.lt_size e
theorem Paired.mapP {α β : Type} {F G : α → β → Prop} : ∀ {l₁ : List α} {l₂ : List β}, Paired F l₁ l₂ → (∀ a b, F a b → G a b) → Paired G l₁ l₂
  | _, _, .nil, _ => .nil
  | _, _, .cons r t, f => .cons (f _ _ r) (Paired.mapP t f)
/-- what an object's description leans on: its own object, its own dict, the tuples -/
theorem ObjOk.stay (x : ObjOk P w H h a o) (k : ∀ b u, (b = a ∨ H b = some (.own a)) → h.get? b = some u → h'.get? b = some u)
    (ho : ∀ b, H b = some (.own a) → H' b = some (.own a)) (ht : ∀ b xs, H b = some (.tup xs) → H' b = some (.tup xs)) : ObjOk P w H' h' a o := by
  induction o with
  | lst xs => obtain ⟨z, its, n, r, e⟩ := x; exact ⟨z, its, n, r, k _ _ (.inl rfl) e⟩
  | tup xs => obtain ⟨z, its, r, ob, e, c⟩ := x; exact ⟨z, its, r, ob, k _ _ (.inl rfl) e, c⟩
  | dK kvs => obtain ⟨z, y, vs, r, ob, es, ep, e, c⟩ := x; exact ⟨z, y, vs, r, ob, es, ep, k _ _ (.inl rfl) e, c⟩
  | dT kvs =>
    obtain ⟨z, y, xs, r, ob, es, ep, e, c⟩ := x
    exact ⟨z, y, xs, Paired.mapP r fun p q z => ⟨z.1, ht _ _ z.2.1, z.2.2⟩, ob, es, ep, k _ _ (.inl rfl) e, c⟩
  | set S n => obtain ⟨ob, es, ep, t, e, c⟩ := x; exact ⟨ob, es, ep, t, k _ _ (.inl rfl) e, c⟩
  | ins C dx fs =>
    obtain ⟨d, z, ne, e, mA, ⟨od, es, ep, e2, c⟩, r⟩ := x
    exact ⟨ho _ d, z, ne, k _ _ (.inl rfl) e, mA, ⟨od, es, ep, k _ _ (.inr d) e2, c⟩, r⟩
  | own y => obtain ⟨ob, e⟩ := x; exact ⟨ob, k _ _ (.inl rfl) e⟩
  | xd fs => obtain ⟨mA, ⟨od, es, ep, e, c⟩, r⟩ := x; exact ⟨mA, ⟨od, es, ep, k _ _ (.inl rfl) e, c⟩, r⟩
  | rng lo hi => obtain ⟨t, u, v, e⟩ := x; exact ⟨t, u, v, k _ _ (.inl rfl) e⟩
  | frz ob u ih => obtain ⟨e, q⟩ := x; exact ⟨k _ _ (.inl rfl) e, ih q⟩
  | tbl ps =>
    have e : h.get? a = some { cls := .none, data := .fields ps } := x
    show h'.get? a = some { cls := .none, data := .fields ps }
    exact k a _ (.inl rfl) e
  | met f y =>
    have e : h.get? a = some (PySem.W.methodObj (.ref f) (.ref y)) := x
    show h'.get? a = some (PySem.W.methodObj (.ref f) (.ref y))
    exact k a _ (.inl rfl) e
  | ext φ => obtain ⟨p, ⟨o, e⟩, st⟩ := x; exact ⟨st _ _ p fun o q => k _ _ (.inl rfl) q, ⟨o, k _ _ (.inl rfl) e⟩, st⟩
theorem HOk.lt (x : HOk P w H h) (e : H a = some o) : a < h.objs.size := (x a o e).lt
theorem HOk.fresh (x : HOk P w H h) (e : h.objs.size ≤ a) : H a = none := by
  cases q : H a with
  | none => rfl
  | some u => exact absurd (Nat.lt_of_lt_of_le (x.lt q) e) (Nat.lt_irrefl _)
/-- every object of the heap is kept -/
theorem HOk.kept (x : HOk P w H h) (k : ∀ b u, h.get? b = some u → h'.get? b = some u) : HOk P w H h' := fun a o e =>
  (x a o e).stay (fun b u _ q => k b u q) (fun _ q => q) fun _ _ q => q
/-- a new object is laid and tracked -/
theorem HOk.laid (x : HOk P w H h) (k : ∀ b u, h.get? b = some u → h'.get? b = some u) (hp : h.objs.size ≤ a) (new : ObjOk P w (upd H a o) h' a o) : HOk P w (upd H a o) h' := fun b u e => by
  have hn := x.fresh hp
  by_cases hb : b = a
  · subst hb; rw [upd_same] at e; cases e; exact new
  · rw [upd_ne hb] at e
    exact (x b u e).stay (fun c v _ q => k c v q) (fun c q => by rw [upd_ne (ne_of_none q hn)]; exact q) fun c xs q => by rw [upd_ne (ne_of_none q hn)]; exact q
end

/-- what may be read as u: it is u, or a known u -/
def Rd (H : Hp) (a : Addr) (u : HO) : Prop := H a = some u ∨ ∃ o, H a = some (.frz o u)
theorem Rd.ok {P : Program} {w : World} {H : Hp} {h : Heap} {a : Addr} {u : HO} (r : Rd H a u) (x : HOk P w H h) : ObjOk P w H h a u := by
  rcases r with r | ⟨o, r⟩
  · exact x a u r
  · obtain ⟨_, q⟩ := x a _ r
    exact q
/-- what may be written -/
def Mut : Option HO → Prop
  | some (.lst _) => True
  | some (.dK _) => True
  | some (.dT _) => True
  | some (.set _ _) => True
  | some (.ins _ _ _) => True
  | some (.ext _) => True
  | _ => False
section
variable {P : Program} {w : World} {H : Hp} {h h' : Heap} {x e : Addr} {o' : HO}
/-- the object at e is changed: x itself, or the dict of the instance x -/
theorem HOk.write (ok : HOk P w H h) (mu : Mut (H x)) (he : e = x ∨ H e = some (.own x)) (k : ∀ b u, b ≠ e → h.get? b = some u → h'.get? b = some u) (heo : ∃ u, h'.get? e = some u)
    (new : ObjOk P w (upd H x o') h' x o') : HOk P w (upd H x o') h' := fun b u q => by
  have nown : ∀ c y, H c = some (.own y) → c ≠ x := fun c y r z => by subst z; rw [r] at mu; exact mu
  have ntup : ∀ c xs, H c = some (.tup xs) → c ≠ x := fun c xs r z => by subst z; rw [r] at mu; exact mu
  by_cases hb : b = x
  · subst hb; rw [upd_same] at q; cases q; exact new
  · rw [upd_ne hb] at q
    by_cases hbe : b = e
    · have q' : H b = some (.own x) := by
        rcases he with z | z
        · exact absurd (hbe.trans z) hb
        · rw [hbe]; exact z
      rw [q] at q'; cases q'
      obtain ⟨v, hv⟩ := heo
      exact ⟨v, by rw [hbe]; exact hv⟩
    · refine (ok b u q).stay (fun c v hc r => k c v ?_ r) (fun c r => by rw [upd_ne (nown c b r)]; exact r) fun c xs r => by rw [upd_ne (ntup c xs r)]; exact r
      rcases hc with rfl | hc
      · exact hbe
      · rintro rfl
        rcases he with z | z
        · exact nown c b hc z
        · rw [hc] at z; cases z; exact hb rfl
end

/-! ### kept unless tracked; of the frames at fs (the callers') the slots may change (an exception that passes writes there); of the records at ex (iterators) nothing is said -/
structure Un (fs ex : List Addr) (H H' : Hp) (h h' : Heap) : Prop where
  keep : ∀ b o, h.get? b = some o → H b = none → b ∉ fs → b ∉ ex → h'.get? b = some o
  slot : ∀ b o, h.get? b = some o → H b = none → b ∈ fs → b ∉ ex → ∃ sl, h'.get? b = some { o with slots := sl }
  free : ∀ b o, h.get? b = some o → H b = none → b ∉ ex → H' b = none
  there : ∀ b o, h.get? b = some o → b ∉ ex → ∃ o', h'.get? b = some o'
  tups : ∀ b xs, H b = some (.tup xs) → H' b = some (.tup xs)
  frzs : ∀ b o u, H b = some (.frz o u) → H' b = some (.frz o u)
  tbls : ∀ b ps, H b = some (.tbl ps) → ∃ more, H' b = some (.tbl (ps ++ more))
section
variable {fs fs' ex ex' : List Addr} {H H1 H2 : Hp} {h h1 h2 h' : Heap} {a x e : Addr} {o : HO}
theorem Un.any (u : Un fs ex H H1 h h1) {b : Addr} {ob : Obj} (q : h.get? b = some ob) (n : H b = none) (hx : b ∉ ex) : ∃ sl, h1.get? b = some { ob with slots := sl } := by
  by_cases hb : b ∈ fs
  · exact u.slot b ob q n hb hx
  · exact ⟨ob.slots, u.keep b ob q n hb hx⟩
theorem Un.kept (k : ∀ b u, h.get? b = some u → h'.get? b = some u) : Un fs ex H H h h' :=
  ⟨fun b ob q _ _ _ => k b ob q, fun b ob q _ _ _ => ⟨ob.slots, k b ob q⟩, fun _ _ _ n _ => n, fun b ob q _ => ⟨ob, k b ob q⟩, fun _ _ q => q, fun _ _ _ q => q, fun _ ps q => ⟨#[], by rw [q]; simp⟩⟩
theorem Un.refl : Un fs ex H H h h := Un.kept fun _ _ q => q
theorem Un.laid (k : ∀ b u, h.get? b = some u → h'.get? b = some u) (hp : h.objs.size ≤ a) (hn : H a = none) : Un fs ex H (upd H a o) h h' where
  keep := fun b u q _ _ _ => k b u q
  slot := fun b u q _ _ _ => ⟨u.slots, k b u q⟩
  free := fun b u q n _ => by rw [upd_ne (Nat.ne_of_lt (Nat.lt_of_lt_of_le (Heap.lt_size q) hp))]; exact n
  there := fun b u q _ => ⟨u, k b u q⟩
  tups := fun b xs q => by rw [upd_ne (ne_of_none q hn)]; exact q
  frzs := fun b u xs q => by rw [upd_ne (ne_of_none q hn)]; exact q
  tbls := fun b ps q => ⟨#[], by rw [upd_ne (ne_of_none q hn), q]; simp⟩
theorem Un.write (mu : Mut (H x)) (he : e = x ∨ H e = some (.own x)) (k : ∀ b u, b ≠ e → h.get? b = some u → h'.get? b = some u) (heo : ∃ u, h'.get? e = some u) : Un fs ex H (upd H x o) h h' := by
  have hx : ∀ b, H b = none → b ≠ x := fun b n z => by subst z; rw [n] at mu; exact mu
  have hb : ∀ b, H b = none → b ≠ e := fun b n z => by
    subst z
    rcases he with r | r
    · exact hx b n r
    · rw [n] at r; cases r
  have hm : ∀ b u, H b = some u → ¬ Mut (some u) → b ≠ x := fun b u q nm z => by subst z; rw [q] at mu; exact nm mu
  refine ⟨fun b u q n _ _ => k b u (hb b n) q, fun b u q n _ _ => ⟨u.slots, k b u (hb b n) q⟩, fun b u q n _ => by rw [upd_ne (hx b n)]; exact n, fun b u q _ => ?_,
    fun b xs q => by rw [upd_ne (hm b _ q fun z => z)]; exact q, fun b u xs q => by rw [upd_ne (hm b _ q fun z => z)]; exact q, fun b ps q => ⟨#[], by rw [upd_ne (hm b _ q fun z => z), q]; simp⟩⟩
  by_cases hbe : b = e
  · subst hbe; exact heo
  · exact ⟨u, k b u hbe q⟩
end

/-! ### the heap without what is tracked -/
def trk (h : Heap) (H : Hp) : List Addr := (List.range h.objs.size).filter fun a => (H a).isSome
def hidT (h : Heap) (H : Hp) : Heap := PySem.W.hideAll h (trk h H)
theorem hidT_size (h : Heap) (H : Hp) : (hidT h H).objs.size = h.objs.size := PySem.W.hideAll_size _ _
theorem hidT_get {h : Heap} {H : Hp} {b : Addr} {o : Obj} (e : h.get? b = some o) (n : H b = none) : (hidT h H).get? b = some o :=
  PySem.W.hideAll_get _ e fun hm => by
    have q : (H b).isSome = true := (List.mem_filter.mp hm).2
    rw [n] at q; simp at q
theorem of_hidT {h : Heap} {H : Hp} {b : Addr} {o : Obj} (e : (hidT h H).get? b = some o) : h.get? b = some o ∧ H b = none := by
  have e' : h.get? b = some o := PySem.W.of_hideAll (trk h H) e
  refine ⟨e', ?_⟩
  cases q : H b with
  | none => rfl
  | some x =>
    have hm : b ∈ trk h H := List.mem_filter.mpr ⟨List.mem_range.mpr (Heap.lt_size e'), by simp [q]⟩
    have z : (hidT h H).get? b = none := PySem.W.hideAll_none (trk h H) hm
    rw [z] at e; cases e

/-! ### OpenK's ledger, filled with every new object but one -/
end L2

namespace L2
open PySem PySem.Spec PyProof.Rows

/-- the module's facts, over the base: the heap at the law's entry without what is tracked there -/
structure Mod (K : PySem.W.Frag) (mg : Str → Option Value) (base : Heap) : Prop where
  kin : K.In base
  glob : base.Ns mainGlobals mg
  blt : ∃ mb, base.Ns builtinsNs mb ∧ ∀ x : Str, x ≠ "__name__" → mb x = bootBuiltins x
  nolimit : base.NoLimit

/-- the context: a def's body (or a comprehension's block) running. base: fixed through the whole law; s₀, H₀: the entry; outer: the frames whose slots others may change (a def's callers); stack: all frames that run;
   ex: iterators that were made ahead of the entry and are walked here (a comprehension's); fn: the names whose cells were made at the entry (a def: all; a comprehension's block: its own); calm: not within an except suite; pn: pins that every state bears; xe: what is wanted of an exception that leaves the code -/
structure Cx where
  prog : Program
  w : World
  K : PySem.W.Frag
  mg : Str → Option Value
  base : Heap
  A : Around
  N : List Str
  s₀ : Shared
  H₀ : Hp
  env : Env
  outer : List Env
  stack : List Env
  ex : List Addr
  fn : Str → Bool
  calm : Bool
  pn : List (Addr × Obj)
  xe : Value → Shared → Prop
/-- the callers' frames -/
def frs (l : List Env) : List Addr := l.filterMap (·.frame)
abbrev Cx.fs (X : Cx) : List Addr := frs X.outer

def Vis (sc : Scope) (x : Str) : Prop := sc.names.lookup x = some .local ∨ sc.names.lookup x = some .cell ∨ sc.names.lookup x = some .free
def Loc (sc : Scope) (x : Str) : Prop := sc.names.lookup x = some .local ∨ sc.names.lookup x = some .cell
def Look (env : Env) (h : Heap) (m : Str → Option Value) (x : Str) (u : Value) : Prop :=
  (env.kindOf x = some .local ∧ m x = some u) ∨ ((env.kindOf x = some .cell ∨ env.kindOf x = some .free) ∧ ∃ c, env.cells.lookup x = some c ∧ h.IsCell c (some u))

structure Cx.Ok (X : Cx) : Prop where
  mod : Mod X.K X.mg X.base
  kind : X.env.scope.kind = .function
  glob : X.env.globals = mainGlobals
  blt : X.env.builtins = builtinsNs
  above : X.s₀.heap.objs.size ≤ X.env.locals
  inj : ∀ x y c, X.env.cells.lookup x = some c → X.env.cells.lookup y = some c → x = y
  has : ∀ x, (X.env.kindOf x = some .cell ∨ X.env.kindOf x = some .free) → ∃ c, X.env.cells.lookup x = some c
  cab : ∀ x c, X.fn x = true → X.env.cells.lookup x = some c → X.s₀.heap.objs.size ≤ c
  hd : X.calm = true → X.A.handled = none
  frames : X.A.frames = some X.stack
  stk : X.stack = X.outer ∨ (X.stack = X.env :: X.outer ∧ X.env.frame = some X.env.locals)
  exf : ∀ b ∈ X.ex, b ≠ X.env.locals ∧ ∀ x c, X.env.cells.lookup x = some c → c ≠ b
  bs : ∀ b o, X.base.get? b = some o → X.s₀.heap.get? b = some o ∧ X.H₀ b = none
  bsz : X.base.objs.size ≤ X.s₀.heap.objs.size
  noex : ∀ b o, X.base.get? b = some o → b ∉ X.ex
  exfs : ∀ b ∈ X.ex, b ∉ X.fs
  funs : X.s₀.heap.FunFrames X.base X.outer
  frf : ∀ b ∈ X.fs, X.H₀ b = none

structure Inv (X : Cx) (pins : List (Addr × Obj)) (σ : List (Option V)) (H : Hp) (s : Shared) : Prop where
  ok : X.Ok
  os : s.os = X.s₀.os
  bare : AllBare s.gens
  base : Un X.fs X.ex X.H₀ H X.s₀.heap s.heap
  loc : ∃ m, s.heap.Ns X.env.locals m ∧ ∀ (i : Nat) (x : Str) (v : V), X.N[i]? = some x → σ[i]? = some (some v) → Vis X.env.scope x → ∃ u, RelV v u ∧ Look X.env s.heap m x u
  cell : ∀ x c, X.env.cells.lookup x = some c → ∃ v, s.heap.IsCell c v
  free : H X.env.locals = none
  freeC : ∀ x c, X.env.cells.lookup x = some c → H c = none
  pin : ∀ p ∈ X.pn ++ pins, s.heap.get? p.1 = some p.2 ∧ H p.1 = none ∧ p.1 ≠ X.env.locals ∧ p.1 ∉ X.fs ∧ ∀ v, p.2.data ≠ .cell v
  hok : HOk X.prog X.w H s.heap
  len : σ.length = X.N.length

section
variable {X : Cx} {pins : List (Addr × Obj)} {σ : List (Option V)} {H H' : Hp} {s : Shared} {h' : Heap}

theorem Cx.Ok.nofr (ok : X.Ok) {b : Addr} {o : Obj} (e : X.base.get? b = some o) : b ∉ X.fs := fun hb => by
  have := (ok.funs.mem hb).1
  rw [e] at this; cases this
theorem Inv.bs (I : Inv X pins σ H s) : ∀ b o, X.base.get? b = some o → s.heap.get? b = some o ∧ H b = none := fun b o e =>
  ⟨I.base.keep b o (I.ok.bs b o e).1 (I.ok.bs b o e).2 (I.ok.nofr e) (I.ok.noex b o e), I.base.free b o (I.ok.bs b o e).1 (I.ok.bs b o e).2 (I.ok.noex b o e)⟩
theorem Inv.bk (I : Inv X pins σ H s) : ∀ b o, X.base.get? b = some o → s.heap.get? b = some o := fun b o e => (I.bs b o e).1
theorem Inv.mod (I : Inv X pins σ H s) : Mod X.K X.mg X.base := I.ok.mod
theorem Inv.kIn (I : Inv X pins σ H s) : X.K.In s.heap := I.ok.mod.kin.keeps I.bk
theorem Inv.lt (I : Inv X pins σ H s) : X.env.locals < s.heap.objs.size := let ⟨_, hn, _⟩ := I.loc; hn.lt
theorem Inv.sz (I : Inv X pins σ H s) : X.s₀.heap.objs.size ≤ s.heap.objs.size := Nat.le_trans I.ok.above (Nat.le_of_lt I.lt)
theorem Inv.nofs (I : Inv X pins σ H s) {a : Addr} (h : s.heap.objs.size ≤ a) : a ∉ X.fs := fun hb => by
  obtain ⟨_, o, ho, _⟩ := I.ok.funs.mem hb
  exact absurd (Nat.lt_of_lt_of_le (Heap.lt_size ho) (Nat.le_trans I.sz h)) (Nat.lt_irrefl _)
theorem Inv.cne (I : Inv X pins σ H s) : ∀ x c, X.env.cells.lookup x = some c → c ≠ X.env.locals := fun x c e z => by
  obtain ⟨v, o, ho, hd⟩ := I.cell x c e
  obtain ⟨m, ⟨o', es, ep, ho', hd', _⟩, _⟩ := I.loc
  rw [z, ho'] at ho; cases ho; rw [hd'] at hd; cases hd
theorem Inv.funs (I : Inv X pins σ H s) : s.heap.FunFrames X.base X.outer := by
  have all : ∀ (l : List Env), (∀ b ∈ frs l, b ∈ X.fs) → X.s₀.heap.FunFrames X.base l → s.heap.FunFrames X.base l := by
    intro l
    induction l with
    | nil => intro _ _; trivial
    | cons env r ih =>
      intro hs hl
      obtain ⟨hk, ⟨L, o, hf, hn, ho, hd⟩, hr⟩ := hl
      have hL : L ∈ X.fs := hs L (by unfold frs; rw [List.filterMap_cons, hf]; exact List.mem_cons_self)
      obtain ⟨sl, e⟩ := I.base.slot L o ho (I.ok.frf L hL) hL fun z => I.ok.exfs L z hL
      exact ⟨hk, ⟨L, _, hf, hn, e, hd⟩, ih (fun b hb => hs b (by unfold frs; rw [List.filterMap_cons, hf]; exact List.mem_cons_of_mem _ hb)) hr⟩
  exact all X.outer (fun _ hb => hb) I.ok.funs

/-- the frames that run, for a call -/
theorem Inv.stack (I : Inv X pins σ H s) : s.heap.FunFrames X.base X.stack := by
  rcases I.ok.stk with e | ⟨e, hf⟩
  · rw [e]; exact I.funs
  · rw [e]
    obtain ⟨m, hn, _⟩ := I.loc
    refine .cons (by rw [I.ok.kind]; decide) hf hn ?_ I.funs
    exact Heap.get?_none_of_le (Nat.le_trans I.ok.bsz I.ok.above)
theorem Inv.stkSub (I : Inv X pins σ H s) : ∀ b ∈ frs X.stack, b ∈ X.env.locals :: X.fs := fun b hb => by
  rcases I.ok.stk with e | ⟨e, hf⟩
  · rw [e] at hb; exact List.mem_cons_of_mem _ hb
  · rw [e] at hb
    unfold frs at hb
    rw [List.filterMap_cons, hf] at hb
    exact hb
theorem Inv.stkFree (I : Inv X pins σ H s) : ∀ b ∈ frs X.stack, H b = none := fun b hb => by
  rcases List.mem_cons.mp (I.stkSub b hb) with e | hb
  · rw [e]; exact I.free
  · obtain ⟨_, o, ho, _⟩ := I.ok.funs.mem hb
    exact I.base.free b o ho (I.ok.frf b hb) fun z => I.ok.exfs b z hb

/-- THE STEP: the untracked objects but the frame and the records at ch are kept (the callers' frames up to slots), the frame's map is kept, the new abstract heap is held -/
theorem Inv.step {g' : Array GenState} {t' : Nat} {d' : Drawn} {ch : List Addr} (I : Inv X pins σ H s)
    (hch : ∀ b ∈ ch, (b ∈ X.ex ∨ X.s₀.heap.objs.size ≤ b) ∧ b ≠ X.env.locals ∧ (∀ x c, X.env.cells.lookup x = some c → c ≠ b) ∧ ∀ p ∈ X.pn ++ pins, p.1 ≠ b)
    (keep : ∀ b o, b ≠ X.env.locals → b ∉ X.fs → b ∉ ch → s.heap.get? b = some o → H b = none → h'.get? b = some o)
    (slot : ∀ b o, b ≠ X.env.locals → b ∈ X.fs → b ∉ ch → s.heap.get? b = some o → H b = none → ∃ sl, h'.get? b = some { o with slots := sl }) (free : ∀ b o, b ∉ ch → s.heap.get? b = some o → H b = none → H' b = none)
    (there : ∀ b o, b ∉ ch → s.heap.get? b = some o → ∃ o', h'.get? b = some o')
    (tups : ∀ b xs, H b = some (.tup xs) → H' b = some (.tup xs)) (frzs : ∀ b o u, H b = some (.frz o u) → H' b = some (.frz o u)) (tbls : ∀ b ps, H b = some (.tbl ps) → ∃ more, H' b = some (.tbl (ps ++ more)))
    (ns : ∀ m, s.heap.Ns X.env.locals m → h'.Ns X.env.locals m) (hok : HOk X.prog X.w H' h') (hg : AllBare g') :
    Inv X pins σ H' { s with heap := h', gens := g', drawn := d', toks := t' } := by
  have neL : ∀ b o, X.s₀.heap.get? b = some o → b ≠ X.env.locals := fun b o e => Nat.ne_of_lt (Nat.lt_of_lt_of_le (Heap.lt_size e) I.ok.above)
  have neC : ∀ b o, X.s₀.heap.get? b = some o → b ∉ X.ex → b ∉ ch := fun b o e hx hb => by
    rcases (hch b hb).1 with z | z
    · exact hx z
    · exact absurd (Nat.lt_of_lt_of_le (Heap.lt_size e) z) (Nat.lt_irrefl _)
  have cellK : ∀ x c, X.env.cells.lookup x = some c → ∀ v, s.heap.IsCell c v → h'.IsCell c v := fun x c e v ⟨o, ho, hd⟩ => by
    have nch : c ∉ ch := fun z => (hch c z).2.2.1 x c e rfl
    by_cases hc : c ∈ X.fs
    · obtain ⟨sl, q⟩ := slot c o (I.cne x c e) hc nch ho (I.freeC x c e)
      exact ⟨_, q, hd⟩
    · exact ⟨o, keep c o (I.cne x c e) hc nch ho (I.freeC x c e), hd⟩
  refine ⟨I.ok, I.os, hg, ⟨fun b o e n hb hx => ?_, fun b o e n hb hx => ?_, fun b o e n hx => ?_, fun b o e hx => ?_, fun b xs e => tups b xs (I.base.tups b xs e), fun b o xs e => frzs b o xs (I.base.frzs b o xs e), fun b ps e => ?_⟩, ?_, fun x c e => ?_, ?_, fun x c e => ?_, fun p hp => ?_, hok, I.len⟩
  · exact keep b o (neL b o e) hb (neC b o e hx) (I.base.keep b o e n hb hx) (I.base.free b o e n hx)
  · obtain ⟨sl, e1⟩ := I.base.slot b o e n hb hx
    obtain ⟨sl', e2⟩ := slot b _ (neL b o e) hb (neC b o e hx) e1 (I.base.free b o e n hx)
    exact ⟨sl', e2⟩
  · obtain ⟨o', e1⟩ := I.base.there b o e hx
    exact free b o' (neC b o e hx) e1 (I.base.free b o e n hx)
  · obtain ⟨o', e1⟩ := I.base.there b o e hx
    exact there b o' (neC b o e hx) e1
  · obtain ⟨m1, e1⟩ := I.base.tbls b ps e
    obtain ⟨m2, e2⟩ := tbls b _ e1
    exact ⟨m1 ++ m2, by rw [e2, Array.append_assoc]⟩
  · obtain ⟨m, hn, hl⟩ := I.loc
    refine ⟨m, ns m hn, fun i x v e1 e2 e3 => ?_⟩
    obtain ⟨u, r, l⟩ := hl i x v e1 e2 e3
    refine ⟨u, r, ?_⟩
    rcases l with l | ⟨k, c, e, z⟩
    · exact .inl l
    · exact .inr ⟨k, c, e, cellK x c e _ z⟩
  · obtain ⟨v, z⟩ := I.cell x c e
    exact ⟨v, cellK x c e v z⟩
  · obtain ⟨m, ⟨o, _, _, ho, _⟩, _⟩ := I.loc
    exact free _ o (fun z => (hch _ z).2.1 rfl) ho I.free
  · obtain ⟨v, o, ho, hd⟩ := I.cell x c e
    exact free c o (fun z => (hch c z).2.2.1 x c e rfl) ho (I.freeC x c e)
  · obtain ⟨e, n, ne, nf, d⟩ := I.pin p hp
    have nch : p.1 ∉ ch := fun z => (hch p.1 z).2.2.2 p hp rfl
    exact ⟨keep p.1 p.2 ne nf nch e n, free p.1 p.2 nch e n, ne, nf, d⟩
/-- .. where the frame's own object is kept too -/
theorem Inv.un {t' : Nat} (I : Inv X pins σ H s) (u : Un X.fs [] H H' s.heap h') (hok : HOk X.prog X.w H' h') : Inv X pins σ H' { s with heap := h', toks := t' } := by
  obtain ⟨m, ⟨o, es, ep, ho, r⟩, _⟩ := id I.loc
  obtain ⟨sl, hL⟩ := u.any ho I.free (by simp)
  exact I.step (g' := s.gens) (d' := s.drawn) (ch := []) (fun _ z => nomatch z) (fun b o _ hb _ e n => u.keep b o e n hb (by simp)) (fun b o _ hb _ e n => u.slot b o e n hb (by simp)) (fun b o _ e n => u.free b o e n (by simp)) (fun b o _ e => u.there b o e (by simp)) u.tups u.frzs u.tbls (fun m' hm => by
    obtain ⟨o', es', ep', ho', r'⟩ := hm
    rw [ho] at ho'; cases ho'
    exact ⟨_, es', ep', hL, r'⟩) hok I.bare
/-- behind a call (or a comprehension's block): the slots of this frame may have changed too, the records at ch may have turned -/
theorem Inv.call {g' : Array GenState} {t' : Nat} {d' : Drawn} {ch : List Addr} (I : Inv X pins σ H s) (u : Un (frs X.stack) ch H H' s.heap h') (hok : HOk X.prog X.w H' h') (hg : AllBare g')
    (hch : ∀ b ∈ ch, (b ∈ X.ex ∨ X.s₀.heap.objs.size ≤ b) ∧ b ≠ X.env.locals ∧ (∀ x c, X.env.cells.lookup x = some c → c ≠ b) ∧ ∀ p ∈ X.pn ++ pins, p.1 ≠ b) :
    Inv X pins σ H' { s with heap := h', gens := g', drawn := d', toks := t' } := by
  obtain ⟨m, ⟨o, es, ep, ho, r⟩, _⟩ := id I.loc
  obtain ⟨sl, hL⟩ := u.any ho I.free fun z => (hch _ z).2.1 rfl
  exact I.step (ch := ch) hch (fun b o hL hb hc e n => u.keep b o e n (fun z => (List.mem_cons.mp (I.stkSub b z)).elim hL hb) hc) (fun b o _ _ hc e n => u.any e n hc) (fun b o hc e n => u.free b o e n hc) (fun b o hc e => u.there b o e hc) u.tups u.frzs u.tbls (fun m' hm => by
    obtain ⟨o', es', ep', ho', r'⟩ := hm
    rw [ho] at ho'; cases ho'
    exact ⟨_, es', ep', hL, r'⟩) hok hg
/-- an untracked record of ours (an iterator) has turned -/
theorem Inv.turned {t' : Nat} {it : Addr} (I : Inv X pins σ H s) (k : ∀ b o, b ≠ it → s.heap.get? b = some o → h'.get? b = some o) (hn : H it = none) (hL : it ≠ X.env.locals)
    (h1 : it ∈ X.ex ∨ X.s₀.heap.objs.size ≤ it) (h2 : ∀ x c, X.env.cells.lookup x = some c → c ≠ it) (h3 : ∀ p ∈ X.pn ++ pins, p.1 ≠ it) : Inv X pins σ H { s with heap := h', toks := t' } := by
  have nit : ∀ b u, H b = some u → b ≠ it := fun b u e z => by rw [z, hn] at e; cases e
  refine I.step (g' := s.gens) (d' := s.drawn) (ch := [it]) (fun b hb => ?_) (fun b o _ _ hc e _ => k b o (fun z => hc (by simp [z])) e) (fun b o _ _ hc e _ => ⟨o.slots, k b o (fun z => hc (by simp [z])) e⟩) (fun _ _ _ _ n => n)
    (fun b o hc e => ⟨o, k b o (fun z => hc (by simp [z])) e⟩) (fun _ _ e => e) (fun _ _ _ e => e) (fun b ps e => ⟨#[], by rw [e]; simp⟩) (fun m hm => ?_) (fun b u e => ?_) I.bare
  · have e : b = it := by simpa using hb
    subst e
    exact ⟨h1, hL, h2, h3⟩
  · obtain ⟨o, es, ep, ho, r⟩ := hm
    exact ⟨o, es, ep, k _ o (Ne.symm hL) ho, r⟩
  · refine (I.hok b u e).stay (fun c v hc q => k c v ?_ q) (fun _ q => q) fun _ _ q => q
    rcases hc with z | z
    · rw [z]; exact nit b u e
    · exact nit c _ z
theorem Inv.tok (I : Inv X pins σ H s) (t : Nat) : Inv X pins σ H { s with toks := t } := I.un (h' := s.heap) (t' := t) Un.refl I.hok
/-- all objects kept -/
theorem Inv.kept {t' : Nat} (I : Inv X pins σ H s) (k : ∀ b u, s.heap.get? b = some u → h'.get? b = some u) : Inv X pins σ H { s with heap := h', toks := t' } := I.un (Un.kept k) (I.hok.kept k)
/-- a new object laid and tracked -/
theorem Inv.laid {a : Addr} {o : HO} {t' : Nat} (I : Inv X pins σ H s) (k : ∀ b u, s.heap.get? b = some u → h'.get? b = some u) (hp : s.heap.objs.size ≤ a) (new : ObjOk X.prog X.w (upd H a o) h' a o) :
    Inv X pins σ (upd H a o) { s with heap := h', toks := t' } := I.un (Un.laid k hp (I.hok.fresh hp)) (I.hok.laid k hp new)
/-- an object written -/
theorem Inv.write {x e : Addr} {o : HO} {t' : Nat} (I : Inv X pins σ H s) (mu : Mut (H x)) (he : e = x ∨ H e = some (.own x)) (k : ∀ b u, b ≠ e → s.heap.get? b = some u → h'.get? b = some u) (heo : ∃ u, h'.get? e = some u)
    (new : ObjOk X.prog X.w (upd H x o) h' x o) : Inv X pins σ (upd H x o) { s with heap := h', toks := t' } := I.un (Un.write mu he k heo) (I.hok.write mu he k heo new)
theorem Inv.pins_of {pins' : List (Addr × Obj)} (I : Inv X pins σ H s) (h : ∀ p ∈ pins', s.heap.get? p.1 = some p.2 ∧ H p.1 = none ∧ p.1 ≠ X.env.locals ∧ p.1 ∉ X.fs ∧ ∀ v, p.2.data ≠ .cell v) : Inv X pins' σ H s :=
  ⟨I.ok, I.os, I.bare, I.base, I.loc, I.cell, I.free, I.freeC, fun p hp => (List.mem_append.mp hp).elim (fun z => I.pin p (List.mem_append_left _ z)) (h p), I.hok, I.len⟩

theorem nodup_ix {N : List Str} (hN : N.Nodup) {i j : Nat} {x : Str} (a : N[i]? = some x) (b : N[j]? = some x) : i = j := by
  obtain ⟨h1, e1⟩ := List.getElem?_eq_some_iff.mp a
  obtain ⟨h2, e2⟩ := List.getElem?_eq_some_iff.mp b
  exact (List.getElem_inj hN).mp (e1.trans e2.symm)

/-- a name is stored; what changed -/
theorem store_ok2 {M : Model} {A : Around} {E : Value → Shared → Prop} {i : Nat} {x : Str} {v : V} {u : Value} {Q : Unit → Shared → Prop} (I : Inv X pins σ H s) (hN : X.N.Nodup) (hi : X.N[i]? = some x) (hx : Loc X.env.scope x) (r : RelV v u)
    (h : ∀ s', Inv X pins (σ.set i (some v)) H s' → (∃ a, Heap.SameBut a s.heap s'.heap ∧ (a = X.env.locals ∨ X.env.cells.lookup x = some a)) → Q () s') (hf : X.fn x = true ∨ X.env.scope.names.lookup x = some .local := by first | exact .inl rfl | exact .inr rfl | assumption) : wpAny M A (storeName X.env x u) Q E s := by
  obtain ⟨m, hn, hl⟩ := id I.loc
  have hcls : (X.env.scope.kind == .class || (X.env.scope.kind == .module && X.env.locals != X.env.globals)) = false := by rw [I.ok.kind]; rfl
  have hiσ : i < σ.length := by rw [I.len]; exact (List.getElem?_eq_some_iff.mp hi).1
  have cne := I.cne
  have tracked : ∀ {a : Addr} {h' : Heap}, (∃ o, s.heap.get? a = some o ∧ H a = none) → Heap.SameBut a s.heap h' → HOk X.prog X.w H h' := fun {a h'} ha hs b ob e => by
    obtain ⟨_, _, hfree⟩ := ha
    refine (I.hok b ob e).stay (fun c w' hc q => (hs.2 c ?_).trans q) (fun _ q => q) fun _ _ q => q
    rintro rfl
    rcases hc with rfl | hc
    · rw [hfree] at e; cases e
    · rw [hfree] at hc; cases hc
  rcases hx with hk | hk
  · refine wpAny_storeName_local hk hn (fun h' hn' hs => ?_) hcls
    obtain ⟨oL, _, _, hoL, _⟩ := id hn
    refine h _ ⟨I.ok, I.os, I.bare, ⟨fun b o e n hb hx => ?_, fun b o e n hb hx => ?_, I.base.free, fun b o e hx => ?_, I.base.tups, I.base.frzs, I.base.tbls⟩, ⟨_, hn', fun j y v' e1 e2 e3 => ?_⟩, fun y c e => ?_, I.free, I.freeC, fun p hp => ?_, tracked ⟨oL, hoL, I.free⟩ hs, by simpa using I.len⟩ ⟨_, hs, .inl rfl⟩
    · exact (hs.2 b (Nat.ne_of_lt (Nat.lt_of_lt_of_le (Heap.lt_size e) I.ok.above))).trans (I.base.keep b o e n hb hx)
    · obtain ⟨sl, e1⟩ := I.base.slot b o e n hb hx
      exact ⟨sl, (hs.2 b (Nat.ne_of_lt (Nat.lt_of_lt_of_le (Heap.lt_size e) I.ok.above))).trans e1⟩
    · obtain ⟨o', e1⟩ := I.base.there b o e hx
      exact ⟨o', (hs.2 b (Nat.ne_of_lt (Nat.lt_of_lt_of_le (Heap.lt_size e) I.ok.above))).trans e1⟩
    · by_cases hj : j = i
      · subst hj
        rw [hi] at e1; cases e1
        rw [List.getElem?_set_self hiσ] at e2
        cases e2
        exact ⟨u, r, .inl ⟨hk, by simp⟩⟩
      · rw [List.getElem?_set_ne (Ne.symm hj)] at e2
        obtain ⟨u', r', q⟩ := hl j y v' e1 e2 e3
        refine ⟨u', r', ?_⟩
        rcases q with ⟨k, e⟩ | ⟨k, c, e, z⟩
        · refine .inl ⟨k, ?_⟩
          have : y ≠ x := fun e => hj (nodup_ix hN e1 (e ▸ hi))
          simp [this, e]
        · exact .inr ⟨k, c, e, z.sameBut hs (cne y c e)⟩
    · obtain ⟨w', z⟩ := I.cell y c e
      exact ⟨w', z.sameBut hs (cne y c e)⟩
    · obtain ⟨e, n, ne, nf, d⟩ := I.pin p hp
      exact ⟨(hs.2 p.1 ne).trans e, n, ne, nf, d⟩
  · have hfn : X.fn x = true := by
      rcases hf with z | z
      · exact z
      · rw [z] at hk; cases hk
    obtain ⟨c, hc⟩ := I.ok.has x (.inl hk)
    obtain ⟨w', z⟩ := I.cell x c hc
    refine wpAny_storeName_cell I.ok.kind hk hc z (fun h' hc' hs => ?_)
    obtain ⟨oc, hoc, hocd⟩ := id z
    refine h { s with heap := h' } ⟨I.ok, I.os, I.bare, ⟨fun b o e n hb hx => ?_, fun b o e n hb hx => ?_, I.base.free, fun b o e hx => ?_, I.base.tups, I.base.frzs, I.base.tbls⟩, ⟨m, hn.sameBut hs (Ne.symm (cne x c hc)), fun j y v' e1 e2 e3 => ?_⟩, fun y c' e => ?_, I.free, I.freeC, fun p hp => ?_, tracked ⟨oc, hoc, I.freeC x c hc⟩ hs, by simpa using I.len⟩ ⟨c, hs, .inr hc⟩
    · exact (hs.2 b (Nat.ne_of_lt (Nat.lt_of_lt_of_le (Heap.lt_size e) (I.ok.cab x c hfn hc)))).trans (I.base.keep b o e n hb hx)
    · obtain ⟨sl, e1⟩ := I.base.slot b o e n hb hx
      exact ⟨sl, (hs.2 b (Nat.ne_of_lt (Nat.lt_of_lt_of_le (Heap.lt_size e) (I.ok.cab x c hfn hc)))).trans e1⟩
    · obtain ⟨o', e1⟩ := I.base.there b o e hx
      exact ⟨o', (hs.2 b (Nat.ne_of_lt (Nat.lt_of_lt_of_le (Heap.lt_size e) (I.ok.cab x c hfn hc)))).trans e1⟩
    · by_cases hj : j = i
      · subst hj
        rw [hi] at e1; cases e1
        rw [List.getElem?_set_self hiσ] at e2
        cases e2
        exact ⟨u, r, .inr ⟨.inl hk, c, hc, hc'⟩⟩
      · rw [List.getElem?_set_ne (Ne.symm hj)] at e2
        obtain ⟨u', r', q⟩ := hl j y v' e1 e2 e3
        refine ⟨u', r', ?_⟩
        rcases q with q | ⟨k, c', e, z'⟩
        · exact .inl q
        · refine .inr ⟨k, c', e, z'.sameBut hs ?_⟩
          rintro rfl
          exact hj (nodup_ix hN e1 (I.ok.inj _ _ _ e hc ▸ hi))
    · by_cases hcc : c' = c
      · subst hcc; exact ⟨_, hc'⟩
      · obtain ⟨w2, z2⟩ := I.cell y c' e
        exact ⟨w2, z2.sameBut hs hcc⟩
    · obtain ⟨e, n, ne, nf, d⟩ := I.pin p hp
      refine ⟨(hs.2 p.1 ?_).trans e, n, ne, nf, d⟩
      intro q
      rw [q, hoc] at e
      have q' : oc = p.2 := Option.some.inj e
      exact d w' (by rw [← q']; exact hocd)
theorem store_ok {M : Model} {A : Around} {E : Value → Shared → Prop} {i : Nat} {x : Str} {v : V} {u : Value} {Q : Unit → Shared → Prop} (I : Inv X pins σ H s) (hN : X.N.Nodup) (hi : X.N[i]? = some x) (hx : Loc X.env.scope x) (r : RelV v u)
    (h : ∀ s', Inv X pins (σ.set i (some v)) H s' → Q () s') (hf : X.fn x = true ∨ X.env.scope.names.lookup x = some .local := by first | exact .inl rfl | exact .inr rfl | assumption) : wpAny M A (storeName X.env x u) Q E s :=
  store_ok2 I hN hi hx r (fun s' I' _ => h s' I') hf
/-- behind a call or a block, the state as it is -/
theorem Inv.call' {s' : Shared} {ch : List Addr} (I : Inv X pins σ H s) (ho : s'.os = s.os) (u : Un (frs X.stack) ch H H' s.heap s'.heap) (hok : HOk X.prog X.w H' s'.heap) (hg : AllBare s'.gens)
    (hch : ∀ b ∈ ch, (b ∈ X.ex ∨ X.s₀.heap.objs.size ≤ b) ∧ b ≠ X.env.locals ∧ (∀ x c, X.env.cells.lookup x = some c → c ≠ b) ∧ ∀ p ∈ X.pn ++ pins, p.1 ≠ b) : Inv X pins σ H' s' := by
  obtain ⟨h', g', d', t', o'⟩ := s'
  have e : o' = s.os := ho
  subst e
  exact I.call (g' := g') (t' := t') (d' := d') u hok hg hch
end

/-! ### the judgements -/
/-- an exception: its class, its own dict's address (where it has one), the abstract heap behind it -/
abbrev XK := Value → Option Addr → Hp → Prop
abbrev St := List (Option V)
abbrev VK := V → Hp → Prop
/-- an expression's reading; a test's; an argument list's -/
abbrev TE := St → Hp → VK → Prop
abbrev TT := St → Hp → (Bool → Hp → Prop) → Prop
abbrev TA := St → Hp → (List V → Hp → Prop) → Prop
/-- what is wanted behind a statement -/
structure Ends where
  nx : St → Hp → Prop
  rt : VK
  bk : St → Hp → Prop := fun _ _ => False
  ct : St → Hp → Prop := fun _ _ => False
abbrev TS := Ends → St → Hp → Prop

def EP (X : Cx) (pins : List (Addr × Obj)) (σ : St) (Q : VK) (u : Value) (s' : Shared) : Prop := ∃ v H', Inv X pins σ H' s' ∧ RelV v u ∧ Q v H'
def TP (X : Cx) (pins : List (Addr × Obj)) (σ : St) (Q : Bool → Hp → Prop) (b : Bool) (s' : Shared) : Prop := ∃ H', Inv X pins σ H' s' ∧ Q b H'
def AP (X : Cx) (pins : List (Addr × Obj)) (σ : St) (Q : List V → Hp → Prop) (us : List Value) (s' : Shared) : Prop := ∃ vs H', Inv X pins σ H' s' ∧ Vals vs us ∧ Q vs H'
def SP (X : Cx) (pins : List (Addr × Obj)) (D : Ends) (f : Flow) (s' : Shared) : Prop :=
  match f with
  | .next => ∃ σ' H', Inv X pins σ' H' s' ∧ D.nx σ' H'
  | .brk => ∃ σ' H', Inv X pins σ' H' s' ∧ D.bk σ' H'
  | .cont => ∃ σ' H', Inv X pins σ' H' s' ∧ D.ct σ' H'
  | .ret u => ∃ v σ' H', Inv X pins σ' H' s' ∧ RelV v u ∧ D.rt v H'

def PE (X : Cx) (e : Expr) (t : TE) : Prop :=
  ∀ (pins : List (Addr × Obj)) (s : Shared) (σ : St) (H : Hp) (Q : VK), Inv X pins σ H s → t σ H Q → wpAny (model X.prog X.w) X.A (eval e X.env) (EP X pins σ Q) X.xe s
def PT (X : Cx) (e : Expr) (t : TT) : Prop :=
  ∀ (pins : List (Addr × Obj)) (s : Shared) (σ : St) (H : Hp) (Q : Bool → Hp → Prop), Inv X pins σ H s → t σ H Q → wpAny (model X.prog X.w) X.A (isTrue e X.env (eval e X.env)) (TP X pins σ Q) X.xe s
/-- a test whatever its 'whole' is (and, or) -/
def PW (X : Cx) (e : Expr) (t : TT) : Prop :=
  ∀ (whole : Sem Value) (pins : List (Addr × Obj)) (s : Shared) (σ : St) (H : Hp) (Q : Bool → Hp → Prop), Inv X pins σ H s → t σ H Q → wpAny (model X.prog X.w) X.A (isTrue e X.env whole) (TP X pins σ Q) X.xe s
theorem PW.pt {X : Cx} {e : Expr} {t : TT} (h : PW X e t) : PT X e t := h _
/-- an argument list (no star), from the left -/
def PA (X : Cx) (es : List Expr) (t : TA) : Prop :=
  ∀ (pos : Pos) (pins : List (Addr × Obj)) (s : Shared) (σ : St) (H : Hp) (Q : List V → Hp → Prop), Inv X pins σ H s → t σ H Q → wpAny (model X.prog X.w) X.A (spliced (backTo pos (starEach es X.env))) (AP X pins σ Q) X.xe s
def PS (X : Cx) (st : Stmt) (t : TS) : Prop :=
  ∀ (pins : List (Addr × Obj)) (s : Shared) (σ : St) (H : Hp) (D : Ends), Inv X pins σ H s → t D σ H → wpAny (model X.prog X.w) X.A (exec st X.env) (SP X pins D) X.xe s
def PSs (X : Cx) (st : List Stmt) (t : TS) : Prop :=
  ∀ (pins : List (Addr × Obj)) (s : Shared) (σ : St) (H : Hp) (D : Ends), Inv X pins σ H s → t D σ H → wpAny (model X.prog X.w) X.A (execs st X.env) (SP X pins D) X.xe s
/-- weaken the end -/
theorem thn {α : Type} {t : Sem α} {Q Q' : α → Shared → Prop} {M : Model} {A : Around} {E : Value → Shared → Prop} {s : Shared} (h : wpAny M A t Q E s) (hQ : ∀ a s, Q a s → Q' a s) : wpAny M A t Q' E s := wpAny_mono h hQ fun _ _ x => x
end L2

namespace L2
open PySem PySem.Spec PyProof.Rows
section
variable {X : Cx}

/-! ### names and constants -/
def tVar (i : Nat) : TE := fun σ H Q => ∃ v, σ[i]? = some (some v) ∧ Q v H
def tC (v : V) : TE := fun _ H Q => Q v H
theorem pe_var {i : Nat} {x : Str} {pos : Pos} (hN : X.N[i]? = some x) (hv : Vis X.env.scope x) (hd : (x == ("__debug__" : Str)) = false := by decide) (hcd : (x == ("__classdict__" : Str)) = false := by decide) : PE X (.Name x pos) (tVar i) := by
  intro pins s σ H Q I h
  obtain ⟨v, e, h⟩ := h
  obtain ⟨m, hn, hl⟩ := I.loc
  obtain ⟨u, r, l⟩ := hl i x v hN e hv
  have fin : EP X pins σ Q u s := ⟨v, H, I, r, h⟩
  rcases l with ⟨hk, hm⟩ | ⟨hk, c, hc, hcell⟩
  · exact wpAny_Name (wpAny_loadName_local I.ok.kind hk hn hm fin) hd
  · rcases hk with hk | hk
    · exact wpAny_Name (wpAny_loadName_cell I.ok.kind hk hc hcell fin) hd
    · exact wpAny_Name (wpAny_loadName_free I.ok.kind hk hc hcell fin hcd) hd
theorem pe_int {i j pos} : PE X (.Constant (.int i) j pos) (tC (.int i)) := fun _ _ _ H _ I h => wpAny_Constant_int ⟨.int i, H, I.tok _, ⟨_, rfl⟩, h⟩
theorem pe_bl {b j pos} : PE X (.Constant (.bool b) j pos) (tC (.bl b)) := fun _ _ _ H _ I h => Constant_bool ⟨.bl b, H, I, rfl, h⟩
theorem pe_non {j pos} : PE X (.Constant .none j pos) (tC .non) := fun _ _ _ H _ I h => Constant_none ⟨.non, H, I, rfl, h⟩
theorem pe_str {x j pos} : PE X (.Constant (.str x) j pos) (tC (.str x)) := fun _ _ _ H _ I h => Calls.Constant_str ⟨.str x, H, I.tok _, ⟨_, rfl⟩, h⟩

/-- a global name of the def -/
def Gl (X : Cx) (x : Str) : Prop := X.env.kindOf x = some .globalImplicit
theorem ld_glob {E : Value → Shared → Prop} {pins : List (Addr × Obj)} {s : Shared} {σ : St} {H : Hp} {x : Str} {u : Value} {pos : Pos} {Q : Value → Shared → Prop} (I : Inv X pins σ H s) (hg : Gl X x) (hm : X.mg x = some u) (h : Q u s)
    (hd : (x == ("__debug__" : Str)) = false := by decide) : wpAny (model X.prog X.w) X.A (eval (.Name x pos) X.env) Q E s :=
  Calls.Name_function_global I.ok.kind hg (Calls.loadGlobal_global (by rw [I.ok.glob]; exact I.mod.glob.keeps I.bk) hm h) hd
theorem ld_blt {E : Value → Shared → Prop} {pins : List (Addr × Obj)} {s : Shared} {σ : St} {H : Hp} {x : Str} {u : Value} {pos : Pos} {Q : Value → Shared → Prop} (I : Inv X pins σ H s) (hg : Gl X x) (hm : X.mg x = none) (hv : bootBuiltins x = some u) (h : Q u s)
    (hn : x ≠ "__name__" := by decide) (hd : (x == ("__debug__" : Str)) = false := by decide) : wpAny (model X.prog X.w) X.A (eval (.Name x pos) X.env) Q E s := by
  obtain ⟨mb, h1, h2⟩ := I.mod.blt
  exact Calls.Name_function_global I.ok.kind hg (Calls.loadGlobal_builtin (by rw [I.ok.glob]; exact I.mod.glob.keeps I.bk) hm (by rw [I.ok.blt]; exact h1.keeps I.bk) ((h2 x hn).trans hv) h) hd
/-- a module's constant, a class, a function, as a value -/
theorem pe_glob {x : Str} {v : V} {u : Value} {pos : Pos} (hg : Gl X x) (hm : X.mg x = some u) (r : RelV v u) (hd : (x == ("__debug__" : Str)) = false := by decide) : PE X (.Name x pos) (tC v) :=
  fun _ _ _ H _ I h => ld_glob I hg hm ⟨v, H, I, r, h⟩ hd
theorem pe_bltn {x : Str} {v : V} {u : Value} {pos : Pos} (hg : Gl X x) (hm : X.mg x = none) (hv : bootBuiltins x = some u) (r : RelV v u) (hn : x ≠ "__name__" := by decide) (hd : (x == ("__debug__" : Str)) = false := by decide) : PE X (.Name x pos) (tC v) :=
  fun _ _ _ H _ I h => ld_blt I hg hm hv ⟨v, H, I, r, h⟩ hn hd

/-! ### arithmetic -/
variable {a b : Expr} {ta tb : TE} {pos : Pos}
/-! ### comparisons -/
def PC (X : Cx) (op : CmpOp) (a b : Expr) (t : TE) : Prop :=
  ∀ (pins : List (Addr × Obj)) (s : Shared) (σ : St) (H : Hp) (Q : VK), Inv X pins σ H s → t σ H Q →
    wpAny (model X.prog X.w) X.A (eval a X.env) (fun v s₁ => wpAny (model X.prog X.w) X.A (eval b X.env) (fun u s₂ => wpAny (model X.prog X.w) X.A (compareOp op v u) (EP X pins σ Q) X.xe s₂) X.xe s₁) X.xe s
/-- a comparison as a value, as a test -/
def tB (t : TE) : TT := fun σ H Q => t σ H fun x H1 => ∃ c, x = .bl c ∧ Q c H1
theorem pt_cmp {op : CmpOp} {t : TE} (h : PC X op a b t) (h1 : behindInMarks op b = false := by first | exact nobehind _ (by decide) (by decide) | rfl) : PT X (.Compare a [op] [b] pos) (tB t) := by
  intro pins s σ H Q I hw
  refine wpAny_isTrue_Compare1 (thn (h pins s σ H _ I hw) fun v s1 h1 => thn h1 fun u s2 h2 => thn h2 fun c s3 ⟨x, H1, I1, r1, q1⟩ => ?_) h1
  obtain ⟨d, rfl, q⟩ := q1
  cases r1
  exact wpAny_truthy_bool ⟨H1, I1, q⟩
/-- an expression whose value is a bool, as a test -/
theorem pt_val {e : Expr} {t : TE} (h : PE X e t) (he : ∀ whole, isTrue e X.env whole = (do let v ← whole; standAt e.pos; holding [v] (truthy v)) := by intro _; rfl) : PT X e (tB t) := by
  intro pins s σ H Q I hw
  refine isTrue_plain (thn (h pins s σ H _ I hw) fun v s1 ⟨x, H1, I1, r1, q1⟩ => ?_) (he _)
  obtain ⟨d, rfl, q⟩ := q1
  cases r1
  exact wpAny_truthy_bool ⟨H1, I1, q⟩

/-! ### and, or, not -/
variable {tA tB' : TT} {rest : List Expr}
def tAnd (t u : TT) : TT := fun σ H Q => t σ H fun c H1 => if c = true then u σ H1 Q else Q false H1
def tOr (t u : TT) : TT := fun σ H Q => t σ H fun c H1 => if c = true then Q true H1 else u σ H1 Q
def tNot (t : TT) : TT := fun σ H Q => t σ H fun c H1 => Q (!c) H1
theorem pw_and1 (ha : PT X a tA) : PW X (.BoolOp .And [a] pos) tA := by
  intro wh pins s σ H Q I h
  refine isTrue_and (thn (ha pins s σ H Q I h) fun c s1 e => ?_)
  cases c with
  | true => exact isTrue_and_nil e
  | false => exact e
theorem pw_or1 (ha : PT X a tA) : PW X (.BoolOp .Or [a] pos) tA := by
  intro wh pins s σ H Q I h
  refine isTrue_or (thn (ha pins s σ H Q I h) fun c s1 e => ?_)
  cases c with
  | false => exact isTrue_or_nil e
  | true => exact e
theorem pw_and (ha : PT X a tA) (hb : PW X (.BoolOp .And (b :: rest) pos) tB') : PW X (.BoolOp .And (a :: b :: rest) pos) (tAnd tA tB') := by
  intro wh pins s σ H Q I h
  refine isTrue_and (thn (ha pins s σ H _ I h) fun c s1 ⟨H1, I1, q1⟩ => ?_)
  cases c with
  | true => exact hb wh pins s1 σ H1 Q I1 q1
  | false => exact ⟨H1, I1, q1⟩
theorem pw_or (ha : PT X a tA) (hb : PW X (.BoolOp .Or (b :: rest) pos) tB') : PW X (.BoolOp .Or (a :: b :: rest) pos) (tOr tA tB') := by
  intro wh pins s σ H Q I h
  refine isTrue_or (thn (ha pins s σ H _ I h) fun c s1 ⟨H1, I1, q1⟩ => ?_)
  cases c with
  | true => exact ⟨H1, I1, q1⟩
  | false => exact hb wh pins s1 σ H1 Q I1 q1
theorem pt_not (ha : PT X a tA) : PT X (.UnaryOp .Not a pos) (tNot tA) := by
  intro pins s σ H Q I h
  exact isTrue_not (ha pins s σ H (fun c H1 => Q (!c) H1) I h)
/-- .. as values (bools) -/
def tAndV (ta tb : TE) : TE := fun σ H Q => ta σ H fun x H1 => ∃ c, x = .bl c ∧ if c = true then tb σ H1 Q else Q (.bl false) H1
theorem pe_one {op} {t : TE} (h : PE X a t) : PE X (.BoolOp op [a] pos) t := fun pins s σ H Q I hw => BoolOp_one (h pins s σ H Q I hw)
theorem pe_and (ha : PE X a ta) (hb : PE X (.BoolOp .And (b :: rest) pos) tb) : PE X (.BoolOp .And (a :: b :: rest) pos) (tAndV ta tb) := by
  intro pins s σ H Q I h
  refine BoolOp_and (thn (ha pins s σ H _ I h) fun v s1 ⟨x, H1, I1, r1, q1⟩ => ?_)
  obtain ⟨c, rfl, q1⟩ := q1
  cases r1
  refine wpAny_truthy_bool ?_
  cases c with
  | true => exact hb pins s1 σ H1 Q I1 q1
  | false => exact ⟨.bl false, H1, I1, rfl, q1⟩
end
end L2

namespace L2
open PySem PySem.Spec PyProof.Rows

/-! ### a list, a tuple that is read: tracked, frozen, or an object of the module -/
def SqL (K : PySem.W.Frag) (H : Hp) (a : Addr) (xs : List V) : Prop :=
  Rd H a (.lst xs) ∨
    ∃ (o : Obj) (its : Array Value) (n : Nat), K.lookup a = some o ∧ o.cls = .type "list" ∧ o.dict = none ∧ o.data = .seq its n ∧ its.size ≤ sizeLine ∧ Vals xs its.toList
def SqT (K : PySem.W.Frag) (H : Hp) (a : Addr) (xs : List V) : Prop :=
  Rd H a (.tup xs) ∨
    ∃ (o : Obj) (its : Array Value) (n : Nat), K.lookup a = some o ∧ o.cls = .type "tuple" ∧ o.data = .seq its n ∧ its.size ≤ sizeLine ∧ Vals xs its.toList
def absV : Value → Option V
  | .none => some .non
  | .bool b => some (.bl b)
  | .int i _ => some (.int i)
  | .str x _ => some (.str x)
  | .bytes b _ => some (.byt b)
  | .float b _ => some (.flt b)
  | .ref a => some (.ref a)
  | .type n => some (.ty n)
  | _ => none
theorem RelV.abs {x : V} {u : Value} (r : RelV x u) : absV u = some x := by
  cases x with
  | non => cases r; rfl
  | bl _ => cases r; rfl
  | int _ => obtain ⟨t, rfl⟩ := r; rfl
  | str _ => obtain ⟨t, rfl⟩ := r; rfl
  | byt _ => obtain ⟨t, rfl⟩ := r; rfl
  | flt _ => obtain ⟨t, rfl⟩ := r; rfl
  | ref _ => cases r; rfl
  | ty _ => cases r; rfl
theorem RelV.inj {x y : V} {u : Value} (r : RelV x u) (q : RelV y u) : x = y := Option.some.inj (r.abs.symm.trans q.abs)
theorem Vals.inj : ∀ {xs ys : List V} {us : List Value}, Vals xs us → Vals ys us → xs = ys
  | _, _, _, .nil, .nil => rfl
  | _, _, _, .cons r t, .cons r' t' => by rw [r.inj r', Vals.inj t t']
section
variable {X : Cx} {pins : List (Addr × Obj)} {σ : St} {H : Hp} {s : Shared} {a : Addr} {xs ys : List V}
theorem SqL.of {K : PySem.W.Frag} (h : H a = some (.lst xs)) : SqL K H a xs := .inl (.inl h)
theorem SqT.of {K : PySem.W.Frag} (h : H a = some (.tup xs)) : SqT K H a xs := .inl (.inl h)
theorem Inv.list (I : Inv X pins σ H s) (h : SqL X.K H a xs) : ∃ its : List Value, Vals xs its ∧ PlainL s.heap a its.toArray ∧ xs.length ≤ sizeLine := by
  rcases h with h | ⟨o, its, n, hk, hc, hd, hs, hz, r⟩
  · obtain ⟨z, its, n, r, e⟩ := h.ok I.hok
    exact ⟨its, r, ⟨_, n, e, rfl, rfl, rfl⟩, z⟩
  · refine ⟨its.toList, r, ⟨o, n, I.kIn a o hk, hc, hd, by simpa using hs⟩, ?_⟩
    have e := r.length
    simp only [Array.length_toList] at e
    omega
theorem Inv.tuple (I : Inv X pins σ H s) (h : SqT X.K H a xs) : ∃ its : List Value, Vals xs its ∧ IsTup s.heap a its.toArray ∧ xs.length ≤ sizeLine := by
  rcases h with h | ⟨o, its, n, hk, hc, hs, hz, r⟩
  · obtain ⟨z, its, r, p⟩ := h.ok I.hok
    exact ⟨its, r, p, z⟩
  · refine ⟨its.toList, r, ⟨o, I.kIn a o hk, hc, n, by simpa using hs⟩, ?_⟩
    have e := r.length
    simp only [Array.length_toList] at e
    omega
theorem Inv.list_inj (I : Inv X pins σ H s) (h : SqL X.K H a xs) (h' : SqL X.K H a ys) : xs = ys := by
  obtain ⟨its, r, ⟨o, n, e, _, _, d⟩, _⟩ := I.list h
  obtain ⟨its', r', ⟨o', n', e', _, _, d'⟩, _⟩ := I.list h'
  rw [e] at e'; cases e'
  rw [d] at d'
  injection d' with d1 _
  have : its = its' := by simpa using congrArg Array.toList d1
  subst this
  exact r.inj r'
theorem Inv.tuple_inj (I : Inv X pins σ H s) (h : SqT X.K H a xs) (h' : SqT X.K H a ys) : xs = ys := by
  obtain ⟨its, r, ⟨o, e, _, n, d⟩, _⟩ := I.tuple h
  obtain ⟨its', r', ⟨o', e', _, n', d'⟩, _⟩ := I.tuple h'
  rw [e] at e'; cases e'
  rw [d] at d'
  injection d' with d1 _
  have : its = its' := by simpa using congrArg Array.toList d1
  subst this
  exact r.inj r'
end

/-! ### another wish about exceptions -/
section
variable {X : Cx} {pins : List (Addr × Obj)} {σ : St} {H : Hp} {s : Shared} {E : Value → Shared → Prop}
end

/-! ### blocks and small statements -/
section
variable {X : Cx} {st : Stmt} {rest : List Stmt} {t u : TS} {e : Expr} {te : TE} {pos : Pos}
def tNext : TS := fun D σ H => D.nx σ H
def tSeq (t u : TS) : TS := fun D σ H => t { D with nx := u D } σ H
theorem pss_nil : PSs X [] tNext := fun _ _ σ H _ I h => wpAny_execs_nil ⟨σ, H, I, h⟩
theorem pss_cons (h1 : PS X st t) (h2 : PSs X rest u) : PSs X (st :: rest) (tSeq t u) := by
  intro pins s σ H D I h
  refine wpAny_execs_cons (thn (h1 pins s σ H { D with nx := u D } I h) fun f s1 q => ?_)
  cases f with
  | next =>
    obtain ⟨σ', H', I', q⟩ := q
    exact h2 pins s1 σ' H' D I' q
  | ret v => exact q
  | brk => exact q
  | cont => exact q
theorem pss_one (h1 : PS X st t) : PSs X [st] t := by
  intro pins s σ H D I h
  refine wpAny_execs_cons (thn (h1 pins s σ H D I h) fun f s1 q => ?_)
  cases f with
  | next => exact wpAny_execs_nil q
  | ret v => exact q
  | brk => exact q
  | cont => exact q
/-- in a def's body nothing is shown -/
theorem Inv.quiet {pins : List (Addr × Obj)} {σ : St} {H : Hp} {s : Shared} (I : Inv X pins σ H s) : interactive X.env = false := by simp [interactive, I.ok.kind]
/-- an expression whose value is dropped -/
def tDrop (te : TE) : TS := fun D σ H => te σ H fun _ H1 => D.nx σ H1
theorem ps_expr (he : PE X e te) (hs : swapsWith e none pos.line X.env = pure false := by rfl) : PS X (.Expr e pos) (tDrop te) := by
  intro pins s σ H D I h
  exact wpAny_Expr_any (thn (he pins s σ H _ I h) fun v s1 ⟨x, H1, I1, r1, q1⟩ => ⟨σ, H1, I1, q1⟩) I.quiet hs
def tRet (te : TE) : TS := fun D σ H => te σ H D.rt
theorem ps_ret (he : PE X e te) : PS X (.Return (some e) pos) (tRet te) := by
  intro pins s σ H D I h
  exact wpAny_Return_some (thn (he pins s σ H _ I h) fun v s1 ⟨x, H1, I1, r1, q1⟩ => ⟨x, σ, H1, I1, r1, q1⟩)
def tIfS (c : TT) (t u : TS) : TS := fun D σ H => c σ H fun b H1 => if b = true then t D σ H1 else u D σ H1
theorem ps_if {c : Expr} {a b : List Stmt} {tc : TT} (hc : PT X c tc) (ha : PSs X a t) (hb : PSs X b u) : PS X (.If c a b pos) (tIfS tc t u) := by
  intro pins s σ H D I h
  refine wpAny_If (thn (hc pins s σ H _ I h) fun d s1 ⟨H1, I1, q1⟩ => ?_)
  cases d with
  | true => exact ha pins s1 σ H1 D I1 q1
  | false => exact hb pins s1 σ H1 D I1 q1
end

/-! ### targets -/
abbrev TG := V → St → Hp → (St → Hp → Prop) → Prop
abbrev TGs := List V → St → Hp → (St → Hp → Prop) → Prop
def PG (X : Cx) (target : Expr) (t : TG) : Prop :=
  ∀ (pins : List (Addr × Obj)) (s : Shared) (σ : St) (H : Hp) (v : V) (u : Value) (Q : St → Hp → Prop), Inv X pins σ H s → RelV v u → t v σ H Q →
    wpAny (model X.prog X.w) X.A (assign target X.env u) (fun _ s' => ∃ σ' H', Inv X pins σ' H' s' ∧ Q σ' H') X.xe s
/-- several targets, one after another -/
def PGs (X : Cx) (ts : List Expr) (t : TGs) : Prop :=
  ∀ (pins : List (Addr × Obj)) (s : Shared) (σ : St) (H : Hp) (vs : List V) (us : List Value) (Q : St → Hp → Prop), Inv X pins σ H s → Vals vs us → t vs σ H Q →
    wpAny (model X.prog X.w) X.A (assignInOrder ((assignEach ts X.env).map (·.2)) us) (fun _ s' => ∃ σ' H', Inv X pins σ' H' s' ∧ Q σ' H') X.xe s
/-- o[i] = v, by values -/
abbrev TSet := V → V → V → Hp → (Hp → Prop) → Prop
def PSet (X : Cx) (t : TSet) : Prop :=
  ∀ (pins : List (Addr × Obj)) (s : Shared) (σ : St) (H : Hp) (o i v : V) (ov iv u : Value) (Q : Hp → Prop), Inv X pins σ H s → RelV o ov → RelV i iv → RelV v u → t o i v H Q →
    wpAny (model X.prog X.w) X.A (setItem ov iv u) (fun _ s' => ∃ H', Inv X pins σ H' s' ∧ Q H') X.xe s
section
variable {X : Cx} {pos : Pos}
def gName (i : Nat) : TG := fun v σ H Q => Q (σ.set i (some v)) H
theorem pg_name {i : Nat} {x : Str} (hN : X.N.Nodup) (hi : X.N[i]? = some x) (hx : Loc X.env.scope x) (hf : X.fn x = true ∨ X.env.scope.names.lookup x = some .local := by first | exact .inl rfl | exact .inr rfl | assumption) : PG X (.Name x pos) (gName i) := by
  intro pins s σ H v u Q I r h
  exact wpAny_assign_Name (store_ok I hN hi hx r (fun s' I' => ⟨_, H, I', h⟩) hf)
def gNil : TGs := fun vs σ H Q => vs = [] ∧ Q σ H
def gCons (t : TG) (u : TGs) : TGs := fun vs σ H Q => ∃ v r, vs = v :: r ∧ t v σ H fun σ' H' => u r σ' H' Q
theorem pgs_nil : PGs X [] gNil := by
  intro pins s σ H vs us Q I r h
  obtain ⟨e, h⟩ := h
  subst e
  cases r
  exact assignInOrder_nil ⟨σ, H, I, h⟩
theorem pgs_cons {e : Expr} {es : List Expr} {t : TG} {u : TGs} (h1 : PG X e t) (h2 : PGs X es u)
    (hs : (assignEach (e :: es) X.env).map (·.2) = assign e X.env :: (assignEach es X.env).map (·.2) := by rfl) : PGs X (e :: es) (gCons t u) := by
  intro pins s σ H vs us Q I r h
  obtain ⟨v, vr, e1, h⟩ := h
  subst e1
  cases r with
  | cons r rr =>
    rw [hs]
    refine assignInOrder_cons (thn (h1 pins s σ H _ _ _ I r h) fun _ s1 ⟨σ1, H1, I1, q1⟩ => ?_)
    exact h2 pins s1 σ1 H1 _ _ Q I1 rr q1
/-- (a, b, ..) = a tuple of that length -/
def gTup (K : PySem.W.Frag) (n : Nat) (t : TGs) : TG := fun v σ H Q => ∃ a xs, v = .ref a ∧ SqT K H a xs ∧ xs.length = n ∧ t xs σ H Q
theorem pg_tup {es : List Expr} {k : Nat} {t : TGs} {n : Nat} (hc : X.calm = true) (h : PGs X es t)
    (hn : (assignEach es X.env).length = n := by rfl) (hst : (assignEach es X.env).findIdx? (·.1) = none := by rfl) : PG X (.Tuple es k pos) (gTup X.K n t) := by
  intro pins s σ H v u Q I r hw
  obtain ⟨a, xs, e1, hq, hl, hw⟩ := hw
  subst e1
  cases r
  obtain ⟨its, rv, ht, hz⟩ := I.tuple hq
  refine assign_Tuple_tuple (I.ok.hd hc) ht (by simp [hn, ← hl, rv.length]) hst fun h' hx => ?_
  have I1 : Inv X pins σ H { s with heap := h' } := I.kept (t' := s.toks) fun b o e => hx b o (Nat.ne_of_lt (Heap.lt_size e)) e
  exact h pins _ σ H xs _ Q I1 (by simpa using rv) hw
/-- o[i] = .. -/
def gSub (to ti : TE) (t : TSet) : TG := fun v σ H Q => to σ H fun o H1 => ti σ H1 fun i H2 => t o i v H2 fun H3 => Q σ H3
theorem pg_sub {o i : Expr} {to ti : TE} {t : TSet} (ho : PE X o to) (hi : PE X i ti) (hs : PSet X t)
    (ha : ∀ v, assign (.Subscript o i pos) X.env v = (do
      let ov ← holding [v] (eval o X.env)
      let iv ← holding [v, ov] (eval i X.env)
      standAt pos
      holding [v, ov, iv] (setItem ov iv v)
      release [v, ov, iv] []) := by intro _; rfl) : PG X (.Subscript o i pos) (gSub to ti t) := by
  intro pins s σ H v u Q I r h
  rw [ha]
  refine wpAny_bind (wpAny_holding (thn (ho pins s σ H _ I h) fun ov s1 ⟨x, H1, I1, r1, q1⟩ => ?_))
  refine wpAny_bind (wpAny_holding (thn (hi pins s1 σ H1 _ I1 q1) fun iv s2 ⟨y, H2, I2, r2, q2⟩ => ?_))
  refine wpAny_bind (wpAny_standAt (wpAny_bind (wpAny_holding (thn (hs pins s2 σ H2 x y v ov iv u _ I2 r1 r2 r q2) fun _ s3 ⟨H3, I3, q3⟩ => ?_))))
  exact wpAny_release ⟨σ, H3, I3, q3⟩
/-- target = value -/
def tAsg (te : TE) (g : TG) : TS := fun D σ H => te σ H fun x H1 => g x σ H1 D.nx
theorem ps_asg {tg e : Expr} {te : TE} {g : TG} (he : PE X e te) (hg : PG X tg g) (hs : swapsWithSole [tg] e pos.line X.env = pure false := by rfl) (hw : swappedStores [tg] e X.env = pure none := by rfl)
    (h1 : (assignEach [tg] X.env).map (·.2) = [assign tg X.env] := by rfl) : PS X (.Assign [tg] e pos) (tAsg te g) := by
  intro pins s σ H D I h
  refine wpAny_Assign_stores (thn (he pins s σ H _ I h) fun v s1 ⟨x, H1, I1, r1, q1⟩ => ?_) hs hw
  rw [h1]
  exact thn (hg pins s1 σ H1 x v _ I1 r1 q1) fun _ s2 q => q
/-- name = value -/
theorem ps_set {i : Nat} {x : Str} {e : Expr} {te : TE} {pos' : Pos} (hN : X.N.Nodup) (hi : X.N[i]? = some x) (hx : Loc X.env.scope x) (he : PE X e te) (hs : swapsWith e (some (.Name x pos')) pos.line X.env = pure false := by rfl) (hf : X.fn x = true ∨ X.env.scope.names.lookup x = some .local := by first | exact .inl rfl | exact .inr rfl | assumption) :
    PS X (.Assign [.Name x pos'] e pos) (tAsg te (gName i)) := by
  intro pins s σ H D I h
  refine wpAny_Assign_Name (thn (he pins s σ H _ I h) fun v s1 ⟨y, H1, I1, r1, q1⟩ => ?_) hs
  exact store_ok I1 hN hi hx r1 (fun s2 I2 => ⟨_, H1, I2, q1⟩) hf
end

/-! ### while -/
section
variable {X : Cx} {pos : Pos}
/-- the invariant W with its measure -/
def tWhile (c : TT) (tb : TS) : TS := fun D σ H => ∃ W : Nat → St → Hp → Prop, (∃ m, W m σ H) ∧ ∀ m σ H, W m σ H →
  c σ H fun b H1 => if b = true then ∃ N : St → Hp → Prop, (∀ σ' H', N σ' H' → ∃ m', m' < m ∧ W m' σ' H') ∧ tb { D with nx := N, ct := N, bk := D.nx } σ H1 else D.nx σ H1
theorem ps_while {c : Expr} {body : List Stmt} {tc : TT} {tb : TS} (hp : PassesOwn (model X.prog X.w) X.A X.env X.xe) (hc : PT X c tc) (hb : PSs X body tb) : PS X (.While c body [] pos) (tWhile tc tb) := by
  intro pins s σ H D I h
  obtain ⟨W, ⟨m0, w0⟩, turn⟩ := h
  refine wpAny_While (codeAny_whileLoop (fun n s' => ∃ σ' H', Inv X pins σ' H' s' ∧ W n σ' H') ?_ m0 ⟨σ, H, I, w0⟩)
  rintro n s1 ⟨σ1, H1, I1, w1⟩
  refine wpAny_passesOwn hp (thn (hc pins s1 σ1 H1 _ I1 (turn n σ1 H1 w1)) fun b s2 ⟨H2, I2, q2⟩ => ?_)
  cases b with
  | true =>
    obtain ⟨N, hN, q2⟩ := q2
    rw [if_pos rfl]
    refine wpAny_passesOwn hp (thn (hb pins s2 σ1 H2 _ I2 q2) fun f s3 q3 => ?_)
    cases f with
    | next =>
      obtain ⟨σ3, H3, I3, n3⟩ := q3
      obtain ⟨m', hm, w3⟩ := hN σ3 H3 n3
      exact ⟨m', hm, σ3, H3, I3, w3⟩
    | cont =>
      obtain ⟨σ3, H3, I3, n3⟩ := q3
      obtain ⟨m', hm, w3⟩ := hN σ3 H3 n3
      exact ⟨m', hm, σ3, H3, I3, w3⟩
    | brk => exact q3
    | ret v => exact q3
  | false =>
    rw [if_neg Bool.false_ne_true]
    exact wpAny_execs_nil ⟨σ1, H2, I2, q2⟩
end

/-! ### what a loop or a comprehension walks -/
/-- at turn i: it yields x (the heap may grow), or it stops -/
structure It where
  go : Nat → Hp → Prop
  yld : Nat → Hp → V → Hp → Prop
  stop : Nat → Hp → Prop
/-- the iterator's own objects may turn: they are not the frame's, not pinned, younger than the entry (or a comprehension's own) -/
def FpOk (X : Cx) (pins : List (Addr × Obj)) (H : Hp) (b : Addr) : Prop :=
  H b = none ∧ b ≠ X.env.locals ∧ b ∉ X.fs ∧ (b ∈ X.ex ∨ X.s₀.heap.objs.size ≤ b) ∧ (∀ x c, X.env.cells.lookup x = some c → c ≠ b) ∧ ∀ p ∈ X.pn ++ pins, p.1 ≠ b
theorem Inv.fpOk {X : Cx} {pins : List (Addr × Obj)} {σ : St} {H H' : Hp} {s : Shared} {b : Addr} (I : Inv X pins σ H s) (hb : s.heap.objs.size ≤ b) (hn : H' b = none) : FpOk X pins H' b := by
  refine ⟨hn, Nat.ne_of_gt (Nat.lt_of_lt_of_le I.lt hb), I.nofs hb, .inr (Nat.le_trans I.sz hb), fun x c e z => ?_, fun p hp z => ?_⟩
  · obtain ⟨v, q⟩ := I.cell x c e
    exact absurd (Nat.lt_of_lt_of_le q.lt (by rw [z]; exact hb)) (Nat.lt_irrefl _)
  · exact absurd (Nat.lt_of_lt_of_le (Heap.lt_size (I.pin p hp).1) (by rw [z]; exact hb)) (Nat.lt_irrefl _)
structure Turn (P : Program) (w : World) (K : PySem.W.Frag) (tg : Expr) (J : It) (fp : List Addr) (it : Addr) (tn : Nat → Heap → Prop) : Prop where
  mem : it ∈ fp
  obj : ∀ i h, tn i h → ∀ b ∈ fp, ∃ o, h.get? b = some o ∧ ∀ v, o.data ≠ .cell v
  keep : ∀ i h h', tn i h → (∀ b ∈ fp, ∀ o, h.get? b = some o → h'.get? b = some o) → tn i h'
  item : ∀ (X : Cx), X.prog = P → X.w = w → X.K = K → X.calm = true → ∀ (i : Nat) (pins : List (Addr × Obj)) (s : Shared) (σ : St) (H : Hp) (E : Value → Shared → Prop), Inv X pins σ H s → (∀ b ∈ fp, FpOk X pins H b) → tn i s.heap → J.go i H →
    wpAny (model P w) X.A (pyNext (.ref it)) (fun r s1 => ∃ u, r = some u ∧
      wpAny (model P w) X.A (letOwnedTupleGo tg (.ref it) u) (fun _ s2 => ∃ x H', Inv X pins σ H' s2 ∧ RelV x u ∧ J.yld i H x H' ∧ tn (i + 1) s2.heap ∧ ∀ b ∈ fp, H' b = none) E s1) E s
  done : ∀ (X : Cx), X.prog = P → X.w = w → X.K = K → X.calm = true → ∀ (i : Nat) (pins : List (Addr × Obj)) (s : Shared) (σ : St) (H : Hp) (E : Value → Shared → Prop), Inv X pins σ H s → (∀ b ∈ fp, FpOk X pins H b) → tn i s.heap → J.stop i H →
    wpAny (model P w) X.A (pyNext (.ref it)) (fun r s1 => r = none ∧ Inv X pins σ H s1) E s
  self : ∀ (A : Around) (i : Nat) (s : Shared) (Q : Value → Shared → Prop) (E : Value → Shared → Prop), tn i s.heap → Q (.ref it) s → wpAny (model P w) A (pyIter (.ref it)) Q E s
abbrev TI := St → Hp → (It → Hp → Prop) → Prop
/-- an iterator has come -/
def PIE (X : Cx) (pins : List (Addr × Obj)) (σ : St) (tg : Expr) (R : It → Hp → Prop) (itv : Value) (s2 : Shared) : Prop :=
  ∃ (it : Addr) (fp : List Addr) (tn : Nat → Heap → Prop) (J : It) (H' : Hp), itv = .ref it ∧ Inv X pins σ H' s2 ∧ Turn X.prog X.w X.K tg J fp it tn ∧ tn 0 s2.heap ∧ (∀ b ∈ fp, FpOk X pins H' b) ∧ R J H'
def PI (X : Cx) (tg iter : Expr) (wi : TI) : Prop :=
  ∀ (pins : List (Addr × Obj)) (s : Shared) (σ : St) (H : Hp) (R : It → Hp → Prop), Inv X pins σ H s → wi σ H R →
    wpAny (model X.prog X.w) X.A (eval iter X.env) (fun v s1 => wpAny (model X.prog X.w) X.A (pyIter v) (PIE X pins σ tg R) X.xe s1) X.xe s

/-- the step ahead of the store is nothing for an iterator that keeps no tuple -/
theorem go_of {M : Model} {A : Around} {E : Value → Shared → Prop} {s : Shared} {tg : Expr} {it : Addr} {u : Value} {o : Obj} {n : String} {vs : Array Value} {Q : Unit → Shared → Prop} (ho : s.heap.get? it = some o) (hc : o.cls = .type n) (hd : o.data = .fields vs)
    (hn : ["enumerate", "zip", "dict_itemiterator", "dict_reverseitemiterator", "odict_iterator", "itertools.zip_longest", "itertools.pairwise"].contains n = false) (hQ : Q () s) : wpAny M A (letOwnedTupleGo tg (.ref it) u) Q E s := by
  unfold letOwnedTupleGo
  cases tg <;> first
    | exact wpAny_pure hQ
    | (cases u <;> first
        | exact wpAny_pure hQ
        | (refine wpAny_bind (wpAny_load ho ?_)
           rw [hc, hd]
           show wpAny M A (if (["enumerate", "zip", "dict_itemiterator", "dict_reverseitemiterator", "odict_iterator", "itertools.zip_longest", "itertools.pairwise"].contains n && vs[0]? == some (rawInt _)) = true then _ else _) Q E s
           rw [if_neg (by intro h; rw [hn, Bool.false_and] at h; cases h)]
           exact wpAny_pure hQ))

/-- the list at a, as it stands at each turn (a loop may append to it) -/
def Itl (K : PySem.W.Frag) (a : Addr) : It :=
  ⟨fun i H => ∃ xs x, SqL K H a xs ∧ xs[i]? = some x, fun i H x H' => H' = H ∧ ∀ xs, SqL K H a xs → xs[i]? = some x, fun i H => ∃ xs, SqL K H a xs ∧ xs.length ≤ i⟩
def Itt (K : PySem.W.Frag) (a : Addr) : It :=
  ⟨fun i H => ∃ xs x, SqT K H a xs ∧ xs[i]? = some x, fun i H x H' => H' = H ∧ ∀ xs, SqT K H a xs → xs[i]? = some x, fun i H => ∃ xs, SqT K H a xs ∧ xs.length ≤ i⟩
/-- lo, lo + 1, .. (n of them) -/
def Itr (lo : Int) (n : Nat) : It := ⟨fun i _ => i < n, fun i H x H' => H' = H ∧ x = .int (lo + i), fun i _ => n ≤ i⟩
theorem turn_list {P : Program} {w : World} {K : PySem.W.Frag} {tg : Expr} (a it : Addr) : Turn P w K tg (Itl K a) [it] it (fun i h => h.IsListIter it a i) where
  mem := by simp
  obj := fun i h st b hb => by
    have e : b = it := by simpa using hb
    subst e
    obtain ⟨o, e, c, d⟩ := st
    exact ⟨o, e, fun v z => by rw [d] at z; cases z⟩
  keep := fun i h h' st k => st.at fun o e => k it (by simp) o e
  item := by
    intro X hP hw hK hc i pins s σ H E I hf st hg
    subst hP hw hK
    obtain ⟨xs, x, hq, hx⟩ := hg
    obtain ⟨its, rv, p, hz⟩ := I.list hq
    obtain ⟨u, hu, ru⟩ := rv.get hx
    obtain ⟨f0, f1, f2, f3, f4, f5⟩ := hf it (by simp)
    refine wpAny_pyNext_list_item st p.isList (x := u) (by simpa using hu) fun h' st' sb => ?_
    have I1 : Inv X pins σ H { s with heap := h' } := I.turned (t' := s.toks) (fun b o hb e => (sb.2 b hb).trans e) f0 f1 f3 f4 f5
    obtain ⟨o, e, c, d⟩ := id st'
    exact ⟨u, rfl, go_of (s := { s with heap := h' }) e c d (by decide) ⟨x, H, I1, ru, ⟨rfl, fun ys hy => by rw [I.list_inj hy hq]; exact hx⟩, st', fun b hb => (hf b hb).1⟩⟩
  done := by
    intro X hP hw hK hc i pins s σ H E I hf st hg
    subst hP hw hK
    obtain ⟨xs, hq, hx⟩ := hg
    obtain ⟨its, rv, p, hz⟩ := I.list hq
    obtain ⟨f0, f1, f2, f3, f4, f5⟩ := hf it (by simp)
    have hl := rv.length
    exact wpAny_pyNext_list_end (I.ok.hd hc) st p.isList (by simp; omega) fun h' eb => ⟨rfl, I.turned (t' := s.toks) (fun b o hb e => eb b o hb e) f0 f1 f3 f4 f5⟩
  self := fun _ _ _ _ _ st h => wpAny_pyIter_listiter st h
theorem turn_tuple {P : Program} {w : World} {K : PySem.W.Frag} {tg : Expr} (a it : Addr) : Turn P w K tg (Itt K a) [it] it (fun i h => h.IsTupleIter it a i) where
  mem := by simp
  obj := fun i h st b hb => by
    have e : b = it := by simpa using hb
    subst e
    obtain ⟨o, e, c, d⟩ := st
    exact ⟨o, e, fun v z => by rw [d] at z; cases z⟩
  keep := fun i h h' st k => st.at fun o e => k it (by simp) o e
  item := by
    intro X hP hw hK hc i pins s σ H E I hf st hg
    subst hP hw hK
    obtain ⟨xs, x, hq, hx⟩ := hg
    obtain ⟨its, rv, p, hz⟩ := I.tuple hq
    obtain ⟨u, hu, ru⟩ := rv.get hx
    obtain ⟨f0, f1, f2, f3, f4, f5⟩ := hf it (by simp)
    refine wpAny_pyNext_tuple_item st (show s.heap.IsTuple a its.toArray from p) (x := u) (by simpa using hu) fun h' st' sb => ?_
    have I1 : Inv X pins σ H { s with heap := h' } := I.turned (t' := s.toks) (fun b o hb e => (sb.2 b hb).trans e) f0 f1 f3 f4 f5
    obtain ⟨o, e, c, d⟩ := id st'
    exact ⟨u, rfl, go_of (s := { s with heap := h' }) e c d (by decide) ⟨x, H, I1, ru, ⟨rfl, fun ys hy => by rw [I.tuple_inj hy hq]; exact hx⟩, st', fun b hb => (hf b hb).1⟩⟩
  done := by
    intro X hP hw hK hc i pins s σ H E I hf st hg
    subst hP hw hK
    obtain ⟨xs, hq, hx⟩ := hg
    obtain ⟨its, rv, p, hz⟩ := I.tuple hq
    obtain ⟨f0, f1, f2, f3, f4, f5⟩ := hf it (by simp)
    have hl := rv.length
    exact wpAny_pyNext_tuple_end (I.ok.hd hc) st (show s.heap.IsTuple a its.toArray from p) (by simp; omega) fun h' eb => ⟨rfl, I.turned (t' := s.toks) (fun b o hb e => eb b o hb e) f0 f1 f3 f4 f5⟩
  self := fun _ _ _ _ _ st h => wpAny_pyIter_tupleiter st h
theorem turn_range {P : Program} {w : World} {K : PySem.W.Frag} {tg : Expr} (it : Addr) (lo : Int) (n : Nat) : Turn P w K tg (Itr lo n) [it] it (fun i h => IsRangeIter h it (lo + (i : Nat) * 1) ((n : Int) - (i : Nat)) 1) where
  mem := by simp
  obj := fun i h st b hb => by
    have e : b = it := by simpa using hb
    subst e
    exact ⟨_, st, fun v z => by
      have z' : Data.fields _ = Data.cell v := z
      cases z'⟩
  keep := fun i h h' st k => k it (by simp) _ st
  item := by
    intro X hP hw hK hc i pins s σ H E I hf st hg
    subst hP hw hK
    obtain ⟨f0, f1, f2, f3, f4, f5⟩ := hf it (by simp)
    have W := Walks.range (prog := X.prog) (w := X.w) (I.ok.hd hc) it lo 1 n
    refine W.item i s _ _ hg st fun v h' tk hv st' kk => ?_
    obtain ⟨t, rfl⟩ := hv
    have I1 : Inv X pins σ H { s with heap := h', toks := tk } := I.turned (fun b o hb e => kk b o (by simpa using hb) e) f0 f1 f3 f4 f5
    refine ⟨_, rfl, go_of (s := { s with heap := h', toks := tk }) (n := "range_iterator") st' rfl rfl (by decide) ⟨.int (lo + i), H, I1, ⟨t, ?_⟩, ⟨rfl, rfl⟩, st', fun b hb => (hf b hb).1⟩⟩
    rw [Int.mul_one]
  done := by
    intro X hP hw hK hc i pins s σ H E I hf st hg
    subst hP hw hK
    obtain ⟨f0, f1, f2, f3, f4, f5⟩ := hf it (by simp)
    exact wpAny_pyNext_range_end (I.ok.hd hc) st (by have : n ≤ i := hg; omega) fun h' eb => ⟨rfl, I.turned (t' := s.toks) (fun b o hb e => eb b o hb e) f0 f1 f3 f4 f5⟩
  self := fun _ _ _ _ _ st h => wpAny_pyIter_rangeiter st h
end L2

namespace L2
open PySem PySem.Spec PyProof.Rows
section
variable {X : Cx} {tg : Expr}
def iList (K : PySem.W.Frag) (tl : TE) : TI := fun σ H R => tl σ H fun x H1 => ∃ a, x = .ref a ∧ (∃ xs, SqL K H1 a xs) ∧ R (Itl K a) H1
def iTup (K : PySem.W.Frag) (tl : TE) : TI := fun σ H R => tl σ H fun x H1 => ∃ a, x = .ref a ∧ (∃ xs, SqT K H1 a xs) ∧ R (Itt K a) H1
theorem pi_list {l : Expr} {tl : TE} (hl : PE X l tl) : PI X tg l (iList X.K tl) := by
  intro pins s σ H R I h
  refine thn (hl pins s σ H _ I h) fun v s1 ⟨x, H1, I1, r1, q1⟩ => ?_
  obtain ⟨a, e, ⟨xs, hq⟩, q⟩ := q1
  subst e
  cases r1
  obtain ⟨its, rv, p, hz⟩ := I1.list hq
  refine wpAny_pyIter_list p.isList ?_
  refine ⟨s1.heap.objs.size, [s1.heap.objs.size], _, _, H1, rfl, I1.kept (t' := s1.toks) fun b o e => Heap.get?_push_of_some _ e, turn_list a _, ⟨_, Heap.get?_push_size _ rfl, rfl, rfl⟩, fun b hb => ?_, q⟩
  have e : b = s1.heap.objs.size := by simpa using hb
  subst e
  exact I1.fpOk (Nat.le_refl _) (I1.hok.fresh (Nat.le_refl _))
theorem pi_tup {l : Expr} {tl : TE} (hl : PE X l tl) : PI X tg l (iTup X.K tl) := by
  intro pins s σ H R I h
  refine thn (hl pins s σ H _ I h) fun v s1 ⟨x, H1, I1, r1, q1⟩ => ?_
  obtain ⟨a, e, ⟨xs, hq⟩, q⟩ := q1
  subst e
  cases r1
  obtain ⟨its, rv, p, hz⟩ := I1.tuple hq
  refine wpAny_pyIter_tuple (show s1.heap.IsTuple a its.toArray from p) ?_
  refine ⟨s1.heap.objs.size, [s1.heap.objs.size], _, _, H1, rfl, I1.kept (t' := s1.toks) fun b o e => Heap.get?_push_of_some _ e, turn_tuple a _, ⟨_, Heap.get?_push_size _ rfl, rfl, rfl⟩, fun b hb => ?_, q⟩
  have e : b = s1.heap.objs.size := by simpa using hb
  subst e
  exact I1.fpOk (Nat.le_refl _) (I1.hok.fresh (Nat.le_refl _))
/-- a range object just made, walked -/
theorem range_it {pins : List (Addr × Obj)} {σ : St} {H : Hp} {s : Shared} {R : It → Hp → Prop} {E : Value → Shared → Prop} {lo hi : Int} {t u v : Tok} {tk : Nat} (I : Inv X pins σ H s) (h1 : -(2 ^ 62) ≤ lo) (h2 : lo < 2 ^ 62) (h3 : -(2 ^ 62) ≤ hi) (h4 : hi < 2 ^ 62)
    (q : R (Itr lo (hi - lo).toNat) H) : wpAny (model X.prog X.w) X.A (pyIter (.ref s.heap.objs.size)) (PIE X pins σ tg R) E { s with heap := s.heap.push { cls := .type "range", data := .fields #[.int lo t, .int hi u, .int 1 v] }, toks := tk } := by
  refine wpAny_pyIter_range (IsRange.new ..) (small_one h1 h2 h3 h4) ?_
  have I1 : Inv X pins σ H { s with heap := s.heap.push { cls := .type "range", data := .fields #[.int lo t, .int hi u, .int 1 v] }, toks := tk } := I.kept fun b o e => Heap.get?_push_of_some _ e
  refine ⟨(s.heap.push { cls := .type "range", data := .fields #[.int lo t, .int hi u, .int 1 v] }).objs.size, [(s.heap.push { cls := .type "range", data := .fields #[.int lo t, .int hi u, .int 1 v] }).objs.size], _, _, H, rfl,
    I1.kept (t' := tk) fun b o e => Heap.get?_push_of_some _ e, turn_range _ lo (hi - lo).toNat, ?_, fun b hb => ?_, q⟩
  · have e1 : lo + ((0 : Nat) : Int) * 1 = lo := by simp
    have e2 : (((hi - lo).toNat : Nat) : Int) - ((0 : Nat) : Int) = Builtin.Range.rangeSize lo hi 1 := by rw [rangeSize_one]; split <;> omega
    show IsRangeIter _ _ (lo + ((0 : Nat) : Int) * 1) ((((hi - lo).toNat : Nat) : Int) - ((0 : Nat) : Int)) 1
    rw [e1, e2]
    exact Heap.get?_push_size _ rfl
  · have e : b = (s.heap.push { cls := .type "range", data := .fields #[.int lo t, .int hi u, .int 1 v] }).objs.size := by simpa using hb
    subst e
    exact I1.fpOk (Nat.le_refl _) (I1.hok.fresh (Nat.le_refl _))
def iRng1 (ta : TA) : TI := fun σ H R => ta σ H fun vs H1 => ∃ j : Int, vs = [.int j] ∧ -(2 ^ 62) ≤ j ∧ j < 2 ^ 62 ∧ R (Itr 0 j.toNat) H1
theorem pi_range1 {a : Expr} {ta : TA} {p pos : Pos} (hg : Gl X "range") (hm : X.mg "range" = none) (ha : PA X [a] ta) (hs : starEach [a] X.env = [(false, eval a X.env)] := by rfl) : PI X tg (.Call (.Name "range" p) [a] [] pos) (iRng1 ta) := by
  intro pins s σ H R I h
  refine Call_ (ld_blt I hg hm boot_range (PyProof.Rows.callWith_type1 (thn (ha pos pins s σ H _ I h) fun us s1 ⟨vs, H1, I1, r1, q1⟩ => ?_) hs rfl))
  obtain ⟨j, e, q1, q2, q⟩ := q1
  subst e
  cases r1 with
  | cons r rr =>
    cases rr
    obtain ⟨t, rfl⟩ := r
    exact call_range_1 (range_it I1 (by omega) (by omega) q1 q2 (by simpa using q))
/-! ### for -/
/-- W: the invariant by the turn and a measure; N: what the body is to reach -/
def tFor (wi : TI) (g : TG) (tb : TS) : TS := fun D σ H => wi σ H fun J H1 => ∃ W : Nat → Nat → St → Hp → Prop, (∃ m, W 0 m σ H1) ∧ ∀ i m σ H, W i m σ H →
  (J.stop i H ∧ D.nx σ H) ∨ (J.go i H ∧ ∃ N : St → Hp → Prop, (∀ σ' H', N σ' H' → ∃ m', m' < m ∧ W (i + 1) m' σ' H') ∧ ∀ x H', J.yld i H x H' → g x σ H' fun σ2 H2 => tb { D with nx := N, ct := N, bk := D.nx } σ2 H2)
/-- the records at fp as they stand -/
def pinsAt (fp : List Addr) (h : Heap) : List (Addr × Obj) := fp.filterMap fun b => (h.get? b).map fun o => (b, o)
theorem mem_pinsAt {fp : List Addr} {h : Heap} {b : Addr} {o : Obj} (hb : b ∈ fp) (e : h.get? b = some o) : (b, o) ∈ pinsAt fp h := List.mem_filterMap.mpr ⟨b, hb, by rw [e]; rfl⟩
theorem of_pinsAt {fp : List Addr} {h : Heap} {p : Addr × Obj} (hp : p ∈ pinsAt fp h) : p.1 ∈ fp ∧ h.get? p.1 = some p.2 := by
  obtain ⟨b, hb, e⟩ := List.mem_filterMap.mp hp
  cases q : h.get? b with
  | none => rw [q] at e; cases e
  | some o =>
    rw [q] at e
    have e' : (b, o) = p := Option.some.inj e
    subst e'
    exact ⟨hb, q⟩
theorem Inv.pinned {pins : List (Addr × Obj)} {σ : St} {H : Hp} {s : Shared} {fp : List Addr} (I : Inv X pins σ H s) (hf : ∀ b ∈ fp, FpOk X pins H b) (ho : ∀ b ∈ fp, ∃ o, s.heap.get? b = some o ∧ ∀ v, o.data ≠ .cell v) : Inv X (pins ++ pinsAt fp s.heap) σ H s :=
  I.pins_of fun p hp => (List.mem_append.mp hp).elim (fun z => I.pin p (List.mem_append_right _ z)) fun z => by
    obtain ⟨hb, e⟩ := of_pinsAt z
    obtain ⟨f0, f1, f2, _⟩ := hf p.1 hb
    obtain ⟨o, e', d⟩ := ho p.1 hb
    rw [e] at e'; cases e'
    exact ⟨e, f0, f1, f2, d⟩
theorem Inv.unpinned {pins pl : List (Addr × Obj)} {σ : St} {H : Hp} {s : Shared} (I : Inv X (pins ++ pl) σ H s) : Inv X pins σ H s := I.pins_of fun p hp => I.pin p (List.mem_append_right _ (List.mem_append_left _ hp))
theorem ps_for {iter : Expr} {body : List Stmt} {wi : TI} {g : TG} {tb : TS} {pos : Pos} (hp : PassesOwn (model X.prog X.w) X.A X.env X.xe) (hc : X.calm = true) (hi : PI X tg iter wi) (hg : PG X tg g) (hb : PSs X body tb)
    (hs : ∀ x, foldedSetIterable iter X.env x = pure x := by intro _; rfl) : PS X (.For tg iter body [] pos) (tFor wi g tb) := by
  intro pins s σ H D I h
  refine wpAny_For (thn (hi pins s σ H _ I h) fun v s1 h1 => thn h1 fun itv s2 h2 => ?_) hs
  obtain ⟨it, fp, tn, J, H2, e, I2, T, st2, f2, W, ⟨m0, w0⟩, turn⟩ := h2
  subst e
  -- what stays true of the iterator's objects through the loop
  have stat : ∀ {H' : Hp}, (∀ b ∈ fp, H' b = none) → ∀ b ∈ fp, FpOk X pins H' b := fun hn b hb => ⟨hn b hb, (f2 b hb).2⟩
  refine codeAny_forLoop_any (fun n s' => ∃ i σ' H', Inv X pins σ' H' s' ∧ tn i s'.heap ∧ (∀ b ∈ fp, H' b = none) ∧ W i n σ' H') ?_ m0 ⟨0, σ, H2, I2, st2, fun b hb => (f2 b hb).1, w0⟩
  rintro n s3 ⟨i, σ3, H3, I3, st3, fr3, w3⟩
  rcases turn i n σ3 H3 w3 with ⟨stop, qn⟩ | ⟨go, N, hN, step⟩
  · refine wpAny_passesOwn hp (thn (T.done X rfl rfl rfl hc i pins s3 σ3 H3 X.xe I3 (stat fr3) st3 stop) fun r s4 ⟨hr, I4⟩ => ?_)
    subst hr
    exact wpAny_execs_nil ⟨σ3, H3, I4, qn⟩
  · refine wpAny_passesOwn hp (thn (T.item X rfl rfl rfl hc i pins s3 σ3 H3 X.xe I3 (stat fr3) st3 go) fun r s4 ⟨u, hr, h4⟩ => ?_)
    subst hr
    refine wpAny_passesOwn hp (thn h4 fun _ s5 ⟨x, H5, I5, r5, y5, st5, fr5⟩ => ?_)
    have I5' := I5.pinned (stat fr5) (T.obj _ _ st5)
    refine wpAny_passesOwn hp (thn (hg _ s5 σ3 H5 x u _ I5' r5 (step x H5 y5)) fun _ s6 ⟨σ6, H6, I6, q6⟩ => ?_)
    refine wpAny_passesOwn hp (thn (hb _ s6 σ6 H6 _ I6 q6) fun f s7 q7 => ?_)
    have again : ∀ {σ7 : St} {H7 : Hp}, Inv X (pins ++ pinsAt fp s5.heap) σ7 H7 s7 → N σ7 H7 → ∃ m, m < n ∧ ∃ i σ' H', Inv X pins σ' H' s7 ∧ tn i s7.heap ∧ (∀ b ∈ fp, H' b = none) ∧ W i m σ' H' := fun {σ7 H7} I7 n7 => by
      obtain ⟨m', hm, w7⟩ := hN σ7 H7 n7
      refine ⟨m', hm, i + 1, σ7, H7, I7.unpinned, T.keep _ _ _ st5 fun b hb o e => (I7.pin (b, o) (List.mem_append_right _ (List.mem_append_right _ (mem_pinsAt hb e)))).1, fun b hb => ?_, w7⟩
      obtain ⟨o, e, d⟩ := T.obj _ _ st5 b hb
      exact (I7.pin (b, o) (List.mem_append_right _ (List.mem_append_right _ (mem_pinsAt hb e)))).2.1
    cases f with
    | next => obtain ⟨σ7, H7, I7, n7⟩ := q7; exact again I7 n7
    | cont => obtain ⟨σ7, H7, I7, n7⟩ := q7; exact again I7 n7
    | brk => obtain ⟨σ7, H7, I7, q7⟩ := q7; exact ⟨σ7, H7, I7.unpinned, q7⟩
    | ret v => obtain ⟨x7, σ7, H7, I7, r7, q7⟩ := q7; exact ⟨x7, σ7, H7, I7.unpinned, r7, q7⟩
end

/-! ### the forms one uses -/
/-- over a list that the body leaves as it is -/
theorem for_list {K : PySem.W.Frag} {a : Addr} {xs : List V} {g : TG} {tb : TS} {D : Ends} {σ : St} {H : Hp} (Pv : Nat → St → Hp → Prop) (h0 : Pv 0 σ H) (hl : ∀ i σ H, i ≤ xs.length → Pv i σ H → SqL K H a xs)
    (hs : ∀ i x σ H, xs[i]? = some x → Pv i σ H → g x σ H fun σ2 H2 => tb { D with nx := Pv (i + 1), ct := Pv (i + 1), bk := D.nx } σ2 H2) (hd : ∀ σ H, Pv xs.length σ H → D.nx σ H) :
    ∃ W : Nat → Nat → St → Hp → Prop, (∃ m, W 0 m σ H) ∧ ∀ i m σ H, W i m σ H →
      ((Itl K a).stop i H ∧ D.nx σ H) ∨ ((Itl K a).go i H ∧ ∃ N : St → Hp → Prop, (∀ σ' H', N σ' H' → ∃ m', m' < m ∧ W (i + 1) m' σ' H') ∧ ∀ x H', (Itl K a).yld i H x H' → g x σ H' fun σ2 H2 => tb { D with nx := N, ct := N, bk := D.nx } σ2 H2) := by
  refine ⟨fun i m σ H => m = xs.length - i ∧ i ≤ xs.length ∧ Pv i σ H, ⟨xs.length, by simp, Nat.zero_le _, h0⟩, ?_⟩
  rintro i m σ H ⟨rfl, hi, p⟩
  have q := hl i σ H hi p
  by_cases hlt : i < xs.length
  · refine .inr ⟨⟨xs, xs[i], q, by simp [hlt]⟩, Pv (i + 1), fun σ' H' p' => ⟨xs.length - (i + 1), by omega, rfl, hlt, p'⟩, fun x H' y => ?_⟩
    obtain ⟨e, y⟩ := y
    subst e
    exact hs i x σ _ (y xs q) p
  · have e : i = xs.length := by omega
    subst e
    exact .inl ⟨⟨xs, q, Nat.le_refl _⟩, hd σ H p⟩
theorem for_range {lo : Int} {n : Nat} {g : TG} {tb : TS} {D : Ends} {σ : St} {H : Hp} (Pv : Nat → St → Hp → Prop) (h0 : Pv 0 σ H)
    (hs : ∀ i σ H, i < n → Pv i σ H → g (.int (lo + i)) σ H fun σ2 H2 => tb { D with nx := Pv (i + 1), ct := Pv (i + 1), bk := D.nx } σ2 H2) (hd : ∀ σ H, Pv n σ H → D.nx σ H) :
    ∃ W : Nat → Nat → St → Hp → Prop, (∃ m, W 0 m σ H) ∧ ∀ i m σ H, W i m σ H →
      ((Itr lo n).stop i H ∧ D.nx σ H) ∨ ((Itr lo n).go i H ∧ ∃ N : St → Hp → Prop, (∀ σ' H', N σ' H' → ∃ m', m' < m ∧ W (i + 1) m' σ' H') ∧ ∀ x H', (Itr lo n).yld i H x H' → g x σ H' fun σ2 H2 => tb { D with nx := N, ct := N, bk := D.nx } σ2 H2) := by
  refine ⟨fun i m σ H => m = n - i ∧ i ≤ n ∧ Pv i σ H, ⟨n, by simp, Nat.zero_le _, h0⟩, ?_⟩
  rintro i m σ H ⟨rfl, hi, p⟩
  by_cases hlt : i < n
  · refine .inr ⟨hlt, Pv (i + 1), fun σ' H' p' => ⟨n - (i + 1), by omega, rfl, hlt, p'⟩, fun x H' y => ?_⟩
    obtain ⟨e, y⟩ := y
    subst e y
    exact hs i σ _ hlt p
  · have e : i = n := by omega
    subst e
    exact .inl ⟨Nat.le_refl _, hd σ H p⟩
end L2

namespace L2
open PySem PySem.Spec PyProof.Rows

abbrev R2 := V → V → Hp → VK → Prop
/-- a two-place operation on values: f is binaryOp op, inplaceOp op or compareOp op -/
def OpR (X : Cx) (f : Value → Value → Sem Value) (r : R2) : Prop :=
  ∀ (pins : List (Addr × Obj)) (s : Shared) (σ : St) (H : Hp) (x y : V) (v u : Value) (Q : VK), Inv X pins σ H s → RelV x v → RelV y u → r x y H Q →
    wpAny (model X.prog X.w) X.A (f v u) (EP X pins σ Q) X.xe s
/-- a one-place operation -/
def UnR (X : Cx) (f : Value → Sem Value) (r : V → Hp → VK → Prop) : Prop :=
  ∀ (pins : List (Addr × Obj)) (s : Shared) (σ : St) (H : Hp) (x : V) (v : Value) (Q : VK), Inv X pins σ H s → RelV x v → r x H Q →
    wpAny (model X.prog X.w) X.A (f v) (EP X pins σ Q) X.xe s
/-- a call of a value that is known (a builtin, a type) with values -/
def CallR (X : Cx) (f : Value) (r : List V → Hp → VK → Prop) : Prop :=
  ∀ (pins : List (Addr × Obj)) (s : Shared) (σ : St) (H : Hp) (xs : List V) (us : List Value) (Q : VK), Inv X pins σ H s → Vals xs us → r xs H Q →
    wpAny (model X.prog X.w) X.A (call f us) (EP X pins σ Q) X.xe s
def tOp (r : R2) (ta tb : TE) : TE := fun σ H Q => ta σ H fun x H1 => tb σ H1 fun y H2 => r x y H2 Q
def tUn (r : V → Hp → VK → Prop) (ta : TE) : TE := fun σ H Q => ta σ H fun x H1 => r x H1 Q
/-- ints in, under C, and a value out -/
def rI (C : Int → Int → Prop) (g : Int → Int → V) : R2 := fun x y H Q => ∃ i j, x = .int i ∧ y = .int j ∧ C i j ∧ Q (g i j) H
def rI0 (g : Int → Int → V) : R2 := fun x y H Q => ∃ i j, x = .int i ∧ y = .int j ∧ Q (g i j) H
def rU (g : Int → V) : V → Hp → VK → Prop := fun x H Q => ∃ i, x = .int i ∧ Q (g i) H

section
variable {X : Cx} {a b c : Expr} {ta tb tc : TE} {pos : Pos}

theorem binT (ha : PE X a ta) (hb : PE X b tb) {pins : List (Addr × Obj)} {s : Shared} {σ : St} {H : Hp} {R : V → V → Hp → Prop} (I : Inv X pins σ H s)
    (h : ta σ H fun x H1 => tb σ H1 fun y H2 => R x y H2) {Q : Value → Shared → Prop} {f : Value → Value → Sem Value}
    (hf : ∀ v u s2 x y H2, Inv X pins σ H2 s2 → RelV x v → RelV y u → R x y H2 → wpAny (model X.prog X.w) X.A (f v u) Q X.xe s2) :
    wpAny (model X.prog X.w) X.A (eval a X.env) (fun v s₁ => wpAny (model X.prog X.w) X.A (eval b X.env) (fun u s₂ => wpAny (model X.prog X.w) X.A (f v u) Q X.xe s₂) X.xe s₁) X.xe s := by
  refine thn (ha pins s σ H _ I h) fun v s1 ⟨x, H1, I1, r1, q1⟩ => ?_
  refine thn (hb pins s1 σ H1 _ I1 q1) fun u s2 ⟨y, H2, I2, r2, q2⟩ => ?_
  exact hf v u s2 x y H2 I2 r1 r2 q2

theorem pe_op {op : Operator} {r : R2} (ho : OpR X (binaryOp op) r) (ha : PE X a ta) (hb : PE X b tb) : PE X (.BinOp a op b pos) (tOp r ta tb) := by
  intro pins s σ H Q I h
  exact wpAny_BinOp (binT ha hb I h fun v u s2 x y H2 I2 rx ry q => ho pins s2 σ H2 x y v u Q I2 rx ry q)
theorem pe_un {op : UnaryOp} {r : V → Hp → VK → Prop} (ho : UnR X (unaryOp op) r) (ha : PE X a ta) : PE X (.UnaryOp op a pos) (tUn r ta) := by
  intro pins s σ H Q I h
  exact UnaryOp_ (thn (ha pins s σ H _ I h) fun v s1 ⟨x, H1, I1, r1, q1⟩ => ho pins s1 σ H1 x v Q I1 r1 q1)
/-! ### ints -/
theorem opI {f : Value → Value → Sem Value} {C : Int → Int → Prop} {g : Int → Int → Int}
    (rule : ∀ (i j : Int) (t u : Tok) (s : Shared) (Q : Value → Shared → Prop) (E : Value → Shared → Prop), C i j → Q (.int (g i j) s.toks) { s with toks := s.toks + 1 } → wpAny (model X.prog X.w) X.A (f (.int i t) (.int j u)) Q E s) :
    OpR X f (rI C fun i j => .int (g i j)) := by
  intro pins s σ H x y v u Q I rx ry h
  obtain ⟨i, j, rfl, rfl, hc, q⟩ := h
  obtain ⟨t, rfl⟩ := rx
  obtain ⟨t', rfl⟩ := ry
  exact rule i j t t' s _ _ hc ⟨.int (g i j), H, I.tok _, ⟨_, rfl⟩, q⟩
theorem opI0 {f : Value → Value → Sem Value} {g : Int → Int → Int}
    (rule : ∀ (i j : Int) (t u : Tok) (s : Shared) (Q : Value → Shared → Prop) (E : Value → Shared → Prop), Q (.int (g i j) s.toks) { s with toks := s.toks + 1 } → wpAny (model X.prog X.w) X.A (f (.int i t) (.int j u)) Q E s) :
    OpR X f (rI0 fun i j => .int (g i j)) := by
  intro pins s σ H x y v u Q I rx ry h
  obtain ⟨i, j, rfl, rfl, q⟩ := h
  obtain ⟨t, rfl⟩ := rx
  obtain ⟨t', rfl⟩ := ry
  exact rule i j t t' s _ _ ⟨.int (g i j), H, I.tok _, ⟨_, rfl⟩, q⟩
theorem opB0 {f : Value → Value → Sem Value} {g : Int → Int → Bool}
    (rule : ∀ (i j : Int) (t u : Tok) (s : Shared) (Q : Value → Shared → Prop) (E : Value → Shared → Prop), Q (.bool (g i j)) s → wpAny (model X.prog X.w) X.A (f (.int i t) (.int j u)) Q E s) :
    OpR X f (rI0 fun i j => .bl (g i j)) := by
  intro pins s σ H x y v u Q I rx ry h
  obtain ⟨i, j, rfl, rfl, q⟩ := h
  obtain ⟨t, rfl⟩ := rx
  obtain ⟨t', rfl⟩ := ry
  exact rule i j t t' s _ _ ⟨.bl (g i j), H, I, rfl, q⟩

def CMul (i j : Int) : Prop := (-(2 ^ 64) < i ∧ i < 2 ^ 64) ∨ (-(2 ^ 64) < j ∧ j < 2 ^ 64)
theorem CMul.ok {i j : Int} (h : CMul i j) : IntMulOk i j := by
  rcases h with ⟨h1, h2⟩ | ⟨h1, h2⟩
  · exact .of_left (intBits_le_64 h1 h2)
  · exact .of_right (intBits_le_64 h1 h2)
theorem op_add : OpR X (binaryOp .Add) (rI0 fun i j => .int (i + j)) := opI0 fun _ _ _ _ _ _ _ q => add_int q
theorem op_sub : OpR X (binaryOp .Sub) (rI0 fun i j => .int (i - j)) := opI0 fun _ _ _ _ _ _ _ q => sub_int q
theorem op_mul : OpR X (binaryOp .Mult) (rI CMul fun i j => .int (i * j)) := opI fun _ _ _ _ _ _ _ hc q => mul_int q hc.ok
theorem op_modN : OpR X (binaryOp .Mod) (rI (fun _ j => j ≠ 0) fun i j => .int (i.fmod j)) := opI fun _ _ _ _ _ _ _ hc q => mod_int' hc q
theorem unI {f : Value → Sem Value} {g : Int → Int}
    (rule : ∀ (i : Int) (t : Tok) (s : Shared) (Q : Value → Shared → Prop) (E : Value → Shared → Prop), Q (.int (g i) s.toks) { s with toks := s.toks + 1 } → wpAny (model X.prog X.w) X.A (f (.int i t)) Q E s) :
    UnR X f (rU fun i => .int (g i)) := by
  intro pins s σ H x v Q I rx h
  obtain ⟨i, rfl, q⟩ := h
  obtain ⟨t, rfl⟩ := rx
  exact rule i t s _ _ ⟨.int (g i), H, I.tok _, ⟨_, rfl⟩, q⟩
theorem un_neg : UnR X (unaryOp .USub) (rU fun i => .int (-i)) := unI fun _ _ _ _ _ q => neg_int q
/-! ### bools among ints: n += (a < b) -/
end

/-! ### comparisons -/
/-- the scalars that == tells apart as data does -/
def scal : V → V → Bool
  | .non, .non => true | .non, .int _ => true | .int _, .non => true | .non, .bl _ => true | .bl _, .non => true | .non, .str _ => true | .str _, .non => true
  | .int _, .int _ => true | .bl _, .bl _ => true | .str _, .str _ => true | .byt _, .byt _ => true
  | .int _, .str _ => true | .str _, .int _ => true | .bl _, .str _ => true | .str _, .bl _ => true
  | _, _ => false
def rEq : R2 := fun x y H Q => scal x y = true ∧ Q (.bl (decide (x = y))) H
def rNe : R2 := fun x y H Q => scal x y = true ∧ Q (.bl (!decide (x = y))) H

theorem dec_int {i j : Int} : decide (V.int i = V.int j) = (i == j) := by
  rw [Bool.eq_iff_iff]
  simp
theorem dec_bl {i j : Bool} : decide (V.bl i = V.bl j) = (i == j) := by
  rw [Bool.eq_iff_iff]
  simp
theorem dec_str {i j : Str} : decide (V.str i = V.str j) = (i == j) := by
  rw [Bool.eq_iff_iff]
  simp
theorem dec_byt {i j : Array UInt8} : decide (V.byt i = V.byt j) = (i.toList == j.toList) := by
  rw [Bool.eq_iff_iff]
  cases i
  cases j
  simp

section
variable {X : Cx} {a b c : Expr} {ta tb tc : TE} {pos : Pos}
theorem fin_bl {pins : List (Addr × Obj)} {σ : St} {H : Hp} {s : Shared} {Q : VK} {k k' : Bool} (I : Inv X pins σ H s) (q : Q (.bl k) H) (e : k = k') : EP X pins σ Q (.bool k') s := by
  subst e
  exact ⟨.bl k, H, I, rfl, q⟩
theorem op_eq : OpR X (compareOp .Eq) rEq := by
  intro pins s σ H x y v u Q I rx ry h
  obtain ⟨hs, q⟩ := h
  cases x with
  | non =>
    cases rx
    cases y with
    | non => cases ry; exact PySem.EqNone.eq_none_none (fin_bl I q (by simp))
    | bl j => cases ry; exact PySem.EqNone.eq_none_bool (fin_bl I q (by simp))
    | int j => obtain ⟨t', rfl⟩ := ry; exact PySem.EqNone.eq_none_int (fin_bl I q (by simp))
    | str j => obtain ⟨t', rfl⟩ := ry; exact PySem.EqNone.eq_none_str (fin_bl I q (by simp))
    | _ => exact absurd (show false = true from hs) Bool.false_ne_true
  | bl i =>
    cases rx
    cases y with
    | non => cases ry; exact PySem.EqNone.eq_bool_none (fin_bl I q (by simp))
    | bl j => cases ry; exact eq_bool (fin_bl I q dec_bl)
    | str j => obtain ⟨t', rfl⟩ := ry; exact PySem.EqMixed.eq_bool_str (fin_bl I q (by simp))
    | _ => exact absurd (show false = true from hs) Bool.false_ne_true
  | int i =>
    obtain ⟨t, rfl⟩ := rx
    cases y with
    | non => cases ry; exact PySem.EqNone.eq_int_none (fin_bl I q (by simp))
    | int j => obtain ⟨t', rfl⟩ := ry; exact eq_int (fin_bl I q dec_int)
    | str j => obtain ⟨t', rfl⟩ := ry; exact PySem.EqMixed.eq_int_str (fin_bl I q (by simp))
    | _ => exact absurd (show false = true from hs) Bool.false_ne_true
  | str i =>
    obtain ⟨t, rfl⟩ := rx
    cases y with
    | non => cases ry; exact PySem.EqNone.eq_str_none (fin_bl I q (by simp))
    | bl j => cases ry; exact PySem.EqMixed.eq_str_bool (fin_bl I q (by simp))
    | int j => obtain ⟨t', rfl⟩ := ry; exact PySem.EqMixed.eq_str_int (fin_bl I q (by simp))
    | str j => obtain ⟨t', rfl⟩ := ry; exact eq_str (fin_bl I q dec_str)
    | _ => exact absurd (show false = true from hs) Bool.false_ne_true
  | byt i =>
    obtain ⟨t, rfl⟩ := rx
    cases y with
    | byt j => obtain ⟨t', rfl⟩ := ry; exact PySem.W.eq_bytes (fin_bl I q dec_byt)
    | _ => exact absurd (show false = true from hs) Bool.false_ne_true
  | _ => cases y <;> exact absurd (show false = true from hs) Bool.false_ne_true
theorem op_ne : OpR X (compareOp .NotEq) rNe := by
  intro pins s σ H x y v u Q I rx ry h
  obtain ⟨hs, q⟩ := h
  cases x with
  | non =>
    cases rx
    cases y with
    | non => cases ry; exact PySem.EqNone.ne_none_none (fin_bl I q (by simp))
    | bl j => cases ry; exact PySem.EqNone.ne_none_bool (fin_bl I q (by simp))
    | int j => obtain ⟨t', rfl⟩ := ry; exact PySem.EqNone.ne_none_int (fin_bl I q (by simp))
    | str j => obtain ⟨t', rfl⟩ := ry; exact PySem.EqNone.ne_none_str (fin_bl I q (by simp))
    | _ => exact absurd (show false = true from hs) Bool.false_ne_true
  | bl i =>
    cases rx
    cases y with
    | non => cases ry; exact PySem.EqNone.ne_bool_none (fin_bl I q (by simp))
    | bl j => cases ry; exact ne_bool (fin_bl I q (congrArg not dec_bl))
    | str j => obtain ⟨t', rfl⟩ := ry; exact PySem.EqMixed.ne_bool_str (fin_bl I q (by simp))
    | _ => exact absurd (show false = true from hs) Bool.false_ne_true
  | int i =>
    obtain ⟨t, rfl⟩ := rx
    cases y with
    | non => cases ry; exact PySem.EqNone.ne_int_none (fin_bl I q (by simp))
    | int j => obtain ⟨t', rfl⟩ := ry; exact ne_int (fin_bl I q (congrArg not dec_int))
    | str j => obtain ⟨t', rfl⟩ := ry; exact PySem.EqMixed.ne_int_str (fin_bl I q (by simp))
    | _ => exact absurd (show false = true from hs) Bool.false_ne_true
  | str i =>
    obtain ⟨t, rfl⟩ := rx
    cases y with
    | non => cases ry; exact PySem.EqNone.ne_str_none (fin_bl I q (by simp))
    | bl j => cases ry; exact PySem.EqMixed.ne_str_bool (fin_bl I q (by simp))
    | int j => obtain ⟨t', rfl⟩ := ry; exact PySem.EqMixed.ne_str_int (fin_bl I q (by simp))
    | str j => obtain ⟨t', rfl⟩ := ry; exact ne_str (fin_bl I q (congrArg not dec_str))
    | _ => exact absurd (show false = true from hs) Bool.false_ne_true
  | byt i =>
    obtain ⟨t, rfl⟩ := rx
    cases y with
    | byt j => obtain ⟨t', rfl⟩ := ry; exact PySem.W.ne_bytes (fin_bl I q (congrArg not dec_byt))
    | _ => exact absurd (show false = true from hs) Bool.false_ne_true
  | _ => cases y <;> exact absurd (show false = true from hs) Bool.false_ne_true

theorem op_lt : OpR X (compareOp .Lt) (rI0 fun i j => .bl (decide (i < j))) := opB0 fun _ _ _ _ _ _ _ q => lt_int q
theorem op_gt : OpR X (compareOp .Gt) (rI0 fun i j => .bl (decide (j < i))) := opB0 fun _ _ _ _ _ _ _ q => gt_int q
/-- the one string within the other -/
theorem op_in_str : OpR X (compareOp .In) (fun x y H Q => ∃ i j, x = .str i ∧ y = .str j ∧ Q (.bl (!(Builtin.Str.occurrences j i 0 j.length 1).isEmpty)) H) := by
  intro pins s σ H x y v u Q I rx ry h
  obtain ⟨i, j, rfl, rfl, q⟩ := h
  obtain ⟨t, rfl⟩ := rx
  obtain ⟨t', rfl⟩ := ry
  exact in_str (fin_bl I q rfl)

/-- is None, is not None: the right side a value none -/
theorem op_isN : OpR X (compareOp .Is) (fun x y H Q => y = .non ∧ Q (.bl (decide (x = .non))) H) := by
  intro pins s σ H x y v u Q I rx ry h
  obtain ⟨rfl, q⟩ := h
  cases ry
  refine is_none_gen (fin_bl I q ?_)
  cases x <;> first
    | (cases rx; rfl)
    | (obtain ⟨t, rfl⟩ := rx; rfl)
theorem nomark (b : Expr) {op : CmpOp} (h : op ≠ .In := by decide) (h2 : op ≠ .NotIn := by decide) : behindInMarks op b = false := by
  have e1 : (op == CmpOp.In) = false := by cases op <;> first | rfl | exact absurd rfl h
  have e2 : (op == CmpOp.NotIn) = false := by cases op <;> first | rfl | exact absurd rfl h2
  cases b <;> simp [behindInMarks, e1, e2]
/-- a comparison as a value; hm: nomark b, or (for in, not in) by with_unfolding_all rfl -/
theorem pe_cmpR {op : CmpOp} {r : R2} (ho : OpR X (compareOp op) r) (ha : PE X a ta) (hb : PE X b tb) (hm : behindInMarks op b = false) : PE X (.Compare a [op] [b] pos) (tOp r ta tb) := by
  intro pins s σ H Q I h
  exact wpAny_Compare1 (binT ha hb I h fun v u s2 x y H2 I2 rx ry q => ho pins s2 σ H2 x y v u Q I2 rx ry q) hm
/-- a reading of a value as a test -/
def tTest (t : TE) : TT := fun σ H Q => t σ H fun x H' => ∃ k, x = .bl k ∧ Q k H'
theorem pt_cmpR {op : CmpOp} {r : R2} (ho : OpR X (compareOp op) r) (ha : PE X a ta) (hb : PE X b tb) (hm : behindInMarks op b = false) : PT X (.Compare a [op] [b] pos) (tTest (tOp r ta tb)) := by
  intro pins s σ H Q I h
  refine wpAny_isTrue_Compare1 (thn (ha pins s σ H _ I h) fun v s1 ⟨x, H1, I1, r1, q1⟩ => thn (hb pins s1 σ H1 _ I1 q1) fun u s2 ⟨y, H2, I2, r2, q2⟩ =>
    thn (ho pins s2 σ H2 x y v u _ I2 r1 r2 q2) fun c s3 ⟨z, H3, I3, r3, k, e, q3⟩ => ?_) hm
  subst e
  cases r3
  exact wpAny_truthy_bool ⟨H3, I3, q3⟩
/-! ### truth -/
theorem line63 : (sizeLine : Nat) < 2 ^ 63 := by rw [sizeLine_eq]; decide
/-! ### strs and bytes -/
theorem op_add_str : OpR X (binaryOp .Add) (fun x y H Q => ∃ i j, x = .str i ∧ y = .str j ∧ i.length + j.length ≤ sizeLine ∧ Q (.str (i ++ j)) H) := by
  intro pins s σ H x y v u Q I rx ry h
  obtain ⟨i, j, rfl, rfl, hz, q⟩ := h
  obtain ⟨t, rfl⟩ := rx
  obtain ⟨t', rfl⟩ := ry
  exact add_str (fun t' tk => ⟨.str (i ++ j), H, I.tok _, ⟨_, rfl⟩, q⟩) hz
/-! ### scalar builtins, by CallR -/
theorem vals1 {x : V} {us : List Value} (r : Vals [x] us) : ∃ u, us = [u] ∧ RelV x u := by
  cases r with
  | cons r1 r2 => cases r2; exact ⟨_, rfl, r1⟩
theorem vals2 {x y : V} {us : List Value} (r : Vals [x, y] us) : ∃ u w', us = [u, w'] ∧ RelV x u ∧ RelV y w' := by
  cases r with
  | cons r1 r2 =>
    cases r2 with
    | cons r3 r4 => cases r4; exact ⟨_, _, rfl, r1, r3⟩
theorem call_max2 (hc : X.calm = true) : CallR X (.builtin "max") (fun xs H Q => ∃ i j, xs = [.int i, .int j] ∧ Q (.int (if j > i then j else i)) H) := by
  intro pins s σ H xs us Q I r h
  obtain ⟨i, j, rfl, q⟩ := h
  obtain ⟨u, w', rfl, ⟨t, rfl⟩, ⟨t', rfl⟩⟩ := vals2 r
  refine max_two_ints (I.ok.hd hc) fun h' tk k => ⟨_, H, I.kept k, ?_, q⟩
  by_cases hj : j > i
  · rw [if_pos hj, if_pos hj]; exact ⟨_, rfl⟩
  · rw [if_neg hj, if_neg hj]; exact ⟨_, rfl⟩
theorem call_int1 : CallR X (.type "int") (fun xs H Q => (∃ i, xs = [.int i] ∧ Q (.int i) H) ∨ ∃ k, xs = [.bl k] ∧ Q (.int (if k then 1 else 0)) H) := by
  intro pins s σ H xs us Q I r h
  rcases h with ⟨i, rfl, q⟩ | ⟨k, rfl, q⟩
  · obtain ⟨u, rfl, t, rfl⟩ := vals1 r
    exact call_int_int ⟨.int i, H, I, ⟨_, rfl⟩, q⟩
  · obtain ⟨u, rfl, r1⟩ := vals1 r
    cases r1
    exact call_int_bool ⟨.int (if k then 1 else 0), H, I.tok _, ⟨_, rfl⟩, q⟩
end
end L2

namespace L2
open PySem PySem.Spec PyProof.Rows

/-! ### an instance, its attributes a map -/
structure ObjM (h : Heap) (x dx C : Addr) (mA : Str → Option Value) : Prop where
  obj : h.get? x = some (PySem.W.instObj C dx)
  ns : h.Ns1 dx mA
  ne : dx ≠ x

theorem lookIn_ns {h : Heap} {dx : Addr} {mA : Str → Option Value} (n : h.Ns1 dx mA) : ∃ od, h.get? dx = some od ∧ ∀ name, PySem.W.lookIn name od = some (mA name) := by
  obtain ⟨o, es, ep, ho, hd, hk, _, hm⟩ := n
  refine ⟨o, ho, fun name => ?_⟩
  have e := hm name
  unfold nsFind findBy at e
  rw [← Array.find?_toList] at e
  unfold PySem.W.lookIn
  rw [hd]
  dsimp only
  split
  · rename_i y q
    rw [q] at e
    exact congrArg some e
  · rename_i q
    rw [q] at e
    have a : es.toList.any (·.refKey) = false := by
      rw [List.any_eq_false]
      intro y hy
      obtain ⟨z, t, hkey⟩ := hk y (Array.mem_toList_iff.mp hy)
      simp [DictEntry.refKey, hkey]
    have a' : ¬ es.toList.any (·.refKey) = true := by rw [a]; exact Bool.false_ne_true
    rw [if_neg a']
    exact congrArg some e

theorem ObjM.look {h : Heap} {x dx C : Addr} {mA : Str → Option Value} (I : ObjM h x dx C mA) : ∃ od, PySem.W.InstAt h x (PySem.W.instObj C dx) C (some od) ∧ ∀ name, PySem.W.lookIn name od = some (mA name) :=
  let ⟨od, ho, hl⟩ := lookIn_ns I.ns
  ⟨od, ⟨I.obj, rfl, rfl, ho⟩, hl⟩

section
variable {prog : Program} {w : World} {A : Around} {E : Value → Shared → Prop} {s : Shared} {K : PySem.W.Frag} {x dx C f : Addr} {mA : Str → Option Value} {name : Str} {v : Value}

theorem get_map {expr : Bool} {Q : Value → Shared → Prop} (X : K.In s.heap) (I : ObjM s.heap x dx C mA) (hg : PySem.W.plainGet K C name = true) (hh : PySem.W.hasDictIn K C = true)
    (ha : PySem.W.findIn K (.ref C) name = some none) (hv : mA name = some v) (hv' : PySem.W.handedIn v = true) (h : Q v { s with toks := s.toks + 1 }) :
    wpAny (model prog w) A (getAttr (.ref x) name expr) Q E s := by
  obtain ⟨od, J, hl⟩ := I.look
  exact PySem.W.get_value X J (PySem.W.plainGet_of hg).1 (PySem.W.findObj_own hh ha rfl (by rw [hl, hv])) hv' h

theorem get_meth {pl : Sem Bool} {Q : Value × List Value → Shared → Prop} (X : K.In s.heap) (I : ObjM s.heap x dx C mA) (hg : PySem.W.plainGet K C name = true)
    (hf : PySem.W.findIn K (.ref C) name = some (some (.ref f))) (ht : PySem.W.isFn K (.ref f) = true) (hv : mA name = none) (h : Q (.ref f, [.ref x]) s) :
    wpAny (model prog w) A (getMethod (.ref x) name pl) Q E s := by
  obtain ⟨od, J, hl⟩ := I.look
  exact PySem.W.method_fn X J (PySem.W.plainGet_of hg).1 (PySem.W.plainGet_of hg).2 hf (beq_iff_eq.mp ht) (by show (PySem.W.lookIn name od).map (·.isSome) = some false; rw [hl, hv]; rfl) h

theorem set_map {ns : List Str} {Q : Unit → Shared → Prop} (X : K.In s.heap) (I : ObjM s.heap x dx C mA)
    (hs : PySem.W.findIn K (.ref C) "__setattr__" = some (some (.builtin "object.__setattr__"))) (hp : PySem.W.plainOver K C = true) (ht : PySem.W.takerIn K C name = some none) (hh : PySem.W.hasDictIn K C = true)
    (hw : PySem.Within mA ns) (hsz : ns.length ≤ sizeLine)
    (h : ∀ h', ObjM h' x dx C (fun y => if y = name then some v else mA y) → Heap.SameBut dx s.heap h' → Q () { s with heap := h', toks := s.toks + 2 }) :
    wpAny (model prog w) A (setAttr (.ref x) name v) Q E s := by
  obtain ⟨od, J, hl⟩ := I.look
  refine PySem.W.set_plain X J hs (PySem.W.osa_open (s := { s with toks := s.toks + 1 }) (r := none) X J hp ht fun b => ?_)
  obtain ⟨cd, hc, hd'⟩ := PySem.W.any_some hh
  have hx : s.heap.get? x = some ⟨.ref C, some dx, .plain, #[]⟩ := I.obj
  refine wpAny_bind (wpAny_pure (wpAny_bind (wpAny_bind (wpAny_loadPart hx (wpAny_bind (PySem.W.Looks.here (s := { s with toks := s.toks + 1 }) (PySem.W.looks_clsIn X hc) ?_))))))
  rw [hd']
  refine wpAny_pure (a := some dx) (wpAny_bind (wpAny_pure (wpAny_bind ?_)))
  refine wpAny_nsSet1 (s := { s with toks := s.toks + 1 }) I.ns fun h' hn2 hs2 => ?_
  obtain ⟨oD, esD, epD, hoD, hdD, hcD⟩ := hn2.count (PySem.Within.cons name v hw)
  refine wpAny_bind (wpAny_lookBehind hoD (by rw [hdD]; exact pastItsLine_dict (Nat.le_trans hcD (by rw [List.length_cons]; omega))) ?_)
  exact wpAny_pure (h _ ⟨(hs2.2 _ (Ne.symm I.ne)).trans I.obj, hn2, I.ne⟩ hs2)

/-- C(..): the dict at the heap's end, the instance behind it; then its __init__ -/
theorem make_map {R : Result → Shared → Prop} {vs : List Value} {kw : List (Str × Value)} (X : K.In s.heap) (hm : PySem.W.makesIn K C = true)
    (hi : PySem.W.findIn K (.ref C) "__init__" = some (some (.ref f))) (hf : PySem.W.typeIn K (.ref f) = some (.type "function"))
    (h : codeAny (model prog w) (A.under (.builtin "type.__call__" ⟨.ref C :: vs, kw⟩)) (.call (.ref f) ⟨.ref (s.heap.objs.size + 1) :: vs, kw⟩) (PySem.W.InitBack (s.heap.objs.size + 1) R)
      { s with heap := (s.heap.push PySem.W.emptyDict).push (PySem.W.instObj C s.heap.objs.size) }) :
    codeAny (model prog w) A (.call (.ref C) ⟨vs, kw⟩) R s := by
  obtain ⟨hh, g, d, t, os⟩ := s
  exact PySem.W.make_core (PySem.W.makes_of X hm) (PySem.W.looks_findIn X hi) (fun self => PySem.W.bind_fn X self hf) (.inl rfl) h
end

/-! ### the attributes as a list of pairs -/
def putF (f : Str) (v : V) : List (Str × V) → List (Str × V)
  | [] => [(f, v)]
  | (g, x) :: r => if g = f then (g, v) :: r else (g, x) :: putF f v r
theorem lookup_putF (f g : Str) (v : V) : ∀ fs : List (Str × V), (putF f v fs).lookup g = if g = f then some v else fs.lookup g
  | [] => by
    show List.lookup g [(f, v)] = _
    by_cases h : g = f
    · have hb : (g == f) = true := beq_iff_eq.mpr h
      simp only [List.lookup, hb, if_pos h]
    · have hb : (g == f) = false := beq_eq_false_iff_ne.mpr h
      simp only [List.lookup, hb, if_neg h]
  | (k, x) :: r => by
    have ih := lookup_putF f g v r
    rw [show putF f v ((k, x) :: r) = (if k = f then (k, v) :: r else (k, x) :: putF f v r) from rfl]
    by_cases hk : k = f
    · rw [if_pos hk]
      by_cases h : g = k
      · have hb : (g == k) = true := beq_iff_eq.mpr h
        simp only [List.lookup, hb, if_pos (h.trans hk)]
      · have hb : (g == k) = false := beq_eq_false_iff_ne.mpr h
        simp only [List.lookup, hb, if_neg (fun e : g = f => h (e.trans hk.symm))]
    · rw [if_neg hk]
      by_cases h : g = k
      · have hb : (g == k) = true := beq_iff_eq.mpr h
        simp only [List.lookup, hb, if_neg (fun e : g = f => hk (h.symm.trans e))]
      · have hb : (g == k) = false := beq_eq_false_iff_ne.mpr h
        simp only [List.lookup, hb]
        exact ih
theorem keys_putF (f : Str) (v : V) : ∀ fs : List (Str × V), f ∈ (putF f v fs).map (·.1) ∧ ∀ g, g ∈ fs.map (·.1) → g ∈ (putF f v fs).map (·.1)
  | [] => ⟨by simp [putF], fun g h => by simp at h⟩
  | (k, x) :: r => by
    obtain ⟨i1, i2⟩ := keys_putF f v r
    rw [show putF f v ((k, x) :: r) = (if k = f then (k, v) :: r else (k, x) :: putF f v r) from rfl]
    by_cases hk : k = f
    · rw [if_pos hk]
      subst hk
      exact ⟨by simp, fun g h => by simpa using h⟩
    · rw [if_neg hk]
      refine ⟨?_, fun g h => ?_⟩
      · rw [List.map_cons]
        exact List.mem_cons_of_mem _ i1
      · rw [List.map_cons] at h ⊢
        rcases List.mem_cons.mp h with e | e
        · exact List.mem_cons.mpr (.inl e)
        · exact List.mem_cons_of_mem _ (i2 g e)
theorem length_putF (f : Str) (v : V) : ∀ fs : List (Str × V), (putF f v fs).length ≤ fs.length + 1
  | [] => by simp [putF]
  | (k, x) :: r => by
    have ih := length_putF f v r
    rw [show putF f v ((k, x) :: r) = (if k = f then (k, v) :: r else (k, x) :: putF f v r) from rfl]
    by_cases hk : k = f
    · rw [if_pos hk, List.length_cons, List.length_cons]; omega
    · rw [if_neg hk, List.length_cons, List.length_cons]; omega

theorem RelO.some_of {v : V} {o : Option Value} (r : RelO (some v) o) : ∃ u, o = some u ∧ RelV v u := by
  cases o with
  | none => exact (show False from r).elim
  | some u => exact ⟨u, rfl, r⟩
theorem RelO.none_of {o : Option Value} (r : RelO none o) : o = none := by
  cases o with
  | none => rfl
  | some u => exact (show False from r).elim
theorem handed_of {v : V} {u : Value} (r : RelV v u) : PySem.W.handedIn u = true := by
  cases v with
  | non => cases (show u = Value.none from r); rfl
  | bl b => cases (show u = Value.bool b from r); rfl
  | int i => obtain ⟨t, e⟩ := (show ∃ t, u = Value.int i t from r); cases e; rfl
  | str x => obtain ⟨t, e⟩ := (show ∃ t, u = Value.str x t from r); cases e; rfl
  | byt b => obtain ⟨t, e⟩ := (show ∃ t, u = Value.bytes b t from r); cases e; rfl
  | flt b => obtain ⟨t, e⟩ := (show ∃ t, u = Value.float b t from r); cases e; rfl
  | ref a => cases (show u = Value.ref a from r); rfl
  | ty n => cases (show u = Value.type n from r); rfl

section
variable {P : Program} {w : World} {H H' : Hp} {h h' : Heap} {a C dx : Addr} {fs fs' : List (Str × V)}
theorem ins_get (hok : HOk P w H h) (e : H a = some (.ins C dx fs)) : ∃ mA, ObjM h a dx C mA ∧ (∀ f, RelO (fs.lookup f) (mA f)) ∧ PySem.Within mA (fs.map (·.1)) ∧ fs.length ≤ 1000 ∧ H dx = some (.own a) := by
  obtain ⟨d, z, ne, ob, mA, n, r, q⟩ := (show ObjOk P w H h a (.ins C dx fs) from hok a _ e)
  exact ⟨mA, ⟨ob, n, ne⟩, r, q, z, d⟩
end

/-! ### what of the text a class must have -/
structure Cls (K : PySem.W.Frag) (C : Addr) : Prop where
  pg : PySem.W.plainGet K C Str.empty = true
  hd : PySem.W.hasDictIn K C = true
  po : PySem.W.plainOver K C = true
  sa : PySem.W.findIn K (.ref C) "__setattr__" = some (some (.builtin "object.__setattr__"))
theorem Cls.get {K : PySem.W.Frag} {C : Addr} (c : Cls K C) (f : Str) : PySem.W.plainGet K C f = true := c.pg
/-- no class of it has the name -/
def NoAttr (K : PySem.W.Frag) (C : Addr) (f : Str) : Prop := PySem.W.findIn K (.ref C) f = some none
theorem NoAttr.taker {K : PySem.W.Frag} {C : Addr} {f : Str} (n : NoAttr K C f) : PySem.W.takerIn K C f = some none := by
  unfold PySem.W.takerIn
  rw [show PySem.W.findIn K (.ref C) f = some none from n]
  rfl
/-- a method: a plain def of the class or of one above it -/
structure Meth (K : PySem.W.Frag) (C : Addr) (m : Str) (f : Addr) : Prop where
  at_ : PySem.W.findIn K (.ref C) m = some (some (.ref f))
  fn : PySem.W.isFn K (.ref f) = true
  kp : PySem.W.keepIn K (.ref f) = true

section
variable {X : Cx} {pins : List (Addr × Obj)} {σ : St} {H : Hp} {s : Shared} {a C dx : Addr} {fs : List (Str × V)} {f : Str} {v : V} {A : Around} {E : Value → Shared → Prop}

theorem getattr_ok {b : Bool} {Q : Value → Shared → Prop} (I : Inv X pins σ H s) (e : H a = some (.ins C dx fs)) (c : Cls X.K C) (n : NoAttr X.K C f) (l : fs.lookup f = some v)
    (h : ∀ u s', Inv X pins σ H s' → RelV v u → Q u s') : wpAny (model X.prog X.w) A (getAttr (.ref a) f b) Q E s := by
  obtain ⟨mA, O, r, _, _, _⟩ := ins_get I.hok e
  obtain ⟨u, hu, ru⟩ := RelO.some_of (v := v) (o := mA f) (by rw [← l]; exact r f)
  exact get_map I.kIn O (c.get f) c.hd n hu (handed_of ru) (h u _ (I.tok _) ru)

theorem getmeth_ok {m : Str} {g : Addr} {pl : Sem Bool} {Q : Value × List Value → Shared → Prop} (I : Inv X pins σ H s) (e : H a = some (.ins C dx fs)) (c : Cls X.K C) (k : Meth X.K C m g) (l : fs.lookup m = none)
    (h : Q (.ref g, [.ref a]) s) : wpAny (model X.prog X.w) A (getMethod (.ref a) m pl) Q E s := by
  obtain ⟨mA, O, r, _, _, _⟩ := ins_get I.hok e
  have hn : mA m = none := RelO.none_of (by rw [← l]; exact r m)
  exact get_meth I.kIn O (c.get m) k.at_ k.fn hn h

theorem setattr_ok {y : V} {u : Value} {Q : Unit → Shared → Prop} (I : Inv X pins σ H s) (e : H a = some (.ins C dx fs)) (c : Cls X.K C) (n : NoAttr X.K C f) (hl : fs.length < 1000) (ry : RelV y u)
    (h : ∀ s', Inv X pins σ (upd H a (.ins C dx (putF f y fs))) s' → Q () s') : wpAny (model X.prog X.w) A (setAttr (.ref a) f u) Q E s := by
  obtain ⟨mA, O, r, wi, _, ho⟩ := ins_get I.hok e
  have hz : (fs.map (·.1)).length ≤ sizeLine := by rw [List.length_map, sizeLine_eq]; omega
  refine set_map I.kIn O c.sa c.po n.taker c.hd wi hz fun h' O' sb => h _ ?_
  have hd : ∃ o, h'.get? dx = some o := let ⟨o, _, _, e', _⟩ := O'.ns; ⟨o, e'⟩
  refine I.write (x := a) (e := dx) (by rw [e]; exact True.intro) (.inr ho) (fun b q hb z => (sb.2 b hb).trans z) hd ?_
  refine ⟨by rw [upd_ne O.ne]; exact ho, ?_, O.ne, O'.obj, _, O'.ns, fun g => ?_, fun g hg => ?_⟩
  · have := length_putF f y fs; omega
  · show RelO ((putF f y fs).lookup g) (if g = f then some u else mA g)
    rw [lookup_putF]
    by_cases q : g = f
    · rw [if_pos q, if_pos q]; exact ry
    · rw [if_neg q, if_neg q]; exact r g
  · by_cases q : g = f
    · rw [q]; exact (keys_putF f y fs).1
    · refine (keys_putF f y fs).2 g (wi g fun z => hg ?_)
      show (if g = f then some u else mA g) = none
      rw [if_neg q]; exact z

/-- a new instance, tracked, without attributes -/
theorem Inv.made (I : Inv X pins σ H s) : Inv X pins σ (upd (upd H s.heap.objs.size (.own (s.heap.objs.size + 1))) (s.heap.objs.size + 1) (.ins C s.heap.objs.size []))
    { s with heap := (s.heap.push PySem.W.emptyDict).push (PySem.W.instObj C s.heap.objs.size) } := by
  have e1 : (s.heap.push PySem.W.emptyDict).get? s.heap.objs.size = some PySem.W.emptyDict := Heap.get?_push_size s.heap rfl
  have e2 : ((s.heap.push PySem.W.emptyDict).push (PySem.W.instObj C s.heap.objs.size)).get? (s.heap.objs.size + 1) = some (PySem.W.instObj C s.heap.objs.size) := by
    have := Heap.get?_push_size (s.heap.push PySem.W.emptyDict) (o := PySem.W.instObj C s.heap.objs.size) rfl
    rwa [Heap.size_push] at this
  have e3 : (s.heap.push PySem.W.emptyDict).Ns s.heap.objs.size (fun _ => none) := ⟨PySem.W.emptyDict, #[], _, e1, rfl, (fun e he => absurd he (by simp)), fun _ => rfl⟩
  have I1 := I.laid (a := s.heap.objs.size) (o := .own (s.heap.objs.size + 1)) (h' := s.heap.push PySem.W.emptyDict) (t' := s.toks) (fun b u q => Heap.get?_push_of_some _ q) (Nat.le_refl _) ⟨_, e1⟩
  refine I1.laid (a := s.heap.objs.size + 1) (o := .ins C s.heap.objs.size []) (t' := s.toks) (fun b u q => Heap.get?_push_of_some _ q) (Nat.le_of_eq (Heap.size_push _ _)) ?_
  have ne : s.heap.objs.size ≠ s.heap.objs.size + 1 := Nat.ne_of_lt (Nat.lt_succ_self _)
  refine ⟨by rw [upd_ne ne, upd_same], Nat.zero_le _, ne, e2, fun _ => none, (Heap.Ns1.of_empty e3).at fun o q => Heap.get?_push_of_some _ q, fun _ => True.intro, fun y hy => absurd rfl hy⟩

/-- e.f where nothing but the object is asked: through attributeBase (super) and the last hold -/
theorem attr_of {prog : Program} {w : World} {env : Env} {e : Expr} {f : Str} {pos : Pos} {s : Shared} {Q : Value → Shared → Prop} (hb : attributeBase e f env (eval e env) = eval e env)
    (h : wpAny (model prog w) A (eval e env) (fun o s₁ => wpAny (model prog w) A (getAttr o f true) Q E s₁) E s) : wpAny (model prog w) A (eval (.Attribute e f pos) env) Q E s :=
  Attribute_any_ h (by rw [arm_eval_Attribute, hb])
end

/-! ### readings and rules -/
/-- e.f, an attribute of the instance -/
def tFld (K : PySem.W.Frag) (ta : TE) (f : Str) : TE := fun σ H Q => ta σ H fun x H1 => ∃ a C dx fs v, x = .ref a ∧ H1 a = some (.ins C dx fs) ∧ Cls K C ∧ NoAttr K C f ∧ fs.lookup f = some v ∧ Q v H1
/-- e.f = value -/
def sFld (K : PySem.W.Frag) (ta tv : TE) (f : Str) : TS := fun D σ H => tv σ H fun y H1 => ta σ H1 fun x H2 => ∃ a C dx fs, x = .ref a ∧ H2 a = some (.ins C dx fs) ∧ Cls K C ∧ NoAttr K C f ∧ fs.length < 1000 ∧
  D.nx σ (upd H2 a (.ins C dx (putF f y fs)))
section
variable {X : Cx} {o e value : Expr} {f : Str} {pos pos' tpos : Pos} {ta tv : TE}
theorem pe_fld (he : PE X e ta) (hb : attributeBase e f X.env (eval e X.env) = eval e X.env) : PE X (.Attribute e f pos) (tFld X.K ta f) := by
  intro pins s σ H Q I h
  refine attr_of hb (thn (he pins s σ H _ I h) fun u s1 ⟨x, H1, I1, rx, a, C, dx, fs, v, ex, ea, c, n, l, q⟩ => ?_)
  subst ex
  obtain rfl : u = Value.ref a := rx
  exact getattr_ok I1 ea c n l fun u' s2 I2 ru => ⟨v, H1, I2, ru, q⟩
theorem ps_fld (ha : PE X o ta) (hv : PE X value tv) (hs : swapsWith value (some (.Attribute o f pos')) pos.line X.env = pure false) : PS X (.Assign [.Attribute o f pos'] value pos) (sFld X.K ta tv f) := by
  intro pins s σ H D I h
  refine plainObj_wpAny_Assign_Attribute (thn (hv pins s σ H _ I h) fun u s1 ⟨y, H1, I1, ry, q⟩ => thn (ha pins s1 σ H1 _ I1 q) fun ov s2 ⟨x, H2, I2, rx, a, C, dx, fs, ex, ea, c, n, l, q2⟩ => ?_) hs
  subst ex
  obtain rfl : ov = Value.ref a := rx
  exact setattr_ok I2 ea c n l ry fun s3 I3 => ⟨σ, _, I3, q2⟩
end

/-! ### isinstance -/
section
variable {X : Cx} {pins : List (Addr × Obj)} {σ : St} {H : Hp} {s : Shared} {A : Around} {E : Value → Shared → Prop} {Q : Value → Shared → Prop} {c : Value} {b : Bool}
/-- the type of a value, as the fragment's deciders take it; for an instance its class -/
inductive TyOf (K : PySem.W.Frag) (H : Hp) : V → Value → Prop where
  | non : TyOf K H .non (.type "NoneType")
  | bl (x : Bool) : TyOf K H (.bl x) (.type "bool")
  | int (i : Int) : TyOf K H (.int i) (.type "int")
  | str (x : Str) : TyOf K H (.str x) (.type "str")
  | flt (x : UInt64) : TyOf K H (.flt x) (.type "float")
  | lst {a : Addr} {xs : List V} (e : H a = some (.lst xs)) : TyOf K H (.ref a) (.type "list")
  | frz {a : Addr} {o : Obj} {xs : List V} (e : H a = some (.frz o (.lst xs))) : TyOf K H (.ref a) (.type "list")
  | tup {a : Addr} {xs : List V} (e : H a = some (.tup xs)) : TyOf K H (.ref a) (.type "tuple")
  | dK {a : Addr} {kvs : List (Key × V)} (e : H a = some (.dK kvs)) : TyOf K H (.ref a) (.type "dict")
  | dT {a : Addr} {kvs : List (List Key × V)} (e : H a = some (.dT kvs)) : TyOf K H (.ref a) (.type "dict")
  | ins {a C dx : Addr} {fs : List (Str × V)} (e : H a = some (.ins C dx fs)) (cl : Cls K C) (ha : PySem.W.findIn K (.ref C) "__class__" = some (some (.builtin "object.__class__")))
      (hn : PySem.W.specialIn K (.builtin "object.__class__") "__get__" = some (some (.builtin "getset_descriptor.__get__"))) (htk : PySem.W.takesIn K (.builtin "object.__class__") = some true)
      (hm : PySem.W.mroIn K C (.type "object") = some true) : TyOf K H (.ref a) (.ref C)
/-- isinstance(x, c) for one class c, a built-in or an own one: kitOne's answer -/
theorem isinst_ok {x : V} {u t : Value} (I : Inv X pins σ H s) (rx : RelV x u) (ty : TyOf X.K H x t) (e : PySem.W.kitOne X.K t c = some b) (h : ∀ tk, Q (.bool b) { s with toks := tk }) :
    wpAny (model X.prog X.w) A (call (.builtin "isinstance") [u, c]) Q E s := by
  cases ty with
  | non => cases (show u = Value.none from rx); exact PySem.W.kia_one PySem.W.kitx_none I.kIn True.intro e (fun z => nomatch z) h
  | bl y => cases (show u = Value.bool y from rx); exact PySem.W.kia_one PySem.W.kitx_bool I.kIn True.intro e (fun z => nomatch z) h
  | int i => obtain ⟨t, q⟩ := (show ∃ t, u = Value.int i t from rx); cases q; exact PySem.W.kia_one PySem.W.kitx_int I.kIn True.intro e (fun z => nomatch z) h
  | str y => obtain ⟨t, q⟩ := (show ∃ t, u = Value.str y t from rx); cases q; exact PySem.W.kia_one PySem.W.kitx_str I.kIn True.intro e (fun z => nomatch z) h
  | flt y => obtain ⟨t, q⟩ := (show ∃ t, u = Value.float y t from rx); cases q; exact PySem.W.kia_one PySem.W.kitx_float I.kIn True.intro e (fun z => nomatch z) h
  | @lst a xs ea =>
    cases (show u = Value.ref a from rx)
    obtain ⟨_, _, n, _, h1⟩ := (show ObjOk X.prog X.w H s.heap a (.lst xs) from I.hok a _ ea)
    exact PySem.W.kia_one PySem.W.kitx_list I.kIn ⟨_, h1, rfl⟩ e (fun z => nomatch z) h
  | @frz a ob xs ea =>
    cases (show u = Value.ref a from rx)
    obtain ⟨_, _, _, n, _, h1⟩ := (show ObjOk X.prog X.w H s.heap a (.frz ob (.lst xs)) from I.hok a _ ea)
    exact PySem.W.kia_one PySem.W.kitx_list I.kIn ⟨_, h1, rfl⟩ e (fun z => nomatch z) h
  | @tup a xs ea =>
    cases (show u = Value.ref a from rx)
    obtain ⟨_, _, _, p⟩ := (show ObjOk X.prog X.w H s.heap a (.tup xs) from I.hok a _ ea)
    obtain ⟨o, h1, h2, _⟩ := p
    exact PySem.W.kia_one PySem.W.kitx_tuple I.kIn ⟨o, h1, h2⟩ e (fun z => nomatch z) h
  | @dK a kvs ea =>
    cases (show u = Value.ref a from rx)
    obtain ⟨_, _, vs, _, p⟩ := (show ObjOk X.prog X.w H s.heap a (.dK kvs) from I.hok a _ ea)
    obtain ⟨o, es, ep, h1, h2, _⟩ := p
    exact PySem.W.kia_one PySem.W.kitx_dict I.kIn ⟨o, h1, h2.1⟩ e (fun z => nomatch z) h
  | @dT a kvs ea =>
    cases (show u = Value.ref a from rx)
    obtain ⟨_, _, xs, _, o, es, ep, h1, h2, _⟩ := (show ObjOk X.prog X.w H s.heap a (.dT kvs) from I.hok a _ ea)
    exact PySem.W.kia_one PySem.W.kitx_dict I.kIn ⟨o, h1, h2.1⟩ e (fun z => nomatch z) h
  | @ins a C dx fs ea cl ha hn htk hm =>
    cases (show u = Value.ref a from rx)
    obtain ⟨mA, O, _⟩ := ins_get I.hok ea
    obtain ⟨od, J, _⟩ := O.look
    exact PySem.W.kia_one (PySem.W.kitx_own (cl.get _) cl.hd ha hn htk hm) I.kIn J e (fun z => nomatch z) h
end
end L2

namespace L2
open PySem PySem.Spec PyProof.Rows

/-! ### room -/
structure Room (k : Nat) (A : Around) : Prop where
  hd : A.handled = none
  dp : A.depth + 3 * k + 5 < recursionLimit
  un : A.units + 16 * k + 200 < cLine
theorem Room.mono {j k : Nat} {A : Around} (r : Room k A) (h : j ≤ k) : Room j A := ⟨r.hd, by have := r.dp; omega, by have := r.un; omega⟩
theorem Room.deeper {k : Nat} {A : Around} (r : Room (k + 1) A) (env : Env) : Room k (A.deeper env) :=
  ⟨r.hd, by have := r.dp; show A.depth + 1 + 3 * k + 5 < _; omega, by have := r.un; show A.units + 3 + 16 * k + 200 < _; omega⟩
theorem make_depth {A : Around} {C : Addr} {us : List Value} {kw : List (Str × Value)} : (A.under (.builtin "type.__call__" ⟨.ref C :: us, kw⟩)).depth = A.depth + 1 := by
  first | rfl | simp [Around.under, Code.weight, Code.isCreation, Code.isGuard, Code.isCaller, Code.frames, Code.isFrame, guardIds]
theorem make_units {A : Around} {C : Addr} {us : List Value} {kw : List (Str × Value)} : (A.under (.builtin "type.__call__" ⟨.ref C :: us, kw⟩)).units = A.units + 1 := by
  first | rfl | simp [Around.under, Code.cUnits, Code.frames, Code.isFrame]
theorem Room.make {k : Nat} {A : Around} (r : Room (k + 1) A) (C : Addr) (us : List Value) (kw : List (Str × Value)) : Room k (A.under (.builtin "type.__call__" ⟨.ref C :: us, kw⟩)) :=
  ⟨r.hd, by have := r.dp; rw [make_depth]; omega, by have := r.un; rw [make_units]; omega⟩
theorem Room.depth {k : Nat} {A : Around} (r : Room k A) : A.depth < recursionLimit := by have := r.dp; omega
theorem Room.units {k : Nat} {A : Around} (r : Room k A) : A.units + 64 < cLine := by have := r.un; omega
/-! ### argument lists and displays -/
def tNil : TA := fun _ H Q => Q [] H
def tCons (ta : TE) (tr : TA) : TA := fun σ H Q => ta σ H fun x H1 => tr σ H1 fun xs H2 => Q (x :: xs) H2
section
variable {X : Cx} {e : Expr} {es : List Expr} {te : TE} {t : TA} {pos : Pos}
theorem pa_nil : PA X [] tNil := fun _ _ _ _ H Q I h => Calls.spliced_nil ⟨[], H, I, .nil, h⟩
theorem pa_cons (ha : PE X e te) (hr : PA X es t) (hs : starEach (e :: es) X.env = (false, eval e X.env) :: starEach es X.env := by rfl) : PA X (e :: es) (tCons te t) := by
  intro pos pins s σ H Q I h
  rw [hs]
  show wpAny _ _ (spliced ((false, eval e X.env) :: backTo pos (starEach es X.env))) _ _ s
  refine Calls.spliced_cons (thn (ha pins s σ H _ I h) fun u s1 ⟨x, H1, I1, r1, q1⟩ => ?_)
  exact thn (hr pos pins s1 σ H1 _ I1 q1) fun us s2 ⟨xs, H2, I2, r2, q2⟩ => ⟨x :: xs, H2, I2, .cons r1 r2, q2⟩

/-- a tuple, a list of written items -/
def tTup (t : TA) : TE := fun σ H Q => t σ H fun xs H1 => xs.length ≤ sizeLine ∧ ∀ p, H1 p = none → Q (.ref p) (upd H1 p (.tup xs))
def tLst (t : TA) : TE := fun σ H Q => t σ H fun xs H1 => xs.length ≤ sizeLine ∧ ∀ p, H1 p = none → Q (.ref p) (upd H1 p (.lst xs))
theorem pe_tup {x1} (h : PA X es t) : PE X (.Tuple es x1 pos) (tTup t) := by
  intro pins s σ H Q I hq
  refine wpAny_Tuple_spliced (thn (h pos pins s σ H _ I hq) fun us s1 ⟨xs, H1, I1, r, z, q⟩ => ⟨by rw [← r.length]; exact z, ?_⟩)
  have hf : H1 s1.heap.objs.size = none := I1.hok.fresh (Nat.le_refl _)
  refine ⟨.ref s1.heap.objs.size, upd H1 s1.heap.objs.size (.tup xs), I1.laid (t' := s1.toks) (fun b u e => Heap.get?_push_of_some _ e) (Nat.le_refl _) ?_, rfl, q _ hf⟩
  exact ⟨z, us, r, ⟨_, Heap.get?_push_size _ rfl, rfl, _, rfl⟩⟩
theorem pe_lst (h : PA X es t) : PE X (.List es pos) (tLst t) := by
  intro pins s σ H Q I hq
  refine wpAny_List_spliced (thn (h pos pins s σ H _ I hq) fun us s1 ⟨xs, H1, I1, r, z, q⟩ => ⟨by rw [← r.length]; exact z, ?_⟩)
  have hf : H1 s1.heap.objs.size = none := I1.hok.fresh (Nat.le_refl _)
  refine ⟨.ref s1.heap.objs.size, upd H1 s1.heap.objs.size (.lst xs), I1.laid (t' := s1.toks) (fun b u e => Heap.get?_push_of_some _ e) (Nat.le_refl _) ?_, rfl, q _ hf⟩
  exact ⟨z, us, 0, r, Heap.get?_push_size _ rfl⟩
end

/-! ### what a def promises -/
/-- a def's promise: the bound arguments in the parameters' order, the heap, the wanted end, the wanted exception -/
abbrev Sp := List V → Hp → VK → XK → Prop
/-- how an exception lies behind a call (file 08 gives it): the callers' frames, abstract heap and state ahead of the call, the wish, the exception, the state -/
abbrev CXT := List Env → Hp → Shared → XK → Value → Shared → Prop

/-- the state at a call -/
structure Env0 (P : Program) (w : World) (K : PySem.W.Frag) (mg : Str → Option Value) (base : Heap) (A : Around) (outer : List Env) (s : Shared) (H : Hp) : Prop where
  frames : A.frames = some outer
  mod : Mod K mg base
  bs : ∀ b o, base.get? b = some o → s.heap.get? b = some o ∧ H b = none
  bsz : base.objs.size ≤ s.heap.objs.size
  funs : s.heap.FunFrames base outer
  frf : ∀ b ∈ frs outer, H b = none
  hok : HOk P w H s.heap
  bare : AllBare s.gens
/-- a call's end -/
def CE (outer : List Env) (P : Program) (w : World) (H : Hp) (s : Shared) (Q : VK) (u : Value) (s' : Shared) : Prop :=
  ∃ v H', s'.os = s.os ∧ AllBare s'.gens ∧ Un (frs outer) [] H H' s.heap s'.heap ∧ HOk P w H' s'.heap ∧ RelV v u ∧ Q v H'
def CR (CX : CXT) (outer : List Env) (P : Program) (w : World) (H : Hp) (s : Shared) (Q : VK) (E : XK) (r : Result) (s' : Shared) : Prop :=
  match r with
  | .ok (.ret u) => CE outer P w H s Q u s'
  | .ok _ => False
  | .error e => CX outer H s E e s'
structure FnOk (P : Program) (w : World) (K : PySem.W.Frag) (mg : Str → Option Value) (base : Heap) (CX : CXT) (k : Nat) (f : Addr) (fd : FuncData) (ps : List Str) (sp : Sp) : Prop where
  len : ∀ vs H Q E, sp vs H Q E → vs.length = ps.length
  run : ∀ (A : Around) (outer : List Env) (s : Shared) (H : Hp) (args : Args) (us : List Value) (vs : List V) (Q : VK) (E : XK), Room k A → Env0 P w K mg base A outer s H → BindsTo s fd args (ps.zip us) → Vals vs us → sp vs H Q E →
    codeAny (model P w) A (.call (.ref f) args) (CR CX outer P w H s Q E) s
/-- a weaker promise -/
theorem FnOk.imp {P : Program} {w : World} {K : PySem.W.Frag} {mg : Str → Option Value} {base : Heap} {CX : CXT} {k : Nat} {f : Addr} {fd : FuncData} {ps : List Str} {sp sp' : Sp} (F : FnOk P w K mg base CX k f fd ps sp)
    (h : ∀ vs H Q E, sp' vs H Q E → sp vs H Q E) : FnOk P w K mg base CX k f fd ps sp' :=
  ⟨fun vs H Q E q => F.len vs H Q E (h _ _ _ _ q), fun A outer s H args us vs Q E hr he hb hv hs => F.run A outer s H args us vs Q E hr he hb hv (h _ _ _ _ hs)⟩

theorem Env0.make {P : Program} {w : World} {K : PySem.W.Frag} {mg : Str → Option Value} {base : Heap} {A : Around} {outer : List Env} {s : Shared} {H : Hp} (e : Env0 P w K mg base A outer s H) (C : Addr) (us : List Value) (kw : List (Str × Value)) :
    Env0 P w K mg base (A.under (.builtin "type.__call__" ⟨.ref C :: us, kw⟩)) outer s H := ⟨by first | exact e.frames | (simpa [Around.under, Code.envs, Code.isFrame, pushEnvs] using e.frames), e.mod, e.bs, e.bsz, e.funs, e.frf, e.hok, e.bare⟩
section
variable {X : Cx} {pins : List (Addr × Obj)} {σ : St} {H : Hp} {s s' : Shared}
/-- from a body: what a callee wants -/
theorem Inv.env0 (I : Inv X pins σ H s) : Env0 X.prog X.w X.K X.mg X.base X.A X.stack s H :=
  ⟨I.ok.frames, I.ok.mod, I.bs, Nat.le_trans I.ok.bsz I.sz, I.stack, I.stkFree, I.hok, I.bare⟩
/-- behind a call -/
theorem Inv.after {Q : VK} {u : Value} (I : Inv X pins σ H s) (h : CE X.stack X.prog X.w H s Q u s') : EP X pins σ Q u s' := by
  obtain ⟨v, H', os, bare, un, hok, r, q⟩ := h
  obtain ⟨hh, g, d, t, os'⟩ := s'
  obtain rfl : os' = s.os := os
  exact ⟨v, H', I.call (h' := hh) (g' := g) (d' := d) (t' := t) (ch := []) un hok bare (fun b z => absurd z (by simp)), r, q⟩
end

/-! ### calls -/
/-- how the parameters are bound: us the positional arguments, kw the keywords' values by name, ds the defaults that fill up -/
def Binds (K : PySem.W.Frag) (fd : FuncData) (ps : List Str) (ds : List Value) : Prop :=
  ∀ (s : Shared) (us : List Value), K.In s.heap → (us ++ ds).length = ps.length → BindsTo s fd ⟨us, []⟩ (ps.zip (us ++ ds))
/-- every parameter is given -/
theorem Binds.all {K : PySem.W.Frag} {fd : FuncData} {ps : List Str} (h : ∀ us : List Value, us.length = ps.length → bindArgs fd ⟨us, []⟩ = pure (ps.zip us)) : Binds K fd ps [] := fun s us _ hl => by
  rw [List.append_nil] at hl ⊢
  exact .of_eq (h us hl)

section
variable {X : Cx} {CX : CXT} {k : Nat} {f C : Addr} {fd : FuncData} {ps : List Str} {sp : Sp} {dvs : List V} {ds : List Value} {E : XK} {x m : Str} {p pos apos : Pos} {e o : Expr} {es : List Expr} {ta : TE} {t : TA}

/-- what a class must have to be made -/
structure Mk (K : PySem.W.Frag) (C f : Addr) : Prop where
  makes : PySem.W.makesIn K C = true
  init : PySem.W.findIn K (.ref C) "__init__" = some (some (.ref f))
  fn : PySem.W.isFn K (.ref f) = true
  kp : PySem.W.keepIn K (.ref C) = true

end

/-! ### keywords -/
section
variable {X : Cx} {CX : CXT} {k : Nat} {f C : Addr} {fd : FuncData} {ps ks : List Str} {sp : Sp} {E : XK} {x m : Str} {p pos apos kpos : Pos} {e o : Expr} {es : List Expr} {kws : List Keyword} {te ta : TE} {t tk : TA} {nm : Option Str}
variable {g : List Value → List Value → List Value} {gV : List V → List V → List V}
end

/-! ### a def's body keeps its promise -/
/-- names: the parameters first -/
structure FnScope (N P : List Str) (sc : Scope) : Prop where
  kind : sc.kind = .function
  co : sc.isCoroutine = false
  gen : sc.isGenerator = false
  nd : N.Nodup
  pre : N.take P.length = P
  par : ∀ x ∈ P, sc.names.lookup x = some .local ∨ sc.names.lookup x = some .cell
  nofree : ∀ y ∈ sc.names, y.2 ≠ .free

theorem bindL_out {kindOf : Str → Option NameKind} {x : Str} : ∀ {binds : List (Str × Value)} {m : Str → Option Value}, (∀ v, (x, v) ∉ binds) → bindL kindOf binds m x = m x
  | [], _, _ => rfl
  | (n, v) :: r, m, h => by
    unfold bindL
    rw [bindL_out fun w hw => h w (List.mem_cons_of_mem _ hw)]
    split
    · have : x ≠ n := by rintro rfl; exact h v List.mem_cons_self
      simp [this]
    · rfl
theorem bindC_out {kindOf : Str → Option NameKind} {x : Str} : ∀ {binds : List (Str × Value)} {m : Str → Option Value}, (∀ v, (x, v) ∉ binds) → bindC kindOf binds m x = m x
  | [], _, _ => rfl
  | (n, v) :: r, m, h => by
    unfold bindC
    rw [bindC_out fun w hw => h w (List.mem_cons_of_mem _ hw)]
    split
    · rfl
    · have : x ≠ n := by rintro rfl; exact h v List.mem_cons_self
      simp [this]
theorem bindL_get {kindOf : Str → Option NameKind} {x : Str} {v : Value} : ∀ {P : List Str} {vs : List Value} {i : Nat} {m : Str → Option Value}, P.Nodup → P[i]? = some x → vs[i]? = some v → kindOf x = some .local →
    bindL kindOf (P.zip vs) m x = some v
  | [], _, _, _, _, h, _, _ => by simp at h
  | _ :: _, [], _, _, _, _, h, _ => by simp at h
  | p :: P, w :: vs, 0, m, nd, h1, h2, hk => by
    simp at h1 h2; subst h1; subst h2
    show bindL kindOf ((p, w) :: P.zip vs) m p = _
    unfold bindL
    rw [bindL_out fun v hv => (List.nodup_cons.mp nd).1 (List.of_mem_zip hv).1, if_pos hk]
    simp
  | p :: P, w :: vs, i + 1, m, nd, h1, h2, hk => by
    show bindL kindOf ((p, w) :: P.zip vs) m x = _
    unfold bindL
    exact bindL_get (i := i) (List.nodup_cons.mp nd).2 (by simpa using h1) (by simpa using h2) hk
theorem bindC_get {kindOf : Str → Option NameKind} {x : Str} {v : Value} : ∀ {P : List Str} {vs : List Value} {i : Nat} {m : Str → Option Value}, P.Nodup → P[i]? = some x → vs[i]? = some v → kindOf x ≠ some .local →
    bindC kindOf (P.zip vs) m x = some v
  | [], _, _, _, _, h, _, _ => by simp at h
  | _ :: _, [], _, _, _, _, h, _ => by simp at h
  | p :: P, w :: vs, 0, m, nd, h1, h2, hk => by
    simp at h1 h2; subst h1; subst h2
    show bindC kindOf ((p, w) :: P.zip vs) m p = _
    unfold bindC
    rw [bindC_out fun v hv => (List.nodup_cons.mp nd).1 (List.of_mem_zip hv).1, if_neg hk]
    simp
  | p :: P, w :: vs, i + 1, m, nd, h1, h2, hk => by
    show bindC kindOf ((p, w) :: P.zip vs) m x = _
    unfold bindC
    exact bindC_get (i := i) (List.nodup_cons.mp nd).2 (by simpa using h1) (by simpa using h2) hk

/-- the names' values at the entry -/
def start (N : List Str) (vs : List V) : St := vs.map some ++ List.replicate (N.length - vs.length) none

/-- the context of a def's body, at its entry; an exception leaves the frame, then lies as CX says -/
def cxOf (CX : CXT) (P : Program) (w : World) (K : PySem.W.Frag) (mg : Str → Option Value) (base : Heap) (N : List Str) (qual : Str) (scope : Scope) (f : Addr) (cd : Value) (A : Around) (outer : List Env) (s : Shared) (H : Hp) (E : XK) : Cx where
  prog := P
  w := w
  K := K
  mg := mg
  base := base
  A := A.deeper (envOfC qual scope s.heap.objs.size f cd)
  N := N
  s₀ := s
  H₀ := H
  env := envOfC qual scope s.heap.objs.size f cd
  outer := outer
  stack := envOfC qual scope s.heap.objs.size f cd :: outer
  ex := []
  calm := true
  fn := fun _ => true
  pn := []
  xe := fun e s' => wpAny (model P w) (A.deeper (envOfC qual scope s.heap.objs.size f cd)) (leaving (envOfC qual scope s.heap.objs.size f cd) e) (fun _ s'' => CX outer H s E e s'') (fun e' s'' => CX outer H s E e' s'') s'

theorem cell_has {sc : Scope} {n : Nat} {x : Str} (h : sc.names.lookup x = some .cell) : ∃ c, (cellsFrom n sc.names []).lookup x = some c := by
  have q := PySem.W.cellsFrom_some sc.names n [] (.inl h)
  exact Option.isSome_iff_exists.mp q

theorem inv_start {CX : CXT} {P : Program} {w : World} {K : PySem.W.Frag} {mg : Str → Option Value} {base : Heap} {N ps : List Str} {qual : Str} {scope : Scope} {f : Addr} {cd : Value} {A : Around} {outer : List Env} {s s1 : Shared} {H : Hp} {E : XK} {us : List Value} {vs : List V}
    (S : FnScope N ps scope) (hd : A.handled = none) (e0 : Env0 P w K mg base A outer s H) (hl : vs.length = ps.length) (r : Vals vs us)
    (x : InCallC s s.heap.objs.size (bindL (envOfC qual scope s.heap.objs.size f cd).kindOf (ps.zip us) fun _ => none) (cellsFrom (s.heap.objs.size + 1) scope.names []) (bindC (envOfC qual scope s.heap.objs.size f cd).kindOf (ps.zip us) fun _ => none) s1) :
    Inv (cxOf CX P w K mg base N qual scope f cd A outer s H E) [] (start N vs) H s1 := by
  have hpl : ps.length ≤ N.length := by have := congrArg List.length S.pre; rw [List.length_take] at this; omega
  obtain ⟨h1, tk, rfl, hk⟩ := x.done
  have noA : ∀ b : Addr, b ∉ (cxOf CX P w K mg base N qual scope f cd A outer s H E).ex := fun b z => absurd (show b ∈ ([] : List Addr) from z) (by simp)
  refine ⟨⟨e0.mod, S.kind, rfl, rfl, Nat.le_refl _, fun y z c h1 h2 => ?_, fun y hy => ?_, fun y c _ h => ?_, fun _ => hd, Around.frames_deeper e0.frames, .inr ⟨rfl, rfl⟩, fun b z => absurd z (noA b), e0.bs, e0.bsz, fun b _ _ => noA b, fun b z => absurd z (noA b), e0.funs, e0.frf⟩,
    rfl, e0.bare, Un.kept hk, ⟨_, x.toInCall.ns, fun i y v h1 h2 h3 => ?_⟩, fun y c h => ⟨_, x.cell y c h⟩, e0.hok.fresh (Nat.le_refl _), fun y c h => ?_, fun p hp => absurd (show p ∈ ([] : List (Addr × Obj)) from hp) (by simp), e0.hok.kept hk, ?_⟩
  · exact name_of_addr x.apart (PySem.mem_of_lookup h1) (PySem.mem_of_lookup h2)
  · have hy : scope.names.lookup y = some .cell ∨ scope.names.lookup y = some .free := hy
    rcases hy with hy | hy
    · exact cell_has hy
    · exact absurd rfl (S.nofree _ (PySem.mem_of_lookup hy))
  · exact Nat.le_of_lt (x.above y c (PySem.mem_of_lookup h))
  · have hi : i < vs.length := by
      unfold start at h2
      by_cases hi : i < vs.length
      · exact hi
      · rw [List.getElem?_append_right (by simpa using hi)] at h2
        rw [List.getElem?_replicate] at h2
        split at h2 <;> cases h2
    have ha : vs[i]? = some v := by
      unfold start at h2
      rw [List.getElem?_append_left (by simpa using hi), List.getElem?_map] at h2
      cases e : vs[i]? with
      | none => rw [e] at h2; cases h2
      | some a => rw [e] at h2; cases h2; rfl
    obtain ⟨u, hu, rv⟩ := r.get ha
    have hp : ps[i]? = some y := by
      rw [← S.pre, List.getElem?_take_of_lt (by omega)]; exact h1
    have ndP : ps.Nodup := by rw [← S.pre]; exact S.nd.sublist (List.take_sublist _ _)
    refine ⟨u, rv, ?_⟩
    rcases S.par y (List.mem_of_getElem? hp) with k | k
    · exact .inl ⟨k, bindL_get ndP hp hu k⟩
    · obtain ⟨c, e⟩ := cell_has (n := s.heap.objs.size + 1) k
      refine .inr ⟨.inl k, c, e, ?_⟩
      have q := x.cell y c e
      rw [bindC_get ndP hp hu (by show scope.names.lookup y ≠ _; rw [k]; decide)] at q
      exact q
  · exact e0.hok.fresh (Nat.le_of_lt (x.above y c (PySem.mem_of_lookup h)))
  · unfold start
    show _ = N.length
    rw [List.length_append, List.length_map, List.length_replicate]
    omega

/-- THE RULE: a def (or a method) of the text, by its body. The body's reading t is chosen for each entry; it is run at the parameters' values -/
theorem fn_of {CX : CXT} {P : Program} {w : World} {K : PySem.W.Frag} {mg : Str → Option Value} {base : Heap} {k : Nat} {f : Addr} {name qual : Str} {params : Arguments} {body : List Stmt} {scope : Scope} {dV kV doc pm cdv ct oc : Value} {an od : Option Addr}
    {osl : Array (Option Value)} {N ps : List Str} {sp : Sp} (lk : K.lookup f = some ⟨oc, od, .func (PySem.W.fnOf name qual params body scope dV kV doc pm an cdv ct), osl⟩) (hcd : PySem.W.codeIn K cdv qual = true) (S : FnScope N ps scope)
    (len : ∀ vs H Q E, sp vs H Q E → vs.length = ps.length)
    (hbody : ∀ (A : Around) (outer : List Env) (s : Shared) (H : Hp) (vs : List V) (Q : VK) (E : XK), Room k (A.deeper (envOfC qual scope s.heap.objs.size f cdv)) → sp vs H Q E →
      ∃ t, PSs (cxOf CX P w K mg base N qual scope f cdv A outer s H E) body t ∧ t { nx := fun _ H' => Q .non H', rt := Q } (start N vs) H) :
    FnOk P w K mg base CX (k + 1) f (PySem.W.fnOf name qual params body scope dV kV doc pm an cdv ct) ps sp := by
  refine ⟨len, fun A outer s H args us vs Q E hr e0 hb r hsp => ?_⟩
  have hl := len _ _ _ _ hsp
  have KX : K.In s.heap := e0.mod.kin.keeps fun b o e => (e0.bs b o e).1
  have lim : s.heap.NoLimit := e0.mod.nolimit.keeps fun b o e => (e0.bs b o e).1
  have hkind : ∀ y ∈ ps.zip us, scope.names.lookup y.1 = some .local ∨ (scope.names.lookup y.1 = some .cell ∧ ((cellsFrom (s.heap.objs.size + 1) scope.names []).lookup y.1).isSome = true) := fun ⟨n, v⟩ hy => by
    rcases S.par n (List.of_mem_zip hy).1 with q | q
    · exact .inl q
    · exact .inr ⟨q, PySem.W.cellsFrom_some _ _ _ (.inl q)⟩
  refine codeAny_call_function hr.depth (KX _ _ lk) rfl S.co S.gen rfl (PySem.W.codeRec_of KX hcd) (hb _ _ _ _ ?_)
  refine wpAny_newFunctionEnv_cells S.kind hkind fun env he s1 x => ?_
  subst he
  refine ⟨lim.keeps x.toInCall.keep, codeAny_func ?_⟩
  obtain ⟨t, ht, hq⟩ := hbody A outer s H vs Q E (hr.deeper _) hsp
  have I : Inv (cxOf CX P w K mg base N qual scope f cdv A outer s H E) [] (start N vs) H s1 := inv_start S hr.hd e0 hl r x
  refine wpAny_mono (ht [] s1 (start N vs) H _ I hq) (fun fl s' hs => ?_) fun e s' hs => hs
  have fin : ∀ {σ' : St} {H' : Hp} {v : V} {u : Value}, Inv (cxOf CX P w K mg base N qual scope f cdv A outer s H E) [] σ' H' s' → RelV v u → Q v H' → CE outer P w H s Q u s' :=
    fun {σ' H' v u} J rv q => ⟨v, H', J.os, J.bare, J.base, J.hok, rv, q⟩
  cases fl with
  | ret u =>
    obtain ⟨v, σ', H', J, rv, q⟩ := hs
    exact fin J rv q
  | next =>
    obtain ⟨σ', H', J, q⟩ := hs
    exact fin (v := V.non) (u := Value.none) J rfl q
  | brk =>
    obtain ⟨_, _, _, q⟩ := hs
    exact False.elim q
  | cont =>
    obtain ⟨_, _, _, q⟩ := hs
    exact False.elim q
end L2

namespace L2
open PySem PySem.Spec PyProof.Rows
section
variable {X : Cx} {x : Str} {p pos : Pos} {e : Expr} {es : List Expr} {t : TA} {id T : String} {r : List V → Hp → VK → Prop}

def tCB (r : List V → Hp → VK → Prop) (t : TA) : TE := fun σ H Q => t σ H fun vs H1 => r vs H1 Q
/-- f(e, ..), f a built-in function -/
theorem pe_callB (hc : CallR X (.builtin id) r) (hg : Gl X x) (hm : X.mg x = none) (hv : bootBuiltins x = some (.builtin id)) (ha : PA X (e :: es) t) (hn : x ≠ "__name__" := by decide) (hdb : (x == ("__debug__" : Str)) = false := by decide)
    (he : starEach (e :: es) X.env = (false, eval e X.env) :: starEach es X.env := by rfl) (hpl : (backTo pos (starEach es X.env)).any (·.1) = false := by rfl) : PE X (.Call (.Name x p) (e :: es) [] pos) (tCB r t) := by
  intro pins s σ H Q I h
  refine wpAny_Call_Name_kw (ld_blt I hg hm hv ?_ hn hdb)
  exact PyProof.Rows.callWith_builtin1 (thn (ha pos pins s σ H _ I h) fun us s1 ⟨vs, H1, I1, r1, q1⟩ => hc pins s1 σ H1 vs us Q I1 r1 q1) he hpl
/-- T(e, ..), T a built-in type -/
theorem pe_callTy (hc : CallR X (.type T) r) (hg : Gl X x) (hm : X.mg x = none) (hv : bootBuiltins x = some (.type T)) (ha : PA X (e :: es) t) (hn : x ≠ "__name__" := by decide) (hdb : (x == ("__debug__" : Str)) = false := by decide)
    (he : starEach (e :: es) X.env = (false, eval e X.env) :: starEach es X.env := by rfl) (hpl : (backTo pos (starEach es X.env)).any (·.1) = false := by rfl) : PE X (.Call (.Name x p) (e :: es) [] pos) (tCB r t) := by
  intro pins s σ H Q I h
  refine wpAny_Call_Name_kw (ld_blt I hg hm hv ?_ hn hdb)
  exact PyProof.Rows.callWith_type1 (thn (ha pos pins s σ H _ I h) fun us s1 ⟨vs, H1, I1, r1, q1⟩ => hc pins s1 σ H1 vs us Q I1 r1 q1) he hpl
end
end L2

namespace HT
open PySem PyProof.Rows

section
open PySem.SeqAt
open PySem.AutoSeq1 (wpAny_loadPart')
open PySem.MeetsSeq PySem.MeetsSeq2 PySem.MeetsSeq3

end

section
variable {prog : Program} {w : World} {A : Around} {E : Value → Shared → Prop} {s : Shared}

/-! ### t[a:b], not the whole -/
/-- a slice's bound as a place among n (d where it is left out) -/
def sIx (n d : Nat) : Option Int → Nat
  | none => d
  | some v => if v < 0 then (v + (n : Int)).toNat else min v.toNat n
theorem sIx_nat (n d k : Nat) : sIx n d (some (k : Int)) = min k n := by
  show (if (k : Int) < 0 then ((k : Int) + (n : Int)).toNat else min (k : Int).toNat n) = min k n
  rw [if_neg (by omega), Int.toNat_natCast]
end
end HT

namespace L2
open PySem PySem.Spec PyProof.Rows

/-! ### the parts of a slice -/
abbrev TO := St → Hp → (Option Int → Hp → Prop) → Prop
/-- a slice's part (left out, or an int) -/
def PO (X : Cx) (e : Option Expr) (t : TO) : Prop :=
  ∀ (pins : List (Addr × Obj)) (s : Shared) (σ : St) (H : Hp) (Q : Option Int → Hp → Prop), Inv X pins σ H s → t σ H Q →
    wpAny (model X.prog X.w) X.A (evalPart e X.env) (fun u s' => ∃ o H', Inv X pins σ H' s' ∧ IsPart u o ∧ Q o H') X.xe s
def tNoPart : TO := fun _ H Q => Q none H
def tPart (t : TE) : TO := fun σ H Q => t σ H fun x H1 => ∃ i, x = .int i ∧ Q (some i) H1

section
variable {X : Cx} {e : Expr} {te : TE} {lo hi : Option Expr} {tl th : TO} {pos p2 : Pos}

theorem po_none : PO X none tNoPart := by
  intro pins s σ H Q I h
  rw [evalPart_none]
  exact wpAny_pure ⟨none, H, I, .none, h⟩
theorem po_some (h : PE X e te) : PO X (some e) (tPart te) := by
  intro pins s σ H Q I hw
  rw [evalPart_some]
  refine thn (h pins s σ H _ I hw) fun u s1 ⟨x, H1, I1, r1, q1⟩ => ?_
  obtain ⟨i, rfl, q⟩ := q1
  obtain ⟨t, rfl⟩ := r1
  exact ⟨some i, H1, I1, .int i t, q⟩

/-- what a slice of a value is, by values: the slice object stands at sl -/
def SlR (X : Cx) (r : V → Option Int → Option Int → Hp → VK → Prop) : Prop :=
  ∀ (pins : List (Addr × Obj)) (s : Shared) (σ : St) (H : Hp) (x : V) (v vl vu : Value) (lo hi : Option Int) (sl : Addr) (Q : VK), Inv X pins σ H s → RelV x v → s.heap.IsSliceOf sl vl vu .none → IsPart vl lo → IsPart vu hi → r x lo hi H Q →
    ∃ T id, typeLookup (.type T) "__getitem__" = pure (some (.builtin id)) ∧ s.TypeIs v T ∧ wpAny (model X.prog X.w) X.A (getItem v (.ref sl)) (EP X pins σ Q) X.xe s
def tSl (r : V → Option Int → Option Int → Hp → VK → Prop) (te : TE) (tl th : TO) : TE := fun σ H Q => te σ H fun x H1 => tl σ H1 fun l H2 => th σ H2 fun u H3 => r x l u H3 Q
/-- a[lo:hi], any a -/
theorem pe_slice {r : V → Option Int → Option Int → Hp → VK → Prop} (hr : SlR X r) (he : PE X e te) (hl : PO X lo tl) (hu : PO X hi th) : PE X (.Subscript e (.Slice lo hi none p2) pos) (tSl r te tl th) := by
  intro pins s σ H Q I h
  refine Subscript_ (thn (he pins s σ H _ I h) fun v s1 ⟨x, H1, I1, r1, q1⟩ => ?_)
  refine wpAny_Slice (thn (hl pins s1 σ H1 _ I1 q1) fun vl s2 ⟨l, H2, I2, pl, q2⟩ => thn (hu pins s2 σ H2 _ I2 q2) fun vu s3 ⟨u, H3, I3, pu, q3⟩ => ?_)
  rw [evalPart_none]
  refine wpAny_pure ?_
  have I4 : Inv X pins σ H3 { s3 with heap := s3.heap.push { cls := .type "slice", data := .fields #[vl, vu, .none] } } := I3.kept (t' := s3.toks) fun b ob q => Heap.get?_push_of_some _ q
  obtain ⟨T, id, hT, ht, hg⟩ := hr pins { s3 with heap := s3.heap.push { cls := .type "slice", data := .fields #[vl, vu, .none] } } σ H3 x v vl vu l u s3.heap.objs.size Q I4 r1 (Heap.IsSliceOf.new ..) pl pu q3
  show wpAny (model X.prog X.w) X.A (subscriptTail e (.Slice lo hi none p2) v (.ref s3.heap.objs.size)) (EP X pins σ Q) X.xe { s3 with heap := s3.heap.push { cls := .type "slice", data := .fields #[vl, vu, .none] } }
  exact tail_any (ops := [.ref s3.heap.objs.size, v]) ht hT hg (by with_unfolding_all rfl)

/-- the items of xs[lo:hi] -/
def cutV (xs : List V) (lo hi : Option Int) : List V := (xs.drop (HT.sIx xs.length 0 lo)).take (HT.sIx xs.length xs.length hi - HT.sIx xs.length 0 lo)
theorem cutV_length (xs : List V) (lo hi : Option Int) : (cutV xs lo hi).length ≤ xs.length := by
  unfold cutV
  rw [List.length_take, List.length_drop]
  omega
/-! ### t < u, t + u -/
end
end L2

namespace L2
open PySem PySem.Spec PyProof.Rows

/-! ### places -/
/-- the place that an index of any sign means -/
def ixN (n : Nat) (i : Int) : Option Nat := if 0 ≤ i then (if i < n then some i.toNat else none) else if -(n : Int) ≤ i then some (i + n).toNat else none
def atI {α : Type} (xs : List α) (i : Int) : Option α := (ixN xs.length i).bind fun j => xs[j]?
theorem ixN_seq {n : Nat} {i : Int} {j : Nat} (h : ixN n i = some j) : seqIndex? i n = some j ∧ j < n ∧ -(n : Int) ≤ i ∧ i < n := by
  unfold ixN at h
  by_cases h0 : 0 ≤ i
  · rw [if_pos h0] at h
    by_cases h1 : i < n
    · rw [if_pos h1] at h
      have e : i.toNat = j := Option.some.inj h
      exact ⟨by rw [seqIndex_of h0 h1, e], by omega, by omega, h1⟩
    · rw [if_neg h1] at h; cases h
  · rw [if_neg h0] at h
    by_cases h1 : -(n : Int) ≤ i
    · rw [if_pos h1] at h
      have e : (i + n).toNat = j := Option.some.inj h
      exact ⟨by rw [seqIndex_neg (by omega) h1, e], by omega, h1, by omega⟩
    · rw [if_neg h1] at h; cases h
theorem atI_get {α : Type} {xs : List α} {i : Int} {v : α} (h : atI xs i = some v) : ∃ j, seqIndex? i xs.length = some j ∧ xs[j]? = some v ∧ j < xs.length ∧ -(xs.length : Int) ≤ i ∧ i < xs.length := by
  unfold atI at h
  cases e : ixN xs.length i with
  | none => rw [e] at h; cases h
  | some j =>
    rw [e] at h
    obtain ⟨h1, h2, h3, h4⟩ := ixN_seq e
    exact ⟨j, h1, h, h2, h3, h4⟩
theorem atI_nat {α : Type} {xs : List α} {j : Nat} {v : α} (h : xs[j]? = some v) : atI xs (j : Int) = some v := by
  have hj : j < xs.length := (List.getElem?_eq_some_iff.mp h).1
  have e : ixN xs.length (j : Int) = some j := by
    unfold ixN
    rw [if_pos (by omega), if_pos (by omega)]; simp
  unfold atI; rw [e]; exact h
theorem atI_last {α : Type} (xs : List α) (v : α) : atI (xs ++ [v]) (-1) = some v := by
  have hl : (xs ++ [v]).length = xs.length + 1 := by simp
  have e : ixN (xs ++ [v]).length (-1) = some xs.length := by
    unfold ixN
    rw [hl, if_neg (by decide), if_pos (by omega)]
    congr 1
    omega
  unfold atI
  rw [e]
  show (xs ++ [v])[xs.length]? = some v
  simp

/-! ### what may be subscripted -/
/-- what stands as an index of a plain subscript -/
def PlainIx (b : Expr) : Prop := ∀ o i, subscripted b false o i = operate [o, i] (getItem o i)
/-- a subscript by values -/
def IxR (X : Cx) (r : R2) : Prop :=
  ∀ (value slice : Expr) (pins : List (Addr × Obj)) (s : Shared) (σ : St) (H : Hp) (x y : V) (v u : Value) (Q : VK), Inv X pins σ H s → RelV x v → RelV y u → r x y H Q →
    subscripted slice false v u = operate [v, u] (getItem v u) → wpAny (model X.prog X.w) X.A (subscriptTail value slice v u) (EP X pins σ Q) X.xe s
/-- a call of a builtin's method by values: the receiver, the arguments -/
def MtR (X : Cx) (id : String) (r : V → List V → Hp → VK → Prop) : Prop :=
  ∀ (pins : List (Addr × Obj)) (s : Shared) (σ : St) (H : Hp) (x : V) (xs : List V) (v : Value) (us : List Value) (Q : VK), Inv X pins σ H s → RelV x v → Vals xs us → r x xs H Q →
    wpAny (model X.prog X.w) X.A (call (.builtin id) (v :: us)) (EP X pins σ Q) X.xe s
section
variable {X : Cx} {a b : Expr} {ta tb : TE} {pos : Pos}
/-- a[b] -/
theorem pe_ix {r : R2} (hr : IxR X r) (ha : PE X a ta) (hb : PE X b tb) (hs : PlainIx b) : PE X (.Subscript a b pos) (tOp r ta tb) := by
  intro pins s σ H Q I h
  exact Subscript_ (binT ha hb I h fun v u s2 x y H2 I2 rx ry q => hr a b pins s2 σ H2 x y v u Q I2 rx ry q (hs _ _))

def rIxL (K : PySem.W.Frag) : R2 := fun x y H Q => ∃ p xs i v, x = .ref p ∧ y = .int i ∧ SqL K H p xs ∧ atI xs i = some v ∧ Q v H
def rIxT (K : PySem.W.Frag) : R2 := fun x y H Q => ∃ p xs i v, x = .ref p ∧ y = .int i ∧ SqT K H p xs ∧ atI xs i = some v ∧ Q v H
def rIxS : R2 := fun x y H Q => ∃ z i c, x = .str z ∧ y = .int i ∧ z.length ≤ sizeLine ∧ atI z.cps.toList i = some c ∧ Q (.str ⟨#[c]⟩) H
theorem ix_list : IxR X (rIxL X.K) := by
  intro value slice pins s σ H x y v u Q I rx ry h hs
  obtain ⟨p, xs, i, z, rfl, rfl, hq, he, q⟩ := h
  cases rx
  obtain ⟨t, rfl⟩ := ry
  obtain ⟨its, r, pl, hz⟩ := I.list hq
  obtain ⟨j, h1, h2, h3, h4, h5⟩ := atI_get he
  obtain ⟨w, ew, rw'⟩ := r.get h2
  have hl := r.length
  have hn := line63
  have fin : EP X pins σ Q w s := ⟨z, H, I, rw', q⟩
  by_cases h0 : 0 ≤ i
  · have hj : i.toNat = j := by
      rw [seqIndex_of h0 h5] at h1
      exact Option.some.inj h1
    exact item_listR pl.isList h0 (by omega) (by rw [hj]; simpa using ew) fin hs
  · have hj : (i + (its.toArray.size : Int)).toNat = j := by
      rw [seqIndex_neg (by omega) h4] at h1
      rw [List.size_toArray, ← hl]
      exact Option.some.inj h1
    exact subscriptTail_builtinR (x := w) pl.isList.typeIs slot_list_getitem.lookup
      (wpAny_getItem_list_neg (Q := fun r s' => r = w ∧ EP X pins σ Q r s') pl.isList (by omega) (by rw [List.size_toArray] <;> omega) (by omega) (by rw [hj]; simpa using ew) ⟨rfl, fin⟩) hs
theorem ix_tup : IxR X (rIxT X.K) := by
  intro value slice pins s σ H x y v u Q I rx ry h hs
  obtain ⟨p, xs, i, z, rfl, rfl, hq, he, q⟩ := h
  cases rx
  obtain ⟨t, rfl⟩ := ry
  obtain ⟨its, r, pl, hz⟩ := I.tuple hq
  obtain ⟨j, h1, h2, h3, h4, h5⟩ := atI_get he
  obtain ⟨w, ew, rw'⟩ := r.get h2
  have hl := r.length
  have hn := line63
  have fin : EP X pins σ Q w s := ⟨z, H, I, rw', q⟩
  exact subscriptTail_builtinR (x := w) pl.typeIs slot_tuple_getitem.lookup
    (getItem_tuple (j := j) (Q := fun r s' => r = w ∧ EP X pins σ Q r s') pl (by omega) (by omega) (by rw [List.size_toArray, ← hl]; exact h1) (by simpa using ew) ⟨rfl, fin⟩) hs
theorem ix_str : IxR X rIxS := by
  intro value slice pins s σ H x y v u Q I rx ry h hs
  obtain ⟨z, i, c, rfl, rfl, hz, he, q⟩ := h
  obtain ⟨t, rfl⟩ := rx
  obtain ⟨t', rfl⟩ := ry
  obtain ⟨j, h1, h2, h3, h4, h5⟩ := atI_get he
  have hl : z.cps.toList.length = z.length := by simp [Str.length]
  rw [hl] at h1 h4 h5
  have hn := line63
  exact tail_any (typeIs_str s z t) slot_str_getitem.lookup (getItem_str (c := c) (by
    have e1 : decide (i < -(2 ^ 63 : Int)) = false := decide_eq_false (by omega)
    have e2 : decide (i ≥ 2 ^ 63) = false := decide_eq_false (by omega)
    rw [e1, e2, Bool.or_false]) (by rw [h1]; simpa using h2) ⟨.str ⟨#[c]⟩, H, I.tok _, ⟨_, rfl⟩, q⟩) hs
/-! ### xs[i] = v, any sign -/
/-- the list's object behind a store -/
theorem mapSeq_set (its : List Value) (n j : Nat) (u : Value) : Obj.mapSeq (·.setIfInBounds j u) { cls := .type "list", data := .seq its.toArray n } = { cls := .type "list", data := .seq (its.set j u).toArray n } := by
  simp [Obj.mapSeq]
theorem Inv.lst {pins : List (Addr × Obj)} {σ : St} {H : Hp} {s : Shared} {p : Addr} {xs : List V} (I : Inv X pins σ H s) (h : H p = some (.lst xs)) :
    ∃ (its : List Value) (n : Nat), Vals xs its ∧ s.heap.get? p = some { cls := .type "list", data := .seq its.toArray n } ∧ xs.length ≤ sizeLine := by
  obtain ⟨z, its, n, r, e⟩ := I.hok p _ h
  exact ⟨its, n, r, e, z⟩
/-- the list at p is written by an update of its object -/
theorem Inv.lstUpd {pins : List (Addr × Obj)} {σ : St} {H : Hp} {s : Shared} {p : Addr} {xs ys : List V} {its its' : List Value} {n n' : Nat} {f : Obj → Obj} (I : Inv X pins σ H s) (h : H p = some (.lst xs))
    (ho : s.heap.get? p = some { cls := .type "list", data := .seq its.toArray n }) (hf : f { cls := .type "list", data := .seq its.toArray n } = { cls := .type "list", data := .seq its'.toArray n' }) (r : Vals ys its') (hz : ys.length ≤ sizeLine) (t : Nat) :
    Inv X pins σ (upd H p (.lst ys)) { s with heap := s.heap.update p f, toks := t } := by
  have e : (s.heap.update p f).get? p = some { cls := .type "list", data := .seq its'.toArray n' } := by
    rw [Heap.get?_update_self f ho (by rw [hf] <;> rfl), hf]
  refine I.write (x := p) (e := p) (by rw [h]; trivial) (.inl rfl) (fun b u hb q => (Heap.get?_update_other _ _ (Ne.symm hb)).trans q) ⟨_, e⟩ ?_
  exact ⟨hz, its', n', r, e⟩
def rSetL : V → V → V → Hp → (Hp → Prop) → Prop := fun o i v H Q => ∃ p xs k j, o = .ref p ∧ i = .int k ∧ H p = some (.lst xs) ∧ ixN xs.length k = some j ∧ Q (upd H p (.lst (xs.set j v)))
theorem set_list : PSet X rSetL := by
  intro pins s σ H o i v ov iv u Q I ro ri rv h
  obtain ⟨p, xs, k, j, rfl, rfl, hp, hj, q⟩ := h
  cases ro
  obtain ⟨t, rfl⟩ := ri
  obtain ⟨its, n, r, ho, hz⟩ := I.lst hp
  obtain ⟨h1, h2, h3, h4⟩ := ixN_seq hj
  have hl := r.length
  have hn := line63
  have I' : Inv X pins σ (upd H p (.lst (xs.set j v))) { s with heap := s.heap.update p (Obj.mapSeq (·.setIfInBounds j u)) } :=
    I.lstUpd hp ho (mapSeq_set its n j u) (r.set rv j) (by rw [List.length_set]; exact hz) s.toks
  by_cases h0 : 0 ≤ k
  · have hk : k.toNat = j := by
      rw [seqIndex_of h0 h4] at h1
      exact Option.some.inj h1
    exact PySem.W.ki_setAt ho h0 (by omega) (by rw [List.size_toArray, ← hl]; exact h4) (by rw [hk]; exact ⟨_, I', q⟩)
  · have hk : (k + (its.toArray.size : Int)).toNat = j := by
      rw [seqIndex_neg (by omega) h3] at h1
      rw [List.size_toArray, ← hl]
      exact Option.some.inj h1
    exact PySem.W.ki_setBack ho (by omega) (by rw [List.size_toArray, ← hl]; exact h3) (by omega) (by rw [hk]; exact ⟨_, I', q⟩)

/-! ### slices -/
theorem slice_bounds (lo hi : Option Int) (n : Nat) : (sliceBounds lo hi none n).1 = ((HT.sIx n 0 lo : Nat) : Int) ∧ (sliceBounds lo hi none n).2.1 = ((HT.sIx n n hi : Nat) : Int) ∧ (sliceBounds lo hi none n).2.2 = 1 := by
  refine ⟨?_, ?_, rfl⟩
  · cases lo with
    | none => simp [sliceBounds, HT.sIx]
    | some i =>
      simp only [sliceBounds, HT.sIx, Option.getD_none, show (1 : Int) > 0 by decide, if_true]
      by_cases h : i < 0
      · simp only [h, if_true] <;> omega
      · simp only [h, if_false] <;> omega
  · cases hi with
    | none => simp [sliceBounds, HT.sIx]
    | some i =>
      simp only [sliceBounds, HT.sIx, Option.getD_none, show (1 : Int) > 0 by decide, if_true]
      by_cases h : i < 0
      · simp only [h, if_true] <;> omega
      · simp only [h, if_false] <;> omega
theorem slicePick_cut (its : List Value) (lo hi : Option Int) : slicePick its.toArray lo hi none = ((its.drop (HT.sIx its.length 0 lo)).take (HT.sIx its.length its.length hi - HT.sIx its.length 0 lo)).toArray := by
  obtain ⟨h1, h2, h3⟩ := slice_bounds lo hi its.toArray.size
  unfold slicePick
  rw [h1, h2, h3]
  simp only [sliceRange_one, pick_run, List.size_toArray] <;> rfl
/-- xs[lo:hi] of a list: a new list -/
def rSlL (K : PySem.W.Frag) : V → Option Int → Option Int → Hp → VK → Prop := fun x lo hi H Q => ∃ a xs, x = .ref a ∧ SqL K H a xs ∧ ∀ p, H p = none → Q (.ref p) (upd H p (.lst (cutV xs lo hi)))
theorem sl_list : SlR X (rSlL X.K) := by
  intro pins s σ H x v vl vu lo hi sl Q I rx hs pl pu h
  obtain ⟨a, xs, rfl, hx, q⟩ := h
  cases rx
  obtain ⟨its, r, ht, hz⟩ := I.list hx
  have hlen := r.length
  refine ⟨"list", _, slot_list_getitem.lookup, ht.isList.typeIs, ?_⟩
  refine wpAny_getItem_list_slice ht.isList hs pl pu .none (by simp) ?_ (by rw [List.size_toArray] <;> omega)
  rw [slicePick_cut, ← hlen]
  refine ⟨.ref s.heap.objs.size, _, I.laid (t' := s.toks) (o := .lst (cutV xs lo hi)) (fun b ob q => Heap.get?_push_of_some _ q) (Nat.le_refl _) ?_, rfl, q _ (I.hok.fresh (Nat.le_refl _))⟩
  exact ⟨Nat.le_trans (cutV_length xs lo hi) hz, _, 0, (r.drop (HT.sIx xs.length 0 lo)).take (HT.sIx xs.length xs.length hi - HT.sIx xs.length 0 lo), Heap.get?_push_size _ rfl⟩

/-! ### in, not in: flat items -/
def flatV : V → Bool
  | .non => true
  | .bl _ => true
  | .int _ => true
  | .str _ => true
  | _ => false
/-- == of flat values -/
def eqV : V → V → Bool
  | .non, .non => true
  | .bl a, .bl b => a == b
  | .bl a, .int b => (if a then 1 else 0) == b
  | .int a, .bl b => a == (if b then 1 else 0)
  | .int a, .int b => a == b
  | .str a, .str b => a == b
  | _, _ => false
theorem eqAt_V {A : Around} {s : Shared} {y x : V} {u v : Value} (ry : RelV y u) (rx : RelV x v) (fy : flatV y = true) (fx : flatV x = true) : SeqAt.EqAt A s u v (eqV y x) := by
  cases y with
  | non =>
    cases ry
    cases x with
    | non => cases rx; exact SeqAt.EqAt.same _
    | bl b => cases rx; exact SeqAt.EqAt.none_bool b
    | int b => obtain ⟨t, rfl⟩ := rx; exact SeqAt.EqAt.none_int b t
    | str b => obtain ⟨t, rfl⟩ := rx; exact SeqAt.EqAt.none_str b t
    | _ => exact absurd (show false = true from fx) Bool.false_ne_true
  | bl a =>
    cases ry
    cases x with
    | non => cases rx; exact SeqAt.EqAt.bool_none a
    | bl b => cases rx; exact SeqAt.EqAt.bool_bool a b
    | int b => obtain ⟨t, rfl⟩ := rx; exact SeqAt.EqAt.bool_int a b t
    | str b => obtain ⟨t, rfl⟩ := rx; exact SeqAt.EqAt.bool_str a b t
    | _ => exact absurd (show false = true from fx) Bool.false_ne_true
  | int a =>
    obtain ⟨t', rfl⟩ := ry
    cases x with
    | non => cases rx; exact SeqAt.EqAt.int_none a t'
    | bl b => cases rx; exact SeqAt.EqAt.int_bool a t' b
    | int b => obtain ⟨t, rfl⟩ := rx; exact SeqAt.EqAt.int_int a t' b t
    | str b => obtain ⟨t, rfl⟩ := rx; exact SeqAt.EqAt.int_str a t' b t
    | _ => exact absurd (show false = true from fx) Bool.false_ne_true
  | str a =>
    obtain ⟨t', rfl⟩ := ry
    cases x with
    | non => cases rx; exact SeqAt.EqAt.str_none a t'
    | bl b => cases rx; exact SeqAt.EqAt.str_bool a t' b
    | int b => obtain ⟨t, rfl⟩ := rx; exact SeqAt.EqAt.str_int a t' b t
    | str b => obtain ⟨t, rfl⟩ := rx; exact SeqAt.EqAt.str_str a t' b t
    | _ => exact absurd (show false = true from fx) Bool.false_ne_true
  | _ => exact absurd (show false = true from fy) Bool.false_ne_true
/-- the items' answers, read off the values (a value's own answer does not lean on its token) -/
def eqU (x : V) (u : Value) : Bool := match u with
  | .none => eqV .non x
  | .bool b => eqV (.bl b) x
  | .int i _ => eqV (.int i) x
  | .str z _ => eqV (.str z) x
  | _ => false
theorem eqU_of {x y : V} {u : Value} (r : RelV y u) (f : flatV y = true) : eqU x u = eqV y x := by
  cases y with
  | non => cases r; rfl
  | bl b => cases r; rfl
  | int i => obtain ⟨t, rfl⟩ := r; rfl
  | str z => obtain ⟨t, rfl⟩ := r; rfl
  | _ => exact absurd (show false = true from f) Bool.false_ne_true
theorem any_eqU {x : V} : ∀ {xs : List V} {us : List Value}, Vals xs us → xs.all flatV = true → us.any (eqU x) = xs.any fun y => eqV y x
  | _, _, .nil, _ => rfl
  | y :: xs, u :: us, .cons r t, f => by
    rw [List.all_cons, Bool.and_eq_true] at f
    rw [List.any_cons, List.any_cons, eqU_of r f.1, any_eqU t f.2]
theorem mem_eqAt {A : Around} {s : Shared} {x : V} {v : Value} (rx : RelV x v) (fx : flatV x = true) : ∀ {xs : List V} {us : List Value}, Vals xs us → xs.all flatV = true → ∀ u ∈ us, SeqAt.EqAt A s u v (eqU x u)
  | _, _, .nil, _ => fun u hu => by cases hu
  | y :: xs, u :: us, .cons r t, f => fun u' hu => by
    rw [List.all_cons, Bool.and_eq_true] at f
    rcases List.mem_cons.mp hu with rfl | hu
    · rw [eqU_of r f.1]; exact eqAt_V r rx f.1 fx
    · exact mem_eqAt rx fx t f.2 u' hu
def inV (x : V) (xs : List V) : Bool := xs.any fun y => eqV y x
/-- x in a list or tuple of flat items -/
def rIn (K : PySem.W.Frag) (neg : Bool) : R2 := fun x y H Q => ∃ p xs, y = .ref p ∧ (SqL K H p xs ∨ SqT K H p xs) ∧ flatV x = true ∧ xs.all flatV = true ∧ Q (.bl (if neg then !inV x xs else inV x xs)) H
theorem op_in_seq : OpR X (compareOp .In) (rIn X.K false) := by
  intro pins s σ H x y v u Q I rx ry h
  obtain ⟨p, xs, rfl, hq, fx, fs, q⟩ := h
  cases ry
  rcases hq with hq | hq
  · obtain ⟨its, r, pl, hz⟩ := I.list hq
    refine SeqAt.in_listAt (eqU x) pl.isList (fun w hw => mem_eqAt rx fx r fs w (by simpa using hw)) ⟨.bl _, H, I, rfl, ?_⟩
    rw [show its.toArray.any (eqU x) = its.any (eqU x) by simp, any_eqU r fs]
    exact q
  · obtain ⟨its, r, pl, hz⟩ := I.tuple hq
    refine SeqAt.in_tupleAt (eqU x) pl (fun w hw => mem_eqAt rx fx r fs w (by simpa using hw)) ⟨.bl _, H, I, rfl, ?_⟩
    rw [show its.toArray.any (eqU x) = its.any (eqU x) by simp, any_eqU r fs]
    exact q
theorem op_notIn_seq : OpR X (compareOp .NotIn) (rIn X.K true) := by
  intro pins s σ H x y v u Q I rx ry h
  obtain ⟨p, xs, rfl, hq, fx, fs, q⟩ := h
  cases ry
  rcases hq with hq | hq
  · obtain ⟨its, r, pl, hz⟩ := I.list hq
    refine SeqAt.notIn_listAt (eqU x) pl.isList (fun w hw => mem_eqAt rx fx r fs w (by simpa using hw)) ⟨.bl _, H, I, rfl, ?_⟩
    rw [show its.toArray.any (eqU x) = its.any (eqU x) by simp, any_eqU r fs]
    exact q
  · obtain ⟨its, r, pl, hz⟩ := I.tuple hq
    refine SeqAt.notIn_tupleAt (eqU x) pl (fun w hw => mem_eqAt rx fx r fs w (by simpa using hw)) ⟨.bl _, H, I, rfl, ?_⟩
    rw [show its.toArray.any (eqU x) = its.any (eqU x) by simp, any_eqU r fs]
    exact q
theorem op_notIn_str : OpR X (compareOp .NotIn) (fun x y H Q => ∃ i j, x = .str i ∧ y = .str j ∧ Q (.bl (!(!(Builtin.Str.occurrences j i 0 j.length 1).isEmpty))) H) := by
  intro pins s σ H x y v u Q I rx ry h
  obtain ⟨i, j, rfl, rfl, q⟩ := h
  obtain ⟨t, rfl⟩ := rx
  obtain ⟨t', rfl⟩ := ry
  exact notIn_str ⟨.bl _, H, I, rfl, q⟩

/-! ### len, list(x), tuple(x) of any list or tuple that is read -/
theorem call_len_seq : CallR X (.builtin "len") (fun xs H Q => ∃ p ys, xs = [.ref p] ∧ (SqL X.K H p ys ∨ SqT X.K H p ys) ∧ Q (.int ys.length) H) := by
  intro pins s σ H xs us Q I r h
  obtain ⟨p, ys, rfl, hq, q⟩ := h
  obtain ⟨u, rfl, rx⟩ := vals1 r
  cases rx
  have hn := line63
  rcases hq with hq | hq
  · obtain ⟨its, r', pl, hz⟩ := I.list hq
    have hlen := r'.length
    exact Calls.call_len_list pl.isList (by simp only [List.size_toArray] <;> omega) ⟨.int ys.length, H, I.tok _, ⟨s.toks + 1, by rw [List.size_toArray, hlen]⟩, q⟩
  · obtain ⟨its, r', pl, hz⟩ := I.tuple hq
    have hlen := r'.length
    exact len_tuple pl (by simp only [List.size_toArray] <;> omega) ⟨.int ys.length, H, I.tok _, ⟨s.toks + 1, by rw [List.size_toArray, hlen]⟩, q⟩
theorem call_len_str : CallR X (.builtin "len") (fun xs H Q => ∃ z, xs = [.str z] ∧ z.length ≤ sizeLine ∧ Q (.int z.length) H) := by
  intro pins s σ H xs us Q I r h
  obtain ⟨z, rfl, hz, q⟩ := h
  obtain ⟨u, rfl, t, rfl⟩ := vals1 r
  have hn := line63
  exact len_str (by omega) ⟨.int z.length, H, I.tok _, ⟨_, rfl⟩, q⟩
theorem call_list_of : CallR X (.type "list") (fun xs H Q => ∃ p ys, xs = [.ref p] ∧ (SqL X.K H p ys ∨ SqT X.K H p ys) ∧ ∀ l, H l = none → Q (.ref l) (upd H l (.lst ys))) := by
  intro pins s σ H xs us Q I r h
  obtain ⟨p, ys, rfl, hq, q⟩ := h
  obtain ⟨u, rfl, rx⟩ := vals1 r
  cases rx
  have fin : ∀ (its : List Value), Vals ys its → ys.length ≤ sizeLine → ∀ (h' : Heap) (c' : Nat), (∀ b o', s.heap.get? b = some o' → h'.get? b = some o') →
      h'.get? s.heap.objs.size = some { cls := .type "list", dict := none, data := .seq its.toArray c', slots := #[] } → EP X pins σ Q (.ref s.heap.objs.size) { s with heap := h' } := fun its r' hz h' c' kp e =>
    ⟨.ref s.heap.objs.size, _, I.laid (t' := s.toks) kp (Nat.le_refl _) (show ObjOk X.prog X.w _ h' _ (.lst ys) from ⟨hz, its, c', r', e⟩), rfl, q _ (I.hok.fresh (Nat.le_refl _))⟩
  rcases hq with hq | hq
  · obtain ⟨its, r', pl, hz⟩ := I.list hq
    have hlen := r'.length
    obtain ⟨o, ho, hc, n, hd⟩ := pl.isList
    exact call_list_seq p (.inl rfl) ho hc hd (fun h' c' kp e => fin its r' hz h' c' kp e) (by simp only [List.size_toArray] <;> omega)
  · obtain ⟨its, r', pl, hz⟩ := I.tuple hq
    have hlen := r'.length
    obtain ⟨o, ho, hc, n, hd⟩ := pl
    exact call_list_seq p (.inr rfl) ho hc hd (fun h' c' kp e => fin its r' hz h' c' kp e) (by simp only [List.size_toArray] <;> omega)
theorem call_tuple_of : CallR X (.type "tuple") (fun xs H Q => ∃ p ys, xs = [.ref p] ∧ ((SqL X.K H p ys ∧ ∀ l, H l = none → Q (.ref l) (upd H l (.tup ys))) ∨ (SqT X.K H p ys ∧ Q (.ref p) H))) := by
  intro pins s σ H xs us Q I r h
  obtain ⟨p, ys, rfl, h⟩ := h
  obtain ⟨u, rfl, rx⟩ := vals1 r
  cases rx
  rcases h with ⟨hq, q⟩ | ⟨hq, q⟩
  · obtain ⟨its, r', pl, hz⟩ := I.list hq
    have hlen := r'.length
    refine call_tuple_list pl.isList (fun h' kp => ?_) (by simp only [List.size_toArray] <;> omega)
    have I1 : Inv X pins σ H { s with heap := h' } := I.kept (t' := s.toks) kp
    have I2 : Inv X pins σ (upd H h'.objs.size (.tup ys)) { s with heap := h'.push { cls := .type "tuple", data := .seq its.toArray } } :=
      I1.laid (t' := s.toks) (fun b o e => Heap.get?_push_of_some _ e) (Nat.le_refl _) (show ObjOk X.prog X.w _ _ _ (.tup ys) from ⟨hz, its, r', IsTup.new _ _⟩)
    exact ⟨.ref h'.objs.size, _, I2, rfl, q _ (I1.hok.fresh (Nat.le_refl _))⟩
  · obtain ⟨its, r', pl, hz⟩ := I.tuple hq
    exact call_tuple_same pl ⟨.ref p, H, I, rfl, q⟩

/-! ### the call of a builtin's method: o.m(..) -/
/-- the value is of that builtin type -/
def tyV (K : PySem.W.Frag) (T : String) (x : V) (H : Hp) : Prop := match x with
  | .str _ => T = "str"
  | .int _ => T = "int"
  | .ref p => (T = "list" ∧ ∃ xs, SqL K H p xs) ∨ (T = "tuple" ∧ ∃ o, K.lookup p = some o ∧ o.cls = .type "tuple" ∧ o.dict = none) ∨
      (T = "dict" ∧ ((∃ kvs, H p = some (.dK kvs)) ∨ ∃ kvs, H p = some (.dT kvs))) ∨ (T = "set" ∧ ∃ S n, H p = some (.set S n))
  | _ => False
theorem tyV_is {pins : List (Addr × Obj)} {σ : St} {H : Hp} {s : Shared} {T : String} {x : V} {v : Value} (I : Inv X pins σ H s) (r : RelV x v) (ty : tyV X.K T x H) :
    s.TypeIs v T ∧ ∀ a, v = .ref a → ∃ ob, s.heap.get? a = some ob ∧ ob.dict = none := by
  cases x with
  | str z =>
    obtain ⟨t, rfl⟩ := r
    cases (show T = "str" from ty)
    exact ⟨typeIs_str s z t, fun _ e => nomatch e⟩
  | int i =>
    obtain ⟨t, rfl⟩ := r
    cases (show T = "int" from ty)
    exact ⟨typeIs_int s i t, fun _ e => nomatch e⟩
  | ref p =>
    cases r
    rcases ty with ⟨rfl, xs, hq⟩ | ⟨rfl, o, hk, hc, hd⟩ | ⟨rfl, hk⟩ | ⟨rfl, S, n, hk⟩
    · obtain ⟨its, _, pl, _⟩ := I.list hq
      refine ⟨pl.isList.typeIs, fun a e => ?_⟩
      cases e
      obtain ⟨o, n, e, c, hd, _⟩ := pl
      exact ⟨o, e, hd⟩
    · refine ⟨⟨o, I.kIn p o hk, hc⟩, fun a e => ?_⟩
      cases e
      exact ⟨o, I.kIn _ o hk, hd⟩
    · have z : ∃ o, s.heap.get? p = some o ∧ o.ExactDict := by
        rcases hk with ⟨kvs, hk⟩ | ⟨kvs, hk⟩
        · obtain ⟨_, _, _, _, o, _, _, e, ex, _⟩ := I.hok p _ hk
          exact ⟨o, e, ex⟩
        · obtain ⟨_, _, _, _, o, _, _, e, ex, _⟩ := I.hok p _ hk
          exact ⟨o, e, ex⟩
      obtain ⟨o, e, ex⟩ := z
      refine ⟨⟨o, e, ex.1⟩, fun a e2 => ?_⟩
      cases e2
      exact ⟨o, e, ex.2.1⟩
    · obtain ⟨o, _, _, _, e, ex, _⟩ := I.hok p _ hk
      refine ⟨⟨o, e, ex.1⟩, fun a e2 => ?_⟩
      cases e2
      exact ⟨o, e, ex.2.1⟩
  | _ => exact False.elim ty
def tBM0 (K : PySem.W.Frag) (T : String) (r : V → List V → Hp → VK → Prop) (to : TE) : TE := fun σ H Q => to σ H fun x H1 => tyV K T x H1 ∧ r x [] H1 Q
def tBM (K : PySem.W.Frag) (T : String) (r : V → List V → Hp → VK → Prop) (to : TE) (t : TA) : TE := fun σ H Q => to σ H fun x H1 => tyV K T x H1 ∧ t σ H1 fun xs H2 => r x xs H2 Q
variable {o e : Expr} {es : List Expr} {to : TE} {t : TA} {name : Str} {apos cpos : Pos} {T id : String} {r : V → List V → Hp → VK → Prop}
theorem pe_bm0 (pa : PlainAttrs T) (slot : Slot T name id) (hty : typeOf (.builtin id) = pure (.type "method_descriptor")) (hm : MtR X id r) (ho : PE X o to)
    (hbase : attributeBase o name X.env (eval o X.env) = eval o X.env := by rfl) (hline : (apos.endLine == cpos.line) = true := by rfl) : PE X (.Call (.Attribute o name apos) [] [] cpos) (tBM0 X.K T r to) := by
  intro pins s σ H Q I h
  refine wpAny_Call_method0_late hbase hline (thn (ho pins s σ H _ I h) fun v s1 ⟨x, H1, I1, r1, ty, q1⟩ => ?_)
  obtain ⟨h1, h2⟩ := tyV_is I1 r1 ty
  exact ⟨T, id, pa, slot, hty, h1, h2, Calls.callWith_builtin rfl (PySem.evalArgs_none (hm pins s1 σ H1 x [] v [] Q I1 r1 .nil q1))⟩
theorem pe_bm (pa : PlainAttrs T) (slot : Slot T name id) (hty : typeOf (.builtin id) = pure (.type "method_descriptor")) (hm : MtR X id r) (ho : PE X o to) (ha : PA X (e :: es) t)
    (hbase : attributeBase o name X.env (eval o X.env) = eval o X.env := by rfl)
    (hfew : ((backTo cpos (starEach (e :: es) X.env)).all (fun x => !x.1) && (backToKw cpos (keywordEach [] X.env)).all (fun x => x.1.isSome)
      && decide ((e :: es).length + ([] : List Keyword).length + (if ([] : List Keyword).isEmpty then 0 else 1) < 30)) = true := by rfl)
    (hline : (apos.endLine == cpos.line) = true := by rfl) (hs : starEach (e :: es) X.env = (false, eval e X.env) :: starEach es X.env := by rfl) (hplain : (backTo cpos (starEach es X.env)).any (·.1) = false := by rfl) :
    PE X (.Call (.Attribute o name apos) (e :: es) [] cpos) (tBM X.K T r to t) := by
  intro pins s σ H Q I h
  refine wpAny_Call_method_late hbase hfew hline rfl (thn (ho pins s σ H _ I h) fun v s1 ⟨x, H1, I1, r1, ty, q1⟩ => ?_)
  obtain ⟨h1, h2⟩ := tyV_is I1 r1 ty
  refine ⟨T, id, pa, slot, hty, h1, h2, ?_⟩
  have hA := ha cpos pins s1 σ H1 _ I1 q1
  rw [hs] at hA ⊢
  refine Calls.callWith_builtin (by show (false || (backTo cpos (starEach es X.env)).any (·.1)) = false; rw [hplain] <;> rfl) (Calls.evalArgs_plain ?_)
  exact thn hA fun us s2 ⟨vs, H2, I2, r2, q2⟩ => hm pins s2 σ H2 x vs v us Q I2 r1 r2 q2
/- xs.append(e), list.index on a module's tuple .. are MtR facts of 06m -/
end
end L2

namespace L2
open PySem PySem.Spec PyProof.Rows

def MtM (X : Cx) (id : String) (r : V → List V → Hp → VK → Prop) : Prop :=
  ∀ (pins : List (Addr × Obj)) (s : Shared) (σ : St) (H : Hp) (x : V) (xs : List V) (v : Value) (us : List Value) (Q : VK), Inv X pins σ H s → RelV x v → Vals xs us → r x xs H Q →
    wpAny (model X.prog X.w) X.A (call (.builtin id) (v :: us)) (EP X pins σ Q) X.xe s

/-! ### lists of values -/
theorem Vals.one : ∀ {x : V} {us : List Value}, Vals [x] us → ∃ u, us = [u] ∧ RelV x u
  | _, _, .cons r .nil => ⟨_, rfl, r⟩
theorem Vals.two : ∀ {x y : V} {us : List Value}, Vals [x, y] us → ∃ u v, us = [u, v] ∧ RelV x u ∧ RelV y v
  | _, _, _, .cons r (.cons q .nil) => ⟨_, _, rfl, r, q⟩
theorem Vals.zero : ∀ {us : List Value}, Vals [] us → us = []
  | _, .nil => rfl
theorem Vals.dropLast {xs : List V} {us : List Value} (h : Vals xs us) : Vals xs.dropLast us.dropLast := by
  induction h with
  | nil => exact .nil
  | cons r t ih =>
    cases t with
    | nil => exact .nil
    | cons q t' => exact .cons r ih
theorem erase_last {α : Type} (l : List α) : l.eraseIdx (l.length - 1) = l.dropLast := by
  induction l with
  | nil => rfl
  | cons a r ih =>
    cases r with
    | nil => rfl
    | cons b r =>
      have e : (a :: b :: r).length - 1 = ((b :: r).length - 1) + 1 := by
        have h1 : (a :: b :: r).length = r.length + 2 := rfl
        have h2 : (b :: r).length = r.length + 1 := rfl
        omega
      rw [e, List.eraseIdx_cons_succ, ih]
      all_goals rfl
section
variable {X : Cx} {pins : List (Addr × Obj)} {σ : St} {H : Hp} {s : Shared} {l b : Addr} {xs ys zs : List V}

/-! ### the two steps: a tracked list is rewritten, a new list is laid -/
theorem Inv.lset {its its' : List Value} {n : Nat} {f : Array Value → Array Value} {t' : Nat} (I : Inv X pins σ H s) (hH : H l = some (.lst xs))
    (e : s.heap.get? l = some { cls := .type "list", data := .seq its.toArray n }) (hf : f its.toArray = its'.toArray) (hv : Vals ys its') (hz : ys.length ≤ sizeLine) :
    Inv X pins σ (upd H l (.lst ys)) { s with heap := s.heap.update l (Obj.mapSeq f), toks := t' } := by
  have q := PySem.IsL.update e f
  rw [hf] at q
  refine I.write (x := l) (e := l) (by rw [hH]; exact trivial) (.inl rfl) (fun b' u hb hu => (Heap.get?_update_other s.heap (Obj.mapSeq f) (Ne.symm hb)).trans hu) ⟨_, q⟩ ?_
  exact ⟨hz, its', _, hv, q⟩
theorem Inv.lnew {its : List Value} {t' : Nat} (I : Inv X pins σ H s) (hv : Vals ys its) (hz : ys.length ≤ sizeLine) :
    Inv X pins σ (upd H s.heap.objs.size (.lst ys)) { s with heap := s.heap.push { cls := .type "list", data := .seq its.toArray }, toks := t' } :=
  I.laid (fun _ _ q => Heap.get?_push_of_some _ q) (Nat.le_refl _) ⟨hz, its, 0, hv, Heap.get?_push_size _ rfl⟩
theorem Inv.fresh (I : Inv X pins σ H s) : H s.heap.objs.size = none := I.hok.fresh (Nat.le_refl _)
theorem Inv.lstM (I : Inv X pins σ H s) (hH : H l = some (.lst xs)) : xs.length ≤ sizeLine ∧ ∃ (its : List Value) (n : Nat), Vals xs its ∧ xs.length = its.length ∧ s.heap.get? l = some { cls := .type "list", data := .seq its.toArray n } := by
  obtain ⟨z, its, n, r, e⟩ := I.hok l _ hH
  exact ⟨z, its, n, r, r.length, e⟩

end

section
variable {X : Cx}

/-! ### methods -/
def rAppend : V → List V → Hp → VK → Prop := fun x vs H Q => ∃ l xs y, x = .ref l ∧ vs = [y] ∧ H l = some (.lst xs) ∧ xs.length < sizeLine ∧ Q .non (upd H l (.lst (xs ++ [y])))
theorem mt_append : MtM X "list.append" rAppend := by
  intro pins s σ H x vs v us Q I rx rv h
  obtain ⟨l, xs, y, rfl, rfl, hH, hz, q⟩ := h
  cases rx
  obtain ⟨u, rfl, ru⟩ := rv.one
  obtain ⟨z, its, n, r, hl, e⟩ := I.lstM hH
  refine call_meets F.slot_list_append ⟨_, e, rfl⟩ F.entry_list_append (F.args_list_append_2 _ _) (PySem.list_append l its.toArray n u (by rw [List.size_toArray]; omega)) ⟨e, ?_⟩
  refine ⟨.non, _, I.lset (its' := its ++ [u]) hH e (by simp) (r.append (.cons ru .nil)) ?_, rfl, q⟩
  rw [List.length_append, List.length_singleton]
  omega

def rPop : V → List V → Hp → VK → Prop := fun x vs H Q => ∃ l xs y, x = .ref l ∧ vs = [] ∧ H l = some (.lst xs) ∧ xs[xs.length - 1]? = some y ∧ Q y (upd H l (.lst xs.dropLast))
theorem mt_pop : MtM X "list.pop" rPop := by
  intro pins s σ H x vs v us Q I rx rv h
  obtain ⟨l, xs, y, rfl, rfl, hH, hy, q⟩ := h
  cases rx
  have hus := rv.zero
  subst hus
  obtain ⟨z, its, n, r, hl, e⟩ := I.lstM hH
  obtain ⟨u, hu, ru⟩ := r.get hy
  have hy' : its.toArray[its.toArray.size - 1]? = some u := by
    show its.toArray[its.length - 1]? = some u
    rw [← Array.getElem?_toList, ← hl]
    exact hu
  refine call_meets F.slot_list_pop ⟨_, e, rfl⟩ F.entry_list_pop (F.args_list_pop_1 _) (MeetsSeq.list_pop_last l its.toArray n u hy' (by rw [List.size_toArray]; omega)) ⟨e, ?_⟩
  refine ⟨y, _, I.lset (its' := its.dropLast) hH e ?_ r.dropLast ?_, ru, q⟩
  · show its.toArray.eraseIdxIfInBounds (its.toArray.size - 1) = its.dropLast.toArray
    rw [List.size_toArray, List.eraseIdxIfInBounds_toArray, erase_last]
  · rw [List.length_dropLast]
    omega

/-! ### list + list, list += list, list * int -/
def rCat : R2 := fun x y H Q => ∃ l b xs zs, x = .ref l ∧ y = .ref b ∧ H l = some (.lst xs) ∧ H b = some (.lst zs) ∧ xs.length + zs.length ≤ sizeLine ∧ ∀ p, H p = none → Q (.ref p) (upd H p (.lst (xs ++ zs)))
theorem op_cat : OpR X (binaryOp .Add) rCat := by
  intro pins s σ H x y v u Q I rx ry h
  obtain ⟨l, b, xs, zs, rfl, rfl, hH, hB, hz, q⟩ := h
  cases rx
  cases ry
  obtain ⟨z, its, n, r, hl, e⟩ := I.lstM hH
  obtain ⟨z2, its2, n2, r2, hl2, e2⟩ := I.lstM hB
  refine PySem.P.add_list e e2 ?_ (by rw [List.size_toArray, List.size_toArray]; omega)
  have ea : its.toArray ++ its2.toArray = (its ++ its2).toArray := by simp
  rw [ea]
  exact ⟨.ref _, _, I.lnew (t' := s.toks) (r.append r2) (by rw [List.length_append]; omega), rfl, q _ I.fresh⟩
/-! ### del xs[i] -/
end

/-! ### xs[a:b] = ys -/
section
variable {prog : Program} {w : World} {A : Around} {E : Value → Shared → Prop} {s : Shared}
set_option maxRecDepth 100000 in
end

section
variable {X : Cx}
end
end L2
namespace L2
open PySem PySem.Spec PyProof.Rows

/-! ### lists of pairs as tables -/
section
variable {κ : Type} [DecidableEq κ]
def valV (kvs : List (κ × V)) (k : κ) : Option V := (kvs.find? fun kv => decide (kv.1 = k)).map (·.2)
/-- in its place, or at the end -/
def putK (kvs : List (κ × V)) (k : κ) (v : V) : List (κ × V) :=
  if (kvs.any fun kv => decide (kv.1 = k)) = true then kvs.map (fun kv => if kv.1 = k then (kv.1, v) else kv) else kvs ++ [(k, v)]
theorem valV_pos {p : κ × V} {r : List (κ × V)} {k : κ} (e : p.1 = k) : valV (p :: r) k = some p.2 := by simp [valV, List.find?_cons, e]
theorem valV_neg {p : κ × V} {r : List (κ × V)} {k : κ} (e : ¬ p.1 = k) : valV (p :: r) k = valV r k := by simp [valV, List.find?_cons, e]
theorem valV_any (k : κ) : ∀ kvs : List (κ × V), (kvs.any fun kv => decide (kv.1 = k)) = (valV kvs k).isSome
  | [] => rfl
  | p :: r => by
    rw [List.any_cons]
    by_cases e : p.1 = k
    · simp only [valV_pos e, decide_eq_true e, Bool.true_or, Option.isSome_some]
    · rw [valV_neg e, decide_eq_false e, Bool.false_or]; exact valV_any k r
theorem length_putK (kvs : List (κ × V)) (k : κ) (v : V) : (putK kvs k v).length ≤ kvs.length + 1 := by
  unfold putK
  split
  · rw [List.length_map]; omega
  · rw [List.length_append, List.length_cons, List.length_nil]; omega
theorem RelO.isSome_eq {o : Option V} {u : Option Value} (r : RelO o u) : o.isSome = u.isSome := by
  cases o with
  | none => cases u with
    | none => rfl
    | some _ => exact (show False from r).elim
  | some _ => cases u with
    | none => exact (show False from r).elim
    | some _ => rfl
/-- raw tables of the same keys -/
theorem KV.val {kvs : List (κ × V)} {vs : List (κ × Value)} (r : KV kvs vs) (k : κ) : RelO (valV kvs k) (valueAt vs k) := by
  unfold KV at r
  induction r with
  | nil => exact True.intro
  | @cons p q ps qs h t ih =>
    obtain ⟨h1, h2⟩ := h
    by_cases e : p.1 = k
    · have e' : q.1 = k := h1.symm.trans e
      have b : valueAt (q :: qs) k = some q.2 := by simp [valueAt, List.find?_cons, e']
      rw [valV_pos e, b]; exact h2
    · have e' : ¬ q.1 = k := fun z => e (h1.trans z)
      have b : valueAt (q :: qs) k = valueAt qs k := by simp [valueAt, List.find?_cons, e']
      rw [valV_neg e, b]; exact ih
theorem KV.any {kvs : List (κ × V)} {vs : List (κ × Value)} (r : KV kvs vs) (k : κ) : (kvs.any fun kv => decide (kv.1 = k)) = vs.any fun kv => decide (kv.1 = k) := by
  unfold KV at r
  induction r with
  | nil => rfl
  | cons h t ih => rw [List.any_cons, List.any_cons, ih, h.1]
theorem KV.repl {kvs : List (κ × V)} {vs : List (κ × Value)} (r : KV kvs vs) (k : κ) {y : V} {u : Value} (ry : RelV y u) :
    KV (kvs.map fun kv => if kv.1 = k then (kv.1, y) else kv) (vs.map fun kv => if kv.1 = k then (kv.1, u) else kv) := by
  unfold KV at r ⊢
  induction r with
  | nil => exact .nil
  | @cons p q ps qs h t ih =>
    rw [List.map_cons, List.map_cons]
    refine .cons ?_ ih
    obtain ⟨h1, h2⟩ := h
    by_cases e : p.1 = k
    · rw [if_pos e, if_pos (h1.symm.trans e)]; exact ⟨h1, ry⟩
    · rw [if_neg e, if_neg (fun z => e (h1.trans z))]; exact ⟨h1, h2⟩
theorem KV.put {kvs : List (κ × V)} {vs : List (κ × Value)} (r : KV kvs vs) (k : κ) {y : V} {u : Value} (ry : RelV y u) : KV (putK kvs k y) (stored vs k u) := by
  unfold putK stored
  rw [r.any k]
  by_cases e : (vs.any fun kv => decide (kv.1 = k)) = true
  · rw [if_pos e, if_pos e]; exact r.repl k ry
  · rw [if_neg e, if_neg e]; exact Paired.snoc r ⟨rfl, ry⟩
theorem KV.length {kvs : List (κ × V)} {vs : List (κ × Value)} (r : KV kvs vs) : kvs.length = vs.length := Paired.length r
end


/-! ### a tracked dict, its keys ints and texts or tuples of these -/
theorem kV_is {P : Program} {w : World} {k : Key} {u : Value} (r : RelV (kV k) u) : (mixKind P w).is k u = true := by
  cases k with
  | inl i => obtain ⟨t, e⟩ := (show ∃ t, u = Value.int i t from r); subst e; exact mixKind_int P w i t
  | inr x => obtain ⟨t, e⟩ := (show ∃ t, u = Value.str x t from r); subst e; exact mixKind_str P w x t
theorem items_are {P : Program} {w : World} : ∀ {ks : List Key} {us : List Value}, Vals (ks.map kV) us → ItemsAre (mixKind P w) ks us
  | [], _, r => by rw [List.map_nil] at r; cases r; exact .nil
  | k :: ks, _, r => by
    rw [List.map_cons] at r
    cases r with
    | cons h t => exact .cons (kV_is h) (items_are t)

/-- raw entries of a dict with tuple keys -/
abbrev KT (H : Hp) : List (List Key × V) → List (List Key × Addr × Value) → Prop := Paired fun p q => p.1 = q.1 ∧ H q.2.1 = some (.tup (p.1.map kV)) ∧ RelV p.2 q.2.2
theorem KT.val {H : Hp} {kvs : List (List Key × V)} {xs : List (List Key × Addr × Value)} (r : KT H kvs xs) (k : List Key) : RelO (valV kvs k) ((atKey xs k).map (·.2)) := by
  induction r with
  | nil => exact True.intro
  | @cons p q ps qs h t ih =>
    obtain ⟨h1, _, h2⟩ := h
    by_cases e : p.1 = k
    · have e' : q.1 = k := h1.symm.trans e
      have b : atKey (q :: qs) k = some q.2 := by simp [atKey, List.find?_cons, e']
      rw [valV_pos e, b]; exact h2
    · have e' : ¬ q.1 = k := fun z => e (h1.trans z)
      have b : atKey (q :: qs) k = atKey qs k := by simp [atKey, List.find?_cons, e']
      rw [valV_neg e, b]; exact ih
theorem KT.repl {H : Hp} {kvs : List (List Key × V)} {xs : List (List Key × Addr × Value)} (r : KT H kvs xs) (k : List Key) {y : V} {u : Value} (ry : RelV y u) :
    KT H (kvs.map fun kv => if kv.1 = k then (kv.1, y) else kv) (xs.map (putAt k u)) := by
  induction r with
  | nil => exact .nil
  | @cons p q ps qs h t ih =>
    rw [List.map_cons, List.map_cons]
    refine .cons ?_ ih
    obtain ⟨h1, h2, h3⟩ := h
    unfold putAt
    by_cases e : p.1 = k
    · rw [if_pos e, if_pos (h1.symm.trans e)]; exact ⟨h1, h2, ry⟩
    · rw [if_neg e, if_neg (fun z => e (h1.trans z))]; exact ⟨h1, h2, h3⟩
theorem KT.put {H : Hp} {kvs : List (List Key × V)} {xs : List (List Key × Addr × Value)} (r : KT H kvs xs) (k : List Key) {b : Addr} {y : V} {u : Value} (hb : H b = some (.tup (k.map kV))) (ry : RelV y u) :
    KT H (putK kvs k y) (storedH xs k b u) := by
  have e : (kvs.any fun kv => decide (kv.1 = k)) = (atKey xs k).isSome := by
    rw [valV_any, (r.val k).isSome_eq, Option.isSome_map]
  unfold putK storedH
  rw [e]
  by_cases q : (atKey xs k).isSome = true
  · rw [if_pos q, if_pos q]; exact r.repl k ry
  · rw [if_neg q, if_neg q]; exact Paired.snoc r ⟨rfl, hb, ry⟩
theorem KT.keeps {H H' : Hp} {kvs : List (List Key × V)} {xs : List (List Key × Addr × Value)} (r : KT H kvs xs) (ht : ∀ b ys, H b = some (.tup ys) → H' b = some (.tup ys)) : KT H' kvs xs :=
  Paired.mapP r fun _ _ z => ⟨z.1, ht _ _ z.2.1, z.2.2⟩

section
variable {P : Program} {w : World} {H : Hp} {h : Heap} {a : Addr}
theorem rd_of {u : HO} (ok : HOk P w H h) (e : Rd H a u) : ObjOk P w H h a u := e.ok ok
theorem dk_rd {kvs : List (Key × V)} (ok : HOk P w H h) (e : Rd H a (.dK kvs)) : kvs.length ≤ sizeLine ∧ (a == sysModules) = false ∧ ∃ vs, KV kvs vs ∧ h.DictOf (mixKind P w) a vs :=
  show ObjOk P w H h a (.dK kvs) from rd_of ok e
theorem dk_of {kvs : List (Key × V)} (ok : HOk P w H h) (e : H a = some (.dK kvs)) : kvs.length ≤ sizeLine ∧ (a == sysModules) = false ∧ ∃ vs, KV kvs vs ∧ h.DictOf (mixKind P w) a vs := dk_rd ok (.inl e)
/-- a tracked tuple of ints and texts is a key -/
theorem key_of {ks : List Key} (ok : HOk P w H h) (e : H a = some (.tup (ks.map kV))) : (tupleKind (mixKind P w)).is h ks a := by
  obtain ⟨_, its, r, o, h1, h2, n, h3⟩ := (show ObjOk P w H h a (.tup (ks.map kV)) from ok a _ e)
  exact ⟨o, its.toArray, n, h1, h2, h3, by simpa using items_are r⟩
theorem dt_rd {kvs : List (List Key × V)} (ok : HOk P w H h) (e : Rd H a (.dT kvs)) : kvs.length ≤ sizeLine ∧ (a == sysModules) = false ∧
    ∃ xs, KT H kvs xs ∧ h.DictOfH (tupleKind (mixKind P w)) a xs := by
  obtain ⟨z, y, xs, r, o, es, ep, h1, h2, h3, h4, h5⟩ := (show ObjOk P w H h a (.dT kvs) from rd_of ok e)
  refine ⟨z, y, xs, r, o, es, ep, h1, h2, h3, h4, fun x hx => ?_, h5⟩
  have all : ∀ {l : List (List Key × V)} {m : List (List Key × Addr × Value)}, KT H l m → ∀ x ∈ m, (tupleKind (mixKind P w)).is h x.1 x.2.1 := by
    intro l m q
    induction q with
    | nil => intro x hx; exact nomatch hx
    | @cons p q ps qs hq t ih =>
      intro x hx
      rcases List.mem_cons.mp hx with e | hx
      · subst e
        exact key_of ok (by rw [← hq.1]; exact hq.2.1)
      · exact ih x hx
  exact all r x hx
theorem dt_of {kvs : List (List Key × V)} (ok : HOk P w H h) (e : H a = some (.dT kvs)) : kvs.length ≤ sizeLine ∧ (a == sysModules) = false ∧
    ∃ xs, KT H kvs xs ∧ h.DictOfH (tupleKind (mixKind P w)) a xs := dt_rd ok (.inl e)
end

/-- what the dict at a holds at the key y -/
def DGet (H : Hp) (a : Addr) (y : V) (r : Option V) : Prop :=
  (∃ kvs k, Rd H a (.dK kvs) ∧ y = kV k ∧ r = valV kvs k) ∨ ∃ kvs k b, Rd H a (.dT kvs) ∧ y = .ref b ∧ H b = some (.tup (k.map kV)) ∧ r = valV kvs k
/-- the heap behind a[y] = v -/
def DPut (H : Hp) (a : Addr) (y v : V) (H' : Hp) : Prop :=
  (∃ kvs k, H a = some (.dK kvs) ∧ y = kV k ∧ kvs.length < sizeLine ∧ H' = upd H a (.dK (putK kvs k v))) ∨
  ∃ kvs k b, H a = some (.dT kvs) ∧ y = .ref b ∧ H b = some (.tup (k.map kV)) ∧ kvs.length < sizeLine ∧ H' = upd H a (.dT (putK kvs k v))
theorem DGet.k {H : Hp} {a : Addr} {kvs : List (Key × V)} {k : Key} (e : H a = some (.dK kvs)) : DGet H a (kV k) (valV kvs k) := .inl ⟨kvs, k, .inl e, rfl, rfl⟩
theorem DPut.k {H : Hp} {a : Addr} {kvs : List (Key × V)} {k : Key} {v : V} (e : H a = some (.dK kvs)) (hl : kvs.length < sizeLine) : DPut H a (kV k) v (upd H a (.dK (putK kvs k v))) := .inl ⟨kvs, k, e, rfl, hl, rfl⟩
section
variable {X : Cx} {pins : List (Addr × Obj)} {σ : St} {H : Hp} {s : Shared} {a : Addr} {y v : V} {u r : Value} {o : Option V} {A : Around} {E : Value → Shared → Prop}

theorem Inv.big (I : Inv X pins σ H s) : sysModules < s.heap.objs.size := by
  have h : mainGlobals < s.heap.objs.size := (I.mod.glob.keeps I.bk).lt
  exact Nat.lt_trans (by decide) h

/-- d[y], there -/
theorem d_getItem {Q : Value → Shared → Prop} (hu : A.units + 1 < cLine) (I : Inv X pins σ H s) (g : DGet H a y (some v)) (ry : RelV y u) (h : ∀ w' s', Inv X pins σ H s' → RelV v w' → Q w' s') :
    wpAny (model X.prog X.w) A (getItem (.ref a) u) Q E s := by
  rcases g with ⟨kvs, k, e, ey, l⟩ | ⟨kvs, k, b, e, ey, eb, l⟩
  · subst ey
    obtain ⟨z, hd, vs, rel, dd⟩ := dk_rd I.hok e
    obtain ⟨w', hw, rw'⟩ := RelO.some_of (v := v) (o := valueAt vs k) (by rw [l]; exact rel.val k)
    exact wpAny_getItem_of (kV_is ry) dd.mapOf hw (h w' _ (I.tok _) rw')
  · subst ey
    cases (show u = Value.ref b from ry)
    obtain ⟨z, hd, xs, rel, dd⟩ := dt_rd I.hok e
    obtain ⟨w', hw, rw'⟩ := RelO.some_of (v := v) (o := (atKey xs k).map (·.2)) (by rw [l]; exact rel.val k)
    obtain ⟨p, hp, hp2⟩ := Option.map_eq_some_iff.mp hw
    refine wpAny_getItem_heap (tupleKind_room_in1 hu) (key_of I.hok eb) dd hp ?_
    rw [hp2]
    exact h w' _ (I.tok _) rw'
/-- y in d -/
theorem d_in {Q : Value → Shared → Prop} (hu : A.units + 1 < cLine) (I : Inv X pins σ H s) (g : DGet H a y o) (ry : RelV y u) (h : ∀ s', Inv X pins σ H s' → Q (.bool o.isSome) s') :
    wpAny (model X.prog X.w) A (compareOp .In u (.ref a)) Q E s := by
  rcases g with ⟨kvs, k, e, ey, l⟩ | ⟨kvs, k, b, e, ey, eb, l⟩
  · subst ey
    obtain ⟨z, hd, vs, rel, dd⟩ := dk_rd I.hok e
    refine wpAny_in_of (kV_is ry) hd dd.mapOf ?_
    rw [← (rel.val k).isSome_eq, ← l]
    exact h _ (I.tok _)
  · subst ey
    cases (show u = Value.ref b from ry)
    obtain ⟨z, hd, xs, rel, dd⟩ := dt_rd I.hok e
    refine wpAny_in_heap (tupleKind_room_in1 hu) (key_of I.hok eb) hd dd ?_
    have q := (rel.val k).isSome_eq
    rw [Option.isSome_map] at q
    rw [← q, ← l]
    exact h _ (I.tok _)
theorem d_notIn {Q : Value → Shared → Prop} (hu : A.units + 1 < cLine) (I : Inv X pins σ H s) (g : DGet H a y o) (ry : RelV y u) (h : ∀ s', Inv X pins σ H s' → Q (.bool (!o.isSome)) s') :
    wpAny (model X.prog X.w) A (compareOp .NotIn u (.ref a)) Q E s := by
  rcases g with ⟨kvs, k, e, ey, l⟩ | ⟨kvs, k, b, e, ey, eb, l⟩
  · subst ey
    obtain ⟨z, hd, vs, rel, dd⟩ := dk_rd I.hok e
    refine wpAny_notIn_of (kV_is ry) hd dd.mapOf ?_
    rw [← (rel.val k).isSome_eq, ← l]
    exact h _ (I.tok _)
  · subst ey
    cases (show u = Value.ref b from ry)
    obtain ⟨z, hd, xs, rel, dd⟩ := dt_rd I.hok e
    refine wpAny_notIn_heap (tupleKind_room_in1 hu) (key_of I.hok eb) hd dd ?_
    have q := (rel.val k).isSome_eq
    rw [Option.isSome_map] at q
    rw [← q, ← l]
    exact h _ (I.tok _)
/-- a dict's object is replaced -/
theorem d_write {h' : Heap} {t' : Nat} {ob : HO} (I : Inv X pins σ H s) (mu : Mut (H a)) (hs : Heap.SameBut a s.heap h') (he : ∃ q, h'.get? a = some q) (new : ObjOk X.prog X.w (upd H a ob) h' a ob) :
    Inv X pins σ (upd H a ob) { s with heap := h', toks := t' } :=
  I.write (x := a) (e := a) mu (.inl rfl) (fun b q hb z => (hs.2 b hb).trans z) he new
theorem dk_new {P : Program} {w : World} {H' : Hp} {h' : Heap} {kvs : List (Key × V)} {vs : List (Key × Value)} (z : kvs.length ≤ sizeLine) (hd : (a == sysModules) = false) (rel : KV kvs vs) (dd : h'.DictOf (mixKind P w) a vs) :
    ObjOk P w H' h' a (.dK kvs) := ⟨z, hd, vs, rel, dd⟩
/-- d[y] = v -/
theorem d_setItem {H' : Hp} {Q : Unit → Shared → Prop} (hu : A.units + 1 < cLine) (I : Inv X pins σ H s) (g : DPut H a y v H') (ry : RelV y u) (rv : RelV v r) (h : ∀ s', Inv X pins σ H' s' → Q () s') :
    wpAny (model X.prog X.w) A (setItem (.ref a) u r) Q E s := by
  rcases g with ⟨kvs, k, e, ey, l, eH⟩ | ⟨kvs, k, b, e, ey, eb, l, eH⟩
  · subst ey eH
    obtain ⟨z, hd, vs, rel, dd⟩ := dk_of I.hok e
    have hz : vs.length ≤ sizeLine := by rw [← rel.length]; exact z
    have hl : (putK kvs k v).length ≤ sizeLine := by have := length_putK kvs k v; omega
    refine wpAny_setItem_pairs (hsz := hz) (kV_is ry) dd fun h' dd' hs => h _ ?_
    have he : ∃ q, h'.get? a = some q := let ⟨q, _, _, hq, _⟩ := dd'; ⟨q, hq⟩
    exact d_write I (by rw [e]; exact True.intro) hs he (dk_new hl hd (rel.put k rv) dd')
  · subst ey eH
    cases (show u = Value.ref b from ry)
    obtain ⟨z, hd, xs, rel, dd⟩ := dt_of I.hok e
    have hz : xs.length ≤ sizeLine := by rw [← Paired.length rel]; exact z
    have hl : (putK kvs k v).length ≤ sizeLine := by have := length_putK kvs k v; omega
    refine wpAny_setItem_heap (hsz := hz) (tupleKind_room_in1 hu) (key_of I.hok eb) dd fun h' dd' hs => h _ ?_
    obtain ⟨q, es, ep, hq, h2, h3, h4, _, h5⟩ := dd'
    refine d_write I (by rw [e]; exact True.intro) hs ⟨q, hq⟩ ⟨hl, hd, _, (rel.put k eb rv).keeps fun c ys ec => ?_, q, es, ep, hq, h2, h3, h4, h5⟩
    rw [upd_ne (ne_of ec e (fun z => nomatch z))]
    exact ec
end

section
variable {X : Cx} {pins : List (Addr × Obj)} {σ : St} {H : Hp} {s : Shared} {a : Addr} {kvs : List (Key × V)} {k : Key} {u : Value} {A : Around} {E : Value → Shared → Prop}
end


/-! ### readings and rules -/
/-- the element of a subscription, not a slice -/
def NoSl (i : Expr) : Prop := ∀ ov iv, subscripted i false ov iv = operate [ov, iv] (getItem ov iv)
theorem subD_of {prog : Program} {w : World} {A : Around} {E : Value → Shared → Prop} {s : Shared} {env : Env} {value slice : Expr} {pos : Pos} {T id : String} {Q : Value → Shared → Prop}
    (hl : typeLookup (.type T) "__getitem__" = pure (some (.builtin id))) (hs : NoSl slice)
    (h : wpAny (model prog w) A (eval value env) (fun o s₁ => wpAny (model prog w) A (eval slice env) (fun i s₂ => s₂.TypeIs o T ∧ wpAny (model prog w) A (getItem o i) Q E s₂) E s₁) E s) :
    wpAny (model prog w) A (eval (.Subscript value slice pos) env) Q E s := by
  refine Subscript_ (wpAny_mono h (fun o s₁ h₁ => wpAny_mono h₁ (fun i s₂ h₂ => ?_) fun _ _ x => x) fun _ _ x => x)
  obtain ⟨hT, h₂⟩ := h₂
  unfold subscriptTail
  refine wpAny_bind ?_
  rw [getitemInPython_of_ne hT.not_modules]
  refine wpAny_bind (wpAny_specialOf hT hl ?_)
  have fin : wpAny (model prog w) A (subscripted slice false o i) (fun r s₃ => wpAny (model prog w) A (letTemporaryGo value o r >>= fun _ => pure r) Q E s₃) E s₂ := by
    rw [hs o i]
    exact wpAny_operating (wpAny_mono h₂ (fun r s₃ h₃ => wpAny_bind (wpAny_letTemporaryGo (wpAny_pure h₃))) fun _ _ x => x)
  first
    | exact wpAny_pure (wpAny_bind fin)
    | exact wpAny_bind (wpAny_pure (wpAny_bind fin))
    | exact wpAny_bind fin

theorem dict_typeIs {X : Cx} {pins : List (Addr × Obj)} {σ : St} {H : Hp} {s : Shared} {a : Addr} {y : V} {o : Option V} (I : Inv X pins σ H s) (g : DGet H a y o) : s.TypeIs (.ref a) "dict" := by
  rcases g with ⟨kvs, k, e, _, _⟩ | ⟨kvs, k, b, e, _, _, _⟩
  · obtain ⟨_, _, vs, _, dd⟩ := dk_rd I.hok e
    exact dd.typeIs
  · obtain ⟨_, _, xs, _, dd⟩ := dt_rd I.hok e
    exact dd.typeIs
/-- d[y] -/
def tDGet (td ty : TE) : TE := fun σ H Q => td σ H fun x H1 => ty σ H1 fun y H2 => ∃ a v, x = .ref a ∧ DGet H2 a y (some v) ∧ Q v H2
/-- y in d, y not in d -/
def tDIn (ty td : TE) : TE := fun σ H Q => ty σ H fun y H1 => td σ H1 fun x H2 => ∃ a o, x = .ref a ∧ DGet H2 a y o ∧ Q (.bl o.isSome) H2
def tDNotIn (ty td : TE) : TE := fun σ H Q => ty σ H fun y H1 => td σ H1 fun x H2 => ∃ a o, x = .ref a ∧ DGet H2 a y o ∧ Q (.bl (!o.isSome)) H2
/-- d[y] = v -/
def sDPut (td ty tv : TE) : TS := fun D σ H => tv σ H fun v H1 => td σ H1 fun x H2 => ty σ H2 fun y H3 => ∃ a H4, x = .ref a ∧ DPut H3 a y v H4 ∧ D.nx σ H4
section
variable {X : Cx} {o i e value : Expr} {pos pos' tpos : Pos} {td ty tv : TE}
theorem pe_dget (hu : X.A.units + 1 < cLine) (ho : PE X o td) (hi : PE X i ty) (hs : NoSl i) : PE X (.Subscript o i pos) (tDGet td ty) := by
  intro pins s σ H Q I h
  refine subD_of PySem.F.slot_dict_getitem.lookup hs (thn (ho pins s σ H _ I h) fun u s1 ⟨x, H1, I1, rx, q1⟩ => thn (hi pins s1 σ H1 _ I1 q1) fun iv s2 ⟨y, H2, I2, ry, a, v, ex, g, q2⟩ => ?_)
  subst ex
  obtain rfl : u = Value.ref a := rx
  exact ⟨dict_typeIs I2 g, d_getItem hu I2 g ry fun w' s3 I3 rw' => ⟨v, H2, I3, rw', q2⟩⟩
theorem pc_din (hu : X.A.units + 1 < cLine) (hi : PE X i ty) (ho : PE X o td) : PC X .In i o (tDIn ty td) := by
  intro pins s σ H Q I h
  refine thn (hi pins s σ H _ I h) fun iv s1 ⟨y, H1, I1, ry, q1⟩ => thn (ho pins s1 σ H1 _ I1 q1) fun u s2 ⟨x, H2, I2, rx, a, ov, ex, g, q2⟩ => ?_
  subst ex
  obtain rfl : u = Value.ref a := rx
  exact d_in hu I2 g ry fun s3 I3 => ⟨.bl ov.isSome, H2, I3, rfl, q2⟩
theorem pc_dnotin (hu : X.A.units + 1 < cLine) (hi : PE X i ty) (ho : PE X o td) : PC X .NotIn i o (tDNotIn ty td) := by
  intro pins s σ H Q I h
  refine thn (hi pins s σ H _ I h) fun iv s1 ⟨y, H1, I1, ry, q1⟩ => thn (ho pins s1 σ H1 _ I1 q1) fun u s2 ⟨x, H2, I2, rx, a, ov, ex, g, q2⟩ => ?_
  subst ex
  obtain rfl : u = Value.ref a := rx
  exact d_notIn hu I2 g ry fun s3 I3 => ⟨.bl (!ov.isSome), H2, I3, rfl, q2⟩
theorem ps_dput (hu : X.A.units + 1 < cLine) (ho : PE X o td) (hi : PE X i ty) (hv : PE X value tv) (hs : swapsWith value (some (.Subscript o i pos')) pos.line X.env = pure false) :
    PS X (.Assign [.Subscript o i pos'] value pos) (sDPut td ty tv) := by
  intro pins s σ H D I h
  refine wpAny_Assign_Subscript (thn (hv pins s σ H _ I h) fun r s1 ⟨v, H1, I1, rv, q1⟩ => thn (ho pins s1 σ H1 _ I1 q1) fun u s2 ⟨x, H2, I2, rx, q2⟩ => thn (hi pins s2 σ H2 _ I2 q2) fun iv s3 ⟨y, H3, I3, ry, a, H4, ex, g, q3⟩ => ?_) hs
  subst ex
  obtain rfl : u = Value.ref a := rx
  exact d_setItem hu I3 g ry rv fun s4 I4 => ⟨σ, H4, I4, q3⟩
end


/-! ### displays -/
theorem dk_empty {P : Program} {w : World} {H : Hp} (h : Heap) (hb : sysModules < h.objs.size) : ObjOk P w H (h.push { cls := .type "dict", data := .dict #[] }) h.objs.size (.dK []) :=
  ⟨Nat.zero_le _, beq_eq_false_iff_ne.mpr (Ne.symm (Nat.ne_of_lt hb)), [], .nil, Heap.DictOf.new h⟩
/-- {}, to be a dict of the kind that is wanted -/
def tDNewK : TE := fun _ H Q => ∀ p, H p = none → Q (.ref p) (upd H p (.dK []))
section
variable {X : Cx} {pos : Pos}
theorem pe_dnewK : PE X (.Dict [] [] pos) tDNewK := fun pins s σ H Q I h =>
  wpAny_Dict_empty ⟨.ref s.heap.objs.size, _, I.laid (a := s.heap.objs.size) (o := .dK []) (t' := s.toks) (fun _ _ q => Heap.get?_push_of_some _ q) (Nat.le_refl _) (dk_empty s.heap I.big), rfl, h _ (I.hok.fresh (Nat.le_refl _))⟩
end

/-! ### methods -/
section
variable {X : Cx} {pins : List (Addr × Obj)} {σ : St} {H : Hp} {s : Shared} {a : Addr} {y d : V} {u r : Value} {o : Option V} {A : Around} {E : Value → Shared → Prop}
end

section
variable {X : Cx} {o e f : Expr} {apos cpos : Pos} {td ty tx : TE}
end

/-! ### dict(d): a copy -/
section
variable {X : Cx} {pins : List (Addr × Obj)} {σ : St} {H : Hp} {s : Shared} {a : Addr} {kvs : List (Key × V)} {A : Around} {E : Value → Shared → Prop}
end


section
variable {X : Cx} {pins : List (Addr × Obj)} {σ : St} {H : Hp} {s : Shared} {a : Addr} {y : V} {u : Value} {A : Around} {E : Value → Shared → Prop}
end
end L2

namespace Att
open PySem PySem.W PySem.Calls PyProof.Rows

/-! ### the script -/
theorem ints_of_wellAll {P : Params} {h : Heap} : ∀ (ns : List Int) (vs : List Value), WellAll P h vs (ns.map WData.int) → IntsAre vs ns := by
  intro ns
  induction ns with
  | nil =>
    intro vs w
    rw [List.map_nil] at w
    cases w
    exact .nil
  | cons n ns ih =>
    intro vs w
    rw [List.map_cons] at w
    cases w with
    | cons a b =>
      cases a
      exact .cons _ _ (ih _ b)

theorem script_of {l : OpenLaw} {n : Nat} (hn : l.most = some n) {P : Params} {h : Heap} {args : List WData} {vals : List Value}
    (hpre : l.row.toRowW.claim.pre args = true) (hwl : WellAll P h vals args) :
    ∃ a vs ns, vals = [Value.ref a] ∧ args = [WData.list (ns.map WData.int)] ∧ h.get? a = some { cls := .type "list", data := .seq vs.toArray } ∧ IntsAre vs ns ∧ ns.length ≤ n := by
  have hsh : WShape.hasAll [] args [.list .int] = true := (pre_splitW hpre).1
  have hc : l.pre.holds [] { args := args } = true := (pre_splitW hpre).2
  obtain ⟨d, r, rfl, h1, h2⟩ := hasAllW_cons hsh
  obtain rfl := hasAllW_nil h2
  obtain ⟨xs, rfl, h3⟩ := hasW_list h1
  obtain ⟨ns, rfl⟩ := items_int h3
  have hlen : ns.length ≤ n := by
    unfold OpenLaw.pre at hc
    have h4 : (WTm.not (.lt (.lit (.int (n : Int))) (.len (.arg 0)))).holds [] { args := [.list (ns.map .int)] } = true := by
      have h4 := (holds_andW hc).1
      rw [hn] at h4
      exact h4
    have h5 := condW_of h4 (w_not (w_lt w_lit (w_len_list (w_arg rfl))))
    rw [List.length_map] at h5
    refine Nat.le_of_not_lt fun q => ?_
    have q' : (n : Int) < ((ns.length : Nat) : Int) := by omega
    first
      | (rw [decide_eq_true q'] at h5; exact absurd h5 (by decide))
      | (simp at h5; omega)
  cases hwl with
  | cons w1 w2 =>
    cases w2
    cases w1 with
    | list ho hall => exact ⟨_, _, ns, rfl, rfl, ho, ints_of_wellAll ns _ hall, hlen⟩

theorem post_true (l : OpenLaw) (args : List WData) : l.row.toRowW.claim.post args (.bool true) args = true :=
  postW_of (r := l.row.toRowW) (X := (true == true))
    (show WShape.has [] (.bool true) .bool = true by first | rfl | decide | simp [WShape.has, WShape.arms, WShape.armsAll])
    (show (WTm.eq .res (.lit (.bool true))).value [] { args := args, res := some (.bool true), after := args } = some (.bool (true == true)) from w_eq_bool (w_res rfl) w_lit) rfl

/-! ### the attachment: holds_open's last premise (the goal 'hc' behind k_head) from a wpAny of the law's body -/
/-- the same from a codeAny of the CALL (for a layer whose function contracts speak of calls) -/
theorem attach_call {l : OpenLaw} {n : Nat} {q : Program} {loose : List Str} {XP : (Str → Option Value) → Heap → Prop} {YP : World → Heap → Prop} {d : DefRec}
    (hn : l.most = some n) (hdf : d.params.defaults = [])
    (call : ∀ (w : World) (s₀ s₁ : Shared) (mg mb : Str → Option Value) (fa : Addr) (o : Obj) (pm cd doc : Value) (a : Addr) (vs : List Value) (ns : List Int),
      Ground q loose [] XP w s₀ mg mb s₁.heap → YP w s₁.heap →
      s₁.heap.get? fa = some o → o.data = .func (docDef d.name d.params d.body d.scope pm cd doc) → s₁.heap.CodeRec cd d.name → mg d.name = some (.ref fa) →
      s₁.heap.get? a = some { cls := .type "list", data := .seq vs.toArray } → IntsAre vs ns → ns.length ≤ n → s₁.gens = #[] →
      codeAny (model l.prog w) callerA (.call (.ref fa) ⟨[.ref a], []⟩) (fun r s' => r = .ok (.ret (.bool true)) ∧ OldK s₁.heap s'.heap ∧ s'.os = s₁.os ∧ AllBare s'.gens) s₁) :
    WalkO q loose XP YP l.row.toRowW d [] (fun f vs => PySem.call f vs) := by
  intro w s₀ s₁ mg mb G Y fa o pm cd doc dV kV ho hd hcd hD hmg hg args vals as hpre hlay hrd hwl hlo
  obtain rfl : dV = .none := Dflts.none hD hdf
  obtain rfl : kV = .none := Dflts.noKw hD
  obtain ⟨a, vs, ns, rfl, rfl, hobj, hints, hlen⟩ := script_of hn hpre hwl
  refine enter_call (codeAny_mono (call w s₀ s₁ mg mb fa o pm cd doc a vs ns G Y ho (fd_plain hd) hcd hmg hobj hints hlen hg) fun r s' hq => ?_)
  obtain ⟨rfl, h2, h3, h4⟩ := hq
  exact ⟨.inl ⟨.bool true, .bool true, [], rfl, fun _ => rfl, .bool true, post_true l _, fun _ => ⟨List.Pairwise.nil, fun _ hm => (nomatch hm)⟩⟩, h2, h3, h4⟩

/-! ### rules over ANY heap (no ledger) from facts about the written part K: the library's own take a ledger (News) for what they write -/
section
variable {prog : Program} {w : World} {A : Around} {E : Value → Shared → Prop} {s : Shared} {K : Frag}

/-! the whole heap as the ledger: makes every rule that writes through a ledger a rule over any heap -/
end
end Att

namespace L2
open PySem PySem.Spec PyProof.Rows

theorem vals_ints : ∀ {vs : List Value} {ns : List Int}, IntsAre vs ns → Vals (ns.map V.int) vs
  | _, _, .nil => .nil
  | _, _, .cons n t h => .cons ⟨t, rfl⟩ (vals_ints h)

/-- nothing is tracked but the script, known to the object (or it is an object of the module) -/
def Only (H : Hp) : Prop := ∀ b, H b = none ∨ ∃ o xs, H b = some (.frz o (.lst xs))

/-- THE HEAD: the law's promise, at the heap behind the top. F, the promise of the law's def, may use that base is part of the heap (so K.In base, base.Ns mainGlobals mg stand in Mod) -/
theorem law_call {P : Program} {w : World} {K : PySem.W.Frag} {mg mb : Str → Option Value} {CX : CXT} {k : Nat} {fa a : Addr} {fd : FuncData} {x : Str} {sp : Sp} {s₁ : Shared} {vs : List Value} {ns : List Int}
    (KX : K.In s₁.heap) (hns : s₁.heap.Ns mainGlobals mg) (hb : s₁.heap.Ns builtinsNs mb) (hbb : ∀ x : Str, x ≠ "__name__" → mb x = bootBuiltins x) (hlim : s₁.heap.NoLimit) (hg : s₁.gens = #[])
    (ha : s₁.heap.get? a = some { cls := .type "list", data := .seq vs.toArray }) (hi : IntsAre vs ns) (hl : ns.length ≤ sizeLine) (hr : Room k callerA)
    (F : ∀ base : Heap, K.In base → base.Ns mainGlobals mg → FnOk P w K mg base CX k fa fd [x] sp) (hbind : ∀ (s : Shared) (u : Value), BindsTo s fd ⟨[u], []⟩ [(x, u)])
    (hsp : ∀ H : Hp, Only H → SqL K H a (ns.map V.int) → sp [.ref a] H (fun v _ => v = .bl true) fun _ _ _ => False)
    (hCX : ∀ H e s', CX [] H s₁ (fun _ _ _ => False) e s' → False) :
    codeAny (model P w) callerA (.call (.ref fa) ⟨[.ref a], []⟩) (fun r s' => r = .ok (.ret (.bool true)) ∧ OldK s₁.heap s'.heap ∧ s'.os = s₁.os ∧ AllBare s'.gens) s₁ := by
  have rv := vals_ints hi
  have lenV := hi.length
  -- from an abstract heap in which nothing but the script may be tracked
  have core : ∀ H : Hp, Only H → SqL K H a (ns.map V.int) → HOk P w H s₁.heap → (∀ b, H b ≠ none → b = a) → (H a ≠ none → K.lookup a = none) →
      codeAny (model P w) callerA (.call (.ref fa) ⟨[.ref a], []⟩) (fun r s' => r = .ok (.ret (.bool true)) ∧ OldK s₁.heap s'.heap ∧ s'.os = s₁.os ∧ AllBare s'.gens) s₁ := by
    intro H hO hS hok hA hK
    have base_of : ∀ {b : Addr} {o : Obj}, s₁.heap.get? b = some o → H b = none → (hidT s₁.heap H).get? b = some o := fun e n => hidT_get e n
    have noA : ∀ {b : Addr} {o : Obj} {es : Array DictEntry} {ep : Nat}, s₁.heap.get? b = some o → o.data = .dict es ep → H b = none := fun {b o es ep} e d => by
      cases q : H b with
      | none => rfl
      | some u =>
        have e' : b = a := hA b (by rw [q]; simp)
        subst e'
        rw [ha] at e; cases e
        have d' : Data.seq vs.toArray _ = Data.dict es ep := d
        cases d'
    have nsK : ∀ {b : Addr} {m : Str → Option Value}, s₁.heap.Ns b m → (hidT s₁.heap H).Ns b m := fun {b m} ⟨o, es, ep, e, d, r⟩ => ⟨o, es, ep, base_of e (noA e d), d, r⟩
    have hKb : K.In (hidT s₁.heap H) := fun b o e => base_of (KX b o e) (by
      cases q : H b with
      | none => rfl
      | some u =>
        have e' : b = a := hA b (by rw [q]; simp)
        subst e'
        rw [hK (by rw [q]; simp)] at e; cases e)
    have hM : Mod K mg (hidT s₁.heap H) := ⟨hKb, nsK hns, ⟨mb, nsK hb, hbb⟩, let ⟨mc, h1, h2⟩ := hlim; ⟨mc, nsK h1, h2⟩⟩
    have e0 : Env0 P w K mg (hidT s₁.heap H) callerA [] s₁ H := ⟨rfl, hM, fun b o e => of_hidT e, Nat.le_of_eq (hidT_size _ _), trivial, fun b hb => absurd (show b ∈ ([] : List Addr) from hb) (by simp), hok, .of_eq hg⟩
    refine codeAny_mono ((F _ hKb (nsK hns)).run callerA [] s₁ H ⟨[.ref a], []⟩ [.ref a] [.ref a] _ _ hr e0 (hbind s₁ (.ref a)) (.cons rfl .nil) (hsp H hO hS)) fun r s' h => ?_
    cases r with
    | error e => exact (hCX H e s' h).elim
    | ok fl =>
      cases fl with
      | next => exact False.elim h
      | brk => exact False.elim h
      | cont => exact False.elim h
      | ret u =>
        obtain ⟨v, H', os, bare, un, hok', r', q⟩ := h
        have q' : v = .bl true := q
        subst q'
        obtain rfl : u = Value.bool true := r'
        refine ⟨rfl, OldK.of_keep fun b o e => ?_, os, bare⟩
        cases q : H b with
        | none => exact un.keep b o e q (by intro z; exact absurd (show b ∈ ([] : List Addr) from z) (by simp)) (by simp)
        | some u =>
          rcases hO b with z | ⟨ob, xs, z⟩
          · rw [q] at z; cases z
          · have z2 := un.frzs b ob _ z
            obtain ⟨e1, _⟩ := hok b _ z
            obtain ⟨e2, _⟩ := hok' b _ z2
            rw [e] at e1; cases e1
            exact e2
  cases hk : K.lookup a with
  | some o =>
    -- the script is one of the module's own objects
    have e := KX a o hk
    rw [ha] at e
    cases e
    refine core (fun _ => none) (fun _ => .inl rfl) (.inr ⟨_, vs.toArray, _, hk, rfl, rfl, rfl, by rw [List.size_toArray, lenV]; exact hl, by simpa using rv⟩) (fun b u z => by have z' : (none : Option HO) = some u := z; cases z') (fun b z => absurd rfl z) fun z => absurd rfl z
  | none =>
    refine core (fun b => if b = a then some (.frz { cls := .type "list", data := .seq vs.toArray } (.lst (ns.map V.int))) else none) (fun b => ?_) (.inl (.inr ⟨{ cls := .type "list", data := .seq vs.toArray }, if_pos rfl⟩)) (fun b u z => ?_) (fun b z => ?_) fun _ => hk
    · by_cases hb : b = a
      · exact .inr ⟨_, _, if_pos hb⟩
      · exact .inl (if_neg hb)
    · by_cases hb : b = a
      · have z' := (if_pos hb).symm.trans z
        cases z'
        subst hb
        exact ⟨ha, by rw [List.length_map]; exact hl, vs, _, rv, ha⟩
      · have z' := (if_neg hb).symm.trans z
        cases z'
    · by_cases hb : b = a
      · exact hb
      · exact absurd (if_neg hb) z
end L2

namespace L2
open PySem PySem.Spec PyProof.Rows

/-- the goal that k_head leaves (case hc), from the law's promise. F gives the function object fd (K's own) once, then the promise over every base -/
theorem walk_of {l : PySem.W.OpenLaw} {n k : Nat} {q : Program} {loose : List Str} {XP : (Str → Option Value) → Heap → Prop} {YP : World → Heap → Prop} {d : DefRec} {K : Params → PySem.W.Frag} {CX : World → CXT} {sp : World → Sp} {x : Str}
    (hn : l.most = some n) (hn2 : n ≤ sizeLine) (hdf : d.params.defaults = []) (hr : Room k callerA)
    (hY : ∀ (w : World) (h : Heap), YP w h → (K w.params).In h)
    (F : ∀ (w : World) (mg : Str → Option Value) (fa : Addr) (h : Heap), (K w.params).In h → h.Ns mainGlobals mg → mg d.name = some (.ref fa) →
      ∃ fd : FuncData, (∀ (s : Shared) (u : Value), BindsTo s fd ⟨[u], []⟩ [(x, u)]) ∧
        ∀ base : Heap, (K w.params).In base → base.Ns mainGlobals mg → FnOk l.prog w (K w.params) mg base (CX w) k fa fd [x] (sp w))
    (hsp : ∀ (w : World) (H : Hp) (a : Addr) (ns : List Int), ns.length ≤ n → Only H → SqL (K w.params) H a (ns.map V.int) → sp w [.ref a] H (fun v _ => v = .bl true) fun _ _ _ => False)
    (hCX : ∀ (w : World) (H : Hp) (s : Shared) (e : Value) (s' : Shared), CX w [] H s (fun _ _ _ => False) e s' → False) :
    PySem.W.WalkO q loose XP YP l.row.toRowW d [] (fun f vs => PySem.call f vs) := by
  refine Att.attach_call hn hdf fun w s₀ s₁ mg mb fa o pm cd doc a vs ns G Y ho hd hcd hmg hobj hints hlen hg => ?_
  have KX := hY w _ Y
  obtain ⟨fd, hb, hF⟩ := F w mg fa _ KX G.T.g hmg
  exact law_call KX G.T.g G.T.b G.T.builtins G.T.nolimit hg hobj hints (Nat.le_trans hlen hn2) hr hF hb (fun H hO hS => hsp w H a ns hlen hO hS) fun H e s' => hCX w H s₁ e s'
end L2



/-! SHORT WORDS over the layer: a def of the text, its body, what a loop and a test want. -/
namespace L2
open PySem PySem.Spec PyProof.Rows

/-! ### the text by places -/
/-- the j-th statement of a class's body -/
def inClass (s : Stmt) (j : Nat) : Stmt := match s with
  | .ClassDef _ _ _ body _ _ _ _ _ _ _ => body.getD j (.Pass ⟨0, 0, 0, 0⟩)
  | _ => .Pass ⟨0, 0, 0, 0⟩
def defArgs (s : Stmt) : Arguments := match s with
  | .FunctionDef _ a _ _ _ _ _ _ _ _ => a
  | _ => { posonlyargs := [], args := [], vararg := none, kwonlyargs := [], kw_defaults := [], kwarg := none, defaults := [] }
def defBody (s : Stmt) : List Stmt := match s with
  | .FunctionDef _ _ b _ _ _ _ _ _ _ => b
  | _ => []
def defScope (s : Stmt) : Scope := match s with
  | .FunctionDef _ _ _ _ _ _ sc _ _ _ => sc
  | _ => { kind := .function, names := [], isGenerator := false, isCoroutine := false }

/-! ### no exception leaves a def -/
abbrev E0 : XK := fun _ _ _ => False
/-! ### a def (or method) of the text as it stands behind the top -/
structure Fun (K : PySem.W.Frag) (x qual : Str) (st : Stmt) (f : Addr) (fd : FuncData) : Prop where
  ex : ∃ (oc : Value) (od : Option Addr) (kV doc pm : Value) (an : Option Addr) (cdv ct : Value) (osl : Array (Option Value)),
    fd = PySem.W.fnOf x qual (defArgs st) (defBody st) (defScope st) .none kV doc pm an cdv ct ∧ K.lookup f = some ⟨oc, od, .func fd, osl⟩ ∧ PySem.W.codeIn K cdv qual = true
  kp : PySem.W.keepIn K (.ref f) = true
section
variable {P : Program} {w : World} {K : PySem.W.Frag} {mg : Str → Option Value} {base : Heap}
/-- how its arguments bind (no defaults): h is «fun _ _ _ _ _ _ us hl => match us, hl with | [_, _], _ => rfl», one _ a parameter -/
theorem Fun.binds {x qual : Str} {st : Stmt} {f : Addr} {fd : FuncData} {ps : List Str} (F : Fun K x qual st f fd)
    (h : ∀ (kV doc pm : Value) (an : Option Addr) (cdv ct : Value) (us : List Value), us.length = ps.length → bindArgs (PySem.W.fnOf x qual (defArgs st) (defBody st) (defScope st) .none kV doc pm an cdv ct) ⟨us, []⟩ = pure (ps.zip us)) : Binds K fd ps [] := by
  obtain ⟨oc, od, kV, doc, pm, an, cdv, ct, osl, rfl, lk, hcd⟩ := F.ex
  exact .all (h kV doc pm an cdv ct)
theorem fun_mk {x qual : Str} {st : Stmt} {f : Addr} {oc : Value} {od an : Option Addr} {osl : Array (Option Value)} {kV doc pm cdv ct : Value} (l : K.lookup f = some ⟨oc, od, .func (PySem.W.fnOf x qual (defArgs st) (defBody st) (defScope st) .none kV doc pm an cdv ct), osl⟩)
    (c : PySem.W.codeIn K cdv qual = true) (k : PySem.W.keepIn K (.ref f) = true) : Fun K x qual st f (PySem.W.fnOf x qual (defArgs st) (defBody st) (defScope st) .none kV doc pm an cdv ct) := ⟨⟨oc, od, kV, doc, pm, an, cdv, ct, osl, rfl, l, c⟩, k⟩
end
theorem hu_of {A : Around} {k : Nat} (hr : Room k A) : A.units + 1 < cLine := Nat.lt_of_le_of_lt (Nat.add_le_add_left (by decide : 1 ≤ 64) _) hr.units
theorem small1000 {n : Nat} (h : n ≤ 1000) : n < sizeLine := Nat.lt_of_le_of_lt h (by decide)

/-! ### expressions in short: the name that stands in the i-th slot -/
section
variable {X : Cx}
theorem pv (i : Nat) {x : Str} {pos : Pos} (hN : X.N[i]? = some x := by rfl) (hv : Vis X.env.scope x := by first | exact Or.inl rfl | exact Or.inr (Or.inl rfl) | exact Or.inr (Or.inr rfl)) (hd : (x == ("__debug__" : Str)) = false := by decide)
    (hcd : (x == ("__classdict__" : Str)) = false := by decide) : PE X (.Name x pos) (tVar i) := pe_var hN hv hd hcd
end

/-! ### tests -/
theorem iteF {A B : Prop} (h : B) : if false = true then A else B := by
  rw [if_neg Bool.false_ne_true]
  exact h
theorem iteT {A B : Prop} (h : A) : if true = true then A else B := by
  rw [if_pos rfl]
  exact h
/-! ### heaps -/
/-- all that was tracked is as it was -/
def Same (H H' : Hp) : Prop := ∀ b o, H b = some o → H' b = some o
theorem Same.refl (H : Hp) : Same H H := fun _ _ h => h
theorem Same.trans {H H1 H2 : Hp} (a : Same H H1) (b : Same H1 H2) : Same H H2 := fun c o h => b c o (a c o h)
/-! ### a dict's pairs: keys that differ -/
section
variable {κ : Type} [DecidableEq κ]
end
end L2

set_option Elab.async false
set_option linter.all false
set_option maxRecDepth 100000
set_option maxHeartbeats 4000000
/-! Refusals over the hand layer: raise, a call that raises, try with one except clause of an own class. -/
namespace L2
open PySem PySem.Spec PyProof.Rows

section
variable {P : Program} {w : World} {H H' : Hp} {h h' : Heap} {a : Addr} {o : HO}
theorem ObjOk.there (x : ObjOk P w H h a o) : ∃ q, h.get? a = some q := by
  cases o with
  | lst xs => obtain ⟨_, _, _, _, e⟩ := x; exact ⟨_, e⟩
  | tup xs => obtain ⟨_, _, _, q, e, _⟩ := x; exact ⟨q, e⟩
  | dK kvs => obtain ⟨_, _, _, _, q, _, _, e, _⟩ := x; exact ⟨q, e⟩
  | dT kvs => obtain ⟨_, _, _, _, q, _, _, e, _⟩ := x; exact ⟨q, e⟩
  | set S n => obtain ⟨q, _, _, _, e, _⟩ := x; exact ⟨q, e⟩
  | ins C dx fs => obtain ⟨_, _, _, e, _⟩ := x; exact ⟨_, e⟩
  | own y => exact x
  | xd fs => obtain ⟨_, ⟨q, _, _, e, _⟩, _⟩ := x; exact ⟨q, e⟩
  | rng lo hi => obtain ⟨_, _, _, e⟩ := x; exact ⟨_, e⟩
  | frz ob u => obtain ⟨e, _⟩ := x; exact ⟨_, e⟩
  | tbl ps => exact ⟨_, x⟩
  | met f y => exact ⟨_, x⟩
  | ext φ => obtain ⟨_, e, _⟩ := x; exact e
/-- what is tracked is held by a heap that lacks untracked objects alone -/
theorem HOk.lean (x : HOk P w H h) (k : ∀ b u, H b ≠ none → h.get? b = some u → h'.get? b = some u) : HOk P w H h' := fun b u e =>
  (x b u e).stay (fun c v hc q => k c v (by
    rcases hc with rfl | hc
    · rw [e]; simp
    · rw [hc]; simp) q) (fun _ q => q) fun _ _ q => q
end

/-- an exception e of class cls flies behind a call -/
structure Flies (P : Program) (w : World) (outer : List Env) (H H' : Hp) (s s' : Shared) (e : Addr) (cls : Value) : Prop where
  os : s'.os = s.os
  bare : AllBare s'.gens
  un : Un (frs outer) [] H H' s.heap s'.heap
  fly : ∃ B a0, Heap.FlyingW B outer e cls a0 s'.heap ∧ HOk P w H' B ∧ (∀ b o, s.heap.get? b = some o → H b = none → b ∉ frs outer → B.get? b = some o) ∧
    ∀ b o, s.heap.get? b = some o → b ∉ frs outer → ∃ o', B.get? b = some o'
/-- how an exception lies behind a call -/
def CX1 (P : Program) (w : World) : CXT := fun outer H s E u s' => ∃ e cls H', u = .ref e ∧ Flies P w outer H H' s s' e cls ∧ E cls none H'

section
variable {X : Cx} {pins : List (Addr × Obj)} {σ : St} {H H' : Hp} {s s' : Shared} {e : Addr} {cls : Value}
theorem Flies.inv (f : Flies X.prog X.w X.stack H H' s s' e cls) (I : Inv X pins σ H s) : Inv X pins σ H' s' := by
  obtain ⟨B, a0, fl, hB, _, _⟩ := f.fly
  exact I.call' (ch := []) f.os f.un (hB.kept fl.1) f.bare (fun b z => absurd z (by simp))
theorem Inv.nst (I : Inv X pins σ H s) {b : Addr} {o : Obj} (q : X.s₀.heap.get? b = some o) (hb : b ∉ X.fs) : b ∉ frs X.stack := fun z => by
  rcases List.mem_cons.mp (I.stkSub b z) with y | y
  · exact absurd (Nat.lt_of_lt_of_le (Heap.lt_size q) I.ok.above) (by rw [y]; exact Nat.lt_irrefl _)
  · exact hb y
/-- the exception leaves this frame -/
theorem Flies.leaves {M : Model} {Q : Unit → Shared → Prop} {E : Value → Shared → Prop} (f : Flies X.prog X.w X.stack H H' s s' e cls) (I : Inv X pins σ H s)
    (hs : X.stack = X.env :: X.outer) (hf : X.env.frame = some X.env.locals) (hx : X.ex = [])
    (hQ : ∀ s'', Flies X.prog X.w X.outer X.H₀ H' X.s₀ s'' e cls → Q () s'') : wpAny M X.A (leaving X.env (.ref e)) Q E s' := by
  have J := f.inv I
  obtain ⟨B, a0, fl, hB, kB, tB⟩ := f.fly
  rw [hs] at fl
  have nx : ∀ b : Addr, b ∉ X.ex := fun b => by rw [hx]; simp
  refine wpAny_leaves_onW (by rw [I.ok.frames, hs]) hf fl fun h' fl' up => hQ _ ?_
  have slot : ∀ b o, X.s₀.heap.get? b = some o → b ∈ X.fs → ∃ sl, h'.get? b = some { o with slots := sl } := fun b o q hb => by
    obtain ⟨sl, e1⟩ := J.base.slot b o q (I.ok.frf b hb) hb (nx b)
    obtain ⟨_, o', ho', hn⟩ := J.funs.mem hb
    rw [e1] at ho'
    cases ho'
    obtain ⟨sl', e2⟩ := up b _ e1 hn
    exact ⟨sl', e2⟩
  have keepB : ∀ b o, X.s₀.heap.get? b = some o → X.H₀ b = none → b ∉ X.fs → B.get? b = some o := fun b o q n hb =>
    kB b o (I.base.keep b o q n hb (nx b)) (I.base.free b o q n (nx b)) (I.nst q hb)
  have thereB : ∀ b o, X.s₀.heap.get? b = some o → b ∉ X.fs → ∃ o', B.get? b = some o' := fun b o q hb => by
    obtain ⟨o1, e1⟩ := I.base.there b o q (nx b)
    exact tB b o1 e1 (I.nst q hb)
  refine ⟨J.os, J.bare, ⟨fun b o q n hb _ => fl'.1 b o (keepB b o q n hb), fun b o q _ hb _ => slot b o q hb, fun b o q n _ => J.base.free b o q n (nx b), fun b o q _ => ?_, J.base.tups, J.base.frzs, J.base.tbls⟩,
    B, a0, fl', hB, keepB, thereB⟩
  by_cases hb : b ∈ X.fs
  · obtain ⟨sl, e2⟩ := slot b o q hb
    exact ⟨_, e2⟩
  · obtain ⟨o1, e1⟩ := thereB b o q hb
    exact ⟨o1, fl'.1 b o1 e1⟩
/-- one that was made here leaves this frame -/
theorem made_leaves {M : Model} {Q : Unit → Shared → Prop} {E : Value → Shared → Prop} {h1 : Heap} {vs : List Value} (I : Inv X pins σ H s) (mk : Heap.MadeExcOf s.heap h1 e cls vs)
    (hs : X.stack = X.env :: X.outer) (hf : X.env.frame = some X.env.locals) (hx : X.ex = [])
    (hQ : ∀ s'', Flies X.prog X.w X.outer X.H₀ H X.s₀ s'' e cls → Q () s'') : wpAny M X.A (leaving X.env (.ref e)) Q E { s with heap := h1 } := by
  have nx : ∀ b : Addr, b ∉ X.ex := fun b => by rw [hx]; simp
  have hid : ∀ b o, s.heap.get? b = some o → b ∉ frs X.stack → (PySem.W.hideAll s.heap (frs X.stack)).get? b = some o := fun b o q n => PySem.W.hideAll_get _ q n
  have FF : s.heap.FunFrames (PySem.W.hideAll s.heap (frs X.stack)) X.stack :=
    PySem.W.funFrames_hide I.stack fun env he a ha => List.mem_filterMap.mpr ⟨env, he, ha⟩
  have hB : HOk X.prog X.w H (PySem.W.hideAll s.heap (frs X.stack)) := I.hok.lean fun b u n q => hid b u q fun z => n (I.stkFree b z)
  have sub : ∀ b o, (PySem.W.hideAll s.heap (frs X.stack)).get? b = some o → s.heap.get? b = some o := fun b o q => PySem.W.of_hideAll _ q
  generalize PySem.W.hideAll s.heap (frs X.stack) = B at *
  rw [hs] at FF
  refine wpAny_leaves_madeW (s := { s with heap := h1 }) (by rw [I.ok.frames, hs]) hf sub FF mk fun h' t fl' _ _ up => hQ _ ?_
  have slot : ∀ b o, X.s₀.heap.get? b = some o → b ∈ X.fs → ∃ sl, h'.get? b = some { o with slots := sl } := fun b o q hb => by
    obtain ⟨sl, e1⟩ := I.base.slot b o q (I.ok.frf b hb) hb (nx b)
    obtain ⟨_, o', ho', hn⟩ := I.funs.mem hb
    rw [e1] at ho'
    cases ho'
    obtain ⟨sl', e2⟩ := up b _ (mk.keeps _ _ e1) hn
    exact ⟨sl', e2⟩
  have keepB : ∀ b o, X.s₀.heap.get? b = some o → X.H₀ b = none → b ∉ X.fs → B.get? b = some o := fun b o q n hb =>
    hid b o (I.base.keep b o q n hb (nx b)) (I.nst q hb)
  have thereB : ∀ b o, X.s₀.heap.get? b = some o → b ∉ X.fs → ∃ o', B.get? b = some o' := fun b o q hb => by
    obtain ⟨o1, e1⟩ := I.base.there b o q (nx b)
    exact ⟨o1, hid b o1 e1 (I.nst q hb)⟩
  refine ⟨I.os, I.bare, ⟨fun b o q n hb _ => fl'.1 b o (keepB b o q n hb), fun b o q _ hb _ => slot b o q hb, fun b o q n _ => I.base.free b o q n (nx b), fun b o q _ => ?_, I.base.tups, I.base.frzs, I.base.tbls⟩,
    _, _, fl', hB, keepB, thereB⟩
  by_cases hb : b ∈ X.fs
  · obtain ⟨sl, e2⟩ := slot b o q hb
    exact ⟨_, e2⟩
  · obtain ⟨o1, e1⟩ := thereB b o q hb
    exact ⟨o1, fl'.1 b o1 e1⟩
end

/-! ### a call whose wish about exceptions knows the frame -/
abbrev XS := St → XK
def PassesS (CX : CXT) (X : Cx) (E : XS) : Prop := ∀ (pins : List (Addr × Obj)) (σ : St) (H : Hp) (s : Shared) (e : Value) (s' : Shared), Inv X pins σ H s → CX X.stack H s (E σ) e s' → X.xe e s'
/-- an exception that is made in this body reaches what is wanted -/
def Raises (X : Cx) (E : XS) : Prop := ∀ (pins : List (Addr × Obj)) (σ : St) (H : Hp) (s : Shared) (h1 : Heap) (e : Addr) (cls : Value) (vs : List Value), Inv X pins σ H s → Heap.MadeExcOf s.heap h1 e cls vs → E σ cls none H → X.xe (.ref e) { s with heap := h1 }
theorem pass_none {P : Program} {w : World} {X : Cx} : PassesS (CX1 P w) X (fun _ => E0) := fun _ _ _ _ _ _ _ ⟨_, _, _, _, _, z⟩ => False.elim z
section
variable {P : Program} {w : World} {K : PySem.W.Frag} {mg : Str → Option Value} {base : Heap} {N : List Str} {qual : Str} {scope : Scope} {f : Addr} {cd : Value} {A : Around} {outer : List Env} {s : Shared} {H : Hp} {E : XK}
theorem pass_on : PassesS (CX1 P w) (cxOf (CX1 P w) P w K mg base N qual scope f cd A outer s H E) (fun _ => E) := by
  rintro pins σ H1 s1 u s' I ⟨e, cls, H', rfl, fl, q⟩
  exact fl.leaves I rfl rfl rfl fun s'' f'' => ⟨e, cls, H', rfl, f'', q⟩
theorem raise_on : Raises (cxOf (CX1 P w) P w K mg base N qual scope f cd A outer s H E) (fun _ => E) := by
  intro pins σ H1 s1 h1 e cls vs I mk q
  exact made_leaves I mk rfl rfl rfl fun s'' f'' => ⟨e, cls, H1, rfl, f'', q⟩
end

section
variable {X : Cx} {CX : CXT} {k : Nat} {f C : Addr} {fd : FuncData} {ps : List Str} {sp : Sp} {dvs : List V} {ds : List Value} {E : XS} {x m : Str} {p pos apos : Pos} {e o : Expr} {es : List Expr} {ta : TE} {t : TA}
/-- f(..), where an exception of it is wanted as E says -/
def tCallX (sp : Sp) (dvs : List V) (E : XS) (t : TA) : TE := fun σ H Q => t σ H fun vs H1 => sp (vs ++ dvs) H1 Q (E σ)
theorem run_fnX {pins : List (Addr × Obj)} {σ : St} {H : Hp} {s : Shared} {Q : VK} {us : List Value} {vs : List V} (F : FnOk X.prog X.w X.K X.mg X.base CX k f fd ps sp) (hr : Room k X.A) (hb : Binds X.K fd ps ds) (hd : Vals dvs ds) (hx : PassesS CX X E)
    (I : Inv X pins σ H s) (r : Vals vs us) (h : sp (vs ++ dvs) H Q (E σ)) : wpAny (model X.prog X.w) X.A (call (.ref f) us) (EP X pins σ Q) X.xe s := by
  have r2 : Vals (vs ++ dvs) (us ++ ds) := r.append hd
  have hl : (us ++ ds).length = ps.length := by rw [← r2.length]; exact F.len _ _ _ _ h
  refine wpAny_call (codeAny_mono (F.run X.A X.stack s H ⟨us, []⟩ (us ++ ds) (vs ++ dvs) Q (E σ) hr I.env0 (hb s us I.kIn hl) r2 h) fun r s' hq => ?_)
  cases r with
  | error e => exact hx pins σ H s e s' I hq
  | ok fl =>
    cases fl with
    | ret u => exact I.after hq
    | next => exact False.elim hq
    | brk => exact False.elim hq
    | cont => exact False.elim hq
theorem pe_callX (F : FnOk X.prog X.w X.K X.mg X.base CX k f fd ps sp) (hr : Room k X.A) (hg : Gl X x) (hm : X.mg x = some (.ref f)) (hk : PySem.W.keepIn X.K (.ref f) = true) (hb : Binds X.K fd ps ds) (hd : Vals dvs ds) (hx : PassesS CX X E)
    (ha : PA X (e :: es) t) (hdb : (x == ("__debug__" : Str)) = false := by decide) (he : starEach (e :: es) X.env = (false, eval e X.env) :: starEach es X.env := by rfl) (hpl : (backTo pos (starEach es X.env)).any (·.1) = false := by rfl) :
    PE X (.Call (.Name x p) (e :: es) [] pos) (tCallX sp dvs E t) := by
  intro pins s σ H Q I h
  refine wpAny_Call_Name_kw (ld_glob I hg hm ?_ hdb)
  refine PySem.W.callWith_K (h₀ := X.base) I.ok.mod.kin hk (thn (ha pos pins s σ H _ I h) fun us s1 ⟨vs, H1, I1, r, q⟩ => ⟨I1.kIn, ?_⟩) he hpl
  exact run_fnX F hr hb hd hx I1 r q
end

/-! ### raise -/
section
variable {K : PySem.W.Frag} {h : Heap} {C : Addr} {bmB : List Value} {newId : String}
/-- an own error class without an __init__ of its own, as the top has it -/
theorem exc_at (X : K.In h) (q : PySem.W.excIn K C bmB newId = true) : ∃ bm N nm qn bs hdct sn sub ab col dd k0 k1 k2 k3 k5 mN,
    h.get? C = some (excClassObj nm qn C N bs bm hdct sn sub ab col dd k0 k1 k2 k3 k5 newId) ∧ h.Ns N mN ∧ mN "__init__" = none ∧ OwnTail h bmB bm := by
  unfold PySem.W.excIn at q
  split at q
  case h_2 => cases q
  case h_1 dict0 cdat slots0 found =>
    split at q
    case h_2 => cases q
    case h_1 C1 rest0 s0 s1 s2 s3 nid s5 mroEq slEq =>
      simp only [Bool.and_eq_true, beq_iff_eq, Bool.not_eq_true'] at q
      have q1 := q.1.1.1.1.1
      have q2 := q.1.1.1.1.2
      have q3 := q.1.1.1.2
      have q4 := q.1.1.2
      have q5 := q.1.2
      have q6 := q.2
      subst q1 q2
      cases cdat with
      | mk nmX basesX mroX nsX qualX hdX snX subX abX colX delX =>
        dsimp only at mroEq q3 q5 q6
        subst mroEq
        subst q3
        have es : slots0 = #[s0, s1, s2, s3, some (.builtin nid), s5] := by
          cases slots0 with
          | mk l => exact congrArg _ slEq
        subst es
        exact ⟨rest0, nsX, nmX, qualX, basesX, hdX, snX, subX, abX, colX, dict0, s0, s1, s2, s3, s5, _, X _ _ found, .of_isNs (PySem.W.isNs_of_in X q5), PySem.W.nsMap_none_of_in X q5 q6, PySem.W.tail_of_in X q4⟩
end
section
variable {X : Cx} {x : Str} {C : Addr} {np cpos pos : Pos} {e₀ : Expr} {rest : List Expr} {t : TA} {bmB : List Value} {newId B initId : String} {E : XS}
def tRaise (C : Addr) (E : XS) (t : TA) : TS := fun _ σ H => t σ H fun vs H1 => vs.length ≤ sizeLine ∧ E σ (.ref C) none H1
theorem ps_raise (hg : Gl X x) (hm : X.mg x = some (.ref C)) (q : PySem.W.excIn X.K C bmB newId = true) (FB : ExcBaseFacts B newId initId bmB) (hc : X.calm = true) (hx : Raises X E) (ha : PA X (e₀ :: rest) t)
    (hd : (x == ("__debug__" : Str)) = false := by decide) (he : starEach (e₀ :: rest) X.env = (false, eval e₀ X.env) :: starEach rest X.env := by rfl) (hpl : (backTo cpos (starEach rest X.env)).any (·.1) = false := by rfl) :
    PS X (.Raise (some (.Call (.Name x np) (e₀ :: rest) [] cpos)) none pos) (tRaise C E t) := by
  intro pins s σ H D I h
  obtain ⟨bm, N, nm, qn, bs, hdct, sn, sub, ab, col, dd, k0, k1, k2, k3, k5, mN, hC, hN, hni, T⟩ := exc_at I.mod.kin q
  have hpl' : (backTo cpos (starEach (e₀ :: rest) X.env)).any (·.1) = false := by
    rw [he]
    exact hpl
  refine wpAny_Raise_call_subT (C := C) (nm := nm) (q := qn) (N := N) (bs := bs) (bm := bm) (hdct := hdct) (sn := sn) (sub := sub) (ab := ab) (col := col) (dd := dd) (k0 := k0) (k1 := k1) (k2 := k2)
    (k3 := k3) (k5 := k5) FB (mN := mN) (T.hasType FB.hasBase) (I.ok.hd hc) hpl' hni (ld_glob I hg hm ⟨rfl, ?_⟩ hd)
  have g := ha cpos pins s σ H _ I h
  rw [he] at g ⊢
  refine Calls.evalArgs_plain (wpAny_mono g (fun us s1 r1 => ?_) fun _ _ y => y)
  obtain ⟨vs, H1, I1, rv, z, q1⟩ := r1
  exact ⟨rfl, by rw [← rv.length]; exact z, I1.bk _ _ hC, hN.keeps I1.bk, T.keeps I1.bk, fun h1 e mk => hx pins σ H1 s1 h1 e (.ref C) us I1 mk q1⟩
end
end L2

set_option Elab.async false
set_option linter.all false
set_option maxRecDepth 100000
set_option maxHeartbeats 4000000
namespace L2
open PySem PySem.Spec PyProof.Rows

/-! ### try: one except clause -/
/-- what is known of a caught exception -/
def ExcAt (cls : Value) (e : Addr) : Heap → Prop := fun h => ∃ o vs, h.get? e = some o ∧ o.cls = cls ∧ o.data = .fields vs
def ExcO (cls : Value) (e : Addr) : HO := .ext (ExcAt cls e)
section
variable {P : Program} {w : World} {H H' : Hp} {h h' : Heap} {a : Addr} {o : HO}
theorem HOk.track (x : HOk P w H h) (n : H a = none) (new : ObjOk P w (upd H a o) h a o) : HOk P w (upd H a o) h := fun b u e => by
  by_cases hb : b = a
  · subst hb
    rw [upd_same] at e
    cases e
    exact new
  · rw [upd_ne hb] at e
    exact (x b u e).stay (fun _ _ _ q => q) (fun c q => by rw [upd_ne (ne_of_none q n)]; exact q) fun c xs q => by rw [upd_ne (ne_of_none q n)]; exact q
theorem excO_ok {cls : Value} {e : Addr} (x : ExcAt cls e h) : ObjOk P w H h e (ExcO cls e) := by
  obtain ⟨ob, vs, h1, h2, h3⟩ := id x
  exact ⟨x, ⟨ob, h1⟩, fun g1 g2 ⟨o1, vs1, z1, z2, z3⟩ k => ⟨o1, vs1, k o1 z1, z2, z3⟩⟩
end
section
variable {P : Program} {w : World} {outer : List Env} {H H' : Hp} {s s' : Shared} {e : Addr} {cls : Value}
/-- it may be looked at and held: it flies on -/
theorem Flies.move (f : Flies P w outer H H' s s' e cls) : ∃ B a0, Heap.FlyingW B outer e cls a0 s'.heap ∧
    ∀ h5, Heap.FlyingW B outer e cls a0 h5 → s'.heap.UpToSlots h5 → Flies P w outer H H' s { s' with heap := h5 } e cls := by
  obtain ⟨B, a0, fl, hB, kB, tB⟩ := f.fly
  refine ⟨B, a0, fl, fun h5 fl5 up => ⟨f.os, f.bare, ⟨fun b o q n hb _ => fl5.1 b o (kB b o q n hb), fun b o q n hb hx => ?_, f.un.free, fun b o q hx => ?_, f.un.tups, f.un.frzs, f.un.tbls⟩, B, a0, fl5, hB, kB, tB⟩⟩
  · obtain ⟨sl, e1⟩ := f.un.slot b o q n hb hx
    obtain ⟨_, o', ho', hn⟩ := fl.2.2.1.mem hb
    rw [e1] at ho'
    cases ho'
    obtain ⟨sl', e2⟩ := up b _ e1 hn
    exact ⟨sl', e2⟩
  · by_cases hb : b ∈ frs outer
    · obtain ⟨_, o', ho', hn⟩ := fl.2.2.1.mem hb
      obtain ⟨sl', e2⟩ := up b _ ho' hn
      exact ⟨_, e2⟩
    · obtain ⟨o1, e1⟩ := tB b o q hb
      exact ⟨o1, fl5.1 b o1 e1⟩
/-- it is new, and nothing that is tracked -/
theorem Flies.new (f : Flies P w outer H H' s s' e cls) : H' e = none ∧ s.heap.get? e = none ∧ ExcAt cls e s'.heap := by
  obtain ⟨B, a0, fl, hB, kB, tB⟩ := f.fly
  obtain ⟨oe, vs, h1, h2, h3, _⟩ := fl.first
  refine ⟨?_, ?_, oe, vs, h1, h2, h3⟩
  · cases q : H' e with
    | none => rfl
    | some u =>
      obtain ⟨o1, e1⟩ := (hB e u q).there
      rw [fl.2.1] at e1
      cases e1
  · cases q : s.heap.get? e with
    | none => rfl
    | some u =>
      by_cases hb : e ∈ frs outer
      · obtain ⟨_, o', ho', hn⟩ := fl.2.2.1.mem hb
        rw [h1] at ho'
        cases ho'
        exact absurd h3 (hn vs)
      · obtain ⟨o1, e1⟩ := tB e u q hb
        rw [fl.2.1] at e1
        cases e1
end
section
variable {X : Cx} {pins : List (Addr × Obj)} {σ : St} {H H' : Hp} {s s' : Shared} {e : Addr} {cls : Value}
/-- it is caught: it is tracked from here on -/
theorem Flies.caught (f : Flies X.prog X.w X.stack H H' s s' e cls) (I : Inv X pins σ H s) : Inv X pins σ (upd H' e (ExcO cls e)) s' := by
  obtain ⟨n1, n2, ex⟩ := f.new
  have J := f.inv I
  have ne : ∀ b o, s.heap.get? b = some o → b ≠ e := fun b o q z => by
    rw [z, n2] at q
    cases q
  refine I.call' (ch := []) f.os ⟨f.un.keep, f.un.slot, fun b o q n hx => ?_, f.un.there, fun b xs q => ?_, fun b o u q => ?_, fun b ps q => ?_⟩ (J.hok.track n1 (excO_ok ex)) f.bare (fun b z => absurd z (by simp))
  · rw [upd_ne (ne b o q)]
    exact f.un.free b o q n hx
  · have z := f.un.tups b xs q
    rw [upd_ne (ne_of_none z n1)]
    exact z
  · have z := f.un.frzs b o u q
    rw [upd_ne (ne_of_none z n1)]
    exact z
  · obtain ⟨more, z⟩ := f.un.tbls b ps q
    exact ⟨more, by rw [upd_ne (ne_of_none z n1)]; exact z⟩
end
/-- the context of a try's body; of an except suite -/
abbrev Cx.tryIn (X : Cx) (pins : List (Addr × Obj)) (W : Value → Shared → Prop) : Cx := { X with pn := X.pn ++ pins, xe := W }
abbrev Cx.suite (X : Cx) (pins : List (Addr × Obj)) (e : Addr) : Cx := { X with pn := X.pn ++ pins, A := X.A.mark (some (.ref e)), calm := false, xe := fun _ _ => False }
section
variable {X : Cx} {pins pins' : List (Addr × Obj)} {σ : St} {H H' : Hp} {s s' : Shared} {W : Value → Shared → Prop} {e : Addr}
theorem Inv.tryIn (I : Inv X pins σ H s) (W : Value → Shared → Prop) : Inv (X.tryIn pins W) [] σ H s :=
  ⟨⟨I.ok.mod, I.ok.kind, I.ok.glob, I.ok.blt, I.ok.above, I.ok.inj, I.ok.has, I.ok.cab, I.ok.hd, I.ok.frames, I.ok.stk, I.ok.exf, I.ok.bs, I.ok.bsz, I.ok.noex, I.ok.exfs, I.ok.funs, I.ok.frf⟩,
    I.os, I.bare, I.base, I.loc, I.cell, I.free, I.freeC, fun p hp => I.pin p (by rw [List.append_nil] at hp; exact hp), I.hok, I.len⟩
theorem Inv.untry (I : Inv (X.tryIn pins W) pins' σ H s) : Inv X pins σ H s :=
  ⟨⟨I.ok.mod, I.ok.kind, I.ok.glob, I.ok.blt, I.ok.above, I.ok.inj, I.ok.has, I.ok.cab, I.ok.hd, I.ok.frames, I.ok.stk, I.ok.exf, I.ok.bs, I.ok.bsz, I.ok.noex, I.ok.exfs, I.ok.funs, I.ok.frf⟩,
    I.os, I.bare, I.base, I.loc, I.cell, I.free, I.freeC, fun p hp => I.pin p (List.mem_append_left _ hp), I.hok, I.len⟩
theorem Inv.suite (I : Inv X pins σ H s) (e : Addr) : Inv (X.suite pins e) [] σ H s :=
  ⟨⟨I.ok.mod, I.ok.kind, I.ok.glob, I.ok.blt, I.ok.above, I.ok.inj, I.ok.has, I.ok.cab, (fun z => nomatch z), I.ok.frames, I.ok.stk, I.ok.exf, I.ok.bs, I.ok.bsz, I.ok.noex, I.ok.exfs, I.ok.funs, I.ok.frf⟩,
    I.os, I.bare, I.base, I.loc, I.cell, I.free, I.freeC, fun p hp => I.pin p (by rw [List.append_nil] at hp; exact hp), I.hok, I.len⟩
theorem Inv.unsuite (I : Inv (X.suite pins e) pins' σ H s) (hd : X.calm = true → X.A.handled = none) : Inv X pins σ H s :=
  ⟨⟨I.ok.mod, I.ok.kind, I.ok.glob, I.ok.blt, I.ok.above, I.ok.inj, I.ok.has, I.ok.cab, hd, I.ok.frames, I.ok.stk, I.ok.exf, I.ok.bs, I.ok.bsz, I.ok.noex, I.ok.exfs, I.ok.funs, I.ok.frf⟩,
    I.os, I.bare, I.base, I.loc, I.cell, I.free, I.freeC, fun p hp => I.pin p (List.mem_append_left _ hp), I.hok, I.len⟩
theorem SP.untry {D : Ends} {f : Flow} (h : SP (X.tryIn pins W) pins' D f s') : SP X pins D f s' := by
  cases f with
  | next => obtain ⟨σ', H', I, q⟩ := h; exact ⟨σ', H', I.untry, q⟩
  | brk => obtain ⟨σ', H', I, q⟩ := h; exact ⟨σ', H', I.untry, q⟩
  | cont => obtain ⟨σ', H', I, q⟩ := h; exact ⟨σ', H', I.untry, q⟩
  | ret u => obtain ⟨v, σ', H', I, r, q⟩ := h; exact ⟨v, σ', H', I.untry, r, q⟩
theorem SP.unsuite {D : Ends} {f : Flow} (hd : X.calm = true → X.A.handled = none) (h : SP (X.suite pins e) pins' D f s') : SP X pins D f s' := by
  cases f with
  | next => obtain ⟨σ', H', I, q⟩ := h; exact ⟨σ', H', I.unsuite hd, q⟩
  | brk => obtain ⟨σ', H', I, q⟩ := h; exact ⟨σ', H', I.unsuite hd, q⟩
  | cont => obtain ⟨σ', H', I, q⟩ := h; exact ⟨σ', H', I.unsuite hd, q⟩
  | ret u => obtain ⟨v, σ', H', I, r, q⟩ := h; exact ⟨v, σ', H', I.unsuite hd, r, q⟩
/-- the exception's name goes behind the suite -/
theorem name_gone {M : Model} {A : Around} {E : Value → Shared → Prop} {i : Nat} {x : Str} {pos : Pos} {Q : Unit → Shared → Prop} (I : Inv X pins σ H s) (hN : X.N.Nodup) (hi : X.N[i]? = some x) (hk : X.env.scope.names.lookup x = some .local)
    (h : ∀ s', Inv X pins (σ.set i none) H s' → Q () s') : wpAny M A (do bindName X.env x .none; unbindBehindTheSuite X.env x pos) Q E s := by
  obtain ⟨m, hn, hl⟩ := id I.loc
  have hcls : (X.env.scope.kind == .class || (X.env.scope.kind == .module && X.env.locals != X.env.globals)) = false := by rw [I.ok.kind]; rfl
  have hiσ : i < σ.length := by rw [I.len]; exact (List.getElem?_eq_some_iff.mp hi).1
  have cne := I.cne
  refine wpAny_nameGoes_keeps hk hn hcls fun h' v hn' hs => h _ ?_
  obtain ⟨oL, _, _, hoL, _⟩ := id hn
  refine ⟨I.ok, I.os, I.bare, ⟨fun b o e n hb hx => ?_, fun b o e n hb hx => ?_, I.base.free, fun b o e hx => ?_, I.base.tups, I.base.frzs, I.base.tbls⟩, ⟨_, hn', fun j y v' e1 e2 e3 => ?_⟩, fun y c e => ?_, I.free, I.freeC, fun p hp => ?_, fun b ob e => ?_, by simpa using I.len⟩
  · exact (hs.2 b (Nat.ne_of_lt (Nat.lt_of_lt_of_le (Heap.lt_size e) I.ok.above))).trans (I.base.keep b o e n hb hx)
  · obtain ⟨sl, e1⟩ := I.base.slot b o e n hb hx
    exact ⟨sl, (hs.2 b (Nat.ne_of_lt (Nat.lt_of_lt_of_le (Heap.lt_size e) I.ok.above))).trans e1⟩
  · obtain ⟨o', e1⟩ := I.base.there b o e hx
    exact ⟨o', (hs.2 b (Nat.ne_of_lt (Nat.lt_of_lt_of_le (Heap.lt_size e) I.ok.above))).trans e1⟩
  · by_cases hj : j = i
    · subst hj
      rw [List.getElem?_set_self hiσ] at e2
      cases e2
    · rw [List.getElem?_set_ne (Ne.symm hj)] at e2
      obtain ⟨u', r', q⟩ := hl j y v' e1 e2 e3
      refine ⟨u', r', ?_⟩
      rcases q with ⟨k, e⟩ | ⟨k, c, e, z⟩
      · refine .inl ⟨k, ?_⟩
        have : y ≠ x := fun e => hj (nodup_ix hN e1 (e ▸ hi))
        simp [this, e]
      · exact .inr ⟨k, c, e, z.sameBut hs (cne y c e)⟩
  · obtain ⟨w', z⟩ := I.cell y c e
    exact ⟨w', z.sameBut hs (cne y c e)⟩
  · obtain ⟨e, n, ne, nf, d⟩ := I.pin p hp
    exact ⟨(hs.2 p.1 ne).trans e, n, ne, nf, d⟩
  · refine (I.hok b ob e).stay (fun c w' hc q => (hs.2 c ?_).trans q) (fun _ q => q) fun _ _ q => q
    rintro rfl
    rcases hc with rfl | hc
    · rw [I.free] at e; cases e
    · rw [I.free] at hc; cases hc
end
/-- a global, whatever is around -/
theorem ld_globA {X : Cx} {A : Around} {E : Value → Shared → Prop} {pins : List (Addr × Obj)} {s : Shared} {σ : St} {H : Hp} {x : Str} {u : Value} {pos : Pos} {Q : Value → Shared → Prop} (I : Inv X pins σ H s) (hg : Gl X x) (hm : X.mg x = some u) (h : Q u s)
    (hd : (x == ("__debug__" : Str)) = false := by decide) : wpAny (model X.prog X.w) A (eval (.Name x pos) X.env) Q E s :=
  Calls.Name_function_global I.ok.kind hg (Calls.loadGlobal_global (by rw [I.ok.glob]; exact I.mod.glob.keeps I.bk) hm h) hd

/-- behind a suite the exception's name is gone -/
def endsOff (i : Nat) (D : Ends) : Ends := { nx := fun σ H => D.nx (σ.set i none) H, rt := D.rt, bk := fun σ H => D.bk (σ.set i none) H, ct := fun σ H => D.ct (σ.set i none) H }
/-- what is wanted of an exception: it is of the class at C, and the suite goes on (with the name in slot i, or without) -/
def catchAs (C : Addr) (i : Nat) (ts : TS) (D : Ends) : XS := fun σ cls _ H => cls = .ref C ∧ ∀ e, H e = none → ts (endsOff i D) (σ.set i (some (.ref e))) (upd H e (ExcO (.ref C) e))
def tTryAs (C : Addr) (i : Nat) (tb : XS → TS) (ts : TS) : TS := fun D σ H => tb (catchAs C i ts D) D σ H
section
variable {X : Cx} {body suite : List Stmt} {b₀ : Stmt} {x n : Str} {C : Addr} {np hpos pos : Pos} {bmB : List Value} {newId : String} {i : Nat} {tb : XS → TS} {ts : TS}
/-- a try whose body's exceptions are all of one own class, that is caught by its name -/
theorem ps_tryAs (hs : X.stack = X.env :: X.outer) (hf : X.env.frame = some X.env.locals) (hg : Gl X x) (hm : X.mg x = some (.ref C)) (q : PySem.W.excIn X.K C bmB newId = true) (hbase : bmB.contains (.type "BaseException") = true)
    (hN : X.N.Nodup) (hi : X.N[i]? = some n) (hk : X.env.scope.names.lookup n = some .local)
    (hb : ∀ pins W E, PassesS (CX1 X.prog X.w) (X.tryIn pins W) E → PSs (X.tryIn pins W) body (tb E)) (hsu : ∀ pins e, PSs (X.suite pins e) (b₀ :: suite) ts)
    (hd : (x == ("__debug__" : Str)) = false := by decide) : PS X (.Try body [.ExceptHandler (some (.Name x np)) (some n) (b₀ :: suite) hpos] [] [] pos) (tTryAs C i tb ts) := by
  intro pins s σ H D I h
  refine wpAny_Try_except ?_
  refine wpAny_mono (hb pins (fun u s₁ => wpAny (model X.prog X.w) X.A (noteFrame u X.env) (fun _ s₂ => wpAny (model X.prog X.w) X.A (setFlight u none) (fun _ s₃ =>
    wpAny (model X.prog X.w) X.A (handleBy u X.env [.ExceptHandler (some (.Name x np)) (some n) (b₀ :: suite) hpos]) (SP X pins D) X.xe s₃) X.xe s₂) X.xe s₁) (catchAs C i ts D) ?_ [] s σ H D (I.tryIn _) h) ?_ fun _ _ z => z
  · rintro pins' σ1 H1 s1 u s' I1 ⟨e, cls, H', rfl, fl, rfl, hts⟩
    have J1 : Inv X pins σ1 H1 s1 := I1.untry
    have fl : Flies X.prog X.w X.stack H1 H' s1 s' e (.ref C) := fl
    obtain ⟨B, a0, f0, mv⟩ := fl.move
    rw [hs] at f0
    refine wpAny_looks_onW (by rw [I.ok.frames, hs]) hf f0 fun h4 held4 up4 => ?_
    refine wpAny_landsW held4 fun h5 f5 up5 => ?_
    have fl5 := mv h5 (by rw [hs]; exact f5) (up4.trans up5)
    have J5 := fl5.inv J1
    obtain ⟨ob, hob, hobc⟩ := f5.there
    refine wpAny_handleBy_cons (codeAny_handlers_test (ld_globA J5 hg hm ?_ hd)) (by intro z; cases z)
    obtain ⟨bm, Nn, nm, qn, bs, hdct, sn, sub, ab, col, dd, k0, k1, k2, k3, k5, mN, hC, hNn, hni, T⟩ := exc_at I.mod.kin q
    refine wpAny_excMatches_sub_self (J5.bk _ _ hC) hob hobc (T.hasType hbase) (codeAny_handlers_suite_as ?_)
    refine lands_againW f5 fun h6 f6 up6 => ?_
    have fl6 := mv h6 (by rw [hs]; exact f6) ((up4.trans up5).trans up6)
    have J6 := fl6.caught J1
    refine store_ok (X := X.suite pins e) (v := .ref e) (J6.suite e) hN hi (.inl hk) rfl (fun s7 J7 => ?_) (.inr hk)
    refine wpAny_mono (hsu pins e [] s7 _ _ _ J7 (hts e fl6.new.1)) (fun f s8 r8 => ?_) fun _ _ z => False.elim z
    have r9 : SP X pins (endsOff i D) f s8 := r8.unsuite I.ok.hd
    cases f with
    | next =>
      obtain ⟨σ9, H9, I9, q9⟩ := r9
      exact name_gone I9 hN hi hk fun s' J' => ⟨_, H9, J', q9⟩
    | brk =>
      obtain ⟨σ9, H9, I9, q9⟩ := r9
      exact name_gone I9 hN hi hk fun s' J' => ⟨_, H9, J', q9⟩
    | cont =>
      obtain ⟨σ9, H9, I9, q9⟩ := r9
      exact name_gone I9 hN hi hk fun s' J' => ⟨_, H9, J', q9⟩
    | ret u =>
      obtain ⟨v, σ9, H9, I9, rv, q9⟩ := r9
      exact name_gone I9 hN hi hk fun s' J' => ⟨v, _, H9, J', rv, q9⟩
  · intro f s1 r1
    have r2 : SP X pins D f s1 := r1.untry
    cases f with
    | next => exact wpAny_execs_nil r2
    | brk => exact r2
    | cont => exact r2
    | ret u => exact r2
end
end L2

set_option Elab.async false
set_option linter.all false
set_option maxRecDepth 100000
set_option maxHeartbeats 4000000
/-! isinstance, of exceptions too; «is» beside a truth; greater numbers. -/
namespace L2
open PySem PySem.Spec PyProof.Rows
/-- what the top tells of an own error class, for isinstance -/
structure ExcK (K : PySem.W.Frag) (C : Addr) : Prop where
  ga : PySem.W.findIn K (.ref C) "__getattribute__" = some (some (.builtin "BaseException.__getattribute__"))
  gt : PySem.W.findIn K (.ref C) "__getattr__" = some none
  cl : PySem.W.findIn K (.ref C) "__class__" = some (some (.builtin "object.__class__"))
  mb : PySem.W.mroIn K C (.type "BaseException") = some true
  mo : PySem.W.mroIn K C (.type "object") = some true
section
variable {prog : Program} {w : World} {A : Around} {E : Value → Shared → Prop} {K : PySem.W.Frag} {h : Heap} {g : Array GenState} {d : Drawn} {t : Nat} {os : OsState} {a C : Addr} {ob : Obj}
theorem own_class_owner : (".".intercalate ("object.__class__".cutAt '.').dropLast) = "object" := by decide +kernel
theorem exc_get {R : Result → Shared → Prop} (X : K.In h) (Z : ExcK K C) (hx : h.get? a = some ob) (hc : ob.cls = .ref C) (hq : R (.ok (.ret (.ref C))) ⟨h, g, d, t, os⟩) :
    codeAny (model prog w) A (.call (.builtin "getset_descriptor.__get__") ⟨[.builtin "object.__class__", .ref a, .ref C], []⟩) R ⟨h, g, d, t, os⟩ := by
  have k5 : (⟨h, g, d, t, os⟩ : Shared).TypeIs (.builtin "object.__class__") "getset_descriptor" := F.typeOf_object_class
  have mo : PySem.W.Looks (model prog w) h (isSubtype (.ref C) (.type (".".intercalate ("object.__class__".cutAt '.').dropLast))) true := by
    rw [own_class_owner]
    exact PySem.W.looks_mroIn X Z.mo
  refine codeAny_call_builtin F.slot_gs_get.plain F.entry_gs_get (F.slot_gs_get.check _ _ _ _ _ _ _ _ k5 (F.args_gs_get _ _ _) ?_)
  repeat (any_goals (first | assumption | (with_reducible refine wpAny_loadPart_at hx ?_; rw [hc]) | (with_reducible refine mo.at ?_) | wp_step))
  refine ⟨Code.quiet_builtin _ (by decide +kernel), codeAny_builtin F.entry_object_class ?_⟩
  repeat (any_goals (first | assumption | (with_reducible refine wpAny_loadPart_at hx ?_; rw [hc]) | wp_step))
theorem exc_entry {tk : Tok} {Q : Fin → Shared → Prop} (X : K.In h) (Z : ExcK K C) (hx : h.get? a = some ob) (hc : ob.cls = .ref C) (hq : Q (.done (.ret (.ref C))) ⟨h, g, d, t, os⟩) :
    wpAny (model prog w) A (Builtin.«object.__getattribute__» ⟨[.ref a, .str "__class__" tk], []⟩) Q E ⟨h, g, d, t, os⟩ := by
  have k5 : (⟨h, g, d, t, os⟩ : Shared).TypeIs (.builtin "object.__class__") "getset_descriptor" := F.typeOf_object_class
  have f5 := F.typeOf_object_class
  have f6 := F.slot_gs_get.lookup
  have f7 := F.slot_gs_set.lookup
  have lc := PySem.W.looks_findIn (M := model prog w) X Z.cl
  repeat (any_goals (first | assumption | (with_reducible refine wpAny_loadPart_at hx ?_; rw [hc]) | (with_reducible refine lc.at ?_) | wp_step))
  refine exc_get X Z hx hc ?_
  repeat (any_goals (first | assumption | wp_step))
theorem exc_check {M : Model} {nameV : Value} {Q : Unit → Shared → Prop} (X : K.In h) (Z : ExcK K C) (hx : h.get? a = some ob) (hc : ob.cls = .ref C) (hq : Q () ⟨h, g, d, t, os⟩) :
    wpAny M A (checkBuiltinCall "BaseException.__getattribute__" ⟨[.ref a, nameV], []⟩) Q E ⟨h, g, d, t, os⟩ := by
  have kd : builtinKind "BaseException.__getattribute__" = some .slot := by decide +kernel
  have sp : splitId "BaseException.__getattribute__" = some ("BaseException", "__getattribute__") := by decide +kernel
  have mb := PySem.W.looks_mroIn (M := M) X Z.mb
  have ar := F.args_bexc_ga (.ref a) nameV
  simp only [checkBuiltinCall, kd, sp]
  refine wpAny_bind ?_
  unfold isInstance
  repeat (first | (with_reducible refine wpAny_loadPart_at hx ?_; rw [hc]) | (with_reducible refine mb.at ?_) | wp_step)
  exact hq
theorem exc_call {tk : Tok} {R : Result → Shared → Prop} (X : K.In h) (Z : ExcK K C) (hx : h.get? a = some ob) (hc : ob.cls = .ref C) (hq : R (.ok (.ret (.ref C))) ⟨h, g, d, t, os⟩) :
    codeAny (model prog w) A (.call (.builtin "BaseException.__getattribute__") ⟨[.ref a, .str "__class__" tk], []⟩) R ⟨h, g, d, t, os⟩ :=
  codeAny_call_builtin (F.excAttr_ValueError).ga.plain F.entry_bexc_ga (exc_check X Z hx hc (exc_entry X Z hx hc hq))
theorem exc_by {tk : Tok} {fill expr : Bool} {Q : Value → Shared → Prop} (X : K.In h) (Z : ExcK K C) (hx : h.get? a = some ob) (hc : ob.cls = .ref C) (hq : Q (.ref C) ⟨h, g, d, t, os⟩) :
    wpAny (model prog w) A (getAttrBy (.ref a) (.str "__class__" tk) fill expr) Q E ⟨h, g, d, t, os⟩ := by
  have f3 := (F.excAttr_ValueError).ga.bind (.ref a)
  have y0 : (expr && onTheHeap (Value.builtin "BaseException.__getattribute__")) = false := by cases expr <;> rfl
  have y2 : (Value.builtin "BaseException.__getattribute__" == Value.builtin "object.__getattribute__") = false := by decide +kernel
  have y1 : (onTheHeap (Value.ref C) && Value.builtin "BaseException.__getattribute__" == Value.builtin "object.__getattribute__") = false := by rw [y2]; rfl
  have lg := PySem.W.looks_findIn (M := model prog w) X Z.ga
  have lt := PySem.W.looks_findIn (M := model prog w) X Z.gt
  repeat (any_goals (first | assumption | (with_reducible refine wpAny_loadPart_at hx ?_; rw [hc]) | (with_reducible refine lg.at ?_) | (with_reducible refine lt.at ?_) | wp_step))
  refine exc_call X Z hx hc ?_
  repeat (any_goals (first | assumption | wp_step))
theorem exc_attr {Q : Option Value → Shared → Prop} (X : K.In h) (Z : ExcK K C) (hx : h.get? a = some ob) (hc : ob.cls = .ref C) (hq : Q (some (.ref C)) ⟨h, g, d, t + 1, os⟩) :
    wpAny (model prog w) A (getAttr? (.ref a) "__class__") Q E ⟨h, g, d, t, os⟩ := by
  unfold getAttr? getAttrBy?
  repeat (any_goals (first | assumption | with_reducible apply exc_by X Z hx hc | wp_step))
end
section
variable {K : PySem.W.Frag} {a C : Addr}
theorem kitx_exc (Z : ExcK K C) : PySem.W.KitX K (.ref a) (.ref C) (ExcAt (.ref C) a) where
  ty := fun M h X p => by
    obtain ⟨o, vs, h1, h2, _⟩ := p
    exact h2 ▸ (PySem.W.Looks.ld h1).andThen .now
  it := fun M h X p => by
    obtain ⟨cd, hc, _⟩ := Option.bind_eq_some_iff.mp Z.mo
    unfold PySem.W.clsIn at hc
    split at hc
    · rename_i ho
      intro A' Q' E' s' k q
      unfold isType loadHead
      exact wpAny_bind (wpAny_loadPart (k _ _ (X _ _ ho)) (wpAny_pure q))
    · cases hc
  ne := fun h tp dd its n sl X htp => by
    obtain ⟨cd, hc, _⟩ := Option.bind_eq_some_iff.mp Z.mo
    refine Bool.eq_false_iff.mpr fun q => ?_
    have e : C = tp := Value.ref.inj (beq_iff_eq.mp q)
    subst e
    unfold PySem.W.clsIn at hc
    split at hc
    · rename_i ho
      have z := (X _ _ ho).symm.trans htp
      cases z
    · cases hc
  ca := fun {prog w A E Q s} X p k => by
    obtain ⟨h, g, d, t, os⟩ := s
    obtain ⟨o, vs, h1, h2, _⟩ := p
    exact exc_attr X Z h1 h2 k
end
/-- the kind of a value; of a caught exception its class -/
inductive Kd (K : PySem.W.Frag) (H : Hp) : V → Value → Prop where
  | of {x : V} {t : Value} (e : TyOf K H x t) : Kd K H x t
  | exc {a C : Addr} (Z : ExcK K C) (e : H a = some (ExcO (.ref C) a)) : Kd K H (.ref a) (.ref C)
  | sqt {a : Addr} {xs : List V} (e : SqT K H a xs) : Kd K H (.ref a) (.type "tuple")
  | sql {a : Addr} {xs : List V} (e : SqL K H a xs) : Kd K H (.ref a) (.type "list")
def isC : V → Bool
  | .ref _ => true
  | .ty _ => true
  | _ => false
def clsV : V → Value
  | .ref a => .ref a
  | .ty n => .type n
  | _ => .none
section
variable {X : Cx} {A : Around}
theorem call_isi : CallR X (.builtin "isinstance") (fun xs H Q => ∃ x c t b, xs = [x, c] ∧ isC c = true ∧ Kd X.K H x t ∧ PySem.W.kitOne X.K t (clsV c) = some b ∧ Q (.bl b) H) := by
  intro pins s σ H xs us Q I r h
  obtain ⟨x, c, t, b, rfl, ic, ty, e, q⟩ := h
  obtain ⟨u, v, rfl, rx, rc⟩ := vals2 r
  have ec : clsV c = v := by
    cases c with
    | ref a => exact Eq.symm rc
    | ty n => exact Eq.symm rc
    | _ => cases ic
  rw [ec] at e
  have fin : ∀ tk, EP X pins σ Q (.bool b) { s with toks := tk } := fun tk => ⟨.bl b, H, I.tok tk, rfl, q⟩
  cases ty with
  | of ty => exact isinst_ok I rx ty e fin
  | @exc a C Z ea =>
    cases (show u = Value.ref a from rx)
    obtain ⟨p, _, _⟩ := (show ObjOk X.prog X.w H s.heap a (ExcO (.ref C) a) from I.hok a _ ea)
    exact PySem.W.kia_one (kitx_exc Z) I.kIn p e (fun z => nomatch z) fin
  | @sqt a ys ea =>
    cases (show u = Value.ref a from rx)
    rcases ea with ea | ⟨o, its, n, h1, h2, _⟩
    · obtain ⟨_, _, _, p⟩ := (show ObjOk X.prog X.w H s.heap a (.tup ys) from ea.ok I.hok)
      obtain ⟨o, h1, h2, _⟩ := p
      exact PySem.W.kia_one PySem.W.kitx_tuple I.kIn ⟨o, h1, h2⟩ e (fun z => nomatch z) fin
    · exact PySem.W.kia_one PySem.W.kitx_tuple I.kIn ⟨o, I.kIn _ _ h1, h2⟩ e (fun z => nomatch z) fin
  | @sql a ys ea =>
    cases (show u = Value.ref a from rx)
    rcases ea with ea | ⟨o, its, n, h1, h2, _⟩
    · obtain ⟨_, _, n, _, h1⟩ := (show ObjOk X.prog X.w H s.heap a (.lst ys) from ea.ok I.hok)
      exact PySem.W.kia_one PySem.W.kitx_list I.kIn ⟨_, h1, rfl⟩ e (fun z => nomatch z) fin
    · exact PySem.W.kia_one PySem.W.kitx_list I.kIn ⟨o, I.kIn _ _ h1, h2⟩ e (fun z => nomatch z) fin
/-! ### numbers of up to a thousand bits -/
def CBig (i j : Int) : Prop := i.natAbs < 2 ^ 1000 ∧ j.natAbs < 2 ^ 1000
theorem bits_big {x : Int} (h : x.natAbs < 2 ^ 1000) : Builtin.Int.intBits x ≤ 2 ^ 20 := by
  unfold Builtin.Int.intBits
  split
  · exact Nat.zero_le _
  · rename_i z
    have n : x.natAbs ≠ 0 := by
      intro q
      exact z (by rw [Int.natAbs_eq_zero.mp q]; rfl)
    have := (Nat.log2_lt n).mpr h
    omega
theorem op_mulB : OpR X (binaryOp .Mult) (rI CBig fun i j => .int (i * j)) := opI fun _ _ _ _ _ _ _ hc q => mul_int q (.of_bits (bits_big hc.1) (bits_big hc.2))
theorem op_fdivB : OpR X (binaryOp .FloorDiv) (rI (fun _ j => j ≠ 0 ∧ j.natAbs < 2 ^ 1000) fun i j => .int (i.fdiv j)) := opI fun i j _ _ _ _ _ hc q =>
  floordiv_int hc.1 q (.inl (PyProof.noPylong_of_log2 (by
    have n : j.natAbs ≠ 0 := fun z => hc.1 (Int.natAbs_eq_zero.mp z)
    have := (Nat.log2_lt n).mpr hc.2
    omega)))
/-! ### a def as it stands, its exceptions leave it -/
theorem Fun.okX {P : Program} {w : World} {K : PySem.W.Frag} {mg : Str → Option Value} {base : Heap} {CX : CXT} {x qual : Str} {st : Stmt} {f : Addr} {fd : FuncData} {N ps : List Str} {k : Nat} {sp : Sp} (F : Fun K x qual st f fd) (S : FnScope N ps (defScope st))
    (len : ∀ vs H Q E, sp vs H Q E → vs.length = ps.length)
    (hbody : ∀ (cdv : Value) (A : Around) (outer : List Env) (s : Shared) (H : Hp) (vs : List V) (Q : VK) (E : XK), Room k (A.deeper (envOfC qual (defScope st) s.heap.objs.size f cdv)) → sp vs H Q E →
      ∃ t, PSs (cxOf CX P w K mg base N qual (defScope st) f cdv A outer s H E) (defBody st) t ∧ t { nx := fun _ H' => Q .non H', rt := Q } (start N vs) H) : FnOk P w K mg base CX (k + 1) f fd ps sp := by
  obtain ⟨oc, od, kV, doc, pm, an, cdv, ct, osl, rfl, lk, hcd⟩ := F.ex
  exact fn_of lk hcd S len fun A outer s H vs Q E hr hsp => hbody cdv A outer s H vs Q E hr hsp
end
end L2

set_option Elab.async false
set_option linter.all false
set_option maxRecDepth 100000
set_option maxHeartbeats 4000000
namespace L2
open PySem PySem.Spec PyProof.Rows
/-! ### names of Python's own; the base of own errors -/
theorem bt_int : bootBuiltins "int" = some (.type "int") := by decide +kernel
theorem bt_str : bootBuiltins "str" = some (.type "str") := by decide +kernel
theorem bt_list : bootBuiltins "list" = some (.type "list") := by decide +kernel
theorem bt_tuple : bootBuiltins "tuple" = some (.type "tuple") := by decide +kernel
theorem bt_ValueError : bootBuiltins "ValueError" = some (.type "ValueError") := by decide +kernel
theorem bt_len : bootBuiltins "len" = some (.builtin "len") := by decide +kernel
theorem bt_max : bootBuiltins "max" = some (.builtin "max") := by decide +kernel
theorem bt_isinstance : bootBuiltins "isinstance" = some (.builtin "isinstance") := by decide +kernel
abbrev EBm : List Value := [.type "ValueError", .type "Exception", .type "BaseException", .type "object"]
theorem EB : ExcBaseFacts "ValueError" "ValueError.__new__" "ValueError.__init__" EBm := PySem.F.excBase_ValueError
theorem EBb : EBm.contains (.type "BaseException") = true := by decide +kernel
/-! ### what stays -/
theorem same_upd {H : Hp} {p : Addr} {o : HO} (n : H p = none) : Same H (upd H p o) := fun b u e => by
  rw [upd_ne (ne_of_none e n)]
  exact e
theorem Same.rd {H H' : Hp} (e : Same H H') {a : Addr} {u : HO} (r : Rd H a u) : Rd H' a u := by
  rcases r with r | ⟨o, r⟩
  · exact .inl (e _ _ r)
  · exact .inr ⟨o, e _ _ r⟩
theorem Same.sqt {K : PySem.W.Frag} {H H' : Hp} {a : Addr} {xs : List V} (e : Same H H') (h : SqT K H a xs) : SqT K H' a xs := by
  rcases h with h | h
  · exact .inl (e.rd h)
  · exact .inr h
theorem Same.sql {K : PySem.W.Frag} {H H' : Hp} {a : Addr} {xs : List V} (e : Same H H') (h : SqL K H a xs) : SqL K H' a xs := by
  rcases h with h | h
  · exact .inl (e.rd h)
  · exact .inr h
theorem Same.ty {K : PySem.W.Frag} {H H' : Hp} {x : V} {t : Value} (e : Same H H') (h : TyOf K H x t) : TyOf K H' x t := by
  cases h with
  | non => exact .non
  | bl b => exact .bl b
  | int i => exact .int i
  | str y => exact .str y
  | flt y => exact .flt y
  | lst q => exact .lst (e _ _ q)
  | frz q => exact .frz (e _ _ q)
  | tup q => exact .tup (e _ _ q)
  | dK q => exact .dK (e _ _ q)
  | dT q => exact .dT (e _ _ q)
  | ins q c a n tk m => exact .ins (e _ _ q) c a n tk m
theorem Same.kd {K : PySem.W.Frag} {H H' : Hp} {x : V} {t : Value} (e : Same H H') (h : Kd K H x t) : Kd K H' x t := by
  cases h with
  | of q => exact .of (e.ty q)
  | exc Z q => exact .exc Z (e _ _ q)
  | sqt q => exact .sqt (e.sqt q)
  | sql q => exact .sql (e.sql q)
/-- isinstance(x, C) -/
def tIsi (K : PySem.W.Frag) (t : TA) : TE := fun σ H Q => t σ H fun xs H1 => ∃ x c ty b, xs = [x, c] ∧ isC c = true ∧ Kd K H1 x ty ∧ PySem.W.kitOne K ty (clsV c) = some b ∧ Q (.bl b) H1
theorem pe_isi {X : Cx} (K : PySem.W.Frag) {p pos : Pos} {e : Expr} {es : List Expr} {t : TA} (hg : Gl X "isinstance") (hm : X.mg "isinstance" = none) (ha : PA X (e :: es) t) (hK : X.K = K := by rfl)
    (he : starEach (e :: es) X.env = (false, eval e X.env) :: starEach es X.env := by rfl) (hpl : (backTo pos (starEach es X.env)).any (·.1) = false := by rfl) : PE X (.Call (.Name "isinstance" p) (e :: es) [] pos) (tIsi K t) := by
  subst hK
  exact pe_callB (call_isi (X := X)) hg hm bt_isinstance ha (by decide) (by decide) he hpl
/-! ### == of two lists or tuples of flat values -/
end L2

set_option Elab.async false
set_option linter.all false
set_option maxRecDepth 100000
set_option maxHeartbeats 4000000
/-! Values as plain data: texts, numbers, truths, None, tuples and lists of these, however deep; == of them. -/
namespace L2
open PySem PySem.Spec PyProof.Rows
inductive D where
  | non | bl (b : Bool) | int (i : Int) | str (x : Str) | tup (ds : List D) | lst (ds : List D)
mutual
/-- v is the datum d -/
def Is (K : PySem.W.Frag) (H : Hp) : D → V → Prop
  | .non, v => v = .non
  | .bl b, v => v = .bl b
  | .int i, v => v = .int i
  | .str x, v => v = .str x
  | .tup ds, v => ∃ a xs, v = .ref a ∧ SqT K H a xs ∧ IsL K H ds xs
  | .lst ds, v => ∃ a xs, v = .ref a ∧ SqL K H a xs ∧ IsL K H ds xs
def IsL (K : PySem.W.Frag) (H : Hp) : List D → List V → Prop
  | [], xs => xs = []
  | d :: ds, xs => ∃ x r, xs = x :: r ∧ Is K H d x ∧ IsL K H ds r
end
mutual
def deq : D → D → Bool
  | .non, .non => true
  | .bl a, .bl b => a == b
  | .bl a, .int b => (if a then 1 else 0) == b
  | .int a, .bl b => a == (if b then 1 else 0)
  | .int a, .int b => a == b
  | .str a, .str b => a == b
  | .tup a, .tup b => deqL a b
  | .lst a, .lst b => deqL a b
  | _, _ => false
def deqL : List D → List D → Bool
  | [], [] => true
  | x :: xs, y :: ys => deq x y && deqL xs ys
  | _, _ => false
end
mutual
def dep : D → Nat
  | .tup ds => depL ds + 1
  | .lst ds => depL ds + 1
  | _ => 0
def depL : List D → Nat
  | [] => 0
  | d :: ds => max (dep d) (depL ds)
end
section
variable {K : PySem.W.Frag} {H H' : Hp}
mutual
theorem Same.is (e : Same H H') : ∀ (d : D) {v : V}, Is K H d v → Is K H' d v
  | .non, v, h => h
  | .bl b, v, h => h
  | .int i, v, h => h
  | .str x, v, h => h
  | .tup ds, v, h => by
    obtain ⟨a, xs, rfl, q, r⟩ := h
    exact ⟨a, xs, rfl, e.sqt q, Same.isL e ds r⟩
  | .lst ds, v, h => by
    obtain ⟨a, xs, rfl, q, r⟩ := h
    exact ⟨a, xs, rfl, e.sql q, Same.isL e ds r⟩
theorem Same.isL (e : Same H H') : ∀ (ds : List D) {xs : List V}, IsL K H ds xs → IsL K H' ds xs
  | [], xs, h => h
  | d :: ds, xs, h => by
    obtain ⟨x, r, rfl, h1, h2⟩ := h
    exact ⟨x, r, rfl, Same.is e d h1, Same.isL e ds h2⟩
end
theorem IsL.length : ∀ {ds : List D} {xs : List V}, IsL K H ds xs → xs.length = ds.length
  | [], xs, h => by cases (show xs = [] from h); rfl
  | d :: ds, xs, h => by
    obtain ⟨x, r, rfl, _, h2⟩ := h
    rw [List.length_cons, List.length_cons, IsL.length h2]
end
section
variable {X : Cx} {pins : List (Addr × Obj)} {σ : St} {H : Hp} {s : Shared}
theorem Inv.isList (I : Inv X pins σ H s) {a : Addr} {xs : List V} (h : SqL X.K H a xs) : ∃ its : List Value, Vals xs its ∧ s.heap.IsList a its.toArray := by
  rcases h with h | ⟨o, its, n, h1, h2, _, h3, _, r⟩
  · obtain ⟨_, its, n, r, e⟩ := (show ObjOk X.prog X.w H s.heap a (.lst xs) from h.ok I.hok)
    exact ⟨its, r, _, e, rfl, n, rfl⟩
  · exact ⟨its.toList, r, o, I.kIn _ _ h1, h2, n, by simpa using h3⟩
theorem Inv.isTup (I : Inv X pins σ H s) {a : Addr} {xs : List V} (h : SqT X.K H a xs) : ∃ its : List Value, Vals xs its ∧ s.heap.IsTuple a its.toArray := by
  rcases h with h | ⟨o, its, n, h1, h2, h3, _, r⟩
  · obtain ⟨_, its, r, e⟩ := (show ObjOk X.prog X.w H s.heap a (.tup xs) from h.ok I.hok)
    exact ⟨its, r, e⟩
  · exact ⟨its.toList, r, o, I.kIn _ _ h1, h2, n, by simpa using h3⟩
theorem deqL_lengths : ∀ {ds ds' : List D}, ds.length ≠ ds'.length → deqL ds ds' = false
  | [], [], h => absurd rfl h
  | [], _ :: _, _ => rfl
  | _ :: _, [], _ => rfl
  | d :: ds, d' :: ds', h => by
    unfold deqL
    rw [deqL_lengths (ds := ds) (ds' := ds') fun z => h (by rw [List.length_cons, List.length_cons, z]), Bool.and_false]
/-- the items' answers -/
def eqItem (ds ds' : List D) (j : Nat) : Bool := deq (ds.getD j .non) (ds'.getD j .non)
theorem eqItems : ∀ {ds ds' : List D}, ds.length = ds'.length → (List.range ds.length).all (eqItem ds ds') = deqL ds ds'
  | [], [], _ => rfl
  | [], _ :: _, h => by cases h
  | _ :: _, [], h => by cases h
  | d :: ds, d' :: ds', h => by
    have h' : ds.length = ds'.length := by simpa using h
    rw [List.length_cons, List.range_succ_eq_map, List.all_cons, List.all_map]
    unfold deqL
    rw [← eqItems h']
    rfl
theorem Inv.tup_fun (I : Inv X pins σ H s) {a : Addr} {xs ys : List V} (h : SqT X.K H a xs) (h' : SqT X.K H a ys) : xs = ys := by
  obtain ⟨us, r, o, e, _, n, d⟩ := I.isTup h
  obtain ⟨us', r', o', e', _, n', d'⟩ := I.isTup h'
  rw [e] at e'
  cases e'
  rw [d] at d'
  injection d' with d1 _
  have z : us = us' := by simpa using d1
  subst z
  exact r.inj r'
theorem Inv.lst_fun (I : Inv X pins σ H s) {a : Addr} {xs ys : List V} (h : SqL X.K H a xs) (h' : SqL X.K H a ys) : xs = ys := by
  obtain ⟨us, r, o, e, _, n, d⟩ := I.isList h
  obtain ⟨us', r', o', e', _, n', d'⟩ := I.isList h'
  rw [e] at e'
  cases e'
  rw [d] at d'
  injection d' with d1 _
  have z : us = us' := by simpa using d1
  subst z
  exact r.inj r'
theorem Inv.tup_lst (I : Inv X pins σ H s) {a : Addr} {xs ys : List V} (h : SqT X.K H a xs) (h' : SqL X.K H a ys) : False := by
  obtain ⟨us, r, o, e, c, _⟩ := I.isTup h
  obtain ⟨us', r', o', e', c', _⟩ := I.isList h'
  rw [e] at e'
  cases e'
  rw [c] at c'
  exact absurd (Value.type.inj c') (by decide)
mutual
theorem is_fun (I : Inv X pins σ H s) : ∀ (d d' : D) {v : V}, Is X.K H d v → Is X.K H d' v → d = d'
  | .non, d', v, h, h' => by
    cases (show v = .non from h)
    cases d' <;> first | rfl | (obtain ⟨_, _, z, _⟩ := h'; cases z; done) | cases h'
  | .bl c, d', v, h, h' => by
    cases (show v = .bl c from h)
    cases d' <;> first | rfl | (obtain ⟨_, _, z, _⟩ := h'; cases z; done) | (cases h'; done) | (cases h'; rfl)
  | .int c, d', v, h, h' => by
    cases (show v = .int c from h)
    cases d' <;> first | rfl | (obtain ⟨_, _, z, _⟩ := h'; cases z; done) | (cases h'; done) | (cases h'; rfl)
  | .str c, d', v, h, h' => by
    cases (show v = .str c from h)
    cases d' <;> first | rfl | (obtain ⟨_, _, z, _⟩ := h'; cases z; done) | (cases h'; done) | (cases h'; rfl)
  | .tup ds, d', v, h, h' => by
    obtain ⟨a, xs, rfl, q, hl⟩ := h
    cases d' with
    | tup ds' =>
      obtain ⟨a', xs', e, q', hl'⟩ := h'
      cases e
      rw [I.tup_fun q q'] at hl
      rw [isL_fun I ds ds' hl hl']
    | lst ds' =>
      obtain ⟨a', xs', e, q', hl'⟩ := h'
      cases e
      exact (I.tup_lst q q').elim
    | _ => cases h'
  | .lst ds, d', v, h, h' => by
    obtain ⟨a, xs, rfl, q, hl⟩ := h
    cases d' with
    | lst ds' =>
      obtain ⟨a', xs', e, q', hl'⟩ := h'
      cases e
      rw [I.lst_fun q q'] at hl
      rw [isL_fun I ds ds' hl hl']
    | tup ds' =>
      obtain ⟨a', xs', e, q', hl'⟩ := h'
      cases e
      exact (I.tup_lst q' q).elim
    | _ => cases h'
theorem isL_fun (I : Inv X pins σ H s) : ∀ (ds ds' : List D) {xs : List V}, IsL X.K H ds xs → IsL X.K H ds' xs → ds = ds'
  | [], ds', xs, h, h' => by
    cases (show xs = [] from h)
    cases ds' with
    | nil => rfl
    | cons d r => obtain ⟨_, _, z, _⟩ := h'; cases z
  | d :: ds, ds', xs, h, h' => by
    obtain ⟨x, r, rfl, h1, h2⟩ := h
    cases ds' with
    | nil => cases h'
    | cons d' ds' =>
      obtain ⟨x', r', e, h1', h2'⟩ := h'
      cases e
      rw [is_fun I d d' h1 h1', isL_fun I ds ds' h2 h2']
end
mutual
theorem deq_refl : ∀ d : D, deq d d = true
  | .non => rfl
  | .bl b => by simp [deq]
  | .int i => by simp [deq]
  | .str x => by simp [deq]
  | .tup ds => by simp only [deq]; exact deqL_refl ds
  | .lst ds => by simp only [deq]; exact deqL_refl ds
theorem deqL_refl : ∀ ds : List D, deqL ds ds = true
  | [] => rfl
  | d :: ds => by simp only [deqL, deq_refl d, deqL_refl ds, Bool.and_self]
end
theorem getD_of {α : Type} {l : List α} {i : Nat} {x y : α} (h : l[i]? = some x) : l.getD i y = x := by simp [List.getD, h]
/-- two tuples, two lists, when their items are known -/
theorem eq_tups {ds ds' : List D} {xs xs' : List V} {us us' : List Value} {a a' : Addr} {A : Around} (I : Inv X pins σ H s) (hl : IsL X.K H ds xs) (hl' : IsL X.K H ds' xs') (rv : Vals xs us) (rv' : Vals xs' us')
    (z : s.heap.IsTuple a us.toArray) (z' : s.heap.IsTuple a' us'.toArray) (hu : A.units < cLine)
    (it : ∀ (j : Nat) (d d' : D) (u u' : Value), ds[j]? = some d → ds'[j]? = some d' → us[j]? = some u → us'[j]? = some u' → SeqAt.EqAt A.in1 s u u' (deq d d')) : SeqAt.RcAt A s (.ref a) (.ref a') (deqL ds ds') := by
  have e1 : us.length = ds.length := by rw [← rv.length, hl.length]
  have e2 : us'.length = ds'.length := by rw [← rv'.length, hl'.length]
  have g := SeqAt.RcAt.tuples (e := eqItem ds ds') z z' hu fun j h1 h2 => by
    have g1 : j < ds.length := by rw [← e1]; simpa using h1
    have g2 : j < ds'.length := by rw [← e2]; simpa using h2
    have k1 : ds[j]? = some ds[j] := List.getElem?_eq_getElem g1
    have k2 : ds'[j]? = some ds'[j] := List.getElem?_eq_getElem g2
    unfold eqItem
    rw [getD_of k1, getD_of k2]
    exact it j _ _ _ _ k1 k2 (by simp) (by simp)
  have en : ((List.range (min us.toArray.size us'.toArray.size)).all (eqItem ds ds') && us.toArray.size == us'.toArray.size) = deqL ds ds' := by
    simp only [List.size_toArray, e1, e2]
    by_cases q : ds.length = ds'.length
    · rw [← q, Nat.min_self, eqItems q, beq_self_eq_true, Bool.and_true]
    · rw [deqL_lengths q, (beq_eq_false_iff_ne.mpr q), Bool.and_false]
  rw [en] at g
  exact g
theorem eq_lsts {ds ds' : List D} {xs xs' : List V} {us us' : List Value} {a a' : Addr} {A : Around} (I : Inv X pins σ H s) (hl : IsL X.K H ds xs) (hl' : IsL X.K H ds' xs') (rv : Vals xs us) (rv' : Vals xs' us')
    (z : s.heap.IsList a us.toArray) (z' : s.heap.IsList a' us'.toArray) (hu : A.units < cLine)
    (it : ∀ (j : Nat) (d d' : D) (u u' : Value), ds[j]? = some d → ds'[j]? = some d' → us[j]? = some u → us'[j]? = some u' → SeqAt.EqAt A.in1 s u u' (deq d d')) : SeqAt.RcAt A s (.ref a) (.ref a') (deqL ds ds') := by
  have e1 : us.length = ds.length := by rw [← rv.length, hl.length]
  have e2 : us'.length = ds'.length := by rw [← rv'.length, hl'.length]
  by_cases q : ds.length = ds'.length
  · have g := SeqAt.RcAt.lists (e := eqItem ds ds') z z' (by simp only [List.size_toArray, e1, e2, q]) hu fun j h1 h2 => by
      have g1 : j < ds.length := by rw [← e1]; simpa using h1
      have g2 : j < ds'.length := by rw [← e2]; simpa using h2
      have k1 : ds[j]? = some ds[j] := List.getElem?_eq_getElem g1
      have k2 : ds'[j]? = some ds'[j] := List.getElem?_eq_getElem g2
      unfold eqItem
      rw [getD_of k1, getD_of k2]
      exact it j _ _ _ _ k1 k2 (by simp) (by simp)
    rw [show us.toArray.size = ds.length by simp [e1], eqItems q] at g
    exact g
  · rw [deqL_lengths q]
    exact SeqAt.RcAt.lists_lengths z z' (by simp only [List.size_toArray, e1, e2]; exact bne_iff_ne.mpr q) hu
mutual
theorem eqD (I : Inv X pins σ H s) : ∀ (d d' : D) {v v' : V} {u u' : Value} {A : Around}, Is X.K H d v → Is X.K H d' v' → RelV v u → RelV v' u' → A.units + dep d < cLine → SeqAt.EqAt A s u u' (deq d d')
  | .non, d', v, v', u, u', A, h, h', r, r', hu => by
    cases (show v = .non from h); cases (show u = Value.none from r)
    cases d' with
    | non => cases (show v' = .non from h'); cases (show u' = Value.none from r'); exact SeqAt.EqAt.same _
    | bl b => cases (show v' = .bl b from h'); cases (show u' = Value.bool b from r'); exact SeqAt.EqAt.none_bool b
    | int b => cases (show v' = .int b from h'); obtain ⟨t, rfl⟩ := r'; exact SeqAt.EqAt.none_int b t
    | str b => cases (show v' = .str b from h'); obtain ⟨t, rfl⟩ := r'; exact SeqAt.EqAt.none_str b t
    | tup b => obtain ⟨a, xs, rfl, q, _⟩ := h'; cases r'; obtain ⟨its, _, z⟩ := I.isTup q; exact SeqAt.EqAt.none_tuple z (by simpa [dep] using hu)
    | lst b => obtain ⟨a, xs, rfl, q, _⟩ := h'; cases r'; obtain ⟨its, _, z⟩ := I.isList q; exact SeqAt.EqAt.none_list z (by simpa [dep] using hu)
  | .bl c, d', v, v', u, u', A, h, h', r, r', hu => by
    cases (show v = .bl c from h); cases (show u = Value.bool c from r)
    cases d' with
    | non => cases (show v' = .non from h'); cases (show u' = Value.none from r'); exact SeqAt.EqAt.bool_none c
    | bl b => cases (show v' = .bl b from h'); cases (show u' = Value.bool b from r'); exact SeqAt.EqAt.bool_bool c b
    | int b => cases (show v' = .int b from h'); obtain ⟨t, rfl⟩ := r'; exact SeqAt.EqAt.bool_int c b t
    | str b => cases (show v' = .str b from h'); obtain ⟨t, rfl⟩ := r'; exact SeqAt.EqAt.bool_str c b t
    | tup b => obtain ⟨a, xs, rfl, q, _⟩ := h'; cases r'; obtain ⟨its, _, z⟩ := I.isTup q; exact SeqAt.EqAt.bool_tuple c z (by simpa [dep] using hu)
    | lst b => obtain ⟨a, xs, rfl, q, _⟩ := h'; cases r'; obtain ⟨its, _, z⟩ := I.isList q; exact SeqAt.EqAt.bool_list c z (by simpa [dep] using hu)
  | .int c, d', v, v', u, u', A, h, h', r, r', hu => by
    cases (show v = .int c from h); obtain ⟨t0, rfl⟩ := r
    cases d' with
    | non => cases (show v' = .non from h'); cases (show u' = Value.none from r'); exact SeqAt.EqAt.int_none c t0
    | bl b => cases (show v' = .bl b from h'); cases (show u' = Value.bool b from r'); exact SeqAt.EqAt.int_bool c t0 b
    | int b => cases (show v' = .int b from h'); obtain ⟨t, rfl⟩ := r'; exact SeqAt.EqAt.int_int c t0 b t
    | str b => cases (show v' = .str b from h'); obtain ⟨t, rfl⟩ := r'; exact SeqAt.EqAt.int_str c t0 b t
    | tup b => obtain ⟨a, xs, rfl, q, _⟩ := h'; cases r'; obtain ⟨its, _, z⟩ := I.isTup q; exact SeqAt.EqAt.int_tuple c t0 z (by simpa [dep] using hu)
    | lst b => obtain ⟨a, xs, rfl, q, _⟩ := h'; cases r'; obtain ⟨its, _, z⟩ := I.isList q; exact SeqAt.EqAt.int_list c t0 z (by simpa [dep] using hu)
  | .str c, d', v, v', u, u', A, h, h', r, r', hu => by
    cases (show v = .str c from h); obtain ⟨t0, rfl⟩ := r
    cases d' with
    | non => cases (show v' = .non from h'); cases (show u' = Value.none from r'); exact SeqAt.EqAt.str_none c t0
    | bl b => cases (show v' = .bl b from h'); cases (show u' = Value.bool b from r'); exact SeqAt.EqAt.str_bool c t0 b
    | int b => cases (show v' = .int b from h'); obtain ⟨t, rfl⟩ := r'; exact SeqAt.EqAt.str_int c t0 b t
    | str b => cases (show v' = .str b from h'); obtain ⟨t, rfl⟩ := r'; exact SeqAt.EqAt.str_str c t0 b t
    | tup b => obtain ⟨a, xs, rfl, q, _⟩ := h'; cases r'; obtain ⟨its, _, z⟩ := I.isTup q; exact SeqAt.EqAt.str_tuple c t0 z (by simpa [dep] using hu)
    | lst b => obtain ⟨a, xs, rfl, q, _⟩ := h'; cases r'; obtain ⟨its, _, z⟩ := I.isList q; exact SeqAt.EqAt.str_list c t0 z (by simpa [dep] using hu)
  | .tup ds, d', v, v', u, u', A, h, h', r, r', hu => by
    obtain ⟨a, xs, rfl, q, hl⟩ := h
    cases (show u = Value.ref a from r)
    obtain ⟨its, rv, z⟩ := I.isTup q
    have hu0 : A.units < cLine := by omega
    cases d' with
    | non => cases (show v' = .non from h'); cases (show u' = Value.none from r'); exact SeqAt.EqAt.tuple_none z hu0
    | bl b => cases (show v' = .bl b from h'); cases (show u' = Value.bool b from r'); exact SeqAt.EqAt.tuple_bool b z hu0
    | int b => cases (show v' = .int b from h'); obtain ⟨t, rfl⟩ := r'; exact SeqAt.EqAt.tuple_int b t z hu0
    | str b => cases (show v' = .str b from h'); obtain ⟨t, rfl⟩ := r'; exact SeqAt.EqAt.tuple_str b t z hu0
    | lst b => obtain ⟨a2, xs2, rfl, q2, _⟩ := h'; cases r'; obtain ⟨its2, _, z2⟩ := I.isList q2; exact SeqAt.EqAt.tuple_list z z2 hu0
    | tup ds' =>
      obtain ⟨a2, xs2, rfl, q2, hl2⟩ := h'
      cases (show u' = Value.ref a2 from r')
      obtain ⟨its2, rv2, z2⟩ := I.isTup q2
      have hu1 : A.units + (depL ds + 1) < cLine := hu
      show SeqAt.EqAt A s _ _ (deqL ds ds')
      by_cases ne : a = a2
      · subst ne
        rw [I.tup_fun q q2] at hl
        rw [isL_fun I ds ds' hl hl2, deqL_refl]
        exact SeqAt.EqAt.same _
      · exact .of_refs ne (eq_tups I hl hl2 rv rv2 z z2 hu0 (eqL I ds ds' (A := A.in1) hl hl2 rv rv2 (by show A.units + 1 + depL ds < cLine; omega)))
  | .lst ds, d', v, v', u, u', A, h, h', r, r', hu => by
    obtain ⟨a, xs, rfl, q, hl⟩ := h
    cases (show u = Value.ref a from r)
    obtain ⟨its, rv, z⟩ := I.isList q
    have hu0 : A.units < cLine := by omega
    cases d' with
    | non => cases (show v' = .non from h'); cases (show u' = Value.none from r'); exact SeqAt.EqAt.list_none z hu0
    | bl b => cases (show v' = .bl b from h'); cases (show u' = Value.bool b from r'); exact SeqAt.EqAt.list_bool b z hu0
    | int b => cases (show v' = .int b from h'); obtain ⟨t, rfl⟩ := r'; exact SeqAt.EqAt.list_int b t z hu0
    | str b => cases (show v' = .str b from h'); obtain ⟨t, rfl⟩ := r'; exact SeqAt.EqAt.list_str b t z hu0
    | tup b => obtain ⟨a2, xs2, rfl, q2, _⟩ := h'; cases r'; obtain ⟨its2, _, z2⟩ := I.isTup q2; exact SeqAt.EqAt.list_tuple z z2 hu0
    | lst ds' =>
      obtain ⟨a2, xs2, rfl, q2, hl2⟩ := h'
      cases (show u' = Value.ref a2 from r')
      obtain ⟨its2, rv2, z2⟩ := I.isList q2
      have hu1 : A.units + (depL ds + 1) < cLine := hu
      show SeqAt.EqAt A s _ _ (deqL ds ds')
      by_cases ne : a = a2
      · subst ne
        rw [I.lst_fun q q2] at hl
        rw [isL_fun I ds ds' hl hl2, deqL_refl]
        exact SeqAt.EqAt.same _
      · exact .of_refs ne (eq_lsts I hl hl2 rv rv2 z z2 hu0 (eqL I ds ds' (A := A.in1) hl hl2 rv rv2 (by show A.units + 1 + depL ds < cLine; omega)))
theorem eqL (I : Inv X pins σ H s) : ∀ (ds ds' : List D) {xs xs' : List V} {us us' : List Value} {A : Around}, IsL X.K H ds xs → IsL X.K H ds' xs' → Vals xs us → Vals xs' us' → A.units + depL ds < cLine →
    ∀ (j : Nat) (d d' : D) (u u' : Value), ds[j]? = some d → ds'[j]? = some d' → us[j]? = some u → us'[j]? = some u' → SeqAt.EqAt A s u u' (deq d d')
  | [], _, _, _, _, _, _, _, _, _, _, _, j, d, d', u, u', e, _, _, _ => by simp at e
  | d0 :: ds, ds', xs, xs', us, us', A, hl, hl', rv, rv', hu, j, d, d', u, u', e1, e2, e3, e4 => by
    obtain ⟨x, r, rfl, h1, h2⟩ := hl
    cases ds' with
    | nil => simp at e2
    | cons d0' ds' =>
      obtain ⟨x', r', rfl, h1', h2'⟩ := hl'
      cases rv with
      | cons ra rb =>
        cases rv' with
        | cons ra' rb' =>
          have hu1 : A.units + max (dep d0) (depL ds) < cLine := hu
          cases j with
          | zero =>
            simp only [List.getElem?_cons_zero, Option.some.injEq] at e1 e2 e3 e4
            subst e1 e2 e3 e4
            exact eqD I _ _ h1 h1' ra ra' (by omega)
          | succ j =>
            simp only [List.getElem?_cons_succ] at e1 e2 e3 e4
            exact eqL I ds ds' h2 h2' rb rb' (by omega) j d d' u u' e1 e2 e3 e4
end
end
end L2

set_option Elab.async false
set_option linter.all false
set_option maxRecDepth 100000
set_option maxHeartbeats 4000000
namespace L2
open PySem PySem.Spec PyProof.Rows
section
variable {X : Cx} {pins : List (Addr × Obj)} {σ : St} {H : Hp} {s : Shared}
end
end L2

set_option Elab.async false
set_option linter.all false
set_option maxRecDepth 100000
set_option maxHeartbeats 4000000
/-! A list comprehension with one for and at most one if. -/
namespace L2
open PySem PySem.Spec PyProof.Rows
section
variable {prog : Program} {w : World} {A : Around} {R : Result → Shared → Prop} {s : Shared}
/-- the turns of a comprehension in which nothing is raised -/
theorem compLoop_any {elt target iter : Expr} {ifs : List Expr} {scope : Scope} {pos : Pos} {it acc : Value} {env : Env} (J : Nat → Shared → Prop)
    (turn : ∀ n s, J n s → wpAny (model prog w) A (pyNext it) (fun r s1 => match r with
      | none => R (.ok .next) s1
      | some v => wpAny (model prog w) A (letOwnedTupleGo target it v) (fun _ s2 => wpAny (model prog w) A (assign target env v) (fun _ s3 =>
          wpAny (model prog w) A (forIn ifs true fun c r => if r = true then do let ok ← isTrue c env (eval c env); pure (ForInStep.yield ok) else pure (ForInStep.yield r)) (fun ok s4 =>
            if ok = true then wpAny (model prog w) A (eval elt env) (fun x s5 => wpAny (model prog w) A (call (.builtin "list.append") [acc, x]) (fun _ s6 => ∃ m, m < n ∧ J m s6) (fun _ _ => False) s5) (fun _ _ => False) s4
            else ∃ m, m < n ∧ J m s4) (fun _ _ => False) s3) (fun _ _ => False) s2) (fun _ _ => False) s1) (fun _ _ => False) s)
    (n : Nat) (h : J n s) : codeAny (model prog w) A (.compLoop (.ListComp elt [⟨target, iter, ifs, 0⟩] scope pos) 0 it acc env) R s := by
  refine codeAny_loop rfl J (fun n s hJ => ?_) n h
  show wpAny _ A ((compTurn (.ListComp elt [⟨target, iter, ifs, 0⟩] scope pos) 0 it acc env).onRaise (fun x => do noteFrame x env; theTreesLotGoes x)) _ _ s
  refine wpAny_noted ?_
  rw [compTurn_list]
  refine wpAny_bind (wpAny_standAt (wpAny_bind (wpAny_mono (turn n s hJ) (fun r s1 h1 => ?_) fun _ _ z => z.elim)))
  cases r with
  | none => exact wpAny_pure h1
  | some v =>
    refine wpAny_bind (wpAny_mono h1 (fun _ s2 h2 => wpAny_bind (wpAny_mono h2 (fun _ s3 h3 => wpAny_bind (wpAny_mono h3 (fun ok s4 h4 => ?_) fun _ _ z => z.elim)) fun _ _ z => z.elim)) fun _ _ z => z.elim)
    cases ok with
    | false => exact wpAny_pure ⟨rfl, h4⟩
    | true => exact wpAny_bind (wpAny_bind (wpAny_mono h4 (fun x s5 h5 => wpAny_bind (wpAny_mono h5 (fun _ s6 h6 => wpAny_pure (wpAny_pure ⟨rfl, h6⟩)) fun _ _ z => z.elim)) fun _ _ z => z.elim))
end
/-- the tests of a clause: none, or one -/
def PTs (X : Cx) (ifs : List Expr) (t : TT) : Prop :=
  ∀ (pins : List (Addr × Obj)) (s : Shared) (σ : St) (H : Hp) (Q : Bool → Hp → Prop), Inv X pins σ H s → t σ H Q →
    wpAny (model X.prog X.w) X.A (forIn ifs true fun c r => if r = true then do let ok ← isTrue c X.env (eval c X.env); pure (ForInStep.yield ok) else pure (ForInStep.yield r)) (TP X pins σ Q) X.xe s
def tYes : TT := fun _ H Q => Q true H
theorem pts_nil {X : Cx} : PTs X [] tYes := fun _ _ _ H _ I h => wpAny_tests_nil ⟨H, I, h⟩
/-- the block of a comprehension: its own names, the cells that it reads, its iterator's records -/
abbrev Cx.block (X : Cx) (N : List Str) (sc : Scope) (cl : List (Str × Addr)) (fp : List Addr) (s3 : Shared) (H3 : Hp) : Cx :=
  { X with N := N, s₀ := s3, H₀ := H3, env := compEnvC sc cl s3.heap.objs.size X.env, outer := X.stack, ex := fp, fn := fun _ => false, pn := [], xe := fun _ _ => False }
/-- what is asked of a comprehension's scope -/
structure CompSc (X : Cx) (N : List Str) (sc : Scope) (cl : List (Str × Addr)) (σc : St → St) : Prop where
  kind : sc.kind = .function
  names : ∀ x ∈ sc.names, x.2 = .local → sc.names.lookup x.1 = some .local
  nocell : ∀ y ∈ sc.names, y.2 ≠ .cell
  clos : closureFor sc X.env = pure cl
  sub : ∀ x c, cl.lookup x = some c → X.env.cells.lookup x = some c
  has : ∀ x, ((relabel sc X.env).names.lookup x = some .cell ∨ (relabel sc X.env).names.lookup x = some .free) → ∃ c, cl.lookup x = some c
  len : ∀ σ : St, (σc σ).length = N.length
  cap : ∀ (σ : St) (i : Nat) (x : Str) (v : V), N[i]? = some x → (σc σ)[i]? = some (some v) → ((relabel sc X.env).names.lookup x = some .cell ∨ (relabel sc X.env).names.lookup x = some .free) ∧ (X.env.scope.names.lookup x = some .cell ∨ X.env.scope.names.lookup x = some .free) ∧ ∃ j : Nat, X.N[j]? = some x ∧ σ[j]? = some (some v)
/-- the turns of a comprehension, D its list -/
def compR (J : It) (σ0 : St) (g : TG) (tt : TT) (te : TE) (Q : VK) (H1 : Hp) : Prop := ∀ D, H1 D = none →
  ∃ W : Nat → Nat → St → List V → Hp → Prop, (∃ m, W 0 m σ0 [] (upd H1 D (.lst []))) ∧ ∀ i m σ1 ys H2, W i m σ1 ys H2 → H2 D = some (.lst ys) ∧
    ((J.stop i H2 ∧ Q (.ref D) H2) ∨ (J.go i H2 ∧ ∃ N : St → List V → Hp → Prop, (∀ σ2 ys2 H3, N σ2 ys2 H3 → ∃ m', m' < m ∧ W (i + 1) m' σ2 ys2 H3) ∧
      ∀ x H3, J.yld i H2 x H3 → g x σ1 H3 fun σ2 H4 => tt σ2 H4 fun c H5 => if c = true then te σ2 H5 fun y H6 => H6 D = some (.lst ys) ∧ ys.length < sizeLine ∧ N σ2 (ys ++ [y]) (upd H6 D (.lst (ys ++ [y]))) else N σ2 ys H5))
def tComp (wi : TI) (σc : St → St) (g : TG) (tt : TT) (te : TE) : TE := fun σ H Q => wi σ H fun J H1 => compR J (σc σ) g tt te Q H1
section
variable {X : Cx} {pins : List (Addr × Obj)} {σ : St} {H : Hp} {s : Shared} {N : List Str} {sc : Scope} {cl : List (Str × Addr)} {σc : St → St} {fp : List Addr}
/-- the block begins -/
theorem Inv.block (I : Inv X pins σ H s) (S : CompSc X N sc cl σc) (hf : ∀ b ∈ fp, FpOk X pins H b) (hlt : ∀ b ∈ fp, b < s.heap.objs.size) {h' : Heap} {t' : Nat} (k : ∀ b u, s.heap.get? b = some u → h'.get? b = some u) (hn : h'.Ns s.heap.objs.size fun _ => none) :
    Inv (X.block N sc cl fp s H) [] (σc σ) H { s with heap := h', toks := t' } := by
  have kin : ∀ x, (X.block N sc cl fp s H).env.kindOf x = (relabel sc X.env).names.lookup x := fun _ => rfl
  refine ⟨⟨I.ok.mod, S.kind, I.ok.glob, I.ok.blt, Nat.le_refl _, fun x y c h1 h2 => I.ok.inj x y c (S.sub x c h1) (S.sub y c h2), fun x hx => S.has x hx, fun x c z _ => (nomatch z), I.ok.hd, I.ok.frames, .inl rfl, fun b hb => ⟨Nat.ne_of_lt (hlt b hb), fun x c e => (hf b hb).2.2.2.2.1 x c (S.sub x c e)⟩,
    I.bs, Nat.le_trans I.ok.bsz I.sz, fun b o e hb => ?_, fun b hb z => ?_, I.stack, I.stkFree⟩,
    rfl, I.bare, Un.kept k, ⟨_, hn, fun i x v e1 e2 e3 => ?_⟩, fun x c e => ?_, I.hok.fresh (Nat.le_refl _), fun x c e => I.freeC x c (S.sub x c e), fun p hp => absurd (show p ∈ ([] : List (Addr × Obj)) from hp) (by simp), I.hok.kept k, S.len σ⟩
  · rcases (hf b hb).2.2.2.1 with z | z
    · exact I.ok.noex b o e z
    · exact absurd (Nat.lt_of_lt_of_le (Heap.lt_size e) (Nat.le_trans I.ok.bsz z)) (Nat.lt_irrefl _)
  · rcases List.mem_cons.mp (I.stkSub b z) with y | y
    · exact (hf b hb).2.1 y
    · exact (hf b hb).2.2.1 y
  · obtain ⟨hk, hko, j, hj, hσ⟩ := S.cap σ i x v e1 e2
    obtain ⟨m, hm, hl⟩ := I.loc
    obtain ⟨u, r, l⟩ := hl j x v hj hσ (by rcases hko with z | z; exact .inr (.inl z); exact .inr (.inr z))
    refine ⟨u, r, .inr ⟨hk, ?_⟩⟩
    rcases l with ⟨q, _⟩ | ⟨_, c, hc, q⟩
    · have q' : X.env.scope.names.lookup x = some .local := q
      rcases hko with z | z <;> (rw [z] at q'; cases q')
    · obtain ⟨c', hc'⟩ := S.has x hk
      have e := S.sub x c' hc'
      rw [hc] at e
      cases e
      exact ⟨c, hc', q.keeps k⟩
  · obtain ⟨v, q⟩ := I.cell x c (S.sub x c e)
    exact ⟨v, q.keeps k⟩
end
section
variable {X : Cx} {elt tg iter : Expr} {ifs : List Expr} {sc : Scope} {pos : Pos} {N : List Str} {cl : List (Str × Addr)} {σc : St → St} {wi : TI} {g : TG} {tt : TT} {te : TE}
/-- what holds of the block's own dict behind the turns -/
structure Gone (X : Cx) (pins : List (Addr × Obj)) (H : Hp) (C : Addr) : Prop where
  free : H C = none
  loc : C ≠ X.env.locals
  new : X.s₀.heap.objs.size ≤ C
  cell : ∀ x c, X.env.cells.lookup x = some c → c ≠ C
  pin : ∀ p ∈ X.pn ++ pins, p.1 ≠ C
theorem Inv.gone {pins : List (Addr × Obj)} {σ : St} {H : Hp} {s : Shared} {C : Addr} {h' : Heap} (I : Inv X pins σ H s) (G : Gone X pins H C) (sb : Heap.SameBut C s.heap h') : Inv X pins σ H { s with heap := h' } :=
  I.turned (t' := s.toks) (it := C) (fun b o n q => (sb.2 b n).trans q) G.free G.loc (.inr G.new) G.cell G.pin
/-- the list, the block, its turns -/
theorem comp_core {pins : List (Addr × Obj)} {s2 : Shared} {σ : St} {H2 : Hp} {Q : VK} {RR : Value → Addr → Result → Shared → Prop} {E : Value → Shared → Prop} {it : Addr} {fp : List Addr} {tn : Nat → Heap → Prop} {J : It}
    (hc : X.calm = true) (S : CompSc X N sc cl σc) (hg : ∀ fp s3 H3, PG (X.block N sc cl fp s3 H3) tg g) (ht : ∀ fp s3 H3, PTs (X.block N sc cl fp s3 H3) ifs tt) (he : ∀ fp s3 H3, PE (X.block N sc cl fp s3 H3) elt te)
    (I2 : Inv X pins σ H2 s2) (T : Turn X.prog X.w X.K tg J fp it tn) (st2 : tn 0 s2.heap) (f2 : ∀ b ∈ fp, FpOk X pins H2 b)
    (h2 : ∀ D, H2 D = none → ∃ W : Nat → Nat → St → List V → Hp → Prop, (∃ m, W 0 m (σc σ) [] (upd H2 D (.lst []))) ∧ ∀ i m σ1 ys H2, W i m σ1 ys H2 → H2 D = some (.lst ys) ∧
      ((J.stop i H2 ∧ Q (.ref D) H2) ∨ (J.go i H2 ∧ ∃ N : St → List V → Hp → Prop, (∀ σ2 ys2 H3, N σ2 ys2 H3 → ∃ m', m' < m ∧ W (i + 1) m' σ2 ys2 H3) ∧
        ∀ x H3, J.yld i H2 x H3 → g x σ1 H3 fun σ2 H4 => tt σ2 H4 fun c H5 => if c = true then te σ2 H5 fun y H6 => H6 D = some (.lst ys) ∧ ys.length < sizeLine ∧ N σ2 (ys ++ [y]) (upd H6 D (.lst (ys ++ [y]))) else N σ2 ys H5)))
    (hRR : ∀ D C m s7 H7, Inv X pins σ H7 s7 → s7.heap.Ns C m → Gone X pins H7 C → Q (.ref D) H7 → RR (.ref D) C (.ok .next) s7) :
    wpAny (model X.prog X.w) X.A (newList []) (fun acc s₃ => wpAny (model X.prog X.w) X.A (newFunctionEnv sc X.env.globals cl [] X.env.qual none .none (some X.env)) (fun cenv s₄ =>
      codeAny (model X.prog X.w) X.A (.compStart (.ListComp elt [⟨tg, iter, ifs, 0⟩] sc pos) 0 (.ref it) acc { cenv with scope := relabel sc X.env }) (RR acc cenv.locals) s₄) E s₃) E s2 := by
  -- the list
  refine wpAny_newObj_type ?_
  have hD : H2 s2.heap.objs.size = none := I2.hok.fresh (Nat.le_refl _)
  have I3 : Inv X pins σ (upd H2 s2.heap.objs.size (.lst [])) { s2 with heap := s2.heap.push { cls := .type "list", dict := none, data := .seq ([] : List Value).toArray } } :=
    I2.laid (t' := s2.toks) (fun b u q => Heap.get?_push_of_some _ q) (Nat.le_refl _) ⟨by decide, [], 0, .nil, Heap.get?_push_size _ rfl⟩
  have flt : ∀ b ∈ fp, b < s2.heap.objs.size := fun b hb => by
    obtain ⟨o, e, _⟩ := T.obj _ _ st2 b hb
    exact Heap.lt_size e
  obtain ⟨W, ⟨m0, w0⟩, turn⟩ := h2 s2.heap.objs.size hD
  have f3 : ∀ b ∈ fp, FpOk X pins (upd H2 s2.heap.objs.size (.lst [])) b := fun b hb => ⟨by rw [upd_ne (Nat.ne_of_lt (flt b hb))]; exact (f2 b hb).1, (f2 b hb).2⟩
  have st3 : tn 0 (s2.heap.push { cls := .type "list", dict := none, data := .seq ([] : List Value).toArray }) := T.keep _ _ _ st2 fun b _ o q => Heap.get?_push_of_some _ q
  have sz3 : s2.heap.objs.size ≤ (s2.heap.push { cls := .type "list", dict := none, data := .seq ([] : List Value).toArray }).objs.size := by rw [Heap.size_push]; exact Nat.le_succ _
  generalize s2.heap.push { cls := .type "list", dict := none, data := .seq ([] : List Value).toArray } = h3 at *
  generalize s2.heap.objs.size = D at *
  -- the block's own names
  refine wpAny_newFunctionEnv S.nocell (by intro y hy; simp at hy) (fun h4 hn4 hb4 => ?_) S.kind
  dsimp only at hn4 hb4 ⊢
  have k4 : ∀ b u, h3.get? b = some u → h4.get? b = some u := fun b u q => (hb4.2 b (Nat.ne_of_lt (Heap.lt_size q))).trans (Heap.get?_push_of_some _ q)
  have I4 : Inv (X.block N sc cl fp { s2 with heap := h3 } (upd H2 D (.lst []))) [] (σc σ) (upd H2 D (.lst [])) { s2 with heap := h4, toks := s2.toks + 0 } :=
    I3.block S f3 (fun b hb => Nat.lt_of_lt_of_le (flt b hb) sz3) k4 hn4
  have st4 : tn 0 h4 := T.keep _ _ _ st3 fun b _ o q => k4 b o q
  have fb : ∀ {H' : Hp}, (∀ b ∈ fp, H' b = none) → ∀ b ∈ fp, FpOk (X.block N sc cl fp { s2 with heap := h3 } (upd H2 D (.lst []))) [] H' b := fun hn b hb =>
    ⟨hn b hb, (I4.ok.exf b hb).1, I4.ok.exfs b hb, .inl hb, (I4.ok.exf b hb).2, fun p hp => absurd (show p ∈ ([] : List (Addr × Obj)) from hp) (by simp)⟩
  have fin : ∀ {σ' : St} {H' : Hp} {s' : Shared} {h' : Heap}, Inv (X.block N sc cl fp { s2 with heap := h3 } (upd H2 D (.lst []))) [] σ' H' s' → Heap.SameBut h3.objs.size s'.heap h' → Inv X pins σ H' { s' with heap := h' } := fun {σ' H' s' h'} J' sb => by
    have lt3 : ∀ b o, h3.get? b = some o → b ≠ h3.objs.size := fun b o q => Nat.ne_of_lt (Heap.lt_size q)
    have lo : H' h3.objs.size = none := J'.free
    have hk : HOk X.prog X.w H' h' := fun b u e => (J'.hok b u e).stay (fun c v hcc q => (sb.2 c (by
      rintro rfl
      rcases hcc with z | z
      · subst z; rw [lo] at e; cases e
      · rw [lo] at z; cases z)).trans q) (fun _ q => q) fun _ _ q => q
    refine I3.call' (s' := { s' with heap := h' }) (ch := fp) J'.os ⟨fun b o q n hb hx => (sb.2 b (lt3 b o q)).trans (J'.base.keep b o q n hb hx), fun b o q n hb hx => ?_, fun b o q n hx => J'.base.free b o q n hx, fun b o q hx => ?_, J'.base.tups, J'.base.frzs, J'.base.tbls⟩ hk J'.bare fun b hb => ?_
    · obtain ⟨sl, q1⟩ := J'.base.slot b o q n hb hx
      exact ⟨sl, (sb.2 b (lt3 b o q)).trans q1⟩
    · obtain ⟨o1, q1⟩ := J'.base.there b o q hx
      exact ⟨o1, (sb.2 b (lt3 b o q)).trans q1⟩
    · exact ⟨(f3 b hb).2.2.2.1, (f3 b hb).2.1, (f3 b hb).2.2.2.2.1, (f3 b hb).2.2.2.2.2⟩
  have loop : ∀ s5 : Shared, Inv (X.block N sc cl fp { s2 with heap := h3 } (upd H2 D (.lst []))) [] (σc σ) (upd H2 D (.lst [])) s5 → tn 0 s5.heap →
      codeAny (model X.prog X.w) X.A (.compLoop (.ListComp elt [⟨tg, iter, ifs, 0⟩] sc pos) 0 (.ref it) (.ref D) (compEnvC sc cl h3.objs.size X.env)) (RR (.ref D) h3.objs.size) s5 := fun s5 I5 st5 => by
    refine compLoop_any (fun n s' => ∃ i σ' ys H', Inv (X.block N sc cl fp { s2 with heap := h3 } (upd H2 D (.lst []))) [] σ' H' s' ∧ tn i s'.heap ∧ (∀ b ∈ fp, H' b = none) ∧ W i n σ' ys H') ?_ m0 ⟨0, _, [], _, I5, st5, fun b hb => (f3 b hb).1, w0⟩
    rintro n s6 ⟨i, σ6, ys, H6, I6, st6, fr6, w6⟩
    obtain ⟨hDy, step⟩ := turn i n σ6 ys H6 w6
    rcases step with ⟨stop, q6⟩ | ⟨go, Nx, hN, step⟩
    · refine thn (T.done (X.block N sc cl fp { s2 with heap := h3 } (upd H2 D (.lst []))) rfl rfl rfl hc i [] s6 σ6 H6 (fun _ _ => False) I6 (fb fr6) st6 stop) fun r s7 ⟨hr, I7⟩ => ?_
      subst hr
      obtain ⟨m7, hm7, _⟩ := I7.loc
      refine hRR D h3.objs.size m7 s7 H6 (fin I7 ⟨rfl, fun _ _ => rfl⟩) hm7 ⟨I7.free, Nat.ne_of_gt I3.lt, I3.sz, fun x c e => ?_, fun p hp => ?_⟩ q6
      · obtain ⟨v, z⟩ := I3.cell x c e
        exact Nat.ne_of_lt z.lt
      · exact Nat.ne_of_lt (Heap.lt_size (I3.pin p hp).1)
    · refine thn (T.item (X.block N sc cl fp { s2 with heap := h3 } (upd H2 D (.lst []))) rfl rfl rfl hc i [] s6 σ6 H6 (fun _ _ => False) I6 (fb fr6) st6 go) fun r s7 ⟨u, hr, h7⟩ => ?_
      subst hr
      refine thn h7 fun _ s8 ⟨x, H8, I8, r8, y8, st8, fr8⟩ => ?_
      have I8' := I8.pinned (fb fr8) (T.obj _ _ st8)
      refine thn (hg _ _ _ _ s8 σ6 H8 x u _ I8' r8 (step x H8 y8)) fun _ s9 ⟨σ9, H9, I9, q9⟩ => ?_
      refine thn (ht _ _ _ _ s9 σ9 H9 _ I9 q9) fun c sA ⟨HA, IA, qA⟩ => ?_
      have again : ∀ {σB : St} {HB : Hp} {sB : Shared} {zs : List V}, Inv (X.block N sc cl fp { s2 with heap := h3 } (upd H2 D (.lst []))) ([] ++ pinsAt fp s8.heap) σB HB sB → Nx σB zs HB →
          ∃ m, m < n ∧ ∃ i σ' ys H', Inv (X.block N sc cl fp { s2 with heap := h3 } (upd H2 D (.lst []))) [] σ' H' sB ∧ tn i sB.heap ∧ (∀ b ∈ fp, H' b = none) ∧ W i m σ' ys H' := fun {σB HB sB zs} IB nB => by
        obtain ⟨m', hm, wB⟩ := hN σB zs HB nB
        refine ⟨m', hm, i + 1, σB, zs, HB, IB.unpinned, T.keep _ _ _ st8 fun b hb o e => (IB.pin (b, o) (List.mem_append_right _ (List.mem_append_right _ (mem_pinsAt hb e)))).1, fun b hb => ?_, wB⟩
        obtain ⟨o, e, d⟩ := T.obj _ _ st8 b hb
        exact (IB.pin (b, o) (List.mem_append_right _ (List.mem_append_right _ (mem_pinsAt hb e)))).2.1
      cases c with
      | false => exact again IA qA
      | true =>
        refine thn (he _ _ _ _ sA σ9 HA _ IA qA) fun y sB ⟨yv, HB, IB, rB, dB, lB, qB⟩ => ?_
        exact thn (mt_append (X := X.block N sc cl fp { s2 with heap := h3 } (upd H2 D (.lst []))) _ sB σ9 HB (.ref D) [yv] (.ref D) [y] (fun v H' => v = .non ∧ Nx σ9 (ys ++ [yv]) H') IB rfl (.cons rB .nil) ⟨D, ys, yv, rfl, rfl, dB, lB, rfl, qB⟩) fun _ sC ⟨_, HC, IC, _, _, qC⟩ => again IC qC
  refine codeAny_compStart_list (loop _ I4 st4) ?_
  exact T.self _ 0 _ _ _ st4 (loop _ I4 st4)
theorem pe_comp (hc : X.calm = true) (S : CompSc X N sc cl σc) (hi : PI X tg iter wi) (hg : ∀ fp s3 H3, PG (X.block N sc cl fp s3 H3) tg g) (ht : ∀ fp s3 H3, PTs (X.block N sc cl fp s3 H3) ifs tt) (he : ∀ fp s3 H3, PE (X.block N sc cl fp s3 H3) elt te)
    (hs : ∀ x, foldedSetIterable iter X.env x = pure x := by intro _; rfl) : PE X (.ListComp elt [⟨tg, iter, ifs, 0⟩] sc pos) (tComp wi σc g tt te) := by
  intro pins s σ H Q I h
  rw [eval_ListComp]
  refine wpAny_comprehension_free rfl hs S.clos S.kind S.names (thn (hi pins s σ H _ I h) fun v s1 h1 => thn h1 fun itv s2 h2 => ?_)
  obtain ⟨it, fp, tn, J, H2, e, I2, T, st2, f2, h2⟩ := h2
  subst e
  exact comp_core (Q := Q) hc S hg ht he I2 T st2 f2 h2 fun D C m s7 H7 I7 n7 G q => ⟨m, n7, fun h' sb => ⟨.ref D, H7, I7.gone G sb, rfl, q⟩⟩
/-- x = [.. for .. in ..], where the store comes ahead of the block's end -/
theorem ps_setC {i : Nat} {x : Str} {pos' spos : Pos} (hc : X.calm = true) (hN : X.N.Nodup) (hi' : X.N[i]? = some x) (hx : Loc X.env.scope x) (S : CompSc X N sc cl σc) (hi : PI X tg iter wi)
    (hg : ∀ fp s3 H3, PG (X.block N sc cl fp s3 H3) tg g) (ht : ∀ fp s3 H3, PTs (X.block N sc cl fp s3 H3) ifs tt) (he : ∀ fp s3 H3, PE (X.block N sc cl fp s3 H3) elt te)
    (hs : ∀ x, foldedSetIterable iter X.env x = pure x := by intro _; rfl) (hsw : swapsWith (.ListComp elt [⟨tg, iter, ifs, 0⟩] sc pos) (some (.Name x pos')) spos.line X.env = pure true := by rfl)
    (hf : X.fn x = true ∨ X.env.scope.names.lookup x = some .local := by first | exact .inl rfl | exact .inr rfl | assumption) :
    PS X (.Assign [.Name x pos'] (.ListComp elt [⟨tg, iter, ifs, 0⟩] sc pos) spos) (tAsg (tComp wi σc g tt te) (gName i)) := by
  intro pins s σ H D I h
  rw [exec_Assign_Name_used _ _ _ _ hsw]
  refine wpAny_bind (wpAny_standAt (wpAny_bind ?_))
  show wpAny _ _ (comprehension (.ListComp elt [⟨tg, iter, ifs, 0⟩] sc pos) sc X.env (firstIterPos [⟨tg, iter, ifs, 0⟩] pos) (newList []) (firstAsync [⟨tg, iter, ifs, 0⟩]) (firstIter [⟨tg, iter, ifs, 0⟩] X.env) (some (assign (.Name x pos') X.env)) >>= fun _ => pure ()) _ _ s
  refine wpAny_bind (wpAny_mono (Q := fun _ s' => SP X pins D .next s') ?_ (fun _ s' q => wpAny_pure (wpAny_pure q)) fun _ _ z => z)
  refine wpAny_comprehension_free rfl hs S.clos S.kind S.names (thn (hi pins s σ H _ I h) fun v s1 h1 => thn h1 fun itv s2 h2 => ?_)
  obtain ⟨it, fp, tn, J, H2, e, I2, T, st2, f2, h2⟩ := h2
  subst e
  refine comp_core (Q := fun v H' => D.nx (σ.set i (some v)) H') hc S hg ht he I2 T st2 f2 h2 fun d C m s7 H7 I7 n7 G q => ?_
  show wpAny _ _ (assign (.Name x pos') X.env (.ref d)) _ _ s7
  refine wpAny_assign_Name (store_ok2 (v := .ref d) I7 hN hi' hx rfl (fun s8 I8 ch => ?_) hf)
  obtain ⟨a, sb, ha⟩ := ch
  have aC : C ≠ a := by
    rcases ha with z | z
    · rw [z]; exact G.loc
    · exact (G.cell x a z).symm
  exact ⟨m, n7.sameBut sb aC, fun h' sb' => ⟨_, H7, I8.gone G sb', q⟩⟩
end
/-! ### iterators of Python's own that keep no tuple -/
/-- x stands at turn i of n -/
def Itw (n : Nat) (V1 : Nat → V → Prop) : It := ⟨fun i _ => i < n, fun i H x H' => H' = H ∧ V1 i x, fun i _ => i = n⟩
theorem turn_walks {P : Program} {w : World} {K : PySem.W.Frag} {tg : Expr} {it : Addr} {n : Nat} {Pv : Nat → Value → Prop} {V1 : Nat → V → Prop} {st : Nat → Heap → Prop}
    (W : ∀ A : Around, A.handled = none → Walks P w A it [it] [it] n Pv st) (ob : ∀ i h, st i h → ∃ o, h.get? it = some o ∧ ∀ v, o.data ≠ .cell v) (val : ∀ i v, Pv i v → ∃ x, RelV x v ∧ V1 i x)
    (own : ∀ i v s (M : Model) (A : Around) (E : Value → Shared → Prop) (Q : Unit → Shared → Prop), Pv i v → Q () s → wpAny M A (letOwnedTupleGo tg (.ref it) v) Q E s)
    (self : ∀ (A : Around) (i : Nat) (s : Shared) (Q : Value → Shared → Prop) (E : Value → Shared → Prop), st i s.heap → Q (.ref it) s → wpAny (model P w) A (pyIter (.ref it)) Q E s) : Turn P w K tg (Itw n V1) [it] it st where
  mem := by simp
  obj := fun i h hs b hb => by
    have e : b = it := by simpa using hb
    subst e
    exact ob i h hs
  keep := fun i h h' hs k => (W {} rfl).frame i h h' hs k
  item := fun X hP hw hK hc i pins s σ H E I hf hs go => by
    subst hP hw hK
    refine (W X.A (I.ok.hd hc)).item i s _ E go hs fun v h' tk pv hs' k => ⟨v, rfl, ?_⟩
    obtain ⟨x, rx, vx⟩ := val i v pv
    obtain ⟨f0, f1, _, f3, f4, f5⟩ := hf it (by simp)
    have I' : Inv X pins σ H { s with heap := h', toks := tk } := I.turned (it := it) (fun b o n q => k b o (by simpa using n) q) f0 f1 f3 f4 f5
    refine own i v _ _ _ _ _ pv ⟨x, H, I', rx, ⟨rfl, vx⟩, hs', fun b hb => ?_⟩
    have e : b = it := by simpa using hb
    subst e
    exact f0
  done := fun X hP hw hK hc i pins s σ H E I hf hs stop => by
    subst hP hw hK
    have e : i = n := stop
    subst e
    obtain ⟨f0, f1, _, f3, f4, f5⟩ := hf it (by simp)
    exact (W X.A (I.ok.hd hc)).done s _ E hs fun h' tk k => ⟨rfl, I.turned (it := it) (fun b o n q => k b o (by simpa using n) q) f0 f1 f3 f4 f5⟩
  self := self
/-- a text's signs -/
def iStr (te : TE) : TI := fun σ H R => te σ H fun x H1 => ∃ z, x = .str z ∧ R (Itw z.cps.size fun i y => ∃ c, z.cps[i]? = some c ∧ y = .str ⟨#[c]⟩) H1
theorem own_str {M : Model} {A : Around} {E : Value → Shared → Prop} {s : Shared} {tg : Expr} {it : Addr} {z : Str} {t : Tok} {Q : Unit → Shared → Prop} (q : Q () s) : wpAny M A (letOwnedTupleGo tg (.ref it) (.str z t)) Q E s := by
  unfold letOwnedTupleGo
  cases tg <;> exact wpAny_pure q
theorem pi_str {X : Cx} {tg e : Expr} {te : TE} (he : PE X e te) : PI X tg e (iStr te) := by
  intro pins s σ H R I h
  refine thn (he pins s σ H _ I h) fun v s1 ⟨x, H1, I1, r1, z, e1, q⟩ => ?_
  subst e1
  obtain ⟨t, rfl⟩ := r1
  have fr : H1 s1.heap.objs.size = none := I1.hok.fresh (Nat.le_refl _)
  by_cases low : z.cps.all (· < 128) = true
  · refine wpAny_pyIter_ascii low ⟨s1.heap.objs.size, [s1.heap.objs.size], fun i h => h.IsStrIter s1.heap.objs.size "str_ascii_iterator" z t i, _, H1, rfl, I1.kept (t' := s1.toks) fun b u q => Heap.get?_push_of_some _ q,
      turn_walks (fun A hA => Walks.strAscii hA _ z t) (fun i h ⟨o, ho, _, hd⟩ => ⟨o, ho, fun v q => by rw [hd] at q; cases q⟩) (fun i v ⟨c, u, hc, hv⟩ => ⟨.str ⟨#[c]⟩, ⟨u, hv⟩, c, hc, rfl⟩) (fun i v s M A E Q ⟨c, u, _, hv⟩ hq => by rw [hv]; exact own_str hq) fun A i s Q E hs hq => wpAny_pyIter_striter_ascii hs hq,
      ⟨_, Heap.get?_push_size _ rfl, rfl, rfl⟩, fun b hb => ?_, q⟩
    have e : b = s1.heap.objs.size := by simpa using hb
    subst e
    exact I1.fpOk (Nat.le_refl _) fr
  · refine wpAny_pyIter_wide (Bool.eq_false_iff.mpr low) ⟨s1.heap.objs.size, [s1.heap.objs.size], fun i h => h.IsStrIter s1.heap.objs.size "str_iterator" z t i, _, H1, rfl, I1.kept (t' := s1.toks) fun b u q => Heap.get?_push_of_some _ q,
      turn_walks (fun A hA => Walks.strWide hA _ z t) (fun i h ⟨o, ho, _, hd⟩ => ⟨o, ho, fun v q => by rw [hd] at q; cases q⟩) (fun i v ⟨c, u, hc, hv⟩ => ⟨.str ⟨#[c]⟩, ⟨u, hv⟩, c, hc, rfl⟩) (fun i v s M A E Q ⟨c, u, _, hv⟩ hq => by rw [hv]; exact own_str hq) fun A i s Q E hs hq => wpAny_pyIter_striter_wide hs hq,
      ⟨_, Heap.get?_push_size _ rfl, rfl, rfl⟩, fun b hb => ?_, q⟩
    have e : b = s1.heap.objs.size := by simpa using hb
    subst e
    exact I1.fpOk (Nat.le_refl _) fr
end L2

set_option Elab.async false
set_option linter.all false
set_option maxRecDepth 100000
set_option maxHeartbeats 4000000
/-! zip of two tuples, for a loop or a comprehension with two names. -/
namespace L2
open PySem PySem.Spec PyProof.Rows
section
variable {prog : Program} {w : World} {A : Around} {s : Shared}
end
section
variable {prog : Program} {w : World} {A : Around} {E : Value → Shared → Prop} {s : Shared} {z TI TO i1 i2 : Addr} {f1 f2 : List Addr} {n1 n2 k1 k2 : Nat} {P1 P2 : Nat → Value → Prop} {S1 S2 : Nat → Heap → Prop} {a b : Value}
end
end L2

set_option Elab.async false
set_option linter.all false
set_option maxRecDepth 100000
set_option maxHeartbeats 4000000
/-! zip of two tuples as what a loop walks; all and any; a def that a name holds; rules with their fragment named. -/
namespace L2
open PySem PySem.Spec PyProof.Rows
section
variable {X : Cx} {pins : List (Addr × Obj)} {σ : St} {H : Hp} {s : Shared} {h' : Heap}
end
end L2

set_option Elab.async false
set_option linter.all false
set_option maxRecDepth 100000
set_option maxHeartbeats 4000000
namespace L2
open PySem PySem.Spec PyProof.Rows
theorem bt_all : bootBuiltins "all" = some (.builtin "all") := by decide +kernel
section
variable {X : Cx}
/-- all(l), l a list of truths -/
theorem bools_truth {P : Program} {w : World} {A : Around} {bs : List Bool} {us : List Value} (r : Vals (bs.map V.bl) us) : TruthOf P w A (fun i v => us.toArray[i]? = some v) (fun i => bs.getD i false) := by
  intro i v s Q E e q
  have e' : us[i]? = some v := by simpa using e
  have hl := r.length
  rw [List.length_map] at hl
  have lt : i < bs.length := by
    have := (List.getElem?_eq_some_iff.mp e').1
    omega
  obtain ⟨u, e2, r2⟩ := r.get (i := i) (x := V.bl bs[i]) (by simp [lt])
  rw [e'] at e2
  cases e2
  cases (show v = Value.bool bs[i] from r2)
  have z : bs.getD i false = bs[i] := by simp [List.getD, lt]
  exact wpAny_truthy_bool (by rw [← z]; exact q)
theorem all_range : ∀ bs : List Bool, ((List.range bs.length).all fun i => bs.getD i false) = bs.all id
  | [] => rfl
  | b :: bs => by
    rw [List.length_cons, List.range_succ_eq_map, List.all_cons, List.all_map, List.all_cons, ← all_range bs]
    rfl
theorem call_all (hc : X.calm = true) : CallR X (.builtin "all") (fun xs H Q => ∃ (a : Addr) (bs : List Bool), xs = [.ref a] ∧ H a = some (.lst (bs.map V.bl)) ∧ Q (.bl (bs.all id)) H) := by
  intro pins s σ H xs us Q I r h
  obtain ⟨a, bs, rfl, q, hq⟩ := h
  obtain ⟨u, rfl, ru⟩ := vals1 r
  cases (show u = Value.ref a from ru)
  obtain ⟨its, rv, pl, hz⟩ := I.list (.inl (.inl q))
  have lt : a < s.heap.objs.size := by obtain ⟨o, e, _⟩ := pl.isList; exact Heap.lt_size e
  have hl := rv.length
  rw [List.length_map] at hl
  refine call_all_walk (wpAny_pyIter_list pl.isList ⟨s.heap.objs.size, _, _, _, _, _, _, rfl, Walks.list (show X.A.in1.handled = none from I.ok.hd hc) _ a (Nat.ne_of_lt lt) its.toArray, ⟨⟨_, Heap.get?_push_size _ rfl, rfl, rfl⟩, pl.isList.push _⟩, bools_truth rv, fun h' tk k => ?_⟩)
  rw [List.size_toArray, ← hl, all_range]
  exact ⟨.bl _, H, I.kept (t' := tk) fun b o e => k b o (fun z => absurd (Heap.lt_size e) (by rw [show b = s.heap.objs.size by simpa using z]; exact Nat.lt_irrefl _)) (Heap.get?_push_of_some _ e), rfl, hq⟩
end
/-! ### the fragment named -/
section
variable {X : Cx} {tg l : Expr} {tl : TE} (K : PySem.W.Frag) (hK : X.K = K)
include hK
theorem pi_tupK (hl : PE X l tl) : PI X tg l (iTup K tl) := by subst hK; exact pi_tup hl
theorem call_tupleK : CallR X (.type "tuple") (fun xs H Q => ∃ p ys, xs = [.ref p] ∧ ((SqL K H p ys ∧ ∀ l, H l = none → Q (.ref l) (upd H l (.tup ys))) ∨ (SqT K H p ys ∧ Q (.ref p) H))) := by subst hK; exact call_tuple_of
end
end L2

set_option Elab.async false
set_option linter.all false
set_option maxRecDepth 100000
set_option maxHeartbeats 4000000
namespace L2
open PySem PySem.Spec PyProof.Rows
theorem pg_tupK {X : Cx} (K : PySem.W.Frag) {es : List Expr} {k : Nat} {t : TGs} {n : Nat} {pos : Pos} (hc : X.calm = true) (h : PGs X es t) (hK : X.K = K := by rfl)
    (hn : (assignEach es X.env).length = n := by rfl) (hst : (assignEach es X.env).findIdx? (·.1) = none := by rfl) : PG X (.Tuple es k pos) (gTup K n t) := by
  subst hK
  exact pg_tup hc h hn hst
/-- a comprehension with no test: what comes out is known ahead -/
theorem comp_run {J : It} {σ0 : St} {g : TG} {te : TE} {Q : VK} {H1 : Hp} (out : List V) (hn : out.length < sizeLine) (σP : St → Prop) (h0 : σP σ0)
    (go : ∀ i H, i < out.length → Same H1 H → J.go i H) (stop : ∀ H, Same H1 H → J.stop out.length H)
    (step : ∀ i σ H x H' y, out[i]? = some y → σP σ → Same H1 H → J.yld i H x H' → ∀ C : V → St → Hp → Prop, (∀ σ2 H6, σP σ2 → Same H H6 → C y σ2 H6) → g x σ H' fun σ2 H4 => te σ2 H4 fun y' H6 => C y' σ2 H6)
    (fin : ∀ D H', H1 D = none → Same H1 H' → H' D = some (.lst out) → Q (.ref D) H') : compR J σ0 g tYes te Q H1 := by
  intro D hD
  have keep : ∀ {H : Hp} {o : HO}, Same H1 H → Same H1 (upd H D o) := fun {H o} e b u q => by
    rw [upd_ne (ne_of_none q hD)]
    exact e b u q
  refine ⟨fun i m σ ys H => i ≤ out.length ∧ m = out.length - i ∧ σP σ ∧ ys = out.take i ∧ H D = some (.lst ys) ∧ Same H1 H, ⟨_, Nat.zero_le _, rfl, h0, rfl, upd_same, keep (Same.refl H1)⟩, ?_⟩
  rintro i m σ ys H ⟨hi, rfl, p, rfl, hd, sm⟩
  refine ⟨hd, ?_⟩
  by_cases lt : i < out.length
  · refine .inr ⟨go i H lt sm, fun σ2 ys2 H3 => σP σ2 ∧ ys2 = out.take (i + 1) ∧ H3 D = some (.lst ys2) ∧ Same H1 H3, fun σ2 ys2 H3 ⟨a, b, c, d⟩ => ⟨_, by omega, lt, rfl, a, b, c, d⟩, fun x H3 y => ?_⟩
    have e : out[i]? = some out[i] := by simp [lt]
    refine step i σ H x H3 out[i] e p sm y (fun y' σ2 H6 => H6 D = some (.lst (out.take i)) ∧ (out.take i).length < sizeLine ∧ σP σ2 ∧ out.take i ++ [y'] = out.take (i + 1) ∧ upd H6 D (.lst (out.take i ++ [y'])) D = some (.lst (out.take i ++ [y'])) ∧ Same H1 (upd H6 D (.lst (out.take i ++ [y'])))) fun σ2 H6 p2 s6 => ?_
    exact ⟨s6 _ _ hd, by rw [List.length_take]; omega, p2, by rw [List.take_add_one, e]; rfl, upd_same, keep (sm.trans s6)⟩
  · have e : i = out.length := by omega
    subst e
    rw [List.take_length] at hd
    exact .inl ⟨stop H sm, fin D H hD sm hd⟩
end L2

set_option Elab.async false
set_option linter.all false
set_option maxRecDepth 100000
set_option maxHeartbeats 4000000
/-! What readings of many laws want. -/
namespace L2
open PySem PySem.Spec PyProof.Rows
theorem iteTb {b : Bool} {A B : Prop} (e : b = true) (h : A) : if b = true then A else B := by rw [if_pos e]; exact h
theorem iteFb {b : Bool} {A B : Prop} (e : b = false) (h : B) : if b = true then A else B := by rw [if_neg (by rw [e]; decide)]; exact h
theorem iteB {b : Bool} {A B : Prop} (h1 : b = true → A) (h2 : b = false → B) : if b = true then A else B := by
  cases b with
  | true => exact iteT (h1 rfl)
  | false => exact iteF (h2 rfl)
theorem few {n : Nat} (h : Nat.ble n 1000 = true) : n ≤ sizeLine := Nat.le_of_lt (small1000 (Nat.le_of_ble_eq_true h))
theorem mod_lo (c : Int) {n : Int} (h : 0 < n) : 0 ≤ c.fmod n := Int.fmod_nonneg_of_pos c h
theorem mod_hi (c : Int) {n : Int} (h : 0 < n) : c.fmod n < n := Int.fmod_lt_of_pos c h
theorem int_eq_of {x y : Int} (h : decide (V.int x = V.int y) = true) : x = y := V.int.inj (of_decide_eq_true h)
theorem int_ne_of {x y : Int} (h : decide (V.int x = V.int y) = false) : x ≠ y := fun e => of_decide_eq_false h (by rw [e])
theorem str_dec {x y : Str} : decide (V.str x = V.str y) = decide (x = y) := by
  rw [Bool.eq_iff_iff]
  simp
theorem sIx_m1 (n d : Nat) : HT.sIx n d (some (-1)) = n - 1 := by
  show (if (-1 : Int) < 0 then ((-1 : Int) + (n : Int)).toNat else min (-1 : Int).toNat n) = n - 1
  rw [if_pos (by decide)]
  omega
theorem at_i {α : Type} {xs : List α} {i : Int} {x : α} (h0 : 0 ≤ i) (e : xs[i.toNat]? = some x) : atI xs i = some x := by
  have := atI_nat e
  rwa [Int.toNat_of_nonneg h0] at this
section
variable {K : PySem.W.Frag} {H : Hp} {xs ys : List V} {a b : Addr} {Q : VK}
end
end L2

set_option Elab.async false
set_option linter.all false
set_option maxRecDepth 100000
set_option maxHeartbeats 4000000
/-! Comprehensions that read names from around them; with a test; dicts of the top. -/
namespace L2
open PySem PySem.Spec PyProof.Rows
def capS (js : List (Option Nat)) (σ : St) : St := js.map fun o => match o with | none => none | some j => (σ[j]?).getD none
def capC (fr : List Str) (cells : List (Str × Addr)) : List (Str × Addr) := fr.filterMap fun x => (cells.lookup x).map fun c => (x, c)
def capOk (js : List (Option Nat)) (N M : List Str) (inn out : List (Str × NameKind)) : Bool :=
  (js.zip N).all fun p => match p.1 with
    | none => true
    | some j => (M[j]? == some p.2) && ((inn.lookup p.2 == some .cell) || (inn.lookup p.2 == some .free)) && ((out.lookup p.2 == some .cell) || (out.lookup p.2 == some .free))
theorem kind_or {L : List (Str × NameKind)} {x : Str} (h : ((L.lookup x == some NameKind.cell) || (L.lookup x == some NameKind.free)) = true) : L.lookup x = some .cell ∨ L.lookup x = some .free := by
  rw [Bool.or_eq_true] at h
  rcases h with h | h
  · exact .inl (eq_of_beq h)
  · exact .inr (eq_of_beq h)
theorem capC_lookup {fr : List Str} {cells : List (Str × Addr)} {x : Str} (h : x ∈ fr) (e : (cells.lookup x).isSome = true) : ∃ c, (capC fr cells).lookup x = some c := by
  obtain ⟨c, hc⟩ := Option.isSome_iff_exists.mp e
  induction fr with
  | nil => cases h
  | cons y r ih =>
    unfold capC
    rw [List.filterMap_cons]
    by_cases q : y = x
    · subst q
      rw [hc]
      exact ⟨c, by simp⟩
    · have hr : x ∈ r := by
        rcases List.mem_cons.mp h with z | z
        · exact absurd z.symm q
        · exact z
      cases e2 : cells.lookup y with
      | none => exact ih hr
      | some d =>
        obtain ⟨c', hc'⟩ := ih hr
        refine ⟨c', ?_⟩
        show List.lookup x ((y, d) :: capC r cells) = some c'
        rw [List.lookup_cons, beq_eq_false_iff_ne.mpr (Ne.symm q)]
        exact hc'
/-- the scope of a comprehension that reads the names fr from around it -/
theorem comp_scF {X : Cx} {N : List Str} {sc : Scope} (fr : List Str) (js : List (Option Nat)) (hk : sc.kind = .function) (hn : ∀ x ∈ sc.names, x.2 = .local → sc.names.lookup x.1 = some .local) (hc : ∀ y ∈ sc.names, y.2 ≠ .cell)
    (clos : closureFor sc X.env = pure (capC fr X.env.cells)) (hall : (fr.all fun x => (X.env.cells.lookup x).isSome) = true)
    (hhas : ((relabel sc X.env).names.all fun y => (y.2 != .cell && y.2 != .free) || fr.contains y.1) = true) (hl : js.length = N.length) (hcap : capOk js N X.N (relabel sc X.env).names X.env.scope.names = true) :
    CompSc X N sc (capC fr X.env.cells) (capS js) := by
  have lk : ∀ (x : Str) (M : List (Str × NameKind)) (k : NameKind), M.lookup x = some k → (x, k) ∈ M := fun x M k h => PySem.mem_of_lookup h
  refine ⟨hk, hn, hc, clos, fun x c h => ?_, fun x h => ?_, fun σ => ?_, fun σ i x v e1 e2 => ?_⟩
  · have m := PySem.mem_of_lookup h
    obtain ⟨y, _, e⟩ := List.mem_filterMap.mp m
    obtain ⟨d, hd, e'⟩ := Option.map_eq_some_iff.mp e
    cases e'
    exact hd
  · have hm : x ∈ fr := by
      rcases h with h | h <;>
      · have q := List.all_eq_true.mp hhas _ (lk x _ _ h)
        rw [Bool.or_eq_true] at q
        rcases q with q | q
        · simp at q
        · simpa using q
    exact capC_lookup hm (List.all_eq_true.mp hall x hm)
  · unfold capS
    rw [List.length_map, hl]
  · unfold capS at e2
    rw [List.getElem?_map] at e2
    obtain ⟨o, ho, e2⟩ := Option.map_eq_some_iff.mp e2
    cases o with
    | none => cases e2
    | some j =>
      have hz : (some j, x) ∈ js.zip N := by
        refine List.mem_iff_getElem?.mpr ⟨i, ?_⟩
        rw [List.getElem?_zip_eq_some]
        exact ⟨ho, e1⟩
      have q := List.all_eq_true.mp hcap _ hz
      simp only [Bool.and_eq_true] at q
      refine ⟨kind_or q.1.2, kind_or q.2, j, eq_of_beq q.1.1, ?_⟩
      replace e2 : (σ[j]?).getD none = some v := e2
      cases e3 : σ[j]? with
      | none => rw [e3] at e2; cases e2
      | some o' => rw [e3] at e2; rw [show o' = some v from e2]
end L2

set_option Elab.async false
set_option linter.all false
set_option maxRecDepth 100000
set_option maxHeartbeats 4000000
/-! reversed of a tuple, of a list -/
namespace RevF
open PySem PySem.Spec PyProof.Rows
end RevF

set_option Elab.async false
set_option linter.all false
set_option maxRecDepth 100000
set_option maxHeartbeats 4000000
namespace RevF
open PySem PySem.Spec PyProof.Rows
section
variable {prog : Program} {w : World} {A : Around} {E : Value → Shared → Prop} {s : Shared} {a it : Addr} {us : Array Value}
end
end RevF

set_option Elab.async false
set_option linter.all false
set_option maxRecDepth 100000
set_option maxHeartbeats 4000000
/-! reversed of a tuple; a tuple's slice or sum, whatever it comes to; a dict of the top; lower, upper. -/
namespace L2
open PySem PySem.Spec PyProof.Rows
section
variable {X : Cx}
end
/-! ### t[a:b], t + u: whatever comes of it -/
section
variable {prog : Program} {w : World} {A : Around} {E : Value → Shared → Prop} {s : Shared}
end
section
variable {X : Cx}
end
/-! ### a dict of the top, which nobody changes -/
section
variable {X : Cx} {o e f : Expr} {apos cpos : Pos} {td ty tx : TE}
end
/-! ### lower, upper -/
section
variable {X : Cx}
end
end L2

set_option Elab.async false
set_option linter.all false
set_option maxRecDepth 100000
set_option maxHeartbeats 4000000
/-! reversed of a list; list of an iterator -/
namespace RevF
open PySem PySem.Spec PyProof.Rows
end RevF

set_option Elab.async false
set_option linter.all false
set_option maxRecDepth 100000
set_option maxHeartbeats 4000000
namespace RevF
open PySem PySem.Spec PyProof.Rows
section
variable {prog : Program} {w : World} {A : Around} {E : Value → Shared → Prop} {s : Shared} {a it : Addr} {us : Array Value}
end
end RevF

set_option linter.all false
namespace TextM
open PySem
/-- a row of signs cut at each c -/
def splitL (c : Nat) : List Nat → List (List Nat)
  | [] => [[]]
  | a :: r => if a = c then [] :: splitL c r else match splitL c r with
    | [] => [[a]]
    | p :: ps => (a :: p) :: ps
theorem splitL_ne (c : Nat) : ∀ l, ∃ p ps, splitL c l = p :: ps
  | [] => ⟨_, _, rfl⟩
  | a :: r => by
    unfold splitL
    by_cases h : a = c
    · rw [if_pos h]; exact ⟨_, _, rfl⟩
    · rw [if_neg h]
      obtain ⟨p, ps, e⟩ := splitL_ne c r
      rw [e]
      exact ⟨_, _, rfl⟩
theorem splitL_cons_ne {c a : Nat} {r : List Nat} {p : List Nat} {ps : List (List Nat)} (h : a ≠ c) (e : splitL c r = p :: ps) : splitL c (a :: r) = (a :: p) :: ps := by
  rw [splitL, if_neg h, e]
theorem splitL_cons_eq {c : Nat} {r : List Nat} : splitL c (c :: r) = [] :: splitL c r := by rw [splitL, if_pos rfl]
/-- the places of c from k on -/
def cutsF (c : Nat) : Nat → List Nat → List Nat
  | _, [] => []
  | k, a :: r => if a = c then k :: cutsF c (k + 1) r else cutsF c (k + 1) r
theorem drop_at {l : List Nat} {k : Nat} (lt : k < l.length) : ∃ v, l.drop k = v :: l.drop (k + 1) ∧ l[k]? = some v := ⟨l[k], List.drop_eq_getElem_cons lt, List.getElem?_eq_getElem lt⟩
theorem occ_loop (x : Str) (c : Nat) (lim : Nat) (hl : x.length < lim) : ∀ (m k : Nat) (found : Array Nat) (free : Nat), k + m = x.length → found.size ≤ k → free ≤ k →
    (forIn (List.range' k (m + 1)) (found, free) (StrLaws.occBody x ⟨#[c]⟩ x.length lim)).run.fst.toList = found.toList ++ cutsF c k (x.cps.toList.drop k)
  | 0, k, found, free, hk, hs, hf => by
    have e : x.cps.toList.drop k = [] := List.drop_eq_nil_of_le (by rw [Array.length_toList]; show x.length ≤ k; omega)
    rw [e, cutsF, List.append_nil]
    rw [List.range'_succ, List.range'_zero, List.forIn_cons]
    have no : ¬ (k + (⟨#[c]⟩ : Str).length ≤ x.length) := by show ¬ (k + 1 ≤ x.length); omega
    unfold StrLaws.occBody
    simp [no]
  | m + 1, k, found, free, hk, hs, hf => by
    have lt : k < x.cps.toList.length := by rw [Array.length_toList]; show k < x.length; omega
    rw [List.range'_succ, List.forIn_cons]
    obtain ⟨v, dr, ev⟩ := drop_at lt
    have sub := StrLaws.subAt_one x c k
    have i1 : k + (⟨#[c]⟩ : Str).length ≤ x.length := by show k + 1 ≤ x.length; omega
    by_cases h : v = c
    · have t : Builtin.Str.subAt x ⟨#[c]⟩ k = true := (sub.mpr (by rw [ev, h])).2
      have st : StrLaws.occBody x ⟨#[c]⟩ x.length lim k (found, free) = pure (ForInStep.yield (found.push k, k + 1)) := by
        unfold StrLaws.occBody
        have z1 : found.size < lim := by omega
        simp [z1, hf, i1, t]
        rfl
      rw [st, pure_bind]
      have ih := occ_loop x c lim hl m (k + 1) (found.push k) (k + 1) (by omega) (by simp; omega) (Nat.le_refl _)
      rw [dr, cutsF, if_pos h]
      simpa using ih
    · have t : Builtin.Str.subAt x ⟨#[c]⟩ k = false := by
        rw [Bool.eq_false_iff]
        intro q
        have := sub.mp ⟨i1, q⟩
        rw [ev] at this
        exact h (Option.some.inj this)
      have st : StrLaws.occBody x ⟨#[c]⟩ x.length lim k (found, free) = pure (ForInStep.yield (found, free)) := by
        unfold StrLaws.occBody
        simp [t]
      rw [st, pure_bind]
      have ih := occ_loop x c lim hl m (k + 1) found free (by omega) (by omega) (by omega)
      rw [dr, cutsF, if_neg h]
      simpa using ih
theorem occ_one (x : Str) (c : Nat) : Builtin.Str.occurrences x ⟨#[c]⟩ 0 x.length (x.length + 1) = cutsF c 0 x.cps.toList := by
  rw [StrLaws.occ_eq]
  have := occ_loop x c (x.length + 1) (Nat.lt_succ_self _) x.length 0 #[] 0 (by omega) (Nat.le_refl _) (Nat.le_refl _)
  simpa using this
theorem between (x : Str) : ∀ (cuts : List Nat) (a : Nat), ((a :: cuts.map (· + 1)).zip (cuts ++ [x.length])).map (fun p => Builtin.Str.strSub x p.1 p.2) = match cuts with
    | [] => [Builtin.Str.strSub x a x.length]
    | d :: r => Builtin.Str.strSub x a d :: (((d + 1) :: r.map (· + 1)).zip (r ++ [x.length])).map (fun p => Builtin.Str.strSub x p.1 p.2)
  | [], a => rfl
  | d :: r, a => rfl
theorem parts_one (x : Str) (c : Nat) : ∀ (m k a : Nat), k + m = x.length → a ≤ k →
    ∃ p ps, splitL c (x.cps.toList.drop k) = p :: ps ∧
    ((a :: (cutsF c k (x.cps.toList.drop k)).map (· + 1)).zip (cutsF c k (x.cps.toList.drop k) ++ [x.length])).map (fun p => Builtin.Str.strSub x p.1 p.2) =
      (⟨((x.cps.toList.drop a).take (k - a) ++ p).toArray⟩ : Str) :: ps.map fun q => (⟨q.toArray⟩ : Str)
  | 0, k, a, hk, ha => by
    have e : x.cps.toList.drop k = [] := List.drop_eq_nil_of_le (by rw [Array.length_toList]; show x.length ≤ k; omega)
    rw [e]
    refine ⟨[], [], rfl, ?_⟩
    have ek : k = x.length := by omega
    show [Builtin.Str.strSub x a x.length] = _
    refine congrArg (· :: []) (Str.ext' ?_)
    rw [← Array.toList_inj, StrLaws.strSub_toList, ← ek]
    simp
  | m + 1, k, a, hk, ha => by
    have lt : k < x.cps.toList.length := by rw [Array.length_toList]; show k < x.length; omega
    obtain ⟨v, dr, ev⟩ := drop_at lt
    by_cases h : v = c
    · obtain ⟨p, ps, e1, e2⟩ := parts_one x c m (k + 1) (k + 1) (by omega) (Nat.le_refl _)
      refine ⟨[], p :: ps, by rw [dr, h, splitL_cons_eq, e1], ?_⟩
      rw [dr, cutsF, if_pos h, between]
      simp only
      rw [e2]
      simp only [Nat.sub_self, List.take_zero, List.nil_append, List.append_nil, List.map_cons]
      refine congrArg (· :: _) (Str.ext' ?_)
      rw [← Array.toList_inj, StrLaws.strSub_toList]
    · obtain ⟨p, ps, e1, e2⟩ := parts_one x c m (k + 1) a (by omega) (by omega)
      refine ⟨v :: p, ps, by rw [dr]; exact splitL_cons_ne h e1, ?_⟩
      rw [dr, cutsF, if_neg h, e2]
      refine congrArg (· :: _) ?_
      congr 2
      have : k + 1 - a = (k - a) + 1 := by omega
      rw [this, List.take_add_one, List.getElem?_drop, show a + (k - a) = k by omega, ev]
      simp
/-- a text cut at one sign -/
theorem split_one (x : Str) (c : Nat) (hk : ¬ Builtin.Str.strKind x < Builtin.Str.strKind ⟨#[c]⟩) : Txt.split x ⟨#[c]⟩ = (splitL c x.cps.toList).map fun q => (⟨q.toArray⟩ : Str) := by
  obtain ⟨p, ps, e1, e2⟩ := parts_one x c x.length 0 0 (by omega) (Nat.le_refl _)
  rw [List.drop_zero] at e1 e2
  have res : Builtin.Str.partsBetween x (cutsF c 0 x.cps.toList) (⟨#[c]⟩ : Str).length = (splitL c x.cps.toList).map fun q => (⟨q.toArray⟩ : Str) := by
    rw [e1]
    unfold Builtin.Str.partsBetween
    have l1 : (⟨#[c]⟩ : Str).length = 1 := rfl
    rw [l1]
    simpa using e2
  unfold Txt.split
  by_cases h1 : x.length < (⟨#[c]⟩ : Str).length
  · have z : x.cps.toList = [] := by
      have : x.length < 1 := h1
      apply List.eq_nil_of_length_eq_zero
      rw [Array.length_toList]
      show x.length = 0
      omega
    have zx : x = ⟨#[]⟩ := Str.ext' (by rw [← Array.toList_inj, z])
    rw [if_pos (by simp [h1]), zx]
    rfl
  · rw [if_neg (by simp [h1]; exact Nat.not_lt.mp hk), occ_one]
    by_cases h2 : (cutsF c 0 x.cps.toList).isEmpty = true
    · rw [if_pos h2]
      rw [List.isEmpty_iff] at h2
      rw [← res, h2]
      unfold Builtin.Str.partsBetween
      simp only [List.map_nil, List.nil_append, List.zip_cons_cons, List.zip_nil_left, List.map_cons]
      refine congrArg (· :: []) (Str.ext' ?_)
      rw [← Array.toList_inj, StrLaws.strSub_toList]
      simp [Str.length]
      rw [List.take_of_length_le (by rw [Array.length_toList]; exact Nat.le_refl _)]
    · rw [if_neg h2, res]
/-- parts without c, put together, are cut to just these -/
def glueL (c : Nat) : List Nat → List (List Nat) → List Nat
  | p, [] => p
  | p, q :: r => p ++ c :: glueL c q r
theorem splitL_pre {c : Nat} : ∀ {p : List Nat} {r q : List Nat} {qs : List (List Nat)}, c ∉ p → splitL c r = q :: qs → splitL c (p ++ r) = (p ++ q) :: qs
  | [], _, _, _, _, e => e
  | a :: p, r, q, qs, h, e => by
    have h1 : a ≠ c := fun z => h (by rw [z]; exact List.mem_cons_self ..)
    have h2 : c ∉ p := fun z => h (List.mem_cons_of_mem _ z)
    exact splitL_cons_ne h1 (splitL_pre h2 e)
theorem splitL_glue {c : Nat} : ∀ {ps : List (List Nat)} {p : List Nat}, c ∉ p → (∀ q ∈ ps, c ∉ q) → splitL c (glueL c p ps) = p :: ps
  | [], p, h, _ => by
    have := splitL_pre (c := c) (p := p) (r := []) h rfl
    simpa [glueL] using this
  | q :: ps, p, h, hs => by
    have ih := splitL_glue (ps := ps) (p := q) (hs q (List.mem_cons_self ..)) fun x hx => hs x (List.mem_cons_of_mem _ hx)
    rw [glueL]
    have := splitL_pre (c := c) (p := p) (r := c :: glueL c q ps) h (by rw [splitL_cons_eq, ih])
    rw [this, List.append_nil]
/-- join, by rows of signs -/
theorem join_glue (c : Nat) : ∀ (ps : List Str) (p : Str), ((⟨#[c]⟩ : Str).join (p :: ps)).cps.toList = glueL c p.cps.toList (ps.map (·.cps.toList))
  | [], p => by
    show (p : Str).cps.toList = _
    rfl
  | q :: ps, p => by
    have ih := join_glue c ps q
    show (p ++ (⟨#[c]⟩ : Str) ++ (⟨#[c]⟩ : Str).join (q :: ps)).cps.toList = _
    rw [Str.cps_append, Str.cps_append, Array.toList_append, Array.toList_append, ih]
    simp [glueL]
theorem split_join {c : Nat} {p : Str} {ps : List Str} (hk : ¬ Builtin.Str.strKind ((⟨#[c]⟩ : Str).join (p :: ps)) < Builtin.Str.strKind ⟨#[c]⟩) (h : ∀ q ∈ p :: ps, c ∉ q.cps.toList) : Txt.split ((⟨#[c]⟩ : Str).join (p :: ps)) ⟨#[c]⟩ = p :: ps := by
  rw [split_one _ _ hk, join_glue, splitL_glue (h p (List.mem_cons_self ..)) (by
    intro q hq
    obtain ⟨z, hz, rfl⟩ := List.mem_map.mp hq
    exact h z (List.mem_cons_of_mem _ hz))]
  have e : ((fun q : List Nat => (⟨q.toArray⟩ : Str)) ∘ fun x : Str => x.cps.toList) = id := funext fun x => by simp
  simp [e]
theorem kind_low {x : Str} {c : Nat} (hc : c < 256) : ¬ Builtin.Str.strKind x < Builtin.Str.strKind ⟨#[c]⟩ := by
  have e : Builtin.Str.strKind ⟨#[c]⟩ = 1 := by
    unfold Builtin.Str.strKind
    rw [if_pos (by simp [hc])]
  rw [e]
  unfold Builtin.Str.strKind
  split
  · decide
  · split <;> decide
end TextM

set_option Elab.async false
set_option linter.all false
set_option maxRecDepth 100000
set_option maxHeartbeats 4000000
/-! list(reversed(l)); join, split; a part of a text. -/
namespace L2
open PySem PySem.Spec PyProof.Rows
section
variable {X : Cx}
/-! ### join, split -/
theorem strsAre_of : ∀ {zs : List Str} {us : List Value}, Vals (zs.map V.str) us → StrsAre us zs
  | [], _, .nil => .nil
  | z :: zs, _, .cons r rs => by
    obtain ⟨t, rfl⟩ := r
    exact .cons z t (strsAre_of rs)
def rJoin (K : PySem.W.Frag) : V → List V → Hp → VK → Prop := fun x xs H Q => ∃ sep a zs, x = .str sep ∧ xs = [.ref a] ∧ (SqL K H a (zs.map V.str) ∨ SqT K H a (zs.map V.str)) ∧ (zs.map (·.length)).sum + zs.length * sep.length ≤ 16777216 ∧ Q (.str (sep.join zs)) H
theorem mt_join (K : PySem.W.Frag) (hK : X.K = K := by rfl) : MtR X "str.join" (rJoin K) := by
  subst hK
  intro pins s σ H x xs v us Q I rx r h
  obtain ⟨sep, a, zs, rfl, rfl, ha, hz, q⟩ := h
  obtain ⟨t, rfl⟩ := rx
  obtain ⟨u, rfl, ru⟩ := vals1 r
  cases (show u = Value.ref a from ru)
  rcases ha with ha | ha
  · obtain ⟨its, rv, pl, _⟩ := I.list ha
    refine join_list pl.isList (strsAre_of rv) hz fun t' k => ⟨.str (sep.join zs), H, I.kept (t' := k) fun b u q => q, ?_, q⟩
    exact ⟨t', by rw [Txt.join, StrLaws.glued_eq_join]⟩
  · obtain ⟨its, rv, pl, _⟩ := I.tuple ha
    refine join_tuple pl (strsAre_of rv) hz fun t' k => ⟨.str (sep.join zs), H, I.kept (t' := k) fun b u q => q, ?_, q⟩
    exact ⟨t', by rw [Txt.join, StrLaws.glued_eq_join]⟩
theorem strsFrom_vals : ∀ (zs : List Str) (n : Nat), Vals (zs.map V.str) (strsFrom n zs)
  | [], _ => .nil
  | z :: zs, n => .cons ⟨_, rfl⟩ (strsFrom_vals zs (n + 1))
theorem parts_len (z : Str) (c : Nat) : ((TextM.splitL c z.cps.toList).map fun q => (⟨q.toArray⟩ : Str)).length ≤ z.length + 1 := by
  rw [List.length_map]
  have go : ∀ l : List Nat, (TextM.splitL c l).length ≤ l.length + 1 := by
    intro l
    induction l with
    | nil => exact Nat.le_refl _
    | cons a r ih =>
      obtain ⟨p, ps, e⟩ := TextM.splitL_ne c r
      by_cases h : a = c
      · subst h
        rw [TextM.splitL_cons_eq, List.length_cons, List.length_cons]
        omega
      · rw [TextM.splitL_cons_ne h e]
        rw [e] at ih
        simp only [List.length_cons] at ih ⊢
        omega
  have := go z.cps.toList
  rw [Array.length_toList] at this
  exact this
def partsOf (c : Nat) (z : Str) : List Str := (TextM.splitL c z.cps.toList).map fun q => (⟨q.toArray⟩ : Str)
def rSplit1 (c : Nat) : V → List V → Hp → VK → Prop := fun x xs H Q => ∃ z, x = .str z ∧ xs = [.str ⟨#[c]⟩] ∧ z.length ≤ 100000 ∧ ∀ D, H D = none → Q (.ref D) (upd H D (.lst ((partsOf c z).map V.str)))
theorem line_big : 100002 ≤ sizeLine := by decide
theorem mt_split1 (c : Nat) (hc : c < 256) : MtR X "str.split" (rSplit1 c) := by
  intro pins s σ H x xs v us Q I rx r h
  obtain ⟨z, rfl, rfl, hz, q⟩ := h
  obtain ⟨t, rfl⟩ := rx
  obtain ⟨u, rfl, ru⟩ := vals1 r
  obtain ⟨t2, rfl⟩ := ru
  have hb := line_big
  have sp := TextM.split_one z c (TextM.kind_low hc)
  have pl := parts_len z c
  have fin : ∀ (us : List Value) (tk : Nat), Vals ((partsOf c z).map V.str) us → EP X pins σ Q (.ref s.heap.objs.size) { s with heap := s.heap.push { cls := .type "list", data := .seq us.toArray }, toks := tk } := fun us tk rv =>
    ⟨.ref _, _, I.laid (t' := tk) (o := .lst ((partsOf c z).map V.str)) (fun b u e => Heap.get?_push_of_some _ e) (Nat.le_refl _) (show ObjOk X.prog X.w _ _ _ (.lst ((partsOf c z).map V.str)) from ⟨by rw [List.length_map]; unfold partsOf; omega, us, 0, rv, Heap.get?_push_size _ rfl⟩), rfl, q _ (I.hok.fresh (Nat.le_refl _))⟩
  unfold Txt.split at sp
  by_cases h1 : (decide (z.length < (⟨#[c]⟩ : Str).length) || decide (Builtin.Str.strKind z < Builtin.Str.strKind ⟨#[c]⟩)) = true
  · rw [if_pos h1] at sp
    refine call_meets PySem.F.slot_str_split rfl PySem.F.entry_str_split (PySem.F.args_str_split_2 _ _) (meets_str_split_cannot_occur z _ t t2 h1) (fin [.str z t] s.toks ?_)
    unfold partsOf
    rw [← sp]
    exact .cons ⟨_, rfl⟩ .nil
  · rw [if_neg h1] at sp
    by_cases h2 : (Builtin.Str.occurrences z ⟨#[c]⟩ 0 z.length (z.length + 1)).isEmpty = true
    · rw [if_pos h2] at sp
      refine call_meets PySem.F.slot_str_split rfl PySem.F.entry_str_split (PySem.F.args_str_split_2 _ _) (meets_str_split_not_found z _ t t2 (Bool.eq_false_iff.mpr h1) rfl h2) (fin [.str z t] s.toks ?_)
      unfold partsOf
      rw [← sp]
      exact .cons ⟨_, rfl⟩ .nil
    · rw [if_neg h2] at sp
      refine call_meets PySem.F.slot_str_split rfl PySem.F.entry_str_split (PySem.F.args_str_split_2 _ _) (meets_str_split_sep z _ t t2 (Bool.eq_false_iff.mpr h1) rfl (Bool.eq_false_iff.mpr h2) (by omega) (by rw [sp]; omega)) (fin _ _ ?_)
      unfold partsOf
      rw [← sp]
      exact strsFrom_vals _ _
end
end L2

set_option Elab.async false
set_option linter.all false
set_option maxRecDepth 100000
set_option maxHeartbeats 4000000
/-! l != l; isinstance of one of several; a part of a text; try, whatever the heap. -/
namespace L2
open PySem PySem.Spec PyProof.Rows
section
variable {X : Cx} {pins : List (Addr × Obj)} {σ : St} {H : Hp} {s : Shared}
theorem ne_lsts {ds ds' : List D} {xs xs' : List V} {us us' : List Value} {a a' : Addr} {A : Around} (I : Inv X pins σ H s) (hl : IsL X.K H ds xs) (hl' : IsL X.K H ds' xs') (rv : Vals xs us) (rv' : Vals xs' us')
    (z : s.heap.IsList a us.toArray) (z' : s.heap.IsList a' us'.toArray) (hu : A.units < cLine)
    (it : ∀ (j : Nat) (d d' : D) (u u' : Value), ds[j]? = some d → ds'[j]? = some d' → us[j]? = some u → us'[j]? = some u' → SeqAt.EqAt A.in1 s u u' (deq d d')) : SeqAt.RcNeAt A s (.ref a) (.ref a') (!deqL ds ds') := by
  have e1 : us.length = ds.length := by rw [← rv.length, hl.length]
  have e2 : us'.length = ds'.length := by rw [← rv'.length, hl'.length]
  by_cases q : ds.length = ds'.length
  · have g := SeqAt.RcNeAt.lists (e := eqItem ds ds') z z' (by simp only [List.size_toArray, e1, e2, q]) hu fun j h1 h2 => by
      have g1 : j < ds.length := by rw [← e1]; simpa using h1
      have g2 : j < ds'.length := by rw [← e2]; simpa using h2
      have k1 : ds[j]? = some ds[j] := List.getElem?_eq_getElem g1
      have k2 : ds'[j]? = some ds'[j] := List.getElem?_eq_getElem g2
      unfold eqItem
      rw [getD_of k1, getD_of k2]
      exact it j _ _ _ _ k1 k2 (by simp) (by simp)
    rw [show us.toArray.size = ds.length by simp [e1], eqItems q] at g
    exact g
  · rw [deqL_lengths q]
    exact SeqAt.RcNeAt.lists_lengths z z' (by simp only [List.size_toArray, e1, e2]; exact bne_iff_ne.mpr q) hu
theorem op_neL (hu : X.A.units + 64 < cLine) : OpR X (compareOp .NotEq) (fun x y H Q => ∃ ds ds', Is X.K H (.lst ds) x ∧ Is X.K H (.lst ds') y ∧ depL ds ≤ 50 ∧ Q (.bl (!deqL ds ds')) H) := by
  intro pins s σ H x y v u Q I rx ry h
  obtain ⟨ds, ds', ⟨a, xs, rfl, q1, hl⟩, ⟨a2, xs2, rfl, q2, hl2⟩, hd, q⟩ := h
  cases (show v = Value.ref a from rx)
  cases (show u = Value.ref a2 from ry)
  obtain ⟨its, rv, z⟩ := I.isList q1
  obtain ⟨its2, rv2, z2⟩ := I.isList q2
  exact (ne_lsts I hl hl2 rv rv2 z z2 (by omega) (eqL I ds ds' (A := X.A.in1) hl hl2 rv rv2 (by show X.A.units + 1 + depL ds < cLine; omega))) _ _ _ _ ⟨.bl _, H, I, rfl, q⟩
end
/-! ### isinstance(x, (C, D, ..)) -/
theorem kitAny_cons {K : PySem.W.Frag} {t c : Value} {cs : List Value} (h : PySem.W.kitOne K t c = some false) (hs : PySem.W.kitAny K t cs = some false) : PySem.W.kitAny K t (c :: cs) = some false := by
  unfold PySem.W.kitAny
  rw [h, hs]
theorem kitAny_nil {K : PySem.W.Frag} {t : Value} : PySem.W.kitAny K t [] = some false := rfl
theorem cls_vals : ∀ {cs : List V} {us : List Value}, Vals cs us → (cs.all isC) = true → us = cs.map clsV
  | [], _, .nil, _ => rfl
  | c :: cs, _, .cons r rs, h => by
    rw [List.all_cons, Bool.and_eq_true] at h
    have e := cls_vals rs h.2
    rw [List.map_cons, ← e]
    congr 1
    cases c with
    | ref a => exact r
    | ty n => exact r
    | _ => cases h.1
/-- isinstance(e, (C, D, ..)) of an exception -/
def tIsiX (K : PySem.W.Frag) (t : TA) : TE := fun σ H Q => t σ H fun xs H1 => ∃ a C tp cs b, xs = [.ref a, .ref tp] ∧ H1 a = some (ExcO (.ref C) a) ∧ ExcK K C ∧ SqT K H1 tp cs ∧ (cs.all isC) = true ∧ PySem.W.kitAny K (.ref C) (cs.map clsV) = some b ∧ Q (.bl b) H1
section
variable {X : Cx}
theorem call_isiX : CallR X (.builtin "isinstance") (fun xs H Q => ∃ a C tp cs b, xs = [.ref a, .ref tp] ∧ H a = some (ExcO (.ref C) a) ∧ ExcK X.K C ∧ SqT X.K H tp cs ∧ (cs.all isC) = true ∧ PySem.W.kitAny X.K (.ref C) (cs.map clsV) = some b ∧ Q (.bl b) H) := by
  intro pins s σ H xs us Q I r h
  obtain ⟨a, C, tp, cs, b, rfl, ea, Z, ht, hc, e, q⟩ := h
  obtain ⟨u, v, rfl, rx, rc⟩ := vals2 r
  cases (show u = Value.ref a from rx)
  cases (show v = Value.ref tp from rc)
  have fin : ∀ tk, EP X pins σ Q (.bool b) { s with toks := tk } := fun tk => ⟨.bl b, H, I.tok tk, rfl, q⟩
  obtain ⟨its, rv, pl, _⟩ := I.tuple ht
  rw [← cls_vals rv hc] at e
  obtain ⟨⟨oc, od, dat, sl⟩, h1, h2, n, h3⟩ := pl
  simp only at h2 h3
  subst h2 h3
  obtain ⟨p, _, _⟩ := (show ObjOk X.prog X.w H s.heap a (ExcO (.ref C) a) from I.hok a _ ea)
  exact PySem.W.kia_tup (kitx_exc Z) I.kIn p h1 e (fun z => nomatch z) fin
theorem pe_isiX (K : PySem.W.Frag) {p pos : Pos} {e : Expr} {es : List Expr} {t : TA} (hg : Gl X "isinstance") (hm : X.mg "isinstance" = none) (ha : PA X (e :: es) t) (hK : X.K = K := by rfl)
    (he : starEach (e :: es) X.env = (false, eval e X.env) :: starEach es X.env := by rfl) (hpl : (backTo pos (starEach es X.env)).any (·.1) = false := by rfl) : PE X (.Call (.Name "isinstance" p) (e :: es) [] pos) (tIsiX K t) := by
  subst hK
  exact pe_callB (call_isiX (X := X)) hg hm bt_isinstance ha (by decide) (by decide) he hpl
/-! ### a part of a text -/
def rSlS : V → Option Int → Option Int → Hp → VK → Prop := fun x lo hi H Q => ∃ z, x = .str z ∧ z.length ≤ sizeLine ∧ Q (.str (Txt.slice z lo hi)) H
theorem part_of {v : Value} {o : Option Int} (h : IsPart v o) : ∃ l : Option (Int × Tok), v = partValue l ∧ l.map (·.1) = o := by
  cases h with
  | none => exact ⟨none, rfl, rfl⟩
  | int i t => exact ⟨some (i, t), rfl, rfl⟩
theorem sl_str : SlR X rSlS := by
  intro pins s σ H x v vl vu lo hi sl Q I rx hs pl pu h
  obtain ⟨z, rfl, hz, q⟩ := h
  obtain ⟨t, rfl⟩ := rx
  obtain ⟨l, rfl, el⟩ := part_of pl
  obtain ⟨u, rfl, eu⟩ := part_of pu
  refine ⟨"str", _, PyProof.Rows.slot_str_getitem.lookup, rfl, wpAny_getItem_str_slice (st := none) hs rfl ?_⟩
  unfold sliceMade slicePicked
  rw [el, eu]
  show Made.post (if ((1 : Int) == 1 && (Builtin.Str.strSliceIndices lo hi 1 z.length).length == z.length) = true then _ else Made.str ⟨(List.filterMap (fun i => z.cps[i]?) (Builtin.Str.strSliceIndices lo hi 1 z.length)).toArray⟩) _ _
  have hle := Txt.slice_le z lo hi
  unfold Txt.slice at q hle
  by_cases c : ((1 : Int) == 1 && (Builtin.Str.strSliceIndices lo hi 1 z.length).length == z.length) = true
  · rw [if_pos c]
    rw [if_pos c] at q
    exact ⟨.str z, H, I, ⟨_, rfl⟩, q⟩
  · rw [if_neg c]
    rw [if_neg c] at q hle
    exact ⟨Nat.le_trans hle hz, .str _, H, I.tok _, ⟨_, rfl⟩, q⟩
end
theorem try_asF {C : Addr} {i : Nat} {tb : XS → TS} {ts : TS} {D : Ends} {σ σ' : St} {H : Hp} (hc : ∀ H' e, Same H H' → H' e = none → ts (endsOff i D) (σ'.set i (some (.ref e))) (upd H' e (ExcO (.ref C) e))) (hb : ∀ E : XS, (∀ H', Same H H' → E σ' (.ref C) none H') → tb E D σ H) : tTryAs C i tb ts D σ H :=
  hb _ fun H' s => ⟨rfl, fun e he => hc H' e s he⟩
end L2

set_option Elab.async false
set_option linter.all false
set_option maxRecDepth 100000
set_option maxHeartbeats 4000000
/-! Methods and new instances, where an exception is wanted as the frame says; fields with the fragment named. -/
namespace L2
open PySem PySem.Spec PyProof.Rows
section
variable {X : Cx} {CX : CXT} {k : Nat} {f C : Addr} {fd : FuncData} {ps : List Str} {sp : Sp} {dvs : List V} {ds : List Value} {E : XS} {x m : Str} {p pos apos : Pos} {e o : Expr} {es : List Expr} {ta : TE} {t : TA}
def tMethX (C : Addr) (m : Str) (sp : Sp) (dvs : List V) (E : XS) (ta : TE) (t : TA) : TE := fun σ H Q => ta σ H fun x H1 => ∃ a dx fs, x = .ref a ∧ H1 a = some (.ins C dx fs) ∧ fs.lookup m = none ∧
  t σ H1 fun vs H2 => sp (x :: (vs ++ dvs)) H2 Q (E σ)
theorem pe_methX {pl : Sem Bool} (he : PE X o ta) (c : Cls X.K C) (hm : Meth X.K C m f) (F : FnOk X.prog X.w X.K X.mg X.base CX k f fd ps sp) (hr : Room k X.A) (hb : Binds X.K fd ps ds) (hd : Vals dvs ds) (hx : PassesS CX X E) (ha : PA X (e :: es) t)
    (hst : starEach (e :: es) X.env = (false, eval e X.env) :: starEach es X.env := by rfl) (hpl : (backTo pos (starEach es X.env)).any (·.1) = false := by rfl)
    (ht : eval (.Call (.Attribute o m apos) (e :: es) [] pos) X.env = (do
      let ov ← eval o X.env
      standAt apos.atName
      let (f, first) ← holding [ov] (getMethod ov m pl)
      callWith pos f first (backTo pos (starEach (e :: es) X.env)) (backToKw pos (keywordEach [] X.env))) := by rfl) :
    PE X (.Call (.Attribute o m apos) (e :: es) [] pos) (tMethX C m sp dvs E ta t) := by
  intro pins s σ H Q I h
  refine PySem.W.methodCall_KW (pl := pl) (thn (he pins s σ H _ I h) fun u s1 ⟨x, H1, I1, rx, a, dx, fs, ex, ea, l, q⟩ => ?_) ht
  subst ex
  obtain rfl : u = Value.ref a := rx
  refine getmeth_ok I1 ea c hm l ?_
  refine PySem.W.callWith_K (first := [.ref a]) (h₀ := X.base) I.ok.mod.kin hm.kp (thn (ha pos pins s1 σ H1 _ I1 q) fun us s2 ⟨vs, H2, I2, r, q2⟩ => ⟨I2.kIn, ?_⟩) hst hpl
  exact run_fnX (us := .ref a :: us) (vs := .ref a :: vs) F hr hb hd hx I2 (.cons rfl r) q2
theorem pe_methX0 {pl : Sem Bool} (he : PE X o ta) (c : Cls X.K C) (hm : Meth X.K C m f) (F : FnOk X.prog X.w X.K X.mg X.base CX k f fd ps sp) (hr : Room k X.A) (hb : Binds X.K fd ps ds) (hd : Vals dvs ds) (hx : PassesS CX X E)
    (ht : eval (.Call (.Attribute o m apos) [] [] pos) X.env = (do
      let ov ← eval o X.env
      standAt apos.atName
      let (f, first) ← holding [ov] (getMethod ov m pl)
      callWith pos f first (backTo pos (starEach [] X.env)) (backToKw pos (keywordEach [] X.env))) := by rfl) :
    PE X (.Call (.Attribute o m apos) [] [] pos) (tMethX C m sp dvs E ta tNil) := by
  intro pins s σ H Q I h
  refine PySem.W.methodCall_KW (pl := pl) (thn (he pins s σ H _ I h) fun u s1 ⟨x, H1, I1, rx, a, dx, fs, ex, ea, l, q⟩ => ?_) ht
  subst ex
  obtain rfl : u = Value.ref a := rx
  refine getmeth_ok I1 ea c hm l ?_
  exact PySem.W.callWith_K0 (first := [.ref a]) I1.kIn hm.kp (run_fnX (us := [.ref a]) (vs := [.ref a]) F hr hb hd hx I1 (.cons rfl .nil) q)
def tMakeX (C : Addr) (sp : Sp) (dvs : List V) (E : XS) (t : TA) : TE := fun σ H Q => t σ H fun vs H1 => ∀ x dx, H1 x = none → H1 dx = none → dx ≠ x →
  sp (.ref x :: (vs ++ dvs)) (upd (upd H1 dx (.own x)) x (.ins C dx [])) (fun v H2 => v = .non ∧ Q (.ref x) H2) (E σ)
theorem run_makeX {pins : List (Addr × Obj)} {σ : St} {H : Hp} {s : Shared} {Q : VK} {us : List Value} {vs : List V} (M : Mk X.K C f) (F : FnOk X.prog X.w X.K X.mg X.base CX k f fd ps sp) (hr : Room (k + 1) X.A) (hb : Binds X.K fd ps ds) (hd : Vals dvs ds)
    (hx : PassesS CX X E) (I : Inv X pins σ H s) (r : Vals vs us)
    (h : ∀ x dx, H x = none → H dx = none → dx ≠ x → sp (.ref x :: (vs ++ dvs)) (upd (upd H dx (.own x)) x (.ins C dx [])) (fun v H2 => v = .non ∧ Q (.ref x) H2) (E σ)) :
    wpAny (model X.prog X.w) X.A (call (.ref C) us) (EP X pins σ Q) X.xe s := by
  have hq := h (s.heap.objs.size + 1) s.heap.objs.size (I.hok.fresh (Nat.le_succ _)) (I.hok.fresh (Nat.le_refl _)) (Nat.ne_of_lt (Nat.lt_succ_self _))
  have I2 := Inv.made (C := C) I
  have r2 : Vals (V.ref (s.heap.objs.size + 1) :: (vs ++ dvs)) (Value.ref (s.heap.objs.size + 1) :: (us ++ ds)) := .cons rfl (r.append hd)
  have hl : (Value.ref (s.heap.objs.size + 1) :: us ++ ds).length = ps.length := by
    have e := r2.length
    rw [F.len _ _ _ _ hq] at e
    exact e.symm
  refine wpAny_call (make_map (f := f) I.kIn M.makes M.init (beq_iff_eq.mp M.fn) (codeAny_mono (F.run _ X.stack _ _ ⟨Value.ref (s.heap.objs.size + 1) :: us, []⟩ (Value.ref (s.heap.objs.size + 1) :: (us ++ ds)) _ _ (E σ) (hr.make C us [])
    (I2.env0.make C us []) (hb _ (Value.ref (s.heap.objs.size + 1) :: us) I2.kIn hl) r2 hq) fun r s' hq' => ?_))
  cases r with
  | error e => exact hx pins σ _ _ e s' I2 hq'
  | ok fl =>
    cases fl with
    | ret u =>
      obtain ⟨v, H', I3, rv, ev, q3⟩ := I2.after hq'
      subst ev
      exact ⟨rv, ⟨V.ref (s.heap.objs.size + 1), H', I3, rfl, q3⟩⟩
    | next => exact False.elim hq'
    | brk => exact False.elim hq'
    | cont => exact False.elim hq'
theorem pe_makeX (M : Mk X.K C f) (F : FnOk X.prog X.w X.K X.mg X.base CX k f fd ps sp) (hr : Room (k + 1) X.A) (hg : Gl X x) (hm : X.mg x = some (.ref C)) (hb : Binds X.K fd ps ds) (hd : Vals dvs ds) (hx : PassesS CX X E)
    (ha : PA X (e :: es) t) (hdb : (x == ("__debug__" : Str)) = false := by decide) (he : starEach (e :: es) X.env = (false, eval e X.env) :: starEach es X.env := by rfl) (hpl : (backTo pos (starEach es X.env)).any (·.1) = false := by rfl) :
    PE X (.Call (.Name x p) (e :: es) [] pos) (tMakeX C sp dvs E t) := by
  intro pins s σ H Q I h
  refine wpAny_Call_Name_kw (ld_glob I hg hm ?_ hdb)
  refine PySem.W.callWith_K (h₀ := X.base) I.ok.mod.kin M.kp (thn (ha pos pins s σ H _ I h) fun us s1 ⟨vs, H1, I1, r, q⟩ => ⟨I1.kIn, ?_⟩) he hpl
  exact run_makeX M F hr hb hd hx I1 r q
end
section
variable {X : Cx}
/-! ### sorted of a list of texts -/
theorem vals_of_strs : ∀ {us : List Value} {zs : List Str}, StrsAre us zs → Vals (zs.map V.str) us
  | _, _, .nil => .nil
  | _, _, .cons y t r => .cons ⟨t, rfl⟩ (vals_of_strs r)
end
end L2

set_option Elab.async false
set_option linter.all false
set_option maxRecDepth 100000
set_option maxHeartbeats 4000000
/-! The lesser and the greater of two texts; sorted of whatever can be collected; how many keys a dict has. -/
namespace L2
open PySem PySem.Spec PyProof.Rows
section
variable {prog : Program} {w : World} {A : Around} {E : Value → Shared → Prop} {s : Shared}
end
section
variable {X : Cx}
end
end L2

set_option Elab.async false
set_option linter.all false
set_option maxRecDepth 100000
set_option maxHeartbeats 4000000
/-! setdefault of a dict whose keys are tuples. -/
namespace L2
open PySem PySem.Spec PyProof.Rows
section
variable {prog : Program} {w : World} {K : Type} [DecidableEq K] {knd : HeapKind prog w K} {A : Around} {E : Value → Shared → Prop} {s : Shared}
end
section
variable {X : Cx} {pins : List (Addr × Obj)} {σ : St} {H : Hp} {s : Shared} {a b : Addr} {kvs : List (List Key × V)} {k : List Key} {d : V} {r : Value} {A : Around} {E : Value → Shared → Prop}
end
section
variable {X : Cx} {o e f : Expr} {apos cpos : Pos} {td ty tx : TE}
end
end L2

set_option Elab.async false
set_option linter.all false
set_option maxRecDepth 100000
set_option maxHeartbeats 4000000
/-! sorted of a dict whose keys are texts. -/
namespace L2
open PySem PySem.Spec PyProof.Rows PySem.W
section
variable {prog : Program} {w : World} {A : Around} {E : Value → Shared → Prop} {s : Shared} {T : String} {r d : Addr} {n : Nat} {P : Nat → Value → Prop} {OK : Heap → Prop}
end
section
variable {X : Cx}
theorem txt_is {P : Program} {w : World} {x : Str} {v : Value} (h : (mixKind P w).is (.inr x) v = true) : ∃ t, v = .str x t := by
  rcases keyIs_shape (show keyIs (.inr x) v = true from h) with ⟨i, t, e, _⟩ | ⟨y, t, e, e2⟩
  · cases e
  · cases e
    exact ⟨t, e2⟩
theorem strsAre_at : ∀ {vs : List Value} {ss : List Str}, vs.length = ss.length → (∀ (i : Nat) (v : Value), vs[i]? = some v → ∃ x t, ss[i]? = some x ∧ v = .str x t) → StrsAre vs ss
  | [], [], _, _ => .nil
  | v :: vs, x :: ss, hl, h => by
    obtain ⟨y, t, e, rfl⟩ := h 0 v rfl
    cases (show some x = some y from e)
    exact .cons x t (strsAre_at (by simpa using hl) fun i u hu => by
      obtain ⟨z, t', e1, e2⟩ := h (i + 1) u (by simpa using hu)
      exact ⟨z, t', by simpa using e1, e2⟩)
end
end L2

set_option Elab.async false
set_option linter.all false
set_option maxRecDepth 100000
set_option maxHeartbeats 4000000
/-! the greatest of a list of whole numbers -/
namespace L2
open PySem PySem.Spec PyProof.Rows
section
variable {X : Cx}
end
end L2

set_option Elab.async false
set_option linter.all false
set_option maxRecDepth 100000
set_option maxHeartbeats 4000000
/-! a dict stands frozen while it is walked -/
namespace L2
open PySem PySem.Spec PyProof.Rows
section
variable {X : Cx} {pins : List (Addr × Obj)} {σ : St} {H H' : Hp} {s : Shared} {d : Addr} {kvs : List (Key × V)} {o : Obj}
end
end L2

set_option Elab.async false
set_option linter.all false
set_option maxRecDepth 100000
set_option maxHeartbeats 4000000
/-! sorted and min of a list of whole numbers; enumerate of a list; zip of two lists; a list turned about by a slice -/
namespace L2
open PySem PySem.Spec PyProof.Rows
section
variable {X : Cx}
end
/-! ### enumerate of a list -/
section
variable {X : Cx}
end
/-! ### zip of two lists -/
section
variable {X : Cx}
end
/-! ### loops over these, and a comprehension whose results are made on the way -/
/-- H' is H but for what lies at D -/
def But1 (D : Addr) (H H' : Hp) : Prop := ∀ b u, b ≠ D → H b = some u → H' b = some u
theorem comp_runD {J : It} {σ0 : St} {g : TG} {te : TE} {Q : VK} {H1 : Hp} (n : Nat) (P : Nat → Hp → V → Prop) (mono : ∀ i H H' v D xs, P i H v → H D = some (.lst xs) → But1 D H H' → P i H' v) (hn : n < sizeLine) (σP : St → Prop) (h0 : σP σ0)
    (go : ∀ i H, i < n → Same H1 H → J.go i H) (stop : ∀ H, Same H1 H → J.stop n H)
    (step : ∀ i σ H x H', i < n → σP σ → Same H1 H → J.yld i H x H' → ∀ C : V → St → Hp → Prop, (∀ y σ2 H6, σP σ2 → Same H H6 → P i H6 y → C y σ2 H6) → g x σ H' fun σ2 H4 => te σ2 H4 fun y' H6 => C y' σ2 H6)
    (fin : ∀ D ys H', H1 D = none → Same H1 H' → H' D = some (.lst ys) → ys.length = n → (∀ i y, ys[i]? = some y → P i H' y) → Q (.ref D) H') : compR J σ0 g tYes te Q H1 := by
  intro D hD
  have keep : ∀ {H : Hp} {o : HO}, Same H1 H → Same H1 (upd H D o) := fun {H o} e b u q => by
    rw [upd_ne (ne_of_none q hD)]
    exact e b u q
  refine ⟨fun i m σ ys H => i ≤ n ∧ m = n - i ∧ σP σ ∧ ys.length = i ∧ (∀ j y, ys[j]? = some y → P j H y) ∧ H D = some (.lst ys) ∧ Same H1 H, ⟨_, Nat.zero_le _, rfl, h0, rfl, fun j y e => by simp at e, upd_same, keep (Same.refl H1)⟩, ?_⟩
  rintro i m σ ys H ⟨hi, rfl, p, hy, hP, hd, sm⟩
  refine ⟨hd, ?_⟩
  by_cases lt : i < n
  · refine .inr ⟨go i H lt sm, fun σ2 ys2 H3 => σP σ2 ∧ ys2.length = i + 1 ∧ (∀ j y, ys2[j]? = some y → P j H3 y) ∧ H3 D = some (.lst ys2) ∧ Same H1 H3, fun σ2 ys2 H3 ⟨a, b, c, d, e⟩ => ⟨_, by omega, lt, rfl, a, b, c, d, e⟩, fun x H3 y => ?_⟩
    refine step i σ H x H3 lt p sm y (fun y' σ2 H6 => H6 D = some (.lst ys) ∧ ys.length < sizeLine ∧ σP σ2 ∧ (ys ++ [y']).length = i + 1 ∧ (∀ j z, (ys ++ [y'])[j]? = some z → P j (upd H6 D (.lst (ys ++ [y']))) z) ∧ upd H6 D (.lst (ys ++ [y'])) D = some (.lst (ys ++ [y'])) ∧ Same H1 (upd H6 D (.lst (ys ++ [y'])))) fun y' σ2 H6 p2 s6 hp6 => ?_
    have hd6 := s6 _ _ hd
    have bt : But1 D H6 (upd H6 D (.lst (ys ++ [y']))) := fun b u nb e => by rw [upd_ne nb]; exact e
    refine ⟨hd6, by omega, p2, by simp [hy], fun j z e => ?_, upd_same, keep (sm.trans s6)⟩
    by_cases jl : j < ys.length
    · rw [List.getElem?_append_left jl] at e
      exact mono j H _ z D _ (hP j z e) hd (fun b u nb e => bt b u nb (s6 b u e))
    · have e0 : j = i := by
        have := (List.getElem?_eq_some_iff.mp e).1
        simp at this
        omega
      subst e0
      rw [List.getElem?_append_right (by omega), hy, Nat.sub_self] at e
      cases (show y' = z by simpa using e)
      exact mono j H6 _ _ D _ hp6 hd6 bt
  · have e : i = n := by omega
    subst e
    exact .inl ⟨stop H sm, fin D ys H hD sm hd hy hP⟩
end L2

set_option Elab.async false
set_option linter.all false
set_option maxRecDepth 100000
set_option maxHeartbeats 4000000
/-! a statement round which a dict stands frozen; a def with a default argument -/
namespace L2
open PySem PySem.Spec PyProof.Rows
end L2

set_option Elab.async false
set_option linter.all false
set_option maxRecDepth 100000
set_option maxHeartbeats 4000000
/-! a try whose except clause names a class that stands above what is raised -/
namespace L2
open PySem PySem.Spec PyProof.Rows
section
variable {X : Cx} {body suite : List Stmt} {b₀ : Stmt} {x n : Str} {C : Addr} {np hpos pos : Pos} {bmB : List Value} {newId : String} {i : Nat} {tb : XS → TS} {ts : TS}
end
end L2

set_option Elab.async false
set_option linter.all false
set_option maxRecDepth 100000
set_option maxHeartbeats 4000000
/-! a for over a text's signs, and over whatever walks by itself -/
namespace L2
open PySem PySem.Spec PyProof.Rows
end L2

set_option linter.all false
set_option Elab.async false
/-! Sorting of any length: runs, insertion, galloping merges. The order is one of keys; what compares two items is said once (Cmp). -/
namespace SA
open PySem PyProof.Rows
section
variable {M : Model} {A : Around} {E : Value → Shared → Prop} {s : Shared}
variable {O : KeyOrd} {key : Keyed → O.α} {D : Keyed → Prop} {kd : SortKind}
end
end SA

set_option linter.all false
set_option Elab.async false
namespace SA
open PySem PyProof.Rows
section
variable {M : Model} {A : Around} {E : Value → Shared → Prop} {s : Shared} {O : KeyOrd} {key : Keyed → O.α} {D : Keyed → Prop} {kd : SortKind}
end
end SA

set_option linter.all false
set_option Elab.async false
namespace SA
open PySem PyProof.Rows
section
variable {M : Model} {A : Around} {E : Value → Shared → Prop} {s : Shared} {O : KeyOrd} {key : Keyed → O.α} {D : Keyed → Prop} {kd : SortKind}
end
end SA

set_option linter.all false
set_option Elab.async false
namespace SA
open PySem PyProof.Rows
section
variable {O : KeyOrd} {key : Keyed → O.α}
end
end SA

set_option linter.all false
set_option Elab.async false
namespace SA
open PySem PyProof.Rows
section
variable {M : Model} {A : Around} {E : Value → Shared → Prop} {s : Shared} {O : KeyOrd} {key : Keyed → O.α} {D : Keyed → Prop} {kd : SortKind}
end
end SA

set_option linter.all false
set_option Elab.async false
namespace SA
open PySem PyProof.Rows
section
variable {M : Model} {A : Around} {E : Value → Shared → Prop} {s : Shared} {O : KeyOrd} {key : Keyed → O.α} {D : Keyed → Prop} {kd : SortKind}
end
end SA

set_option linter.all false
set_option Elab.async false
namespace SA
open PySem PyProof.Rows
section
variable {M : Model} {A : Around} {E : Value → Shared → Prop} {s : Shared} {O : KeyOrd} {key : Keyed → O.α} {D : Keyed → Prop} {kd : SortKind} {d : O.α}
end
end SA

set_option linter.all false
set_option Elab.async false
namespace SA
open PySem PyProof.Rows
section
variable {M : Model} {A : Around} {E : Value → Shared → Prop} {s : Shared} {O : KeyOrd} {key : Keyed → O.α} {D : Keyed → Prop} {kd : SortKind} {d : O.α}
end
end SA

set_option linter.all false
set_option Elab.async false
namespace SA
open PySem PyProof.Rows
section
variable {M : Model} {A : Around} {E : Value → Shared → Prop} {s : Shared} {O : KeyOrd} {key : Keyed → O.α} {D : Keyed → Prop} {kd : SortKind} {d : O.α} {a0 : List Keyed}
end
end SA

set_option linter.all false
set_option Elab.async false
namespace SA
open PySem PyProof.Rows
section
variable {M : Model} {A : Around} {E : Value → Shared → Prop} {s : Shared} {O : KeyOrd} {key : Keyed → O.α} {D : Keyed → Prop} {kd : SortKind} {d : O.α} {a0 : List Keyed}
end
end SA

set_option linter.all false
set_option Elab.async false
namespace SA
open PySem PyProof.Rows PySem.W
/-! Tuples of whole numbers and texts, in their order. -/
section
variable {prog : Program} {w : World} {A : Around} {E : Value → Shared → Prop} {s : Shared}
end
end SA

set_option Elab.async false
set_option linter.all false
set_option maxRecDepth 100000
set_option maxHeartbeats 4000000
/-! The values of a dict, whatever its keys: the walker over them; sorted of them. -/
namespace L2
open PySem PySem.Spec PyProof.Rows PySem.W
section
variable {prog : Program} {w : World} {A : Around} {E : Value → Shared → Prop} {s : Shared}
end
end L2

set_option Elab.async false
set_option linter.all false
set_option maxRecDepth 100000
set_option maxHeartbeats 4000000
/-! d.values(), and sorted of it, where the values are tuples whose first item is a text. -/
namespace L2
open PySem PySem.Spec PyProof.Rows PySem.W SA
section
variable {prog : Program} {w : World} {A : Around} {E : Value → Shared → Prop} {s : Shared}
end
section
variable {X : Cx}
end
end L2

set_option Elab.async false
set_option linter.all false
set_option maxRecDepth 100000
set_option maxHeartbeats 4000000
/-! a def with a default argument, all of whose arguments are given; sorted of a list of tuples whose first item is a text. -/
namespace L2
open PySem PySem.Spec PyProof.Rows PySem.W SA
section
variable {X : Cx}
end
end L2

set_option Elab.async false
set_option linter.all false
set_option maxRecDepth 100000
set_option maxHeartbeats 4000000
/-! The values of a dict with tuples for keys, walked; it stands frozen meanwhile. -/
namespace L2
open PySem PySem.Spec PyProof.Rows PySem.W SA
section
variable {X : Cx} {pins : List (Addr × Obj)} {σ : St} {H H' : Hp} {s : Shared} {d : Addr} {kvs : List (List Key × V)} {o : Obj}
end
end L2

set_option Elab.async false
set_option linter.all false
set_option maxRecDepth 100000
set_option maxHeartbeats 4000000
/-! (a, b, ..) = a list of that length. -/
namespace L2
open PySem PySem.Spec PyProof.Rows PySem.W SA
section
variable {prog : Program} {w : World} {A : Around} {E : Value → Shared → Prop}
theorem draw_lst {it l : Addr} {items : Array Value} (hne : l ≠ it) : ∀ (n i : Nat) (s : Shared) (Q : List Value → Shared → Prop), s.heap.IsListIter it l i → s.heap.IsList l items → i + n ≤ items.size →
    (∀ h', h'.IsListIter it l (i + n) → Heap.SameBut it s.heap h' → Q ((items.toList.drop i).take n) { s with heap := h' }) → wpAny (model prog w) A (draw (.ref it) n) Q E s
  | 0, i, s, Q, hit, _, _, hQ => by
    show wpAny _ _ (pure []) Q E s
    exact wpAny_pure (by simpa using hQ s.heap hit (Heap.SameBut.refl ..))
  | n + 1, i, s, Q, hit, ht, hle, hQ => by
    have hlt : i < items.size := by omega
    show wpAny _ _ (pyNext (.ref it) >>= _) Q E s
    refine wpAny_bind (wpAny_pyNext_list_item hit ht (x := items[i]) (by simp [hlt]) fun h₁ hit₁ hs₁ => ?_)
    have ht1 : h₁.IsList l items := by obtain ⟨o, ho, x⟩ := ht; exact ⟨o, hs₁.extBut l o hne ho, x⟩
    refine wpAny_bind (wpAny_holding (draw_lst hne n (i + 1) _ _ hit₁ ht1 (by omega) fun h₂ hit₂ hs₂ => wpAny_pure ?_))
    have hd : items.toList.drop i = items[i] :: items.toList.drop (i + 1) := by simp [List.drop_eq_getElem_cons, hlt]
    have := hQ h₂ (by rw [show i + (n + 1) = i + 1 + n by omega]; exact hit₂) (hs₁.trans hs₂)
    rw [hd, List.take_succ_cons] at this
    exact this
theorem unpackItems_lst {s : Shared} {l : Addr} {items : Array Value} {Q : List Value → Shared → Prop} (hh : A.handled = none) (ht : s.heap.IsList l items)
    (hQ : ∀ h', Heap.ExtBut s.heap.objs.size s.heap h' → Q items.toList { s with heap := h' }) : wpAny (model prog w) A (unpackItems (.ref l) items.size none) Q E s := by
  have hlt : l ≠ s.heap.objs.size := by obtain ⟨o, ho, _⟩ := ht; exact Nat.ne_of_lt (Heap.lt_size ho)
  have htp : ∀ {x : Obj}, (s.heap.push x).IsList l items := fun {x} => by obtain ⟨o, ho, y⟩ := ht; exact ⟨o, Heap.get?_push_of_some _ ho, y⟩
  unfold unpackItems
  refine wpAny_bind ?_
  · unfold notIterableAtAll
    refine wpAny_bind (wpAny_specialOf ht.typeIs slot_list_iter.lookup ?_)
    refine wpAny_pure ?_
    simp only [Bool.false_eq_true, if_false]
    refine wpAny_bind (wpAny_holding (wpAny_pyIter_list ht ?_))
    refine wpAny_bind (wpAny_holding (draw_lst hlt items.size 0 _ _ ⟨_, Heap.get?_push_size _ rfl, rfl, rfl⟩ htp (by omega) fun h₁ hit₁ hs₁ => ?_))
    have hall : List.take items.size (List.drop 0 items.toList) = items.toList := by
      rw [List.drop_zero]; exact List.take_of_length_le (by simp)
    rw [hall]
    rw [if_neg (by simp)]
    have ht₁ : h₁.IsList l items := by obtain ⟨o, ho, y⟩ := (htp : (s.heap.push _).IsList l items); exact ⟨o, hs₁.extBut l o hlt ho, y⟩
    refine wpAny_bind (wpAny_holding (wpAny_pyNext_list_end hh hit₁ ht₁ (by simp) fun h₂ he₂ => ?_))
    simp only [Option.isSome_none, Bool.false_eq_true, if_false]
    refine wpAny_pure (hQ h₂ fun b o hb e => he₂ b o hb (hs₁.extBut b o hb (Heap.get?_push_of_some _ e)))
end
def gLst (K : PySem.W.Frag) (n : Nat) (t : TGs) : TG := fun v σ H Q => ∃ a xs, v = .ref a ∧ SqL K H a xs ∧ xs.length = n ∧ t xs σ H Q
theorem pg_lst {X : Cx} {es : List Expr} {k : Nat} {t : TGs} {n : Nat} {pos : Pos} (hc : X.calm = true) (h : PGs X es t)
    (hn : (assignEach es X.env).length = n := by rfl) (hst : (assignEach es X.env).findIdx? (·.1) = none := by rfl) : PG X (.Tuple es k pos) (gLst X.K n t) := by
  intro pins s σ H v u Q I r hw
  obtain ⟨a, xs, e1, hq, hl, hw⟩ := hw
  subst e1
  cases r
  obtain ⟨its, rv, ht, hz⟩ := I.list hq
  rw [arm_assign_Tuple]
  refine wpAny_bind (wpAny_standAt ?_)
  unfold unpack
  have hn2 : (assignEach es X.env).length = its.toArray.size := by simp [hn, ← hl, rv.length]
  rw [hn2, hst]
  refine wpAny_bind (wpAny_holding (unpackItems_lst (I.ok.hd hc) ht.isList fun h' hx => ?_))
  have I1 : Inv X pins σ H { s with heap := h' } := I.kept (t' := s.toks) fun b o e => hx b o (Nat.ne_of_lt (Heap.lt_size e)) e
  exact h pins _ σ H xs _ Q I1 (by simpa using rv) hw
end L2
namespace L2
open PySem PySem.Spec PyProof.Rows PySem.W SA
end L2

set_option Elab.async false
set_option linter.all false
set_option maxRecDepth 100000
set_option maxHeartbeats 4000000
/-! What the top has made of a def, in one piece. -/
namespace L2
open PySem PySem.Spec PyProof.Rows PySem.W
def fdAt (K : PySem.W.Frag) (f : Addr) : FuncData := match K.lookup f with
  | some ⟨_, _, .func fd, _⟩ => fd
  | _ => default
structure DefIn (K : PySem.W.Frag) (x q : Str) (st : Stmt) (f : Addr) : Prop where
  ex : ∃ (oc : Value) (od : Option Addr) (kV doc pm : Value) (an : Option Addr) (cdv ct : Value) (osl : Array (Option Value)),
    K.lookup f = some ⟨oc, od, .func (fnOf x q (defArgs st) (defBody st) (defScope st) .none kV doc pm an cdv ct), osl⟩ ∧ codeIn K cdv q = true
  kp : keepIn K (.ref f) = true
theorem DefIn.fn {K : PySem.W.Frag} {x q : Str} {st : Stmt} {f : Addr} (h : DefIn K x q st f) : Fun K x q st f (fdAt K f) := by
  obtain ⟨oc, od, kV, doc, pm, an, cdv, ct, osl, lk, hc⟩ := h.ex
  have e : fdAt K f = fnOf x q (defArgs st) (defBody st) (defScope st) .none kV doc pm an cdv ct := by unfold fdAt; rw [lk]
  rw [e]
  exact fun_mk lk hc h.kp
/-- how arguments are bound: all are given -/
def BindAll (x q : Str) (st : Stmt) (ps : List Str) : Prop := ∀ (kV doc pm : Value) (an : Option Addr) (cdv ct : Value) (us : List Value), us.length = ps.length → bindArgs (fnOf x q (defArgs st) (defBody st) (defScope st) .none kV doc pm an cdv ct) ⟨us, []⟩ = pure (ps.zip us)
structure Df (K : PySem.W.Frag) (mg : Str → Option Value) (x : Str) (st : Stmt) (ps : List Str) where
  a : Addr
  F : Fun K x x st a (fdAt K a)
  b : Binds K (fdAt K a) ps []
  m : mg x = some (.ref a)
structure Dm (K : PySem.W.Frag) (C : Addr) (x q : Str) (st : Stmt) (ps : List Str) where
  a : Addr
  F : Fun K x q st a (fdAt K a)
  b : Binds K (fdAt K a) ps []
  me : Meth K C x a
def Df.of {K : PySem.W.Frag} {mg : Str → Option Value} {h : Heap} {x : Str} {st : Stmt} {ps : List Str} {f : Addr} (X : K.In h) (G : h.Ns mainGlobals mg) (a : nsIn K mainGlobals x = some (some (.ref f))) (l : DefIn K x x st f) (hb : BindAll x x st ps) : Df K mg x st ps := ⟨f, l.fn, l.fn.binds hb, mg_of X G a⟩
def Dm.of {K : PySem.W.Frag} {C : Addr} {x q : Str} {st : Stmt} {ps : List Str} {f : Addr} (a : findIn K (.ref C) x = some (some (.ref f))) (i : isFn K (.ref f) = true) (l : DefIn K x q st f) (hb : BindAll x q st ps) : Dm K C x q st ps := ⟨f, l.fn, l.fn.binds hb, ⟨a, i, l.kp⟩⟩
/-- a list whose length is known -/
theorem un1 {P : List Value → Prop} (h : ∀ a, P [a]) : ∀ us, us.length = 1 → P us
  | [_], _ => h _
theorem un2 {P : List Value → Prop} (h : ∀ a b, P [a, b]) : ∀ us, us.length = 2 → P us
  | [_, _], _ => h _ _
theorem un3 {P : List Value → Prop} (h : ∀ a b c, P [a, b, c]) : ∀ us, us.length = 3 → P us
  | [_, _, _], _ => h _ _ _
end L2

set_option linter.all false
namespace TextG
open PySem
/-- a row of signs cut at each y, from the left; s signs are left out first -/
def splitG (y : List Nat) : Nat → List Nat → List (List Nat)
  | _, [] => [[]]
  | s + 1, _ :: r => splitG y s r
  | 0, a :: r => if (a :: r).take y.length = y then [] :: splitG y (y.length - 1) r else match splitG y 0 r with
    | [] => [[a]]
    | p :: ps => (a :: p) :: ps
def cutsG (y : List Nat) : Nat → Nat → List Nat → List Nat
  | _, _, [] => []
  | s + 1, k, _ :: r => cutsG y s (k + 1) r
  | 0, k, a :: r => if (a :: r).take y.length = y then k :: cutsG y (y.length - 1) (k + 1) r else cutsG y 0 (k + 1) r
theorem splitG_ne (y : List Nat) : ∀ s l, ∃ p ps, splitG y s l = p :: ps
  | 0, [] => ⟨_, _, by unfold splitG; rfl⟩
  | s + 1, [] => ⟨_, _, by unfold splitG; rfl⟩
  | s + 1, _ :: r => by unfold splitG; exact splitG_ne y s r
  | 0, a :: r => by
    unfold splitG
    by_cases h : (a :: r).take y.length = y
    · rw [if_pos h]; exact ⟨_, _, rfl⟩
    · rw [if_neg h]
      obtain ⟨p, ps, e⟩ := splitG_ne y 0 r
      rw [e]
      exact ⟨_, _, rfl⟩
theorem splitG_nil (y : List Nat) (s : Nat) : splitG y s [] = [[]] := by cases s <;> unfold splitG <;> rfl
theorem splitG_skip (y : List Nat) (s a : Nat) (r : List Nat) : splitG y (s + 1) (a :: r) = splitG y s r := by rw [splitG]
theorem splitG_hit {y : List Nat} {a : Nat} {r : List Nat} (h : (a :: r).take y.length = y) : splitG y 0 (a :: r) = [] :: splitG y (y.length - 1) r := by rw [splitG, if_pos h]
theorem splitG_miss {y : List Nat} {a : Nat} {r p : List Nat} {ps : List (List Nat)} (h : ¬ (a :: r).take y.length = y) (e : splitG y 0 r = p :: ps) : splitG y 0 (a :: r) = (a :: p) :: ps := by rw [splitG, if_neg h, e]
theorem cutsG_nil (y : List Nat) (s k : Nat) : cutsG y s k [] = [] := by cases s <;> unfold cutsG <;> rfl
theorem cutsG_skip (y : List Nat) (s k a : Nat) (r : List Nat) : cutsG y (s + 1) k (a :: r) = cutsG y s (k + 1) r := by rw [cutsG]
theorem cutsG_hit {y : List Nat} {k a : Nat} {r : List Nat} (h : (a :: r).take y.length = y) : cutsG y 0 k (a :: r) = k :: cutsG y (y.length - 1) (k + 1) r := by rw [cutsG, if_pos h]
theorem cutsG_miss {y : List Nat} {k a : Nat} {r : List Nat} (h : ¬ (a :: r).take y.length = y) : cutsG y 0 k (a :: r) = cutsG y 0 (k + 1) r := by rw [cutsG, if_neg h]
theorem drop_at {l : List Nat} {k : Nat} (lt : k < l.length) : ∃ v, l.drop k = v :: l.drop (k + 1) ∧ l[k]? = some v := ⟨l[k], List.drop_eq_getElem_cons lt, List.getElem?_eq_getElem lt⟩
theorem pre_le {y l : List Nat} (h : l.take y.length = y) : y.length ≤ l.length := by
  have := congrArg List.length h
  rw [List.length_take] at this
  omega
theorem occ_loop (x y : Str) (hy : 0 < y.length) (lim : Nat) (hl : x.length < lim) : ∀ (m k : Nat) (found : Array Nat) (free s : Nat), k + m = x.length → found.size ≤ k → free ≤ k + s → (0 < s → free = k + s) →
    (forIn (List.range' k (m + 1)) (found, free) (StrLaws.occBody x y x.length lim)).run.fst.toList = found.toList ++ cutsG y.cps.toList s k (x.cps.toList.drop k)
  | 0, k, found, free, s, hk, hs, hf, hf2 => by
    have e : x.cps.toList.drop k = [] := List.drop_eq_nil_of_le (by rw [Array.length_toList]; show x.length ≤ k; omega)
    rw [e, cutsG_nil, List.append_nil]
    rw [List.range'_succ, List.range'_zero, List.forIn_cons]
    have no : ¬ (k + y.length ≤ x.length) := by omega
    unfold StrLaws.occBody
    simp [no]
  | m + 1, k, found, free, s, hk, hs, hf, hf2 => by
    have lt : k < x.cps.toList.length := by rw [Array.length_toList]; show k < x.length; omega
    rw [List.range'_succ, List.forIn_cons]
    obtain ⟨v, dr, ev⟩ := drop_at lt
    have yl : y.cps.toList.length = y.length := by rw [Array.length_toList]; rfl
    cases s with
    | succ s =>
      have st : StrLaws.occBody x y x.length lim k (found, free) = pure (ForInStep.yield (found, free)) := by
        unfold StrLaws.occBody
        have := hf2 (Nat.succ_pos _)
        have no : ¬ free ≤ k := by omega
        simp [no]
      rw [st, pure_bind]
      have ih := occ_loop x y hy lim hl m (k + 1) found free s (by omega) (by omega) (by omega) (by intro; have := hf2 (Nat.succ_pos _); omega)
      rw [dr, cutsG_skip]
      simpa using ih
    | zero =>
      have sub := StrLaws.subAt_eq x y k
      rw [dr] at sub
      by_cases h : (v :: x.cps.toList.drop (k + 1)).take y.cps.toList.length = y.cps.toList
      · have pl := pre_le h
        rw [← dr, List.length_drop, yl, Array.length_toList] at pl
        have pl2 : y.length ≤ x.length - k := pl
        have i1 : k + y.length ≤ x.length := by omega
        have t : Builtin.Str.subAt x y k = true := by rw [sub, ← yl, h]; simp
        have st : StrLaws.occBody x y x.length lim k (found, free) = pure (ForInStep.yield (found.push k, k + y.length)) := by
          unfold StrLaws.occBody
          have z1 : found.size < lim := by omega
          have z2 : free ≤ k := by omega
          simp [z1, z2, i1, t]
        rw [st, pure_bind]
        have ih := occ_loop x y hy lim hl m (k + 1) (found.push k) (k + y.length) (y.length - 1) (by omega) (by simp; omega) (by omega) (by intro; omega)
        rw [dr, cutsG_hit h, yl]
        simpa using ih
      · have t : Builtin.Str.subAt x y k = false := by
          rw [sub, ← yl]
          exact beq_eq_false_iff_ne.mpr h
        have st : StrLaws.occBody x y x.length lim k (found, free) = pure (ForInStep.yield (found, free)) := by
          unfold StrLaws.occBody
          simp [t]
        rw [st, pure_bind]
        have ih := occ_loop x y hy lim hl m (k + 1) found free 0 (by omega) (by omega) (by omega) (by intro z; omega)
        rw [dr, cutsG_miss h]
        simpa using ih
theorem occ_all (x y : Str) (hy : 0 < y.length) : Builtin.Str.occurrences x y 0 x.length (x.length + 1) = cutsG y.cps.toList 0 0 x.cps.toList := by
  rw [StrLaws.occ_eq]
  have := occ_loop x y hy (x.length + 1) (Nat.lt_succ_self _) x.length 0 #[] 0 0 (by omega) (Nat.le_refl _) (Nat.le_refl _) (by intro z; omega)
  simpa using this
theorem between (x : Str) (n : Nat) : ∀ (cuts : List Nat) (a : Nat), ((a :: cuts.map (· + n)).zip (cuts ++ [x.length])).map (fun p => Builtin.Str.strSub x p.1 p.2) = match cuts with
    | [] => [Builtin.Str.strSub x a x.length]
    | d :: r => Builtin.Str.strSub x a d :: (((d + n) :: r.map (· + n)).zip (r ++ [x.length])).map (fun p => Builtin.Str.strSub x p.1 p.2)
  | [], a => rfl
  | d :: r, a => rfl
theorem parts_all (x y : Str) (hy : 0 < y.length) : ∀ (m k a s : Nat), k + m = x.length → a ≤ k + s → (0 < s → a = k + s) → k + s ≤ x.length →
    ∃ p ps, splitG y.cps.toList s (x.cps.toList.drop k) = p :: ps ∧
    ((a :: (cutsG y.cps.toList s k (x.cps.toList.drop k)).map (· + y.length)).zip (cutsG y.cps.toList s k (x.cps.toList.drop k) ++ [x.length])).map (fun p => Builtin.Str.strSub x p.1 p.2) =
      (⟨((x.cps.toList.drop a).take (k - a) ++ p).toArray⟩ : Str) :: ps.map fun q => (⟨q.toArray⟩ : Str)
  | 0, k, a, s, hk, ha, hs, hb => by
    have e : x.cps.toList.drop k = [] := List.drop_eq_nil_of_le (by rw [Array.length_toList]; show x.length ≤ k; omega)
    rw [e]
    refine ⟨[], [], splitG_nil _ _, ?_⟩
    have ek : k = x.length := by omega
    rw [cutsG_nil]
    show [Builtin.Str.strSub x a x.length] = _
    refine congrArg (· :: []) (Str.ext' ?_)
    rw [← Array.toList_inj, StrLaws.strSub_toList, ← ek]
    simp
  | m + 1, k, a, s, hk, ha, hs, hb => by
    have lt : k < x.cps.toList.length := by rw [Array.length_toList]; show k < x.length; omega
    obtain ⟨v, dr, ev⟩ := drop_at lt
    have yl : y.cps.toList.length = y.length := by rw [Array.length_toList]; rfl
    cases s with
    | succ s =>
      obtain ⟨p, ps, e1, e2⟩ := parts_all x y hy m (k + 1) a s (by omega) (by omega) (by intro; have := hs (Nat.succ_pos _); omega) (by omega)
      refine ⟨p, ps, by rw [dr, splitG_skip, e1], ?_⟩
      rw [dr, cutsG_skip, e2]
      have h1 : a = k + (s + 1) := hs (Nat.succ_pos _)
      have z1 : k + 1 - a = 0 := by omega
      have z2 : k - a = 0 := by omega
      rw [z1, z2]
    | zero =>
      by_cases h : (v :: x.cps.toList.drop (k + 1)).take y.cps.toList.length = y.cps.toList
      · have pl := pre_le h
        rw [← dr, List.length_drop, yl, Array.length_toList] at pl
        have pl2 : y.length ≤ x.length - k := pl
        obtain ⟨p, ps, e1, e2⟩ := parts_all x y hy m (k + 1) (k + y.length) (y.length - 1) (by omega) (by omega) (by intro; omega) (by omega)
        refine ⟨[], p :: ps, by rw [dr, splitG_hit h, yl, e1], ?_⟩
        rw [dr, cutsG_hit h, between]
        simp only
        rw [yl, e2]
        have z1 : k + 1 - (k + y.length) = 0 := by omega
        rw [z1]
        simp only [Nat.sub_self, List.take_zero, List.nil_append, List.append_nil, List.map_cons]
        refine congrArg (· :: _) (Str.ext' ?_)
        rw [← Array.toList_inj, StrLaws.strSub_toList]
      · obtain ⟨p, ps, e1, e2⟩ := parts_all x y hy m (k + 1) a 0 (by omega) (by omega) (by intro z; omega) (by omega)
        refine ⟨v :: p, ps, by rw [dr]; exact splitG_miss h e1, ?_⟩
        rw [dr, cutsG_miss h, e2]
        refine congrArg (· :: _) ?_
        congr 2
        have : k + 1 - a = (k - a) + 1 := by omega
        rw [this, List.take_add_one, List.getElem?_drop, show a + (k - a) = k by omega, ev]
        simp
theorem between_all (x y : Str) (hy : 0 < y.length) : Builtin.Str.partsBetween x (cutsG y.cps.toList 0 0 x.cps.toList) y.length = (splitG y.cps.toList 0 x.cps.toList).map fun q => (⟨q.toArray⟩ : Str) := by
  obtain ⟨p, ps, e1, e2⟩ := parts_all x y hy x.length 0 0 0 (by omega) (Nat.le_refl _) (by intro z; omega) (by omega)
  rw [List.drop_zero] at e1 e2
  rw [e1]
  unfold Builtin.Str.partsBetween
  simpa using e2
theorem splitG_none {y : List Nat} : ∀ {l : List Nat} {k : Nat}, cutsG y 0 k l = [] → splitG y 0 l = [l]
  | [], _, _ => splitG_nil _ _
  | a :: r, k, h => by
    by_cases hh : (a :: r).take y.length = y
    · rw [cutsG_hit hh] at h; cases h
    · rw [cutsG_miss hh] at h
      exact splitG_miss hh (splitG_none h)
theorem splitG_short {y : List Nat} : ∀ {l : List Nat}, l.length < y.length → splitG y 0 l = [l]
  | [], _ => splitG_nil _ _
  | a :: r, h => splitG_miss (fun e => by have := pre_le e; omega) (splitG_short (by simp at h; omega))
theorem splitG_len {y : List Nat} : ∀ s l, (splitG y s l).length ≤ l.length + 1
  | s, [] => by rw [splitG_nil]; exact Nat.le_refl _
  | s + 1, a :: r => by
    rw [splitG_skip]
    have := splitG_len (y := y) s r
    simp; omega
  | 0, a :: r => by
    by_cases hh : (a :: r).take y.length = y
    · rw [splitG_hit hh]
      have := splitG_len (y := y) (y.length - 1) r
      simp; omega
    · obtain ⟨p, ps, e⟩ := splitG_ne y 0 r
      rw [splitG_miss hh e]
      have := splitG_len (y := y) 0 r
      rw [e] at this
      simp at this ⊢; omega
/-- parts without c, put together with b c .. between, are cut to just these -/
def glueG (y : List Nat) : List Nat → List (List Nat) → List Nat
  | p, [] => p
  | p, q :: r => p ++ (y ++ glueG y q r)
theorem splitG_drop (y : List Nat) : ∀ (l r : List Nat), splitG y l.length (l ++ r) = splitG y 0 r
  | [], _ => rfl
  | a :: l, r => by rw [List.length_cons, List.cons_append, splitG_skip]; exact splitG_drop y l r
theorem splitG_pre {b c : Nat} {t : List Nat} (bc : b ≠ c) : ∀ {p : List Nat} {r q : List Nat} {qs : List (List Nat)}, c ∉ p → r.head? ≠ some c → splitG (b :: c :: t) 0 r = q :: qs → splitG (b :: c :: t) 0 (p ++ r) = (p ++ q) :: qs
  | [], _, _, _, _, _, e => e
  | a :: p, r, q, qs, h, hr, e => by
    have h2 : c ∉ p := fun z => h (List.mem_cons_of_mem _ z)
    refine splitG_miss ?_ (splitG_pre bc h2 hr e)
    intro z
    have z2 : (p ++ r).take (t.length + 1) = c :: t := by simpa using (List.cons.inj z).2
    cases p with
    | nil =>
      cases r with
      | nil => simp at z2
      | cons d r => simp at z2; exact hr (by simp [z2.1])
    | cons d p =>
      simp at z2
      exact h2 (by simp [z2.1])
theorem splitG_glue {b c : Nat} {t : List Nat} (bc : b ≠ c) : ∀ {ps : List (List Nat)} {p : List Nat}, c ∉ p → (∀ q ∈ ps, c ∉ q) → splitG (b :: c :: t) 0 (glueG (b :: c :: t) p ps) = p :: ps
  | [], p, h, _ => by
    have := splitG_pre (t := t) bc (p := p) (r := []) h (by simp) (splitG_nil _ _)
    simpa [glueG] using this
  | q :: ps, p, h, hs => by
    have ih := splitG_glue (t := t) bc (ps := ps) (p := q) (hs q (List.mem_cons_self ..)) fun x hx => hs x (List.mem_cons_of_mem _ hx)
    rw [glueG]
    have e : splitG (b :: c :: t) 0 ((b :: c :: t) ++ glueG (b :: c :: t) q ps) = [] :: (q :: ps) := by
      rw [List.cons_append, splitG_hit (by simp)]
      have := splitG_drop (b :: c :: t) (c :: t) (glueG (b :: c :: t) q ps)
      rw [ih] at this
      exact congrArg _ this
    have := splitG_pre (t := t) bc (p := p) h (by simp [bc]) e
    rw [this, List.append_nil]
theorem join_glue (y : Str) : ∀ (ps : List Str) (p : Str), (y.join (p :: ps)).cps.toList = glueG y.cps.toList p.cps.toList (ps.map (·.cps.toList))
  | [], p => by
    show (p : Str).cps.toList = _
    rfl
  | q :: ps, p => by
    have ih := join_glue y ps q
    show (p ++ y ++ y.join (q :: ps)).cps.toList = _
    rw [Str.cps_append, Str.cps_append, Array.toList_append, Array.toList_append, ih]
    simp [glueG]
/-- a text cut at each y -/
def cutAt (y z : Str) : List Str := (splitG y.cps.toList 0 z.cps.toList).map fun q => (⟨q.toArray⟩ : Str)
theorem cutAt_join {y : Str} {b c : Nat} {t : List Nat} (e : y.cps.toList = b :: c :: t) (bc : b ≠ c) {p : Str} {ps : List Str} (h : ∀ q ∈ p :: ps, c ∉ q.cps.toList) : cutAt y (y.join (p :: ps)) = p :: ps := by
  unfold cutAt
  rw [join_glue, e, splitG_glue bc (h p (List.mem_cons_self ..)) (by
    intro q hq
    obtain ⟨z, hz, rfl⟩ := List.mem_map.mp hq
    exact h z (List.mem_cons_of_mem _ hz))]
  have e : ((fun q : List Nat => (⟨q.toArray⟩ : Str)) ∘ fun x : Str => x.cps.toList) = id := funext fun x => by simp
  simp [e]
theorem cutAt_len (y z : Str) : (cutAt y z).length ≤ z.length + 1 := by
  unfold cutAt
  rw [List.length_map]
  have := splitG_len (y := y.cps.toList) 0 z.cps.toList
  rw [Array.length_toList] at this
  exact this
/-- the place of b c .. behind a row without c -/
theorem first_at {x y : Str} {b c : Nat} {t w r : List Nat} (e : y.cps.toList = b :: c :: t) (bc : b ≠ c) (hw : c ∉ w) (hx : x.cps.toList = w ++ (y.cps.toList ++ r)) (lim : Nat) (hl : 1 ≤ lim) : ∃ u, Builtin.Str.occurrences x y 0 x.length lim = w.length :: u := by
  have yl : y.cps.toList.length = y.length := by rw [Array.length_toList]; rfl
  have xl : x.cps.toList.length = x.length := by rw [Array.length_toList]; rfl
  have at0 : StrLaws.At x y x.length w.length := by
    refine ⟨?_, ?_⟩
    · rw [← xl, hx, ← yl]; simp only [List.length_append]; omega
    · rw [StrLaws.subAt_eq, hx, List.drop_left, ← yl, List.take_left]; simp
  rcases StrLaws.occ_head x y lim hl with ⟨_, no⟩ | ⟨i, u, eo, hi, no⟩
  · exact absurd at0 (no _)
  · refine ⟨u, ?_⟩
    rw [eo]
    have h1 : i ≤ w.length := Nat.le_of_not_lt fun h => no _ h at0
    rcases Nat.lt_or_ge i w.length with lt | ge
    · exfalso
      have h2 := hi.2
      rw [StrLaws.subAt_eq, hx, ← yl] at h2
      have h3 : ((w ++ (y.cps.toList ++ r)).drop i).take y.cps.toList.length = y.cps.toList := by simpa using h2
      have h4 := congrArg (fun l : List Nat => l[1]?) h3
      rw [List.getElem?_take, List.getElem?_drop, e] at h4
      simp only [List.length_cons, List.getElem?_cons_succ, List.getElem?_cons_zero] at h4
      rw [if_pos (by omega)] at h4
      rcases Nat.lt_or_ge (i + 1) w.length with l2 | g2
      · rw [List.getElem?_append_left l2] at h4
        exact hw (List.mem_of_getElem? h4)
      · rw [List.getElem?_append_right g2, show i + 1 - w.length = 0 by omega] at h4
        simp at h4
        exact bc h4
    · rw [show i = w.length by omega]
end TextG

set_option Elab.async false
set_option linter.all false
set_option maxRecDepth 100000
set_option maxHeartbeats 4000000
/-! split at any text, partition, startswith; a method of one of three classes; == []; list(dict). -/
namespace L2
open PySem PySem.Spec PyProof.Rows PySem.W
section
variable {X : Cx}
def rSplitG (y : Str) : V → List V → Hp → VK → Prop := fun x xs H Q => ∃ z, x = .str z ∧ xs = [.str y] ∧ z.length ≤ 100000 ∧ ∀ D, H D = none → Q (.ref D) (upd H D (.lst ((TextG.cutAt y z).map V.str)))
theorem mt_splitG (y : Str) (hy : (y.length == 0) = false) (hl : ∀ z : Str, ¬ Builtin.Str.strKind z < Builtin.Str.strKind y) : MtR X "str.split" (rSplitG y) := by
  intro pins s σ H x xs v us Q I rx r h
  obtain ⟨z, rfl, rfl, hz, q⟩ := h
  obtain ⟨t, rfl⟩ := rx
  obtain ⟨u, rfl, ru⟩ := vals1 r
  obtain ⟨t2, rfl⟩ := ru
  have hb := line_big
  have pl := TextG.cutAt_len y z
  have y0 : 0 < y.length := by
    rcases Nat.eq_zero_or_pos y.length with e | e
    · rw [e] at hy; exact absurd hy (by decide)
    · exact e
  have yl : y.cps.toList.length = y.length := by rw [Array.length_toList]; rfl
  have zl : z.cps.toList.length = z.length := by rw [Array.length_toList]; rfl
  have self : (⟨z.cps.toList.toArray⟩ : Str) = z := by simp
  have fin : ∀ (us : List Value) (tk : Nat), Vals ((TextG.cutAt y z).map V.str) us → EP X pins σ Q (.ref s.heap.objs.size) { s with heap := s.heap.push { cls := .type "list", data := .seq us.toArray }, toks := tk } := fun us tk rv =>
    ⟨.ref _, _, I.laid (t' := tk) (o := .lst ((TextG.cutAt y z).map V.str)) (fun b u e => Heap.get?_push_of_some _ e) (Nat.le_refl _) (show ObjOk X.prog X.w _ _ _ (.lst ((TextG.cutAt y z).map V.str)) from ⟨by rw [List.length_map]; omega, us, 0, rv, Heap.get?_push_size _ rfl⟩), rfl, q _ (I.hok.fresh (Nat.le_refl _))⟩
  by_cases h1 : (decide (z.length < y.length) || decide (Builtin.Str.strKind z < Builtin.Str.strKind y)) = true
  · have h0 : z.length < y.length := by
      rw [Bool.or_eq_true, decide_eq_true_iff, decide_eq_true_iff] at h1
      exact h1.resolve_right (hl z)
    refine call_meets PySem.F.slot_str_split rfl PySem.F.entry_str_split (PySem.F.args_str_split_2 _ _) (meets_str_split_cannot_occur z _ t t2 h1) (fin [.str z t] s.toks ?_)
    unfold TextG.cutAt
    rw [TextG.splitG_short (by rw [yl, zl]; exact h0), List.map_cons, List.map_nil, self]
    exact .cons ⟨_, rfl⟩ .nil
  · by_cases h2 : (Builtin.Str.occurrences z y 0 z.length (z.length + 1)).isEmpty = true
    · refine call_meets PySem.F.slot_str_split rfl PySem.F.entry_str_split (PySem.F.args_str_split_2 _ _) (meets_str_split_not_found z _ t t2 (Bool.eq_false_iff.mpr h1) hy h2) (fin [.str z t] s.toks ?_)
      rw [TextG.occ_all z y y0, List.isEmpty_iff] at h2
      unfold TextG.cutAt
      rw [TextG.splitG_none h2, List.map_cons, List.map_nil, self]
      exact .cons ⟨_, rfl⟩ .nil
    · have sp := TextG.between_all z y y0
      rw [← TextG.occ_all z y y0] at sp
      refine call_meets PySem.F.slot_str_split rfl PySem.F.entry_str_split (PySem.F.args_str_split_2 _ _) (meets_str_split_sep z _ t t2 (Bool.eq_false_iff.mpr h1) hy (Bool.eq_false_iff.mpr h2) (by omega) (by rw [sp]; show (TextG.cutAt y z).length ≤ _; omega)) (fin _ _ ?_)
      show Vals ((TextG.cutAt y z).map V.str) _
      unfold TextG.cutAt
      rw [← sp]
      exact strsFrom_vals _ _
def rPart (y : Str) : V → List V → Hp → VK → Prop := fun x xs H Q => ∃ z, x = .str z ∧ xs = [.str y] ∧ z.length ≤ 100000 ∧ ∀ D, H D = none → Q (.ref D) (upd H D (.tup [.str (Txt.partition z y).1, .str (Txt.partition z y).2.1, .str (Txt.partition z y).2.2]))
theorem mt_part (y : Str) (hy : (y.length == 0) = false) : MtR X "str.partition" (rPart y) := by
  intro pins s σ H x xs v us Q I rx r h
  obtain ⟨z, rfl, rfl, hz, q⟩ := h
  obtain ⟨t, rfl⟩ := rx
  obtain ⟨u, rfl, ru⟩ := vals1 r
  obtain ⟨t2, rfl⟩ := ru
  have hb := line_big
  refine call_meets PySem.F.slot_str_partition rfl PySem.F.entry_str_partition (PySem.F.args_str_partition_2 _ _) (meets_str_partition z y t t2 hy (by omega)) ?_
  have fin : ∀ (a b c : Str) (ta tb tc : Tok) (tk : Nat), (∀ D, H D = none → Q (.ref D) (upd H D (.tup [.str a, .str b, .str c]))) → EP X pins σ Q (.ref s.heap.objs.size) { s with toks := tk, heap := s.heap.push { cls := .type "tuple", data := .seq [Value.str a ta, .str b tb, .str c tc].toArray } } := fun a b c ta tb tc tk q =>
    ⟨.ref _, _, I.laid (t' := tk) (o := .tup [.str a, .str b, .str c]) (fun b u e => Heap.get?_push_of_some _ e) (Nat.le_refl _) (show ObjOk X.prog X.w _ _ _ (.tup [.str a, .str b, .str c]) from ⟨by show 3 ≤ sizeLine; decide, [Value.str a ta, .str b tb, .str c tc], .cons ⟨_, rfl⟩ (.cons ⟨_, rfl⟩ (.cons ⟨_, rfl⟩ .nil)), ⟨_, Heap.get?_push_size _ rfl, rfl, _, rfl⟩⟩), rfl, q _ (I.hok.fresh (Nat.le_refl _))⟩
  have q' := q
  unfold Txt.partition at q'
  revert q'
  cases Builtin.Str.occurrences z y 0 z.length 1 with
  | nil => intro q'; exact fin _ _ _ _ _ _ _ q'
  | cons i r => intro q'; exact fin _ _ _ _ _ _ _ q'
def rStarts : V → List V → Hp → VK → Prop := fun x xs H Q => ∃ z y, x = .str z ∧ xs = [.str y] ∧ Q (.bl (Txt.startswith z y)) H
theorem mt_starts : MtR X "str.startswith" rStarts := by
  intro pins s σ H x xs v us Q I rx r h
  obtain ⟨z, y, rfl, rfl, q⟩ := h
  obtain ⟨t, rfl⟩ := rx
  obtain ⟨u, rfl, ru⟩ := vals1 r
  obtain ⟨t2, rfl⟩ := ru
  exact SC.startswith ⟨.bl _, H, I, rfl, q⟩
/-! ### xs == [] -/
def rEqNil (g : Bool → Bool) : R2 := fun x y H Q => ∃ a b xs, x = .ref a ∧ y = .ref b ∧ H a = some (.lst xs) ∧ H b = some (.lst []) ∧ Q (.bl (g (decide (xs = [])))) H
theorem op_eqNil (hu : X.A.units + 64 < cLine) : OpR X (compareOp .Eq) (rEqNil id) := by
  intro pins s σ H x y v u Q I rx ry h
  obtain ⟨a, b, xs, rfl, rfl, ha, hb, q⟩ := h
  cases (show v = Value.ref a from rx)
  cases (show u = Value.ref b from ry)
  obtain ⟨its, rv, z, _⟩ := I.list (SqL.of (K := X.K) ha)
  obtain ⟨its2, rv2, z2, _⟩ := I.list (SqL.of (K := X.K) hb)
  cases rv2
  have hl := rv.length
  cases xs with
  | nil =>
    cases rv
    have g := SeqAt.RcAt.lists (A := X.A) (e := fun _ => true) z.isList z2.isList rfl (by omega) fun j h1 h2 => by simp at h1
    exact g _ _ _ _ ⟨.bl _, H, I, rfl, q⟩
  | cons x0 xs =>
    have g := SeqAt.RcAt.lists_lengths (A := X.A) z.isList z2.isList (by rw [List.size_toArray, ← hl]; rfl) (by omega)
    exact g _ _ _ _ ⟨.bl _, H, I, rfl, q⟩
/-! ### list(dict), keys texts -/
theorem call_listDK (hc : X.calm = true) : CallR X (.type "list") (fun xs H Q => ∃ (l : Addr) (zs : List (Str × V)), xs = [.ref l] ∧ H l = some (.dK (zs.map fun p => (.inr p.1, p.2))) ∧ zs.length ≤ 1000 ∧ ∀ D, H D = none → Q (.ref D) (upd H D (.lst ((zs.map (·.1)).map V.str)))) := by
  intro pins s σ H xs us Q I r h
  obtain ⟨l, zs, rfl, hq, hl, q⟩ := h
  obtain ⟨u, rfl, ru⟩ := vals1 r
  cases (show u = Value.ref l from ru)
  obtain ⟨z, hd, vs, rel, dd⟩ := dk_of I.hok hq
  obtain ⟨ep, da⟩ := dd.dictAt
  have hlen : vs.length = zs.length := by rw [← rel.length, List.length_map]
  have keyAt : ∀ (i : Nat) (k : Key) (x : Value), vs[i]? = some (k, x) → ∃ z, (zs.map (·.1))[i]? = some z ∧ k = .inr z := by
    have go : ∀ {ys : List (Str × V)} {ws : List (Key × Value)}, KV (ys.map fun p => ((.inr p.1 : Key), p.2)) ws → ∀ (i : Nat) (k : Key) (x : Value), ws[i]? = some (k, x) → ∃ z, (ys.map (·.1))[i]? = some z ∧ k = .inr z := by
      intro ys
      induction ys with
      | nil => intro ws r i k x e; cases r; cases e
      | cons y ys ih =>
        intro ws r i k x e
        cases r with
        | cons h t =>
          cases i with
          | zero =>
            rw [List.getElem?_cons_zero] at e
            cases e
            exact ⟨y.1, rfl, h.1.symm⟩
          | succ i =>
            rw [List.getElem?_cons_succ] at e
            obtain ⟨z, e1, e2⟩ := ih t i k x e
            exact ⟨z, by simpa using e1, e2⟩
    exact go rel
  have col : ∀ (acc : Array Value), ItemsOf (fun i v => ∃ k x, vs[i]? = some (k, x) ∧ (mixKind X.prog X.w).is k v = true) acc vs.length → StrsAre acc.toList (zs.map (·.1)) := by
    intro acc hacc
    refine strsAre_at (by rw [List.length_map, ← hlen, Array.length_toList]; exact hacc.1) fun i v e => ?_
    obtain ⟨k, x, e1, e2⟩ := hacc.2 i v (by rw [← Array.getElem?_toList]; exact e)
    obtain ⟨z, e3, rfl⟩ := keyAt i k x e1
    obtain ⟨t, rfl⟩ := txt_is e2
    exact ⟨z, t, e3, rfl⟩
  have hs : zs.length < sizeLine := small1000 (by omega)
  refine kdl_call (kdl_dict hd) (I.ok.hd hc) da (by rw [hlen]; omega) fun h' tk acc c k1 he hacc => ?_
  exact ⟨.ref _, _, I.laid (t' := tk) (o := .lst ((zs.map (·.1)).map V.str)) k1 (Nat.le_refl _) (show ObjOk X.prog X.w _ _ _ (.lst ((zs.map (·.1)).map V.str)) from ⟨by rw [List.length_map, List.length_map]; omega, acc.toList, c, vals_of_strs (col acc hacc), by rw [Array.toArray_toList]; exact he⟩), rfl, q _ (I.hok.fresh (Nat.le_refl _))⟩
end
/-! ### a method of one of three classes -/
section
variable {X : Cx} {CX : CXT} {k1 k2 k3 : Nat} {f1 C1 f2 C2 f3 C3 : Addr} {fd1 fd2 fd3 : FuncData} {ps1 ps2 ps3 : List Str} {sp1 sp2 sp3 : Sp} {E : XS} {m : Str} {pos apos : Pos} {o : Expr} {ta : TE}
def tMeth3 (C1 C2 C3 : Addr) (m : Str) (sp1 sp2 sp3 : Sp) (E : XS) (ta : TE) : TE := fun σ H Q => ta σ H fun x H1 => ∃ a dx fs, x = .ref a ∧ fs.lookup m = none ∧
  ((H1 a = some (.ins C1 dx fs) ∧ sp1 [x] H1 Q (E σ)) ∨ (H1 a = some (.ins C2 dx fs) ∧ sp2 [x] H1 Q (E σ)) ∨ (H1 a = some (.ins C3 dx fs) ∧ sp3 [x] H1 Q (E σ)))
theorem pe_meth3 {pl : Sem Bool} (he : PE X o ta) (c1 : Cls X.K C1) (hm1 : Meth X.K C1 m f1) (F1 : FnOk X.prog X.w X.K X.mg X.base CX k1 f1 fd1 ps1 sp1) (hr1 : Room k1 X.A) (hb1 : Binds X.K fd1 ps1 [])
    (c2 : Cls X.K C2) (hm2 : Meth X.K C2 m f2) (F2 : FnOk X.prog X.w X.K X.mg X.base CX k2 f2 fd2 ps2 sp2) (hr2 : Room k2 X.A) (hb2 : Binds X.K fd2 ps2 [])
    (c3 : Cls X.K C3) (hm3 : Meth X.K C3 m f3) (F3 : FnOk X.prog X.w X.K X.mg X.base CX k3 f3 fd3 ps3 sp3) (hr3 : Room k3 X.A) (hb3 : Binds X.K fd3 ps3 []) (hx : PassesS CX X E)
    (ht : eval (.Call (.Attribute o m apos) [] [] pos) X.env = (do
      let ov ← eval o X.env
      standAt apos.atName
      let (f, first) ← holding [ov] (getMethod ov m pl)
      callWith pos f first (backTo pos (starEach [] X.env)) (backToKw pos (keywordEach [] X.env))) := by rfl) :
    PE X (.Call (.Attribute o m apos) [] [] pos) (tMeth3 C1 C2 C3 m sp1 sp2 sp3 E ta) := by
  intro pins s σ H Q I h
  refine PySem.W.methodCall_KW (pl := pl) (thn (he pins s σ H _ I h) fun u s1 ⟨x, H1, I1, rx, a, dx, fs, ex, l, q⟩ => ?_) ht
  subst ex
  obtain rfl : u = Value.ref a := rx
  rcases q with ⟨ea, q⟩ | ⟨ea, q⟩ | ⟨ea, q⟩
  · refine getmeth_ok I1 ea c1 hm1 l ?_
    exact PySem.W.callWith_K0 (first := [.ref a]) I1.kIn hm1.kp (run_fnX (us := [.ref a]) (vs := [.ref a]) F1 hr1 hb1 .nil hx I1 (.cons rfl .nil) q)
  · refine getmeth_ok I1 ea c2 hm2 l ?_
    exact PySem.W.callWith_K0 (first := [.ref a]) I1.kIn hm2.kp (run_fnX (us := [.ref a]) (vs := [.ref a]) F2 hr2 hb2 .nil hx I1 (.cons rfl .nil) q)
  · refine getmeth_ok I1 ea c3 hm3 l ?_
    exact PySem.W.callWith_K0 (first := [.ref a]) I1.kIn hm3.kp (run_fnX (us := [.ref a]) (vs := [.ref a]) F3 hr3 hb3 .nil hx I1 (.cons rfl .nil) q)
end
end L2

set_option Elab.async false
set_option linter.all false
set_option maxRecDepth 100000
set_option maxHeartbeats 4000000
/-! A list comprehension whose element may raise. -/
namespace L2
open PySem PySem.Spec PyProof.Rows
section
variable {prog : Program} {w : World} {A : Around} {R : Result → Shared → Prop} {s : Shared}
/-- the turns of a comprehension in which something may be raised -/
theorem compLoop_anyX {elt target iter : Expr} {ifs : List Expr} {scope : Scope} {pos : Pos} {it acc : Value} {env : Env} {Er : Value → Shared → Prop} (hEr : ∀ x s, Er x s → notedBy (model prog w) A env (fun x s' => R (.error x) s') x s) (J : Nat → Shared → Prop)
    (turn : ∀ n s, J n s → wpAny (model prog w) A (pyNext it) (fun r s1 => match r with
      | none => R (.ok .next) s1
      | some v => wpAny (model prog w) A (letOwnedTupleGo target it v) (fun _ s2 => wpAny (model prog w) A (assign target env v) (fun _ s3 =>
          wpAny (model prog w) A (forIn ifs true fun c r => if r = true then do let ok ← isTrue c env (eval c env); pure (ForInStep.yield ok) else pure (ForInStep.yield r)) (fun ok s4 =>
            if ok = true then wpAny (model prog w) A (eval elt env) (fun x s5 => wpAny (model prog w) A (call (.builtin "list.append") [acc, x]) (fun _ s6 => ∃ m, m < n ∧ J m s6) Er s5) Er s4
            else ∃ m, m < n ∧ J m s4) Er s3) Er s2) Er s1) Er s)
    (n : Nat) (h : J n s) : codeAny (model prog w) A (.compLoop (.ListComp elt [⟨target, iter, ifs, 0⟩] scope pos) 0 it acc env) R s := by
  refine codeAny_loop rfl J (fun n s hJ => ?_) n h
  show wpAny _ A ((compTurn (.ListComp elt [⟨target, iter, ifs, 0⟩] scope pos) 0 it acc env).onRaise (fun x => do noteFrame x env; theTreesLotGoes x)) _ _ s
  refine wpAny_noted ?_
  rw [compTurn_list]
  refine wpAny_bind (wpAny_standAt (wpAny_bind (wpAny_mono (turn n s hJ) (fun r s1 h1 => ?_) fun x s' z => hEr x s' z)))
  cases r with
  | none => exact wpAny_pure h1
  | some v =>
    refine wpAny_bind (wpAny_mono h1 (fun _ s2 h2 => wpAny_bind (wpAny_mono h2 (fun _ s3 h3 => wpAny_bind (wpAny_mono h3 (fun ok s4 h4 => ?_) fun x s' z => hEr x s' z)) fun x s' z => hEr x s' z)) fun x s' z => hEr x s' z)
    cases ok with
    | false => exact wpAny_pure ⟨rfl, h4⟩
    | true => exact wpAny_bind (wpAny_bind (wpAny_mono h4 (fun x s5 h5 => wpAny_bind (wpAny_mono h5 (fun _ s6 h6 => wpAny_pure (wpAny_pure ⟨rfl, h6⟩)) fun x s' z => hEr x s' z)) fun x s' z => hEr x s' z))
end
abbrev Cx.blockX (X : Cx) (N : List Str) (sc : Scope) (cl : List (Str × Addr)) (fp : List Addr) (s3 : Shared) (H3 : Hp) (xe : Value → Shared → Prop) : Cx :=
  { X with N := N, s₀ := s3, H₀ := H3, env := compEnvC sc cl s3.heap.objs.size X.env, outer := X.stack, ex := fp, fn := fun _ => false, pn := [], xe := xe }
/-- an exception of the element reaches what is wanted, past the block -/
def CompPass (CX : CXT) (X : Cx) (Ex : XK) : Prop := ∀ (pins : List (Addr × Obj)) (σ : St) (H : Hp) (s : Shared) (C : Addr) (m : Str → Option Value) (e : Value) (s' : Shared), Inv X pins σ H s → s.heap.Ns C m → H C = none → X.s₀.heap.objs.size ≤ C → C ≠ X.env.locals → CX X.stack H s Ex e s' →
  ∀ env' : Env, env'.frame = X.env.frame → notedBy (model X.prog X.w) X.A env' (fun x s1 => ∃ m, s1.heap.Ns C m ∧ ∀ h', Heap.SameBut C s1.heap h' → ∀ cenv : Env, cenv.locals = C → wpAny (model X.prog X.w) X.A (passOn "comprehension.variables-let-go" x cenv : Sem Value) (fun _ _ => False) X.xe { s1 with heap := h' }) e s'
section
variable {X : Cx} {pins : List (Addr × Obj)} {σ : St} {H : Hp} {s : Shared} {N : List Str} {sc : Scope} {cl : List (Str × Addr)} {σc : St → St} {fp : List Addr}
/-- the block begins -/
theorem Inv.blockX {xe : Value → Shared → Prop} (I : Inv X pins σ H s) (S : CompSc X N sc cl σc) (hf : ∀ b ∈ fp, FpOk X pins H b) (hlt : ∀ b ∈ fp, b < s.heap.objs.size) {h' : Heap} {t' : Nat} (k : ∀ b u, s.heap.get? b = some u → h'.get? b = some u) (hn : h'.Ns s.heap.objs.size fun _ => none) :
    Inv (X.blockX N sc cl fp s H xe) [] (σc σ) H { s with heap := h', toks := t' } := by
  have kin : ∀ x, (X.blockX N sc cl fp s H xe).env.kindOf x = (relabel sc X.env).names.lookup x := fun _ => rfl
  refine ⟨⟨I.ok.mod, S.kind, I.ok.glob, I.ok.blt, Nat.le_refl _, fun x y c h1 h2 => I.ok.inj x y c (S.sub x c h1) (S.sub y c h2), fun x hx => S.has x hx, fun x c z _ => (nomatch z), I.ok.hd, I.ok.frames, .inl rfl, fun b hb => ⟨Nat.ne_of_lt (hlt b hb), fun x c e => (hf b hb).2.2.2.2.1 x c (S.sub x c e)⟩,
    I.bs, Nat.le_trans I.ok.bsz I.sz, fun b o e hb => ?_, fun b hb z => ?_, I.stack, I.stkFree⟩,
    rfl, I.bare, Un.kept k, ⟨_, hn, fun i x v e1 e2 e3 => ?_⟩, fun x c e => ?_, I.hok.fresh (Nat.le_refl _), fun x c e => I.freeC x c (S.sub x c e), fun p hp => absurd (show p ∈ ([] : List (Addr × Obj)) from hp) (by simp), I.hok.kept k, S.len σ⟩
  · rcases (hf b hb).2.2.2.1 with z | z
    · exact I.ok.noex b o e z
    · exact absurd (Nat.lt_of_lt_of_le (Heap.lt_size e) (Nat.le_trans I.ok.bsz z)) (Nat.lt_irrefl _)
  · rcases List.mem_cons.mp (I.stkSub b z) with y | y
    · exact (hf b hb).2.1 y
    · exact (hf b hb).2.2.1 y
  · obtain ⟨hk, hko, j, hj, hσ⟩ := S.cap σ i x v e1 e2
    obtain ⟨m, hm, hl⟩ := I.loc
    obtain ⟨u, r, l⟩ := hl j x v hj hσ (by rcases hko with z | z; exact .inr (.inl z); exact .inr (.inr z))
    refine ⟨u, r, .inr ⟨hk, ?_⟩⟩
    rcases l with ⟨q, _⟩ | ⟨_, c, hc, q⟩
    · have q' : X.env.scope.names.lookup x = some .local := q
      rcases hko with z | z <;> (rw [z] at q'; cases q')
    · obtain ⟨c', hc'⟩ := S.has x hk
      have e := S.sub x c' hc'
      rw [hc] at e
      cases e
      exact ⟨c, hc', q.keeps k⟩
  · obtain ⟨v, q⟩ := I.cell x c (S.sub x c e)
    exact ⟨v, q.keeps k⟩
end
section
variable {X : Cx} {elt tg iter : Expr} {ifs : List Expr} {sc : Scope} {pos : Pos} {N : List Str} {cl : List (Str × Addr)} {σc : St → St} {wi : TI} {g : TG} {tt : TT} {te : TE}
/-- the list, the block, its turns, where the element may raise -/
theorem comp_coreX {CX : CXT} {Ex : XK} {pins : List (Addr × Obj)} {s2 : Shared} {σ : St} {H2 : Hp} {Q : VK} {RR : Value → Addr → Result → Shared → Prop} {E : Value → Shared → Prop} {it : Addr} {fp : List Addr} {tn : Nat → Heap → Prop} {J : It}
    (hc : X.calm = true) (S : CompSc X N sc cl σc) (hg : ∀ fp s3 H3 xe, PG (X.blockX N sc cl fp s3 H3 xe) tg g) (ht : ∀ fp s3 H3 xe, PTs (X.blockX N sc cl fp s3 H3 xe) ifs tt) (he : ∀ fp s3 H3 xe, PassesS CX (X.blockX N sc cl fp s3 H3 xe) (fun _ => Ex) → PE (X.blockX N sc cl fp s3 H3 xe) elt te)
    (hX : ∀ (D : Value) (C : Addr) (m : Str → Option Value) (H6 : Hp) (s6 : Shared) (e : Value) (s7 : Shared), Inv X pins σ H6 s6 → s6.heap.Ns C m → H6 C = none → X.s₀.heap.objs.size ≤ C → C ≠ X.env.locals → CX X.stack H6 s6 Ex e s7 → notedBy (model X.prog X.w) X.A (compEnvC sc cl C X.env) (fun x s' => RR D C (.error x) s') e s7)
    (I2 : Inv X pins σ H2 s2) (T : Turn X.prog X.w X.K tg J fp it tn) (st2 : tn 0 s2.heap) (f2 : ∀ b ∈ fp, FpOk X pins H2 b)
    (h2 : ∀ D, H2 D = none → ∃ W : Nat → Nat → St → List V → Hp → Prop, (∃ m, W 0 m (σc σ) [] (upd H2 D (.lst []))) ∧ ∀ i m σ1 ys H2, W i m σ1 ys H2 → H2 D = some (.lst ys) ∧
      ((J.stop i H2 ∧ Q (.ref D) H2) ∨ (J.go i H2 ∧ ∃ N : St → List V → Hp → Prop, (∀ σ2 ys2 H3, N σ2 ys2 H3 → ∃ m', m' < m ∧ W (i + 1) m' σ2 ys2 H3) ∧
        ∀ x H3, J.yld i H2 x H3 → g x σ1 H3 fun σ2 H4 => tt σ2 H4 fun c H5 => if c = true then te σ2 H5 fun y H6 => H6 D = some (.lst ys) ∧ ys.length < sizeLine ∧ N σ2 (ys ++ [y]) (upd H6 D (.lst (ys ++ [y]))) else N σ2 ys H5)))
    (hRR : ∀ D C m s7 H7, Inv X pins σ H7 s7 → s7.heap.Ns C m → Gone X pins H7 C → Q (.ref D) H7 → RR (.ref D) C (.ok .next) s7) :
    wpAny (model X.prog X.w) X.A (newList []) (fun acc s₃ => wpAny (model X.prog X.w) X.A (newFunctionEnv sc X.env.globals cl [] X.env.qual none .none (some X.env)) (fun cenv s₄ =>
      codeAny (model X.prog X.w) X.A (.compStart (.ListComp elt [⟨tg, iter, ifs, 0⟩] sc pos) 0 (.ref it) acc { cenv with scope := relabel sc X.env }) (RR acc cenv.locals) s₄) E s₃) E s2 := by
  -- the list
  refine wpAny_newObj_type ?_
  have hD : H2 s2.heap.objs.size = none := I2.hok.fresh (Nat.le_refl _)
  have I3 : Inv X pins σ (upd H2 s2.heap.objs.size (.lst [])) { s2 with heap := s2.heap.push { cls := .type "list", dict := none, data := .seq ([] : List Value).toArray } } :=
    I2.laid (t' := s2.toks) (fun b u q => Heap.get?_push_of_some _ q) (Nat.le_refl _) ⟨by decide, [], 0, .nil, Heap.get?_push_size _ rfl⟩
  have flt : ∀ b ∈ fp, b < s2.heap.objs.size := fun b hb => by
    obtain ⟨o, e, _⟩ := T.obj _ _ st2 b hb
    exact Heap.lt_size e
  obtain ⟨W, ⟨m0, w0⟩, turn⟩ := h2 s2.heap.objs.size hD
  have f3 : ∀ b ∈ fp, FpOk X pins (upd H2 s2.heap.objs.size (.lst [])) b := fun b hb => ⟨by rw [upd_ne (Nat.ne_of_lt (flt b hb))]; exact (f2 b hb).1, (f2 b hb).2⟩
  have st3 : tn 0 (s2.heap.push { cls := .type "list", dict := none, data := .seq ([] : List Value).toArray }) := T.keep _ _ _ st2 fun b _ o q => Heap.get?_push_of_some _ q
  have sz3 : s2.heap.objs.size ≤ (s2.heap.push { cls := .type "list", dict := none, data := .seq ([] : List Value).toArray }).objs.size := by rw [Heap.size_push]; exact Nat.le_succ _
  generalize s2.heap.push { cls := .type "list", dict := none, data := .seq ([] : List Value).toArray } = h3 at *
  generalize s2.heap.objs.size = D at *
  -- the block's own names
  refine wpAny_newFunctionEnv S.nocell (by intro y hy; simp at hy) (fun h4 hn4 hb4 => ?_) S.kind
  dsimp only at hn4 hb4 ⊢
  have k4 : ∀ b u, h3.get? b = some u → h4.get? b = some u := fun b u q => (hb4.2 b (Nat.ne_of_lt (Heap.lt_size q))).trans (Heap.get?_push_of_some _ q)
  let Xe : Value → Shared → Prop := notedBy (model X.prog X.w) X.A (compEnvC sc cl h3.objs.size X.env) (fun x s' => RR (.ref D) h3.objs.size (.error x) s')
  have I4 : Inv (X.blockX N sc cl fp { s2 with heap := h3 } (upd H2 D (.lst [])) Xe) [] (σc σ) (upd H2 D (.lst [])) { s2 with heap := h4, toks := s2.toks + 0 } :=
    I3.blockX S f3 (fun b hb => Nat.lt_of_lt_of_le (flt b hb) sz3) k4 hn4
  have st4 : tn 0 h4 := T.keep _ _ _ st3 fun b _ o q => k4 b o q
  have fb : ∀ {H' : Hp}, (∀ b ∈ fp, H' b = none) → ∀ b ∈ fp, FpOk (X.blockX N sc cl fp { s2 with heap := h3 } (upd H2 D (.lst [])) Xe) [] H' b := fun hn b hb =>
    ⟨hn b hb, (I4.ok.exf b hb).1, I4.ok.exfs b hb, .inl hb, (I4.ok.exf b hb).2, fun p hp => absurd (show p ∈ ([] : List (Addr × Obj)) from hp) (by simp)⟩
  have fin : ∀ {σ' : St} {H' : Hp} {s' : Shared} {h' : Heap}, Inv (X.blockX N sc cl fp { s2 with heap := h3 } (upd H2 D (.lst [])) Xe) [] σ' H' s' → Heap.SameBut h3.objs.size s'.heap h' → Inv X pins σ H' { s' with heap := h' } := fun {σ' H' s' h'} J' sb => by
    have lt3 : ∀ b o, h3.get? b = some o → b ≠ h3.objs.size := fun b o q => Nat.ne_of_lt (Heap.lt_size q)
    have lo : H' h3.objs.size = none := J'.free
    have hk : HOk X.prog X.w H' h' := fun b u e => (J'.hok b u e).stay (fun c v hcc q => (sb.2 c (by
      rintro rfl
      rcases hcc with z | z
      · subst z; rw [lo] at e; cases e
      · rw [lo] at z; cases z)).trans q) (fun _ q => q) fun _ _ q => q
    refine I3.call' (s' := { s' with heap := h' }) (ch := fp) J'.os ⟨fun b o q n hb hx => (sb.2 b (lt3 b o q)).trans (J'.base.keep b o q n hb hx), fun b o q n hb hx => ?_, fun b o q n hx => J'.base.free b o q n hx, fun b o q hx => ?_, J'.base.tups, J'.base.frzs, J'.base.tbls⟩ hk J'.bare fun b hb => ?_
    · obtain ⟨sl, q1⟩ := J'.base.slot b o q n hb hx
      exact ⟨sl, (sb.2 b (lt3 b o q)).trans q1⟩
    · obtain ⟨o1, q1⟩ := J'.base.there b o q hx
      exact ⟨o1, (sb.2 b (lt3 b o q)).trans q1⟩
    · exact ⟨(f3 b hb).2.2.2.1, (f3 b hb).2.1, (f3 b hb).2.2.2.2.1, (f3 b hb).2.2.2.2.2⟩
  have hpass : PassesS CX (X.blockX N sc cl fp { s2 with heap := h3 } (upd H2 D (.lst [])) Xe) (fun _ => Ex) := fun pins6 σ6 H6 s6 e s7 I6 cx => by
    obtain ⟨m6, hm6, _⟩ := I6.loc
    have I60 : Inv (X.blockX N sc cl fp { s2 with heap := h3 } (upd H2 D (.lst [])) Xe) [] σ6 H6 s6 := Inv.unpinned (pins := []) I6
    have IX : Inv X pins σ H6 s6 := fin I60 ⟨rfl, fun _ _ => rfl⟩
    exact hX (.ref D) h3.objs.size m6 H6 s6 e s7 IX hm6 I6.free I3.sz (Nat.ne_of_gt I3.lt) cx
  have loop : ∀ s5 : Shared, Inv (X.blockX N sc cl fp { s2 with heap := h3 } (upd H2 D (.lst [])) Xe) [] (σc σ) (upd H2 D (.lst [])) s5 → tn 0 s5.heap →
      codeAny (model X.prog X.w) X.A (.compLoop (.ListComp elt [⟨tg, iter, ifs, 0⟩] sc pos) 0 (.ref it) (.ref D) (compEnvC sc cl h3.objs.size X.env)) (RR (.ref D) h3.objs.size) s5 := fun s5 I5 st5 => by
    refine compLoop_anyX (Er := Xe) (fun _ _ z => z) (fun n s' => ∃ i σ' ys H', Inv (X.blockX N sc cl fp { s2 with heap := h3 } (upd H2 D (.lst [])) Xe) [] σ' H' s' ∧ tn i s'.heap ∧ (∀ b ∈ fp, H' b = none) ∧ W i n σ' ys H') ?_ m0 ⟨0, _, [], _, I5, st5, fun b hb => (f3 b hb).1, w0⟩
    rintro n s6 ⟨i, σ6, ys, H6, I6, st6, fr6, w6⟩
    obtain ⟨hDy, step⟩ := turn i n σ6 ys H6 w6
    rcases step with ⟨stop, q6⟩ | ⟨go, Nx, hN, step⟩
    · refine thn (T.done (X.blockX N sc cl fp { s2 with heap := h3 } (upd H2 D (.lst [])) Xe) rfl rfl rfl hc i [] s6 σ6 H6 Xe I6 (fb fr6) st6 stop) fun r s7 ⟨hr, I7⟩ => ?_
      subst hr
      obtain ⟨m7, hm7, _⟩ := I7.loc
      refine hRR D h3.objs.size m7 s7 H6 (fin I7 ⟨rfl, fun _ _ => rfl⟩) hm7 ⟨I7.free, Nat.ne_of_gt I3.lt, I3.sz, fun x c e => ?_, fun p hp => ?_⟩ q6
      · obtain ⟨v, z⟩ := I3.cell x c e
        exact Nat.ne_of_lt z.lt
      · exact Nat.ne_of_lt (Heap.lt_size (I3.pin p hp).1)
    · refine thn (T.item (X.blockX N sc cl fp { s2 with heap := h3 } (upd H2 D (.lst [])) Xe) rfl rfl rfl hc i [] s6 σ6 H6 Xe I6 (fb fr6) st6 go) fun r s7 ⟨u, hr, h7⟩ => ?_
      subst hr
      refine thn h7 fun _ s8 ⟨x, H8, I8, r8, y8, st8, fr8⟩ => ?_
      have I8' := I8.pinned (fb fr8) (T.obj _ _ st8)
      refine thn (hg _ _ _ _ _ s8 σ6 H8 x u _ I8' r8 (step x H8 y8)) fun _ s9 ⟨σ9, H9, I9, q9⟩ => ?_
      refine thn (ht _ _ _ _ _ s9 σ9 H9 _ I9 q9) fun c sA ⟨HA, IA, qA⟩ => ?_
      have again : ∀ {σB : St} {HB : Hp} {sB : Shared} {zs : List V}, Inv (X.blockX N sc cl fp { s2 with heap := h3 } (upd H2 D (.lst [])) Xe) ([] ++ pinsAt fp s8.heap) σB HB sB → Nx σB zs HB →
          ∃ m, m < n ∧ ∃ i σ' ys H', Inv (X.blockX N sc cl fp { s2 with heap := h3 } (upd H2 D (.lst [])) Xe) [] σ' H' sB ∧ tn i sB.heap ∧ (∀ b ∈ fp, H' b = none) ∧ W i m σ' ys H' := fun {σB HB sB zs} IB nB => by
        obtain ⟨m', hm, wB⟩ := hN σB zs HB nB
        refine ⟨m', hm, i + 1, σB, zs, HB, IB.unpinned, T.keep _ _ _ st8 fun b hb o e => (IB.pin (b, o) (List.mem_append_right _ (List.mem_append_right _ (mem_pinsAt hb e)))).1, fun b hb => ?_, wB⟩
        obtain ⟨o, e, d⟩ := T.obj _ _ st8 b hb
        exact (IB.pin (b, o) (List.mem_append_right _ (List.mem_append_right _ (mem_pinsAt hb e)))).2.1
      cases c with
      | false => exact again IA qA
      | true =>
        refine thn (he _ _ _ _ hpass _ sA σ9 HA _ IA qA) fun y sB ⟨yv, HB, IB, rB, dB, lB, qB⟩ => ?_
        exact thn (mt_append (X := X.blockX N sc cl fp { s2 with heap := h3 } (upd H2 D (.lst [])) Xe) _ sB σ9 HB (.ref D) [yv] (.ref D) [y] (fun v H' => v = .non ∧ Nx σ9 (ys ++ [yv]) H') IB rfl (.cons rB .nil) ⟨D, ys, yv, rfl, rfl, dB, lB, rfl, qB⟩) fun _ sC ⟨_, HC, IC, _, _, qC⟩ => again IC qC
  refine codeAny_compStart_list (loop _ I4 st4) ?_
  exact T.self _ 0 _ _ _ st4 (loop _ I4 st4)
theorem pe_compX {CX : CXT} {Ex : XK} (hc : X.calm = true) (S : CompSc X N sc cl σc) (hi : PI X tg iter wi) (hp : CompPass CX X Ex) (hg : ∀ fp s3 H3 xe, PG (X.blockX N sc cl fp s3 H3 xe) tg g) (ht : ∀ fp s3 H3 xe, PTs (X.blockX N sc cl fp s3 H3 xe) ifs tt) (he : ∀ fp s3 H3 xe, PassesS CX (X.blockX N sc cl fp s3 H3 xe) (fun _ => Ex) → PE (X.blockX N sc cl fp s3 H3 xe) elt te)
    (hs : ∀ x, foldedSetIterable iter X.env x = pure x := by intro _; rfl) : PE X (.ListComp elt [⟨tg, iter, ifs, 0⟩] sc pos) (tComp wi σc g tt te) := by
  intro pins s σ H Q I h
  rw [eval_ListComp]
  refine wpAny_comprehension_free rfl hs S.clos S.kind S.names (thn (hi pins s σ H _ I h) fun v s1 h1 => thn h1 fun itv s2 h2 => ?_)
  obtain ⟨it, fp, tn, J, H2, e, I2, T, st2, f2, h2⟩ := h2
  subst e
  exact comp_coreX (Q := Q) hc S hg ht he (fun D C m H6 s6 e s7 I6 n6 f6 z6 l6 cx => hp pins σ H6 s6 C m e s7 I6 n6 f6 z6 l6 cx _ rfl) I2 T st2 f2 h2 fun D C m s7 H7 I7 n7 G q => ⟨m, n7, fun h' sb => ⟨.ref D, H7, I7.gone G sb, rfl, q⟩⟩
end
end L2

set_option Elab.async false
set_option linter.all false
set_option maxRecDepth 100000
set_option maxHeartbeats 4000000
/-! An exception of a comprehension's element leaves the def around it. -/
namespace L2
open PySem PySem.Spec PyProof.Rows
section
variable {M : Model} {A : Around} {E : Value → Shared → Prop} {s : Shared}
theorem note_env {env env' : Env} (h : env'.frame = env.frame) (e : Value) : noteFrame e env' = noteFrame e env := by
  unfold noteFrame PySem.frameOf
  rw [h]
theorem frames_less {base base' h : Heap} (sub : ∀ b, base.get? b = none → base'.get? b = none) : ∀ {l : List Env}, h.FunFrames base l → h.FunFrames base' l
  | [], _ => trivial
  | env :: r, ⟨hk, ⟨L, o, hf, hn, ho, hd⟩, hr⟩ => ⟨hk, ⟨L, o, hf, sub _ hn, ho, hd⟩, frames_less sub hr⟩
theorem frames_keep {base h h' : Heap} : ∀ {l : List Env}, h.FunFrames base l → (∀ b ∈ frs l, h'.get? b = h.get? b) → h'.FunFrames base l
  | [], _, _ => trivial
  | env :: r, ⟨hk, ⟨L, o, hf, hn, ho, hd⟩, hr⟩, k => ⟨hk, ⟨L, o, hf, hn, (k L (by unfold frs; rw [List.filterMap_cons, hf]; exact List.mem_cons_self)).trans ho, hd⟩, frames_keep hr fun b hb => k b (by unfold frs; rw [List.filterMap_cons, hf]; exact List.mem_cons_of_mem _ hb)⟩
/-- leaving, whatever frame the flight was marked with -/
theorem leaves_any {base : Heap} {env : Env} {outer : List Env} {L e : Addr} {cls a0 fl : Value} {Q : Unit → Shared → Prop}
    (hfr : A.frames = some (env :: outer)) (hf : env.frame = some L) (f1 : base.StaysIn s.heap) (f2 : base.get? e = none) (f3 : s.heap.FunFrames base (env :: outer)) (f4 : s.heap.TracedAtW base e cls a0 fl)
    (hQ : ∀ h', Heap.FlyingW base outer e cls a0 h' → s.heap.UpToSlots h' → Q () { s with heap := h' }) : wpAny M A (leaving env (.ref e)) Q E s := by
  unfold leaving
  by_cases hfl : fl = rawInt L
  · subst hfl
    refine wpAny_bind (wpAny_noteFrame_againW hf f4 ?_)
    refine wpAny_landsW (L := L) ⟨f1, f2, f3, f4⟩ fun h' hw up => ?_
    obtain ⟨k1, k2, ⟨_, _, k3⟩, k4⟩ := hw
    exact hQ h' ⟨k1, k2, k3, k4⟩ up
  · obtain ⟨oe, vs, T, oT, ts, he, ⟨hcls, h0⟩, hd, h1, hnT, hTe, hT, hdT, h3⟩ := f4
    subst hcls
    refine wpAny_bind ?_
    unfold noteFrame
    simp only [hf]
    refine wpAny_bind (wpAny_field he hd h1 ?_)
    rw [if_pos (show (Value.ref T != Value.none) = true from by simp)]
    refine wpAny_bind (wpAny_field hT hdT h3 ?_)
    rw [if_neg (show ¬ ((fl == rawInt L) = true) from fun z => hfl (by simpa using z))]
    refine wpAny_bind (wpAny_setField hT hdT (Array.getElem?_eq_some_iff.mp h3).1 ?_)
    have other : ∀ b, b ≠ T → (s.heap.update T (Obj.mapFields (·.setIfInBounds 3 Value.none))).get? b = s.heap.get? b := fun b hb => Heap.get?_update_other _ _ (Ne.symm hb)
    have noRecord : ∀ b o, s.heap.get? b = some o → (∀ vs, o.data ≠ .fields vs) → b ≠ T := fun b o hb hnf q => by
      rw [q, hT] at hb; injection hb with hb; subst hb; exact hnf ts hdT
    refine wpAny_entryW hfr (f3.of_keeps fun b o hb hnf => ⟨o, (other b (noRecord b o hb hnf)).trans hb, rfl⟩) hf ((other e (Ne.symm hTe)).trans he)
      (fun b o hbo => (other b fun q => by rw [q, hnT] at hbo; cases hbo).trans (f1 b o hbo)) f2 hd (Array.getElem?_eq_some_iff.mp h1).1 h0
      fun h' ⟨x1, x2, x3, x4⟩ => ?_
    refine wpAny_landsW (L := L) ⟨x1, f2, x2, x3⟩ fun h2 hw up => ?_
    obtain ⟨k1, k2, ⟨_, _, k3⟩, k4⟩ := hw
    refine hQ h2 ⟨k1, k2, k3, k4⟩ fun b o hb hnf => ?_
    obtain ⟨sl, e1⟩ := x4 b o ((other b (noRecord b o hb hnf)).trans hb) hnf
    obtain ⟨sl2, e2⟩ := up b _ e1 hnf
    exact ⟨sl2, e2⟩
/-- passed on, with any frame -/
theorem passes_any {α : Type} {base : Heap} {l : List Env} {what : String} {env : Env} {e : Addr} {cls a0 fl : Value} {Q : α → Shared → Prop}
    (f1 : base.StaysIn s.heap) (f3 : s.heap.FunFrames base l) (f4 : s.heap.TracedAtW base e cls a0 fl)
    (hE : ∀ h' fl', base.StaysIn h' → h'.FunFrames base l → h'.TracedAtW base e cls a0 fl' → s.heap.UpToSlots h' → E (.ref e) { s with heap := h' }) : wpAny M A (PySem.passOn what (.ref e) env : Sem α) Q E s := by
  obtain ⟨oe, vs, T, oT, ts, he, hc, hd, h1, hnT, hTe, hT, hdT, h3⟩ := f4
  unfold PySem.passOn
  refine wpAny_bind (wpAny_field he hd h1 ?_)
  rw [if_neg (show ¬ ((Value.ref T == Value.none) = true) from by simp)]
  have other : ∀ b, b ≠ T → (s.heap.update T (Obj.mapFields (·.setIfInBounds 3 (env.frame.elim Value.none fun f => rawInt f)))).get? b = s.heap.get? b := fun b hb => Heap.get?_update_other _ _ (Ne.symm hb)
  have noRecord : ∀ b o, s.heap.get? b = some o → (∀ vs, o.data ≠ .fields vs) → b ≠ T := fun b o hb hnf q => by
    rw [q, hT] at hb; injection hb with hb; subst hb; exact hnf ts hdT
  have hsz3 : 3 < ts.size := (Array.getElem?_eq_some_iff.mp h3).1
  refine wpAny_bind ?_
  unfold setFlight
  refine wpAny_bind (wpAny_field he hd h1 ?_)
  rw [if_pos (show (Value.ref T != Value.none) = true from by simp)]
  refine wpAny_setField hT hdT hsz3 (wpAny_throw (hE _ (env.frame.elim Value.none fun f => rawInt f) (fun b o hbo => (other b fun q => by rw [q, hnT] at hbo; cases hbo).trans (f1 b o hbo)) (f3.of_keeps fun b o hb hnf => ⟨o, (other b (noRecord b o hb hnf)).trans hb, rfl⟩) ?_ fun b o hb hnf => ⟨o.slots, (other b (noRecord b o hb hnf)).trans hb⟩))
  exact ⟨oe, vs, T, _, _, (other e (Ne.symm hTe)).trans he, hc, hd, h1, hnT, hTe, Heap.get?_update_self _ hT (Obj.isFreed_of_fields (Obj.data_mapFields hdT _)), Obj.data_mapFields hdT _, by simp [hsz3]⟩
end
section
variable {X : Cx} {pins : List (Addr × Obj)} {σ : St} {H H' : Hp} {s s' : Shared} {e : Addr} {cls : Value}
theorem Flies.comp {M : Model} {E2 : Value → Shared → Prop} {Qx : Value → Shared → Prop} {what : String} {C : Addr} {m : Str → Option Value} (f : Flies X.prog X.w X.stack H H' s s' e cls) (I : Inv X pins σ H s)
    (hs : X.stack = X.env :: X.outer) (hf : X.env.frame = some X.env.locals) (hx : X.ex = []) (hC : s.heap.Ns C m) (hHC : H C = none) (hsz : X.s₀.heap.objs.size ≤ C) (hCl : C ≠ X.env.locals)
    {env' : Env} (hen : env'.frame = X.env.frame) (hQ : ∀ s'', Flies X.prog X.w X.outer X.H₀ H' X.s₀ s'' e cls → Qx (.ref e) s'') :
    notedBy M X.A env' (fun x s1 => ∃ m, s1.heap.Ns C m ∧ ∀ h', Heap.SameBut C s1.heap h' → ∀ cenv : Env, cenv.locals = C → wpAny M X.A (PySem.passOn what x cenv : Sem Value) (fun _ _ => False) (fun x2 s2 => wpAny M X.A (leaving X.env x2) (fun _ s3 => Qx x2 s3) E2 s2) { s1 with heap := h' }) (.ref e) s' := by
  have J := f.inv I
  obtain ⟨B, a0, fw, hB, kB, tB⟩ := f.fly
  rw [hs] at fw
  have nx : ∀ b : Addr, b ∉ X.ex := fun b => by rw [hx]; simp
  have Cfs : C ∉ X.fs := fun hb => by
    obtain ⟨_, o, ho, _⟩ := I.ok.funs.mem hb
    exact absurd (Heap.lt_size ho) (Nat.not_lt.mpr hsz)
  have Cst : C ∉ frs X.stack := fun z => by
    rcases List.mem_cons.mp (I.stkSub C z) with y | y
    · exact hCl y
    · exact Cfs y
  obtain ⟨oC, esC, epC, gC, dC, rC⟩ := hC
  have BC : B.get? C = some oC := kB C oC gC hHC Cst
  have sC : s'.heap.get? C = some oC := f.un.keep C oC gC hHC Cst (by simp)
  -- the base without the block's names
  have sub : ∀ b, B.get? b = none → (PySem.W.hideAll B [C]).get? b = none := fun b hb => by
    cases q : (PySem.W.hideAll B [C]).get? b with
    | none => rfl
    | some o => rw [PySem.W.of_hideAll _ q] at hb; cases hb
  have big : ∀ b o, B.get? b = some o → b ≠ C → (PySem.W.hideAll B [C]).get? b = some o := fun b o q n => PySem.W.hideAll_get _ q (by simpa using n)
  have noC : (PySem.W.hideAll B [C]).get? C = none := PySem.W.hideAll_none _ (by simp)
  have toB : ∀ b o, (PySem.W.hideAll B [C]).get? b = some o → B.get? b = some o := fun b o q => PySem.W.of_hideAll _ q
  generalize PySem.W.hideAll B [C] = B' at *
  show wpAny M X.A (noteFrame (.ref e) env') _ _ s'
  rw [note_env hen]
  refine wpAny_looks_onW (by rw [I.ok.frames, hs]) hf fw fun h1 hw up1 => ?_
  obtain ⟨w1, w2, w3, w4⟩ := hw
  have eC : e ≠ C := fun z => by rw [z, BC] at w2; cases w2
  refine ⟨m, up1.ns ⟨oC, esC, epC, sC, dC, rC⟩, fun h2 sb cenv _ => ?_⟩
  have keep2 : ∀ b, b ≠ C → h2.get? b = h1.get? b := fun b nb => sb.2 b nb
  have st2 : B'.StaysIn h2 := fun b o q => by
    have nb : b ≠ C := fun z => by rw [z, noC] at q; cases q
    rw [keep2 b nb]
    exact w1 b o (toB b o q)
  have fr2 : h2.FunFrames B' (X.env :: X.outer) := by
    refine frames_keep (frames_less sub w3) fun b hb => keep2 b fun z => Cst ?_
    rw [hs, ← z]
    exact hb
  have tr2 : h2.TracedAtW B' e cls a0 (rawInt X.env.locals) := by
    obtain ⟨oe, vs, T, oT, ts, he, hc, hd, h1', hnT, hTe, hT, hdT, h3⟩ := w4
    have TC : T ≠ C := fun z => by rw [z, BC] at hnT; cases hnT
    exact ⟨oe, vs, T, oT, ts, (keep2 e eC).trans he, hc, hd, h1', sub _ hnT, hTe, (keep2 T TC).trans hT, hdT, h3⟩
  refine passes_any (s := { s' with heap := h2 }) st2 fr2 tr2 fun h3 fl3 st3 fr3 tr3 up3 => ?_
  refine leaves_any (s := { s' with heap := h3 }) (by rw [I.ok.frames, hs]) hf st3 (sub _ w2) fr3 tr3 fun h4 fl4 up4 => hQ _ ?_
  have s0C : ∀ b o, X.s₀.heap.get? b = some o → b ≠ C := fun b o q z => by
    have := Heap.lt_size q
    rw [z] at this
    exact absurd this (Nat.not_lt.mpr hsz)
  have slot : ∀ b o, X.s₀.heap.get? b = some o → b ∈ X.fs → ∃ sl, h4.get? b = some { o with slots := sl } := fun b o q hb => by
    obtain ⟨sl, e1⟩ := J.base.slot b o q (I.ok.frf b hb) hb (nx b)
    obtain ⟨_, o', ho', hn⟩ := J.funs.mem hb
    rw [e1] at ho'
    cases ho'
    obtain ⟨sl1, e2⟩ := up1 b _ e1 hn
    have e3 : h2.get? b = _ := (keep2 b (s0C b o q)).trans e2
    obtain ⟨sl3, e4⟩ := up3 b _ e3 hn
    obtain ⟨sl4, e5⟩ := up4 b _ e4 hn
    exact ⟨sl4, e5⟩
  have keepB : ∀ b o, X.s₀.heap.get? b = some o → X.H₀ b = none → b ∉ X.fs → B'.get? b = some o := fun b o q n hb =>
    big b o (kB b o (I.base.keep b o q n hb (nx b)) (I.base.free b o q n (nx b)) (I.nst q hb)) (s0C b o q)
  have thereB : ∀ b o, X.s₀.heap.get? b = some o → b ∉ X.fs → ∃ o', B'.get? b = some o' := fun b o q hb => by
    obtain ⟨o1, e1⟩ := I.base.there b o q (nx b)
    obtain ⟨o2, e2⟩ := tB b o1 e1 (I.nst q hb)
    exact ⟨o2, big b o2 e2 (s0C b o q)⟩
  have HC' : H' C = none := f.un.free C oC gC hHC (by simp)
  have hB' : HOk X.prog X.w H' B' := hB.lean fun b u n q => big b u q fun z => n (by rw [z]; exact HC')
  refine ⟨J.os, J.bare, ⟨fun b o q n hb _ => fl4.1 b o (keepB b o q n hb), fun b o q _ hb _ => slot b o q hb, fun b o q n _ => J.base.free b o q n (nx b), fun b o q _ => ?_, J.base.tups, J.base.frzs, J.base.tbls⟩,
    B', a0, fl4, hB', keepB, thereB⟩
  by_cases hb : b ∈ X.fs
  · obtain ⟨sl, e2⟩ := slot b o q hb
    exact ⟨_, e2⟩
  · obtain ⟨o1, e1⟩ := thereB b o q hb
    exact ⟨o1, fl4.1 b o1 e1⟩
end
section
variable {P : Program} {w : World} {K : PySem.W.Frag} {mg : Str → Option Value} {base : Heap} {N : List Str} {qual : Str} {scope : Scope} {f : Addr} {cd : Value} {A : Around} {outer : List Env} {s : Shared} {H : Hp} {E : XK}
theorem comp_on : CompPass (CX1 P w) (cxOf (CX1 P w) P w K mg base N qual scope f cd A outer s H E) E := by
  rintro pins σ H1 s1 C m u s' I hC hHC hsz hCl ⟨e, cls, H', rfl, fl, q⟩ env' hen
  exact Flies.comp (M := model P w) (E2 := fun e' s'' => CX1 P w outer H s E e' s'') (Qx := fun x s3 => CX1 P w outer H s E x s3) (what := "comprehension.variables-let-go") fl I rfl rfl rfl hC hHC hsz hCl hen fun s'' f'' => ⟨e, cls, H', rfl, f'', q⟩
end
end L2

set_option Elab.async false
set_option linter.all false
set_option maxRecDepth 100000
set_option maxHeartbeats 4000000
/-! xs.insert(i, v), text.find(..). -/
namespace L2
open PySem PySem.Spec PyProof.Rows
section
variable {X : Cx}
theorem vals_take {xs : List V} {us : List Value} (h : Vals xs us) : ∀ k : Nat, Vals (xs.take k) (us.take k) := by
  induction h with
  | nil => intro k; simp; exact .nil
  | cons r t ih => intro k; cases k with
    | zero => exact .nil
    | succ k => exact .cons r (ih k)
theorem vals_drop {xs : List V} {us : List Value} (h : Vals xs us) : ∀ k : Nat, Vals (xs.drop k) (us.drop k) := by
  induction h with
  | nil => intro k; simp; exact .nil
  | cons r t ih => intro k; cases k with
    | zero => exact .cons r t
    | succ k => exact ih k
def rIns : V → List V → Hp → VK → Prop := fun x vs H Q => ∃ l xs k y, x = .ref l ∧ vs = [.int k, y] ∧ H l = some (.lst xs) ∧ 0 ≤ k ∧ k ≤ xs.length ∧ xs.length ≤ 200000 ∧ Q .non (upd H l (.lst (xs.take k.toNat ++ y :: xs.drop k.toNat)))
theorem big_line : 200002 ≤ sizeLine := by decide
theorem mt_insert : MtM X "list.insert" rIns := by
  intro pins s σ H x vs v us Q I rx rv h
  obtain ⟨l, xs, k, y, rfl, rfl, hH, k0, k1, hl2, q⟩ := h
  cases rx
  obtain ⟨u1, u2, rfl, ⟨t, rfl⟩, ru⟩ := rv.two
  obtain ⟨z, its, n, r, hl, e⟩ := I.lstM hH
  have bl := big_line
  have fits : ¬ (!Builtin.List.listFitsIndex k) = true := by
    unfold Builtin.List.listFitsIndex
    have : (2 : Int) ^ 63 = 9223372036854775808 := by decide
    simp
    omega
  refine call_meets PySem.F.slot_list_insert ⟨_, e, rfl⟩ PySem.F.entry_list_insert (PySem.F.args_list_insert_3 _ _ _) (PySem.AutoListH.list_insert_list_int_val_1 l its.toArray n k t u2 fits (by rw [List.size_toArray]; omega)) ⟨e, ?_⟩
  refine ⟨.non, _, I.lset (its' := its.take k.toNat ++ u2 :: its.drop k.toNat) hH e ?_ ((vals_take r _).append (.cons ru (vals_drop r _))) ?_, rfl, q⟩
  · have hk : (if k < 0 then (k + ((its.toArray.size : Nat) : Int)).toNat else min k.toNat its.toArray.size) = k.toNat := by
      rw [if_neg (by omega), List.size_toArray]
      omega
    show (its.toArray.extract 0 (if k < 0 then (k + ((its.toArray.size : Nat) : Int)).toNat else min k.toNat its.toArray.size)).push u2 ++ its.toArray.extract (if k < 0 then (k + ((its.toArray.size : Nat) : Int)).toNat else min k.toNat its.toArray.size) = _
    rw [hk]
    apply Array.ext'
    simp
    exact List.take_of_length_le (by rw [List.length_drop]; exact Nat.le_refl _)
  · rw [List.length_append, List.length_cons, List.length_take, List.length_drop]
    omega
def rFind : V → List V → Hp → VK → Prop := fun x xs H Q => ∃ z y, x = .str z ∧ xs = [.str y] ∧ Q (.int (Txt.find z y)) H
theorem mt_find : MtR X "str.find" rFind := by
  intro pins s σ H x xs v us Q I rx r h
  obtain ⟨z, y, rfl, rfl, q⟩ := h
  obtain ⟨t, rfl⟩ := rx
  obtain ⟨u, rfl, ru⟩ := vals1 r
  obtain ⟨t2, rfl⟩ := ru
  exact SC.find ⟨.int _, H, I.tok _, ⟨_, rfl⟩, q⟩
end
end L2

namespace WayM
open PySem
def steps : List Str := ["F", "M", "T", "f", "m", "t", "S", "he", "she"]
def Stp (x : Str) : Prop := x ∈ steps
instance (x : Str) : Decidable (Stp x) := inferInstanceAs (Decidable (x ∈ steps))
end WayM

set_option linter.all false
namespace TongM
open PySem WayM TextM TextG
theorem str_eq {a b : Str} (h : a.cps.toList = b.cps.toList) : a = b := Str.ext' (Array.toList_inj.mp h)
theorem sg_app (a b : Str) : (a ++ b).cps.toList = a.cps.toList ++ b.cps.toList := by rw [Str.cps_append, Array.toList_append]
theorem len_sg (a : Str) : a.cps.toList.length = a.length := by rw [Array.length_toList]; rfl
def alpha : Str := "abcdefghijklmnopqrstuvwxyz"
def inL (c : Nat) : Bool := !(Builtin.Str.occurrences alpha ⟨#[c]⟩ 0 alpha.length 1).isEmpty
theorem inL_mem (c : Nat) : inL c = decide (c ∈ alpha.cps.toList) := StrLaws.found_one alpha c
theorem alpha_rng : ∀ c ∈ alpha.cps.toList, 97 ≤ c ∧ c ≤ 122 := by decide +kernel
structure Nm (x : Str) : Prop where
  lo : 1 ≤ x.length
  hi : x.length ≤ 8
  all : ∀ c ∈ x.cps.toList, c ∈ alpha.cps.toList
theorem Nm.rng {x : Str} (h : Nm x) {c : Nat} (hc : c ∈ x.cps.toList) : 97 ≤ c ∧ c ≤ 122 := alpha_rng c (h.all c hc)
def isNm (x : Str) : Bool := decide (1 ≤ x.length) && decide (x.length ≤ 8) && x.cps.toList.all inL
theorem Nm.ok {x : Str} (h : Nm x) : isNm x = true := by
  unfold isNm
  rw [decide_eq_true h.lo, decide_eq_true h.hi]
  rw [List.all_eq_true.mpr fun c hc => by rw [inL_mem]; exact decide_eq_true (h.all c hc)]
  rfl
/-! ### what is read -/
def partsOf (c : Nat) (z : Str) : List Str := (splitL c z.cps.toList).map fun q => (⟨q.toArray⟩ : Str)
def letters : List Str := ["F", "M", "T", "f", "m", "t", "S"]
def tests : List Str := ["he", "she"]
def isLet (x : Str) : Bool := decide (x ∈ letters)
def isTes (x : Str) : Bool := decide (x ∈ tests)
theorem stp_iff (x : Str) : Stp x ↔ (isLet x || isTes x) = true := by
  unfold Stp isLet isTes steps letters tests
  simp [or_assoc]
def marks : List Str := ["other", "elder", "younger"]
def pcOk (ws : List Str) (s : Str) : Bool := isLet s || isTes s || (Txt.startswith s ":" && decide (Txt.slice s (some 1) none ∈ ws))
abbrev Bran := List Str × Str
abbrev Rw := Str × List Bran
structure PartT (ws : List Str) (z : Str) (b : Bran) : Prop where
  parts : partsOf 32 z = b.1 ++ (if b.2 = "" then [] else [b.2])
  mark : b.2 = "" ∨ b.2 ∈ marks
  lo : 1 ≤ b.1.length
  hi : b.1.length ≤ 12
  ok : ∀ p ∈ b.1, pcOk ws p = true
def bar : Str := " | "
def equ : Str := " = "
def col : Str := ":"
structure PartsT (ws : List Str) (z : Str) (bs : List Bran) : Prop where
  len : (cutAt bar z).length = bs.length
  hi : bs.length ≤ 8
  each : ∀ (i : Nat) (y : Str) (b : Bran), (cutAt bar z)[i]? = some y → bs[i]? = some b → PartT ws y b ∧ y.length ≤ 1000
structure RowsT (z : Str) (rows : List Rw) : Prop where
  len : (partsOf 10 z).length = rows.length
  hi : rows.length ≤ 40
  each : ∀ (i : Nat) (y : Str) (r : Rw), (partsOf 10 z)[i]? = some y → rows[i]? = some r → y.length ≤ 10000 ∧ (Txt.partition y equ).1 = r.1 ∧ Nm r.1 ∧ r.1 ∉ (rows.take i).map (·.1) ∧ (Txt.partition y equ).2.2.length ≤ 10000 ∧ PartsT ((rows.take i).map (·.1)) (Txt.partition y equ).2.2 r.2
/-! ### what is written -/
def blank : Str := ⟨#[32]⟩
def line : Str := ⟨#[10]⟩
def lineOf (b : Bran) : Str := if b.2 = "" then blank.join b.1 else blank.join b.1 ++ blank ++ b.2
def rowTxt (r : Rw) : Str := r.1 ++ equ ++ bar.join (r.2.map lineOf)
def txt (rows : List Rw) : Str := line.join (rows.map rowTxt)
def PieceOk (ws : List Str) (s : Str) : Prop := Stp s ∨ ∃ w ∈ ws, s = col ++ w
structure GoodB (ws : List Str) (b : Bran) : Prop where
  lo : 1 ≤ b.1.length
  hi : b.1.length ≤ 12
  mark : b.2 = "" ∨ b.2 ∈ marks
  ok : ∀ p ∈ b.1, PieceOk ws p
structure GoodR (rows : List Rw) : Prop where
  ne : rows ≠ []
  hi : rows.length ≤ 40
  nd : (rows.map (·.1)).Nodup
  nm : ∀ r ∈ rows, Nm r.1
  br : ∀ (i : Nat) (r : Rw), rows[i]? = some r → r.2 ≠ [] ∧ r.2.length ≤ 8 ∧ ∀ b ∈ r.2, GoodB ((rows.take i).map (·.1)) b
/-! ### signs of what is written -/
theorem mem_join {sep : Str} {c : Nat} : ∀ {l : List Str}, c ∈ (sep.join l).cps.toList → c ∈ sep.cps.toList ∨ ∃ x ∈ l, c ∈ x.cps.toList
  | [], h => by cases h
  | [p], h => .inr ⟨p, by simp, h⟩
  | p :: q :: r, h => by
    have h2 : c ∈ (p ++ sep ++ sep.join (q :: r)).cps.toList := h
    rw [sg_app, sg_app] at h2
    rcases List.mem_append.mp h2 with h3 | h3
    · rcases List.mem_append.mp h3 with h4 | h4
      · exact .inr ⟨p, by simp, h4⟩
      · exact .inl h4
    · rcases mem_join h3 with h4 | ⟨x, hx, h4⟩
      · exact .inl h4
      · exact .inr ⟨x, List.mem_cons_of_mem _ hx, h4⟩
theorem join_le {sep : Str} {n : Nat} : ∀ {l : List Str}, (∀ x ∈ l, x.length ≤ n) → (sep.join l).length ≤ l.length * (n + sep.length)
  | [], _ => Nat.zero_le _
  | [p], h => by
    have := h p (by simp)
    show p.length ≤ 1 * (n + sep.length)
    omega
  | p :: q :: r, h => by
    have ih := join_le (sep := sep) (n := n) (l := q :: r) fun x hx => h x (List.mem_cons_of_mem _ hx)
    have := h p (by simp)
    show (p ++ sep ++ sep.join (q :: r)).length ≤ _
    rw [Str.length_append, Str.length_append]
    have e : (p :: q :: r).length * (n + sep.length) = (q :: r).length * (n + sep.length) + (n + sep.length) := by
      rw [List.length_cons, Nat.add_mul, Nat.one_mul]
    omega
theorem join_snoc {sep : Str} {ws : List Str} {x : Str} (hn : ws ≠ []) : sep.join (ws ++ [x]) = sep.join ws ++ sep ++ x := by
  induction ws with
  | nil => exact absurd rfl hn
  | cons p ps ih =>
    cases ps with
    | nil => rfl
    | cons q r =>
      show p ++ sep ++ sep.join ((q :: r) ++ [x]) = (p ++ sep ++ sep.join (q :: r)) ++ sep ++ x
      rw [ih (by simp)]
      simp only [Str.append_assoc]
theorem parts_join {c : Nat} (hc : c < 256) {ws : List Str} (h : ∀ x ∈ ws, c ∉ x.cps.toList) (hn : ws ≠ []) : partsOf c ((⟨#[c]⟩ : Str).join ws) = ws := by
  obtain ⟨p, ps, rfl⟩ := List.exists_cons_of_ne_nil hn
  unfold partsOf
  rw [← split_one _ _ (kind_low hc)]
  exact split_join (kind_low hc) fun q hq => h q hq
/-- the signs of a piece -/
theorem stp_sg {x : Str} (h : Stp x) : ∀ c ∈ x.cps.toList, 65 ≤ c ∧ c ≤ 122 := (show ∀ x ∈ steps, ∀ c ∈ x.cps.toList, 65 ≤ c ∧ c ≤ 122 by decide +kernel) x h
theorem stp_len {x : Str} (h : Stp x) : x.length ≤ 3 := (show ∀ x ∈ steps, x.length ≤ 3 by decide +kernel) x h
theorem mark_sg {x : Str} (h : x ∈ marks) : ∀ c ∈ x.cps.toList, 65 ≤ c ∧ c ≤ 122 := (show ∀ x ∈ marks, ∀ c ∈ x.cps.toList, 65 ≤ c ∧ c ≤ 122 by decide +kernel) x h
theorem mark_len {x : Str} (h : x ∈ marks) : x.length ≤ 7 := (show ∀ x ∈ marks, x.length ≤ 7 by decide +kernel) x h
theorem col_sg : col.cps.toList = [58] := by decide +kernel
theorem piece_sg {ws : List Str} (hw : ∀ w ∈ ws, Nm w) {s : Str} (h : PieceOk ws s) : (∀ c ∈ s.cps.toList, 58 ≤ c ∧ c ≠ 61 ∧ c ≤ 122) ∧ s.length ≤ 9 := by
  rcases h with h | ⟨w, hm, rfl⟩
  · refine ⟨fun c hc => ?_, ?_⟩
    · have := stp_sg h c hc; omega
    · have := stp_len h; omega
  · have nw := hw w hm
    refine ⟨fun c hc => ?_, ?_⟩
    · rw [sg_app, col_sg] at hc
      rcases List.mem_append.mp hc with h1 | h1
      · have : c = 58 := by simpa using h1
        omega
      · have := nw.rng h1
        omega
    · rw [Str.length_append]
      have := nw.hi
      have : col.length = 1 := by decide +kernel
      omega
theorem slice_col (w : Str) : Txt.slice (col ++ w) (some 1) none = w := by
  have l : (col ++ w).length = 1 + w.length := by rw [Str.length_append]; rfl
  have e : Txt.slice (col ++ w) (some 1) none = StrLaws.sliceText (col ++ w) (some ((1 : Nat) : Int)) (some (((1 + w.length : Nat) : Nat) : Int)) := by
    show StrLaws.sliceText (col ++ w) (some 1) none = _
    unfold StrLaws.sliceText
    rw [StrLaws.sliceIdx_none_hi, l]
    rfl
  rw [e, StrLaws.sliceText_nat _ (by omega) (by omega)]
  refine str_eq ?_
  show ((col ++ w).cps.toList.drop 1).take _ = _
  rw [sg_app, col_sg]
  simp
  rw [← len_sg, List.take_length]
theorem starts_col (w : Str) : Txt.startswith (col ++ w) ":" = true := by
  unfold Txt.startswith
  have l : (col ++ w).length = 1 + w.length := by rw [Str.length_append]; rfl
  have l2 : ((":" : Str)).length = 1 := by decide +kernel
  rw [l, l2, Bool.and_eq_true]
  refine ⟨decide_eq_true (by omega), ?_⟩
  rw [StrLaws.subAt_eq, l2, sg_app, col_sg]
  have e : ((":" : Str)).cps.toList = [58] := by decide +kernel
  rw [e]
  simp
theorem piece_ok {ws : List Str} {s : Str} (h : PieceOk ws s) : pcOk ws s = true := by
  unfold pcOk
  rcases h with h | ⟨w, hm, rfl⟩
  · rw [(stp_iff s).mp h, Bool.true_or]
  · rw [starts_col, slice_col, decide_eq_true hm]
    simp
theorem starts_inv {s : Str} (h : Txt.startswith s ":" = true) : s = col ++ Txt.slice s (some 1) none := by
  unfold Txt.startswith at h
  rw [Bool.and_eq_true] at h
  have h2 := h.2
  have l2 : ((":" : Str)).length = 1 := by decide +kernel
  have e : ((":" : Str)).cps.toList = [58] := by decide +kernel
  rw [StrLaws.subAt_eq, l2, e, List.drop_zero] at h2
  have h3 : s.cps.toList.take 1 = [58] := by simpa using h2
  cases hs : s.cps.toList with
  | nil => rw [hs] at h3; cases h3
  | cons a r =>
    rw [hs] at h3
    have ea : a = 58 := by simpa using h3
    subst ea
    have es : s = col ++ (⟨r.toArray⟩ : Str) := str_eq (by rw [sg_app, col_sg, hs]; simp)
    rw [es, slice_col]
theorem lineOf_eq {b : Bran} (h : b.1 ≠ []) : lineOf b = blank.join (b.1 ++ (if b.2 = "" then [] else [b.2])) := by
  unfold lineOf
  by_cases e : b.2 = ""
  · rw [if_pos e, if_pos e, List.append_nil]
  · rw [if_neg e, if_neg e, join_snoc h]
theorem good_mem {ws : List Str} {b : Bran} (hw : ∀ w ∈ ws, Nm w) (g : GoodB ws b) : ∀ x ∈ b.1 ++ (if b.2 = "" then [] else [b.2]), (∀ c ∈ x.cps.toList, 58 ≤ c ∧ c ≠ 61 ∧ c ≤ 122) ∧ x.length ≤ 9 := by
  intro x hx
  rcases List.mem_append.mp hx with h | h
  · exact piece_sg hw (g.ok x h)
  · by_cases e : b.2 = ""
    · rw [if_pos e] at h; cases h
    · rw [if_neg e] at h
      have ex : x = b.2 := by simpa using h
      have hm := g.mark.resolve_left e
      rw [ex]
      refine ⟨fun c hc => ?_, ?_⟩
      · have := mark_sg hm c hc; omega
      · have := mark_len hm; omega
theorem good_ne {ws : List Str} {b : Bran} (g : GoodB ws b) : b.1 ≠ [] := fun e => by have := g.lo; rw [e] at this; exact absurd this (by decide)
theorem line_sg {ws : List Str} {b : Bran} (hw : ∀ w ∈ ws, Nm w) (g : GoodB ws b) : (∀ c ∈ (lineOf b).cps.toList, c = 32 ∨ (58 ≤ c ∧ c ≠ 61 ∧ c ≤ 122)) ∧ (lineOf b).length ≤ 130 := by
  rw [lineOf_eq (good_ne g)]
  refine ⟨fun c hc => ?_, ?_⟩
  · rcases mem_join hc with h | ⟨x, hx, h⟩
    · exact .inl (by simpa [blank] using h)
    · exact .inr ((good_mem hw g x hx).1 c h)
  · have h1 := join_le (sep := blank) (n := 9) fun x hx => (good_mem hw g x hx).2
    have h2 : blank.length = 1 := rfl
    have h3 : (b.1 ++ (if b.2 = "" then [] else [b.2])).length ≤ 13 := by
      rw [List.length_append]
      have := g.hi
      split <;> simp <;> omega
    rw [h2] at h1
    omega
theorem line_read {ws : List Str} {b : Bran} (hw : ∀ w ∈ ws, Nm w) (g : GoodB ws b) : PartT ws (lineOf b) b := by
  refine ⟨?_, g.mark, g.lo, g.hi, fun p hp => piece_ok (g.ok p hp)⟩
  rw [lineOf_eq (good_ne g)]
  refine parts_join (by decide) (fun x hx hc => ?_) (by simp [good_ne g])
  have := (good_mem hw g x hx).1 32 hc
  omega
theorem bar_sg : bar.cps.toList = [32, 124, 32] := by decide +kernel
theorem equ_sg : equ.cps.toList = [32, 61, 32] := by decide +kernel
structure GoodBs (ws : List Str) (bs : List Bran) : Prop where
  ne : bs ≠ []
  hi : bs.length ≤ 8
  ok : ∀ b ∈ bs, GoodB ws b
theorem bars_sg {ws : List Str} {bs : List Bran} (hw : ∀ w ∈ ws, Nm w) (g : GoodBs ws bs) : (∀ c ∈ (bar.join (bs.map lineOf)).cps.toList, c = 32 ∨ (58 ≤ c ∧ c ≠ 61 ∧ c ≤ 124)) ∧ (bar.join (bs.map lineOf)).length ≤ 1064 := by
  refine ⟨fun c hc => ?_, ?_⟩
  · rcases mem_join hc with h | ⟨x, hx, h⟩
    · rw [bar_sg] at h
      simp at h
      omega
    · obtain ⟨b, hb, rfl⟩ := List.mem_map.mp hx
      have := (line_sg hw (g.ok b hb)).1 c h
      omega
  · have h1 := join_le (sep := bar) (n := 130) (l := bs.map lineOf) fun x hx => by
      obtain ⟨b, hb, rfl⟩ := List.mem_map.mp hx
      exact (line_sg hw (g.ok b hb)).2
    have h2 : bar.length = 3 := by decide +kernel
    rw [h2, List.length_map] at h1
    have := g.hi
    omega
theorem bars_read {ws : List Str} {bs : List Bran} (hw : ∀ w ∈ ws, Nm w) (g : GoodBs ws bs) : PartsT ws (bar.join (bs.map lineOf)) bs := by
  obtain ⟨b0, bs0, rfl⟩ := List.exists_cons_of_ne_nil g.ne
  have e : cutAt bar (bar.join ((b0 :: bs0).map lineOf)) = (b0 :: bs0).map lineOf := by
    rw [List.map_cons]
    refine cutAt_join bar_sg (by decide) fun q hq hc => ?_
    rw [← List.map_cons] at hq
    obtain ⟨b, hb, rfl⟩ := List.mem_map.mp hq
    have := (line_sg hw (g.ok b hb)).1 124 hc
    omega
  refine ⟨by rw [e, List.length_map], g.hi, fun i y b hy hb => ?_⟩
  rw [e, List.getElem?_map, hb] at hy
  obtain rfl : lineOf b = y := Option.some.inj hy
  have gb := g.ok b (List.mem_of_getElem? hb)
  have := (line_sg hw gb).2
  exact ⟨line_read hw gb, by omega⟩
theorem row_part {w y : Str} (hw : Nm w) : (Txt.partition (w ++ equ ++ y) equ).1 = w ∧ (Txt.partition (w ++ equ ++ y) equ).2.2 = y := by
  have hx : (w ++ equ ++ y).cps.toList = w.cps.toList ++ (equ.cps.toList ++ y.cps.toList) := by rw [sg_app, sg_app, List.append_assoc]
  obtain ⟨u, hu⟩ := first_at equ_sg (by decide) (fun h => by have := hw.rng h; omega) hx 1 (Nat.le_refl _)
  unfold Txt.partition
  rw [hu]
  simp only
  have hl : (w ++ equ ++ y).length = w.length + 3 + y.length := by
    rw [Str.length_append, Str.length_append]
    rfl
  have hw2 := len_sg w
  refine ⟨str_eq ?_, str_eq ?_⟩
  · rw [StrLaws.strSub_toList, hx, List.drop_zero, Nat.sub_zero, List.take_left]
  · have e3 : equ.length = 3 := by decide +kernel
    rw [StrLaws.strSub_toList, hx, hl, e3, ← List.drop_drop, List.drop_left, equ_sg]
    rw [show w.length + 3 + y.length - (w.cps.toList.length + 3) = y.cps.toList.length by rw [len_sg, len_sg]; omega]
    simp only [List.cons_append, List.nil_append, List.drop_succ_cons, List.drop_zero, List.take_length]
theorem good_ws {rows : List Rw} (g : GoodR rows) (i : Nat) : ∀ w ∈ (rows.take i).map (·.1), Nm w := by
  intro w hw
  obtain ⟨r, hr, rfl⟩ := List.mem_map.mp hw
  exact g.nm r (List.mem_of_mem_take hr)
theorem row_sg {rows : List Rw} (g : GoodR rows) {i : Nat} {r : Rw} (h : rows[i]? = some r) : 10 ∉ (rowTxt r).cps.toList ∧ (rowTxt r).length ≤ 1075 := by
  obtain ⟨b1, b2, b3⟩ := g.br i r h
  have nm := g.nm r (List.mem_of_getElem? h)
  have bs := bars_sg (good_ws g i) ⟨b1, b2, b3⟩
  unfold rowTxt
  refine ⟨fun hc => ?_, ?_⟩
  · rw [sg_app, sg_app, equ_sg] at hc
    rcases List.mem_append.mp hc with h1 | h1
    · rcases List.mem_append.mp h1 with h2 | h2
      · have := nm.rng h2; omega
      · simp at h2
    · have := bs.1 10 h1; omega
  · rw [Str.length_append, Str.length_append]
    have e3 : equ.length = 3 := by decide +kernel
    have := nm.hi
    have := bs.2
    omega
theorem txt_read {rows : List Rw} (g : GoodR rows) : RowsT (txt rows) rows ∧ (txt rows).length ≤ 50000 := by
  have e : partsOf 10 (txt rows) = rows.map rowTxt := by
    unfold txt line
    refine parts_join (by decide) (fun x hx => ?_) (by simp [g.ne])
    obtain ⟨r, hr, rfl⟩ := List.mem_map.mp hx
    obtain ⟨i, hi⟩ := List.mem_iff_getElem?.mp hr
    exact (row_sg g hi).1
  refine ⟨⟨by rw [e, List.length_map], g.hi, fun i y r hy hr => ?_⟩, ?_⟩
  · rw [e, List.getElem?_map, hr] at hy
    obtain rfl : rowTxt r = y := Option.some.inj hy
    have rs := row_sg g hr
    have nm := g.nm r (List.mem_of_getElem? hr)
    have rp := row_part (y := bar.join (r.2.map lineOf)) nm
    obtain ⟨b1, b2, b3⟩ := g.br i r hr
    refine ⟨by omega, rp.1, nm, fun hm => ?_, ?_, ?_⟩
    · obtain ⟨q, hq, eq⟩ := List.mem_map.mp hm
      obtain ⟨j, hj⟩ := List.mem_iff_getElem?.mp hq
      have jl : j < i := by
        have := (List.getElem?_eq_some_iff.mp hj).1
        rw [List.length_take] at this
        omega
      rw [List.getElem?_take_of_lt jl] at hj
      have h1 : (rows.map (·.1))[j]? = some r.1 := by rw [List.getElem?_map, hj, ← eq]; rfl
      have h2 : (rows.map (·.1))[i]? = some r.1 := by rw [List.getElem?_map, hr]; rfl
      have l1 := (List.getElem?_eq_some_iff.mp h1).1
      have := (List.getElem?_inj l1 g.nd).mp (h1.trans h2.symm)
      omega
    · show (Txt.partition (rowTxt r) equ).2.2.length ≤ _
      unfold rowTxt
      rw [rp.2]
      have := (bars_sg (good_ws g i) ⟨b1, b2, b3⟩).2
      omega
    · show PartsT _ (Txt.partition (rowTxt r) equ).2.2 r.2
      unfold rowTxt
      rw [rp.2]
      exact bars_read (good_ws g i) ⟨b1, b2, b3⟩
  · have h1 := join_le (sep := line) (n := 1075) (l := rows.map rowTxt) fun x hx => by
      obtain ⟨r, hr, rfl⟩ := List.mem_map.mp hx
      obtain ⟨i, hi⟩ := List.mem_iff_getElem?.mp hr
      exact (row_sg g hi).2
    have h2 : line.length = 1 := rfl
    rw [h2, List.length_map] at h1
    have := g.hi
    unfold txt
    omega
/-! ### pieces and marks differ -/
theorem pc_mark {ws : List Str} {p : Str} (h : pcOk ws p = true) : p ∉ marks := by
  intro hm
  have h1 : ∀ p ∈ marks, isLet p = false ∧ isTes p = false ∧ Txt.startswith p ":" = false := by decide +kernel
  obtain ⟨a, b, c⟩ := h1 p hm
  unfold pcOk at h
  rw [a, b, c] at h
  exact absurd h (by simp)
end TongM

set_option linter.all false
namespace TongM
open PySem WayM TextM TextG
theorem nodup_le {α : Type} [DecidableEq α] : ∀ {l m : List α}, l.Nodup → (∀ x ∈ l, x ∈ m) → l.length ≤ m.length
  | [], _, _, _ => Nat.zero_le _
  | a :: l, m, h, hs => by
    have hm := hs a (List.mem_cons_self ..)
    have h2 := (List.nodup_cons.mp h)
    have ih := nodup_le (l := l) (m := m.erase a) h2.2 fun x hx => (List.mem_erase_of_ne (fun e : x = a => h2.1 (e ▸ hx))).mpr (hs x (List.mem_cons_of_mem _ hx))
    rw [List.length_erase_of_mem hm] at ih
    have : 0 < m.length := List.length_pos_of_mem hm
    rw [List.length_cons]
    omega
/-! ### the words that are drawn -/
def lt (i : Int) : Nat := 97 + (i.fmod 26).toNat
theorem alpha_at : ∀ n, n < 26 → alpha.cps.toList[n]? = some (97 + n) := by decide +kernel
theorem lt_at (i : Int) : alpha.cps.toList[(i.fmod 26).toNat]? = some (lt i) := by
  have h0 : 0 ≤ i.fmod 26 := Int.fmod_nonneg_of_pos i (by decide)
  have h1 : i.fmod 26 < 26 := Int.fmod_lt_of_pos i (by decide)
  exact alpha_at _ (by omega)
theorem lt_in (i : Int) : lt i ∈ alpha.cps.toList := List.mem_of_getElem? (lt_at i)
def preL (base : List Int) (a : Int) (k : Int) (n : Nat) : List Nat := (List.range n).map fun j => lt (base.getD j 0 + k * (if (j : Int) = a then 1 else 0))
theorem preL_succ (base : List Int) (a k : Int) (n : Nat) : preL base a k (n + 1) = preL base a k n ++ [lt (base.getD n 0 + k * (if (n : Int) = a then 1 else 0))] := by
  unfold preL
  rw [List.range_succ, List.map_append]
  rfl
theorem preL_len (base : List Int) (a k : Int) (n : Nat) : (preL base a k n).length = n := by simp [preL]
def suf (k : Nat) : List Nat := [97, 98].take (k % 3)
def wordL (base : List Int) (a : Int) (n k : Nat) : List Nat := preL base a k n ++ suf k
theorem suf_len (k : Nat) : (suf k).length = k % 3 := by
  unfold suf
  rw [List.length_take]
  show min (k % 3) 2 = k % 3
  omega
theorem fmod26 (i : Int) : i.fmod 26 = i % 26 := Int.fmod_eq_emod_of_nonneg i (by decide)
theorem word_inj {base : List Int} {a : Int} {n k k' : Nat} (h0 : 0 ≤ a) (h1 : a < n) (hk : k < 42) (hk' : k' < 42) (e : wordL base a n k = wordL base a n k') : k = k' := by
  have l := congrArg List.length e
  unfold wordL at l e
  rw [List.length_append, List.length_append, preL_len, preL_len, suf_len, suf_len] at l
  have e2 := congrArg (fun z : List Nat => z[a.toNat]?) e
  rw [List.getElem?_append_left (by rw [preL_len]; omega), List.getElem?_append_left (by rw [preL_len]; omega)] at e2
  unfold preL at e2
  rw [List.getElem?_map, List.getElem?_map, List.getElem?_range (by omega)] at e2
  have e3 := Option.some.inj e2
  simp only at e3
  rw [if_pos (by omega)] at e3
  unfold lt at e3
  rw [fmod26, fmod26] at e3
  omega
theorem suf_in (k : Nat) : ∀ c ∈ suf k, c = 97 ∨ c = 98 := by
  intro c hc
  have := List.mem_of_mem_take hc
  simpa using this
theorem word_nm {base : List Int} {a : Int} {n k : Nat} (h1 : 1 ≤ n) (h6 : n ≤ 6) : Nm (⟨(wordL base a n k).toArray⟩ : Str) := by
  have l : (wordL base a n k).length = n + k % 3 := by unfold wordL; rw [List.length_append, preL_len, suf_len]
  have l2 : (⟨(wordL base a n k).toArray⟩ : Str).length = n + k % 3 := by
    show (wordL base a n k).toArray.size = _
    rw [List.size_toArray, l]
  refine ⟨by omega, by omega, fun c hc => ?_⟩
  have hc2 : c ∈ wordL base a n k := by simpa using hc
  unfold wordL at hc2
  rcases List.mem_append.mp hc2 with h | h
  · unfold preL at h
    obtain ⟨j, _, rfl⟩ := List.mem_map.mp h
    exact lt_in _
  · rcases suf_in k c h with rfl | rfl <;> decide +kernel
def zzz : Str := "zzzzzzzz"
theorem word_z {base : List Int} {a : Int} {n k : Nat} (h6 : n ≤ 6) : (⟨(wordL base a n k).toArray⟩ : Str) ≠ zzz := by
  intro e
  have e2 := congrArg (fun s : Str => s.cps.toList) e
  have z : zzz.cps.toList = List.replicate 8 122 := by decide +kernel
  rw [z] at e2
  have e3 : wordL base a n k = List.replicate 8 122 := by simpa using e2
  have l := congrArg List.length e3
  unfold wordL at l e3
  rw [List.length_append, preL_len, suf_len, List.length_replicate] at l
  have ek : k % 3 = 2 := by omega
  have hm : 97 ∈ preL base a k n ++ suf k := List.mem_append_right _ (by unfold suf; rw [ek]; decide)
  rw [e3] at hm
  exact absurd hm (by decide)
structure WordsOk (ws : List Str) : Prop where
  nd : ws.Nodup
  lo : 40 ≤ ws.length
  hi : ws.length ≤ 45
  nm : ∀ w ∈ ws, Nm w ∧ w ≠ zzz
/-- the words behind k turns -/
structure WInv (base : List Int) (a : Int) (n k : Nat) (ws : List Str) : Prop where
  nd : ws.Nodup
  hi : ws.length ≤ 3 + k
  nm : ∀ w ∈ ws, Nm w ∧ w ≠ zzz
  has : ∀ j, j < k → (⟨(wordL base a n j).toArray⟩ : Str) ∈ ws
def wd3 : List Str := ["he", "elder", "s"]
theorem WInv.start (base : List Int) (a : Int) (n : Nat) {ws : List Str} (h : ws = [] ∨ ws = wd3) : WInv base a n 0 ws := by
  rcases h with rfl | rfl
  · exact ⟨List.nodup_nil, Nat.zero_le _, (fun w h => absurd h (by simp)), fun j h => by omega⟩
  · refine ⟨by decide +kernel, by decide, fun w hw => ?_, fun j h => by omega⟩
    have : (∀ w ∈ wd3, 1 ≤ w.length ∧ w.length ≤ 8 ∧ (∀ c ∈ w.cps.toList, c ∈ alpha.cps.toList) ∧ w ≠ zzz) := by decide +kernel
    obtain ⟨a1, a2, a3, a4⟩ := this w hw
    exact ⟨⟨a1, a2, a3⟩, a4⟩
theorem WInv.step {base : List Int} {a : Int} {n k : Nat} {ws : List Str} (h : WInv base a n k ws) (h1 : 1 ≤ n) (h6 : n ≤ 6) (hn : (⟨(wordL base a n k).toArray⟩ : Str) ∉ ws) : WInv base a n (k + 1) (ws ++ [⟨(wordL base a n k).toArray⟩]) := by
  refine ⟨?_, ?_, fun w hw => ?_, fun j hj => ?_⟩
  · rw [List.nodup_append]
    refine ⟨h.nd, by simp, fun x hx y hy => ?_⟩
    have : y = (⟨(wordL base a n k).toArray⟩ : Str) := by simpa using hy
    rw [this]
    intro e
    exact hn (e ▸ hx)
  · rw [List.length_append]
    have := h.hi
    simp
    omega
  · rcases List.mem_append.mp hw with z | z
    · exact h.nm w z
    · have : w = (⟨(wordL base a n k).toArray⟩ : Str) := by simpa using z
      rw [this]
      exact ⟨word_nm h1 h6, word_z h6⟩
  · by_cases e : j = k
    · subst e
      exact List.mem_append_right _ (by simp)
    · exact List.mem_append_left _ (h.has j (by omega))
theorem WInv.ok {base : List Int} {a : Int} {n : Nat} {ws : List Str} (h : WInv base a n 42 ws) (h0 : 0 ≤ a) (h1 : a < n) : WordsOk ws := by
  refine ⟨h.nd, ?_, h.hi, h.nm⟩
  have hl : ((List.range 42).map fun j => (⟨(wordL base a n j).toArray⟩ : Str)).length ≤ ws.length := by
    refine nodup_le ?_ fun x hx => ?_
    · rw [List.Nodup, List.pairwise_map]
      refine List.Pairwise.imp_of_mem ?_ (List.nodup_range (n := 42))
      intro i j hi hj ne e
      have e2 := congrArg (fun s : Str => s.cps.toList) e
      have e3 : wordL base a n i = wordL base a n j := by simpa using e2
      exact ne (word_inj h0 h1 (List.mem_range.mp hi) (List.mem_range.mp hj) e3)
    · obtain ⟨j, hj, rfl⟩ := List.mem_map.mp hx
      exact h.has j (List.mem_range.mp hj)
  rw [List.length_map, List.length_range] at hl
  omega
end TongM
namespace TongM
open PySem WayM TextM TextG
theorem split_mem {c : Nat} : ∀ {l : List Nat} {q : List Nat}, q ∈ splitL c l → q.length ≤ l.length
  | [], q, h => by
    have : q = [] := by simpa [splitL] using h
    subst this
    exact Nat.le_refl _
  | a :: r, q, h => by
    by_cases e : a = c
    · subst e
      rw [splitL_cons_eq] at h
      rcases List.mem_cons.mp h with z | z
      · subst z; exact Nat.zero_le _
      · have := split_mem z
        rw [List.length_cons]; omega
    · obtain ⟨p, ps, e1⟩ := splitL_ne c r
      rw [splitL_cons_ne e e1] at h
      rcases List.mem_cons.mp h with z | z
      · subst z
        have := split_mem (c := c) (l := r) (q := p) (by rw [e1]; simp)
        simp only [List.length_cons]; omega
      · have := split_mem (c := c) (l := r) (q := q) (by rw [e1]; exact List.mem_cons_of_mem _ z)
        rw [List.length_cons]; omega
theorem part_len {c : Nat} {z p : Str} (h : p ∈ partsOf c z) : p.length ≤ z.length := by
  unfold partsOf at h
  obtain ⟨q, hq, rfl⟩ := List.mem_map.mp h
  have := split_mem hq
  rw [len_sg] at this
  show q.toArray.size ≤ _
  rw [List.size_toArray]
  exact this
end TongM

set_option linter.all false
namespace TongM
open PySem WayM TextM TextG
def lastD (ps : List Str) : Str := ps.getLastD ""
def partMk (ps : List Str) : Str := if lastD ps ∈ marks then lastD ps else ""
def partQs (ps : List Str) : List Str := if lastD ps ∈ marks then ps.dropLast else ps
def PcsOk (ws : List Str) (qs : List Str) : Prop := 1 ≤ qs.length ∧ qs.length ≤ 12 ∧ ∀ p ∈ qs, pcOk ws p = true
instance (ws qs : List Str) : Decidable (PcsOk ws qs) := by unfold PcsOk; exact inferInstance
def readPart (ws : List Str) (z : Str) : Option Bran := if PcsOk ws (partQs (partsOf 32 z)) then some (partQs (partsOf 32 z), partMk (partsOf 32 z)) else none
def readParts (ws : List Str) (z : Str) : Option (List Bran) := if (cutAt bar z).length ≤ 8 ∧ ∀ y ∈ cutAt bar z, (readPart ws y).isSome = true then some ((cutAt bar z).map fun y => (readPart ws y).getD ([], "")) else none
def stepRow (acc : List Rw) (y : Str) : Option (List Rw) :=
  if isNm (Txt.partition y equ).1 = true ∧ (Txt.partition y equ).1 ∉ acc.map (·.1) then (readParts (acc.map (·.1)) (Txt.partition y equ).2.2).map fun bs => acc ++ [((Txt.partition y equ).1, bs)] else none
def goRows : List Str → List Rw → Option (List Rw)
  | [], acc => some acc
  | y :: r, acc => (stepRow acc y).bind (goRows r)
def readRows (z : Str) : Option (List Rw) := if (partsOf 10 z).length ≤ 40 then goRows (partsOf 10 z) [] else none
theorem part_read {ws : List Str} {z : Str} {b : Bran} (h : PartT ws z b) : readPart ws z = some b := by
  obtain ⟨qs, mk⟩ := b
  have e := h.parts
  have lo : 1 ≤ qs.length := h.lo
  have ne : qs ≠ [] := fun z => by rw [z] at lo; simp at lo
  by_cases hm : mk = ""
  · subst hm
    have e' : partsOf 32 z = qs := by rw [e]; simp
    have hl : lastD qs ∉ marks := by
      unfold lastD
      rw [List.getLastD_eq_getLast?, List.getLast?_eq_some_getLast ne]
      exact pc_mark (h.ok _ (List.getLast_mem ne))
    unfold readPart partQs partMk
    rw [e', if_neg hl, if_neg hl, if_pos ⟨h.lo, h.hi, h.ok⟩]
  · have e' : partsOf 32 z = qs ++ [mk] := by rw [e]; simp [hm]
    have hl : lastD (qs ++ [mk]) = mk := by unfold lastD; simp
    have hmm : mk ∈ marks := h.mark.resolve_left hm
    unfold readPart partQs partMk
    rw [e', hl, if_pos hmm, if_pos hmm, List.dropLast_concat, if_pos ⟨h.lo, h.hi, h.ok⟩]
theorem parts_read {ws : List Str} {z : Str} {bs : List Bran} (h : PartsT ws z bs) : readParts ws z = some bs := by
  have all : ∀ (i : Nat) (y : Str), (cutAt bar z)[i]? = some y → ∃ b, bs[i]? = some b ∧ readPart ws y = some b := fun i y hy => by
    have il : i < bs.length := by rw [← h.len]; exact (List.getElem?_eq_some_iff.mp hy).1
    exact ⟨bs[i], List.getElem?_eq_getElem il, part_read (h.each i y _ hy (List.getElem?_eq_getElem il)).1⟩
  unfold readParts
  rw [if_pos]
  · refine congrArg some (List.ext_getElem? fun i => ?_)
    rw [List.getElem?_map]
    cases hy : (cutAt bar z)[i]? with
    | none =>
      have : bs.length ≤ i := by rw [← h.len]; exact List.getElem?_eq_none_iff.mp hy
      rw [List.getElem?_eq_none this]
      rfl
    | some y =>
      obtain ⟨b, h1, h2⟩ := all i y hy
      rw [h1]
      show some ((readPart ws y).getD ([], "")) = some b
      rw [h2]
      rfl
  · refine ⟨by rw [h.len]; exact h.hi, fun y hy => ?_⟩
    obtain ⟨i, hi⟩ := List.mem_iff_getElem?.mp hy
    obtain ⟨b, _, h2⟩ := all i y hi
    rw [h2]
    rfl
theorem rows_go {rows : List Rw} : ∀ (ls : List Str) (i : Nat), i + ls.length = rows.length → (∀ (j : Nat) (y : Str) (r : Rw), ls[j]? = some y → rows[i + j]? = some r → (Txt.partition y equ).1 = r.1 ∧ Nm r.1 ∧ r.1 ∉ (rows.take (i + j)).map (·.1) ∧ PartsT ((rows.take (i + j)).map (·.1)) (Txt.partition y equ).2.2 r.2) → goRows ls (rows.take i) = some rows
  | [], i, hl, _ => by
    have : i = rows.length := by simpa using hl
    subst this
    rw [List.take_length]
    rfl
  | y :: ls, i, hl, h => by
    have il : i < rows.length := by simp at hl; omega
    obtain ⟨a1, a2, a3, a4⟩ := h 0 y rows[i] rfl (List.getElem?_eq_getElem il)
    rw [Nat.add_zero] at a3 a4
    show (stepRow (rows.take i) y).bind (goRows ls) = some rows
    have e : stepRow (rows.take i) y = some (rows.take (i + 1)) := by
      unfold stepRow
      rw [a1, if_pos ⟨a2.ok, a3⟩, parts_read a4]
      show some (rows.take i ++ [(rows[i].1, rows[i].2)]) = _
      rw [List.take_succ_eq_append_getElem il]
    rw [e]
    refine rows_go ls (i + 1) (by simp at hl; omega) fun j y' r hy hr => ?_
    have := h (j + 1) y' r (by simpa using hy) (by rw [show i + (j + 1) = i + 1 + j by omega]; exact hr)
    rw [show i + (j + 1) = i + 1 + j by omega] at this
    exact this
theorem txt_rows {rows : List Rw} (g : GoodR rows) : readRows (txt rows) = some rows := by
  have h := (txt_read g).1
  unfold readRows
  rw [if_pos (by rw [h.len]; exact h.hi)]
  refine rows_go (rows := rows) _ 0 (by rw [Nat.zero_add]; exact h.len) fun j y r hy hr => ?_
  rw [Nat.zero_add] at hr ⊢
  obtain ⟨_, b, c, d, _, f⟩ := h.each j y r hy hr
  exact ⟨b, c, d, f⟩
/-! ### the law's own reading -/
theorem starts_slice (p : Str) : Txt.startswith p ":" = decide (Txt.slice p none (some 1) = ":") := by
  have e58 : ((":" : Str)).cps.toList = [58] := by decide +kernel
  have l2 : ((":" : Str)).length = 1 := by decide +kernel
  cases hp : p.cps.toList with
  | nil =>
    have : p = "" := str_eq (by rw [hp]; rfl)
    subst this
    decide +kernel
  | cons a r =>
    have pl : p.length = r.length + 1 := by rw [← len_sg, hp]; rfl
    have es : Txt.slice p none (some 1) = ⟨#[a]⟩ := by
      have e : Txt.slice p none (some 1) = StrLaws.sliceText p (some ((0 : Nat) : Int)) (some ((1 : Nat) : Int)) := by
        show StrLaws.sliceText p none (some 1) = _
        unfold StrLaws.sliceText
        rw [StrLaws.sliceIdx_none_lo]
        rfl
      rw [e, StrLaws.sliceText_nat _ (by omega) (by omega), hp]
      simp
    rw [es]
    unfold Txt.startswith
    rw [StrLaws.subAt_eq, l2, e58, hp, pl]
    by_cases ha : a = 58
    · subst ha
      rw [decide_eq_true (show (⟨#[58]⟩ : Str) = ":" from str_eq (by rw [e58]))]
      simp
    · have ne : ¬ ((⟨#[a]⟩ : Str) = ":") := fun z => ha (by have := congrArg (fun s : Str => s.cps.toList) z; rw [e58] at this; simpa using this)
      rw [decide_eq_false ne]
      simp [ha]
theorem splitG_mem {y : List Nat} : ∀ {s : Nat} {l q : List Nat}, q ∈ splitG y s l → q.length ≤ l.length
  | s, [], q, h => by
    rw [splitG_nil] at h
    have : q = [] := by simpa using h
    subst this
    exact Nat.le_refl _
  | s + 1, a :: r, q, h => by
    rw [splitG_skip] at h
    have := splitG_mem h
    rw [List.length_cons]; omega
  | 0, a :: r, q, h => by
    by_cases hh : (a :: r).take y.length = y
    · rw [splitG_hit hh] at h
      rcases List.mem_cons.mp h with z | z
      · subst z; exact Nat.zero_le _
      · have := splitG_mem z
        rw [List.length_cons]; omega
    · obtain ⟨p, ps, e⟩ := splitG_ne y 0 r
      rw [splitG_miss hh e] at h
      rcases List.mem_cons.mp h with z | z
      · subst z
        have := splitG_mem (y := y) (s := 0) (l := r) (q := p) (by rw [e]; simp)
        simp only [List.length_cons]; omega
      · have := splitG_mem (y := y) (s := 0) (l := r) (q := q) (by rw [e]; exact List.mem_cons_of_mem _ z)
        rw [List.length_cons]; omega
theorem cut_mem {y z p : Str} (h : p ∈ cutAt y z) : p.length ≤ z.length := by
  unfold cutAt at h
  obtain ⟨q, hq, rfl⟩ := List.mem_map.mp h
  have := splitG_mem hq
  rw [len_sg] at this
  show q.toArray.size ≤ _
  rw [List.size_toArray]
  exact this
/-! ### bounds of what is written -/
structure BndB (b : Bran) : Prop where
  hi : b.1.length ≤ 13
  ps : ∀ p ∈ b.1, p.length ≤ 9
  mrk : b.2.length ≤ 7
structure BndR (rows : List Rw) : Prop where
  hi : rows.length ≤ 41
  each : ∀ r ∈ rows, r.1.length ≤ 8 ∧ r.2.length ≤ 9 ∧ ∀ b ∈ r.2, BndB b
theorem BndB.line {b : Bran} (h : BndB b) : (blank.join b.1).length ≤ 130 ∧ (lineOf b).length ≤ 140 := by
  have h1 := join_le (sep := blank) (n := 9) h.ps
  have hb : blank.length = 1 := rfl
  have h2 := h.hi
  have h3 := h.mrk
  rw [hb] at h1
  have h4 : (blank.join b.1).length ≤ 130 := by omega
  refine ⟨h4, ?_⟩
  unfold lineOf
  split
  · omega
  · rw [Str.length_append, Str.length_append, hb]
    omega
theorem bnd_bars {bs : List Bran} (h9 : bs.length ≤ 9) (h : ∀ b ∈ bs, BndB b) : (bar.join (bs.map lineOf)).length ≤ 1300 := by
  have h1 := join_le (sep := bar) (n := 140) (l := bs.map lineOf) fun x hx => by
    obtain ⟨b, hb, rfl⟩ := List.mem_map.mp hx
    exact (h b hb).line.2
  have h2 : bar.length = 3 := by decide +kernel
  rw [h2, List.length_map] at h1
  omega
theorem BndR.row {rows : List Rw} (h : BndR rows) {r : Rw} (hr : r ∈ rows) : (rowTxt r).length ≤ 1320 := by
  obtain ⟨a, b, c⟩ := h.each r hr
  have := bnd_bars b c
  unfold rowTxt
  rw [Str.length_append, Str.length_append]
  have e3 : equ.length = 3 := by decide +kernel
  omega
theorem BndR.txt {rows : List Rw} (h : BndR rows) : (txt rows).length ≤ 60000 := by
  have h1 := join_le (sep := line) (n := 1320) (l := rows.map rowTxt) fun x hx => by
    obtain ⟨r, hr, rfl⟩ := List.mem_map.mp hx
    exact h.row hr
  have h2 : line.length = 1 := rfl
  rw [h2, List.length_map] at h1
  have := h.hi
  unfold TongM.txt
  omega
theorem GoodB.bnd {ws : List Str} (hw : ∀ w ∈ ws, Nm w) {b : Bran} (g : GoodB ws b) : BndB b := by
  refine ⟨by have := g.hi; omega, fun p hp => (piece_sg hw (g.ok p hp)).2, ?_⟩
  rcases g.mark with e | m
  · rw [e]; decide +kernel
  · exact mark_len m
theorem GoodR.bnd {rows : List Rw} (g : GoodR rows) : BndR rows := by
  refine ⟨by have := g.hi; omega, fun r hr => ?_⟩
  obtain ⟨i, hi⟩ := List.mem_iff_getElem?.mp hr
  obtain ⟨_, b, c⟩ := g.br i r hi
  exact ⟨(g.nm r hr).hi, by omega, fun b hb => (c b hb).bnd (good_ws g i)⟩
end TongM
namespace TongM
open PySem WayM TextM TextG
theorem sum_split2 {c : Nat} : ∀ (l : List Nat), ((splitL c l).map List.length).sum + (splitL c l).length = l.length + 1
  | [] => by simp [splitL]
  | a :: r => by
    have ih := sum_split2 (c := c) r
    by_cases e : a = c
    · subst e
      rw [splitL_cons_eq]
      simp only [List.map_cons, List.sum_cons, List.length_nil, List.length_cons]
      omega
    · obtain ⟨p, ps, e1⟩ := splitL_ne c r
      rw [splitL_cons_ne e e1]
      rw [e1] at ih
      simp only [List.map_cons, List.sum_cons, List.length_cons] at ih ⊢
      omega
theorem sum_parts2 (c : Nat) (z : Str) : ((partsOf c z).map (·.length)).sum + (partsOf c z).length = z.length + 1 := by
  have h := sum_split2 (c := c) z.cps.toList
  rw [len_sg] at h
  unfold partsOf
  rw [List.map_map, List.length_map]
  have e : ((fun x : Str => x.length) ∘ fun q : List Nat => (⟨q.toArray⟩ : Str)) = List.length := funext fun q => by
    show q.toArray.size = q.length
    exact List.size_toArray ..
  rw [e]
  exact h
theorem join_sum {sep : Str} : ∀ {l : List Str}, (sep.join l).length ≤ (l.map (·.length)).sum + l.length * sep.length
  | [] => Nat.zero_le _
  | [p] => by
    show p.length ≤ _
    simp only [List.map_cons, List.map_nil, List.sum_cons, List.sum_nil]
    omega
  | p :: q :: r => by
    have ih := join_sum (sep := sep) (l := q :: r)
    show (p ++ sep ++ sep.join (q :: r)).length ≤ _
    rw [Str.length_append, Str.length_append]
    have e : (p :: q :: r).length * sep.length = (q :: r).length * sep.length + sep.length := by
      rw [List.length_cons, Nat.add_mul, Nat.one_mul]
    rw [List.map_cons, List.sum_cons]
    omega
theorem slice_to (y : Str) {k : Nat} (h : k ≤ y.length) : Txt.slice y none (some (k : Int)) = Builtin.Str.strSub y 0 k := by
  have e : Txt.slice y none (some (k : Int)) = StrLaws.sliceText y (some ((0 : Nat) : Int)) (some (k : Int)) := by
    show StrLaws.sliceText y none (some (k : Int)) = _
    unfold StrLaws.sliceText
    rw [StrLaws.sliceIdx_none_lo]
    rfl
  rw [e, StrLaws.sliceText_nat _ (Nat.zero_le _) h]
  refine str_eq ?_
  rw [StrLaws.strSub_toList]
theorem slice_from (y : Str) {k : Nat} (h : k ≤ y.length) : Txt.slice y (some (k : Int)) none = Builtin.Str.strSub y k y.length := by
  have e : Txt.slice y (some (k : Int)) none = StrLaws.sliceText y (some (k : Int)) (some ((y.length : Nat) : Int)) := by
    show StrLaws.sliceText y (some (k : Int)) none = _
    unfold StrLaws.sliceText
    rw [StrLaws.sliceIdx_none_hi]
  rw [e, StrLaws.sliceText_nat _ h (Nat.le_refl _)]
  refine str_eq ?_
  rw [StrLaws.strSub_toList]
theorem readParts_empty (ws : List Str) : readParts ws "" = none := by
  have e : cutAt bar "" = [("" : Str)] := by decide +kernel
  have p : partsOf 32 "" = [("" : Str)] := by decide +kernel
  have q : partQs [("" : Str)] = [("" : Str)] := by decide +kernel
  have no : readPart ws "" = none := by
    unfold readPart
    rw [p, q, if_neg]
    intro h
    have := h.2.2 "" (by simp)
    unfold pcOk at this
    have h1 : isLet "" = false ∧ isTes "" = false ∧ Txt.startswith "" ":" = false := by decide +kernel
    rw [h1.1, h1.2.1, h1.2.2] at this
    exact absurd this (by simp)
  unfold readParts
  rw [e, if_neg]
  intro h
  have := h.2 "" (by simp)
  rw [no] at this
  cases this
/-- what find and the cuts tell, against partition -/
theorem find_part (y : Str) : (Txt.find y equ = -1 ∧ ∀ acc, stepRow acc y = none) ∨ ∃ k : Nat, Txt.find y equ = (k : Int) ∧ k + 3 ≤ y.length ∧ (Txt.partition y equ).1 = Builtin.Str.strSub y 0 k ∧ (Txt.partition y equ).2.2 = Builtin.Str.strSub y (k + 3) y.length := by
  have e3 : equ.length = 3 := by decide +kernel
  rcases StrLaws.occ_head y equ 1 (Nat.le_refl _) with ⟨h0, _⟩ | ⟨i, r, h0, h1, _⟩
  · refine .inl ⟨by unfold Txt.find; rw [h0], fun acc => ?_⟩
    unfold stepRow
    have hp : Txt.partition y equ = (y, Str.empty, Str.empty) := by unfold Txt.partition; rw [h0]
    rw [hp]
    split
    · show (readParts (acc.map (·.1)) "").map _ = none
      rw [readParts_empty]
      rfl
    · rfl
  · refine .inr ⟨i, by unfold Txt.find; rw [h0], by have := h1.1; rw [e3] at this; exact this, ?_, ?_⟩
    · unfold Txt.partition; rw [h0]
    · unfold Txt.partition; rw [h0]; simp only; rw [e3]
end TongM

set_option maxRecDepth 100000
set_option maxHeartbeats 4000000
set_option exponentiation.threshold 3000
seal L2.PSs L2.PS L2.PE L2.PT L2.PW L2.PA L2.PG L2.PI L2.PO
namespace K33
open PySem L2
/-! ### the text by places -/
def top (i : Nat) : Stmt := PySem.Challenge.pw_heirbook_k33_texts_of_no_tongue.main.body.getD i (.Pass ⟨0, 0, 0, 0⟩)
abbrev s_is_name : Stmt := top 22
abbrev s_is_letter : Stmt := top 26
abbrev s_is_test : Stmt := top 27
abbrev s_Letter___init__ : Stmt := inClass (top 32) 0
abbrev s_Letter_text : Stmt := inClass (top 32) 2
abbrev s_Test___init__ : Stmt := inClass (top 33) 0
abbrev s_Test_text : Stmt := inClass (top 33) 2
abbrev s_Said___init__ : Stmt := inClass (top 34) 0
abbrev s_Said_text : Stmt := inClass (top 34) 2
abbrev s_read_piece : Stmt := top 40
abbrev s_read_part : Stmt := top 41
abbrev s_read_parts : Stmt := top 42
abbrev s_read_rows : Stmt := top 43
abbrev s_Tongue___init__ : Stmt := inClass (top 45) 0
abbrev s_Tongue_words : Stmt := inClass (top 45) 1
abbrev s_Tongue_row_of : Stmt := inClass (top 45) 2
abbrev s_Tongue_parts : Stmt := inClass (top 45) 3
abbrev s_Tongue_text : Stmt := inClass (top 45) 4
abbrev s__law_cell_at : Stmt := top 47
abbrev s__law_words : Stmt := top 48
abbrev s__law_piece : Stmt := top 49
abbrev s__law_rows : Stmt := top 50
abbrev s__law_text : Stmt := top 51
abbrev s__law_too_long : Stmt := top 52
abbrev s__law_spoiled : Stmt := top 53
abbrev s__law_parts : Stmt := top 54
abbrev s__law_read : Stmt := top 55
abbrev s__law_told : Stmt := top 56
abbrev s__law_good : Stmt := top 57
abbrev s_law : Stmt := top 58
/-! ### what the top has made -/
set_option genInjectivity false
set_option genSizeOf false
structure Tx (K : PySem.W.Frag) (w : World) (mg : Str → Option Value) where
  c_Letter : Addr
  c_Test : Addr
  c_Said : Addr
  c_Tongue : Addr
  d_is_name : Df K mg "is_name" s_is_name ["thing"]
  d_is_letter : Df K mg "is_letter" s_is_letter ["thing"]
  d_is_test : Df K mg "is_test" s_is_test ["thing"]
  d_Letter___init__ : Dm K c_Letter "__init__" "Letter.__init__" s_Letter___init__ ["self", "letter"]
  d_Letter_text : Dm K c_Letter "text" "Letter.text" s_Letter_text ["self"]
  d_Test___init__ : Dm K c_Test "__init__" "Test.__init__" s_Test___init__ ["self", "sort"]
  d_Test_text : Dm K c_Test "text" "Test.text" s_Test_text ["self"]
  d_Said___init__ : Dm K c_Said "__init__" "Said.__init__" s_Said___init__ ["self", "word"]
  d_Said_text : Dm K c_Said "text" "Said.text" s_Said_text ["self"]
  d_read_piece : Df K mg "read_piece" s_read_piece ["text", "rows"]
  d_read_part : Df K mg "read_part" s_read_part ["text", "rows"]
  d_read_parts : Df K mg "read_parts" s_read_parts ["text", "rows"]
  d_read_rows : Df K mg "read_rows" s_read_rows ["text"]
  d_Tongue___init__ : Dm K c_Tongue "__init__" "Tongue.__init__" s_Tongue___init__ ["self", "text"]
  d_Tongue_words : Dm K c_Tongue "words" "Tongue.words" s_Tongue_words ["self"]
  d_Tongue_row_of : Dm K c_Tongue "row_of" "Tongue.row_of" s_Tongue_row_of ["self", "word"]
  d_Tongue_parts : Dm K c_Tongue "parts" "Tongue.parts" s_Tongue_parts ["self", "word"]
  d_Tongue_text : Dm K c_Tongue "text" "Tongue.text" s_Tongue_text ["self"]
  d__law_cell_at : Df K mg "_law_cell_at" s__law_cell_at ["_law_script", "_law_k"]
  d__law_words : Df K mg "_law_words" s__law_words ["_law_cell"]
  d__law_piece : Df K mg "_law_piece" s__law_piece ["_law_rows_here", "_law_cell"]
  d__law_rows : Df K mg "_law_rows" s__law_rows ["_law_cells", "_law_words_here"]
  d__law_text : Df K mg "_law_text" s__law_text ["_law_rows_here"]
  d__law_too_long : Df K mg "_law_too_long" s__law_too_long ["_law_rows_here", "_law_words_here", "_law_way"]
  d__law_spoiled : Df K mg "_law_spoiled" s__law_spoiled ["_law_text_here", "_law_cell", "_law_way"]
  d__law_parts : Df K mg "_law_parts" s__law_parts ["_law_rest", "_law_words_here"]
  d__law_read : Df K mg "_law_read" s__law_read ["_law_text_here"]
  d__law_told : Df K mg "_law_told" s__law_told ["_law_thing"]
  d__law_good : Df K mg "_law_good" s__law_good ["_law_thing", "_law_rows_here"]
  d_law : Df K mg "law" s_law ["_law_script"]
  c_HeirError : Addr
  m_HeirError : mg "HeirError" = some (.ref c_HeirError)
  c_NoNumber : Addr
  m_NoNumber : mg "NoNumber" = some (.ref c_NoNumber)
  c_NoEntry : Addr
  m_NoEntry : mg "NoEntry" = some (.ref c_NoEntry)
  c_Full : Addr
  m_Full : mg "Full" = some (.ref c_Full)
  c_NoPerson : Addr
  m_NoPerson : mg "NoPerson" = some (.ref c_NoPerson)
  c_Twice : Addr
  m_Twice : mg "Twice" = some (.ref c_Twice)
  c_NoFit : Addr
  m_NoFit : mg "NoFit" = some (.ref c_NoFit)
  c_NoWay : Addr
  m_NoWay : mg "NoWay" = some (.ref c_NoWay)
  c_NoTongue : Addr
  m_NoTongue : mg "NoTongue" = some (.ref c_NoTongue)
  c_NoWord : Addr
  m_NoWord : mg "NoWord" = some (.ref c_NoWord)
  c_Marked : Addr
  m_Marked : mg "Marked" = some (.ref c_Marked)
  c_TooMany : Addr
  m_TooMany : mg "TooMany" = some (.ref c_TooMany)
  c_Barred : Addr
  m_Barred : mg "Barred" = some (.ref c_Barred)
  c_NoCode : Addr
  m_NoCode : mg "NoCode" = some (.ref c_NoCode)
  c_Alive : Addr
  m_Alive : mg "Alive" = some (.ref c_Alive)
  c_Unsure : Addr
  m_Unsure : mg "Unsure" = some (.ref c_Unsure)
  c_NoRow : Addr
  m_NoRow : mg "NoRow" = some (.ref c_NoRow)
  x_NoTongue : PySem.W.excIn K c_NoTongue EBm "ValueError.__new__" = true
  e_NoTongue : ExcK K c_NoTongue
  x_NoWord : PySem.W.excIn K c_NoWord EBm "ValueError.__new__" = true
  e_NoWord : ExcK K c_NoWord
  m_Letter : mg "Letter" = some (.ref c_Letter)
  cl_Letter : Cls K c_Letter
  mk_Letter : Mk K c_Letter d_Letter___init__.a
  na_Letter_letter : NoAttr K c_Letter "letter"
  m_Test : mg "Test" = some (.ref c_Test)
  cl_Test : Cls K c_Test
  mk_Test : Mk K c_Test d_Test___init__.a
  na_Test_wanted : NoAttr K c_Test "wanted"
  m_Said : mg "Said" = some (.ref c_Said)
  cl_Said : Cls K c_Said
  mk_Said : Mk K c_Said d_Said___init__.a
  na_Said_word : NoAttr K c_Said "word"
  m_Tongue : mg "Tongue" = some (.ref c_Tongue)
  cl_Tongue : Cls K c_Tongue
  mk_Tongue : Mk K c_Tongue d_Tongue___init__.a
  na_Tongue_rows : NoAttr K c_Tongue "rows"
  na_Tongue_source : NoAttr K c_Tongue "source"
  n_ValueError : mg "ValueError" = none
  n_all : mg "all" = none
  n_int : mg "int" = none
  n_isinstance : mg "isinstance" = none
  n_len : mg "len" = none
  n_list : mg "list" = none
  n_max : mg "max" = none
  n_range : mg "range" = none
  n_str : mg "str" = none
  n_tuple : mg "tuple" = none
  k_str_str : PySem.W.kitOne K (.type "str") (.type "str") = some true
  k_tuple_tuple : PySem.W.kitOne K (.type "tuple") (.type "tuple") = some true
  k_list_list : PySem.W.kitOne K (.type "list") (.type "list") = some true
  k_NoneType_str : PySem.W.kitOne K (.type "NoneType") (.type "str") = some false
  k_bool_str : PySem.W.kitOne K (.type "bool") (.type "str") = some false
  k_int_str : PySem.W.kitOne K (.type "int") (.type "str") = some false
  k_tuple_str : PySem.W.kitOne K (.type "tuple") (.type "str") = some false
  k_list_str : PySem.W.kitOne K (.type "list") (.type "str") = some false
  k_dict_str : PySem.W.kitOne K (.type "dict") (.type "str") = some false
  kx_HeirError : PySem.W.kitOne K (.ref c_NoTongue) (.ref c_HeirError) = some true
  kx_ValueError : PySem.W.kitOne K (.ref c_NoTongue) (.type "ValueError") = some true
  kx_Alive : PySem.W.kitOne K (.ref c_NoTongue) (.ref c_Alive) = some false
  kx_Barred : PySem.W.kitOne K (.ref c_NoTongue) (.ref c_Barred) = some false
  kx_Full : PySem.W.kitOne K (.ref c_NoTongue) (.ref c_Full) = some false
  kx_Marked : PySem.W.kitOne K (.ref c_NoTongue) (.ref c_Marked) = some false
  kx_NoCode : PySem.W.kitOne K (.ref c_NoTongue) (.ref c_NoCode) = some false
  kx_NoEntry : PySem.W.kitOne K (.ref c_NoTongue) (.ref c_NoEntry) = some false
  kx_NoFit : PySem.W.kitOne K (.ref c_NoTongue) (.ref c_NoFit) = some false
  kx_NoNumber : PySem.W.kitOne K (.ref c_NoTongue) (.ref c_NoNumber) = some false
  kx_NoPerson : PySem.W.kitOne K (.ref c_NoTongue) (.ref c_NoPerson) = some false
  kx_NoRow : PySem.W.kitOne K (.ref c_NoTongue) (.ref c_NoRow) = some false
  kx_NoWay : PySem.W.kitOne K (.ref c_NoTongue) (.ref c_NoWay) = some false
  kx_NoWord : PySem.W.kitOne K (.ref c_NoTongue) (.ref c_NoWord) = some false
  kx_TooMany : PySem.W.kitOne K (.ref c_NoTongue) (.ref c_TooMany) = some false
  kx_Twice : PySem.W.kitOne K (.ref c_NoTongue) (.ref c_Twice) = some false
  kx_Unsure : PySem.W.kitOne K (.ref c_NoTongue) (.ref c_Unsure) = some false
  a_STEP_LETTERS : Addr
  m_STEP_LETTERS : mg "STEP_LETTERS" = some (.ref a_STEP_LETTERS)
  s_STEP_LETTERS : ∀ H, SqT K H a_STEP_LETTERS [.str "F", .str "M", .str "T", .str "f", .str "m", .str "t", .str "S"]
  a_TESTS : Addr
  m_TESTS : mg "TESTS" = some (.ref a_TESTS)
  s_TESTS : ∀ H, SqT K H a_TESTS [.str "he", .str "she"]
  a_MARKS : Addr
  m_MARKS : mg "MARKS" = some (.ref a_MARKS)
  s_MARKS : ∀ H, SqT K H a_MARKS [.str "other", .str "elder", .str "younger"]
  t_MOST_ROWS : Tok
  m_MOST_ROWS : mg "MOST_ROWS" = some (.int 40 t_MOST_ROWS)
  t_MOST_PARTS : Tok
  m_MOST_PARTS : mg "MOST_PARTS" = some (.int 8 t_MOST_PARTS)
  t_MOST_PIECES : Tok
  m_MOST_PIECES : mg "MOST_PIECES" = some (.int 12 t_MOST_PIECES)
  tkL : Tok
  m_LETTERS : mg "LETTERS" = some (.str "abcdefghijklmnopqrstuvwxyz" tkL)
seal TongM.rowTxt TongM.lineOf TongM.txt
open WayM
open TongM hiding partsOf
def spLaw (K : PySem.W.Frag) : Sp := fun vs H Q E => ∃ (l : Addr) (ns : List Int), vs = [.ref l] ∧ SqL K H l (ns.map V.int) ∧ ns.length ≤ 63 ∧ ∀ H', Q (.bl true) H'
theorem kind_bar (z : Str) : ¬ Builtin.Str.strKind z < Builtin.Str.strKind (" | " : Str) := by
  have e : Builtin.Str.strKind (" | " : Str) = 1 := by decide +kernel
  rw [e]
  unfold Builtin.Str.strKind
  split
  · decide
  · split <;> decide
theorem item_int {ns : List Int} {k : Nat} (h : k < ns.length) : (ns.map V.int)[k]? = some (V.int (ns.getD k 0)) := by
  simp [List.getD, List.getElem?_eq_getElem h, h]
theorem map_at {xs : List Str} {i : Nat} {y : V} (h : (xs.map V.str)[i]? = some y) : ∃ z, y = .str z ∧ xs[i]? = some z := by
  rw [List.getElem?_map] at h
  obtain ⟨z, hz, e⟩ := Option.map_eq_some_iff.mp h
  exact ⟨z, e.symm, hz⟩
theorem ints_at {cs : List Int} {i : Nat} {y : V} (h : (cs.map V.int)[i]? = some y) : ∃ z, y = .int z ∧ cs[i]? = some z := by
  rw [List.getElem?_map] at h
  obtain ⟨z, hz, e⟩ := Option.map_eq_some_iff.mp h
  exact ⟨z, e.symm, hz⟩
theorem in_strs (x : Str) : ∀ l : List Str, inV (.str x) (l.map V.str) = decide (x ∈ l) := by
  intro l
  unfold inV
  induction l with
  | nil => rfl
  | cons y r ih =>
    rw [List.map_cons, List.any_cons, ih]
    by_cases h : x = y
    · subst h; simp [eqV]
    · simp [eqV, h, Ne.symm h]
theorem same_keep {H H1 : Hp} {a : Addr} {o : HO} (e : Same H H1) (n : H a = none) : Same H (upd H1 a o) := fun b u q => by
  rw [upd_ne (ne_of_none q n)]
  exact e b u q
def stepOf (c : Int) : Str := steps.getD (c.fmod 9).toNat "F"
theorem stepOf_lt (c : Int) : (c.fmod 9).toNat < steps.length := by
  have h0 := mod_lo c (show (0 : Int) < 9 by decide)
  have h1 := mod_hi c (show (0 : Int) < 9 by decide)
  show (c.fmod 9).toNat < 9
  omega
theorem stepOf_stp (c : Int) : Stp (stepOf c) := by
  unfold stepOf Stp
  rw [List.getD_eq_getElem?_getD, List.getElem?_eq_getElem (stepOf_lt c)]
  exact List.getElem_mem _
theorem stepOf_at (c : Int) : atI (steps.map V.str) (c.fmod 9) = some (.str (stepOf c)) := by
  refine at_i (mod_lo c (by decide)) ?_
  unfold stepOf
  rw [List.getElem?_map, List.getD_eq_getElem?_getD, List.getElem?_eq_getElem (stepOf_lt c)]
  rfl
/-! ### pointwise -/
def Each {α : Type} (P : α → V → Prop) (as : List α) (vs : List V) : Prop := vs.length = as.length ∧ ∀ (i : Nat) (a : α) (v : V), as[i]? = some a → vs[i]? = some v → P a v
section
variable {α : Type} {P P' : α → V → Prop} {as : List α} {vs : List V}
theorem Each.imp (h : Each P as vs) (f : ∀ a v, P a v → P' a v) : Each P' as vs := ⟨h.1, fun i a v e1 e2 => f a v (h.2 i a v e1 e2)⟩
theorem Each.get (h : Each P as vs) {i : Nat} {a : α} (e : as[i]? = some a) : ∃ v, vs[i]? = some v ∧ P a v := by
  have l : i < vs.length := by rw [h.1]; exact (List.getElem?_eq_some_iff.mp e).1
  exact ⟨vs[i], List.getElem?_eq_getElem l, h.2 i a _ e (List.getElem?_eq_getElem l)⟩
theorem Each.get' (h : Each P as vs) {i : Nat} {v : V} (e : vs[i]? = some v) : ∃ a, as[i]? = some a ∧ P a v := by
  have l : i < as.length := by rw [← h.1]; exact (List.getElem?_eq_some_iff.mp e).1
  exact ⟨as[i], List.getElem?_eq_getElem l, h.2 i _ v (List.getElem?_eq_getElem l) e⟩
theorem Each.snoc (h : Each P as vs) {a : α} {v : V} (p : P a v) : Each P (as ++ [a]) (vs ++ [v]) := by
  refine ⟨by simp [h.1], fun i b u e1 e2 => ?_⟩
  by_cases l : i < as.length
  · rw [List.getElem?_append_left l] at e1
    rw [List.getElem?_append_left (by rw [h.1]; exact l)] at e2
    exact h.2 i b u e1 e2
  · have li := (List.getElem?_eq_some_iff.mp e1).1
    rw [List.length_append, List.length_singleton] at li
    have ei : i = as.length := by omega
    subst ei
    rw [List.getElem?_append_right (Nat.le_refl _), Nat.sub_self] at e1
    rw [List.getElem?_append_right (by rw [h.1]; exact Nat.le_refl _), h.1, Nat.sub_self] at e2
    cases (show a = b by simpa using e1)
    cases (show v = u by simpa using e2)
    exact p
end
/-! ### what a tongue is made of -/
section
variable {K : PySem.W.Frag} {w : World} {mg : Str → Option Value} (T : Tx K w mg)
def PcAt (H : Hp) (s : Str) (v : V) : Prop := ∃ a dx, v = .ref a ∧ (H a = some (.ins T.c_Letter dx [("letter", .str s)]) ∨ H a = some (.ins T.c_Test dx [("wanted", .str s)]) ∨ ∃ u, s = col ++ u ∧ s.length ≤ 100000 ∧ H a = some (.ins T.c_Said dx [("word", .str u)]))
def PartAt (H : Hp) (b : Bran) (v : V) : Prop := ∃ t u os, v = .ref t ∧ H t = some (.tup [.ref u, .str b.2]) ∧ H u = some (.tup os) ∧ Each (PcAt T H) b.1 os ∧ b.1.length ≤ 12
def PartsAt (H : Hp) (bs : List Bran) (v : V) : Prop := ∃ l os, v = .ref l ∧ H l = some (.lst os) ∧ Each (PartAt T H) bs os ∧ bs.length ≤ 8
def DictAt (H : Hp) (d : Addr) (rows : List Rw) : Prop := ∃ zs : List (Str × V), H d = some (.dK (zs.map fun p => (.inr p.1, p.2))) ∧ zs.map (·.1) = rows.map (·.1) ∧ Each (fun r v => PartsAt T H r.2 v) rows (zs.map (·.2)) ∧ rows.length ≤ 40
def TongAt (H : Hp) (v : V) (rows : List Rw) (z : Str) : Prop := ∃ b dx d, v = .ref b ∧ H b = some (.ins T.c_Tongue dx [("rows", .ref d), ("source", .str z)]) ∧ DictAt T H d rows
/-- what holds no piece and no part -/
def Free (o : HO) : Prop := (∀ xs, o ≠ .tup xs) ∧ ∀ C dx f s, o ≠ .ins C dx [(f, .str s)]
end
section
variable {K : PySem.W.Frag} {w : World} {mg : Str → Option Value} {T : Tx K w mg} {H H' : Hp} {D : Addr} {v : V}
theorem free_lst (xs : List V) : Free (.lst xs) := ⟨fun _ e => (nomatch e), fun _ _ _ _ e => (nomatch e)⟩
theorem free_dK (xs : List (Key × V)) : Free (.dK xs) := ⟨fun _ e => (nomatch e), fun _ _ _ _ e => (nomatch e)⟩
theorem PcAt.but {s : Str} (h : PcAt T H s v) (b : But1 D H H') (hD : ∀ o, H D = some o → Free o) : PcAt T H' s v := by
  obtain ⟨a, dx, rfl, h⟩ := h
  refine ⟨a, dx, rfl, ?_⟩
  have ne : ∀ C f s, H a = some (.ins C dx [(f, .str s)]) → a ≠ D := fun C f s e z => by
    subst z
    exact (hD _ e).2 _ _ _ _ rfl
  rcases h with h | h | ⟨u, e, hl, h⟩
  · exact .inl (b _ _ (ne _ _ _ h) h)
  · exact .inr (.inl (b _ _ (ne _ _ _ h) h))
  · exact .inr (.inr ⟨u, e, hl, b _ _ (ne _ _ _ h) h⟩)
theorem PartAt.but {p : Bran} (h : PartAt T H p v) (b : But1 D H H') (hD : ∀ o, H D = some o → Free o) : PartAt T H' p v := by
  obtain ⟨t, u, os, rfl, h1, h2, h3, h4⟩ := h
  have ne : ∀ a xs, H a = some (.tup xs) → a ≠ D := fun a xs e z => by
    subst z
    exact (hD _ e).1 _ rfl
  exact ⟨t, u, os, rfl, b _ _ (ne _ _ h1) h1, b _ _ (ne _ _ h2) h2, h3.imp fun s o q => q.but b hD, h4⟩
theorem PartsAt.but {p : List Bran} (h : PartsAt T H p v) (b : But1 D H H') (hD : ∀ o, H D = some o → Free o) (hl : ∀ xs, H D ≠ some (.lst xs)) : PartsAt T H' p v := by
  obtain ⟨l, os, rfl, h1, h2, h3⟩ := h
  exact ⟨l, os, rfl, b _ _ (fun z => by subst z; exact hl _ h1) h1, h2.imp fun s o q => q.but b hD, h3⟩
theorem DictAt.but {d : Addr} {rows : List Rw} (h : DictAt T H d rows) (b : But1 D H H') (hD : ∀ o, H D = some o → Free o) (hl : ∀ xs, H D ≠ some (.lst xs)) (hk : ∀ xs, H D ≠ some (.dK xs)) : DictAt T H' d rows := by
  obtain ⟨zs, h1, h2, h3, h4⟩ := h
  exact ⟨zs, b _ _ (fun z => by subst z; exact hk _ h1) h1, h2, h3.imp fun s o q => q.but b hD hl, h4⟩
theorem PcAt.same {s : Str} (h : PcAt T H s v) (b : Same H H') : PcAt T H' s v := by
  obtain ⟨a, dx, rfl, h⟩ := h
  refine ⟨a, dx, rfl, ?_⟩
  rcases h with h | h | ⟨u, e, hl, h⟩
  · exact .inl (b _ _ h)
  · exact .inr (.inl (b _ _ h))
  · exact .inr (.inr ⟨u, e, hl, b _ _ h⟩)
theorem PartAt.same {p : Bran} (h : PartAt T H p v) (b : Same H H') : PartAt T H' p v := by
  obtain ⟨t, u, os, rfl, h1, h2, h3, h4⟩ := h
  exact ⟨t, u, os, rfl, b _ _ h1, b _ _ h2, h3.imp fun s o q => q.same b, h4⟩
theorem PartsAt.same {p : List Bran} (h : PartsAt T H p v) (b : Same H H') : PartsAt T H' p v := by
  obtain ⟨l, os, rfl, h1, h2, h3⟩ := h
  exact ⟨l, os, rfl, b _ _ h1, h2.imp fun s o q => q.same b, h3⟩
theorem DictAt.same {d : Addr} {rows : List Rw} (h : DictAt T H d rows) (b : Same H H') : DictAt T H' d rows := by
  obtain ⟨zs, h1, h2, h3, h4⟩ := h
  exact ⟨zs, b _ _ h1, h2, h3.imp fun s o q => q.same b, h4⟩
theorem TongAt.same {rows : List Rw} {z : Str} (h : TongAt T H v rows z) (b : Same H H') : TongAt T H' v rows z := by
  obtain ⟨o, dx, d, rfl, h1, h2⟩ := h
  exact ⟨o, dx, d, rfl, b _ _ h1, h2.same b⟩
end
/-! ### a dict whose keys are texts -/
theorem val_none {n : Str} : ∀ {zs : List (Str × V)}, n ∉ zs.map (·.1) → valV (zs.map fun p => ((.inr p.1 : Key), p.2)) (.inr n) = none
  | [], _ => rfl
  | p :: zs, h => by
    have h1 : ¬ ((.inr p.1 : Key)) = .inr n := fun e => h (by rw [← Sum.inr.inj e]; simp)
    rw [List.map_cons, valV_neg h1]
    exact val_none fun z => h (List.mem_cons_of_mem _ z)
theorem val_some {n : Str} {v : V} : ∀ {zs : List (Str × V)} {i : Nat}, (zs.map (·.1)).Nodup → zs[i]? = some (n, v) → valV (zs.map fun p => ((.inr p.1 : Key), p.2)) (.inr n) = some v
  | [], _, _, e => by cases e
  | p :: zs, 0, _, e => by
    cases (show p = (n, v) by simpa using e)
    rw [List.map_cons, valV_pos rfl]
  | p :: zs, i + 1, nd, e => by
    have e2 : zs[i]? = some (n, v) := by simpa using e
    have nd2 := List.nodup_cons.mp (show (p.1 :: zs.map (·.1)).Nodup from nd)
    have h1 : ¬ ((.inr p.1 : Key)) = .inr n := fun z => nd2.1 (by rw [Sum.inr.inj z]; exact List.mem_map.mpr ⟨_, List.mem_of_getElem? e2, rfl⟩)
    rw [List.map_cons, valV_neg h1]
    exact val_some nd2.2 e2
theorem put_new {n : Str} {v : V} {zs : List (Str × V)} (h : n ∉ zs.map (·.1)) : putK (zs.map fun p => ((.inr p.1 : Key), p.2)) (.inr n) v = (zs ++ [(n, v)]).map fun p => ((.inr p.1 : Key), p.2) := by
  unfold putK
  rw [if_neg, List.map_append]
  · rfl
  · intro t
    obtain ⟨q, hq, e⟩ := List.any_eq_true.mp t
    obtain ⟨p, hp, rfl⟩ := List.mem_map.mp hq
    have e2 : (.inr p.1 : Key) = .inr n := of_decide_eq_true e
    exact h (by rw [← Sum.inr.inj e2]; exact List.mem_map.mpr ⟨p, hp, rfl⟩)
/-! ### the law's own rows -/
structure LB where
  r : Addr
  p : Addr
  b : Bran
structure LR where
  t : Addr
  l : Addr
  w : Str
  bs : List LB
def LB.cells (x : LB) : List (Addr × HO) := [(x.r, .lst [.ref x.p, .str x.b.2]), (x.p, .lst (x.b.1.map V.str))]
def LR.cells (x : LR) : List (Addr × HO) := (x.t, .tup [.str x.w, .ref x.l]) :: (x.l, .lst (x.bs.map fun y => .ref y.r)) :: x.bs.flatMap LB.cells
def LR.row (x : LR) : Rw := (x.w, x.bs.map (·.b))
def cells (a : Addr) (rs : List LR) : List (Addr × HO) := (a, .lst (rs.map fun x => .ref x.t)) :: rs.flatMap LR.cells
def RAt (H : Hp) (a : Addr) (rs : List LR) : Prop := ∀ c ∈ cells a rs, H c.1 = some c.2
def Own (H0 H : Hp) (cs : List (Addr × HO)) : Prop := (cs.map (·.1)).Nodup ∧ (∀ c ∈ cs, H c.1 = some c.2 ∧ H0 c.1 = none) ∧ Same H0 H
section
variable {H0 H H' : Hp} {cs l1 l2 : List (Addr × HO)} {a p q : Addr} {o o' : HO} {rs : List LR}
theorem Own.rat (h : Own H0 H (cells a rs)) : RAt H a rs := fun c hc => (h.2.1 c hc).1
theorem Own.start (h : H a = none) : Own H (upd H a o) [(a, o)] := by
  refine ⟨by simp, fun c hc => ?_, same_upd h⟩
  have : c = (a, o) := by simpa using hc
  subst this
  exact ⟨upd_same, h⟩
theorem Own.same (h : Own H0 H cs) (s : Same H H') : Own H0 H' cs := ⟨h.1, fun c hc => ⟨s _ _ (h.2.1 c hc).1, (h.2.1 c hc).2⟩, h.2.2.trans s⟩
theorem Own.set (h : Own H0 H (l1 ++ (p, o) :: l2)) (o' : HO) : Own H0 (upd H p o') (l1 ++ (p, o') :: l2) := by
  obtain ⟨nd, hc, s⟩ := h
  have n2 := nd
  rw [List.map_append, List.map_cons, List.nodup_append] at n2
  refine ⟨by simpa using nd, fun c hm => ?_, same_keep s (hc (p, o) (by simp)).2⟩
  rcases List.mem_append.mp hm with z | z
  · have ne : c.1 ≠ p := n2.2.2 c.1 (List.mem_map.mpr ⟨c, z, rfl⟩) p (by simp)
    rw [upd_ne ne]
    exact hc c (List.mem_append_left _ z)
  · rcases List.mem_cons.mp z with z | z
    · subst z
      exact ⟨upd_same, (hc (p, o) (by simp)).2⟩
    · have ne : c.1 ≠ p := fun e => (List.nodup_cons.mp n2.2.1).1 (by show p ∈ l2.map (·.1); rw [← e]; exact List.mem_map.mpr ⟨c, z, rfl⟩)
      rw [upd_ne ne]
      exact hc c (List.mem_append_right _ (List.mem_cons_of_mem _ z))
theorem Own.add (h : Own H0 H (l1 ++ l2)) (n : H q = none) (o : HO) : Own H0 (upd H q o) (l1 ++ (q, o) :: l2) := by
  obtain ⟨nd, hc, s⟩ := h
  have fr : ∀ c ∈ l1 ++ l2, c.1 ≠ q := fun c hm => ne_of_none (hc c hm).1 n
  have n0 : H0 q = none := by
    cases e : H0 q with
    | none => rfl
    | some u => rw [s _ _ e] at n; cases n
  refine ⟨?_, fun c hm => ?_, same_keep s n0⟩
  · rw [List.map_append, List.map_cons]
    rw [List.map_append] at nd
    refine (List.perm_middle.nodup_iff).mpr (List.nodup_cons.mpr ⟨fun z => ?_, nd⟩)
    rw [← List.map_append] at z
    obtain ⟨c, hm, e⟩ := List.mem_map.mp z
    exact fr c hm e
  · rcases List.mem_append.mp hm with z | z
    · rw [upd_ne (fr c (List.mem_append_left _ z))]
      exact hc c (List.mem_append_left _ z)
    · rcases List.mem_cons.mp z with z | z
      · subst z
        exact ⟨upd_same, n0⟩
      · rw [upd_ne (fr c (List.mem_append_right _ z))]
        exact hc c (List.mem_append_right _ z)
theorem RAt.lst (h : RAt H a rs) : H a = some (.lst (rs.map fun x => .ref x.t)) := h _ (List.mem_cons_self ..)
theorem RAt.of {x : LR} (h : RAt H a rs) (hx : x ∈ rs) {c : Addr × HO} (hc : c ∈ x.cells) : H c.1 = some c.2 := h c (List.mem_cons_of_mem _ (List.mem_flatMap.mpr ⟨x, hx, hc⟩))
theorem RAt.tup {x : LR} (h : RAt H a rs) (hx : x ∈ rs) : H x.t = some (.tup [.str x.w, .ref x.l]) := h.of hx (List.mem_cons_self ..)
theorem RAt.brs {x : LR} (h : RAt H a rs) (hx : x ∈ rs) : H x.l = some (.lst (x.bs.map fun y => .ref y.r)) := h.of hx (List.mem_cons_of_mem _ (List.mem_cons_self ..))
theorem RAt.br {x : LR} {y : LB} (h : RAt H a rs) (hx : x ∈ rs) (hy : y ∈ x.bs) : H y.r = some (.lst [.ref y.p, .str y.b.2]) := h.of hx (List.mem_cons_of_mem _ (List.mem_cons_of_mem _ (List.mem_flatMap.mpr ⟨y, hy, List.mem_cons_self ..⟩)))
theorem RAt.pcs {x : LR} {y : LB} (h : RAt H a rs) (hx : x ∈ rs) (hy : y ∈ x.bs) : H y.p = some (.lst (y.b.1.map V.str)) := h.of hx (List.mem_cons_of_mem _ (List.mem_cons_of_mem _ (List.mem_flatMap.mpr ⟨y, hy, List.mem_cons_of_mem _ (List.mem_cons_self ..)⟩)))
end
structure RowOk (us : List Str) (r : LR) : Prop where
  ne : r.bs ≠ []
  hi : r.bs.length ≤ 8
  ok : ∀ y ∈ r.bs, GoodB us y.b
structure GoodL (ws : List Str) (rs : List LR) : Prop where
  ne : rs ≠ []
  hi : rs.length ≤ 40
  wds : rs.map (·.w) = ws.take rs.length
  rows : ∀ (i : Nat) (r : LR), rs[i]? = some r → RowOk (ws.take i) r
theorem row_w (rs : List LR) : (rs.map LR.row).map (·.1) = rs.map (·.w) := by rw [List.map_map]; rfl
theorem GoodL.tk {ws : List Str} {rs : List LR} (g : GoodL ws rs) (i : Nat) (hi : i ≤ rs.length) : ((rs.map LR.row).take i).map (·.1) = ws.take i := by
  rw [List.map_take, row_w, g.wds, List.take_take, Nat.min_eq_left hi]
theorem GoodL.good {ws : List Str} {rs : List LR} (g : GoodL ws rs) (wo : WordsOk ws) : GoodR (rs.map LR.row) := by
  refine ⟨by simp [g.ne], by rw [List.length_map]; exact g.hi, ?_, fun r hr => ?_, fun i r hr => ?_⟩
  · rw [row_w, g.wds]
    exact wo.nd.sublist (List.take_sublist _ _)
  · have h1 : r.1 ∈ (rs.map LR.row).map (·.1) := List.mem_map.mpr ⟨r, hr, rfl⟩
    rw [row_w, g.wds] at h1
    exact (wo.nm _ (List.mem_of_mem_take h1)).1
  · rw [List.getElem?_map] at hr
    obtain ⟨x, hx, rfl⟩ := Option.map_eq_some_iff.mp hr
    have rk := g.rows i x hx
    have il := (List.getElem?_eq_some_iff.mp hx).1
    refine ⟨?_, ?_, fun b hb => ?_⟩
    · show x.bs.map (·.b) ≠ []
      simp [rk.ne]
    · show (x.bs.map (·.b)).length ≤ 8
      rw [List.length_map]; exact rk.hi
    · obtain ⟨y, hy, rfl⟩ := List.mem_map.mp (show b ∈ x.bs.map (·.b) from hb)
      rw [g.tk i (Nat.le_of_lt il)]
      exact rk.ok y hy
/-- all but the last row, and its word -/
structure Init (ws : List Str) (ini : List LR) (w : Str) : Prop where
  hi : ini.length < 40
  wds : ini.map (·.w) = ws.take ini.length
  w : ws[ini.length]? = some w
  rows : ∀ (i : Nat) (r : LR), ini[i]? = some r → RowOk (ws.take i) r
theorem Init.good {ws : List Str} {ini : List LR} {x : LR} (h : Init ws ini x.w) (k : RowOk (ws.take ini.length) x) : GoodL ws (ini ++ [x]) := by
  refine ⟨by simp, by rw [List.length_append]; have := h.hi; simp; omega, ?_, fun i r hr => ?_⟩
  · rw [List.map_append, h.wds, List.length_append, List.length_singleton, List.take_add_one, h.w]
    rfl
  · by_cases l : i < ini.length
    · rw [List.getElem?_append_left l] at hr
      exact h.rows i r hr
    · have li := (List.getElem?_eq_some_iff.mp hr).1
      rw [List.length_append, List.length_singleton] at li
      have e : i = ini.length := by omega
      subst e
      rw [List.getElem?_append_right (Nat.le_refl _), Nat.sub_self] at hr
      cases (show x = r by simpa using hr)
      exact k
theorem Init.of {ws : List Str} {ini : List LR} {x : LR} (g : GoodL ws (ini ++ [x])) : Init ws ini x.w ∧ RowOk (ws.take ini.length) x := by
  have hl : (ini ++ [x]).length = ini.length + 1 := by simp
  have hw := g.wds
  rw [hl, List.map_append] at hw
  have hi := g.hi
  rw [hl] at hi
  have lw : ini.length < ws.length := by
    have := congrArg List.length hw
    rw [List.length_append, List.length_map, List.length_take] at this
    simp at this
    omega
  rw [List.take_succ_eq_append_getElem lw] at hw
  have e := List.append_inj hw (by rw [List.length_map, List.length_take]; omega)
  refine ⟨⟨by omega, e.1, ?_, fun i r hr => g.rows i r (by rw [List.getElem?_append_left (List.getElem?_eq_some_iff.mp hr).1]; exact hr)⟩, g.rows _ x (by simp)⟩
  rw [List.getElem?_eq_getElem lw]
  have := e.2
  simp at this
  rw [this]
theorem Init.next {ws : List Str} {rs : List LR} (g : GoodL ws rs) (wo : WordsOk ws) (hl : rs.length < 40) : ∃ w, Init ws rs w := by
  have := wo.lo
  exact ⟨ws[rs.length]'(by omega), hl, g.wds, List.getElem?_eq_getElem _, g.rows⟩
theorem Init.zero {ws : List Str} (wo : WordsOk ws) : ∃ w, Init ws [] w := by
  have := wo.lo
  exact ⟨ws[0]'(by omega), by decide, rfl, List.getElem?_eq_getElem _, fun i r h => by simp at h⟩
/-! ### steps of the law's rows -/
section
variable {H0 H : Hp} {a t l r p : Addr} {ini : List LR} {w : Str} {bs : List LB} {y : LB}
theorem cells_last : cells a (ini ++ [⟨t, l, w, bs⟩]) = ((a, .lst ((ini.map fun x => .ref x.t) ++ [.ref t])) :: (ini.flatMap LR.cells ++ [(t, .tup [.str w, .ref l])])) ++ (l, .lst (bs.map fun y => .ref y.r)) :: bs.flatMap LB.cells := by
  unfold cells
  rw [List.map_append, List.flatMap_append]
  simp [LR.cells]
theorem cells_br (b : Bran) : cells a (ini ++ [⟨t, l, w, bs ++ [⟨r, p, b⟩]⟩]) = (((a, .lst ((ini.map fun x => .ref x.t) ++ [.ref t])) :: (ini.flatMap LR.cells ++ [(t, .tup [.str w, .ref l])])) ++ (l, .lst ((bs.map fun y => .ref y.r) ++ [.ref r])) :: bs.flatMap LB.cells) ++ (r, .lst [.ref p, .str b.2]) :: [(p, .lst (b.1.map V.str))] := by
  rw [cells_last, List.map_append, List.flatMap_append]
  simp [LB.cells]
theorem own_row {rs : List LR} (h : Own H0 H (cells a rs)) (nl : H l = none) (nt : upd H l (.lst []) t = none) : Own H0 (upd (upd (upd H l (.lst [])) t (.tup [.str w, .ref l])) a (.lst ((rs.map fun x => .ref x.t) ++ [.ref t]))) (cells a (rs ++ [⟨t, l, w, []⟩])) := by
  have h1 := Own.add (l1 := cells a rs) (l2 := []) (by rw [List.append_nil]; exact h) nl (.lst [])
  have h2 := Own.add (l1 := cells a rs) (l2 := [(l, .lst [])]) h1 nt (.tup [.str w, .ref l])
  have h3 := Own.set (l1 := []) (p := a) (o := .lst (rs.map fun x => .ref x.t)) (l2 := rs.flatMap LR.cells ++ [(t, .tup [.str w, .ref l]), (l, .lst [])]) h2 (.lst ((rs.map fun x => .ref x.t) ++ [.ref t]))
  rw [cells_last]
  simpa using h3
theorem own_branch {b : Bran} (h : Own H0 H (cells a (ini ++ [⟨t, l, w, bs⟩]))) (np : H p = none) (nr : upd H p (.lst (b.1.map V.str)) r = none) : Own H0 (upd (upd (upd H p (.lst (b.1.map V.str))) r (.lst [.ref p, .str b.2])) l (.lst ((bs.map fun y => .ref y.r) ++ [.ref r]))) (cells a (ini ++ [⟨t, l, w, bs ++ [⟨r, p, b⟩]⟩])) := by
  have h1 := Own.add (l1 := cells a (ini ++ [⟨t, l, w, bs⟩])) (l2 := []) (by rw [List.append_nil]; exact h) np (.lst (b.1.map V.str))
  have h2 := Own.add (l1 := cells a (ini ++ [⟨t, l, w, bs⟩])) (l2 := [(p, .lst (b.1.map V.str))]) h1 nr (.lst [.ref p, .str b.2])
  rw [cells_last] at h2
  have h2' : Own H0 (upd (upd H p (.lst (b.1.map V.str))) r (.lst [.ref p, .str b.2])) (((a, .lst ((ini.map fun x => .ref x.t) ++ [.ref t])) :: (ini.flatMap LR.cells ++ [(t, .tup [.str w, .ref l])])) ++ (l, .lst (bs.map fun y => .ref y.r)) :: (bs.flatMap LB.cells ++ (r, .lst [.ref p, .str b.2]) :: [(p, .lst (b.1.map V.str))])) := by simpa using h2
  have h3 := Own.set h2' (.lst ((bs.map fun y => .ref y.r) ++ [.ref r]))
  rw [cells_br]
  simpa using h3
theorem own_pieces {b : Bran} (h : Own H0 H (cells a (ini ++ [⟨t, l, w, bs ++ [⟨r, p, b⟩]⟩]))) (ps : List Str) : Own H0 (upd H p (.lst (ps.map V.str))) (cells a (ini ++ [⟨t, l, w, bs ++ [⟨r, p, (ps, b.2)⟩]⟩])) := by
  rw [cells_br] at h ⊢
  have h2 : Own H0 H ((((((a, .lst ((ini.map fun x => .ref x.t) ++ [.ref t])) :: (ini.flatMap LR.cells ++ [(t, .tup [.str w, .ref l])])) ++ (l, .lst ((bs.map fun y => .ref y.r) ++ [.ref r])) :: bs.flatMap LB.cells)) ++ [(r, .lst [.ref p, .str b.2])]) ++ (p, .lst (b.1.map V.str)) :: []) := by simpa using h
  have h3 := Own.set h2 (.lst (ps.map V.str))
  simpa using h3
theorem own_mark {b : Bran} (h : Own H0 H (cells a (ini ++ [⟨t, l, w, bs ++ [⟨r, p, b⟩]⟩]))) (m : Str) : Own H0 (upd H r (.lst [.ref p, .str m])) (cells a (ini ++ [⟨t, l, w, bs ++ [⟨r, p, (b.1, m)⟩]⟩])) := by
  rw [cells_br] at h ⊢
  exact Own.set h (.lst [.ref p, .str m])
end
/-- what is no word -/
def NoWd (K : PySem.W.Frag) (H : Hp) (x : V) (rows : List Rw) : Prop := (∃ ty, Kd K H x ty ∧ PySem.W.kitOne K ty (.type "str") = some false) ∨ ∃ n, x = .str n ∧ n ∉ rows.map (·.1)
/-- what parts tells -/
def FAt (H : Hp) (b : Bran) (v : V) : Prop := ∃ t u, v = .ref t ∧ H t = some (.tup [.ref u, .str b.2]) ∧ H u = some (.tup (b.1.map V.str))
def FsAt (H : Hp) (bs : List Bran) (f : Addr) : Prop := ∃ vs, H f = some (.lst vs) ∧ Each (FAt H) bs vs
theorem FAt.same {H H' : Hp} {b : Bran} {v : V} (h : FAt H b v) (s : Same H H') : FAt H' b v := by
  obtain ⟨t, u, rfl, h1, h2⟩ := h
  exact ⟨t, u, rfl, s _ _ h1, s _ _ h2⟩
theorem FsAt.same {H H' : Hp} {bs : List Bran} {f : Addr} (h : FsAt H bs f) (s : Same H H') : FsAt H' bs f := by
  obtain ⟨vs, h1, h2⟩ := h
  exact ⟨vs, s _ _ h1, h2.imp fun b v q => q.same s⟩
theorem made_same {H H2 : Hp} {x dx : Addr} {o1 o2 : HO} (nx : H x = none) (nd : H dx = none) (b : But1 x (upd (upd H dx o1) x o2) H2) : Same H H2 := fun c u e => by
  have cx := ne_of_none e nx
  exact b c u cx (by rw [upd_ne cx, upd_ne (ne_of_none e nd)]; exact e)
theorem val_has {n : Str} {zs : List (Str × V)} (h : n ∈ zs.map (·.1)) : (valV (zs.map fun p => ((.inr p.1 : Key), p.2)) (.inr n)).isSome = true := by
  induction zs with
  | nil => cases h
  | cons p zs ih =>
    by_cases e : (.inr p.1 : Key) = .inr n
    · rw [List.map_cons, valV_pos e]; rfl
    · rw [List.map_cons, valV_neg e]
      refine ih ?_
      rcases List.mem_cons.mp h with z | z
      · exact absurd (congrArg _ z.symm) e
      · exact z
theorem seq_by {a b : TS} {D : Ends} {σ : St} {H : Hp} (J : St → Hp → Prop) (h1 : ∀ nx, (∀ σ H, J σ H → nx σ H) → a { D with nx := nx } σ H) (h2 : ∀ σ H, J σ H → b D σ H) : tSeq a b D σ H := h1 (b D) h2
theorem strs_is {K : PySem.W.Frag} {H : Hp} : ∀ ws : List Str, IsL K H (ws.map D.str) (ws.map V.str)
  | [] => rfl
  | w :: ws => ⟨_, _, rfl, rfl, strs_is ws⟩
theorem strs_dep : ∀ ws : List Str, depL (ws.map D.str) ≤ 1
  | [] => by decide
  | w :: ws => by
    have := strs_dep ws
    simp only [List.map_cons, depL, dep]
    omega
theorem at0v {x y : V} : atI [x, y] 0 = some x := atI_nat (j := 0) rfl
theorem at1v {x y : V} : atI [x, y] 1 = some y := atI_nat (j := 1) rfl
theorem FAt.but {H H' : Hp} {b : Bran} {v : V} {D : Addr} {xs : List V} (h : FAt H b v) (bt : But1 D H H') (hL : H D = some (.lst xs)) : FAt H' b v := by
  obtain ⟨t, u, rfl, h1, h2⟩ := h
  have ne : ∀ a ys, H a = some (.tup ys) → a ≠ D := fun a ys e z => by
    subst z
    rw [hL] at e
    cases e
  exact ⟨t, u, rfl, bt _ _ (ne _ _ h1) h1, bt _ _ (ne _ _ h2) h2⟩
theorem ne_none {H H1 : Hp} {D : Addr} (s : Same H H1) (n : H1 D = none) : H D = none := by
  cases e : H D with
  | none => rfl
  | some u => rw [s _ _ e] at n; cases n
theorem mark_at (c : Int) : ∃ m, atI (marks.map V.str) (c.fmod 3) = some (.str m) ∧ m ∈ marks := by
  have h0 := mod_lo c (show (0 : Int) < 3 by decide)
  have h1 := mod_hi c (show (0 : Int) < 3 by decide)
  have hl : (c.fmod 3).toNat < marks.length := by
    show (c.fmod 3).toNat < 3
    omega
  refine ⟨marks[(c.fmod 3).toNat], at_i h0 ?_, List.getElem_mem hl⟩
  rw [List.getElem?_map, List.getElem?_eq_getElem hl]
  rfl
theorem own_full {H0 H : Hp} {a t l r p : Addr} {rs : List LR} {w : Str} {b : Bran} (h : Own H0 H (cells a rs)) (np : H p = none) (nr : upd H p (.lst (b.1.map V.str)) r = none) (nl : upd (upd H p (.lst (b.1.map V.str))) r (.lst [.ref p, .str b.2]) l = none) (nt : upd (upd (upd H p (.lst (b.1.map V.str))) r (.lst [.ref p, .str b.2])) l (.lst [.ref r]) t = none) :
    Own H0 (upd (upd (upd (upd (upd H p (.lst (b.1.map V.str))) r (.lst [.ref p, .str b.2])) l (.lst [.ref r])) t (.tup [.str w, .ref l])) a (.lst ((rs.map fun x => .ref x.t) ++ [.ref t]))) (cells a (rs ++ [⟨t, l, w, [⟨r, p, b⟩]⟩])) := by
  have h1 := Own.add (l1 := cells a rs) (l2 := []) (by rw [List.append_nil]; exact h) np (.lst (b.1.map V.str))
  have h2 := Own.add (l1 := cells a rs) (l2 := [(p, .lst (b.1.map V.str))]) h1 nr (.lst [.ref p, .str b.2])
  have h3 := Own.add (l1 := cells a rs) h2 nl (.lst [.ref r])
  have h4 := Own.add (l1 := cells a rs) h3 nt (.tup [.str w, .ref l])
  have h5 := Own.set (l1 := []) (p := a) (o := .lst (rs.map fun x => .ref x.t)) (l2 := rs.flatMap LR.cells ++ [(t, .tup [.str w, .ref l]), (l, .lst [.ref r]), (r, .lst [.ref p, .str b.2]), (p, .lst (b.1.map V.str))]) h4 (.lst ((rs.map fun x => .ref x.t) ++ [.ref t]))
  rw [cells_last]
  simpa [LB.cells] using h5
theorem sum_le {n : Nat} : ∀ {l : List Str}, (∀ x ∈ l, x.length ≤ n) → (l.map (·.length)).sum ≤ n * l.length
  | [], _ => Nat.zero_le _
  | a :: r, h => by
    have h1 := h a (by simp)
    have h2 := sum_le (n := n) (l := r) fun x hx => h x (List.mem_cons_of_mem _ hx)
    simp only [List.map_cons, List.sum_cons, List.length_cons]
    rw [Nat.mul_add, Nat.mul_one]
    omega
theorem flat_strs (ws : List Str) : (ws.map V.str).all flatV = true := by
  rw [List.all_eq_true]
  intro x hx
  obtain ⟨w, _, rfl⟩ := List.mem_map.mp hx
  rfl
theorem cut_any (ns : List Int) (a b : Nat) : ∃ cs : List Int, cutV (ns.map V.int) (some (a : Int)) (some (b : Int)) = cs.map V.int ∧ cs.length ≤ b - a := by
  unfold cutV
  refine ⟨(ns.drop (HT.sIx (ns.map V.int).length 0 (some (a : Int)))).take (HT.sIx (ns.map V.int).length (ns.map V.int).length (some (b : Int)) - HT.sIx (ns.map V.int).length 0 (some (a : Int))), by rw [List.map_take, List.map_drop], ?_⟩
  rw [List.length_take, HT.sIx_nat, HT.sIx_nat]
  omega
/-! ### what the law reads -/
def PartsL (H : Hp) (bs : List Bran) (v : V) : Prop := ∃ l, v = .ref l ∧ FsAt H bs l ∧ bs.length ≤ 8
def DueP (H : Hp) (o : Option (List Bran)) (v : V) : Prop := match o with
  | some bs => PartsL H bs v
  | none => v = .non
def RowL (H : Hp) (r : Rw) (v : V) : Prop := ∃ t u, v = .ref t ∧ H t = some (.tup [.str r.1, u]) ∧ PartsL H r.2 u
def DueR (H : Hp) (o : Option (List Rw)) (v : V) : Prop := match o with
  | some rows => ∃ D vs, v = .ref D ∧ H D = some (.lst vs) ∧ Each (RowL H) rows vs ∧ rows.length ≤ 40
  | none => v = .non
theorem PartsL.same {H H' : Hp} {bs : List Bran} {v : V} (h : PartsL H bs v) (s : Same H H') : PartsL H' bs v := by
  obtain ⟨l, rfl, h1, h2⟩ := h
  exact ⟨l, rfl, h1.same s, h2⟩
theorem RowL.same {H H' : Hp} {r : Rw} {v : V} (h : RowL H r v) (s : Same H H') : RowL H' r v := by
  obtain ⟨t, u, rfl, h1, h2⟩ := h
  exact ⟨t, u, rfl, s _ _ h1, h2.same s⟩
theorem DueR.same {H H' : Hp} {o : Option (List Rw)} {v : V} (h : DueR H o v) (s : Same H H') : DueR H' o v := by
  cases o with
  | none => exact h
  | some rows =>
    obtain ⟨D, vs, rfl, h1, h2, h3⟩ := h
    exact ⟨D, vs, rfl, s _ _ h1, h2.imp fun r v q => q.same s, h3⟩
/-- a thing, and what it tells -/
def ThingT (K : PySem.W.Frag) (H : Hp) (x : V) (o : Option (List Rw)) : Prop := (∃ ty, Kd K H x ty ∧ PySem.W.kitOne K ty (.type "str") = some false ∧ o = none) ∨ ∃ z, x = .str z ∧ z.length ≤ 100000 ∧ o = readRows z
section
variable {K : PySem.W.Frag} {w : World} {mg : Str → Option Value} (T : Tx K w mg)
def ToldT (H : Hp) (o : Option (List Rw)) (v : V) (b : Bool) : Prop := match o with
  | some rows => ∃ z, TongAt T H v rows z ∧ b = false
  | none => v = .non ∧ b = true
end
theorem sub_len (x : Str) (i j : Nat) : (Builtin.Str.strSub x i j).length ≤ x.length := by
  have := congrArg List.length (StrLaws.strSub_toList x i j)
  rw [len_sg, List.length_take, List.length_drop, len_sg] at this
  omega
theorem part_lens (y : Str) : (Txt.partition y equ).1.length ≤ y.length ∧ (Txt.partition y equ).2.2.length ≤ y.length := by
  unfold Txt.partition
  cases Builtin.Str.occurrences y equ 0 y.length 1 with
  | nil => exact ⟨Nat.le_refl _, Nat.zero_le _⟩
  | cons i r => exact ⟨sub_len _ _ _, sub_len _ _ _⟩
def RowB (x : LR) : Prop := x.w.length ≤ 8 ∧ x.bs.length ≤ 9 ∧ ∀ y ∈ x.bs, BndB y.b
theorem rowB_of {rs : List LR} (h : BndR (rs.map LR.row)) {x : LR} (hx : x ∈ rs) : RowB x := by
  obtain ⟨a, b, c⟩ := h.each x.row (List.mem_map.mpr ⟨x, hx, rfl⟩)
  refine ⟨a, by have : (x.bs.map (·.b)).length ≤ 9 := b; rw [List.length_map] at this; exact this, fun y hy => c y.b (List.mem_map.mpr ⟨y, hy, rfl⟩)⟩
theorem bndR_of {rs : List LR} (h : ∀ x ∈ rs, RowB x) (l : rs.length ≤ 41) : BndR (rs.map LR.row) := by
  refine ⟨by rw [List.length_map]; exact l, fun r hr => ?_⟩
  obtain ⟨x, hx, rfl⟩ := List.mem_map.mp hr
  obtain ⟨a, b, c⟩ := h x hx
  refine ⟨a, by show (x.bs.map (·.b)).length ≤ 9; rw [List.length_map]; exact b, fun y hy => ?_⟩
  obtain ⟨y', hy', rfl⟩ := List.mem_map.mp (show y ∈ x.bs.map (·.b) from hy)
  exact c y' hy'
theorem bnd_lit (b : Bran) (h : (decide (b.1.length ≤ 13) && b.1.all (fun p => decide (p.length ≤ 9)) && decide (b.2.length ≤ 7)) = true) : BndB b := by
  rw [Bool.and_eq_true, Bool.and_eq_true] at h
  exact ⟨of_decide_eq_true h.1.1, fun p hp => of_decide_eq_true (List.all_eq_true.mp h.1.2 p hp), of_decide_eq_true h.2⟩

theorem for_signs {n : Nat} {V1 : Nat → V → Prop} {g : TG} {tb : TS} {D : Ends} {σ : St} {H : Hp} (Pv : Nat → St → Hp → Prop) (h0 : Pv 0 σ H)
    (hs : ∀ i x σ H, i < n → V1 i x → Pv i σ H → g x σ H fun σ2 H2 => tb { D with nx := Pv (i + 1), ct := Pv (i + 1), bk := D.nx } σ2 H2) (hd : ∀ σ H, Pv n σ H → D.nx σ H) :
    ∃ W : Nat → Nat → St → Hp → Prop, (∃ m, W 0 m σ H) ∧ ∀ i m σ H, W i m σ H →
      ((Itw n V1).stop i H ∧ D.nx σ H) ∨ ((Itw n V1).go i H ∧ ∃ N : St → Hp → Prop, (∀ σ' H', N σ' H' → ∃ m', m' < m ∧ W (i + 1) m' σ' H') ∧ ∀ x H', (Itw n V1).yld i H x H' → g x σ H' fun σ2 H2 => tb { D with nx := N, ct := N, bk := D.nx } σ2 H2) := by
  refine ⟨fun i m σ H => m = n - i ∧ i ≤ n ∧ Pv i σ H, ⟨n, by simp, Nat.zero_le _, h0⟩, ?_⟩
  rintro i m σ H ⟨rfl, hi, p⟩
  by_cases hlt : i < n
  · refine .inr ⟨hlt, Pv (i + 1), fun σ' H' q => ⟨n - (i + 1), by omega, rfl, hlt, q⟩, ?_⟩
    rintro x H' ⟨rfl, hx⟩
    exact hs i x σ _ hlt hx p
  · have e : i = n := by omega
    subst e
    exact .inl ⟨rfl, hd σ H p⟩
/-- a row while the law's lists W and R still grow -/
def RowF (W R : Addr) (H : Hp) (r : Rw) (v : V) : Prop := ∃ t u, v = .ref t ∧ H t = some (.tup [.str r.1, u]) ∧ PartsL H r.2 u ∧ u ≠ .ref W ∧ u ≠ .ref R
theorem RowF.row {W R : Addr} {H : Hp} {r : Rw} {v : V} (h : RowF W R H r v) : RowL H r v := by
  obtain ⟨t, u, h1, h2, h3, _⟩ := h
  exact ⟨t, u, h1, h2, h3⟩
theorem RowF.same {W R : Addr} {H H' : Hp} {r : Rw} {v : V} (h : RowF W R H r v) (s : Same H H') : RowF W R H' r v := by
  obtain ⟨t, u, rfl, h1, h2, h3⟩ := h
  exact ⟨t, u, rfl, s _ _ h1, h2.same s, h3⟩
theorem RowF.but {W R D : Addr} {H H' : Hp} {r : Rw} {v : V} {xs : List V} (h : RowF W R H r v) (b : But1 D H H') (hL : H D = some (.lst xs)) (e : D = W ∨ D = R) : RowF W R H' r v := by
  obtain ⟨t, u, rfl, h1, ⟨l, rfl, ⟨vs, h2, h3⟩, h4⟩, n1, n2⟩ := h
  have lD : l ≠ D := fun z => by
    subst z
    rcases e with e | e
    · exact n1 (by rw [e])
    · exact n2 (by rw [e])
  have tD : t ≠ D := fun z => by subst z; rw [hL] at h1; cases h1
  exact ⟨t, _, rfl, b _ _ tD h1, ⟨l, rfl, ⟨vs, b _ _ lD h2, h3.imp fun p v q => q.but b hL⟩, h4⟩, n1, n2⟩
theorem step_nd {acc acc2 : List Rw} {y : Str} (h : stepRow acc y = some acc2) (nd : (acc.map (·.1)).Nodup) : (acc2.map (·.1)).Nodup := by
  unfold stepRow at h
  split at h
  · rename_i hc
    cases e : readParts (acc.map (·.1)) (Txt.partition y equ).2.2 with
    | none => rw [e] at h; cases h
    | some bs =>
      rw [e] at h
      cases (show some (acc ++ [((Txt.partition y equ).1, bs)]) = some acc2 from h)
      rw [List.map_append, List.nodup_append]
      refine ⟨nd, by simp, fun a ha b hb e2 => ?_⟩
      have : b = (Txt.partition y equ).1 := by simpa using hb
      rw [this] at e2
      rw [e2] at ha
      exact hc.2 ha
  · cases h
theorem go_nd : ∀ {ls : List Str} {acc rows : List Rw}, goRows ls acc = some rows → (acc.map (·.1)).Nodup → (rows.map (·.1)).Nodup
  | [], acc, rows, h, nd => by
    cases (show some acc = some rows from h)
    exact nd
  | y :: ls, acc, rows, h, nd => by
    have h' : (stepRow acc y).bind (goRows ls) = some rows := h
    cases e : stepRow acc y with
    | none => rw [e] at h'; cases h'
    | some acc2 =>
      rw [e] at h'
      exact go_nd (show goRows ls acc2 = some rows from h') (step_nd e nd)
theorem read_nd {z : Str} {rows : List Rw} (h : readRows z = some rows) : (rows.map (·.1)).Nodup := by
  unfold readRows at h
  split at h
  · exact go_nd h (by simp)
  · cases h
def dB (b : Bran) : D := .tup [.tup (b.1.map D.str), .str b.2]
theorem fs_is {K : PySem.W.Frag} {H : Hp} : ∀ {bs : List Bran} {vs : List V}, Each (FAt H) bs vs → IsL K H (bs.map dB) vs
  | [], [], _ => rfl
  | [], v :: r, h => absurd h.1 (by simp)
  | b :: bs, [], h => absurd h.1 (by simp)
  | b :: bs, v :: r, h => by
    obtain ⟨t, u, rfl, h1, h2⟩ := h.2 0 b v rfl rfl
    exact ⟨_, _, rfl, ⟨t, _, rfl, .of h1, ⟨_, _, rfl, ⟨u, _, rfl, .of h2, strs_is _⟩, _, _, rfl, rfl, rfl⟩⟩, fs_is ⟨by have := h.1; simpa using this, fun i a v e1 e2 => h.2 (i + 1) a v (by simpa using e1) (by simpa using e2)⟩⟩
theorem fs_dep : ∀ bs : List Bran, depL (bs.map dB) ≤ 10
  | [] => by decide
  | b :: bs => by
    have := fs_dep bs
    have := strs_dep b.1
    simp only [List.map_cons, depL, dep, dB]
    omega

section
variable {K : PySem.W.Frag} {w : World} {mg : Str → Option Value}
theorem sc_is_name : FnScope ["thing"] ["thing"] (defScope s_is_name) := ⟨rfl, rfl, rfl, by decide +kernel, rfl, by decide +kernel, by decide +kernel⟩
/-- what is_name promises -/
def sp_is_name (T : Tx K w mg) : Sp := fun vs H Q E => vs.length = 1 ∧ (∃ z : Str, vs = [.str z] ∧ z.length ≤ 100000 ∧ ∀ H', Same H H' → Q (.bl (isNm z)) H')
theorem sc_is_letter : FnScope ["thing"] ["thing"] (defScope s_is_letter) := ⟨rfl, rfl, rfl, by decide +kernel, rfl, by decide +kernel, by decide +kernel⟩
/-- what is_letter promises -/
def sp_is_letter (T : Tx K w mg) : Sp := fun vs H Q E => vs.length = 1 ∧ (∃ x, vs = [.str x] ∧ ∀ H', Same H H' → Q (.bl (isLet x)) H')
theorem sc_is_test : FnScope ["thing"] ["thing"] (defScope s_is_test) := ⟨rfl, rfl, rfl, by decide +kernel, rfl, by decide +kernel, by decide +kernel⟩
/-- what is_test promises -/
def sp_is_test (T : Tx K w mg) : Sp := fun vs H Q E => vs.length = 1 ∧ (∃ x, vs = [.str x] ∧ ∀ H', Same H H' → Q (.bl (isTes x)) H')
theorem sc_Letter___init__ : FnScope ["self", "letter"] ["self", "letter"] (defScope s_Letter___init__) := ⟨rfl, rfl, rfl, by decide +kernel, rfl, by decide +kernel, by decide +kernel⟩
/-- what Letter.__init__ promises -/
def sp_Letter___init__ (T : Tx K w mg) : Sp := fun vs H Q E => vs.length = 2 ∧ (∃ b dx z, vs = [.ref b, .str z] ∧ H b = some (.ins T.c_Letter dx []) ∧ ∀ H', But1 b H H' → H' b = some (.ins T.c_Letter dx [("letter", .str z)]) → Q .non H')
theorem sc_Letter_text : FnScope ["self"] ["self"] (defScope s_Letter_text) := ⟨rfl, rfl, rfl, by decide +kernel, rfl, by decide +kernel, by decide +kernel⟩
/-- what Letter.text promises -/
def sp_Letter_text (T : Tx K w mg) : Sp := fun vs H Q E => vs.length = 1 ∧ (∃ b dx z, vs = [.ref b] ∧ H b = some (.ins T.c_Letter dx [("letter", .str z)]) ∧ Q (.str z) H)
theorem sc_Test___init__ : FnScope ["self", "sort"] ["self", "sort"] (defScope s_Test___init__) := ⟨rfl, rfl, rfl, by decide +kernel, rfl, by decide +kernel, by decide +kernel⟩
/-- what Test.__init__ promises -/
def sp_Test___init__ (T : Tx K w mg) : Sp := fun vs H Q E => vs.length = 2 ∧ (∃ b dx z, vs = [.ref b, .str z] ∧ H b = some (.ins T.c_Test dx []) ∧ ∀ H', But1 b H H' → H' b = some (.ins T.c_Test dx [("wanted", .str z)]) → Q .non H')
theorem sc_Test_text : FnScope ["self"] ["self"] (defScope s_Test_text) := ⟨rfl, rfl, rfl, by decide +kernel, rfl, by decide +kernel, by decide +kernel⟩
/-- what Test.text promises -/
def sp_Test_text (T : Tx K w mg) : Sp := fun vs H Q E => vs.length = 1 ∧ (∃ b dx z, vs = [.ref b] ∧ H b = some (.ins T.c_Test dx [("wanted", .str z)]) ∧ Q (.str z) H)
theorem sc_Said___init__ : FnScope ["self", "word"] ["self", "word"] (defScope s_Said___init__) := ⟨rfl, rfl, rfl, by decide +kernel, rfl, by decide +kernel, by decide +kernel⟩
/-- what Said.__init__ promises -/
def sp_Said___init__ (T : Tx K w mg) : Sp := fun vs H Q E => vs.length = 2 ∧ (∃ b dx z, vs = [.ref b, .str z] ∧ H b = some (.ins T.c_Said dx []) ∧ ∀ H', But1 b H H' → H' b = some (.ins T.c_Said dx [("word", .str z)]) → Q .non H')
theorem sc_Said_text : FnScope ["self"] ["self"] (defScope s_Said_text) := ⟨rfl, rfl, rfl, by decide +kernel, rfl, by decide +kernel, by decide +kernel⟩
/-- what Said.text promises -/
def sp_Said_text (T : Tx K w mg) : Sp := fun vs H Q E => vs.length = 1 ∧ (∃ b dx u, vs = [.ref b] ∧ H b = some (.ins T.c_Said dx [("word", .str u)]) ∧ u.length ≤ 100000 ∧ Q (.str (col ++ u)) H)
theorem sc_read_piece : FnScope ["text", "rows"] ["text", "rows"] (defScope s_read_piece) := ⟨rfl, rfl, rfl, by decide +kernel, rfl, by decide +kernel, by decide +kernel⟩
/-- what read_piece promises -/
def sp_read_piece (T : Tx K w mg) : Sp := fun vs H Q E => vs.length = 2 ∧ (∃ z d rows, vs = [.str z, .ref d] ∧ z.length ≤ 100000 ∧ DictAt T H d rows ∧ (pcOk (rows.map (·.1)) z = true → ∀ H' v, Same H H' → PcAt T H' z v → Q v H') ∧ (pcOk (rows.map (·.1)) z = false → ∀ H', Same H H' → E (.ref T.c_NoTongue) none H'))
theorem sc_read_part : FnScope ["text", "rows", "pieces", "mark"] ["text", "rows"] (defScope s_read_part) := ⟨rfl, rfl, rfl, by decide +kernel, rfl, by decide +kernel, by decide +kernel⟩
/-- what read_part promises -/
def sp_read_part (T : Tx K w mg) : Sp := fun vs H Q E => vs.length = 2 ∧ (∃ z d rows, vs = [.str z, .ref d] ∧ z.length ≤ 100000 ∧ DictAt T H d rows ∧ (∀ b, readPart (rows.map (·.1)) z = some b → ∀ H' v, Same H H' → PartAt T H' b v → Q v H') ∧ (readPart (rows.map (·.1)) z = none → ∀ H', Same H H' → E (.ref T.c_NoTongue) none H'))
theorem sc_read_parts : FnScope ["text", "rows", "parts"] ["text", "rows"] (defScope s_read_parts) := ⟨rfl, rfl, rfl, by decide +kernel, rfl, by decide +kernel, by decide +kernel⟩
/-- what read_parts promises -/
def sp_read_parts (T : Tx K w mg) : Sp := fun vs H Q E => vs.length = 2 ∧ (∃ z d rows, vs = [.str z, .ref d] ∧ z.length ≤ 100000 ∧ DictAt T H d rows ∧ (∀ bs, readParts (rows.map (·.1)) z = some bs → ∀ H' v, Same H H' → PartsAt T H' bs v → Q v H') ∧ (readParts (rows.map (·.1)) z = none → ∀ H', Same H H' → E (.ref T.c_NoTongue) none H'))
theorem sc_read_rows : FnScope ["text", "lines", "rows", "line", "halves", "word"] ["text"] (defScope s_read_rows) := ⟨rfl, rfl, rfl, by decide +kernel, rfl, by decide +kernel, by decide +kernel⟩
/-- what read_rows promises -/
def sp_read_rows (T : Tx K w mg) : Sp := fun vs H Q E => vs.length = 1 ∧ (∃ x, vs = [x] ∧ ((∃ ty, Kd K H x ty ∧ PySem.W.kitOne K ty (.type "str") = some false ∧ ∀ H', Same H H' → E (.ref T.c_NoTongue) none H') ∨ ∃ z, x = .str z ∧ z.length ≤ 100000 ∧ (∀ rows, readRows z = some rows → ∀ H' d, Same H H' → DictAt T H' d rows → Q (.ref d) H') ∧ (readRows z = none → ∀ H', Same H H' → E (.ref T.c_NoTongue) none H')))
theorem sc_Tongue___init__ : FnScope ["self", "text"] ["self", "text"] (defScope s_Tongue___init__) := ⟨rfl, rfl, rfl, by decide +kernel, rfl, by decide +kernel, by decide +kernel⟩
/-- what Tongue.__init__ promises -/
def sp_Tongue___init__ (T : Tx K w mg) : Sp := fun vs H Q E => vs.length = 2 ∧ (∃ b dx x, vs = [.ref b, x] ∧ H b = some (.ins T.c_Tongue dx []) ∧ ((∃ ty, Kd K H x ty ∧ PySem.W.kitOne K ty (.type "str") = some false ∧ ∀ H', Same H H' → E (.ref T.c_NoTongue) none H') ∨ ∃ z, x = .str z ∧ z.length ≤ 100000 ∧ (∀ rows, readRows z = some rows → ∀ H', But1 b H H' → TongAt T H' (.ref b) rows z → Q .non H') ∧ (readRows z = none → ∀ H', Same H H' → E (.ref T.c_NoTongue) none H')))
theorem sc_Tongue_words : FnScope ["self"] ["self"] (defScope s_Tongue_words) := ⟨rfl, rfl, rfl, by decide +kernel, rfl, by decide +kernel, by decide +kernel⟩
/-- what Tongue.words promises -/
def sp_Tongue_words (T : Tx K w mg) : Sp := fun vs H Q E => vs.length = 1 ∧ (∃ v rows z, vs = [v] ∧ TongAt T H v rows z ∧ ∀ H' D, Same H H' → H D = none → H' D = some (.lst ((rows.map (·.1)).map V.str)) → Q (.ref D) H')
theorem sc_Tongue_row_of : FnScope ["self", "word"] ["self", "word"] (defScope s_Tongue_row_of) := ⟨rfl, rfl, rfl, by decide +kernel, rfl, by decide +kernel, by decide +kernel⟩
/-- what Tongue.row_of promises -/
def sp_Tongue_row_of (T : Tx K w mg) : Sp := fun vs H Q E => vs.length = 2 ∧ (∃ v x rows z, vs = [v, x] ∧ TongAt T H v rows z ∧ ((NoWd K H x rows ∧ E (.ref T.c_NoWord) none H) ∨ ∃ (i : Nat) (r : Rw), x = .str r.1 ∧ rows[i]? = some r ∧ (rows.map (·.1)).Nodup ∧ ∀ H' D, Same H H' → H D = none → PartsAt T H' r.2 (.ref D) → Q (.ref D) H'))
theorem sc_Tongue_parts : FnScope ["self", "word"] ["self", "word"] (defScope s_Tongue_parts) := ⟨rfl, rfl, rfl, by decide +kernel, rfl, by decide +kernel, by decide +kernel⟩
/-- what Tongue.parts promises -/
def sp_Tongue_parts (T : Tx K w mg) : Sp := fun vs H Q E => vs.length = 2 ∧ (∃ v x rows z, vs = [v, x] ∧ TongAt T H v rows z ∧ ((NoWd K H x rows ∧ E (.ref T.c_NoWord) none H) ∨ ∃ (i : Nat) (r : Rw), x = .str r.1 ∧ rows[i]? = some r ∧ (rows.map (·.1)).Nodup ∧ ∀ H' D, Same H H' → H D = none → FsAt H' r.2 D → Q (.ref D) H'))
theorem sc_Tongue_text : FnScope ["self"] ["self"] (defScope s_Tongue_text) := ⟨rfl, rfl, rfl, by decide +kernel, rfl, by decide +kernel, by decide +kernel⟩
/-- what Tongue.text promises -/
def sp_Tongue_text (T : Tx K w mg) : Sp := fun vs H Q E => vs.length = 1 ∧ (∃ v rows z, vs = [v] ∧ TongAt T H v rows z ∧ Q (.str z) H)
theorem sc__law_cell_at : FnScope ["_law_script", "_law_k"] ["_law_script", "_law_k"] (defScope s__law_cell_at) := ⟨rfl, rfl, rfl, by decide +kernel, rfl, by decide +kernel, by decide +kernel⟩
/-- what _law_cell_at promises -/
def sp__law_cell_at (T : Tx K w mg) : Sp := fun vs H Q E => vs.length = 2 ∧ (∃ (l : Addr) (ns : List Int) (k : Int), vs = [.ref l, .int k] ∧ SqL K H l (ns.map V.int) ∧ 0 ≤ k ∧ ∀ c, Q (.int c) H)
theorem sc__law_words : FnScope ["_law_cell", "_law_letters", "_law_size", "_law_at", "_law_base", "_law_words_here", "_law_k", "_law_word", "_law_j"] ["_law_cell"] (defScope s__law_words) := ⟨rfl, rfl, rfl, by decide +kernel, rfl, by decide +kernel, by decide +kernel⟩
/-- what _law_words promises -/
def sp__law_words (T : Tx K w mg) : Sp := fun vs H Q E => vs.length = 1 ∧ (∃ c : Int, vs = [.int c] ∧ ∀ H' D ws, Same H H' → H D = none → H' D = some (.lst (ws.map V.str)) → WordsOk ws → 42 ≤ ws.length → Q (.ref D) H')
theorem sc__law_piece : FnScope ["_law_rows_here", "_law_cell"] ["_law_rows_here", "_law_cell"] (defScope s__law_piece) := ⟨rfl, rfl, rfl, by decide +kernel, rfl, by decide +kernel, by decide +kernel⟩
/-- what _law_piece promises -/
def sp__law_piece (T : Tx K w mg) : Sp := fun vs H Q E => vs.length = 2 ∧ (∃ a rs c, vs = [.ref a, .int c] ∧ RAt H a rs ∧ rs.length ≤ 40 ∧ (∀ r ∈ rs, Nm r.w) ∧ ∀ H' s, Same H H' → PieceOk (rs.dropLast.map (·.w)) s → Q (.str s) H')
theorem sc__law_rows : FnScope ["_law_cells", "_law_words_here", "_law_rows_here", "_law_cell", "_law_way", "_law_branches"] ["_law_cells", "_law_words_here"] (defScope s__law_rows) := ⟨rfl, rfl, rfl, by decide +kernel, rfl, by decide +kernel, by decide +kernel⟩
/-- what _law_rows promises -/
def sp__law_rows (T : Tx K w mg) : Sp := fun vs H Q E => vs.length = 2 ∧ (∃ lc cs lw ws, vs = [.ref lc, .ref lw] ∧ SqL K H lc (cs.map V.int) ∧ cs ≠ [] ∧ cs.length ≤ 100 ∧ H lw = some (.lst (ws.map V.str)) ∧ WordsOk ws ∧ ∀ H' a rs, Own H H' (cells a rs) → GoodL ws rs → Q (.ref a) H')
theorem sc__law_text : FnScope ["_law_rows_here", "_law_lines", "_law_word", "_law_branches", "_law_some", "_law_pieces", "_law_mark", "_law_line"] ["_law_rows_here"] (defScope s__law_text) := ⟨rfl, rfl, rfl, by decide +kernel, rfl, by decide +kernel, by decide +kernel⟩
/-- what _law_text promises -/
def sp__law_text (T : Tx K w mg) : Sp := fun vs H Q E => vs.length = 1 ∧ (∃ a rs, vs = [.ref a] ∧ RAt H a rs ∧ BndR (rs.map LR.row) ∧ ∀ H', Same H H' → Q (.str (txt (rs.map LR.row))) H')
theorem sc__law_too_long : FnScope ["_law_rows_here", "_law_words_here", "_law_way", "_law_branches"] ["_law_rows_here", "_law_words_here", "_law_way"] (defScope s__law_too_long) := ⟨rfl, rfl, rfl, by decide +kernel, rfl, by decide +kernel, by decide +kernel⟩
/-- what _law_too_long promises -/
def sp__law_too_long (T : Tx K w mg) : Sp := fun vs H Q E => vs.length = 3 ∧ (∃ a lw ws k rs H0, vs = [.ref a, .ref lw, .int k] ∧ Own H0 H (cells a rs) ∧ H0 lw = some (.lst (ws.map V.str)) ∧ WordsOk ws ∧ 42 ≤ ws.length ∧ GoodL ws rs ∧ ∀ H' y, Same H0 H' → y.length ≤ 60000 → Q (.str y) H')
theorem sc__law_spoiled : FnScope ["_law_text_here", "_law_cell", "_law_way", "_law_signs", "_law_sign", "_law_at", "_law_lines"] ["_law_text_here", "_law_cell", "_law_way"] (defScope s__law_spoiled) := ⟨rfl, rfl, rfl, by decide +kernel, rfl, by decide +kernel, by decide +kernel⟩
/-- what _law_spoiled promises -/
def sp__law_spoiled (T : Tx K w mg) : Sp := fun vs H Q E => vs.length = 3 ∧ (∃ (z : Str) (c k : Int), vs = [.str z, .int c, .int k] ∧ z.length ≤ 60000 ∧ ∀ H' y, Same H H' → y.length ≤ 70000 → Q (.str y) H')
theorem sc__law_parts : FnScope ["_law_rest", "_law_words_here", "_law_steps", "_law_found", "_law_one", "_law_pieces", "_law_mark", "_law_piece_here"] ["_law_rest", "_law_words_here"] (defScope s__law_parts) := ⟨rfl, rfl, rfl, by decide +kernel, rfl, by decide +kernel, by decide +kernel⟩
/-- what _law_parts promises -/
def sp__law_parts (T : Tx K w mg) : Sp := fun vs H Q E => vs.length = 2 ∧ (∃ (z : Str) (D : Addr) (ws : List Str), vs = [.str z, .ref D] ∧ z.length ≤ 100000 ∧ ws.length ≤ 40 ∧ H D = some (.lst (ws.map V.str)) ∧ ∀ H' v, Same H H' → DueP H' (readParts ws z) v → (∀ l, v = .ref l → H l = none) → Q v H')
theorem sc__law_read : FnScope ["_law_text_here", "_law_words_here", "_law_rows_here", "_law_line", "_law_at", "_law_word", "_law_sign", "_law_branches"] ["_law_text_here"] (defScope s__law_read) := ⟨rfl, rfl, rfl, by decide +kernel, rfl, by decide +kernel, by decide +kernel⟩
/-- what _law_read promises -/
def sp__law_read (T : Tx K w mg) : Sp := fun vs H Q E => vs.length = 1 ∧ (∃ z, vs = [.str z] ∧ z.length ≤ 100000 ∧ ∀ H' v, Same H H' → DueR H' (readRows z) v → Q v H')
theorem sc__law_told : FnScope ["_law_thing", "_law_found", "_law_right", "e"] ["_law_thing"] (defScope s__law_told) := ⟨rfl, rfl, rfl, by decide +kernel, rfl, by decide +kernel, by decide +kernel⟩
/-- what _law_told promises -/
def sp__law_told (T : Tx K w mg) : Sp := fun vs H Q E => vs.length = 1 ∧ (∃ x o, vs = [x] ∧ ThingT K H x o ∧ ∀ H' D v b, Same H H' → ToldT T H' o v b → SqL K H' D [v, .bl b] → Q (.ref D) H')
theorem sc__law_good : FnScope ["_law_thing", "_law_rows_here", "_law_tongue", "_law_word", "_law_branches"] ["_law_thing", "_law_rows_here"] (defScope s__law_good) := ⟨rfl, rfl, rfl, by decide +kernel, rfl, by decide +kernel, by decide +kernel⟩
/-- what _law_good promises -/
def sp__law_good (T : Tx K w mg) : Sp := fun vs H Q E => vs.length = 2 ∧ (∃ x D rows, vs = [x, .ref D] ∧ ThingT K H x (some rows) ∧ DueR H (some rows) (.ref D) ∧ (rows.map (·.1)).Nodup ∧ ∀ H', Same H H' → Q (.bl true) H')
theorem sc_law : FnScope ["_law_script", "_law_words_here", "_law_rows_here", "_law_good_here", "_law_way", "_law_cell", "_law_text_here", "_law_due"] ["_law_script"] (defScope s_law) := ⟨rfl, rfl, rfl, by decide +kernel, rfl, by decide +kernel, by decide +kernel⟩
/-- what law promises -/
def sp_law (T : Tx K w mg) : Sp := fun vs H Q E => vs.length = 1 ∧ (∃ (l : Addr) (ns : List Int), vs = [.ref l] ∧ SqL K H l (ns.map V.int) ∧ ns.length ≤ 63 ∧ ∀ H', Q (.bl true) H')
abbrev O_is_name (P : Program) (base : Heap) (T : Tx K w mg) : Prop := FnOk P w K mg base (CX1 P w) 1 T.d_is_name.a (fdAt K T.d_is_name.a) ["thing"] (sp_is_name T)
abbrev O_is_letter (P : Program) (base : Heap) (T : Tx K w mg) : Prop := FnOk P w K mg base (CX1 P w) 1 T.d_is_letter.a (fdAt K T.d_is_letter.a) ["thing"] (sp_is_letter T)
abbrev O_is_test (P : Program) (base : Heap) (T : Tx K w mg) : Prop := FnOk P w K mg base (CX1 P w) 1 T.d_is_test.a (fdAt K T.d_is_test.a) ["thing"] (sp_is_test T)
abbrev O_Letter___init__ (P : Program) (base : Heap) (T : Tx K w mg) : Prop := FnOk P w K mg base (CX1 P w) 1 T.d_Letter___init__.a (fdAt K T.d_Letter___init__.a) ["self", "letter"] (sp_Letter___init__ T)
abbrev O_Letter_text (P : Program) (base : Heap) (T : Tx K w mg) : Prop := FnOk P w K mg base (CX1 P w) 1 T.d_Letter_text.a (fdAt K T.d_Letter_text.a) ["self"] (sp_Letter_text T)
abbrev O_Test___init__ (P : Program) (base : Heap) (T : Tx K w mg) : Prop := FnOk P w K mg base (CX1 P w) 1 T.d_Test___init__.a (fdAt K T.d_Test___init__.a) ["self", "sort"] (sp_Test___init__ T)
abbrev O_Test_text (P : Program) (base : Heap) (T : Tx K w mg) : Prop := FnOk P w K mg base (CX1 P w) 1 T.d_Test_text.a (fdAt K T.d_Test_text.a) ["self"] (sp_Test_text T)
abbrev O_Said___init__ (P : Program) (base : Heap) (T : Tx K w mg) : Prop := FnOk P w K mg base (CX1 P w) 1 T.d_Said___init__.a (fdAt K T.d_Said___init__.a) ["self", "word"] (sp_Said___init__ T)
abbrev O_Said_text (P : Program) (base : Heap) (T : Tx K w mg) : Prop := FnOk P w K mg base (CX1 P w) 1 T.d_Said_text.a (fdAt K T.d_Said_text.a) ["self"] (sp_Said_text T)
abbrev O_read_piece (P : Program) (base : Heap) (T : Tx K w mg) : Prop := FnOk P w K mg base (CX1 P w) 3 T.d_read_piece.a (fdAt K T.d_read_piece.a) ["text", "rows"] (sp_read_piece T)
abbrev O_read_part (P : Program) (base : Heap) (T : Tx K w mg) : Prop := FnOk P w K mg base (CX1 P w) 4 T.d_read_part.a (fdAt K T.d_read_part.a) ["text", "rows"] (sp_read_part T)
abbrev O_read_parts (P : Program) (base : Heap) (T : Tx K w mg) : Prop := FnOk P w K mg base (CX1 P w) 5 T.d_read_parts.a (fdAt K T.d_read_parts.a) ["text", "rows"] (sp_read_parts T)
abbrev O_read_rows (P : Program) (base : Heap) (T : Tx K w mg) : Prop := FnOk P w K mg base (CX1 P w) 6 T.d_read_rows.a (fdAt K T.d_read_rows.a) ["text"] (sp_read_rows T)
abbrev O_Tongue___init__ (P : Program) (base : Heap) (T : Tx K w mg) : Prop := FnOk P w K mg base (CX1 P w) 7 T.d_Tongue___init__.a (fdAt K T.d_Tongue___init__.a) ["self", "text"] (sp_Tongue___init__ T)
abbrev O_Tongue_words (P : Program) (base : Heap) (T : Tx K w mg) : Prop := FnOk P w K mg base (CX1 P w) 1 T.d_Tongue_words.a (fdAt K T.d_Tongue_words.a) ["self"] (sp_Tongue_words T)
abbrev O_Tongue_row_of (P : Program) (base : Heap) (T : Tx K w mg) : Prop := FnOk P w K mg base (CX1 P w) 1 T.d_Tongue_row_of.a (fdAt K T.d_Tongue_row_of.a) ["self", "word"] (sp_Tongue_row_of T)
abbrev O_Tongue_parts (P : Program) (base : Heap) (T : Tx K w mg) : Prop := FnOk P w K mg base (CX1 P w) 2 T.d_Tongue_parts.a (fdAt K T.d_Tongue_parts.a) ["self", "word"] (sp_Tongue_parts T)
abbrev O_Tongue_text (P : Program) (base : Heap) (T : Tx K w mg) : Prop := FnOk P w K mg base (CX1 P w) 1 T.d_Tongue_text.a (fdAt K T.d_Tongue_text.a) ["self"] (sp_Tongue_text T)
abbrev O__law_cell_at (P : Program) (base : Heap) (T : Tx K w mg) : Prop := FnOk P w K mg base (CX1 P w) 1 T.d__law_cell_at.a (fdAt K T.d__law_cell_at.a) ["_law_script", "_law_k"] (sp__law_cell_at T)
abbrev O__law_words (P : Program) (base : Heap) (T : Tx K w mg) : Prop := FnOk P w K mg base (CX1 P w) 1 T.d__law_words.a (fdAt K T.d__law_words.a) ["_law_cell"] (sp__law_words T)
abbrev O__law_piece (P : Program) (base : Heap) (T : Tx K w mg) : Prop := FnOk P w K mg base (CX1 P w) 1 T.d__law_piece.a (fdAt K T.d__law_piece.a) ["_law_rows_here", "_law_cell"] (sp__law_piece T)
abbrev O__law_rows (P : Program) (base : Heap) (T : Tx K w mg) : Prop := FnOk P w K mg base (CX1 P w) 2 T.d__law_rows.a (fdAt K T.d__law_rows.a) ["_law_cells", "_law_words_here"] (sp__law_rows T)
abbrev O__law_text (P : Program) (base : Heap) (T : Tx K w mg) : Prop := FnOk P w K mg base (CX1 P w) 1 T.d__law_text.a (fdAt K T.d__law_text.a) ["_law_rows_here"] (sp__law_text T)
abbrev O__law_too_long (P : Program) (base : Heap) (T : Tx K w mg) : Prop := FnOk P w K mg base (CX1 P w) 2 T.d__law_too_long.a (fdAt K T.d__law_too_long.a) ["_law_rows_here", "_law_words_here", "_law_way"] (sp__law_too_long T)
abbrev O__law_spoiled (P : Program) (base : Heap) (T : Tx K w mg) : Prop := FnOk P w K mg base (CX1 P w) 1 T.d__law_spoiled.a (fdAt K T.d__law_spoiled.a) ["_law_text_here", "_law_cell", "_law_way"] (sp__law_spoiled T)
abbrev O__law_parts (P : Program) (base : Heap) (T : Tx K w mg) : Prop := FnOk P w K mg base (CX1 P w) 1 T.d__law_parts.a (fdAt K T.d__law_parts.a) ["_law_rest", "_law_words_here"] (sp__law_parts T)
abbrev O__law_read (P : Program) (base : Heap) (T : Tx K w mg) : Prop := FnOk P w K mg base (CX1 P w) 2 T.d__law_read.a (fdAt K T.d__law_read.a) ["_law_text_here"] (sp__law_read T)
abbrev O__law_told (P : Program) (base : Heap) (T : Tx K w mg) : Prop := FnOk P w K mg base (CX1 P w) 9 T.d__law_told.a (fdAt K T.d__law_told.a) ["_law_thing"] (sp__law_told T)
abbrev O__law_good (P : Program) (base : Heap) (T : Tx K w mg) : Prop := FnOk P w K mg base (CX1 P w) 10 T.d__law_good.a (fdAt K T.d__law_good.a) ["_law_thing", "_law_rows_here"] (sp__law_good T)
abbrev O_law (P : Program) (base : Heap) (T : Tx K w mg) : Prop := FnOk P w K mg base (CX1 P w) 11 T.d_law.a (fdAt K T.d_law.a) ["_law_script"] (sp_law T)
theorem nd_0 : (["sign"] : List Str).Nodup := by decide +kernel
theorem nd_1 : (["piece", "rows"] : List Str).Nodup := by decide +kernel
theorem nd_2 : (["part", "rows"] : List Str).Nodup := by decide +kernel
theorem nd_3 : (["pieces", "mark"] : List Str).Nodup := by decide +kernel
theorem nd_4 : (["piece"] : List Str).Nodup := by decide +kernel
theorem nd_5 : (["_law_k", "_law_cell"] : List Str).Nodup := by decide +kernel
theorem nd_6 : (["_law_word", "_law_branches"] : List Str).Nodup := by decide +kernel
end
section
variable {P : Program} {w : World} {K : PySem.W.Frag} {mg : Str → Option Value} {base : Heap}
theorem ok_is_name (T : Tx K w mg)  : O_is_name P base T := by
  refine Fun.okX (k := 0) T.d_is_name.F sc_is_name (fun vs H Q E h => h.1) (fun cdv A outer s H vs Q E hr h => ?_)
  obtain ⟨-, h⟩ := h
  obtain ⟨z, rfl, hz, q⟩ := h
  refine ⟨_, (pss_cons (ps_if (PW.pt (pw_or (pt_not (pt_val (pe_isi K (by rfl) T.n_isinstance (pa_cons (pv 0) (pa_cons (pe_bltn (v := .ty "str") (by rfl) T.n_str bt_str rfl) pa_nil))))) (pw_or (pt_cmpR op_lt (pe_callB call_len_str (by rfl) T.n_len bt_len (pa_cons (pv 0) pa_nil)) pe_int (nomark _)) (pw_or1 (pt_cmpR op_gt (pe_callB call_len_str (by rfl) T.n_len bt_len (pa_cons (pv 0) pa_nil)) pe_int (nomark _)))))) (pss_one (ps_ret pe_bl)) pss_nil)
      (pss_one (ps_ret (pe_callB (call_all rfl) (by rfl) T.n_all bt_all (pa_cons (pe_comp rfl (comp_scF (N := ["sign"]) [] [none] rfl (by decide +kernel) (by decide +kernel) (by rfl) (by rfl) (by rfl) (by rfl) (by rfl)) (pi_str (pv 0)) (fun _ _ _ => (pg_name (i := 0) nd_0 rfl (Or.inl rfl))) (fun _ _ _ => pts_nil) (fun _ _ _ => (pe_cmpR op_in_str (pv 0) (pe_glob (v := .str alpha) (by rfl) T.m_LETTERS ⟨_, rfl⟩) (by rfl)))) pa_nil))))), ?_⟩
  have hs : z.length ≤ sizeLine := by have := line_big; omega
  refine ⟨_, rfl, _, .ty "str", _, _, rfl, rfl, .of (.str _), T.k_str_str, _, rfl, iteF ⟨_, rfl, z, rfl, hs, _, _, rfl, rfl, _, rfl, ?_⟩⟩
  by_cases h1 : ((z.length : Nat) : Int) < 1
  · rw [decide_eq_true h1]
    have e : isNm z = false := by
      unfold isNm
      rw [decide_eq_false (show ¬ 1 ≤ z.length by omega)]
      rfl
    rw [e] at q
    exact iteT (q _ (Same.refl H))
  rw [decide_eq_false h1]
  refine iteF ⟨_, rfl, z, rfl, hs, _, _, rfl, rfl, _, rfl, ?_⟩
  by_cases h2 : (8 : Int) < ((z.length : Nat) : Int)
  · rw [decide_eq_true h2]
    have e : isNm z = false := by
      unfold isNm
      rw [decide_eq_false (show ¬ z.length ≤ 8 by omega), Bool.and_false]
      rfl
    rw [e] at q
    exact iteT (q _ (Same.refl H))
  rw [decide_eq_false h2]
  have e : isNm z = (z.cps.toList.map inL).all id := by
    unfold isNm
    rw [decide_eq_true (show 1 ≤ z.length by omega), decide_eq_true (show z.length ≤ 8 by omega), List.all_map]
    rfl
  rw [e] at q
  have hl : z.cps.size = z.length := rfl
  refine iteF ⟨_, rfl, z, rfl, ?_⟩
  refine comp_run ((z.cps.toList.map inL).map V.bl) (by simp only [List.length_map, Array.length_toList]; exact Nat.lt_of_le_of_lt (Nat.le_of_eq hl) (small1000 (by omega))) (fun σ => ∃ o, σ = [o]) ⟨none, rfl⟩ ?_ ?_ ?_ ?_
  · intro i H2 hi _
    show i < z.cps.size
    simpa using hi
  · intro H2 _
    show (((z.cps.toList.map inL).map V.bl).length : Nat) = z.cps.size
    simp
  · rintro i σ H2 v H3 y hy ⟨o, rfl⟩ s2 ⟨e3, c, hc, ev⟩ C hC
    subst e3 ev
    have ey : y = .bl (inL c) := by
      have hc' : z.cps.toList[i]? = some c := by simpa using hc
      rw [List.getElem?_map, List.getElem?_map, hc'] at hy
      exact (Option.some.inj hy).symm
    subst ey
    exact ⟨_, rfl, _, _, rfl, rfl, hC _ _ ⟨_, rfl⟩ (Same.refl _)⟩
  · intro D H2 hD s2 hl2
    exact ⟨D, _, rfl, hl2, q _ s2⟩
theorem ok_is_letter (T : Tx K w mg)  : O_is_letter P base T := by
  refine Fun.okX (k := 0) T.d_is_letter.F sc_is_letter (fun vs H Q E h => h.1) (fun cdv A outer s H vs Q E hr h => ?_)
  obtain ⟨-, h⟩ := h
  obtain ⟨x, rfl, q⟩ := h
  refine ⟨_, (pss_one (ps_ret (pe_and (pe_isi K (by rfl) T.n_isinstance (pa_cons (pv 0) (pa_cons (pe_bltn (v := .ty "str") (by rfl) T.n_str bt_str rfl) pa_nil))) (pe_one (pe_cmpR op_in_seq (pv 0) (pe_glob (v := .ref T.a_STEP_LETTERS) (by rfl) T.m_STEP_LETTERS rfl) (by rfl)))))), ?_⟩
  refine ⟨_, rfl, _, .ty "str", _, _, rfl, rfl, .of (.str _), T.k_str_str, _, rfl, iteT ⟨_, rfl, T.a_STEP_LETTERS, _, rfl, .inr (T.s_STEP_LETTERS _), rfl, rfl, ?_⟩⟩
  have e : (if false = true then !inV (.str x) (letters.map V.str) else inV (.str x) (letters.map V.str)) = isLet x := in_strs x letters
  have q1 := q _ (Same.refl H)
  rw [← e] at q1
  exact q1
theorem ok_is_test (T : Tx K w mg)  : O_is_test P base T := by
  refine Fun.okX (k := 0) T.d_is_test.F sc_is_test (fun vs H Q E h => h.1) (fun cdv A outer s H vs Q E hr h => ?_)
  obtain ⟨-, h⟩ := h
  obtain ⟨x, rfl, q⟩ := h
  refine ⟨_, (pss_one (ps_ret (pe_and (pe_isi K (by rfl) T.n_isinstance (pa_cons (pv 0) (pa_cons (pe_bltn (v := .ty "str") (by rfl) T.n_str bt_str rfl) pa_nil))) (pe_one (pe_cmpR op_in_seq (pv 0) (pe_glob (v := .ref T.a_TESTS) (by rfl) T.m_TESTS rfl) (by rfl)))))), ?_⟩
  refine ⟨_, rfl, _, .ty "str", _, _, rfl, rfl, .of (.str _), T.k_str_str, _, rfl, iteT ⟨_, rfl, T.a_TESTS, _, rfl, .inr (T.s_TESTS _), rfl, rfl, ?_⟩⟩
  have e : (if false = true then !inV (.str x) (tests.map V.str) else inV (.str x) (tests.map V.str)) = isTes x := in_strs x tests
  have q1 := q _ (Same.refl H)
  rw [← e] at q1
  exact q1
theorem ok_Letter___init__ (T : Tx K w mg)  : O_Letter___init__ P base T := by
  refine Fun.okX (k := 0) T.d_Letter___init__.F sc_Letter___init__ (fun vs H Q E h => h.1) (fun cdv A outer s H vs Q E hr h => ?_)
  obtain ⟨-, h⟩ := h
  obtain ⟨b, dx, z, rfl, hb, q⟩ := h
  refine ⟨_, (pss_one (ps_fld (pv 0) (pv 1) rfl)), ?_⟩
  exact ⟨_, rfl, _, rfl, b, T.c_Letter, dx, [], rfl, hb, T.cl_Letter, T.na_Letter_letter, Nat.lt_of_lt_of_le (m := 10) (Nat.le_of_ble_eq_true rfl) (by decide), q _ (fun c u nc e => (upd_ne nc).trans e) upd_same⟩
theorem ok_Letter_text (T : Tx K w mg)  : O_Letter_text P base T := by
  refine Fun.okX (k := 0) T.d_Letter_text.F sc_Letter_text (fun vs H Q E h => h.1) (fun cdv A outer s H vs Q E hr h => ?_)
  obtain ⟨-, h⟩ := h
  obtain ⟨b, dx, z, rfl, hb, q⟩ := h
  refine ⟨_, (pss_one (ps_ret (pe_fld (pv 0) rfl))), ?_⟩
  exact ⟨_, rfl, b, T.c_Letter, dx, _, _, rfl, hb, T.cl_Letter, T.na_Letter_letter, rfl, q⟩
theorem ok_Test___init__ (T : Tx K w mg)  : O_Test___init__ P base T := by
  refine Fun.okX (k := 0) T.d_Test___init__.F sc_Test___init__ (fun vs H Q E h => h.1) (fun cdv A outer s H vs Q E hr h => ?_)
  obtain ⟨-, h⟩ := h
  obtain ⟨b, dx, z, rfl, hb, q⟩ := h
  refine ⟨_, (pss_one (ps_fld (pv 0) (pv 1) rfl)), ?_⟩
  exact ⟨_, rfl, _, rfl, b, T.c_Test, dx, [], rfl, hb, T.cl_Test, T.na_Test_wanted, Nat.lt_of_lt_of_le (m := 10) (Nat.le_of_ble_eq_true rfl) (by decide), q _ (fun c u nc e => (upd_ne nc).trans e) upd_same⟩
theorem ok_Test_text (T : Tx K w mg)  : O_Test_text P base T := by
  refine Fun.okX (k := 0) T.d_Test_text.F sc_Test_text (fun vs H Q E h => h.1) (fun cdv A outer s H vs Q E hr h => ?_)
  obtain ⟨-, h⟩ := h
  obtain ⟨b, dx, z, rfl, hb, q⟩ := h
  refine ⟨_, (pss_one (ps_ret (pe_fld (pv 0) rfl))), ?_⟩
  exact ⟨_, rfl, b, T.c_Test, dx, _, _, rfl, hb, T.cl_Test, T.na_Test_wanted, rfl, q⟩
theorem ok_Said___init__ (T : Tx K w mg)  : O_Said___init__ P base T := by
  refine Fun.okX (k := 0) T.d_Said___init__.F sc_Said___init__ (fun vs H Q E h => h.1) (fun cdv A outer s H vs Q E hr h => ?_)
  obtain ⟨-, h⟩ := h
  obtain ⟨b, dx, z, rfl, hb, q⟩ := h
  refine ⟨_, (pss_one (ps_fld (pv 0) (pv 1) rfl)), ?_⟩
  exact ⟨_, rfl, _, rfl, b, T.c_Said, dx, [], rfl, hb, T.cl_Said, T.na_Said_word, Nat.lt_of_lt_of_le (m := 10) (Nat.le_of_ble_eq_true rfl) (by decide), q _ (fun c u nc e => (upd_ne nc).trans e) upd_same⟩
theorem ok_Said_text (T : Tx K w mg)  : O_Said_text P base T := by
  refine Fun.okX (k := 0) T.d_Said_text.F sc_Said_text (fun vs H Q E h => h.1) (fun cdv A outer s H vs Q E hr h => ?_)
  obtain ⟨-, h⟩ := h
  obtain ⟨b, dx, u, rfl, hb, hu, q⟩ := h
  refine ⟨_, (pss_one (ps_ret (pe_op op_add_str pe_str (pe_fld (pv 0) rfl)))), ?_⟩
  exact ⟨_, rfl, b, T.c_Said, dx, _, _, rfl, hb, T.cl_Said, T.na_Said_word, rfl, _, _, rfl, rfl, by have := line_big; show 1 + u.length ≤ _; omega, q⟩
theorem ok_read_piece (T : Tx K w mg) (G_is_letter : O_is_letter P base T) (G_is_test : O_is_test P base T) (G_Letter___init__ : O_Letter___init__ P base T) (G_Test___init__ : O_Test___init__ P base T) (G_Said___init__ : O_Said___init__ P base T) : O_read_piece P base T := by
  refine Fun.okX (k := 2) T.d_read_piece.F sc_read_piece (fun vs H Q E h => h.1) (fun cdv A outer s H vs Q E hr h => ?_)
  obtain ⟨-, h⟩ := h
  obtain ⟨z, d, rows, rfl, hz, hd, q, qe⟩ := h
  refine ⟨_, (pss_cons (ps_if (pt_val (pe_callX G_is_letter (hr.mono (by decide)) (by rfl) T.d_is_letter.m T.d_is_letter.F.kp T.d_is_letter.b .nil pass_none (pa_cons (pv 0) pa_nil))) (pss_one (ps_ret (pe_makeX T.mk_Letter G_Letter___init__ (hr.mono (by decide)) (by rfl) T.m_Letter T.d_Letter___init__.b .nil pass_none (pa_cons (pv 0) pa_nil)))) pss_nil)
      (pss_cons (ps_if (pt_val (pe_callX G_is_test (hr.mono (by decide)) (by rfl) T.d_is_test.m T.d_is_test.F.kp T.d_is_test.b .nil pass_none (pa_cons (pv 0) pa_nil))) (pss_one (ps_ret (pe_makeX T.mk_Test G_Test___init__ (hr.mono (by decide)) (by rfl) T.m_Test T.d_Test___init__.b .nil pass_none (pa_cons (pv 0) pa_nil)))) pss_nil)
      (pss_cons (ps_if (PW.pt (pw_and (pt_val (pe_bm PySem.F.plainAttrs_str PySem.F.slot_str_startswith PySem.F.type_str_startswith mt_starts (pv 0) (pa_cons pe_str pa_nil))) (pw_and1 (pt_cmp (pc_din (hu_of hr) (pe_slice sl_str (pv 0) (po_some pe_int) po_none) (pv 1)))))) (pss_one (ps_ret (pe_makeX T.mk_Said G_Said___init__ (hr.mono (by decide)) (by rfl) T.m_Said T.d_Said___init__.b .nil pass_none (pa_cons (pe_slice sl_str (pv 0) (po_some pe_int) po_none) pa_nil)))) pss_nil)
      (pss_one (ps_raise (by rfl) T.m_NoTongue T.x_NoTongue EB rfl raise_on (pa_cons pe_str pa_nil)))))), ?_⟩
  have zs : z.length ≤ sizeLine := by have := line_big; omega
  refine ⟨_, rfl, rfl, z, rfl, fun H1 s1 => ⟨_, rfl, iteB (fun hb => ?_) (fun hb => ?_)⟩⟩
  · have ok : pcOk (rows.map (·.1)) z = true := by unfold pcOk; rw [hb]; rfl
    exact ⟨_, rfl, fun x dx nx ndx ne => ⟨rfl, x, dx, z, rfl, upd_same, fun H5 b5 e5 => ⟨rfl, q ok _ _ (s1.trans (made_same nx ndx b5)) ⟨x, dx, rfl, .inl e5⟩⟩⟩⟩
  refine ⟨_, rfl, rfl, z, rfl, fun H2 s2 => ⟨_, rfl, iteB (fun hb2 => ?_) (fun hb2 => ?_)⟩⟩
  · have ok : pcOk (rows.map (·.1)) z = true := by unfold pcOk; rw [hb2]; simp
    exact ⟨_, rfl, fun x dx nx ndx ne => ⟨rfl, x, dx, z, rfl, upd_same, fun H5 b5 e5 => ⟨rfl, q ok _ _ ((s1.trans s2).trans (made_same nx ndx b5)) ⟨x, dx, rfl, .inr (.inl e5)⟩⟩⟩⟩
  have s12 := s1.trans s2
  obtain ⟨zs2, k1, k2, k3, k4⟩ := hd.same s12
  have dg := DGet.k (k := .inr (Txt.slice z (some 1) none)) k1
  refine ⟨_, rfl, rfl, z, _, rfl, rfl, _, rfl, iteB (fun h3 => ?_) (fun h3 => ?_)⟩
  · by_cases hm : Txt.slice z (some 1) none ∈ rows.map (·.1)
    · have ok : pcOk (rows.map (·.1)) z = true := by unfold pcOk; rw [hb, hb2, h3, decide_eq_true hm]; rfl
      rw [← k2] at hm
      have isS : (valV (zs2.map fun p => ((.inr p.1 : Key), p.2)) (.inr (Txt.slice z (some 1) none))).isSome = true := val_has hm
      refine ⟨_, rfl, _, rfl, z, rfl, zs, _, rfl, d, _, rfl, dg, _, rfl, iteTb isS ?_⟩
      have es := starts_inv h3
      exact ⟨_, rfl, _, rfl, z, rfl, zs, fun x dx nx ndx ne => ⟨rfl, x, dx, _, rfl, upd_same, fun H5 b5 e5 => ⟨rfl, q ok _ _ (s12.trans (made_same nx ndx b5)) ⟨x, dx, rfl, .inr (.inr ⟨_, es, hz, e5⟩)⟩⟩⟩⟩
    · have no : pcOk (rows.map (·.1)) z = false := by unfold pcOk; rw [hb, hb2, h3, decide_eq_false hm]; rfl
      rw [val_none (by rw [k2]; exact hm)] at dg
      exact ⟨_, rfl, _, rfl, z, rfl, zs, _, rfl, d, _, rfl, dg, _, rfl, iteF ⟨few rfl, qe no _ s12⟩⟩
  · have no : pcOk (rows.map (·.1)) z = false := by unfold pcOk; rw [hb, hb2, h3]; rfl
    exact iteF ⟨few rfl, qe no _ s12⟩
theorem ok_read_part (T : Tx K w mg) (G_read_piece : O_read_piece P base T) : O_read_part P base T := by
  refine Fun.okX (k := 3) T.d_read_part.F sc_read_part (fun vs H Q E h => h.1) (fun cdv A outer s H vs Q E hr h => ?_)
  obtain ⟨-, h⟩ := h
  obtain ⟨z, d, rows, rfl, hz, hd, q, qe⟩ := h
  refine ⟨_, (pss_cons (ps_set (i := 2) sc_read_part.nd rfl (Or.inl rfl) (pe_bm PySem.F.plainAttrs_str PySem.F.slot_str_split PySem.F.type_str_split (mt_split1 32 (by decide)) (pv 0) (pa_cons pe_str pa_nil)))
      (pss_cons (ps_set (i := 3) sc_read_part.nd rfl (Or.inl rfl) pe_str)
      (pss_cons (ps_if (pt_cmpR op_in_seq (pe_ix ix_list (pv 2) (pe_un un_neg pe_int) (fun _ _ => rfl)) (pe_glob (v := .ref T.a_MARKS) (by rfl) T.m_MARKS rfl) (by rfl)) (pss_one (ps_set (i := 3) sc_read_part.nd rfl (Or.inl rfl) (pe_bm0 PySem.F.plainAttrs_list PySem.F.slot_list_pop PySem.F.type_list_pop mt_pop (pv 2)))) pss_nil)
      (pss_cons (ps_if (PW.pt (pw_or (pt_cmpR op_lt (pe_callB call_len_seq (by rfl) T.n_len bt_len (pa_cons (pv 2) pa_nil)) pe_int (nomark _)) (pw_or1 (pt_cmpR op_gt (pe_callB call_len_seq (by rfl) T.n_len bt_len (pa_cons (pv 2) pa_nil)) (pe_glob (v := .int 12) (by rfl) T.m_MOST_PIECES ⟨_, rfl⟩) (nomark _))))) (pss_one (ps_raise (by rfl) T.m_NoTongue T.x_NoTongue EB rfl raise_on (pa_cons pe_str pa_nil))) pss_nil)
      (pss_one (ps_ret (pe_tup (pa_cons (pe_callTy call_tuple_of (by rfl) T.n_tuple bt_tuple (pa_cons (pe_compX rfl (comp_scF (N := ["piece", "rows"]) ["rows"] [none, some 1] rfl (by decide +kernel) (by decide +kernel) (by rfl) (by rfl) (by rfl) (by rfl) (by rfl)) (pi_list (pv 2))  comp_on (fun _ _ _ _ => (pg_name (i := 0) nd_1 rfl (Or.inl rfl)))  (fun _ _ _ _ => pts_nil)  (fun _ _ _ _ hpC => (pe_callX G_read_piece (hr.mono (by decide)) (by rfl) T.d_read_piece.m T.d_read_piece.F.kp T.d_read_piece.b .nil hpC (pa_cons (pv 0) (pa_cons (pv 1) pa_nil))))) pa_nil)) (pa_cons (pv 3) pa_nil))))))))), ?_⟩
  have pl : ∀ p ∈ TongM.partsOf 32 z, p.length ≤ 100000 := fun p hp => by
    have := part_len hp
    omega
  obtain ⟨p0, ps0, ep⟩ := TextM.splitL_ne 32 z.cps.toList
  have pne : TongM.partsOf 32 z ≠ [] := by unfold TongM.partsOf; rw [ep]; simp
  have pln : (TongM.partsOf 32 z).length ≤ 100001 := by have := parts_len z 32; exact Nat.le_trans this (by omega)
  have hb2 := big_line
  obtain ⟨ini, la, el⟩ : ∃ ini p, TongM.partsOf 32 z = ini ++ [p] := ⟨_, _, (List.dropLast_concat_getLast pne).symm⟩
  have eld : lastD (ini ++ [la]) = la := by unfold lastD; simp
  refine ⟨_, rfl, rfl, z, rfl, rfl, by omega, fun D nD => ?_⟩
  have sA := same_upd (o := .lst ((partsOf 32 z).map V.str)) nD
  have hD : upd H D (.lst ((partsOf 32 z).map V.str)) D = some (.lst ((partsOf 32 z).map V.str)) := upd_same
  generalize upd H D (.lst ((partsOf 32 z).map V.str)) = H1 at *
  rw [show L2.partsOf 32 z = TongM.partsOf 32 z from rfl] at hD
  dsimp only [gName]
  refine seq_by (fun σ H2 => σ = [some (.str z), some (.ref d), some (.ref D), some (.str "")] ∧ H2 = H1) (fun nx rest => rest _ _ ⟨rfl, rfl⟩) (fun σ H2 hJ => ?_)
  obtain ⟨rfl, rfl⟩ := hJ
  refine seq_by (fun σ H2 => σ = [some (.str z), some (.ref d), some (.ref D), some (.str (partMk (TongM.partsOf 32 z)))] ∧ H2 D = some (.lst ((partQs (TongM.partsOf 32 z)).map V.str)) ∧ Same H H2) (fun nx rest => ?_) (fun σ H2 hJ => ?_)
  · rw [el] at hD
    unfold partMk partQs at rest
    rw [el, eld] at rest
    rw [List.map_append] at hD
    by_cases hm : la ∈ marks
    · rw [if_pos hm, if_pos hm] at rest
      refine ⟨_, rfl, _, rfl, D, _, _, _, rfl, rfl, .of hD, atI_last _ _, T.a_MARKS, _, rfl, .inr (T.s_MARKS _), rfl, rfl, _, rfl, iteTb ((in_strs la marks).trans (decide_eq_true hm)) ?_⟩
      refine ⟨_, rfl, .inl ⟨rfl, _, .of hD⟩, D, _, .str la, rfl, rfl, hD, by simp, rest _ _ ⟨rfl, ?_, same_keep sA nD⟩⟩
      rw [upd_same]
      simp
    · rw [if_neg hm, if_neg hm] at rest
      refine ⟨_, rfl, _, rfl, D, _, _, _, rfl, rfl, .of hD, atI_last _ _, T.a_MARKS, _, rfl, .inr (T.s_MARKS _), rfl, rfl, _, rfl, iteFb ((in_strs la marks).trans (decide_eq_false hm)) (rest _ _ ⟨rfl, by rw [hD, List.map_append], sA⟩)⟩
  obtain ⟨rfl, hD2, s2⟩ := hJ
  have sub : ∀ p ∈ partQs (TongM.partsOf 32 z), p ∈ TongM.partsOf 32 z := fun p hp => by
    unfold partQs at hp
    split at hp
    · exact (List.dropLast_sublist _).subset hp
    · exact hp
  have qln : (partQs (TongM.partsOf 32 z)).length ≤ 100001 := by
    unfold partQs
    split
    · rw [List.length_dropLast]; omega
    · exact pln
  have rp : readPart (rows.map (·.1)) z = if PcsOk (rows.map (·.1)) (partQs (TongM.partsOf 32 z)) then some (partQs (TongM.partsOf 32 z), partMk (TongM.partsOf 32 z)) else none := rfl
  rw [rp] at q qe
  generalize partQs (TongM.partsOf 32 z) = qs at *
  generalize partMk (TongM.partsOf 32 z) = mk at *
  by_cases lo : qs.length < 1
  · refine ⟨_, rfl, D, _, rfl, .inl (.of hD2), _, _, rfl, rfl, _, rfl, iteTb (decide_eq_true (by rw [List.length_map]; omega)) ⟨few rfl, qe (if_neg fun z => by have := z.1; omega) _ s2⟩⟩
  refine ⟨_, rfl, D, _, rfl, .inl (.of hD2), _, _, rfl, rfl, _, rfl, iteFb (decide_eq_false (by rw [List.length_map]; omega)) ?_⟩
  by_cases hi : 12 < qs.length
  · exact ⟨_, rfl, D, _, rfl, .inl (.of hD2), _, _, rfl, rfl, _, rfl, iteTb (decide_eq_true (by rw [List.length_map]; omega)) ⟨few rfl, qe (if_neg fun z => by have := z.2.1; omega) _ s2⟩⟩
  refine ⟨_, rfl, D, _, rfl, .inl (.of hD2), _, _, rfl, rfl, _, rfl, iteFb (decide_eq_false (by rw [List.length_map]; omega)) ?_⟩
  refine ⟨_, rfl, D, rfl, ⟨_, .of hD2⟩, comp_runD qs.length (fun i H v => ∃ s, qs[i]? = some s ∧ pcOk (rows.map (·.1)) s = true ∧ PcAt T H s v) (fun i Ha Hb v D' xs ⟨s, e, ok, hP⟩ hL hB => ⟨s, e, ok, hP.but hB (fun o ho => by rw [hL] at ho; cases ho; exact free_lst _)⟩) (small1000 (by omega)) (fun σ => ∃ v, σ = [v, some (.ref d)]) ⟨_, rfl⟩ (fun i H3 hi sm => ?go) (fun H3 sm => ?stop) (fun i σ H3 x H4 hi hσ sm hx C hC => ?step) (fun D2 ys H3 nD2 sm hD2' hl hP => ?fin)⟩
  case go => exact ⟨_, _, sm.sql (.of hD2), List.getElem?_eq_getElem (by rw [List.length_map]; exact hi)⟩
  case stop => exact ⟨_, sm.sql (.of hD2), by simp⟩
  case step =>
    obtain ⟨v, rfl⟩ := hσ
    obtain ⟨rfl, hx⟩ := hx
    obtain ⟨p, rfl, hp⟩ := map_at (hx _ (sm.sql (.of hD2)))
    have hm := List.mem_of_getElem? hp
    refine ⟨_, rfl, _, rfl, rfl, p, d, rows, rfl, pl p (sub p hm), (hd.same s2).same sm, fun ok H5 u s5 hu => hC u _ H5 ⟨_, rfl⟩ s5 ⟨p, hp, ok, hu⟩, fun no H5 s5 => qe (if_neg fun z => ?_) _ (s2.trans (sm.trans s5))⟩
    have := z.2.2 p hm
    rw [no] at this
    cases this
  case fin =>
    have all : PcsOk (rows.map (·.1)) qs := ⟨by omega, by omega, fun p hp => by
      obtain ⟨i, hi⟩ := List.mem_iff_getElem?.mp hp
      obtain ⟨y, hy⟩ : ∃ y, ys[i]? = some y := ⟨_, List.getElem?_eq_getElem (by rw [hl]; exact (List.getElem?_eq_some_iff.mp hi).1)⟩
      obtain ⟨s, e, ok, _⟩ := hP i y hy
      rw [hi] at e
      cases e
      exact ok⟩
    refine ⟨D2, _, rfl, .inl ⟨.of hD2', fun u nu => ⟨_, rfl, few rfl, fun t nt => q (qs, mk) (if_pos all) _ _ ?_ ?_⟩⟩⟩
    · exact s2.trans (sm.trans ((same_upd nu).trans (same_upd nt)))
    · refine ⟨t, u, ys, rfl, upd_same, (same_upd nt) _ _ upd_same, ⟨hl, fun i s v e1 e2 => ?_⟩, by show qs.length ≤ 12; omega⟩
      obtain ⟨s', e, _, hp⟩ := hP i v e2
      have e1' : qs[i]? = some s := e1
      rw [e1'] at e
      cases e
      exact hp.same ((same_upd nu).trans (same_upd nt))
theorem ok_read_parts (T : Tx K w mg) (G_read_part : O_read_part P base T) : O_read_parts P base T := by
  refine Fun.okX (k := 4) T.d_read_parts.F sc_read_parts (fun vs H Q E h => h.1) (fun cdv A outer s H vs Q E hr h => ?_)
  obtain ⟨-, h⟩ := h
  obtain ⟨z, d, rows, rfl, hz, hd, q, qe⟩ := h
  refine ⟨_, (pss_cons (ps_set (i := 2) sc_read_parts.nd rfl (Or.inl rfl) (pe_bm PySem.F.plainAttrs_str PySem.F.slot_str_split PySem.F.type_str_split (mt_splitG " | " (by decide) kind_bar) (pv 0) (pa_cons pe_str pa_nil)))
      (pss_cons (ps_if (pt_cmpR op_gt (pe_callB call_len_seq (by rfl) T.n_len bt_len (pa_cons (pv 2) pa_nil)) (pe_glob (v := .int 8) (by rfl) T.m_MOST_PARTS ⟨_, rfl⟩) (nomark _)) (pss_one (ps_raise (by rfl) T.m_NoTongue T.x_NoTongue EB rfl raise_on (pa_cons pe_str pa_nil))) pss_nil)
      (pss_one (ps_ret (pe_compX rfl (comp_scF (N := ["part", "rows"]) ["rows"] [none, some 1] rfl (by decide +kernel) (by decide +kernel) (by rfl) (by rfl) (by rfl) (by rfl) (by rfl)) (pi_list (pv 2))  comp_on (fun _ _ _ _ => (pg_name (i := 0) nd_2 rfl (Or.inl rfl)))  (fun _ _ _ _ => pts_nil)  (fun _ _ _ _ hpC => (pe_callX G_read_part (hr.mono (by decide)) (by rfl) T.d_read_part.m T.d_read_part.F.kp T.d_read_part.b .nil hpC (pa_cons (pv 0) (pa_cons (pv 1) pa_nil))))))))), ?_⟩
  have hb2 := big_line
  have cl := TextG.cutAt_len bar z
  refine ⟨_, rfl, rfl, z, rfl, rfl, by omega, fun D nD => ?_⟩
  have sA := same_upd (o := .lst ((TextG.cutAt bar z).map V.str)) nD
  have hD : SqL K (upd H D (.lst ((TextG.cutAt bar z).map V.str))) D ((TextG.cutAt bar z).map V.str) := .of upd_same
  have rp : readParts (rows.map (·.1)) z = if (TextG.cutAt bar z).length ≤ 8 ∧ ∀ y ∈ TextG.cutAt bar z, (readPart (rows.map (·.1)) y).isSome = true then some ((TextG.cutAt bar z).map fun y => (readPart (rows.map (·.1)) y).getD ([], "")) else none := rfl
  rw [rp] at q qe
  by_cases hi : 8 < (TextG.cutAt bar z).length
  · refine ⟨_, rfl, D, _, rfl, .inl hD, _, _, rfl, rfl, _, rfl, iteTb (decide_eq_true (by rw [List.length_map]; omega)) ⟨few rfl, qe (if_neg fun z => by have := z.1; omega) _ sA⟩⟩
  refine ⟨_, rfl, D, _, rfl, .inl hD, _, _, rfl, rfl, _, rfl, iteFb (decide_eq_false (by rw [List.length_map]; omega)) ?_⟩
  refine ⟨_, rfl, D, rfl, ⟨_, hD⟩, comp_runD (TextG.cutAt bar z).length (fun i H v => ∃ y b, (TextG.cutAt bar z)[i]? = some y ∧ readPart (rows.map (·.1)) y = some b ∧ PartAt T H b v) (fun i Ha Hb v D' xs ⟨y, b, e, ok, hP⟩ hL hB => ⟨y, b, e, ok, hP.but hB (fun o ho => by rw [hL] at ho; cases ho; exact free_lst _)⟩) (small1000 (by omega)) (fun σ => ∃ v, σ = [v, some (.ref d)]) ⟨_, rfl⟩ (fun i H3 hi sm => ?go) (fun H3 sm => ?stop) (fun i σ H3 x H4 hi hσ sm hx C hC => ?step) (fun D2 ys H3 nD2 sm hD2' hl hP => ?fin)⟩
  case go => exact ⟨_, _, sm.sql hD, List.getElem?_eq_getElem (by rw [List.length_map]; exact hi)⟩
  case stop => exact ⟨_, sm.sql hD, by simp⟩
  case step =>
    obtain ⟨v, rfl⟩ := hσ
    obtain ⟨rfl, hx⟩ := hx
    obtain ⟨y, rfl, hy⟩ := map_at (hx _ (sm.sql hD))
    have hm := List.mem_of_getElem? hy
    refine ⟨_, rfl, _, rfl, rfl, y, d, rows, rfl, Nat.le_trans (cut_mem hm) hz, (hd.same sA).same sm, fun b ok H5 u s5 hu => hC u _ H5 ⟨_, rfl⟩ s5 ⟨y, b, hy, ok, hu⟩, fun no H5 s5 => qe (if_neg fun z => ?_) _ (sA.trans (sm.trans s5))⟩
    have := z.2 y hm
    rw [no] at this
    cases this
  case fin =>
    have ex : ∀ (i : Nat) (y : Str), (TextG.cutAt bar z)[i]? = some y → ∃ b v, readPart (rows.map (·.1)) y = some b ∧ ys[i]? = some v ∧ PartAt T H3 b v := fun i y hy => by
      obtain ⟨v, hv⟩ : ∃ v, ys[i]? = some v := ⟨_, List.getElem?_eq_getElem (by rw [hl]; exact (List.getElem?_eq_some_iff.mp hy).1)⟩
      obtain ⟨y', b, e, ok, hp⟩ := hP i v hv
      rw [hy] at e
      cases e
      exact ⟨b, v, ok, hv, hp⟩
    have all8 : (TextG.cutAt bar z).length ≤ 8 ∧ ∀ y ∈ TextG.cutAt bar z, (readPart (rows.map (·.1)) y).isSome = true := ⟨by omega, fun y hy => by
      obtain ⟨i, hi⟩ := List.mem_iff_getElem?.mp hy
      obtain ⟨b, v, ok, _⟩ := ex i y hi
      rw [ok]
      rfl⟩
    have ea : Each (PartAt T H3) ((TextG.cutAt bar z).map fun y => (readPart (rows.map (·.1)) y).getD ([], "")) ys := ⟨by rw [hl, List.length_map], fun i b v e1 e2 => by
      rw [List.getElem?_map] at e1
      obtain ⟨y, hy, rfl⟩ := Option.map_eq_some_iff.mp e1
      obtain ⟨b, v', ok, hv, hp⟩ := ex i y hy
      rw [e2] at hv
      cases hv
      rw [ok]
      exact hp⟩
    exact q _ (if_pos all8) _ _ (sA.trans sm) ⟨D2, ys, rfl, hD2', ea, by rw [List.length_map]; omega⟩
theorem ok_read_rows (T : Tx K w mg) (G_is_name : O_is_name P base T) (G_read_parts : O_read_parts P base T) : O_read_rows P base T := by
  refine Fun.okX (k := 5) T.d_read_rows.F sc_read_rows (fun vs H Q E h => h.1) (fun cdv A outer s H vs Q E hr h => ?_)
  obtain ⟨-, h⟩ := h
  obtain ⟨x, rfl, h⟩ := h
  refine ⟨_, (pss_cons (ps_if (pt_not (pt_val (pe_isi K (by rfl) T.n_isinstance (pa_cons (pv 0) (pa_cons (pe_bltn (v := .ty "str") (by rfl) T.n_str bt_str rfl) pa_nil))))) (pss_one (ps_raise (by rfl) T.m_NoTongue T.x_NoTongue EB rfl raise_on (pa_cons pe_str pa_nil))) pss_nil)
      (pss_cons (ps_set (i := 1) sc_read_rows.nd rfl (Or.inl rfl) (pe_bm PySem.F.plainAttrs_str PySem.F.slot_str_split PySem.F.type_str_split (mt_split1 10 (by decide)) (pv 0) (pa_cons pe_str pa_nil)))
      (pss_cons (ps_if (pt_cmpR op_gt (pe_callB call_len_seq (by rfl) T.n_len bt_len (pa_cons (pv 1) pa_nil)) (pe_glob (v := .int 40) (by rfl) T.m_MOST_ROWS ⟨_, rfl⟩) (nomark _)) (pss_one (ps_raise (by rfl) T.m_NoTongue T.x_NoTongue EB rfl raise_on (pa_cons pe_str pa_nil))) pss_nil)
      (pss_cons (ps_set (i := 2) sc_read_rows.nd rfl (Or.inl rfl) pe_dnewK)
      (pss_cons (ps_for PassesOwn.leaving rfl (pi_list (pv 1)) (pg_name (i := 3) sc_read_rows.nd rfl (Or.inl rfl))
        (pss_cons (ps_set (i := 4) sc_read_rows.nd rfl (Or.inl rfl) (pe_bm PySem.F.plainAttrs_str PySem.F.slot_str_partition PySem.F.type_str_partition (mt_part " = " (by decide)) (pv 3) (pa_cons pe_str pa_nil)))
      (pss_cons (ps_set (i := 5) sc_read_rows.nd rfl (Or.inl rfl) (pe_ix ix_tup (pv 4) pe_int (fun _ _ => rfl)))
      (pss_cons (ps_if (PW.pt (pw_or (pt_not (pt_val (pe_callX G_is_name (hr.mono (by decide)) (by rfl) T.d_is_name.m T.d_is_name.F.kp T.d_is_name.b .nil pass_none (pa_cons (pv 5) pa_nil)))) (pw_or1 (pt_cmp (pc_din (hu_of hr) (pv 5) (pv 2)))))) (pss_one (ps_raise (by rfl) T.m_NoTongue T.x_NoTongue EB rfl raise_on (pa_cons pe_str pa_nil))) pss_nil)
      (pss_one (ps_dput (hu_of hr) (pv 2) (pv 5) (pe_callX G_read_parts (hr.mono (by decide)) (by rfl) T.d_read_parts.m T.d_read_parts.F.kp T.d_read_parts.b .nil pass_on (pa_cons (pe_ix ix_tup (pv 4) pe_int (fun _ _ => rfl)) (pa_cons (pv 2) pa_nil))) rfl))))))
      (pss_one (ps_ret (pv 2)))))))), ?_⟩
  rcases h with ⟨ty, hk, ks, qe⟩ | ⟨z, rfl, hz, q, qe⟩
  · exact ⟨_, rfl, _, .ty "str", _, _, rfl, rfl, hk, ks, _, rfl, iteT ⟨few rfl, qe _ (Same.refl H)⟩⟩
  have hb2 := big_line
  refine ⟨_, rfl, _, .ty "str", _, _, rfl, rfl, .of (.str _), T.k_str_str, _, rfl, iteF ?_⟩
  refine ⟨_, rfl, rfl, z, rfl, rfl, by omega, fun D nD => ?_⟩
  have sA := same_upd (o := .lst ((partsOf 10 z).map V.str)) nD
  have hD : upd H D (.lst ((partsOf 10 z).map V.str)) D = some (.lst ((partsOf 10 z).map V.str)) := upd_same
  generalize upd H D (.lst ((partsOf 10 z).map V.str)) = H1 at *
  have rp : readRows z = if (partsOf 10 z).length ≤ 40 then goRows (partsOf 10 z) [] else none := rfl
  rw [rp] at q qe
  have ylen : ∀ y ∈ partsOf 10 z, y.length ≤ 100000 := fun y hy => by have := part_len (c := 10) (z := z) hy; omega
  generalize partsOf 10 z = ls at *
  by_cases hi : 40 < ls.length
  · exact ⟨_, rfl, D, _, rfl, .inl (.of hD), _, _, rfl, rfl, _, rfl, iteTb (decide_eq_true (by rw [List.length_map]; omega)) ⟨few rfl, qe (if_neg (by omega)) _ sA⟩⟩
  rw [if_pos (by omega)] at q qe
  refine ⟨_, rfl, D, _, rfl, .inl (.of hD), _, _, rfl, rfl, _, rfl, iteFb (decide_eq_false (by rw [List.length_map]; omega)) (fun d nd => ?_)⟩
  have nd0 := ne_none sA nd
  refine ⟨_, rfl, D, rfl, ⟨_, (same_upd nd).sql (.of hD)⟩, for_list (xs := ls.map V.str) (fun i σ H2 => ∃ acc v4 v5 v6, σ = [some (.str z), some (.ref D), some (.ref d), v4, v5, v6] ∧ H2 D = some (.lst (ls.map V.str)) ∧ DictAt T H2 d acc ∧ acc.length = i ∧ goRows (ls.drop i) acc = goRows ls [] ∧ Same H H2) ?start ?sq ?turn ?done⟩
  case start => exact ⟨[], _, _, _, rfl, (same_upd nd) _ _ hD, ⟨[], upd_same, rfl, ⟨rfl, fun i a v e => by simp at e⟩, by simp⟩, rfl, rfl, sA.trans (same_upd nd)⟩
  case sq =>
    rintro i σ H2 _ ⟨_, _, _, _, _, h2, _⟩
    exact .of h2
  case turn =>
    rintro i x σ H2 hx ⟨acc, v4, v5, v6, rfl, h2, hd, al, ge, s2⟩
    obtain ⟨y, rfl, hy⟩ := map_at hx
    have il := (List.getElem?_eq_some_iff.mp hy).1
    have yl := ylen y (List.mem_of_getElem? hy)
    have dr : ls.drop i = y :: ls.drop (i + 1) := by
      rw [List.drop_eq_getElem_cons il]
      congr 1
      rw [List.getElem?_eq_getElem il] at hy
      exact Option.some.inj hy
    have ge2 : (stepRow acc y).bind (goRows (ls.drop (i + 1))) = goRows ls [] := by rw [← ge, dr]; rfl
    have fail : stepRow acc y = none → goRows ls [] = none := fun e => by rw [← ge2, e]; rfl
    obtain ⟨p1, p2⟩ := part_lens y
    refine ⟨_, rfl, rfl, y, rfl, rfl, by omega, fun P nP => ?_⟩
    have sP := same_upd (o := .tup [.str (Txt.partition y equ).1, .str (Txt.partition y equ).2.1, .str (Txt.partition y equ).2.2]) nP
    have hP : upd H2 P (.tup [.str (Txt.partition y equ).1, .str (Txt.partition y equ).2.1, .str (Txt.partition y equ).2.2]) P = some (.tup [.str (Txt.partition y equ).1, .str (Txt.partition y equ).2.1, .str (Txt.partition y equ).2.2]) := upd_same
    refine ⟨_, rfl, P, _, _, _, rfl, rfl, .of hP, atI_nat (j := 0) rfl, ?_⟩
    have sr : stepRow acc y = if isNm (Txt.partition y equ).1 = true ∧ (Txt.partition y equ).1 ∉ acc.map (·.1) then (readParts (acc.map (·.1)) (Txt.partition y equ).2.2).map fun bs => acc ++ [((Txt.partition y equ).1, bs)] else none := rfl
    refine ⟨_, rfl, rfl, (Txt.partition y equ).1, rfl, by omega, fun H4 s4 => ⟨_, rfl, ?_⟩⟩
    have s24 := sP.trans s4
    cases hn : isNm (Txt.partition y equ).1 with
    | false => exact iteT ⟨few rfl, qe (fail (by rw [sr, if_neg (by rw [hn]; simp)])) _ (s2.trans s24)⟩
    | true =>
    obtain ⟨zs, k1, k2, k3, k4⟩ := hd.same s24
    have dg := DGet.k (k := .inr (Txt.partition y equ).1) k1
    by_cases hm : (Txt.partition y equ).1 ∈ acc.map (·.1)
    · have isS := val_has (zs := zs) (n := (Txt.partition y equ).1) (by rw [k2]; exact hm)
      exact iteF ⟨_, rfl, _, rfl, d, _, rfl, dg, _, rfl, iteTb isS ⟨few rfl, qe (fail (by rw [sr, if_neg (fun z => z.2 hm)])) _ (s2.trans s24)⟩⟩
    have hno : (Txt.partition y equ).1 ∉ zs.map (·.1) := by rw [k2]; exact hm
    rw [val_none hno] at dg
    rw [if_pos ⟨hn, hm⟩] at sr
    refine iteF ⟨_, rfl, _, rfl, d, _, rfl, dg, _, rfl, iteF ?_⟩
    refine ⟨_, rfl, P, _, _, _, rfl, rfl, .of (s4 _ _ hP), atI_nat (j := 2) rfl, _, rfl, rfl, _, d, acc, rfl, by omega, hd.same s24, fun bs hbs H5 v s5 hv => ?_, fun no H5 s5 => qe (fail (by rw [sr, no]; rfl)) _ (s2.trans (s24.trans s5))⟩
    rw [hbs] at sr
    have k5 := s5 _ _ k1
    have zl : zs.length ≤ 40 := by
      have := congrArg List.length k2
      simp at this
      omega
    refine ⟨_, rfl, _, rfl, d, _, rfl, DPut.k (k := .inr (Txt.partition y equ).1) k5 (small1000 (by rw [List.length_map]; omega)), acc ++ [((Txt.partition y equ).1, bs)], _, _, _, rfl, ?_, ?_, by simp [al], by rw [← ge2, sr]; rfl, ?_⟩
    · rw [upd_ne (ne_of (s5 _ _ (s24 _ _ h2)) k5 (by intro z; cases z))]
      exact s5 _ _ (s24 _ _ h2)
    · rw [put_new hno]
      have bt : But1 d H5 (upd H5 d (.dK ((zs ++ [((Txt.partition y equ).1, v)]).map fun p => ((.inr p.1 : Key), p.2)))) := fun c u nc e => (upd_ne nc).trans e
      have fr : ∀ o, H5 d = some o → Free o := fun o ho => by rw [k5] at ho; cases ho; exact free_dK _
      have nl : ∀ xs, H5 d ≠ some (.lst xs) := fun xs e => by rw [k5] at e; cases e
      refine ⟨zs ++ [((Txt.partition y equ).1, v)], upd_same, by rw [List.map_append, List.map_append, k2]; rfl, ?_, by simp; omega⟩
      have e9 : (zs ++ [((Txt.partition y equ).1, v)]).map (·.2) = zs.map (·.2) ++ [v] := by rw [List.map_append]; rfl
      rw [e9]
      exact (k3.imp fun a u hu => (hu.same s5).but bt fr nl).snoc (hv.but bt fr nl)
    · exact same_keep (s2.trans (s24.trans s5)) nd0
  case done =>
    rintro σ H2 ⟨acc, v4, v5, v6, rfl, h2, hd, al, ge, s2⟩
    rw [List.length_map, List.drop_length] at ge
    exact ⟨_, rfl, q acc ge.symm _ _ s2 hd⟩
theorem ok_Tongue___init__ (T : Tx K w mg) (G_read_rows : O_read_rows P base T) : O_Tongue___init__ P base T := by
  refine Fun.okX (k := 6) T.d_Tongue___init__.F sc_Tongue___init__ (fun vs H Q E h => h.1) (fun cdv A outer s H vs Q E hr h => ?_)
  obtain ⟨-, h⟩ := h
  obtain ⟨b, dx, x, rfl, hb, h⟩ := h
  refine ⟨_, (pss_cons (ps_fld (pv 0) (pe_callX G_read_rows (hr.mono (by decide)) (by rfl) T.d_read_rows.m T.d_read_rows.F.kp T.d_read_rows.b .nil pass_on (pa_cons (pv 1) pa_nil)) rfl)
      (pss_one (ps_fld (pv 0) (pv 1) rfl))), ?_⟩
  rcases h with ⟨ty, hk, ks, qe⟩ | ⟨z, rfl, hz, q, qe⟩
  · exact ⟨_, rfl, rfl, x, rfl, .inl ⟨ty, hk, ks, qe⟩⟩
  refine ⟨_, rfl, rfl, _, rfl, .inr ⟨z, rfl, hz, fun rows hrr H1 d s1 hd => ⟨_, rfl, b, T.c_Tongue, dx, [], rfl, s1 _ _ hb, T.cl_Tongue, T.na_Tongue_rows, Nat.lt_of_lt_of_le (m := 10) (Nat.le_of_ble_eq_true rfl) (by decide), ?_⟩, qe⟩⟩
  have hb1 := s1 _ _ hb
  refine ⟨_, rfl, _, rfl, b, T.c_Tongue, dx, putF "rows" (.ref d) [], rfl, upd_same, T.cl_Tongue, T.na_Tongue_source, Nat.lt_of_lt_of_le (m := 10) (Nat.le_of_ble_eq_true rfl) (by decide), ?_⟩
  have bt : ∀ o1 o2, But1 b H1 (upd (upd H1 b o1) b o2) := fun o1 o2 c u nc e => by rw [upd_ne nc, upd_ne nc]; exact e
  refine q rows hrr _ (fun c u nc e => bt _ _ c u nc (s1 _ _ e)) ⟨b, dx, d, rfl, upd_same, hd.but (bt _ _) (fun o ho => ?_) (fun xs e => ?_) (fun xs e => ?_)⟩
  · rw [hb1] at ho
    cases ho
    exact ⟨fun _ e => (nomatch e), fun _ _ _ _ e => (nomatch e)⟩
  · rw [hb1] at e
    cases e
  · rw [hb1] at e
    cases e
theorem ok_Tongue_words (T : Tx K w mg)  : O_Tongue_words P base T := by
  refine Fun.okX (k := 0) T.d_Tongue_words.F sc_Tongue_words (fun vs H Q E h => h.1) (fun cdv A outer s H vs Q E hr h => ?_)
  obtain ⟨-, h⟩ := h
  obtain ⟨v, rows, z, rfl, ⟨b, dx, d, rfl, hb, zs, k1, k2, k3, k4⟩, q⟩ := h
  refine ⟨_, (pss_one (ps_ret (pe_callTy (call_listDK rfl) (by rfl) T.n_list bt_list (pa_cons (pe_fld (pv 0) rfl) pa_nil)))), ?_⟩
  have zl : zs.length ≤ 40 := by
    have := congrArg List.length k2
    simp at this
    omega
  exact ⟨_, rfl, b, T.c_Tongue, dx, _, _, rfl, hb, T.cl_Tongue, T.na_Tongue_rows, rfl, d, zs, rfl, k1, by omega, fun D nD => q _ D (same_upd nD) nD (by rw [upd_same, k2])⟩
theorem ok_Tongue_row_of (T : Tx K w mg)  : O_Tongue_row_of P base T := by
  refine Fun.okX (k := 0) T.d_Tongue_row_of.F sc_Tongue_row_of (fun vs H Q E h => h.1) (fun cdv A outer s H vs Q E hr h => ?_)
  obtain ⟨-, h⟩ := h
  obtain ⟨v, x, rows, z, rfl, ⟨b, dx, d, rfl, hb, zs, k1, k2, k3, k4⟩, h⟩ := h
  refine ⟨_, (pss_cons (ps_if (PW.pt (pw_or (pt_not (pt_val (pe_isi K (by rfl) T.n_isinstance (pa_cons (pv 1) (pa_cons (pe_bltn (v := .ty "str") (by rfl) T.n_str bt_str rfl) pa_nil))))) (pw_or1 (pt_cmp (pc_dnotin (hu_of hr) (pv 1) (pe_fld (pv 0) rfl)))))) (pss_one (ps_raise (by rfl) T.m_NoWord T.x_NoWord EB rfl raise_on (pa_cons pe_str pa_nil))) pss_nil)
      (pss_one (ps_ret (pe_callTy call_list_of (by rfl) T.n_list bt_list (pa_cons (pe_dget (hu_of hr) (pe_fld (pv 0) rfl) (pv 1) (fun _ _ => rfl)) pa_nil))))), ?_⟩
  rcases h with ⟨⟨ty, hk, ks⟩ | ⟨n, rfl, hn⟩, qe⟩ | ⟨i, r, rfl, hr, nd, q⟩
  · exact ⟨_, rfl, _, .ty "str", _, _, rfl, rfl, hk, ks, _, rfl, iteT (iteT ⟨few rfl, qe⟩)⟩
  · have dg := DGet.k (k := .inr n) k1
    rw [val_none (by rw [k2]; exact hn)] at dg
    exact ⟨_, rfl, _, .ty "str", _, _, rfl, rfl, .of (.str _), T.k_str_str, _, rfl, iteF ⟨_, rfl, _, rfl, b, T.c_Tongue, dx, _, _, rfl, hb, T.cl_Tongue, T.na_Tongue_rows, rfl, d, _, rfl, dg, _, rfl, iteT ⟨few rfl, qe⟩⟩⟩
  obtain ⟨u, hu, l, os, rfl, h1, h2, h3⟩ := k3.get hr
  have hz : zs[i]? = some (r.1, .ref l) := by
    have e1 : (zs.map (·.1))[i]? = some r.1 := by rw [k2, List.getElem?_map, hr]; rfl
    rw [List.getElem?_map] at e1 hu
    cases e : zs[i]? with
    | none => rw [e] at e1; cases e1
    | some p =>
      rw [e] at e1 hu
      have a1 : p.1 = r.1 := by simpa using e1
      have a2 : p.2 = .ref l := by simpa using hu
      rw [← a1, ← a2]
  have dg := DGet.k (k := .inr r.1) k1
  rw [val_some (by rw [k2]; exact nd) hz] at dg
  refine ⟨_, rfl, _, .ty "str", _, _, rfl, rfl, .of (.str _), T.k_str_str, _, rfl, iteF ⟨_, rfl, _, rfl, b, T.c_Tongue, dx, _, _, rfl, hb, T.cl_Tongue, T.na_Tongue_rows, rfl, d, _, rfl, dg, _, rfl, iteF ?_⟩⟩
  exact ⟨_, rfl, b, T.c_Tongue, dx, _, _, rfl, hb, T.cl_Tongue, T.na_Tongue_rows, rfl, _, rfl, d, .ref l, rfl, dg, l, os, rfl, .inl (.of h1), fun D nD => q _ D (same_upd nD) nD ⟨D, os, rfl, upd_same, h2.imp fun a o ho => ho.same (same_upd nD), h3⟩⟩
theorem ok_Tongue_parts (T : Tx K w mg) (G_Letter_text : O_Letter_text P base T) (G_Test_text : O_Test_text P base T) (G_Said_text : O_Said_text P base T) (G_Tongue_row_of : O_Tongue_row_of P base T) : O_Tongue_parts P base T := by
  refine Fun.okX (k := 1) T.d_Tongue_parts.F sc_Tongue_parts (fun vs H Q E h => h.1) (fun cdv A outer s H vs Q E hr h => ?_)
  obtain ⟨-, h⟩ := h
  obtain ⟨v, x, rows, z, rfl, ht, h⟩ := h
  refine ⟨_, (pss_one (ps_ret (pe_comp rfl (comp_scF (N := ["pieces", "mark"]) [] [none, none] rfl (by decide +kernel) (by decide +kernel) (by rfl) (by rfl) (by rfl) (by rfl) (by rfl)) (pi_list (pe_methX (pv 0) T.cl_Tongue T.d_Tongue_row_of.me G_Tongue_row_of (hr.mono (by decide)) T.d_Tongue_row_of.b .nil pass_on (pa_cons (pv 1) pa_nil))) (fun _ _ _ => (pg_tupK (n := 2) K rfl (pgs_cons (pg_name (i := 0) nd_3 rfl (Or.inl rfl)) (pgs_cons (pg_name (i := 1) nd_3 rfl (Or.inl rfl)) pgs_nil)))) (fun _ _ _ => pts_nil) (fun _ _ _ => (pe_tup (pa_cons (pe_callTy (call_tupleK K rfl) (by rfl) T.n_tuple bt_tuple (pa_cons (pe_comp rfl (comp_scF (N := ["piece"]) [] [none] rfl (by decide +kernel) (by decide +kernel) (by rfl) (by rfl) (by rfl) (by rfl) (by rfl)) (pi_tupK K rfl (pv 0)) (fun _ _ _ => (pg_name (i := 0) nd_4 rfl (Or.inl rfl))) (fun _ _ _ => pts_nil) (fun _ _ _ => (pe_meth3 (pv 0) T.cl_Letter T.d_Letter_text.me G_Letter_text (hr.mono (by decide)) T.d_Letter_text.b T.cl_Test T.d_Test_text.me G_Test_text (hr.mono (by decide)) T.d_Test_text.b T.cl_Said T.d_Said_text.me G_Said_text (hr.mono (by decide)) T.d_Said_text.b pass_none))) pa_nil)) (pa_cons (pv 1) pa_nil))))))), ?_⟩
  obtain ⟨b, dx, d, rfl, hb, hd⟩ := id ht
  refine ⟨_, rfl, b, dx, _, rfl, hb, rfl, _, rfl, rfl, .ref b, x, rows, z, rfl, ht, ?_⟩
  rcases h with ⟨no, qe⟩ | ⟨i, r, rfl, hr, nd, q⟩
  · exact .inl ⟨no, qe⟩
  refine .inr ⟨i, r, rfl, hr, nd, fun H1 D s1 nD hp => ?_⟩
  obtain ⟨l, os, el, h1, h2, h3⟩ := hp
  cases el
  have ol := h2.1
  refine ⟨D, rfl, ⟨_, .of h1⟩, comp_runD r.2.length (fun i H v => ∀ b, r.2[i]? = some b → FAt H b v) (fun i Ha Hb v D' xs hP hL hB s e => (hP s e).but hB hL) (small1000 (by omega)) (fun σ => ∃ v1 v2, σ = [v1, v2]) ⟨_, _, rfl⟩ (fun i H3 hi sm => ?go) (fun H3 sm => ?stop) (fun i σ H3 x H4 hi hσ sm hx C hC => ?step) (fun D2 ys H3 nD2 sm hD2' hl hP => ?fin)⟩
  case go => exact ⟨_, _, sm.sql (.of h1), List.getElem?_eq_getElem (by omega)⟩
  case stop => exact ⟨_, sm.sql (.of h1), by omega⟩
  case step =>
    obtain ⟨v1, v2, rfl⟩ := hσ
    obtain ⟨rfl, hx⟩ := hx
    obtain ⟨pb, hpb, hpa⟩ := h2.get' (hx _ (sm.sql (.of h1)))
    obtain ⟨t, u, us, rfl, g1, g2, g3, g4⟩ := hpa.same sm
    have ul := g3.1
    refine ⟨t, _, rfl, .of g1, rfl, _, _, rfl, _, _, rfl, rfl, ?_⟩
    refine ⟨_, rfl, u, rfl, ⟨_, .of g2⟩, comp_run (pb.1.map V.str) (small1000 (by rw [List.length_map]; omega)) (fun σ => ∃ v, σ = [v]) ⟨_, rfl⟩ (fun j H5 hj sm5 => ?go2) (fun H5 sm5 => ?stop2) (fun j σ H5 x H6 y hy hσ sm5 hx C2 hC2 => ?step2) (fun D3 H5 nD3 sm5 hD3 => ?fin2)⟩
    case go2 => exact ⟨_, _, sm5.sqt (.of g2), List.getElem?_eq_getElem (by rw [List.length_map] at hj; omega)⟩
    case stop2 => exact ⟨_, sm5.sqt (.of g2), by rw [List.length_map]; omega⟩
    case step2 =>
      obtain ⟨v, rfl⟩ := hσ
      obtain ⟨rfl, hx⟩ := hx
      obtain ⟨s, hs, hpc⟩ := g3.get' (hx _ (sm5.sqt (.of g2)))
      rw [List.getElem?_map, hs] at hy
      cases hy
      obtain ⟨a, dxa, rfl, hk⟩ := hpc.same sm5
      rcases hk with hk | hk | ⟨w2, ew, hwl, hk⟩
      · exact ⟨_, rfl, a, dxa, _, rfl, rfl, .inl ⟨hk, rfl, a, dxa, s, rfl, hk, hC2 _ _ ⟨_, rfl⟩ (Same.refl _)⟩⟩
      · exact ⟨_, rfl, a, dxa, _, rfl, rfl, .inr (.inl ⟨hk, rfl, a, dxa, s, rfl, hk, hC2 _ _ ⟨_, rfl⟩ (Same.refl _)⟩)⟩
      · subst ew
        exact ⟨_, rfl, a, dxa, _, rfl, rfl, .inr (.inr ⟨hk, rfl, a, dxa, w2, rfl, hk, by rw [Str.length_append] at hwl; omega, hC2 _ _ ⟨_, rfl⟩ (Same.refl _)⟩)⟩
    case fin2 =>
      refine ⟨D3, _, rfl, .inl ⟨.of hD3, fun u2 nu2 => ⟨_, rfl, few rfl, fun t2 nt2 => hC _ _ _ ⟨_, _, rfl⟩ (sm5.trans ((same_upd nu2).trans (same_upd nt2))) fun b2 e2 => ?_⟩⟩⟩
      rw [hpb] at e2
      cases e2
      exact ⟨t2, u2, rfl, upd_same, (same_upd nt2) _ _ upd_same⟩
  case fin => exact q _ D2 (s1.trans sm) (ne_none s1 nD2) ⟨ys, hD2', hl, fun i b v e1 e2 => hP i v e2 b e1⟩
theorem ok_Tongue_text (T : Tx K w mg)  : O_Tongue_text P base T := by
  refine Fun.okX (k := 0) T.d_Tongue_text.F sc_Tongue_text (fun vs H Q E h => h.1) (fun cdv A outer s H vs Q E hr h => ?_)
  obtain ⟨-, h⟩ := h
  obtain ⟨v, rows, z, rfl, ⟨b, dx, d, rfl, hb, hd⟩, q⟩ := h
  refine ⟨_, (pss_one (ps_ret (pe_fld (pv 0) rfl))), ?_⟩
  exact ⟨_, rfl, b, T.c_Tongue, dx, _, _, rfl, hb, T.cl_Tongue, T.na_Tongue_source, rfl, q⟩
theorem ok__law_cell_at (T : Tx K w mg)  : O__law_cell_at P base T := by
  refine Fun.okX (k := 0) T.d__law_cell_at.F sc__law_cell_at (fun vs H Q E h => h.1) (fun cdv A outer s H vs Q E hr h => ?_)
  obtain ⟨-, h⟩ := h
  obtain ⟨l, ns, k, rfl, hS, hk, q⟩ := h
  refine ⟨_, (pss_cons (ps_if (pt_cmpR op_lt (pv 1) (pe_callB call_len_seq (by rfl) T.n_len bt_len (pa_cons (pv 0) pa_nil)) (nomark _)) (pss_one (ps_ret (pe_ix ix_list (pv 0) (pv 1) (fun _ _ => rfl)))) pss_nil)
      (pss_one (ps_ret pe_int))), ?_⟩
  refine ⟨_, rfl, _, rfl, l, _, rfl, .inl hS, _, _, rfl, rfl, _, rfl, ?_⟩
  by_cases kl : k < ((ns.map V.int).length : Int)
  · rw [decide_eq_true kl]
    obtain ⟨j, rfl⟩ : ∃ j : Nat, k = (j : Int) := ⟨k.toNat, by omega⟩
    refine iteT ⟨_, rfl, _, rfl, l, _, _, _, rfl, rfl, hS, atI_nat (item_int (by rw [List.length_map] at kl; omega)), q _⟩
  · rw [decide_eq_false kl]
    exact iteF (q _)
theorem ok__law_words (T : Tx K w mg)  : O__law_words P base T := by
  refine Fun.okX (k := 0) T.d__law_words.F sc__law_words (fun vs H Q E h => h.1) (fun cdv A outer s H vs Q E hr h => ?_)
  obtain ⟨-, h⟩ := h
  obtain ⟨c, rfl, q⟩ := h
  refine ⟨_, (pss_cons (ps_set (i := 1) sc__law_words.nd rfl (Or.inl rfl) pe_str)
      (pss_cons (ps_set (i := 2) sc__law_words.nd rfl (Or.inl rfl) (pe_op op_add pe_int (pe_op op_modN (pv 0) pe_int)))
      (pss_cons (ps_set (i := 3) sc__law_words.nd rfl (Or.inl rfl) (pe_op op_modN (pe_op op_fdivB (pv 0) pe_int) (pv 2)))
      (pss_cons (ps_setC (i := 4) rfl  sc__law_words.nd rfl (Or.inl rfl) (comp_scF (N := ["_law_k", "_law_cell"]) ["_law_cell"] [none, some 0] rfl (by decide +kernel) (by decide +kernel) (by rfl) (by rfl) (by rfl) (by rfl) (by rfl)) (pi_range1 (by rfl) T.n_range (pa_cons (pv 2) pa_nil)) (fun _ _ _ => (pg_name (i := 0) nd_5 rfl (Or.inl rfl))) (fun _ _ _ => pts_nil) (fun _ _ _ => (pe_op op_modN (pe_op op_add (pe_op op_fdivB (pe_op op_fdivB (pv 1) pe_int) (pe_op op_add (pv 0) pe_int)) (pe_op op_mul pe_int (pv 0))) pe_int)))
      (pss_cons (ps_set (i := 5) sc__law_words.nd rfl (Or.inl rfl) (pe_lst pa_nil))
      (pss_cons (ps_for PassesOwn.leaving rfl (pi_range1 (by rfl) T.n_range (pa_cons pe_int pa_nil)) (pg_name (i := 6) sc__law_words.nd rfl (Or.inl rfl))
        (pss_cons (ps_set (i := 7) sc__law_words.nd rfl (Or.inl rfl) pe_str)
      (pss_cons (ps_for PassesOwn.leaving rfl (pi_range1 (by rfl) T.n_range (pa_cons (pv 2) pa_nil)) (pg_name (i := 8) sc__law_words.nd rfl (Or.inl rfl))
        (pss_one (ps_set (i := 7) sc__law_words.nd rfl (Or.inl rfl) (pe_op op_add_str (pv 7) (pe_ix ix_str (pv 1) (pe_op op_modN (pe_op op_add (pe_ix ix_list (pv 4) (pv 8) (fun _ _ => rfl)) (pe_op op_mulB (pv 6) (pe_callTy call_int1 (by rfl) T.n_int bt_int (pa_cons (pe_cmpR op_eq (pv 8) (pv 3) (nomark _)) pa_nil)))) pe_int) (fun _ _ => rfl))))))
      (pss_one (ps_expr (pe_bm PySem.F.plainAttrs_list PySem.F.slot_list_append PySem.F.type_list_append mt_append (pv 5) (pa_cons (pe_op op_add_str (pv 7) (pe_slice sl_str pe_str po_none (po_some (pe_op op_modN (pv 6) pe_int)))) pa_nil)))))))
      (pss_one (ps_ret (pv 5))))))))), ?_⟩
  have zd : ∀ n : Int, 1 ≤ n → n ≤ 100 → n ≠ 0 ∧ n.natAbs < 2 ^ 1000 := fun n h1 h2 => ⟨by omega, Nat.lt_of_le_of_lt (show n.natAbs ≤ 100 by omega) (by decide +kernel)⟩
  have s0 := Int.fmod_nonneg_of_pos c (show (0 : Int) < 6 by decide)
  have s1 := Int.fmod_lt_of_pos c (show (0 : Int) < 6 by decide)
  refine ⟨_, rfl, _, _, rfl, rfl, (zd 6 (by decide) (by decide)).1, _, _, rfl, rfl, ?_⟩
  try dsimp only
  generalize hsz : 1 + c.fmod 6 = size at *
  have a0 := Int.fmod_nonneg_of_pos (c.fdiv 6) (show 0 < size by omega)
  have a1 := Int.fmod_lt_of_pos (c.fdiv 6) (show 0 < size by omega)
  refine ⟨_, rfl, _, _, rfl, rfl, zd 6 (by decide) (by decide), _, rfl, _, _, rfl, rfl, (show size ≠ 0 by omega), ?_⟩
  try dsimp only
  generalize hat : (c.fdiv 6).fmod size = at' at *
  obtain ⟨n, hn⟩ : ∃ n : Nat, size = (n : Int) := ⟨size.toNat, by omega⟩
  let base : List Int := (List.range n).map fun i => (((c.fdiv 36).fdiv ((i : Nat) + 1 : Int)) + 5 * ((i : Nat) : Int)).fmod 26
  have bl : base.length = n := by simp [base]
  refine ⟨_, rfl, size, rfl, by omega, by omega, comp_run (base.map V.int) (small1000 (by rw [List.length_map]; omega)) (fun σ => ∃ v, σ = [v, some (.int c)]) ⟨_, rfl⟩ (fun i H3 hi sm => ?go) (fun H3 sm => ?stop) (fun i σ H3 x H4 y hy hσ sm hx C hC => ?step) (fun B H3 nB sm hB => ?fin)⟩
  case go =>
    show i < size.toNat
    rw [List.length_map] at hi
    omega
  case stop =>
    show size.toNat ≤ (base.map V.int).length
    rw [List.length_map]
    omega
  case step =>
    obtain ⟨v, rfl⟩ := hσ
    obtain ⟨rfl, rfl⟩ := hx
    obtain ⟨u, rfl, hu⟩ := ints_at hy
    have il : i < n := by rw [← bl]; exact (List.getElem?_eq_some_iff.mp hu).1
    have eu : u = (((c.fdiv 36).fdiv ((i : Nat) + 1 : Int)) + 5 * ((i : Nat) : Int)).fmod 26 := by
      have : base[i]? = some ((((c.fdiv 36).fdiv ((i : Nat) + 1 : Int)) + 5 * ((i : Nat) : Int)).fmod 26) := by
        show ((List.range n).map _)[i]? = _
        rw [List.getElem?_map, List.getElem?_range il]
        rfl
      rw [this] at hu
      exact (Option.some.inj hu).symm
    have z0 : (0 : Int) + (i : Int) = i := Int.zero_add _
    refine ⟨_, rfl, _, _, rfl, rfl, zd 36 (by decide) (by decide), _, rfl, _, _, rfl, rfl, _, _, rfl, rfl, zd _ (by show (1 : Int) ≤ 0 + (i : Int) + 1; omega) (by show (0 : Int) + (i : Int) + 1 ≤ 100; omega), _, rfl, _, _, rfl, rfl, .inl ⟨by decide, by decide⟩, _, _, rfl, rfl, _, _, rfl, rfl, (zd 26 (by decide) (by decide)).1, ?_⟩
    rw [z0]
    show C (.int ((((c.fdiv 36).fdiv ((i : Int) + 1)) + 5 * (i : Int)).fmod 26)) _ _
    rw [← eu]
    exact hC _ _ ⟨_, rfl⟩ (Same.refl _)
  case fin =>
    refine ⟨few rfl, fun D1 nD1' => ?_⟩
    have nD1 := ne_none sm nD1'
    have e3 := same_upd (o := .lst []) nD1'
    have nDB : D1 ≠ B := (ne_of_none hB nD1').symm
    refine ⟨42, rfl, by decide, by decide, for_range (n := 42) (fun i σ H5 => ∃ ws v6 v7 v8, σ = [some (.int c), some (.str alpha), some (.int size), some (.int at'), some (.ref B), some (.ref D1), v6, v7, v8] ∧ H5 D1 = some (.lst (ws.map V.str)) ∧ (WInv base at' n i ws ∧ ws.length = i) ∧ H5 B = some (.lst (base.map V.int)) ∧ Same H H5) ?start ?turn ?done⟩
    case start => exact ⟨[], none, none, none, rfl, upd_same, ⟨WInv.start _ _ _ (.inl rfl), rfl⟩, e3 _ _ hB, sm.trans e3⟩
    case done =>
      rintro σ H5 ⟨ws, v6, v7, v8, rfl, h5, wi, hB5, s5⟩
      exact ⟨_, rfl, q _ D1 ws s5 nD1 h5 (wi.1.ok (by omega) (by omega)) (by rw [wi.2]; exact Nat.le_refl _)⟩
    case turn =>
      rintro i σ H5 hi ⟨ws, v6, v7, v8, rfl, h5, wi, hB5, s5⟩
      rw [show (0 : Int) + (i : Int) = i from Int.zero_add _]
      refine ⟨_, rfl, size, rfl, by omega, by omega, for_range (fun j σ H6 => ∃ v8, σ = [some (.int c), some (.str alpha), some (.int size), some (.int at'), some (.ref B), some (.ref D1), some (.int i), some (.str ⟨(preL base at' i j).toArray⟩), v8] ∧ H5 = H6) ?start2 ?turn2 ?done2⟩
      case start2 => exact ⟨_, rfl, rfl⟩
      case turn2 =>
        rintro j σ H6 hj ⟨v8, rfl, rfl⟩
        rw [show (0 : Int) + (j : Int) = j from Int.zero_add _]
        have jl : j < base.length := by rw [bl]; have : j < size.toNat := hj; omega
        have jb : atI (base.map V.int) (j : Int) = some (.int (base.getD j 0)) := atI_nat (item_int jl)
        refine ⟨_, rfl, _, rfl, _, rfl, _, rfl, B, _, _, _, rfl, rfl, .of hB5, jb, _, rfl, _, rfl, _, rfl, rfl, .inr ⟨_, rfl, _, _, rfl, rfl, ?big, _, _, rfl, rfl, _, _, rfl, rfl, (zd 26 (by decide) (by decide)).1, _, _, _, rfl, rfl, by decide, at_i (Int.fmod_nonneg_of_pos _ (by decide)) (lt_at _), _, _, rfl, rfl, ?sz, ?_⟩⟩
        case big =>
          refine ⟨Nat.lt_of_le_of_lt (show ((i : Nat) : Int).natAbs ≤ 100 by omega) (by decide +kernel), ?_⟩
          refine Nat.lt_of_le_of_lt (m := 1) ?_ (by decide +kernel)
          split <;> decide
        case sz =>
          have := line_big
          show (preL base at' i j).toArray.size + 1 ≤ _
          rw [List.size_toArray, preL_len]
          omega
        refine ⟨some (.int j), ?_, rfl⟩
        have ed : (if decide (V.int (j : Int) = V.int at') = true then (1 : Int) else 0) = if (j : Int) = at' then 1 else 0 := by
          by_cases e : (j : Int) = at'
          · simp [e]
          · simp [e]
        have ew : ((⟨(preL base at' i j).toArray⟩ : Str) ++ (⟨#[lt (base.getD j 0 + (i : Int) * (if decide (V.int (j : Int) = V.int at') = true then 1 else 0))]⟩ : Str)) = ⟨(preL base at' i (j + 1)).toArray⟩ := by
          refine str_eq ?_
          rw [sg_app, preL_succ, ed]
          try simp
        rw [ew]
        rfl
      case done2 =>
        rintro σ H6 ⟨v8, rfl, rfl⟩
        have en : size.toNat = n := by omega
        rw [en]
        have k3 : ((i : Int).fmod 3) = ((i % 3 : Nat) : Int) := by rw [Int.fmod_eq_emod_of_nonneg _ (by decide)]; omega
        have pl := preL_len base at' (i : Int) n
        have esl : Txt.slice ("ab" : Str) none (some ((i : Int).fmod 3)) = ⟨(suf i).toArray⟩ := by
          rw [k3]
          have h3 : i % 3 = 0 ∨ i % 3 = 1 ∨ i % 3 = 2 := by omega
          unfold suf
          rcases h3 with h | h | h <;> rw [h] <;> decide +kernel
        have ew : ((⟨(preL base at' i n).toArray⟩ : Str) ++ (⟨(suf i).toArray⟩ : Str)) = ⟨(wordL base at' n i).toArray⟩ := by
          refine str_eq ?_
          rw [sg_app]
          unfold wordL
          simp
        have sl : (⟨(suf i).toArray⟩ : Str).length ≤ 2 := by
          show (suf i).toArray.size ≤ 2
          rw [List.size_toArray, suf_len]
          omega
        obtain ⟨wi, wl⟩ := wi
        have hm : (⟨(wordL base at' n i).toArray⟩ : Str) ∉ ws := fun hm => by
          have l1 : ((List.range (i + 1)).map fun j => (⟨(wordL base at' n j).toArray⟩ : Str)).length ≤ ws.length := by
            refine nodup_le ?_ fun x hx => ?_
            · rw [List.Nodup, List.pairwise_map]
              refine List.Pairwise.imp_of_mem ?_ (List.nodup_range (n := i + 1))
              intro j1 j2 h1 h2 ne e
              have e2 := congrArg (fun s : Str => s.cps.toList) e
              have e3 : wordL base at' n j1 = wordL base at' n j2 := by simpa using e2
              have := List.mem_range.mp h1
              have := List.mem_range.mp h2
              exact ne (word_inj (by omega) (by omega) (by omega) (by omega) e3)
            · obtain ⟨j, hj, rfl⟩ := List.mem_map.mp hx
              have := List.mem_range.mp hj
              by_cases ej : j = i
              · subst ej; exact hm
              · exact wi.has j (by omega)
          rw [List.length_map, List.length_range] at l1
          omega
        refine ⟨_, rfl, .inl ⟨rfl, _, .of h5⟩, _, rfl, _, rfl, _, _, rfl, rfl, (zd 3 (by decide) (by decide)).1, _, rfl, _, rfl, few rfl, _, _, rfl, rfl, ?sz, D1, _, _, rfl, rfl, h5, small1000 (by rw [List.length_map]; omega), ?_⟩
        case sz =>
          have := line_big
          rw [esl]
          show (preL base at' i n).toArray.size + (⟨(suf i).toArray⟩ : Str).length ≤ _
          rw [List.size_toArray]
          omega
        rw [esl, ew]
        refine ⟨ws ++ [⟨(wordL base at' n i).toArray⟩], _, _, _, rfl, ?_, ⟨wi.step (by omega) (by omega) hm, by simp [wl]⟩, ?_, same_keep s5 nD1⟩
        · rw [upd_same, List.map_append]
          rfl
        · rw [upd_ne nDB.symm]
          exact hB5
theorem ok__law_piece (T : Tx K w mg)  : O__law_piece P base T := by
  refine Fun.okX (k := 0) T.d__law_piece.F sc__law_piece (fun vs H Q E h => h.1) (fun cdv A outer s H vs Q E hr h => ?_)
  obtain ⟨-, h⟩ := h
  obtain ⟨a, rs, c, rfl, hr, hl, hn, q⟩ := h
  refine ⟨_, (pss_cons (ps_if (PW.pt (pw_and (pt_cmpR op_gt (pe_op op_modN (pv 1) pe_int) pe_int (nomark _)) (pw_and1 (pt_cmpR op_gt (pe_callB call_len_seq (by rfl) T.n_len bt_len (pa_cons (pv 0) pa_nil)) pe_int (nomark _))))) (pss_one (ps_ret (pe_op op_add_str pe_str (pe_ix ix_tup (pe_ix ix_list (pv 0) (pe_op op_modN (pe_op op_fdivB (pv 1) pe_int) (pe_op op_sub (pe_callB call_len_seq (by rfl) T.n_len bt_len (pa_cons (pv 0) pa_nil)) pe_int)) (fun _ _ => rfl)) pe_int (fun _ _ => rfl))))) pss_nil)
      (pss_one (ps_ret (pe_ix ix_list (pe_lst (pa_cons pe_str (pa_cons pe_str (pa_cons pe_str (pa_cons pe_str (pa_cons pe_str (pa_cons pe_str (pa_cons pe_str (pa_cons pe_str (pa_cons pe_str pa_nil)))))))))) (pe_op op_modN (pe_op op_modN (pv 1) pe_int) pe_int) (fun _ _ => rfl))))), ?_⟩
  have zd : ∀ n : Int, 1 ≤ n → n ≤ 100 → n ≠ 0 ∧ n.natAbs < 2 ^ 1000 := fun n h1 h2 => ⟨by omega, Nat.lt_of_le_of_lt (show n.natAbs ≤ 100 by omega) (by decide +kernel)⟩
  have hlen : ((rs.map fun x => V.ref x.t).length : Nat) = rs.length := by rw [List.length_map]
  try dsimp only [gName]
  refine seq_by (fun σ H1 => σ = [some (.ref a), some (.int c)] ∧ H1 = H) (fun nx rest => ?_) (fun σ H1 hJ => ?_)
  · refine ⟨_, rfl, _, _, rfl, rfl, (zd 12 (by decide) (by decide)).1, _, _, rfl, rfl, _, rfl, iteB (fun h1 => ?_) (fun h1 => iteF (rest _ _ ⟨rfl, rfl⟩))⟩
    refine ⟨_, rfl, a, _, rfl, .inl (.of hr.lst), _, _, rfl, rfl, _, rfl, iteB (fun h2 => ?_) (fun h2 => rest _ _ ⟨rfl, rfl⟩)⟩
    have h2' : (1 : Int) < (rs.length : Int) := by
      have := of_decide_eq_true h2
      rw [hlen] at this
      exact this
    have ne : ((rs.length : Int) - 1) ≠ 0 := by omega
    have m0 := Int.fmod_nonneg_of_pos (c.fdiv 12) (show (0 : Int) < (rs.length : Int) - 1 by omega)
    have m1 := Int.fmod_lt_of_pos (c.fdiv 12) (show (0 : Int) < (rs.length : Int) - 1 by omega)
    obtain ⟨x, hx⟩ : ∃ x, rs[((c.fdiv 12).fmod ((rs.length : Int) - 1)).toNat]? = some x := ⟨_, List.getElem?_eq_getElem (by omega)⟩
    have hxm := List.mem_of_getElem? hx
    have hat : atI (rs.map fun x => V.ref x.t) ((c.fdiv 12).fmod ((rs.length : Int) - 1)) = some (.ref x.t) := at_i m0 (by rw [List.getElem?_map, hx]; rfl)
    refine ⟨_, rfl, _, rfl, _, _, rfl, rfl, zd 12 (by decide) (by decide), _, rfl, a, _, rfl, .inl (.of hr.lst), _, _, rfl, rfl, _, _, rfl, rfl, by rw [hlen]; exact ne, a, _, _, _, rfl, rfl, .of hr.lst, by rw [hlen]; exact hat, x.t, _, _, _, rfl, rfl, .of (hr.tup hxm), atI_nat (j := 0) rfl, _, _, rfl, rfl, ?sz, q _ _ (Same.refl H) (.inr ⟨x.w, ?mm, rfl⟩)⟩
    case sz =>
      have := (hn x hxm).hi
      have := line_big
      show 1 + x.w.length ≤ _
      omega
    case mm =>
      refine List.mem_map.mpr ⟨x, ?_, rfl⟩
      refine List.mem_iff_getElem?.mpr ⟨((c.fdiv 12).fmod ((rs.length : Int) - 1)).toNat, ?_⟩
      rw [List.getElem?_dropLast, if_pos (by omega)]
      exact hx
  obtain ⟨rfl, rfl⟩ := hJ
  refine ⟨few rfl, fun L nL => ⟨_, rfl, _, _, rfl, rfl, (zd 12 (by decide) (by decide)).1, _, _, rfl, rfl, (zd 9 (by decide) (by decide)).1, L, _, _, _, rfl, rfl, .of upd_same, stepOf_at _, q _ _ (same_upd nL) (.inl (stepOf_stp _))⟩⟩
theorem ok__law_rows (T : Tx K w mg) (G__law_piece : O__law_piece P base T) : O__law_rows P base T := by
  refine Fun.okX (k := 1) T.d__law_rows.F sc__law_rows (fun vs H Q E h => h.1) (fun cdv A outer s H vs Q E hr h => ?_)
  obtain ⟨-, h⟩ := h
  obtain ⟨lc, cs, lw, ws, rfl, hS, cne, cl, hw, wo, q⟩ := h
  refine ⟨_, (pss_cons (ps_set (i := 2) sc__law_rows.nd rfl (Or.inl rfl) (pe_lst pa_nil))
      (pss_cons (ps_for PassesOwn.leaving rfl (pi_list (pv 0)) (pg_name (i := 3) sc__law_rows.nd rfl (Or.inl rfl))
        (pss_cons (ps_set (i := 4) sc__law_rows.nd rfl (Or.inl rfl) (pe_op op_modN (pv 3) pe_int))
      (pss_cons (ps_if (PW.pt (pw_or (pt_cmpR (op_eqNil hr.units) (pv 2) (pe_lst pa_nil) (nomark _)) (pw_or1 (PW.pt (pw_and (pt_cmpR op_eq (pv 4) pe_int (nomark _)) (pw_and1 (pt_cmpR op_lt (pe_callB call_len_seq (by rfl) T.n_len bt_len (pa_cons (pv 2) pa_nil)) pe_int (nomark _)))))))) (pss_one (ps_expr (pe_bm PySem.F.plainAttrs_list PySem.F.slot_list_append PySem.F.type_list_append mt_append (pv 2) (pa_cons (pe_tup (pa_cons (pe_ix ix_list (pv 1) (pe_callB call_len_seq (by rfl) T.n_len bt_len (pa_cons (pv 2) pa_nil)) (fun _ _ => rfl)) (pa_cons (pe_lst pa_nil) pa_nil))) pa_nil)))) pss_nil)
      (pss_cons (ps_set (i := 5) sc__law_rows.nd rfl (Or.inl rfl) (pe_ix ix_tup (pe_ix ix_list (pv 2) (pe_un un_neg pe_int) (fun _ _ => rfl)) pe_int (fun _ _ => rfl)))
      (pss_cons (ps_if (PW.pt (pw_or (pt_cmpR (op_eqNil hr.units) (pv 5) (pe_lst pa_nil) (nomark _)) (pw_or1 (PW.pt (pw_and (pt_cmpR op_lt (pe_callB call_len_seq (by rfl) T.n_len bt_len (pa_cons (pv 5) pa_nil)) pe_int (nomark _)) (pw_and1 (PW.pt (pw_or (pt_cmpR op_eq (pv 4) pe_int (nomark _)) (pw_or1 (pt_cmpR op_ne (pe_ix ix_list (pe_ix ix_list (pv 5) (pe_un un_neg pe_int) (fun _ _ => rfl)) pe_int (fun _ _ => rfl)) pe_str (nomark _))))))))))) (pss_one (ps_expr (pe_bm PySem.F.plainAttrs_list PySem.F.slot_list_append PySem.F.type_list_append mt_append (pv 5) (pa_cons (pe_lst (pa_cons (pe_lst pa_nil) (pa_cons pe_str pa_nil))) pa_nil)))) pss_nil)
      (pss_one (ps_if (pt_cmpR op_eq (pe_ix ix_list (pe_ix ix_list (pv 5) (pe_un un_neg pe_int) (fun _ _ => rfl)) pe_int (fun _ _ => rfl)) pe_str (nomark _)) (pss_cons (ps_if (pt_cmpR op_lt (pe_callB call_len_seq (by rfl) T.n_len bt_len (pa_cons (pe_ix ix_list (pe_ix ix_list (pv 5) (pe_un un_neg pe_int) (fun _ _ => rfl)) pe_int (fun _ _ => rfl)) pa_nil)) pe_int (nomark _)) (pss_one (ps_expr (pe_bm PySem.F.plainAttrs_list PySem.F.slot_list_append PySem.F.type_list_append mt_append (pe_ix ix_list (pe_ix ix_list (pv 5) (pe_un un_neg pe_int) (fun _ _ => rfl)) pe_int (fun _ _ => rfl)) (pa_cons (pe_callX G__law_piece (hr.mono (by decide)) (by rfl) T.d__law_piece.m T.d__law_piece.F.kp T.d__law_piece.b .nil pass_none (pa_cons (pv 2) (pa_cons (pe_op op_fdivB (pv 3) pe_int) pa_nil))) pa_nil)))) pss_nil)
      (pss_one (ps_if (pt_cmpR op_eq (pv 4) pe_int (nomark _)) (pss_one (ps_asg (pe_ix ix_list (pe_lst (pa_cons pe_str (pa_cons pe_str (pa_cons pe_str pa_nil)))) (pe_op op_modN (pe_op op_fdivB (pv 3) pe_int) pe_int) (fun _ _ => rfl)) (pg_sub (pe_ix ix_list (pv 5) (pe_un un_neg pe_int) (fun _ _ => rfl)) pe_int set_list))) pss_nil))) pss_nil)))))))
      (pss_one (ps_ret (pv 2))))), ?_⟩
  have zd : ∀ n : Int, 1 ≤ n → n ≤ 100 → n ≠ 0 ∧ n.natAbs < 2 ^ 1000 := fun n h1 h2 => ⟨by omega, Nat.lt_of_le_of_lt (show n.natAbs ≤ 100 by omega) (by decide +kernel)⟩
  refine ⟨few rfl, fun a na => ?_⟩
  refine ⟨_, rfl, lc, rfl, ⟨_, (same_upd na).sql hS⟩, for_list (xs := cs.map V.int) (fun i σ H2 => ∃ v3 v4 v5 rs, σ = [some (.ref lc), some (.ref lw), some (.ref a), v3, v4, v5] ∧ Own H H2 (cells a rs) ∧ ((i = 0 ∧ rs = []) ∨ GoodL ws rs)) ?start ?sq ?turn ?done⟩
  case start => exact ⟨_, _, _, [], rfl, Own.start na, .inl ⟨rfl, rfl⟩⟩
  case sq =>
    rintro i σ H2 _ ⟨_, _, _, rs, _, ow, _⟩
    exact ow.2.2.sql hS
  case done =>
    rintro σ H2 ⟨v3, v4, v5, rs, rfl, ow, g⟩
    rcases g with ⟨e, _⟩ | g
    · rw [List.length_map] at e
      exact absurd (List.eq_nil_of_length_eq_zero e) cne
    · exact ⟨_, rfl, q _ a rs ow g⟩
  case turn =>
    rintro i x σ H2 hx ⟨v3, v4, v5, rs, rfl, ow, g⟩
    obtain ⟨c, rfl, hc⟩ := ints_at hx
    refine ⟨_, rfl, _, _, rfl, rfl, (zd 8 (by decide) (by decide)).1, ?_⟩
    try dsimp only [gName]
    have hlen : ((rs.map fun x => V.ref x.t).length : Nat) = rs.length := by rw [List.length_map]
    -- the row
    refine seq_by (fun σ H3 => ∃ (ini : List LR) (t l : Addr) (w : Str) (bs : List LB), σ = [some (.ref lc), some (.ref lw), some (.ref a), some (.int c), some (.int (c.fmod 8)), v5] ∧ Own H H3 (cells a (ini ++ [⟨t, l, w, bs⟩])) ∧ Init ws ini w ∧ bs.length ≤ 8 ∧ ∀ y ∈ bs, GoodB (ws.take ini.length) y.b) (fun nx rest => ?_) (fun σ H3 hJ => ?_)
    · have stay : ∀ H3, GoodL ws rs → Own H H3 (cells a rs) → nx [some (.ref lc), some (.ref lw), some (.ref a), some (.int c), some (.int (c.fmod 8)), v5] H3 := fun H3 g ow3 => by
        obtain ⟨ini, ⟨t, l, w, bs⟩, rfl⟩ : ∃ ini x, rs = ini ++ [x] := ⟨rs.dropLast, rs.getLast g.ne, (List.dropLast_concat_getLast _).symm⟩
        obtain ⟨g1, g2⟩ := Init.of g
        exact rest _ _ ⟨ini, t, l, w, bs, rfl, ow3, g1, g2.hi, g2.ok⟩
      refine ⟨_, rfl, few rfl, fun e ne => ?_⟩
      have ow1 := ow.same (same_upd (o := .lst []) ne)
      have ha1 := ow1.rat.lst
      refine ⟨a, e, _, rfl, rfl, ha1, upd_same, _, rfl, ?_⟩
      have hw1 := ow1.2.2 _ _ hw
      have app : ∀ H3 w, Own H H3 (cells a rs) → Init ws rs w → ∀ l, H3 l = none → ∀ t, upd H3 l (.lst []) t = none → nx [some (.ref lc), some (.ref lw), some (.ref a), some (.int c), some (.int (c.fmod 8)), v5] (upd (upd (upd H3 l (.lst [])) t (.tup [.str w, .ref l])) a (.lst ((rs.map fun x => .ref x.t) ++ [.ref t]))) := fun H3 w ow3 iw l nl t nt =>
        rest _ _ ⟨rs, t, l, w, [], rfl, own_row ow3 nl nt, iw, by decide, fun y hy => by cases hy⟩
      rcases g with ⟨_, e0⟩ | g
      · obtain ⟨w, iw⟩ := Init.zero wo
        rw [← e0] at iw
        have hwat : atI (ws.map V.str) ((rs.map fun x => V.ref x.t).length : Nat) = some (.str w) := atI_nat (by rw [hlen, List.getElem?_map, iw.w]; rfl)
        refine iteTb (by rw [e0]; rfl) ?_
        refine ⟨_, rfl, .inl ⟨rfl, _, .of ha1⟩, _, rfl, _, rfl, a, _, rfl, .inl (.of ha1), lw, _, _, _, rfl, rfl, .of hw1, hwat, few rfl, fun l nl => ⟨few rfl, fun t nt => ⟨a, _, _, rfl, rfl, (same_upd nt) _ _ ((same_upd nl) _ _ ha1), small1000 (by rw [hlen, e0]; decide), app _ w ow1 iw l nl t nt⟩⟩⟩
      · refine iteFb (decide_eq_false (by simp [g.ne])) ?_
        refine ⟨_, rfl, rfl, _, rfl, iteB (fun h7 => ?_) (fun h7 => iteF (stay _ g ow1))⟩
        refine ⟨_, rfl, a, _, rfl, .inl (.of ha1), _, _, rfl, rfl, _, rfl, iteB (fun h40 => ?_) (fun h40 => stay _ g ow1)⟩
        have h40' : rs.length < 40 := by
          have := of_decide_eq_true h40
          rw [hlen] at this
          omega
        obtain ⟨w, iw⟩ := Init.next g wo h40'
        have hwat : atI (ws.map V.str) ((rs.map fun x => V.ref x.t).length : Nat) = some (.str w) := atI_nat (by rw [hlen, List.getElem?_map, iw.w]; rfl)
        refine ⟨_, rfl, .inl ⟨rfl, _, .of ha1⟩, _, rfl, _, rfl, a, _, rfl, .inl (.of ha1), lw, _, _, _, rfl, rfl, .of hw1, hwat, few rfl, fun l nl => ⟨few rfl, fun t nt => ⟨a, _, _, rfl, rfl, (same_upd nt) _ _ ((same_upd nl) _ _ ha1), small1000 (by rw [hlen]; omega), app _ w ow1 iw l nl t nt⟩⟩⟩
    obtain ⟨ini, t, l, w, bs, rfl, ow3, iw, b8, bok⟩ := hJ
    have ha3 := ow3.rat.lst
    rw [List.map_append] at ha3
    have ht3 := ow3.rat.tup (x := ⟨t, l, w, bs⟩) (by simp)
    have hl3 := ow3.rat.brs (x := ⟨t, l, w, bs⟩) (by simp)
    refine ⟨_, rfl, _, rfl, a, _, _, _, rfl, rfl, .of ha3, atI_last _ _, t, _, _, _, rfl, rfl, .of ht3, atI_nat (j := 1) rfl, ?_⟩
    -- the branch
    try dsimp only [gName]
    refine seq_by (fun σ H4 => ∃ (bi : List LB) (r p : Addr) (b : Bran), σ = [some (.ref lc), some (.ref lw), some (.ref a), some (.int c), some (.int (c.fmod 8)), some (.ref l)] ∧ Own H H4 (cells a (ini ++ [⟨t, l, w, bi ++ [⟨r, p, b⟩]⟩])) ∧ bi.length < 8 ∧ (∀ y ∈ bi, GoodB (ws.take ini.length) y.b) ∧ (b = (([] : List Str), ("" : Str)) ∨ GoodB (ws.take ini.length) b)) (fun nx rest => ?_) (fun σ H4 hJ => ?_)
    · have stay : ∀ H4, bs ≠ [] → Own H H4 (cells a (ini ++ [⟨t, l, w, bs⟩])) → nx [some (.ref lc), some (.ref lw), some (.ref a), some (.int c), some (.int (c.fmod 8)), some (.ref l)] H4 := fun H4 ne ow4 => by
        obtain ⟨bi, ⟨r, p, b⟩, rfl⟩ : ∃ bi x, bs = bi ++ [x] := ⟨bs.dropLast, bs.getLast ne, (List.dropLast_concat_getLast _).symm⟩
        rw [List.length_append, List.length_singleton] at b8
        exact rest _ _ ⟨bi, r, p, b, rfl, ow4, by omega, fun y hy => bok y (List.mem_append_left _ hy), .inr (bok ⟨r, p, b⟩ (by simp))⟩
      have app : ∀ H4, bs.length < 8 → Own H H4 (cells a (ini ++ [⟨t, l, w, bs⟩])) → ∀ p, H4 p = none → ∀ r, upd H4 p (.lst []) r = none → nx [some (.ref lc), some (.ref lw), some (.ref a), some (.int c), some (.int (c.fmod 8)), some (.ref l)] (upd (upd (upd H4 p (.lst [])) r (.lst [.ref p, .str ""])) l (.lst ((bs.map fun y => .ref y.r) ++ [.ref r]))) := fun H4 h8 ow4 p np r nr =>
        rest _ _ ⟨bs, r, p, ([], ""), rfl, own_branch (b := ([], "")) ow4 np nr, h8, bok, .inl rfl⟩
      have hbl : ((bs.map fun y => V.ref y.r).length : Nat) = bs.length := by rw [List.length_map]
      refine ⟨_, rfl, few rfl, fun e ne => ?_⟩
      have ow4 := ow3.same (same_upd (o := .lst []) ne)
      have hl4 := ow4.rat.brs (x := ⟨t, l, w, bs⟩) (by simp)
      refine ⟨l, e, _, rfl, rfl, hl4, upd_same, _, rfl, ?_⟩
      by_cases hb : bs = []
      · refine iteTb (decide_eq_true (by rw [hb]; rfl)) ?_
        refine ⟨_, rfl, .inl ⟨rfl, _, .of hl4⟩, few rfl, fun p np => ⟨few rfl, fun r nr => ⟨l, _, _, rfl, rfl, (same_upd nr) _ _ ((same_upd np) _ _ hl4), small1000 (by rw [hbl]; omega), app _ (by rw [hb]; decide) ow4 p np r nr⟩⟩⟩
      refine iteFb (decide_eq_false (by simp [hb])) ?_
      refine ⟨_, rfl, l, _, rfl, .inl (.of hl4), _, _, rfl, rfl, _, rfl, iteB (fun h8 => ?_) (fun h8 => iteF (stay _ hb ow4))⟩
      have h8' : bs.length < 8 := by
        have := of_decide_eq_true h8
        rw [hbl] at this
        omega
      refine ⟨_, rfl, rfl, _, rfl, iteB (fun h6 => ?_) (fun h6 => ?_)⟩
      · refine iteT ⟨_, rfl, .inl ⟨rfl, _, .of hl4⟩, few rfl, fun p np => ⟨few rfl, fun r nr => ⟨l, _, _, rfl, rfl, (same_upd nr) _ _ ((same_upd np) _ _ hl4), small1000 (by rw [hbl]; omega), app _ h8' ow4 p np r nr⟩⟩⟩
      · obtain ⟨bi, y, ebs⟩ : ∃ bi x, bs = bi ++ [x] := ⟨bs.dropLast, bs.getLast hb, (List.dropLast_concat_getLast _).symm⟩
        have hy4 := ow4.rat.br (x := ⟨t, l, w, bs⟩) (y := y) (by simp) (by rw [ebs]; simp)
        have hal : atI (bs.map fun y => V.ref y.r) (-1) = some (.ref y.r) := by rw [ebs, List.map_append]; exact atI_last _ _
        refine ⟨_, rfl, _, rfl, l, _, _, _, rfl, rfl, .of hl4, hal, y.r, _, _, _, rfl, rfl, .of hy4, atI_nat (j := 1) rfl, rfl, _, rfl, iteB (fun hm => ?_) (fun hm => stay _ hb ow4)⟩
        refine ⟨_, rfl, .inl ⟨rfl, _, .of hl4⟩, few rfl, fun p np => ⟨few rfl, fun r nr => ⟨l, _, _, rfl, rfl, (same_upd nr) _ _ ((same_upd np) _ _ hl4), small1000 (by rw [hbl]; omega), app _ h8' ow4 p np r nr⟩⟩⟩
    obtain ⟨bi, r, p, b, rfl, ow4, bi8, biok, hb⟩ := hJ
    have fin : ∀ H5 b', Own H H5 (cells a (ini ++ [⟨t, l, w, bi ++ [⟨r, p, b'⟩]⟩])) → GoodB (ws.take ini.length) b' → ∃ v3 v4 v5 rs, [some (V.ref lc), some (.ref lw), some (.ref a), some (.int c), some (.int (c.fmod 8)), some (.ref l)] = [some (.ref lc), some (.ref lw), some (.ref a), v3, v4, v5] ∧ Own H H5 (cells a rs) ∧ ((i + 1 = 0 ∧ rs = []) ∨ GoodL ws rs) := fun H5 b' ow5 gb => by
      refine ⟨_, _, _, _, rfl, ow5, .inr (Init.good (x := ⟨t, l, w, bi ++ [⟨r, p, b'⟩]⟩) iw ⟨by simp, by simp; omega, fun y hy => ?_⟩)⟩
      rcases List.mem_append.mp hy with z | z
      · exact biok y z
      · have : y = ⟨r, p, b'⟩ := by simpa using z
        subst this
        exact gb
    have hl4 := ow4.rat.brs (x := ⟨t, l, w, bi ++ [⟨r, p, b⟩]⟩) (by simp)
    rw [List.map_append] at hl4
    have hr4 := ow4.rat.br (x := ⟨t, l, w, bi ++ [⟨r, p, b⟩]⟩) (y := ⟨r, p, b⟩) (by simp) (by simp)
    have hp4 := ow4.rat.pcs (x := ⟨t, l, w, bi ++ [⟨r, p, b⟩]⟩) (y := ⟨r, p, b⟩) (by simp) (by simp)
    refine ⟨_, rfl, _, rfl, l, _, _, _, rfl, rfl, .of hl4, atI_last _ _, r, _, _, _, rfl, rfl, .of hr4, atI_nat (j := 1) rfl, rfl, _, rfl, iteB (fun hm => ?_) (fun hm => ?_)⟩
    · have hm' : b.2 = "" := by
        rw [str_dec] at hm
        exact of_decide_eq_true hm
      obtain ⟨ps, mk⟩ := b
      have hmk : mk = "" := hm'
      subst hmk
      have pl : ps.length ≤ 12 := by
        rcases hb with e | g
        · cases e; decide
        · exact g.hi
      have pok : ∀ s ∈ ps, PieceOk (ws.take ini.length) s := by
        rcases hb with e | g
        · cases e; intro s hs; cases hs
        · exact g.ok
      have hpl : ((ps.map V.str).length : Nat) = ps.length := by rw [List.length_map]
      refine seq_by (fun σ H5 => ∃ ps', σ = [some (.ref lc), some (.ref lw), some (.ref a), some (.int c), some (.int (c.fmod 8)), some (.ref l)] ∧ Own H H5 (cells a (ini ++ [⟨t, l, w, bi ++ [⟨r, p, (ps', "")⟩]⟩])) ∧ GoodB (ws.take ini.length) (ps', "")) (fun nx rest => ?_) (fun σ H5 hJ => ?_)
      · refine ⟨_, rfl, _, rfl, l, _, _, _, rfl, rfl, .of hl4, atI_last _ _, r, _, _, _, rfl, rfl, .of hr4, atI_nat (j := 0) rfl, p, _, rfl, .inl (.of hp4), _, _, rfl, rfl, _, rfl, iteB (fun h12 => ?_) (fun h12 => ?_)⟩
        · have h12' : ps.length < 12 := by
            have := of_decide_eq_true h12
            rw [hpl] at this
            omega
          have nmw : ∀ x ∈ ini ++ [(⟨t, l, w, bi ++ [⟨r, p, (ps, "")⟩]⟩ : LR)], Nm x.w := fun x hx => by
            have h1 : x.w ∈ (ini.map (·.w)) ++ [w] := by
              rcases List.mem_append.mp hx with z | z
              · exact List.mem_append_left _ (List.mem_map.mpr ⟨x, z, rfl⟩)
              · have : x = ⟨t, l, w, bi ++ [⟨r, p, (ps, "")⟩]⟩ := by simpa using z
                subst this
                simp
            rcases List.mem_append.mp h1 with z | z
            · rw [iw.wds] at z
              exact (wo.nm _ (List.mem_of_mem_take z)).1
            · have e : x.w = w := by simpa using z
              rw [e]
              exact (wo.nm _ (List.mem_of_getElem? iw.w)).1
          refine ⟨_, rfl, _, rfl, l, _, _, _, rfl, rfl, .of hl4, atI_last _ _, r, _, _, _, rfl, rfl, .of hr4, atI_nat (j := 0) rfl, .inl ⟨rfl, _, .of hp4⟩, _, rfl, _, rfl, _, _, rfl, rfl, zd 8 (by decide) (by decide), rfl, a, _, _, rfl, ow4.rat, by rw [List.length_append]; have := iw.hi; simp; omega, nmw, fun H5 s s5 hs => ?_⟩
          have hs' : PieceOk (ws.take ini.length) s := by
            rw [List.dropLast_concat, iw.wds] at hs
            exact hs
          refine ⟨p, _, _, rfl, rfl, s5 _ _ hp4, small1000 (by rw [hpl]; omega), rest _ _ ⟨ps ++ [s], rfl, ?_, ⟨by simp, by simp; omega, .inl rfl, fun u hu => ?_⟩⟩⟩
          · have := own_pieces (ow4.same s5) (ps ++ [s])
            rw [List.map_append] at this
            exact this
          · rcases List.mem_append.mp hu with z | z
            · exact pok u z
            · have : u = s := by simpa using z
              rw [this]
              exact hs'
        · have h12' : 12 ≤ ps.length := by
            have := of_decide_eq_false h12
            rw [hpl] at this
            omega
          exact rest _ _ ⟨ps, rfl, ow4, ⟨by show 1 ≤ ps.length; omega, pl, .inl rfl, pok⟩⟩
      obtain ⟨ps', rfl, ow5, gb⟩ := hJ
      have hl5 := ow5.rat.brs (x := ⟨t, l, w, bi ++ [⟨r, p, (ps', "")⟩]⟩) (by simp)
      rw [List.map_append] at hl5
      have hr5 := ow5.rat.br (x := ⟨t, l, w, bi ++ [⟨r, p, (ps', "")⟩]⟩) (y := ⟨r, p, (ps', "")⟩) (by simp) (by simp)
      refine ⟨_, rfl, rfl, _, rfl, iteB (fun h5 => ?_) (fun h5 => fin _ _ ow5 gb)⟩
      refine ⟨few rfl, fun L nL => ?_⟩
      obtain ⟨m, hm3, hmm⟩ := mark_at (c.fdiv 8)
      have ow6 := ow5.same (same_upd (o := .lst [.str "other", .str "elder", .str "younger"]) nL)
      refine ⟨_, rfl, _, _, rfl, rfl, zd 8 (by decide) (by decide), _, _, rfl, rfl, (zd 3 (by decide) (by decide)).1, L, _, _, _, rfl, rfl, .of upd_same, hm3, _, rfl, _, rfl, l, _, _, _, rfl, rfl, .of ((same_upd nL) _ _ hl5), atI_last _ _, r, _, _, 1, rfl, rfl, (same_upd nL) _ _ hr5, rfl, ?_⟩
      exact fin _ _ (own_mark ow6 m) ⟨gb.lo, gb.hi, .inr hmm, gb.ok⟩
    · have hm' : b.2 ≠ "" := by
        rw [str_dec] at hm
        exact of_decide_eq_false hm
      rcases hb with e | g
      · subst e
        exact absurd rfl hm'
      · exact fin _ _ ow4 g
theorem ok__law_text (T : Tx K w mg)  : O__law_text P base T := by
  refine Fun.okX (k := 0) T.d__law_text.F sc__law_text (fun vs H Q E h => h.1) (fun cdv A outer s H vs Q E hr h => ?_)
  obtain ⟨-, h⟩ := h
  obtain ⟨a, rs, rfl, hr, g, q⟩ := h
  refine ⟨_, (pss_cons (ps_set (i := 1) sc__law_text.nd rfl (Or.inl rfl) (pe_lst pa_nil))
      (pss_cons (ps_for PassesOwn.leaving rfl (pi_list (pv 0)) (pg_tup rfl (pgs_cons (pg_name (i := 2) sc__law_text.nd rfl (Or.inl rfl)) (pgs_cons (pg_name (i := 3) sc__law_text.nd rfl (Or.inl rfl)) pgs_nil)))
        (pss_cons (ps_set (i := 4) sc__law_text.nd rfl (Or.inl rfl) (pe_lst pa_nil))
      (pss_cons (ps_for PassesOwn.leaving rfl (pi_list (pv 3)) (pg_lst rfl (pgs_cons (pg_name (i := 5) sc__law_text.nd rfl (Or.inl rfl)) (pgs_cons (pg_name (i := 6) sc__law_text.nd rfl (Or.inl rfl)) pgs_nil)))
        (pss_cons (ps_set (i := 7) sc__law_text.nd rfl (Or.inl rfl) (pe_bm PySem.F.plainAttrs_str PySem.F.slot_str_join PySem.F.type_str_join (mt_join K) pe_str (pa_cons (pv 5) pa_nil)))
      (pss_cons (ps_if (pt_cmpR op_ne (pv 6) pe_str (nomark _)) (pss_one (ps_set (i := 7) sc__law_text.nd rfl (Or.inl rfl) (pe_op op_add_str (pe_op op_add_str (pv 7) pe_str) (pv 6)))) pss_nil)
      (pss_one (ps_expr (pe_bm PySem.F.plainAttrs_list PySem.F.slot_list_append PySem.F.type_list_append mt_append (pv 4) (pa_cons (pv 7) pa_nil)))))))
      (pss_one (ps_expr (pe_bm PySem.F.plainAttrs_list PySem.F.slot_list_append PySem.F.type_list_append mt_append (pv 1) (pa_cons (pe_op op_add_str (pe_op op_add_str (pv 2) pe_str) (pe_bm PySem.F.plainAttrs_str PySem.F.slot_str_join PySem.F.type_str_join (mt_join K) pe_str (pa_cons (pv 4) pa_nil))) pa_nil)))))))
      (pss_one (ps_ret (pe_bm PySem.F.plainAttrs_str PySem.F.slot_str_join PySem.F.type_str_join (mt_join K) pe_str (pa_cons (pv 1) pa_nil)))))), ?_⟩
  refine ⟨few rfl, fun L nL => ?_⟩
  have hlen : rs.length ≤ 41 := by have := g.hi; rw [List.length_map] at this; exact this
  refine ⟨_, rfl, a, rfl, ⟨_, .of ((same_upd nL) _ _ hr.lst)⟩, for_list (xs := rs.map fun x => V.ref x.t) (fun i σ H2 => ∃ v2 v3 v4 v5 v6 v7, σ = [some (.ref a), some (.ref L), v2, v3, v4, v5, v6, v7] ∧ H2 L = some (.lst (((rs.take i).map fun x => rowTxt x.row).map V.str)) ∧ Same H H2) ?start ?sq ?turn ?done⟩
  case start => exact ⟨_, _, _, _, _, _, rfl, upd_same, same_upd nL⟩
  case sq =>
    rintro i σ H2 _ ⟨_, _, _, _, _, _, _, _, s2⟩
    exact .of (s2 _ _ hr.lst)
  case done =>
    rintro σ H2 ⟨v2, v3, v4, v5, v6, v7, rfl, hL, s2⟩
    rw [List.length_map, List.take_length] at hL
    have hL' : SqL K H2 L ((rs.map fun x => rowTxt x.row).map V.str) := .of hL
    refine ⟨rfl, _, rfl, _, L, rs.map fun x => rowTxt x.row, rfl, rfl, .inl hL', ?_, ?_⟩
    · have h1 := sum_le (n := 1320) (l := rs.map fun x => rowTxt x.row) fun s hs => by
        obtain ⟨x, hx, rfl⟩ := List.mem_map.mp hs
        exact g.row (List.mem_map.mpr ⟨x, hx, rfl⟩)
      rw [List.length_map] at h1 ⊢
      have l1 : (Str.ofString "\n").length = 1 := by decide +kernel
      rw [l1]
      omega
    · have e : (rs.map fun x => rowTxt x.row) = (rs.map LR.row).map rowTxt := by rw [List.map_map]; rfl
      have et : txt (rs.map LR.row) = (Str.ofString "\n").join ((rs.map LR.row).map rowTxt) := by unfold txt; rfl
      have q1 := q _ s2
      rw [et] at q1
      rw [e]
      exact q1
  case turn =>
    rintro i x σ H2 hx ⟨v2, v3, v4, v5, v6, v7, rfl, hL, s2⟩
    rw [List.getElem?_map] at hx
    obtain ⟨y, hy, rfl⟩ := Option.map_eq_some_iff.mp hx
    have hym := List.mem_of_getElem? hy
    have ro : (rs.map LR.row)[i]? = some y.row := by rw [List.getElem?_map, hy]; rfl
    obtain ⟨b1, b2, b3⟩ := g.each y.row (List.mem_of_getElem? ro)
    have b2' : y.bs.length ≤ 9 := by
      have : (y.bs.map (·.b)).length ≤ 9 := b2
      rw [List.length_map] at this
      exact this
    refine ⟨y.t, _, rfl, .of (s2 _ _ (hr.tup hym)), rfl, _, _, rfl, _, _, rfl, rfl, ?_⟩
    refine ⟨few rfl, fun S nS => ?_⟩
    have nS0 := ne_none s2 nS
    have LS : L ≠ S := ne_of_none hL nS
    refine ⟨_, rfl, y.l, rfl, ⟨_, .of ((same_upd nS) _ _ (s2 _ _ (hr.brs hym)))⟩, for_list (xs := y.bs.map fun z => V.ref z.r) (fun j σ H3 => ∃ v5 v6 v7, σ = [some (.ref a), some (.ref L), some (.str y.w), some (.ref y.l), some (.ref S), v5, v6, v7] ∧ H3 S = some (.lst (((y.bs.take j).map fun z => lineOf z.b).map V.str)) ∧ H3 L = some (.lst (((rs.take i).map fun x => rowTxt x.row).map V.str)) ∧ Same H H3) ?start2 ?sq2 ?turn2 ?done2⟩
    case start2 => exact ⟨_, _, _, rfl, upd_same, (same_upd nS) _ _ hL, s2.trans (same_upd nS)⟩
    case sq2 =>
      rintro j σ H3 _ ⟨_, _, _, _, _, _, s3⟩
      exact .of (s3 _ _ (hr.brs hym))
    case turn2 =>
      rintro j x σ H3 hx ⟨v5, v6, v7, rfl, hS, hL3, s3⟩
      rw [List.getElem?_map] at hx
      obtain ⟨z, hz, rfl⟩ := Option.map_eq_some_iff.mp hx
      have hzm := List.mem_of_getElem? hz
      have gb : BndB z.b := b3 z.b (List.mem_map.mpr ⟨z, hzm, rfl⟩)
      refine ⟨z.r, _, rfl, .of (s3 _ _ (hr.br hym hzm)), rfl, _, _, rfl, _, _, rfl, rfl, ?_⟩
      have hp3 := s3 _ _ (hr.pcs hym hzm)
      have ll := gb.line.2
      have g12 := gb.hi
      refine ⟨rfl, _, rfl, blank, z.p, z.b.1, rfl, rfl, .inl (.of hp3), ?sum, ?_⟩
      case sum =>
        have h1 := sum_le (n := 9) (l := z.b.1) gb.ps
        have l1 : blank.length = 1 := rfl
        rw [l1]
        omega
      try dsimp only [gName]
      refine seq_by (fun σ H4 => σ = [some (.ref a), some (.ref L), some (.str y.w), some (.ref y.l), some (.ref S), some (.ref z.p), some (.str z.b.2), some (.str (lineOf z.b))] ∧ H4 = H3) (fun nx rest => ?_) (fun σ H4 hJ => ?_)
      · by_cases he : z.b.2 = ""
        · have el : lineOf z.b = blank.join z.b.1 := by unfold lineOf; rw [if_pos he]
          refine ⟨_, rfl, rfl, _, rfl, iteFb (by simp [he]) (rest _ _ ⟨?_, rfl⟩)⟩
          rw [el]
          rfl
        · have el : lineOf z.b = blank.join z.b.1 ++ blank ++ z.b.2 := by unfold lineOf; rw [if_neg he]
          have l2 : (blank.join z.b.1).length + 1 + z.b.2.length ≤ 140 := by
            rw [el, Str.length_append, Str.length_append] at ll
            exact ll
          have lb := line_big
          refine ⟨_, rfl, rfl, _, rfl, iteTb (by simp [he]) ⟨_, rfl, _, _, rfl, rfl, ?s1, _, rfl, _, _, rfl, rfl, ?s2, rest _ _ ⟨?_, rfl⟩⟩⟩
          case s1 => show (blank.join z.b.1).length + 1 ≤ _; omega
          case s2 =>
            rw [Str.length_append]
            show (blank.join z.b.1).length + 1 + z.b.2.length ≤ _
            omega
          rw [el]
          rfl
      obtain ⟨rfl, rfl⟩ := hJ
      have jl := (List.getElem?_eq_some_iff.mp hz).1
      refine ⟨_, rfl, .inl ⟨rfl, _, .of hS⟩, _, rfl, S, _, _, rfl, rfl, hS, small1000 (by simp; omega), ⟨_, _, _, rfl, ?_, ?_, same_keep s3 nS0⟩⟩
      · rw [upd_same, List.take_add_one, hz, List.map_append, List.map_append]
        rfl
      · rw [upd_ne LS]
        exact hL3
    case done2 =>
      rintro σ H3 ⟨v5, v6, v7, rfl, hS, hL3, s3⟩
      rw [List.length_map, List.take_length] at hS
      have il := (List.getElem?_eq_some_iff.mp hy).1
      have bl : (bar.join ((y.bs.map (·.b)).map lineOf)).length ≤ 1300 := bnd_bars b2 b3
      have e1 : (y.bs.map fun z => lineOf z.b) = (y.bs.map (·.b)).map lineOf := by rw [List.map_map]; rfl
      rw [e1] at hS
      have n8 : y.w.length ≤ 8 := b1
      have lb := line_big
      refine ⟨_, rfl, .inl ⟨rfl, _, .of hL3⟩, _, rfl, _, _, rfl, rfl, ?s1, rfl, _, rfl, bar, S, (y.bs.map (·.b)).map lineOf, rfl, rfl, .inl (.of hS), ?sum, _, _, rfl, rfl, ?s2, L, _, _, rfl, rfl, hL3, small1000 (by simp; omega), ⟨_, _, _, _, _, _, rfl, ?_, same_keep s3 nL⟩⟩
      case s1 => show y.w.length + 3 ≤ _; omega
      case sum =>
        have h1 := sum_le (n := 140) (l := (y.bs.map (·.b)).map lineOf) fun s hs => by
          obtain ⟨b, hb, rfl⟩ := List.mem_map.mp hs
          exact (b3 b hb).line.2
        rw [List.length_map, List.length_map] at h1 ⊢
        have l1 : bar.length = 3 := by decide +kernel
        rw [l1]
        omega
      case s2 =>
        rw [Str.length_append]
        show y.w.length + 3 + (bar.join ((y.bs.map (·.b)).map lineOf)).length ≤ _
        omega
      have er : rowTxt y.row = y.w ++ equ ++ bar.join ((y.bs.map (·.b)).map lineOf) := by unfold rowTxt; rfl
      rw [upd_same, List.take_add_one, hy, List.map_append, List.map_append]
      show _ = some (HO.lst (_ ++ [V.str (rowTxt y.row)]))
      rw [er]
      rfl
theorem ok__law_too_long (T : Tx K w mg) (G__law_text : O__law_text P base T) : O__law_too_long P base T := by
  refine Fun.okX (k := 1) T.d__law_too_long.F sc__law_too_long (fun vs H Q E h => h.1) (fun cdv A outer s H vs Q E hr h => ?_)
  obtain ⟨-, h⟩ := h
  obtain ⟨a, lw, ws, k, rs, H0, rfl, ow, hw, wo, w42, g, q⟩ := h
  refine ⟨_, (pss_cons (ps_set (i := 3) sc__law_too_long.nd rfl (Or.inl rfl) (pe_ix ix_tup (pe_ix ix_list (pv 0) (pe_un un_neg pe_int) (fun _ _ => rfl)) pe_int (fun _ _ => rfl)))
      (pss_cons (ps_while PassesOwn.leaving (PW.pt (pw_and (pt_cmpR op_eq (pv 2) pe_int (nomark _)) (pw_and1 (pt_cmpR op_lt (pe_callB call_len_seq (by rfl) T.n_len bt_len (pa_cons (pe_ix ix_list (pe_ix ix_list (pv 3) (pe_un un_neg pe_int) (fun _ _ => rfl)) pe_int (fun _ _ => rfl)) pa_nil)) pe_int (nomark _))))) (pss_one (ps_expr (pe_bm PySem.F.plainAttrs_list PySem.F.slot_list_append PySem.F.type_list_append mt_append (pe_ix ix_list (pe_ix ix_list (pv 3) (pe_un un_neg pe_int) (fun _ _ => rfl)) pe_int (fun _ _ => rfl)) (pa_cons pe_str pa_nil)))))
      (pss_cons (ps_while PassesOwn.leaving (PW.pt (pw_and (pt_cmpR op_eq (pv 2) pe_int (nomark _)) (pw_and1 (pt_cmpR op_lt (pe_callB call_len_seq (by rfl) T.n_len bt_len (pa_cons (pv 3) pa_nil)) pe_int (nomark _))))) (pss_one (ps_expr (pe_bm PySem.F.plainAttrs_list PySem.F.slot_list_append PySem.F.type_list_append mt_append (pv 3) (pa_cons (pe_lst (pa_cons (pe_lst (pa_cons pe_str pa_nil)) (pa_cons pe_str pa_nil))) pa_nil)))))
      (pss_cons (ps_while PassesOwn.leaving (PW.pt (pw_and (pt_cmpR op_eq (pv 2) pe_int (nomark _)) (pw_and1 (pt_cmpR op_lt (pe_callB call_len_seq (by rfl) T.n_len bt_len (pa_cons (pv 0) pa_nil)) pe_int (nomark _))))) (pss_one (ps_expr (pe_bm PySem.F.plainAttrs_list PySem.F.slot_list_append PySem.F.type_list_append mt_append (pv 0) (pa_cons (pe_tup (pa_cons (pe_ix ix_list (pv 1) (pe_callB call_len_seq (by rfl) T.n_len bt_len (pa_cons (pv 0) pa_nil)) (fun _ _ => rfl)) (pa_cons (pe_lst (pa_cons (pe_lst (pa_cons (pe_lst (pa_cons pe_str (pa_cons pe_str pa_nil))) (pa_cons pe_str pa_nil))) pa_nil)) pa_nil))) pa_nil)))))
      (pss_cons (ps_if (pt_cmpR op_eq (pv 2) pe_int (nomark _)) (pss_one (ps_expr (pe_bm PySem.F.plainAttrs_list PySem.F.slot_list_append PySem.F.type_list_append mt_append (pv 0) (pa_cons (pe_ix ix_list (pv 0) (pe_un un_neg pe_int) (fun _ _ => rfl)) pa_nil)))) pss_nil)
      (pss_cons (ps_if (pt_cmpR op_eq (pv 2) pe_int (nomark _)) (pss_one (ps_expr (pe_bm PySem.F.plainAttrs_list PySem.F.slot_list_append PySem.F.type_list_append mt_append (pv 0) (pa_cons (pe_tup (pa_cons (pe_ix ix_list (pv 1) (pe_callB call_len_seq (by rfl) T.n_len bt_len (pa_cons (pv 0) pa_nil)) (fun _ _ => rfl)) (pa_cons (pe_lst pa_nil) pa_nil))) pa_nil)))) pss_nil)
      (pss_cons (ps_if (pt_cmpR op_eq (pv 2) pe_int (nomark _)) (pss_one (ps_expr (pe_bm PySem.F.plainAttrs_list PySem.F.slot_list_append PySem.F.type_list_append mt_append (pv 0) (pa_cons (pe_tup (pa_cons (pe_ix ix_list (pv 1) (pe_callB call_len_seq (by rfl) T.n_len bt_len (pa_cons (pv 0) pa_nil)) (fun _ _ => rfl)) (pa_cons (pe_lst (pa_cons (pe_lst (pa_cons (pe_lst (pa_cons pe_str (pa_cons (pe_op op_add_str pe_str (pe_ix ix_list (pv 1) (pe_callB call_len_seq (by rfl) T.n_len bt_len (pa_cons (pv 0) pa_nil)) (fun _ _ => rfl))) pa_nil))) (pa_cons pe_str pa_nil))) pa_nil)) pa_nil))) pa_nil)))) pss_nil)
      (pss_one (ps_ret (pe_callX G__law_text (hr.mono (by decide)) (by rfl) T.d__law_text.m T.d__law_text.F.kp T.d__law_text.b .nil pass_none (pa_cons (pv 0) pa_nil))))))))))), ?_⟩
  obtain ⟨ini, ⟨t, l, w, bs⟩, rfl⟩ : ∃ ini x, rs = ini ++ [x] := ⟨rs.dropLast, rs.getLast g.ne, (List.dropLast_concat_getLast _).symm⟩
  have bnd0 := (g.good wo).bnd
  obtain ⟨iw, g2⟩ := Init.of g
  obtain ⟨bi, ⟨r, p, ps, mk⟩, ebs⟩ : ∃ bi x, bs = bi ++ [x] := ⟨bs.dropLast, bs.getLast g2.ne, (List.dropLast_concat_getLast _).symm⟩
  have b8 := g2.hi
  have allB : ∀ x ∈ ini ++ [(⟨t, l, w, bs⟩ : LR)], RowB x := fun x hx => rowB_of bnd0 hx
  dsimp only at b8
  subst ebs
  rw [List.length_append, List.length_singleton] at b8
  have lastB := allB _ (show (⟨t, l, w, bi ++ [⟨r, p, ps, mk⟩]⟩ : LR) ∈ ini ++ [(⟨t, l, w, bi ++ [⟨r, p, ps, mk⟩]⟩ : LR)] by simp)
  have iniB : ∀ x ∈ ini, RowB x := fun x hx => allB x (List.mem_append_left _ hx)
  have biB : ∀ y ∈ bi, BndB y.b := fun y hy => lastB.2.2 y (List.mem_append_left _ hy)
  have gb0 : BndB (ps, mk) := lastB.2.2 ⟨r, p, ps, mk⟩ (by simp)
  have w8 : w.length ≤ 8 := lastB.1
  have n40 := iw.hi
  have ps12 : ps.length ≤ 12 := (g2.ok ⟨r, p, ps, mk⟩ (by simp)).hi
  have ha := ow.rat.lst
  rw [List.map_append] at ha
  have ht := ow.rat.tup (x := ⟨t, l, w, bi ++ [⟨r, p, ps, mk⟩]⟩) (by simp)
  refine ⟨_, rfl, _, rfl, a, _, _, _, rfl, rfl, .of ha, atI_last _ _, t, _, _, _, rfl, rfl, .of ht, atI_nat (j := 1) rfl, ?_⟩
  dsimp only [gName]
  -- the part
  refine seq_by (fun σ H1 => σ = [some (.ref a), some (.ref lw), some (.int k), some (.ref l)] ∧ ∃ bs, Own H0 H1 (cells a (ini ++ [⟨t, l, w, bs⟩])) ∧ bs.length ≤ 8 ∧ ∀ y ∈ bs, BndB y.b) (fun nx rest => ?_) (fun σ H1 hJ => ?_)
  · refine ⟨fun m σ H1 => ∃ ps, m = 13 - ps.length ∧ σ = [some (.ref a), some (.ref lw), some (.int k), some (.ref l)] ∧ Own H0 H1 (cells a (ini ++ [⟨t, l, w, bi ++ [⟨r, p, (ps, mk)⟩]⟩])) ∧ BndB (ps, mk), ⟨_, ps, rfl, rfl, ow, gb0⟩, ?_⟩
    rintro m σ H1 ⟨ps, rfl, rfl, ow1, gb⟩
    have done : nx [some (.ref a), some (.ref lw), some (.int k), some (.ref l)] H1 := rest _ _ ⟨rfl, _, ow1, by simp; omega, fun y hy => by
      rcases List.mem_append.mp hy with z | z
      · exact biB y z
      · have : y = ⟨r, p, (ps, mk)⟩ := by simpa using z
        subst this
        exact gb⟩
    have hl1 := ow1.rat.brs (x := ⟨t, l, w, bi ++ [⟨r, p, (ps, mk)⟩]⟩) (by simp)
    rw [List.map_append] at hl1
    have hr1 := ow1.rat.br (x := ⟨t, l, w, bi ++ [⟨r, p, (ps, mk)⟩]⟩) (y := ⟨r, p, (ps, mk)⟩) (by simp) (by simp)
    have hp1 := ow1.rat.pcs (x := ⟨t, l, w, bi ++ [⟨r, p, (ps, mk)⟩]⟩) (y := ⟨r, p, (ps, mk)⟩) (by simp) (by simp)
    have hpl : ((ps.map V.str).length : Nat) = ps.length := by rw [List.length_map]
    refine ⟨_, rfl, rfl, _, rfl, iteB (fun h1 => ?_) (fun h1 => iteF done)⟩
    refine ⟨_, rfl, _, rfl, l, _, _, _, rfl, rfl, .of hl1, atI_last _ _, r, _, _, _, rfl, rfl, .of hr1, atI_nat (j := 0) rfl, p, _, rfl, .inl (.of hp1), _, _, rfl, rfl, _, rfl, iteB (fun h13 => ?_) (fun h13 => done)⟩
    have h13' : ps.length < 13 := by
      have := of_decide_eq_true h13
      rw [hpl] at this
      omega
    refine ⟨fun σ' H' => ∃ m', m' < 13 - ps.length ∧ ∃ ps, m' = 13 - ps.length ∧ σ' = [some (.ref a), some (.ref lw), some (.int k), some (.ref l)] ∧ Own H0 H' (cells a (ini ++ [⟨t, l, w, bi ++ [⟨r, p, (ps, mk)⟩]⟩])) ∧ BndB (ps, mk), fun σ' H' z => z, ?_⟩
    refine ⟨_, rfl, _, rfl, l, _, _, _, rfl, rfl, .of hl1, atI_last _ _, r, _, _, _, rfl, rfl, .of hr1, atI_nat (j := 0) rfl, .inl ⟨rfl, _, .of hp1⟩, p, _, _, rfl, rfl, hp1, small1000 (by rw [hpl]; omega), ?_⟩
    refine ⟨13 - (ps ++ [("t" : Str)]).length, by simp; omega, ps ++ [("t" : Str)], rfl, rfl, ?_, ⟨by simp; omega, fun u hu => ?_, gb.mrk⟩⟩
    · have := own_pieces ow1 (ps ++ [("t" : Str)])
      rw [List.map_append] at this
      exact this
    · rcases List.mem_append.mp hu with z | z
      · exact gb.ps u z
      · have : u = "t" := by simpa using z
        rw [this]
        decide +kernel
  obtain ⟨rfl, bs1, ow1, b81, bB1⟩ := hJ
  clear ow ha ht gb0 biB b8 lastB g2 g bnd0 allB
  -- the parts
  refine seq_by (fun σ H1 => σ = [some (.ref a), some (.ref lw), some (.int k), some (.ref l)] ∧ ∃ bs, Own H0 H1 (cells a (ini ++ [⟨t, l, w, bs⟩])) ∧ bs.length ≤ 9 ∧ ∀ y ∈ bs, BndB y.b) (fun nx rest => ?_) (fun σ H1 hJ => ?_)
  · refine ⟨fun m σ H1 => ∃ bs, m = 9 - bs.length ∧ σ = [some (.ref a), some (.ref lw), some (.int k), some (.ref l)] ∧ Own H0 H1 (cells a (ini ++ [⟨t, l, w, bs⟩])) ∧ bs.length ≤ 9 ∧ ∀ y ∈ bs, BndB y.b, ⟨_, bs1, rfl, rfl, ow1, by omega, bB1⟩, ?_⟩
    rintro m σ H1 ⟨bs, rfl, rfl, ow1, b9, bB⟩
    have done : nx [some (.ref a), some (.ref lw), some (.int k), some (.ref l)] H1 := rest _ _ ⟨rfl, _, ow1, b9, bB⟩
    have hl1 := ow1.rat.brs (x := ⟨t, l, w, bs⟩) (by simp)
    have hbl : ((bs.map fun y => V.ref y.r).length : Nat) = bs.length := by rw [List.length_map]
    refine ⟨_, rfl, rfl, _, rfl, iteB (fun h1 => ?_) (fun h1 => iteF done)⟩
    refine ⟨_, rfl, l, _, rfl, .inl (.of hl1), _, _, rfl, rfl, _, rfl, iteB (fun h9 => ?_) (fun h9 => done)⟩
    have h9' : bs.length < 9 := by
      have := of_decide_eq_true h9
      rw [hbl] at this
      omega
    refine ⟨fun σ' H' => ∃ m', m' < 9 - bs.length ∧ ∃ bs, m' = 9 - bs.length ∧ σ' = [some (.ref a), some (.ref lw), some (.int k), some (.ref l)] ∧ Own H0 H' (cells a (ini ++ [⟨t, l, w, bs⟩])) ∧ bs.length ≤ 9 ∧ ∀ y ∈ bs, BndB y.b, fun σ' H' z => z, ?_⟩
    refine ⟨_, rfl, .inl ⟨rfl, _, .of hl1⟩, few rfl, fun p np => ⟨few rfl, fun r nr => ⟨l, _, _, rfl, rfl, (same_upd nr) _ _ ((same_upd np) _ _ hl1), small1000 (by rw [hbl]; omega), 9 - (bs ++ [(⟨r, p, (["f"], "")⟩ : LB)]).length, by simp; omega, _, rfl, rfl, own_branch (b := (["f"], "")) ow1 np nr, by simp; omega, fun y hy => ?_⟩⟩⟩
    rcases List.mem_append.mp hy with z | z
    · exact bB y z
    · have : y = ⟨r, p, (["f"], "")⟩ := by simpa using z
      subst this
      exact bnd_lit (["f"], "") (by decide +kernel)
  obtain ⟨rfl, bs2, ow2, b92, bB2⟩ := hJ
  have WD : ∀ n, n < 42 → ∃ w', ws[n]? = some w' ∧ w'.length ≤ 8 := fun n hn => by
    refine ⟨ws[n]'(by omega), List.getElem?_eq_getElem _, ?_⟩
    exact (wo.nm _ (List.getElem_mem _)).1.hi
  -- the rows
  refine seq_by (fun σ H1 => σ = [some (.ref a), some (.ref lw), some (.int k), some (.ref l)] ∧ ∃ rs, Own H0 H1 (cells a rs) ∧ (∀ x ∈ rs, RowB x) ∧ rs.length ≤ 41 ∧ rs ≠ [] ∧ (k ≠ 2 → rs.length ≤ 40)) (fun nx rest => ?_) (fun σ H1 hJ => ?_)
  · refine ⟨fun m σ H1 => ∃ rs, m = 41 - rs.length ∧ σ = [some (.ref a), some (.ref lw), some (.int k), some (.ref l)] ∧ Own H0 H1 (cells a rs) ∧ (∀ x ∈ rs, RowB x) ∧ rs.length ≤ 41 ∧ rs ≠ [] ∧ (k ≠ 2 → rs.length ≤ 40), ⟨_, _, rfl, rfl, ow2, fun x hx => ?_, by simp; omega, by simp, fun _ => by simp; omega⟩, ?_⟩
    · rcases List.mem_append.mp hx with z | z
      · exact iniB x z
      · have : x = ⟨t, l, w, bs2⟩ := by simpa using z
        subst this
        exact ⟨w8, b92, bB2⟩
    rintro m σ H1 ⟨rs, rfl, rfl, ow3, rB, r41, rne, rk⟩
    have done : nx [some (.ref a), some (.ref lw), some (.int k), some (.ref l)] H1 := rest _ _ ⟨rfl, rs, ow3, rB, r41, rne, rk⟩
    have ha3 := ow3.rat.lst
    have hrl : ((rs.map fun x => V.ref x.t).length : Nat) = rs.length := by rw [List.length_map]
    refine ⟨_, rfl, rfl, _, rfl, iteB (fun h1 => ?_) (fun h1 => iteF done)⟩
    have k2 : k = 2 := int_eq_of h1
    refine ⟨_, rfl, a, _, rfl, .inl (.of ha3), _, _, rfl, rfl, _, rfl, iteB (fun h41 => ?_) (fun h41 => done)⟩
    have h41' : rs.length < 41 := by
      have := of_decide_eq_true h41
      rw [hrl] at this
      omega
    obtain ⟨w', hw', wl'⟩ := WD rs.length (by omega)
    have hwat : atI (ws.map V.str) ((rs.map fun x => V.ref x.t).length : Nat) = some (.str w') := atI_nat (by rw [hrl, List.getElem?_map, hw']; rfl)
    have hw3 := ow3.2.2 _ _ hw
    refine ⟨fun σ' H' => ∃ m', m' < 41 - rs.length ∧ ∃ rs, m' = 41 - rs.length ∧ σ' = [some (.ref a), some (.ref lw), some (.int k), some (.ref l)] ∧ Own H0 H' (cells a rs) ∧ (∀ x ∈ rs, RowB x) ∧ rs.length ≤ 41 ∧ rs ≠ [] ∧ (k ≠ 2 → rs.length ≤ 40), fun σ' H' z => z, ?_⟩
    refine ⟨_, rfl, .inl ⟨rfl, _, .of ha3⟩, _, rfl, _, rfl, a, _, rfl, .inl (.of ha3), lw, _, _, _, rfl, rfl, .of hw3, hwat, few rfl, fun p np => ⟨few rfl, fun r nr => ⟨few rfl, fun l' nl => ⟨few rfl, fun t' nt => ?_⟩⟩⟩⟩
    refine ⟨a, _, _, rfl, rfl, (same_upd nt) _ _ ((same_upd nl) _ _ ((same_upd nr) _ _ ((same_upd np) _ _ ha3))), small1000 (by rw [hrl]; omega), ?_⟩
    have own4 := own_full (w := w') (b := (["M", "she"], "")) ow3 np nr nl nt
    refine ⟨41 - (rs ++ [(⟨t', l', w', [⟨r, p, (["M", "she"], "")⟩]⟩ : LR)]).length, by simp; omega, _, rfl, rfl, own4, fun x hx => ?_, by simp; omega, by simp, fun z => absurd k2 z⟩
    rcases List.mem_append.mp hx with z | z
    · exact rB x z
    · have : x = ⟨t', l', w', [⟨r, p, (["M", "she"], "")⟩]⟩ := by simpa using z
      subst this
      refine ⟨wl', by simp, fun y hy => ?_⟩
      have : y = ⟨r, p, (["M", "she"], "")⟩ := by simpa using hy
      subst this
      exact bnd_lit (["M", "she"], "") (by decide +kernel)
  obtain ⟨rfl, rs3, ow3, rB3, r41, rne, rk⟩ := hJ
  clear ow1 ow2
  -- the same row again
  refine seq_by (fun σ H1 => σ = [some (.ref a), some (.ref lw), some (.int k), some (.ref l)] ∧ ((k ≠ 3 ∧ ∃ rs, Own H0 H1 (cells a rs) ∧ (∀ x ∈ rs, RowB x) ∧ rs.length ≤ 41 ∧ (k ≠ 2 → rs.length ≤ 40)) ∨ (k = 3 ∧ ∃ rs, RAt H1 a rs ∧ BndR (rs.map LR.row) ∧ Same H0 H1))) (fun nx rest => ?_) (fun σ H1 hJ => ?_)
  · refine ⟨_, rfl, rfl, _, rfl, iteB (fun h3 => ?_) (fun h3 => rest _ _ ⟨rfl, .inl ⟨int_ne_of h3, rs3, ow3, rB3, r41, rk⟩⟩)⟩
    have k3 : k = 3 := int_eq_of h3
    obtain ⟨ini2, x2, e2⟩ : ∃ ini x, rs3 = ini ++ [x] := ⟨rs3.dropLast, rs3.getLast rne, (List.dropLast_concat_getLast _).symm⟩
    have x2m : x2 ∈ rs3 := by rw [e2]; simp
    have ha3 := ow3.rat.lst
    have hrl : ((rs3.map fun x => V.ref x.t).length : Nat) = rs3.length := by rw [List.length_map]
    have hlast : atI (rs3.map fun x => V.ref x.t) (-1) = some (.ref x2.t) := by rw [e2, List.map_append]; exact atI_last _ _
    have r40 := rk (by rw [k3]; decide)
    refine ⟨_, rfl, .inl ⟨rfl, _, .of ha3⟩, _, rfl, _, rfl, a, _, _, _, rfl, rfl, .of ha3, hlast, a, _, _, rfl, rfl, ha3, small1000 (by rw [hrl]; omega), rest _ _ ⟨rfl, .inr ⟨k3, rs3 ++ [x2], ?_, ?_, ?_⟩⟩⟩
    · have h5 := Own.set (l1 := []) (p := a) (o := .lst (rs3.map fun x => .ref x.t)) (l2 := rs3.flatMap LR.cells) ow3 (.lst ((rs3.map fun x => .ref x.t) ++ [.ref x2.t]))
      intro c hc
      unfold cells at hc
      rw [List.map_append, List.flatMap_append] at hc
      have hc2 : c ∈ [] ++ (a, HO.lst ((rs3.map fun x => V.ref x.t) ++ [.ref x2.t])) :: rs3.flatMap LR.cells := by
        rcases List.mem_cons.mp hc with z | z
        · subst z; simp
        · rcases List.mem_append.mp z with z | z
          · exact List.mem_append_right _ (List.mem_cons_of_mem _ z)
          · have z' : c ∈ x2.cells := by simpa using z
            exact List.mem_append_right _ (List.mem_cons_of_mem _ (List.mem_flatMap.mpr ⟨x2, x2m, z'⟩))
      exact (h5.2.1 c hc2).1
    · refine bndR_of (fun x hx => ?_) (by simp; omega)
      rcases List.mem_append.mp hx with z | z
      · exact rB3 x z
      · have : x = x2 := by simpa using z
        rw [this]
        exact rB3 x2 x2m
    · exact same_keep ow3.2.2 (ow3.2.1 (a, .lst (rs3.map fun x => .ref x.t)) (List.mem_cons_self ..)).2
  obtain ⟨rfl, hJ⟩ := hJ
  -- a row without parts
  refine seq_by (fun σ H1 => σ = [some (.ref a), some (.ref lw), some (.int k), some (.ref l)] ∧ ((k ≠ 3 ∧ ∃ rs, Own H0 H1 (cells a rs) ∧ (∀ x ∈ rs, RowB x) ∧ rs.length ≤ 41 ∧ (k = 5 → rs.length ≤ 40)) ∨ (k = 3 ∧ ∃ rs, RAt H1 a rs ∧ BndR (rs.map LR.row) ∧ Same H0 H1))) (fun nx rest => ?_) (fun σ H1 hJ => ?_)
  · refine ⟨_, rfl, rfl, _, rfl, iteB (fun h4 => ?_) (fun h4 => rest _ _ ⟨rfl, ?_⟩)⟩
    · have k4 : k = 4 := int_eq_of h4
      rcases hJ with ⟨_, rs4, ow4, rB4, r414, rk4⟩ | ⟨k3, _⟩
      · have ha4 := ow4.rat.lst
        have hrl : ((rs4.map fun x => V.ref x.t).length : Nat) = rs4.length := by rw [List.length_map]
        have r40 := rk4 (by rw [k4]; decide)
        obtain ⟨w', hw', wl'⟩ := WD rs4.length (by omega)
        have hwat : atI (ws.map V.str) ((rs4.map fun x => V.ref x.t).length : Nat) = some (.str w') := atI_nat (by rw [hrl, List.getElem?_map, hw']; rfl)
        have hw4 := ow4.2.2 _ _ hw
        refine ⟨_, rfl, .inl ⟨rfl, _, .of ha4⟩, _, rfl, _, rfl, a, _, rfl, .inl (.of ha4), lw, _, _, _, rfl, rfl, .of hw4, hwat, few rfl, fun l' nl => ⟨few rfl, fun t' nt => ⟨a, _, _, rfl, rfl, (same_upd nt) _ _ ((same_upd nl) _ _ ha4), small1000 (by rw [hrl]; omega), rest _ _ ⟨rfl, .inl ⟨by omega, rs4 ++ [⟨t', l', w', []⟩], own_row ow4 nl nt, fun x hx => ?_, by simp; omega, fun z => by omega⟩⟩⟩⟩⟩
        rcases List.mem_append.mp hx with z | z
        · exact rB4 x z
        · have : x = ⟨t', l', w', []⟩ := by simpa using z
          subst this
          exact ⟨wl', by simp, fun y hy => by cases hy⟩
      · omega
    · rcases hJ with ⟨k3, rs4, ow4, rB4, r414, rk4⟩ | z
      · exact .inl ⟨k3, rs4, ow4, rB4, r414, fun z => rk4 (by omega)⟩
      · exact .inr z
  obtain ⟨rfl, hJ⟩ := hJ
  -- a word in its own row
  refine seq_by (fun σ H1 => σ = [some (.ref a), some (.ref lw), some (.int k), some (.ref l)] ∧ ∃ rs, RAt H1 a rs ∧ BndR (rs.map LR.row) ∧ Same H0 H1) (fun nx rest => ?_) (fun σ H1 hJ => ?_)
  · refine ⟨_, rfl, rfl, _, rfl, iteB (fun h5 => ?_) (fun h5 => rest _ _ ⟨rfl, ?_⟩)⟩
    · have k5 : k = 5 := int_eq_of h5
      rcases hJ with ⟨_, rs4, ow4, rB4, r414, rk4⟩ | ⟨k3, _⟩
      · have ha4 := ow4.rat.lst
        have hrl : ((rs4.map fun x => V.ref x.t).length : Nat) = rs4.length := by rw [List.length_map]
        have r40 := rk4 k5
        obtain ⟨w', hw', wl'⟩ := WD rs4.length (by omega)
        have hwat : atI (ws.map V.str) ((rs4.map fun x => V.ref x.t).length : Nat) = some (.str w') := atI_nat (by rw [hrl, List.getElem?_map, hw']; rfl)
        have hw4 := ow4.2.2 _ _ hw
        refine ⟨_, rfl, .inl ⟨rfl, _, .of ha4⟩, _, rfl, _, rfl, a, _, rfl, .inl (.of ha4), lw, _, _, _, rfl, rfl, .of hw4, hwat, _, rfl, _, rfl, a, _, rfl, .inl (.of ha4), lw, _, _, _, rfl, rfl, .of hw4, hwat, _, _, rfl, rfl, by have := line_big; show 1 + w'.length ≤ _; omega, few rfl, fun p np => ⟨few rfl, fun r nr => ⟨few rfl, fun l' nl => ⟨few rfl, fun t' nt => ?_⟩⟩⟩⟩
        have own5 := own_full (w := w') (b := (["F", col ++ w'], "")) ow4 np nr nl nt
        refine ⟨a, _, _, rfl, rfl, (same_upd nt) _ _ ((same_upd nl) _ _ ((same_upd nr) _ _ ((same_upd np) _ _ ha4))), small1000 (by rw [hrl]; omega), rest _ _ ⟨rfl, _, own5.rat, bndR_of (fun x hx => ?_) (by simp; omega), own5.2.2⟩⟩
        rcases List.mem_append.mp hx with z | z
        · exact rB4 x z
        · have : x = ⟨t', l', w', [⟨r, p, (["F", col ++ w'], "")⟩]⟩ := by simpa using z
          subst this
          refine ⟨wl', by simp, fun y hy => ?_⟩
          have : y = ⟨r, p, (["F", col ++ w'], "")⟩ := by simpa using hy
          subst this
          refine ⟨by show 2 ≤ 13; decide, fun u hu => ?_, show (Str.ofString "").length ≤ 7 by decide +kernel⟩
          have hu' : u ∈ [("F" : Str), col ++ w'] := hu
          simp only [List.mem_cons, List.mem_nil_iff, or_false] at hu'
          rcases hu' with z | z <;> subst z
          · decide +kernel
          · rw [Str.length_append]
            have : col.length = 1 := by decide +kernel
            omega
      · omega
    · rcases hJ with ⟨k3, rs4, ow4, rB4, r414, rk4⟩ | ⟨_, z⟩
      · exact ⟨rs4, ow4.rat, bndR_of rB4 r414, ow4.2.2⟩
      · exact z
  obtain ⟨rfl, rs5, ra5, bn5, s5⟩ := hJ
  exact ⟨_, rfl, rfl, a, rs5, rfl, ra5, bn5, fun H6 s6 => q _ _ (s5.trans s6) bn5.txt⟩
theorem ok__law_spoiled (T : Tx K w mg)  : O__law_spoiled P base T := by
  refine Fun.okX (k := 0) T.d__law_spoiled.F sc__law_spoiled (fun vs H Q E h => h.1) (fun cdv A outer s H vs Q E hr h => ?_)
  obtain ⟨-, h⟩ := h
  obtain ⟨z, c, k, rfl, hz, q⟩ := h
  refine ⟨_, (pss_cons (ps_set (i := 3) sc__law_spoiled.nd rfl (Or.inl rfl) pe_str)
      (pss_cons (ps_set (i := 4) sc__law_spoiled.nd rfl (Or.inl rfl) (pe_ix ix_str (pv 3) (pe_op op_modN (pv 1) (pe_callB call_len_str (by rfl) T.n_len bt_len (pa_cons (pv 3) pa_nil))) (fun _ _ => rfl)))
      (pss_cons (ps_set (i := 5) sc__law_spoiled.nd rfl (Or.inl rfl) (pe_op op_modN (pe_op op_fdivB (pv 1) pe_int) (pe_op op_add (pe_callB call_len_str (by rfl) T.n_len bt_len (pa_cons (pv 0) pa_nil)) pe_int)))
      (pss_cons (ps_if (pt_cmpR op_eq (pv 2) pe_int (nomark _)) (pss_one (ps_ret (pe_op op_add_str (pe_op op_add_str (pe_slice sl_str (pv 0) po_none (po_some (pv 5))) (pv 4)) (pe_slice sl_str (pv 0) (po_some (pv 5)) po_none)))) pss_nil)
      (pss_cons (ps_if (pt_cmpR op_eq (pv 2) pe_int (nomark _)) (pss_one (ps_ret (pe_op op_add_str (pe_slice sl_str (pv 0) po_none (po_some (pv 5))) (pe_slice sl_str (pv 0) (po_some (pe_op op_add (pv 5) pe_int)) po_none)))) pss_nil)
      (pss_cons (ps_if (pt_cmpR op_eq (pv 2) pe_int (nomark _)) (pss_one (ps_ret (pe_op op_add_str (pe_op op_add_str (pe_slice sl_str (pv 0) po_none (po_some (pv 5))) (pv 4)) (pe_slice sl_str (pv 0) (po_some (pe_op op_add (pv 5) pe_int)) po_none)))) pss_nil)
      (pss_cons (ps_set (i := 6) sc__law_spoiled.nd rfl (Or.inl rfl) (pe_bm PySem.F.plainAttrs_str PySem.F.slot_str_split PySem.F.type_str_split (mt_split1 10 (by decide)) (pv 0) (pa_cons pe_str pa_nil)))
      (pss_cons (ps_expr (pe_bm PySem.F.plainAttrs_list PySem.F.slot_list_insert PySem.F.type_list_insert mt_insert (pv 6) (pa_cons (pe_op op_modN (pv 1) (pe_op op_add (pe_callB call_len_seq (by rfl) T.n_len bt_len (pa_cons (pv 6) pa_nil)) pe_int)) (pa_cons pe_str pa_nil))))
      (pss_one (ps_ret (pe_bm PySem.F.plainAttrs_str PySem.F.slot_str_join PySem.F.type_str_join (mt_join K) pe_str (pa_cons (pv 6) pa_nil)))))))))))), ?_⟩
  have zd : ∀ n : Int, 1 ≤ n → n ≤ 100 → n ≠ 0 ∧ n.natAbs < 2 ^ 1000 := fun n h1 h2 => ⟨by omega, Nat.lt_of_le_of_lt (show n.natAbs ≤ 100 by omega) (by decide +kernel)⟩
  have bl := big_line
  have zs : z.length ≤ sizeLine := by omega
  have m0 := mod_lo c (show (0 : Int) < 16 by decide)
  have m1 := mod_hi c (show (0 : Int) < 16 by decide)
  obtain ⟨ch, hch⟩ : ∃ ch, atI (" |=:\nFhersotA0z-" : Str).cps.toList (c.fmod 16) = some ch := by
    have hl : (c.fmod 16).toNat < (" |=:\nFhersotA0z-" : Str).cps.toList.length := by
      show (c.fmod 16).toNat < 16
      omega
    exact ⟨_, at_i m0 (List.getElem?_eq_getElem hl)⟩
  refine ⟨_, rfl, _, rfl, _, rfl, _, rfl, by decide, _, _, rfl, rfl, (by decide : (16 : Int) ≠ 0), _, _, _, rfl, rfl, by decide, hch, ?_⟩
  refine ⟨_, rfl, _, _, rfl, rfl, zd 3 (by decide) (by decide), _, rfl, z, rfl, zs, _, _, rfl, rfl, _, _, rfl, rfl, ?ne, ?_⟩
  case ne => show ((z.length : Nat) : Int) + 1 ≠ 0; omega
  have y1 : (⟨#[ch]⟩ : Str).length = 1 := rfl
  have a0 := Int.fmod_nonneg_of_pos (c.fdiv 3) (show (0 : Int) < (z.length : Int) + 1 by omega)
  have a1 := Int.fmod_lt_of_pos (c.fdiv 3) (show (0 : Int) < (z.length : Int) + 1 by omega)
  try dsimp only
  generalize (c.fdiv 3).fmod ((z.length : Int) + 1) = at' at *
  have lA := PyProof.Rows.slice_ns_cases z at' a0
  have lB := PyProof.Rows.slice_sn_cases z at' a0
  have lC := PyProof.Rows.slice_sn_cases z (at' + 1) (by omega)
  refine ⟨_, rfl, rfl, _, rfl, iteB (fun h1 => ?_) (fun h1 => ⟨_, rfl, rfl, _, rfl, iteB (fun h2 => ?_) (fun h2 => ⟨_, rfl, rfl, _, rfl, iteB (fun h3 => ?_) (fun h3 => ?_)⟩)⟩)⟩
  · refine ⟨_, rfl, _, rfl, _, rfl, z, rfl, zs, _, rfl, _, _, rfl, rfl, ?s1, _, rfl, _, rfl, _, rfl, z, rfl, zs, _, _, rfl, rfl, ?s2, q _ _ (Same.refl H) ?s3⟩
    case s1 => omega
    case s2 => rw [Str.length_append]; omega
    case s3 => rw [Str.length_append, Str.length_append]; omega
  · refine ⟨_, rfl, _, rfl, _, rfl, z, rfl, zs, _, rfl, _, rfl, _, _, rfl, rfl, _, rfl, z, rfl, zs, _, _, rfl, rfl, ?s1, q _ _ (Same.refl H) ?s3⟩
    case s1 => omega
    case s3 => rw [Str.length_append]; omega
  · refine ⟨_, rfl, _, rfl, _, rfl, z, rfl, zs, _, rfl, _, _, rfl, rfl, ?s1, _, rfl, _, rfl, _, _, rfl, rfl, _, rfl, z, rfl, zs, _, _, rfl, rfl, ?s2, q _ _ (Same.refl H) ?s3⟩
    case s1 => omega
    case s2 => rw [Str.length_append]; omega
    case s3 => rw [Str.length_append, Str.length_append]; omega
  have lb := line_big
  refine ⟨_, rfl, rfl, z, rfl, rfl, by omega, fun D nD => ?_⟩
  have hD : upd H D (.lst ((partsOf 10 z).map V.str)) D = some (.lst ((partsOf 10 z).map V.str)) := upd_same
  have sD := same_upd (o := .lst ((partsOf 10 z).map V.str)) nD
  have sm := sum_parts2 10 z
  rw [show TongM.partsOf 10 z = L2.partsOf 10 z from rfl] at sm
  generalize L2.partsOf 10 z = ls at *
  generalize upd H D (.lst (ls.map V.str)) = H1 at *
  have ll : ((ls.map V.str).length : Nat) = ls.length := by rw [List.length_map]
  have b0 := Int.fmod_nonneg_of_pos c (show (0 : Int) < ((ls.map V.str).length : Nat) + 1 by omega)
  have b1 := Int.fmod_lt_of_pos c (show (0 : Int) < ((ls.map V.str).length : Nat) + 1 by omega)
  refine ⟨_, rfl, .inl ⟨rfl, _, .of hD⟩, _, rfl, _, rfl, D, _, rfl, .inl (.of hD), _, _, rfl, rfl, _, _, rfl, rfl, (show (((ls.map V.str).length : Nat) : Int) + 1 ≠ 0 by omega), D, _, _, _, rfl, rfl, hD, b0, by omega, by omega, ?_⟩
  have ei : (ls.map V.str).take (c.fmod (((ls.map V.str).length : Nat) + 1)).toNat ++ V.str "" :: (ls.map V.str).drop (c.fmod (((ls.map V.str).length : Nat) + 1)).toNat = (ls.take (c.fmod (((ls.map V.str).length : Nat) + 1)).toNat ++ ("" : Str) :: ls.drop (c.fmod (((ls.map V.str).length : Nat) + 1)).toNat).map V.str := by
    rw [List.map_append, List.map_cons, List.map_take, List.map_drop]
  rw [ei]
  generalize (c.fmod (((ls.map V.str).length : Nat) + 1)).toNat = j at *
  have sj : ((ls.take j ++ ("" : Str) :: ls.drop j).map (·.length)).sum = (ls.map (·.length)).sum := by
    have e0 : ("" : Str).length = 0 := by decide +kernel
    rw [List.map_append, List.map_cons, List.sum_append, List.sum_cons, e0, Nat.zero_add, ← List.sum_append, ← List.map_append, List.take_append_drop]
  have lj : (ls.take j ++ ("" : Str) :: ls.drop j).length = ls.length + 1 := by
    rw [List.length_append, List.length_cons, List.length_take, List.length_drop]
    omega
  have n1 : (Str.ofString "\n").length = 1 := by decide +kernel
  refine ⟨rfl, _, rfl, _, D, ls.take j ++ ("" : Str) :: ls.drop j, rfl, rfl, .inl (.of upd_same), by rw [sj, lj, n1]; omega, q _ _ (same_keep sD nD) ?_⟩
  have js := join_sum (sep := Str.ofString "\n") (l := ls.take j ++ ("" : Str) :: ls.drop j)
  rw [sj, lj, n1] at js
  omega
theorem ok__law_parts (T : Tx K w mg)  : O__law_parts P base T := by
  refine Fun.okX (k := 0) T.d__law_parts.F sc__law_parts (fun vs H Q E h => h.1) (fun cdv A outer s H vs Q E hr h => ?_)
  obtain ⟨-, h⟩ := h
  obtain ⟨z, D, ws, rfl, hz, hw, hD, q⟩ := h
  refine ⟨_, (pss_cons (ps_set (i := 2) sc__law_parts.nd rfl (Or.inl rfl) (pe_lst (pa_cons pe_str (pa_cons pe_str (pa_cons pe_str (pa_cons pe_str (pa_cons pe_str (pa_cons pe_str (pa_cons pe_str (pa_cons pe_str (pa_cons pe_str pa_nil)))))))))))
      (pss_cons (ps_set (i := 3) sc__law_parts.nd rfl (Or.inl rfl) (pe_lst pa_nil))
      (pss_cons (ps_for PassesOwn.leaving rfl (pi_list (pe_bm PySem.F.plainAttrs_str PySem.F.slot_str_split PySem.F.type_str_split (mt_splitG " | " (by decide) kind_bar) (pv 0) (pa_cons pe_str pa_nil))) (pg_name (i := 4) sc__law_parts.nd rfl (Or.inl rfl))
        (pss_cons (ps_set (i := 5) sc__law_parts.nd rfl (Or.inl rfl) (pe_bm PySem.F.plainAttrs_str PySem.F.slot_str_split PySem.F.type_str_split (mt_split1 32 (by decide)) (pv 4) (pa_cons pe_str pa_nil)))
      (pss_cons (ps_set (i := 6) sc__law_parts.nd rfl (Or.inl rfl) pe_str)
      (pss_cons (ps_if (pt_cmpR op_in_seq (pe_ix ix_list (pv 5) (pe_un un_neg pe_int) (fun _ _ => rfl)) (pe_lst (pa_cons pe_str (pa_cons pe_str (pa_cons pe_str pa_nil)))) (by rfl)) (pss_cons (ps_set (i := 6) sc__law_parts.nd rfl (Or.inl rfl) (pe_ix ix_list (pv 5) (pe_un un_neg pe_int) (fun _ _ => rfl)))
      (pss_one (ps_set (i := 5) sc__law_parts.nd rfl (Or.inl rfl) (pe_slice sl_list (pv 5) po_none (po_some (pe_un un_neg pe_int)))))) pss_nil)
      (pss_cons (ps_if (PW.pt (pw_or (pt_cmpR op_lt (pe_callB call_len_seq (by rfl) T.n_len bt_len (pa_cons (pv 5) pa_nil)) pe_int (nomark _)) (pw_or1 (pt_cmpR op_gt (pe_callB call_len_seq (by rfl) T.n_len bt_len (pa_cons (pv 5) pa_nil)) pe_int (nomark _))))) (pss_one (ps_ret pe_non)) pss_nil)
      (pss_cons (ps_for PassesOwn.leaving rfl (pi_list (pv 5)) (pg_name (i := 7) sc__law_parts.nd rfl (Or.inl rfl))
        (pss_one (ps_if (PW.pt (pw_and (pt_cmpR op_notIn_seq (pv 7) (pv 2) (by rfl)) (pw_and1 (PW.pt (pw_or (pt_cmpR op_ne (pe_slice sl_str (pv 7) po_none (po_some pe_int)) pe_str (nomark _)) (pw_or1 (pt_cmpR op_notIn_seq (pe_slice sl_str (pv 7) (po_some pe_int) po_none) (pv 1) (by rfl)))))))) (pss_one (ps_ret pe_non)) pss_nil)))
      (pss_one (ps_expr (pe_bm PySem.F.plainAttrs_list PySem.F.slot_list_append PySem.F.type_list_append mt_append (pv 3) (pa_cons (pe_tup (pa_cons (pe_callTy call_tuple_of (by rfl) T.n_tuple bt_tuple (pa_cons (pv 5) pa_nil)) (pa_cons (pv 6) pa_nil))) pa_nil))))))))))
      (pss_cons (ps_if (pt_cmpR op_gt (pe_callB call_len_seq (by rfl) T.n_len bt_len (pa_cons (pv 3) pa_nil)) pe_int (nomark _)) (pss_one (ps_ret pe_non)) pss_nil)
      (pss_one (ps_ret (pv 3))))))), ?_⟩
  have hb2 := big_line
  have cl := TextG.cutAt_len (Str.ofString " | ") z
  refine ⟨few rfl, fun S nS => ?_⟩
  refine ⟨few rfl, fun F nF => ?_⟩
  refine ⟨_, rfl, rfl, z, rfl, rfl, by omega, fun C nC => ?_⟩
  have sS := same_upd (o := .lst (steps.map V.str)) nS
  have hS : upd H S (.lst (steps.map V.str)) S = some (.lst (steps.map V.str)) := upd_same
  change upd H S (.lst (steps.map V.str)) F = none at nF
  change upd (upd H S (.lst (steps.map V.str))) F (.lst []) C = none at nC
  have nF0 := ne_none sS nF
  have hSF : S ≠ F := ne_of_none hS nF
  have hCF : C ≠ F := fun e => by subst e; rw [upd_same] at nC; cases nC
  have sF := same_upd (o := .lst []) nF
  have hF : upd (upd H S (.lst (steps.map V.str))) F (.lst []) F = some (.lst []) := upd_same
  have sC := same_upd (o := .lst ((TextG.cutAt (Str.ofString " | ") z).map V.str)) nC
  have hC : upd (upd (upd H S (.lst (steps.map V.str))) F (.lst [])) C (.lst ((TextG.cutAt (Str.ofString " | ") z).map V.str)) C = some (.lst ((TextG.cutAt (Str.ofString " | ") z).map V.str)) := upd_same
  have rp : readParts ws z = if (TextG.cutAt (Str.ofString " | ") z).length ≤ 8 ∧ ∀ y ∈ TextG.cutAt (Str.ofString " | ") z, (readPart ws y).isSome = true then some ((TextG.cutAt (Str.ofString " | ") z).map fun y => (readPart ws y).getD ([], "")) else none := rfl
  rw [rp] at q
  have ylen : ∀ y ∈ TextG.cutAt (Str.ofString " | ") z, y.length ≤ 100000 := fun y hy => Nat.le_trans (cut_mem hy) hz
  have cl2 : (TextG.cutAt (Str.ofString " | ") z).length ≤ 100001 := by omega
  generalize TextG.cutAt (Str.ofString " | ") z = ls at *
  have bad : ∀ y ∈ ls, readPart ws y = none → ∀ H', Same H H' → Q .non H' := fun y hy e H' s' => q _ _ s' (by
    rw [if_neg (fun h => by have := h.2 y hy; rw [e] at this; cases this)]
    rfl) (fun l z => nomatch z)
  refine ⟨C, rfl, ⟨_, .of hC⟩, for_list (xs := ls.map V.str) (fun i σ H2 => ∃ fs v5 v6 v7 v8, σ = [some (.str z), some (.ref D), some (.ref S), some (.ref F), v5, v6, v7, v8] ∧ H2 C = some (.lst (ls.map V.str)) ∧ H2 S = some (.lst (steps.map V.str)) ∧ H2 F = some (.lst fs) ∧ Each (FAt H2) ((ls.take i).map fun y => (readPart ws y).getD ([], "")) fs ∧ (∀ y ∈ ls.take i, (readPart ws y).isSome = true) ∧ Same H H2) ?start ?sq ?turn ?done⟩
  case start => exact ⟨[], _, _, _, _, rfl, hC, sC _ _ (sF _ _ hS), sC _ _ hF, ⟨rfl, fun i a v e => by simp at e⟩, fun y hy => by simp at hy, sS.trans (sF.trans sC)⟩
  case sq =>
    rintro i σ H2 _ ⟨_, _, _, _, _, _, h2, _⟩
    exact .of h2
  case done =>
    rintro σ H2 ⟨fs, v5, v6, v7, v8, rfl, hC2, hS2, hF2, ea, al, s2⟩
    rw [List.length_map, List.take_length] at ea al
    have fl := ea.1
    rw [List.length_map] at fl
    refine ⟨_, rfl, F, _, rfl, .inl (.of hF2), _, _, rfl, rfl, _, rfl, iteB (fun h8 => ?_) (fun h8 => ?_)⟩
    · have h8' := of_decide_eq_true h8
      exact q _ _ s2 (by rw [if_neg (fun h => by have := h.1; omega)]; rfl) (fun l z => nomatch z)
    · have h8' := of_decide_eq_false h8
      refine ⟨_, rfl, q _ _ s2 ?_ (fun l z => by cases z; exact nF0)⟩
      have l8 : ls.length ≤ 8 := by omega
      rw [if_pos ⟨l8, al⟩]
      exact ⟨F, rfl, ⟨fs, hF2, ea⟩, by rw [List.length_map]; exact l8⟩
  case turn =>
    rintro i x σ H2 hx ⟨fs, v5, v6, v7, v8, rfl, hC2, hS2, hF2, ea, al, s2⟩
    obtain ⟨y, rfl, hy⟩ := map_at hx
    have hm := List.mem_of_getElem? hy
    have yl := ylen y hm
    have il := (List.getElem?_eq_some_iff.mp hy).1
    have bad' := bad y hm
    have rpy : readPart ws y = if PcsOk ws (partQs (TongM.partsOf 32 y)) then some (partQs (TongM.partsOf 32 y), partMk (TongM.partsOf 32 y)) else none := rfl
    obtain ⟨p0, ps0, ep⟩ := TextM.splitL_ne 32 y.cps.toList
    have pne : TongM.partsOf 32 y ≠ [] := by unfold TongM.partsOf; rw [ep]; simp
    have pln : (TongM.partsOf 32 y).length ≤ 100001 := by have := parts_len y 32; exact Nat.le_trans this (by omega)
    obtain ⟨ini, la, el⟩ : ∃ ini p, TongM.partsOf 32 y = ini ++ [p] := ⟨_, _, (List.dropLast_concat_getLast pne).symm⟩
    have eld : lastD (ini ++ [la]) = la := by unfold lastD; simp
    refine ⟨_, rfl, rfl, y, rfl, rfl, by omega, fun A nA => ?_⟩
    have sA := same_upd (o := .lst ((L2.partsOf 32 y).map V.str)) nA
    have hA : upd H2 A (.lst ((L2.partsOf 32 y).map V.str)) A = some (.lst ((L2.partsOf 32 y).map V.str)) := upd_same
    generalize upd H2 A (.lst ((L2.partsOf 32 y).map V.str)) = H3 at *
    rw [show L2.partsOf 32 y = TongM.partsOf 32 y from rfl] at hA
    dsimp only [gName]
    refine seq_by (fun σ H4 => σ = [some (.str z), some (.ref D), some (.ref S), some (.ref F), some (.str y), some (.ref A), some (.str ""), v8] ∧ H4 = H3) (fun nx rest => rest _ _ ⟨rfl, rfl⟩) (fun σ H4 hJ => ?_)
    obtain ⟨rfl, rfl⟩ := hJ
    refine seq_by (fun σ H5 => ∃ B, σ = [some (.str z), some (.ref D), some (.ref S), some (.ref F), some (.str y), some (.ref B), some (.str (partMk (TongM.partsOf 32 y))), v8] ∧ H5 B = some (.lst ((partQs (TongM.partsOf 32 y)).map V.str)) ∧ Same H2 H5) (fun nx rest => ?_) (fun σ H5 hJ => ?_)
    · rw [el] at hA
      unfold partMk partQs at rest
      rw [el, eld] at rest
      rw [List.map_append] at hA
      refine ⟨_, rfl, _, rfl, A, _, _, _, rfl, rfl, .of hA, atI_last _ _, few rfl, fun M nM => ?_⟩
      have sM := same_upd (o := .lst (marks.map V.str)) nM
      have hM : upd H4 M (.lst (marks.map V.str)) M = some (.lst (marks.map V.str)) := upd_same
      change upd H4 M (.lst (marks.map V.str)) M = _ at hM
      refine ⟨M, marks.map V.str, rfl, .inl (.of hM), rfl, flat_strs _, _, rfl, ?_⟩
      have e3 : upd H4 M (.lst (marks.map V.str)) A = some (.lst (ini.map V.str ++ [la].map V.str)) := sM _ _ hA
      by_cases hm2 : la ∈ marks
      · refine iteTb ((in_strs la marks).trans (decide_eq_true hm2)) ?_
        rw [if_pos hm2, if_pos hm2] at rest
        refine ⟨_, rfl, _, rfl, A, _, _, _, rfl, rfl, .of e3, atI_last _ _, ?_⟩
        refine ⟨_, rfl, _, rfl, _, rfl, A, _, rfl, .of e3, fun B nB => rest _ _ ⟨B, rfl, ?_, sA.trans (sM.trans (same_upd nB))⟩⟩
        rw [upd_same, List.dropLast_concat]
        unfold cutV
        rw [sIx_m1]
        simp [HT.sIx]
      · refine iteFb ((in_strs la marks).trans (decide_eq_false hm2)) ?_
        rw [if_neg hm2, if_neg hm2] at rest
        exact rest _ _ ⟨A, rfl, by rw [List.map_append]; exact e3, sA.trans sM⟩
    obtain ⟨B, rfl, hB, s25⟩ := hJ
    have qln : (partQs (TongM.partsOf 32 y)).length ≤ 100001 := by
      unfold partQs
      split
      · rw [List.length_dropLast]; omega
      · exact pln
    have pql : ∀ p ∈ partQs (TongM.partsOf 32 y), p.length ≤ y.length := fun p hp => by
      refine part_len (c := 32) ?_
      unfold partQs at hp
      split at hp
      · exact (List.dropLast_sublist _).subset hp
      · exact hp
    generalize partQs (TongM.partsOf 32 y) = qs at *
    generalize partMk (TongM.partsOf 32 y) = mk at *
    have no : ¬ PcsOk ws qs → Q .non H5 := fun n => bad' (by rw [rpy, if_neg n]) _ (s2.trans s25)
    refine ⟨_, rfl, B, _, rfl, .inl (.of hB), _, _, rfl, rfl, _, rfl, ?_⟩
    by_cases lo : qs.length < 1
    · exact iteTb (decide_eq_true (by rw [List.length_map]; omega)) (iteT (no fun z => by have := z.1; omega))
    refine iteFb (decide_eq_false (by rw [List.length_map]; omega)) ?_
    refine ⟨_, rfl, B, _, rfl, .inl (.of hB), _, _, rfl, rfl, _, rfl, ?_⟩
    by_cases hi : 12 < qs.length
    · exact iteTb (decide_eq_true (by rw [List.length_map]; omega)) (no fun z => by have := z.2.1; omega)
    refine iteFb (decide_eq_false (by rw [List.length_map]; omega)) ?_
    dsimp only [tNext]
    refine seq_by (fun σ H6 => ∃ v8, σ = [some (.str z), some (.ref D), some (.ref S), some (.ref F), some (.str y), some (.ref B), some (.str mk), v8] ∧ H6 = H5 ∧ PcsOk ws qs) (fun nx rest => ?_) (fun σ H6 hJ => ?_)
    · refine ⟨_, rfl, B, rfl, ⟨_, .of hB⟩, for_list (xs := qs.map V.str) (fun j σ H6 => ∃ v8, σ = [some (.str z), some (.ref D), some (.ref S), some (.ref F), some (.str y), some (.ref B), some (.str mk), v8] ∧ H6 = H5 ∧ ∀ p ∈ qs.take j, pcOk ws p = true) ?start2 ?sq2 ?turn2 ?done2⟩
      case start2 => exact ⟨_, rfl, rfl, fun p hp => by simp at hp⟩
      case sq2 =>
        rintro j σ H6 _ ⟨_, _, rfl, _⟩
        exact .of hB
      case done2 =>
        rintro σ H6 ⟨v8, rfl, rfl, al6⟩
        rw [List.length_map, List.take_length] at al6
        exact rest _ _ ⟨_, rfl, rfl, by omega, by omega, al6⟩
      case turn2 =>
        rintro j x σ H6 hx6 ⟨v8, rfl, rfl, al6⟩
        obtain ⟨p, rfl, hp⟩ := map_at hx6
        have jl := (List.getElem?_eq_some_iff.mp hp).1
        have pm := List.mem_of_getElem? hp
        have nxt : pcOk ws p = true → ∀ p ∈ qs.take (j + 1), pcOk ws p = true := fun e p' hp' => by
          rw [List.take_succ, hp] at hp'
          rcases List.mem_append.mp hp' with z | z
          · exact al6 p' z
          · have : p' = p := by simpa using z
            rw [this]; exact e
        have ein : (if true = true then !inV (.str p) (steps.map V.str) else inV (.str p) (steps.map V.str)) = !decide (p ∈ steps) := by rw [in_strs]; rfl
        refine ⟨_, rfl, _, rfl, S, _, rfl, .inl (.of (s25 _ _ hS2)), rfl, flat_strs _, _, rfl, ?_⟩
        have hpk : pcOk ws p = (decide (p ∈ steps) || (Txt.startswith p ":" && decide (Txt.slice p (some 1) none ∈ ws))) := by
          unfold pcOk
          have := stp_iff p
          unfold Stp at this
          have e9 : (isLet p || isTes p) = decide (p ∈ steps) := by
            by_cases z : p ∈ steps
            · rw [this.mp z, decide_eq_true z]
            · rw [decide_eq_false z]
              cases hh : (isLet p || isTes p) with
              | true => exact absurd (this.mpr hh) z
              | false => rfl
          rw [e9]
        by_cases hst : p ∈ steps
        · refine iteFb (ein.trans (by rw [decide_eq_true hst]; rfl)) (iteF ⟨_, rfl, rfl, nxt ?_⟩)
          rw [hpk, decide_eq_true hst]
          rfl
        rw [decide_eq_false hst, Bool.false_or] at hpk
        refine iteTb (ein.trans (by rw [decide_eq_false hst]; rfl)) ?_
        have plen : p.length ≤ 100000 := by have := pql p pm; omega
        have hst2 : ∀ b, Txt.startswith p ":" = b → (!decide (V.str (Txt.slice p none (some 1)) = V.str ":")) = !b := fun b e => by
          rw [starts_slice] at e
          rw [← e]
          congr 1
          rw [decide_eq_decide]
          exact ⟨fun z => V.str.inj z, fun z => by rw [z]⟩
        refine ⟨_, rfl, _, rfl, p, rfl, by omega, rfl, _, rfl, ?_⟩
        cases hs9 : Txt.startswith p ":" with
        | false =>
          refine iteTb (hst2 _ hs9) (iteT (no fun z => ?_))
          have := z.2.2 p pm
          rw [hpk, hs9] at this
          cases this
        | true =>
          rw [hs9, Bool.true_and] at hpk
          refine iteFb (hst2 _ hs9) ?_
          have ein2 : (if true = true then !inV (.str (Txt.slice p (some 1) none)) (ws.map V.str) else inV (.str (Txt.slice p (some 1) none)) (ws.map V.str)) = !decide (Txt.slice p (some 1) none ∈ ws) := by rw [in_strs]; rfl
          refine ⟨_, rfl, _, rfl, p, rfl, by omega, _, rfl, D, _, rfl, .inl (.of (s25 _ _ (s2 _ _ hD))), rfl, flat_strs _, _, rfl, ?_⟩
          by_cases hin : Txt.slice p (some 1) none ∈ ws
          · exact iteFb (ein2.trans (by rw [decide_eq_true hin]; rfl)) ⟨_, rfl, rfl, nxt (by rw [hpk, decide_eq_true hin])⟩
          · refine iteTb (ein2.trans (by rw [decide_eq_false hin]; rfl)) (no fun z => ?_)
            have := z.2.2 p pm
            rw [hpk, decide_eq_false hin] at this
            cases this
    obtain ⟨v8', rfl, rfl, ok⟩ := hJ
    have hqs : readPart ws y = some (qs, mk) := by rw [rpy, if_pos ok]
    refine ⟨_, rfl, .inl ⟨rfl, _, .of (s25 _ _ hF2)⟩, _, rfl, B, _, rfl, .inl ⟨.of hB, fun U nU => ⟨_, rfl, few rfl, fun W nW => ?_⟩⟩⟩
    have sU := same_upd (o := .tup (qs.map V.str)) nU
    have sW := same_upd (o := .tup [.ref U, .str mk]) nW
    have hF6 := sW _ _ (sU _ _ (s25 _ _ hF2))
    have fl := ea.1
    rw [List.length_map, List.length_take] at fl
    have sall := s2.trans (s25.trans (sU.trans sW))
    have hU6 := sW _ _ (show upd H6 U (.tup (qs.map V.str)) U = _ from upd_same)
    have hW6 : upd (upd H6 U (.tup (qs.map V.str))) W (.tup [.ref U, .str mk]) W = some (.tup [.ref U, .str mk]) := upd_same
    have ea6 := ea.imp fun b v (h : FAt H2 b v) => h.same (s25.trans (sU.trans sW))
    have hC6 := sW _ _ (sU _ _ (s25 _ _ hC2))
    have hS6 := sW _ _ (sU _ _ (s25 _ _ hS2))
    refine ⟨F, _, _, rfl, rfl, hF6, by omega, ?_⟩
    generalize upd (upd H6 U (.tup (qs.map V.str))) W (.tup [.ref U, .str mk]) = H7 at *
    have bt : But1 F H7 (upd H7 F (.lst (fs ++ [V.ref W]))) := fun c u nc e => (upd_ne nc).trans e
    have et : ls.take (i + 1) = ls.take i ++ [y] := by rw [List.take_succ, hy]; rfl
    refine ⟨_, _, _, _, _, rfl, (upd_ne hCF).trans hC6, (upd_ne hSF).trans hS6, upd_same, ?_, ?_, same_keep sall nF0⟩
    · rw [et, List.map_append]
      have f9 : FAt H7 (qs, mk) (.ref W) := ⟨W, U, rfl, hW6, hU6⟩
      refine (ea6.imp fun b v h => h.but bt hF6).snoc ?_
      dsimp only
      rw [hqs]
      exact f9.but bt hF6
    · rw [et]
      intro y' hy'
      rcases List.mem_append.mp hy' with z | z
      · exact al y' z
      · have : y' = y := by simpa using z
        rw [this, hqs]
        rfl
theorem ok__law_read (T : Tx K w mg) (G__law_parts : O__law_parts P base T) : O__law_read P base T := by
  refine Fun.okX (k := 1) T.d__law_read.F sc__law_read (fun vs H Q E h => h.1) (fun cdv A outer s H vs Q E hr h => ?_)
  obtain ⟨-, h⟩ := h
  obtain ⟨z, rfl, hz, q⟩ := h
  refine ⟨_, (pss_cons (ps_set (i := 1) sc__law_read.nd rfl (Or.inl rfl) (pe_lst pa_nil))
      (pss_cons (ps_set (i := 2) sc__law_read.nd rfl (Or.inl rfl) (pe_lst pa_nil))
      (pss_cons (ps_for PassesOwn.leaving rfl (pi_list (pe_bm PySem.F.plainAttrs_str PySem.F.slot_str_split PySem.F.type_str_split (mt_split1 10 (by decide)) (pv 0) (pa_cons pe_str pa_nil))) (pg_name (i := 3) sc__law_read.nd rfl (Or.inl rfl))
        (pss_cons (ps_set (i := 4) sc__law_read.nd rfl (Or.inl rfl) (pe_bm PySem.F.plainAttrs_str PySem.F.slot_str_find PySem.F.type_str_find mt_find (pv 3) (pa_cons pe_str pa_nil)))
      (pss_cons (ps_set (i := 5) sc__law_read.nd rfl (Or.inl rfl) (pe_slice sl_str (pv 3) po_none (po_some (pe_callB (call_max2 rfl) (by rfl) T.n_max bt_max (pa_cons pe_int (pa_cons (pv 4) pa_nil))))))
      (pss_cons (ps_if (PW.pt (pw_or (pt_cmpR op_in_seq (pv 5) (pv 1) (by rfl)) (pw_or (pt_cmpR op_lt (pe_callB call_len_str (by rfl) T.n_len bt_len (pa_cons (pv 5) pa_nil)) pe_int (nomark _)) (pw_or (pt_cmpR op_gt (pe_callB call_len_str (by rfl) T.n_len bt_len (pa_cons (pv 5) pa_nil)) pe_int (nomark _)) (pw_or1 (pt_cmpR op_eq (pe_callB call_len_seq (by rfl) T.n_len bt_len (pa_cons (pv 1) pa_nil)) pe_int (nomark _))))))) (pss_one (ps_ret pe_non)) pss_nil)
      (pss_cons (ps_for PassesOwn.leaving rfl (pi_str (pv 5)) (pg_name (i := 6) sc__law_read.nd rfl (Or.inl rfl))
        (pss_one (ps_if (pt_cmpR op_notIn_str (pv 6) pe_str (by rfl)) (pss_one (ps_ret pe_non)) pss_nil)))
      (pss_cons (ps_set (i := 7) sc__law_read.nd rfl (Or.inl rfl) (pe_callX G__law_parts (hr.mono (by decide)) (by rfl) T.d__law_parts.m T.d__law_parts.F.kp T.d__law_parts.b .nil pass_none (pa_cons (pe_slice sl_str (pv 3) (po_some (pe_op op_add (pv 4) pe_int)) po_none) (pa_cons (pv 1) pa_nil))))
      (pss_cons (ps_if (pt_cmpR op_isN (pv 7) pe_non (nomark _)) (pss_one (ps_ret pe_non)) pss_nil)
      (pss_cons (ps_expr (pe_bm PySem.F.plainAttrs_list PySem.F.slot_list_append PySem.F.type_list_append mt_append (pv 1) (pa_cons (pv 5) pa_nil)))
      (pss_one (ps_expr (pe_bm PySem.F.plainAttrs_list PySem.F.slot_list_append PySem.F.type_list_append mt_append (pv 2) (pa_cons (pe_tup (pa_cons (pv 5) (pa_cons (pv 7) pa_nil))) pa_nil))))))))))))
      (pss_one (ps_ret (pv 2)))))), ?_⟩
  have hb2 := big_line
  have hb3 : 100 ≤ sizeLine := by omega
  refine ⟨few rfl, fun W nW => ?_⟩
  refine ⟨few rfl, fun R nR => ?_⟩
  refine ⟨_, rfl, rfl, z, rfl, rfl, by omega, fun C nC => ?_⟩
  have sW := same_upd (o := .lst []) nW
  have sR := same_upd (o := .lst []) nR
  have nR0 := ne_none sW nR
  have hW : upd H W (.lst []) W = some (.lst []) := upd_same
  have hR : upd (upd H W (.lst [])) R (.lst []) R = some (.lst []) := upd_same
  have hWR : W ≠ R := ne_of_none hW nR
  have sC := same_upd (o := .lst ((L2.partsOf 10 z).map V.str)) nC
  have hC : upd (upd (upd H W (.lst [])) R (.lst [])) C (.lst ((L2.partsOf 10 z).map V.str)) C = some (.lst ((L2.partsOf 10 z).map V.str)) := upd_same
  have hCR : C ≠ R := (ne_of_none hR nC).symm
  have hCW : C ≠ W := (ne_of_none (sR _ _ hW) nC).symm
  have rp : readRows z = if (L2.partsOf 10 z).length ≤ 40 then goRows (L2.partsOf 10 z) [] else none := rfl
  rw [rp] at q
  have ylen : ∀ y ∈ L2.partsOf 10 z, y.length ≤ 100000 := fun y hy => by have := part_len (c := 10) (z := z) hy; omega
  generalize L2.partsOf 10 z = ls at *
  generalize upd (upd (upd H W (.lst [])) R (.lst [])) C (.lst (ls.map V.str)) = H1 at *
  refine ⟨C, rfl, ⟨_, .of hC⟩, for_list (xs := ls.map V.str) (fun i σ H2 => ∃ acc rs v4 v5 v6 v7 v8, σ = [some (.str z), some (.ref W), some (.ref R), v4, v5, v6, v7, v8] ∧ H2 C = some (.lst (ls.map V.str)) ∧ H2 W = some (.lst ((acc.map (·.1)).map V.str)) ∧ H2 R = some (.lst rs) ∧ Each (RowF W R H2) acc rs ∧ acc.length = i ∧ acc.length ≤ 40 ∧ goRows (ls.drop i) acc = goRows ls [] ∧ Same H H2) ?start ?sq ?turn ?done⟩
  case start => exact ⟨[], [], _, _, _, _, _, rfl, hC, sC _ _ (sR _ _ hW), sC _ _ hR, ⟨rfl, fun i a v e => by simp at e⟩, rfl, by simp, rfl, sW.trans (sR.trans sC)⟩
  case sq =>
    rintro i σ H2 _ ⟨_, _, _, _, _, _, _, _, h2, _⟩
    exact .of h2
  case done =>
    rintro σ H2 ⟨acc, rs, v4, v5, v6, v7, v8, rfl, hC2, hW2, hR2, ea, al, a40, ge, s2⟩
    rw [List.length_map] at al
    rw [List.length_map, List.drop_length] at ge
    refine ⟨_, rfl, q _ _ s2 ?_⟩
    rw [if_pos (by omega), ← ge]
    exact ⟨R, rs, rfl, hR2, ea.imp fun r v h => h.row, a40⟩
  case turn =>
    rintro i x σ H2 hx ⟨acc, rs, v4, v5, v6, v7, v8, rfl, hC2, hW2, hR2, ea, al, a40, ge, s2⟩
    obtain ⟨y, rfl, hy⟩ := map_at hx
    have il := (List.getElem?_eq_some_iff.mp hy).1
    have yl := ylen y (List.mem_of_getElem? hy)
    have dr : ls.drop i = y :: ls.drop (i + 1) := by
      rw [List.drop_eq_getElem_cons il]
      congr 1
      rw [List.getElem?_eq_getElem il] at hy
      exact Option.some.inj hy
    have ge2 : (stepRow acc y).bind (goRows (ls.drop (i + 1))) = goRows ls [] := by rw [← ge, dr]; rfl
    have no : (stepRow acc y = none ∨ acc.length = 40) → ∀ H', Same H H' → Q .non H' := fun e H' s' => q _ _ s' (by
      by_cases h40 : ls.length ≤ 40
      · rcases e with e | e
        · rw [if_pos h40, ← ge2, e]
          rfl
        · omega
      · rw [if_neg h40]
        rfl)
    have fp : ∃ k : Nat, k ≤ y.length ∧ (if Txt.find y equ > 0 then Txt.find y equ else 0) = (k : Int) ∧ ((k = 0 ∧ stepRow acc y = none) ∨ (Txt.find y equ = (k : Int) ∧ k + 3 ≤ y.length ∧ (Txt.partition y equ).1 = Builtin.Str.strSub y 0 k ∧ (Txt.partition y equ).2.2 = Builtin.Str.strSub y (k + 3) y.length)) := by
      rcases find_part y with ⟨e1, e2⟩ | ⟨k, e1, e2, e3, e4⟩
      · exact ⟨0, Nat.zero_le _, by rw [e1]; rfl, .inl ⟨rfl, e2 acc⟩⟩
      · refine ⟨k, by omega, ?_, .inr ⟨e1, e2, e3, e4⟩⟩
        rw [e1]
        split <;> omega
    obtain ⟨k, ky, ek, fc⟩ := fp
    have sr : stepRow acc y = if isNm (Txt.partition y equ).1 = true ∧ (Txt.partition y equ).1 ∉ acc.map (·.1) then (readParts (acc.map (·.1)) (Txt.partition y equ).2.2).map fun bs => acc ++ [((Txt.partition y equ).1, bs)] else none := rfl
    have ew := slice_to y ky
    have wlen : (Builtin.Str.strSub y 0 k).length = k := by
      have := congrArg List.length (StrLaws.strSub_toList y 0 k)
      rw [len_sg, List.length_take, List.length_drop, len_sg] at this
      omega
    have hbad : ¬ (isNm (Builtin.Str.strSub y 0 k) = true ∧ (Builtin.Str.strSub y 0 k) ∉ acc.map (·.1)) → stepRow acc y = none := fun e => by
      rcases fc with ⟨_, e2⟩ | ⟨_, _, e3, _⟩
      · exact e2
      · rw [sr, e3, if_neg e]
    have ew2 : Txt.slice y none (some (if Txt.find y (Str.ofString " = ") > 0 then Txt.find y (Str.ofString " = ") else 0)) = Builtin.Str.strSub y 0 k := by
      rw [show (if Txt.find y (Str.ofString " = ") > 0 then Txt.find y (Str.ofString " = ") else 0) = (k : Int) from ek]
      exact ew
    have ww : isNm (Builtin.Str.strSub y 0 k) = true → ((stepRow acc y = (readParts (acc.map (·.1)) (Txt.partition y equ).2.2).map fun bs => acc ++ [(Builtin.Str.strSub y 0 k, bs)]) ∨ (Builtin.Str.strSub y 0 k) ∈ acc.map (·.1)) ∧ Txt.find y (Str.ofString " = ") = (k : Int) ∧ k + 3 ≤ y.length ∧ (Txt.partition y equ).2.2 = Builtin.Str.strSub y (k + 3) y.length := fun e => by
      rcases fc with ⟨e1, _⟩ | ⟨e1, e2, e3, e4⟩
      · exfalso
        unfold isNm at e
        rw [decide_eq_false (by omega)] at e
        cases e
      · refine ⟨?_, e1, e2, e4⟩
        by_cases hm : (Builtin.Str.strSub y 0 k) ∈ acc.map (·.1)
        · exact .inr hm
        · left
          rw [sr, e3, if_pos ⟨e, hm⟩]
    refine ⟨_, rfl, rfl, y, _, rfl, rfl, ?_⟩
    dsimp only [gName]
    refine seq_by (fun σ H3 => σ = [some (.str z), some (.ref W), some (.ref R), some (.str y), some (.int (Txt.find y (Str.ofString " = "))), some (.str (Builtin.Str.strSub y 0 k)), v7, v8] ∧ H3 = H2) (fun nx rest => ?_) (fun σ H3 hJ => ?_)
    · exact ⟨_, rfl, _, rfl, _, _, rfl, _, rfl, y, rfl, by omega, rest _ _ ⟨by rw [← ew2]; rfl, rfl⟩⟩
    obtain ⟨rfl, rfl⟩ := hJ
    have wle : (Builtin.Str.strSub y 0 k).length ≤ 100000 := by omega
    generalize Builtin.Str.strSub y 0 k = w at *
    have ein : (if false = true then !inV (.str w) ((acc.map (·.1)).map V.str) else inV (.str w) ((acc.map (·.1)).map V.str)) = decide (w ∈ acc.map (·.1)) := in_strs w _
    refine ⟨_, rfl, _, rfl, W, _, rfl, .inl (.of hW2), rfl, flat_strs _, _, rfl, ?_⟩
    by_cases hin : w ∈ acc.map (·.1)
    · exact iteTb (ein.trans (decide_eq_true hin)) (iteT (no (.inl (hbad fun e => e.2 hin)) _ s2))
    refine iteFb (ein.trans (decide_eq_false hin)) ?_
    refine ⟨_, rfl, w, rfl, by omega, _, _, rfl, rfl, _, rfl, ?_⟩
    by_cases w1 : w.length < 1
    · refine iteTb (decide_eq_true (by omega)) (iteT (no (.inl (hbad fun e => ?_)) _ s2))
      have := e.1
      unfold isNm at this
      rw [decide_eq_false (by omega)] at this
      cases this
    refine iteFb (decide_eq_false (by omega)) ?_
    refine ⟨_, rfl, w, rfl, by omega, _, _, rfl, rfl, _, rfl, ?_⟩
    by_cases w8 : 8 < w.length
    · refine iteTb (decide_eq_true (by omega)) (iteT (no (.inl (hbad fun e => ?_)) _ s2))
      have := e.1
      unfold isNm at this
      rw [decide_eq_false (show ¬ w.length ≤ 8 by omega), Bool.and_false] at this
      cases this
    refine iteFb (decide_eq_false (by omega)) ?_
    have cl : (((acc.map (·.1)).map V.str).length : Nat) = acc.length := by rw [List.length_map, List.length_map]
    refine ⟨_, rfl, W, _, rfl, .inl (.of hW2), rfl, _, rfl, ?_⟩
    by_cases h40 : acc.length = 40
    · exact iteTb (decide_eq_true (by rw [cl, h40]; rfl)) (no (.inr h40) _ s2)
    refine iteFb (decide_eq_false (fun e => h40 (by have := V.int.inj e; rw [cl] at this; omega))) ?_
    dsimp only [tNext]
    have hnm : isNm w = (w.cps.toList.map inL).all id := by
      unfold isNm
      rw [decide_eq_true (show 1 ≤ w.length by omega), decide_eq_true (show w.length ≤ 8 by omega), List.all_map]
      rfl
    refine seq_by (fun σ H4 => ∃ v7, σ = [some (.str z), some (.ref W), some (.ref R), some (.str y), some (.int (Txt.find y (Str.ofString " = "))), some (.str w), v7, v8] ∧ H4 = H3 ∧ isNm w = true) (fun nx rest => ?_) (fun σ H4 hJ => ?_)
    · have hl : w.cps.size = w.length := rfl
      refine ⟨_, rfl, w, rfl, ?_⟩
      refine for_signs (fun j σ H4 => ∃ v7, σ = [some (.str z), some (.ref W), some (.ref R), some (.str y), some (.int (Txt.find y (Str.ofString " = "))), some (.str w), v7, v8] ∧ H4 = H3 ∧ ∀ c ∈ w.cps.toList.take j, inL c = true) ?start2 ?turn2 ?done2
      case start2 => exact ⟨_, rfl, rfl, fun c hc => by simp at hc⟩
      case turn2 =>
        rintro j x σ H4 hj ⟨c, hc, rfl⟩ ⟨v7', rfl, rfl, al4⟩
        have hc' : w.cps.toList[j]? = some c := by simpa using hc
        have cm := List.mem_of_getElem? hc'
        refine ⟨_, rfl, _, _, rfl, rfl, _, rfl, ?_⟩
        cases hi : inL c with
        | false =>
          refine iteTb (by show (!(inL c)) = true; rw [hi]; rfl) (no (.inl (hbad fun e => ?_)) _ s2)
          have := e.1
          rw [hnm, List.all_map, List.all_eq_true] at this
          have := this c cm
          rw [show (id ∘ inL) c = inL c from rfl, hi] at this
          cases this
        | true =>
          refine iteFb (by show (!(inL c)) = false; rw [hi]; rfl) ⟨_, rfl, rfl, fun c' hc2 => ?_⟩
          rw [List.take_succ, hc'] at hc2
          rcases List.mem_append.mp hc2 with z | z
          · exact al4 c' z
          · have : c' = c := by simpa using z
            rw [this]; exact hi
      case done2 =>
        rintro σ H4 ⟨v7', rfl, rfl, al4⟩
        refine rest _ _ ⟨_, rfl, rfl, ?_⟩
        rw [hnm, List.all_map, List.all_eq_true]
        intro c hc
        refine al4 c ?_
        rw [show w.cps.size = w.cps.toList.length from (Array.length_toList).symm, List.take_length]
        exact hc
    obtain ⟨v7', rfl, rfl, isn⟩ := hJ
    obtain ⟨w1', w2', w3', w4'⟩ := ww isn
    have w5 := w1'.resolve_right hin
    rw [w2', w4'] at *
    have e9 : Txt.slice y (some ((k : Int) + 3)) none = Builtin.Str.strSub y (k + 3) y.length := slice_from y (k := k + 3) w3'
    have len9 := sub_len y (k + 3) y.length
    refine ⟨_, rfl, _, rfl, _, _, rfl, rfl, _, rfl, y, rfl, by omega, ?_⟩
    refine ⟨_, rfl, rfl, _, W, acc.map (·.1), rfl, ?zl, by rw [List.length_map]; exact a40, hW2, fun H5 v s5 hv fr => ?_⟩
    case zl =>
      rw [show Txt.slice y (some ((k : Int) + 3)) none = _ from e9]
      omega
    rw [show Txt.slice y (some ((k : Int) + 3)) none = _ from e9] at hv
    cases hrp : readParts (acc.map (·.1)) (Builtin.Str.strSub y (k + 3) y.length) with
    | none =>
      rw [hrp] at hv
      have hv' : v = .non := hv
      subst hv'
      exact ⟨_, rfl, rfl, _, rfl, iteT (no (.inl (by rw [w5, hrp]; rfl)) _ (s2.trans s5))⟩
    | some bs =>
      rw [hrp] at hv
      have hv' : PartsL H5 bs v := hv
      obtain ⟨l, rfl, fsl, b8⟩ := id hv'
      have nl := fr l rfl
      have lW : l ≠ W := fun e => by subst e; rw [hW2] at nl; cases nl
      have lR : l ≠ R := fun e => by subst e; rw [hR2] at nl; cases nl
      have hW5 := s5 _ _ hW2
      have hR5 := s5 _ _ hR2
      have hC5 := s5 _ _ hC2
      refine ⟨_, rfl, rfl, _, rfl, iteFb (decide_eq_false (by intro e; cases e)) ?_⟩
      refine ⟨_, rfl, .inl ⟨rfl, _, .of hW5⟩, _, rfl, W, _, _, rfl, rfl, hW5, small1000 (by rw [cl]; omega), ?_⟩
      have bt1 : But1 W H5 (upd H5 W (.lst ((acc.map (·.1)).map V.str ++ [.str w]))) := fun c u nc e => (upd_ne nc).trans e
      have ea5 := (ea.imp fun r v (h : RowF W R H4 r v) => h.same s5).imp fun r v h => h.but bt1 hW5 (.inl rfl)
      have hP6 : PartsL (upd H5 W (.lst ((acc.map (·.1)).map V.str ++ [.str w]))) bs (.ref l) := by
        obtain ⟨vs, f1, f2⟩ := fsl
        exact ⟨l, rfl, ⟨vs, (upd_ne lW).trans f1, f2.imp fun p v q => q.but bt1 hW5⟩, b8⟩
      have hR6 : upd H5 W (.lst ((acc.map (·.1)).map V.str ++ [.str w])) R = some (.lst rs) := (upd_ne hWR.symm).trans hR5
      have hC6 : upd H5 W (.lst ((acc.map (·.1)).map V.str ++ [.str w])) C = some (.lst (ls.map V.str)) := (upd_ne hCW).trans hC5
      have hW6 : upd H5 W (.lst ((acc.map (·.1)).map V.str ++ [.str w])) W = some (.lst ((acc.map (·.1)).map V.str ++ [.str w])) := upd_same
      have s6 : Same H (upd H5 W (.lst ((acc.map (·.1)).map V.str ++ [.str w]))) := same_keep (s2.trans s5) nW
      generalize upd H5 W (.lst ((acc.map (·.1)).map V.str ++ [.str w])) = H6 at *
      have rl := ea.1
      refine ⟨_, rfl, .inl ⟨rfl, _, .of hR6⟩, _, rfl, _, rfl, few rfl, fun t nt => ?_⟩
      have st := same_upd (o := .tup [.str w, .ref l]) nt
      have ht : upd H6 t (.tup [.str w, .ref l]) t = some (.tup [.str w, .ref l]) := upd_same
      have hR7 := st _ _ hR6
      refine ⟨R, _, _, rfl, rfl, hR7, small1000 (by omega), ?_⟩
      have ea7 := ea5.imp fun r v (h : RowF W R H6 r v) => h.same st
      have hP7 := hP6.same st
      have hW7 := st _ _ hW6
      have hC7 := st _ _ hC6
      have s7 := s6.trans st
      generalize upd H6 t (.tup [.str w, .ref l]) = H7 at *
      have bt2 : But1 R H7 (upd H7 R (.lst (rs ++ [V.ref t]))) := fun c u nc e => (upd_ne nc).trans e
      have new : RowF W R H7 (w, bs) (.ref t) := ⟨t, .ref l, rfl, ht, hP7, fun e => lW (V.ref.inj e), fun e => lR (V.ref.inj e)⟩
      refine ⟨acc ++ [(w, bs)], rs ++ [V.ref t], _, _, _, _, _, rfl, (upd_ne hCR).trans hC7, ?_, upd_same, (ea7.imp fun r v h => h.but bt2 hR7 (.inr rfl)).snoc (new.but bt2 hR7 (.inr rfl)), by simp [al], by simp; omega, ?_, same_keep s7 nR0⟩
      · rw [upd_ne hWR, hW7]
        simp
      · rw [← ge2, w5, hrp]
        rfl
theorem ok__law_told (T : Tx K w mg) (G_Tongue___init__ : O_Tongue___init__ P base T) : O__law_told P base T := by
  refine Fun.okX (k := 8) T.d__law_told.F sc__law_told (fun vs H Q E h => h.1) (fun cdv A outer s H vs Q E hr h => ?_)
  obtain ⟨-, h⟩ := h
  obtain ⟨x, o, rfl, h, q0⟩ := h
  refine ⟨_, (pss_cons (ps_set (i := 1) sc__law_told.nd rfl (Or.inl rfl) pe_non)
      (pss_cons (ps_set (i := 2) sc__law_told.nd rfl (Or.inl rfl) pe_bl)
      (pss_cons (ps_tryAs rfl rfl (by rfl) T.m_NoTongue T.x_NoTongue EBb (i := 3) sc__law_told.nd rfl rfl (fun pins W E hE => (pss_one (ps_set (i := 1) sc__law_told.nd rfl (Or.inl rfl) (pe_makeX T.mk_Tongue G_Tongue___init__ (hr.mono (by decide)) (by rfl) T.m_Tongue T.d_Tongue___init__.b .nil hE (pa_cons (pv 0) pa_nil))))) (fun pins e => (pss_cons (ps_set (i := 2) sc__law_told.nd rfl (Or.inl rfl) (pe_and (pe_isi K (by rfl) T.n_isinstance (pa_cons (pv 3) (pa_cons (pe_glob (v := .ref T.c_HeirError) (by rfl) T.m_HeirError rfl) pa_nil))) (pe_one (pe_isi K (by rfl) T.n_isinstance (pa_cons (pv 3) (pa_cons (pe_bltn (v := .ty "ValueError") (by rfl) T.n_ValueError bt_ValueError rfl) pa_nil))))))
      (pss_cons (ps_if (pt_val (pe_isiX K (by rfl) T.n_isinstance (pa_cons (pv 3) (pa_cons (pe_tup (pa_cons (pe_glob (v := .ref T.c_Alive) (by rfl) T.m_Alive rfl) (pa_cons (pe_glob (v := .ref T.c_Barred) (by rfl) T.m_Barred rfl) (pa_cons (pe_glob (v := .ref T.c_Full) (by rfl) T.m_Full rfl) (pa_cons (pe_glob (v := .ref T.c_Marked) (by rfl) T.m_Marked rfl) (pa_cons (pe_glob (v := .ref T.c_NoCode) (by rfl) T.m_NoCode rfl) (pa_cons (pe_glob (v := .ref T.c_NoEntry) (by rfl) T.m_NoEntry rfl) (pa_cons (pe_glob (v := .ref T.c_NoFit) (by rfl) T.m_NoFit rfl) (pa_cons (pe_glob (v := .ref T.c_NoNumber) (by rfl) T.m_NoNumber rfl) (pa_cons (pe_glob (v := .ref T.c_NoPerson) (by rfl) T.m_NoPerson rfl) pa_nil)))))))))) pa_nil)))) (pss_one (ps_set (i := 2) sc__law_told.nd rfl (Or.inl rfl) pe_bl)) pss_nil)
      (pss_one (ps_if (pt_val (pe_isiX K (by rfl) T.n_isinstance (pa_cons (pv 3) (pa_cons (pe_tup (pa_cons (pe_glob (v := .ref T.c_NoRow) (by rfl) T.m_NoRow rfl) (pa_cons (pe_glob (v := .ref T.c_NoWay) (by rfl) T.m_NoWay rfl) (pa_cons (pe_glob (v := .ref T.c_NoWord) (by rfl) T.m_NoWord rfl) (pa_cons (pe_glob (v := .ref T.c_TooMany) (by rfl) T.m_TooMany rfl) (pa_cons (pe_glob (v := .ref T.c_Twice) (by rfl) T.m_Twice rfl) (pa_cons (pe_glob (v := .ref T.c_Unsure) (by rfl) T.m_Unsure rfl) pa_nil))))))) pa_nil)))) (pss_one (ps_set (i := 2) sc__law_told.nd rfl (Or.inl rfl) pe_bl)) pss_nil))))))
      (pss_one (ps_ret (pe_lst (pa_cons (pv 1) (pa_cons (pv 2) pa_nil)))))))), ?_⟩
  dsimp only [gName, tSeq, tAsg, tC]
  have tw : ∀ a b o1 o2, H a = none → H b = none → Same H (upd (upd H b o1) a o2) := fun a b o1 o2 na nb => same_keep (same_upd nb) na
  rcases h with ⟨ty, hk, ks, ho⟩ | ⟨z, rfl, hz, ho⟩
  · have qn : ∀ H' D, Same H H' → SqL K H' D [.non, .bl true] → Q (.ref D) H' := fun H' D s hD => q0 _ D _ _ s (by rw [ho]; exact ⟨rfl, rfl⟩) hD
    refine try_asF (σ' := [some x, some .non, some (.bl false), none]) (H := H) (fun H1 e s1 he => ?_) (fun E' caught => ?_)
    · refine ⟨_, rfl, _, .ref T.c_HeirError, _, _, rfl, rfl, .exc T.e_NoTongue upd_same, T.kx_HeirError, _, rfl, iteT ⟨_, rfl, _, .ty "ValueError", _, _, rfl, rfl, .exc T.e_NoTongue upd_same, T.kx_ValueError, ?_⟩⟩
      refine ⟨_, rfl, few rfl, fun p np => ⟨e, T.c_NoTongue, p, _, false, rfl, (same_upd np) e _ upd_same, T.e_NoTongue, .of upd_same, rfl, (kitAny_cons T.kx_Alive (kitAny_cons T.kx_Barred (kitAny_cons T.kx_Full (kitAny_cons T.kx_Marked (kitAny_cons T.kx_NoCode (kitAny_cons T.kx_NoEntry (kitAny_cons T.kx_NoFit (kitAny_cons T.kx_NoNumber (kitAny_cons T.kx_NoPerson kitAny_nil))))))))), _, rfl, iteF ?_⟩⟩
      have g1 := (same_upd (o := .tup [.ref T.c_Alive, .ref T.c_Barred, .ref T.c_Full, .ref T.c_Marked, .ref T.c_NoCode, .ref T.c_NoEntry, .ref T.c_NoFit, .ref T.c_NoNumber, .ref T.c_NoPerson]) np)
      refine ⟨_, rfl, few rfl, fun p2 np2 => ⟨e, T.c_NoTongue, p2, _, false, rfl, (same_upd np2) e _ (g1 e _ upd_same), T.e_NoTongue, .of upd_same, rfl, (kitAny_cons T.kx_NoRow (kitAny_cons T.kx_NoWay (kitAny_cons T.kx_NoWord (kitAny_cons T.kx_TooMany (kitAny_cons T.kx_Twice (kitAny_cons T.kx_Unsure kitAny_nil)))))), _, rfl, iteF ?_⟩⟩
      refine ⟨_, rfl, _, rfl, few rfl, fun D nD => qn _ D ?_ (.of upd_same)⟩
      exact s1.trans ((same_upd he).trans (g1.trans ((same_upd np2).trans (same_upd nD))))
  
    · refine ⟨_, rfl, fun a dx na ndx ne => ⟨rfl, a, dx, x, rfl, upd_same, .inl ⟨ty, (tw _ _ _ _ na ndx).kd hk, ks, fun H' s' => caught _ ((tw _ _ _ _ na ndx).trans s')⟩⟩⟩
  cases hw : readRows z with
  | none =>
    have qn : ∀ H' D, Same H H' → SqL K H' D [.non, .bl true] → Q (.ref D) H' := fun H' D s hD => q0 _ D _ _ s (by rw [ho, hw]; exact ⟨rfl, rfl⟩) hD
    refine try_asF (σ' := [some (.str z), some .non, some (.bl false), none]) (H := H) (fun H1 e s1 he => ?_) (fun E' caught => ?_)
    · refine ⟨_, rfl, _, .ref T.c_HeirError, _, _, rfl, rfl, .exc T.e_NoTongue upd_same, T.kx_HeirError, _, rfl, iteT ⟨_, rfl, _, .ty "ValueError", _, _, rfl, rfl, .exc T.e_NoTongue upd_same, T.kx_ValueError, ?_⟩⟩
      refine ⟨_, rfl, few rfl, fun p np => ⟨e, T.c_NoTongue, p, _, false, rfl, (same_upd np) e _ upd_same, T.e_NoTongue, .of upd_same, rfl, (kitAny_cons T.kx_Alive (kitAny_cons T.kx_Barred (kitAny_cons T.kx_Full (kitAny_cons T.kx_Marked (kitAny_cons T.kx_NoCode (kitAny_cons T.kx_NoEntry (kitAny_cons T.kx_NoFit (kitAny_cons T.kx_NoNumber (kitAny_cons T.kx_NoPerson kitAny_nil))))))))), _, rfl, iteF ?_⟩⟩
      have g1 := (same_upd (o := .tup [.ref T.c_Alive, .ref T.c_Barred, .ref T.c_Full, .ref T.c_Marked, .ref T.c_NoCode, .ref T.c_NoEntry, .ref T.c_NoFit, .ref T.c_NoNumber, .ref T.c_NoPerson]) np)
      refine ⟨_, rfl, few rfl, fun p2 np2 => ⟨e, T.c_NoTongue, p2, _, false, rfl, (same_upd np2) e _ (g1 e _ upd_same), T.e_NoTongue, .of upd_same, rfl, (kitAny_cons T.kx_NoRow (kitAny_cons T.kx_NoWay (kitAny_cons T.kx_NoWord (kitAny_cons T.kx_TooMany (kitAny_cons T.kx_Twice (kitAny_cons T.kx_Unsure kitAny_nil)))))), _, rfl, iteF ?_⟩⟩
      refine ⟨_, rfl, _, rfl, few rfl, fun D nD => qn _ D ?_ (.of upd_same)⟩
      exact s1.trans ((same_upd he).trans (g1.trans ((same_upd np2).trans (same_upd nD))))
  
    · refine ⟨_, rfl, fun a dx na ndx ne => ⟨rfl, a, dx, _, rfl, upd_same, .inr ⟨z, rfl, hz, fun ws e => absurd (hw.symm.trans e) (by simp), fun _ H' s' => caught _ ((tw _ _ _ _ na ndx).trans s')⟩⟩⟩
  | some rows =>
    refine ⟨_, rfl, fun a dx na ndx ne => ⟨rfl, a, dx, _, rfl, upd_same, .inr ⟨z, rfl, hz, fun rows' e H1 bt ht => ?_, fun no => absurd (hw.symm.trans no) (by simp)⟩⟩⟩
    cases hw.symm.trans e
    have sm := made_same na ndx bt
    refine ⟨rfl, _, rfl, _, rfl, few rfl, fun D nD => q0 _ D _ _ (sm.trans (same_upd nD)) ?_ (.of upd_same)⟩
    rw [ho, hw]
    exact ⟨z, ht.same (same_upd nD), rfl⟩
theorem ok__law_good (T : Tx K w mg) (G_Tongue_words : O_Tongue_words P base T) (G_Tongue_parts : O_Tongue_parts P base T) (G__law_told : O__law_told P base T) : O__law_good P base T := by
  refine Fun.okX (k := 9) T.d__law_good.F sc__law_good (fun vs H Q E h => h.1) (fun cdv A outer s H vs Q E hr h => ?_)
  obtain ⟨-, h⟩ := h
  obtain ⟨x, D, rows, rfl, hx, hd, nd, q⟩ := h
  refine ⟨_, (pss_cons (ps_set (i := 2) sc__law_good.nd rfl (Or.inl rfl) (pe_ix ix_list (pe_callX G__law_told (hr.mono (by decide)) (by rfl) T.d__law_told.m T.d__law_told.F.kp T.d__law_told.b .nil pass_none (pa_cons (pv 0) pa_nil)) pe_int (fun _ _ => rfl)))
      (pss_cons (ps_if (PW.pt (pw_or (pt_cmpR op_isN (pv 2) pe_non (nomark _)) (pw_or1 (pt_cmpR (op_neL hr.units) (pe_methX0 (pv 2) T.cl_Tongue T.d_Tongue_words.me G_Tongue_words (hr.mono (by decide)) T.d_Tongue_words.b .nil pass_none) (pe_comp rfl (comp_scF (N := ["_law_word", "_law_branches"]) [] [none, none] rfl (by decide +kernel) (by decide +kernel) (by rfl) (by rfl) (by rfl) (by rfl) (by rfl)) (pi_list (pv 1)) (fun _ _ _ => (pg_tupK (n := 2) K rfl (pgs_cons (pg_name (i := 0) nd_6 rfl (Or.inl rfl)) (pgs_cons (pg_name (i := 1) nd_6 rfl (Or.inl rfl)) pgs_nil)))) (fun _ _ _ => pts_nil) (fun _ _ _ => (pv 0))) (nomark _))))) (pss_one (ps_ret pe_bl)) pss_nil)
      (pss_cons (ps_for PassesOwn.leaving rfl (pi_list (pv 1)) (pg_tup rfl (pgs_cons (pg_name (i := 3) sc__law_good.nd rfl (Or.inl rfl)) (pgs_cons (pg_name (i := 4) sc__law_good.nd rfl (Or.inl rfl)) pgs_nil)))
        (pss_one (ps_if (pt_cmpR (op_neL hr.units) (pe_methX (pv 2) T.cl_Tongue T.d_Tongue_parts.me G_Tongue_parts (hr.mono (by decide)) T.d_Tongue_parts.b .nil pass_none (pa_cons (pv 3) pa_nil)) (pv 4) (nomark _)) (pss_one (ps_ret pe_bl)) pss_nil)))
      (pss_one (ps_ret pe_bl))))), ?_⟩
  refine ⟨_, rfl, rfl, x, _, rfl, hx, fun H1 L v bb s1 ht hL => ?_⟩
  obtain ⟨z, ht, rfl⟩ := ht
  obtain ⟨D', rs, eD, hD, er, hlen⟩ := hd.same s1
  cases eD
  obtain ⟨b, dx, d, rfl, hb, hd2⟩ := id ht
  refine ⟨L, _, _, _, rfl, rfl, hL, at0v, ?_⟩
  refine ⟨_, rfl, rfl, _, rfl, iteFb (decide_eq_false (by intro e; cases e)) ?_⟩
  refine ⟨_, rfl, b, dx, _, rfl, hb, rfl, rfl, .ref b, rows, z, rfl, ht, fun H2 W s2 nW hW => ?_⟩
  have hD2 := s2 _ _ hD
  have rl := er.1
  refine ⟨_, rfl, D, rfl, ⟨_, .of hD2⟩, comp_run ((rows.map (·.1)).map V.str) (small1000 (by simp; omega)) (fun σ => ∃ v1 v2, σ = [v1, v2]) ⟨_, _, rfl⟩ (fun i H3 hi sm => ?go) (fun H3 sm => ?stop) (fun i σ H3 x H4 y hy hσ sm hx C hC => ?step) (fun D2 H3 nD2 sm hD2' => ?fin)⟩
  case go => exact ⟨_, _, sm.sql (.of hD2), List.getElem?_eq_getElem (by simp at hi; omega)⟩
  case stop => exact ⟨_, sm.sql (.of hD2), by simp; omega⟩
  case step =>
    obtain ⟨v1, v2, rfl⟩ := hσ
    obtain ⟨rfl, hx⟩ := hx
    obtain ⟨r, hrr, t, u, rfl, h1, h2⟩ := er.get' (hx _ (sm.sql (.of hD2)))
    rw [List.getElem?_map, List.getElem?_map, hrr] at hy
    cases hy
    exact ⟨t, _, rfl, .of (sm _ _ (s2 _ _ h1)), rfl, _, _, rfl, _, _, rfl, rfl, _, rfl, hC _ _ ⟨_, _, rfl⟩ (Same.refl _)⟩
  case fin =>
    refine ⟨(rows.map (·.1)).map L2.D.str, (rows.map (·.1)).map L2.D.str, ⟨W, _, rfl, sm.sql (.of hW), strs_is _⟩, ⟨D2, _, rfl, .of hD2', strs_is _⟩, Nat.le_trans (strs_dep _) (by decide), _, rfl, ?_⟩
    rw [deqL_refl]
    have s3 := s2.trans sm
    refine iteF ?_
    refine ⟨_, rfl, D, rfl, ⟨_, .of (sm _ _ hD2)⟩, for_list (xs := rs) (fun i σ H4 => (∃ v4 v5, σ = [some x, some (.ref D), some (.ref b), v4, v5]) ∧ Same H1 H4) ?start ?sq ?turn ?done⟩
    case start => exact ⟨⟨_, _, rfl⟩, s3⟩
    case sq =>
      rintro i σ H4 _ ⟨_, s4⟩
      exact .of (s4 _ _ hD)
    case done =>
      rintro σ H4 ⟨⟨v4, v5, rfl⟩, s4⟩
      exact q _ (s1.trans s4)
    case turn =>
      rintro i x' σ H4 hx4 ⟨⟨v4, v5, rfl⟩, s4⟩
      obtain ⟨r, hrr, t, u, rfl, h1, l, rfl, hfs, b8⟩ := er.get' hx4
      have ht4 := ht.same s4
      have hb4 := s4 _ _ hb
      refine ⟨t, _, rfl, .of (s4 _ _ h1), rfl, _, _, rfl, _, _, rfl, rfl, ?_⟩
      refine ⟨_, rfl, b, dx, _, rfl, hb4, rfl, _, rfl, rfl, .ref b, _, rows, z, rfl, ht4, .inr ⟨i, r, rfl, hrr, nd, fun H5 D5 s5 nD5 hF => ?_⟩⟩
      obtain ⟨us, g1, g2⟩ := hfs.same (s4.trans s5)
      obtain ⟨us', f1, f2⟩ := hF
      refine ⟨_, rfl, r.2.map dB, r.2.map dB, ⟨D5, _, rfl, .of f1, fs_is f2⟩, ⟨l, _, rfl, .of g1, fs_is g2⟩, Nat.le_trans (fs_dep _) (by decide), _, rfl, ?_⟩
      rw [deqL_refl]
      exact iteF ⟨⟨_, _, rfl⟩, s4.trans s5⟩
theorem ok_law (T : Tx K w mg) (G__law_cell_at : O__law_cell_at P base T) (G__law_words : O__law_words P base T) (G__law_rows : O__law_rows P base T) (G__law_text : O__law_text P base T) (G__law_too_long : O__law_too_long P base T) (G__law_spoiled : O__law_spoiled P base T) (G__law_read : O__law_read P base T) (G__law_told : O__law_told P base T) (G__law_good : O__law_good P base T) : O_law P base T := by
  refine Fun.okX (k := 10) T.d_law.F sc_law (fun vs H Q E h => h.1) (fun cdv A outer s H vs Q E hr h => ?_)
  obtain ⟨-, h⟩ := h
  obtain ⟨l, ns, rfl, hS, hlen, q⟩ := h
  refine ⟨_, (pss_cons (ps_set (i := 1) sc_law.nd rfl (Or.inl rfl) (pe_callX G__law_words (hr.mono (by decide)) (by rfl) T.d__law_words.m T.d__law_words.F.kp T.d__law_words.b .nil pass_none (pa_cons (pe_callX G__law_cell_at (hr.mono (by decide)) (by rfl) T.d__law_cell_at.m T.d__law_cell_at.F.kp T.d__law_cell_at.b .nil pass_none (pa_cons (pv 0) (pa_cons pe_int pa_nil))) pa_nil)))
      (pss_cons (ps_set (i := 2) sc_law.nd rfl (Or.inl rfl) (pe_callX G__law_rows (hr.mono (by decide)) (by rfl) T.d__law_rows.m T.d__law_rows.F.kp T.d__law_rows.b .nil pass_none (pa_cons (pe_op op_cat (pe_lst (pa_cons (pe_callX G__law_cell_at (hr.mono (by decide)) (by rfl) T.d__law_cell_at.m T.d__law_cell_at.F.kp T.d__law_cell_at.b .nil pass_none (pa_cons (pv 0) (pa_cons pe_int pa_nil))) pa_nil)) (pe_slice sl_list (pv 0) (po_some pe_int) (po_some pe_int))) (pa_cons (pv 1) pa_nil))))
      (pss_cons (ps_set (i := 3) sc_law.nd rfl (Or.inl rfl) (pe_callX G__law_text (hr.mono (by decide)) (by rfl) T.d__law_text.m T.d__law_text.F.kp T.d__law_text.b .nil pass_none (pa_cons (pv 2) pa_nil)))
      (pss_cons (ps_set (i := 4) sc_law.nd rfl (Or.inl rfl) (pe_op op_modN (pe_callX G__law_cell_at (hr.mono (by decide)) (by rfl) T.d__law_cell_at.m T.d__law_cell_at.F.kp T.d__law_cell_at.b .nil pass_none (pa_cons (pv 0) (pa_cons pe_int pa_nil))) pe_int))
      (pss_cons (ps_set (i := 5) sc_law.nd rfl (Or.inl rfl) (pe_callX G__law_cell_at (hr.mono (by decide)) (by rfl) T.d__law_cell_at.m T.d__law_cell_at.F.kp T.d__law_cell_at.b .nil pass_none (pa_cons (pv 0) (pa_cons pe_int pa_nil))))
      (pss_cons (ps_set (i := 6) sc_law.nd rfl (Or.inl rfl) (pv 3))
      (pss_cons (ps_if (PW.pt (pw_and (pt_cmpR op_gt (pv 4) pe_int (nomark _)) (pw_and1 (pt_cmpR op_lt (pv 4) pe_int (nomark _))))) (pss_one (ps_set (i := 6) sc_law.nd rfl (Or.inl rfl) (pe_callX G__law_spoiled (hr.mono (by decide)) (by rfl) T.d__law_spoiled.m T.d__law_spoiled.F.kp T.d__law_spoiled.b .nil pass_none (pa_cons (pv 3) (pa_cons (pv 5) (pa_cons (pv 4) pa_nil)))))) pss_nil)
      (pss_cons (ps_if (pt_cmpR op_gt (pv 4) pe_int (nomark _)) (pss_one (ps_set (i := 6) sc_law.nd rfl (Or.inl rfl) (pe_callX G__law_too_long (hr.mono (by decide)) (by rfl) T.d__law_too_long.m T.d__law_too_long.F.kp T.d__law_too_long.b .nil pass_none (pa_cons (pe_callX G__law_rows (hr.mono (by decide)) (by rfl) T.d__law_rows.m T.d__law_rows.F.kp T.d__law_rows.b .nil pass_none (pa_cons (pe_op op_cat (pe_lst (pa_cons (pe_callX G__law_cell_at (hr.mono (by decide)) (by rfl) T.d__law_cell_at.m T.d__law_cell_at.F.kp T.d__law_cell_at.b .nil pass_none (pa_cons (pv 0) (pa_cons pe_int pa_nil))) pa_nil)) (pe_slice sl_list (pv 0) (po_some pe_int) (po_some pe_int))) (pa_cons (pv 1) pa_nil))) (pa_cons (pv 1) (pa_cons (pe_op op_modN (pv 5) pe_int) pa_nil)))))) pss_nil)
      (pss_cons (ps_set (i := 7) sc_law.nd rfl (Or.inl rfl) (pe_callX G__law_read (hr.mono (by decide)) (by rfl) T.d__law_read.m T.d__law_read.F.kp T.d__law_read.b .nil pass_none (pa_cons (pv 6) pa_nil)))
      (pss_cons (ps_if (pt_cmpR op_eq (pe_op op_modN (pe_op op_fdivB (pe_callX G__law_cell_at (hr.mono (by decide)) (by rfl) T.d__law_cell_at.m T.d__law_cell_at.F.kp T.d__law_cell_at.b .nil pass_none (pa_cons (pv 0) (pa_cons pe_int pa_nil))) pe_int) pe_int) pe_int (nomark _)) (pss_cons (ps_set (i := 6) sc_law.nd rfl (Or.inl rfl) (pe_ix ix_list (pe_lst (pa_cons pe_non (pa_cons pe_bl (pa_cons pe_int (pa_cons (pe_tup (pa_cons (pv 3) pa_nil)) (pa_cons (pe_lst (pa_cons (pv 3) pa_nil)) (pa_cons pe_dnewK pa_nil))))))) (pe_op op_modN (pv 5) pe_int) (fun _ _ => rfl)))
      (pss_one (ps_set (i := 7) sc_law.nd rfl (Or.inl rfl) pe_non))) pss_nil)
      (pss_cons (ps_if (pt_cmpR op_isN (pv 7) pe_non (nomark _)) (pss_one (ps_if (pt_not (pt_val (pe_ix ix_list (pe_callX G__law_told (hr.mono (by decide)) (by rfl) T.d__law_told.m T.d__law_told.F.kp T.d__law_told.b .nil pass_none (pa_cons (pv 6) pa_nil)) pe_int (fun _ _ => rfl)))) (pss_one (ps_ret pe_bl)) pss_nil)) (pss_one (ps_if (pt_not (pt_val (pe_callX G__law_good (hr.mono (by decide)) (by rfl) T.d__law_good.m T.d__law_good.F.kp T.d__law_good.b .nil pass_none (pa_cons (pv 6) (pa_cons (pv 7) pa_nil))))) (pss_one (ps_ret pe_bl)) pss_nil)))
      (pss_one (ps_ret (pe_callX G__law_good (hr.mono (by decide)) (by rfl) T.d__law_good.m T.d__law_good.F.kp T.d__law_good.b .nil pass_none (pa_cons (pv 3) (pa_cons (pe_callX G__law_read (hr.mono (by decide)) (by rfl) T.d__law_read.m T.d__law_read.F.kp T.d__law_read.b .nil pass_none (pa_cons (pv 3) pa_nil)) pa_nil)))))))))))))))), ?_⟩
  have zd : ∀ n : Int, 1 ≤ n → n ≤ 100 → n ≠ 0 ∧ n.natAbs < 2 ^ 1000 := fun n h1 h2 => ⟨by omega, Nat.lt_of_le_of_lt (show n.natAbs ≤ 100 by omega) (by decide +kernel)⟩
  refine ⟨_, rfl, rfl, l, ns, 2, rfl, hS, by decide, fun c => ⟨rfl, c, rfl, fun H1 W ws s1 nW hW wo w42 => ?_⟩⟩
  obtain ⟨cs, ecs, csl⟩ := cut_any ns 4 50
  refine ⟨_, rfl, rfl, l, ns, 3, rfl, (s1).sql hS, by decide, fun cA => ⟨few rfl, fun L1A n1 => ?_⟩⟩
  have ecs' : cutV (ns.map V.int) (some 4) (some 50) = cs.map V.int := ecs
  have sAA := (s1).trans (same_upd (o := .lst [.int cA]) n1)
  refine ⟨_, rfl, _, rfl, _, rfl, l, _, rfl, sAA.sql hS, fun L2A n2 => ?_⟩
  rw [ecs']
  have sBA := sAA.trans (same_upd (o := .lst (cs.map V.int)) n2)
  have hL1A := (same_upd (o := .lst (cs.map V.int)) n2) _ _ (upd_same (H := H1) (a := L1A) (o := .lst [.int cA]))
  have hL2A : upd (upd H1 L1A (.lst [.int cA])) L2A (.lst (cs.map V.int)) L2A = some (.lst (cs.map V.int)) := upd_same
  have hWaA := (same_upd (o := .lst (cs.map V.int)) n2) _ _ ((same_upd (o := .lst [.int cA]) n1) _ _ hW)
  generalize upd (upd H1 L1A (.lst [.int cA])) L2A (.lst (cs.map V.int)) = HaA at *
  refine ⟨L1A, L2A, [.int cA], cs.map V.int, rfl, rfl, hL1A, hL2A, ?len, fun L3A n3 => ?_⟩
  case len => exact Nat.le_of_lt (small1000 (by simp; omega))
  have s3A := same_upd (o := .lst ([V.int cA] ++ cs.map V.int)) n3
  have hL3A : upd HaA L3A (.lst ([V.int cA] ++ cs.map V.int)) L3A = some (.lst ((cA :: cs).map V.int)) := upd_same
  have hWbA := s3A _ _ hWaA
  have sCA := sBA.trans s3A
  generalize upd HaA L3A (.lst ([V.int cA] ++ cs.map V.int)) = HbA at *
  refine ⟨_, rfl, rfl, L3A, cA :: cs, W, ws, rfl, .of hL3A, by simp, by simp; omega, hWbA, wo, fun H4 a rs ow g => ?_⟩
  have gR := g.good wo
  have ra := ow.rat
  obtain ⟨_, tl⟩ := txt_read gR
  have tr := txt_rows gR
  have s4 := sCA.trans ow.2.2
  have hW4 := ow.2.2 _ _ hWbA
  refine ⟨_, rfl, rfl, a, rs, rfl, ra, gR.bnd, fun H5 s45 => ?_⟩
  have s5 := s4.trans s45
  have hW5 := s45 _ _ hW4
  clear ow ra
  generalize hgd : txt (rs.map LR.row) = gd at *
  have gnd := gR.nd
  generalize rs.map LR.row = gr at *
  refine ⟨_, rfl, rfl, l, ns, 0, rfl, s5.sql hS, by decide, fun c0 => ⟨_, _, rfl, rfl, (zd 7 (by decide) (by decide)).1, ?_⟩⟩
  refine ⟨_, rfl, rfl, l, ns, 1, rfl, s5.sql hS, by decide, fun c1 => ?_⟩
  refine ⟨_, rfl, ?_⟩
  try dsimp only
  generalize c0.fmod 7 = way at *
  dsimp only [gName]
  refine seq_by (fun σ H6 => ∃ y, σ = [some (.ref l), some (.ref W), some (.ref a), some (.str gd), some (.int way), some (.int c1), some (.str y), none] ∧ y.length ≤ 70000 ∧ Same H H6 ∧ H6 W = some (.lst (ws.map V.str))) (fun nx rest => ?_) (fun σ H6 hJ => ?_)
  · have done : nx [some (.ref l), some (.ref W), some (.ref a), some (.str gd), some (.int way), some (.int c1), some (.str gd), none] H5 := rest _ _ ⟨gd, rfl, by omega, s5, hW5⟩
    refine ⟨_, rfl, _, _, rfl, rfl, _, rfl, iteB (fun h1 => ?_) (fun h1 => iteF done)⟩
    refine ⟨_, rfl, _, _, rfl, rfl, _, rfl, iteB (fun h2 => ?_) (fun h2 => done)⟩
    exact ⟨_, rfl, _, rfl, _, rfl, rfl, gd, c1, way, rfl, by omega, fun H7 y s7 yl => rest _ _ ⟨y, rfl, yl, s5.trans s7, s7 _ _ hW5⟩⟩
  obtain ⟨y, rfl, yl, s6, hW6⟩ := hJ
  refine seq_by (fun σ H7 => ∃ y, σ = [some (.ref l), some (.ref W), some (.ref a), some (.str gd), some (.int way), some (.int c1), some (.str y), none] ∧ y.length ≤ 70000 ∧ Same H H7) (fun nx rest => ?_) (fun σ H7 hJ => ?_)
  · refine ⟨_, rfl, _, _, rfl, rfl, _, rfl, iteB (fun h1 => ?_) (fun h1 => rest _ _ ⟨y, rfl, yl, s6⟩)⟩
    refine ⟨_, rfl, rfl, l, ns, 3, rfl, (s6).sql hS, by decide, fun cB => ⟨few rfl, fun L1B n1 => ?_⟩⟩
    have ecs' : cutV (ns.map V.int) (some 4) (some 50) = cs.map V.int := ecs
    have sAB := (s6).trans (same_upd (o := .lst [.int cB]) n1)
    refine ⟨_, rfl, _, rfl, _, rfl, l, _, rfl, sAB.sql hS, fun L2B n2 => ?_⟩
    rw [ecs']
    have sBB := sAB.trans (same_upd (o := .lst (cs.map V.int)) n2)
    have hL1B := (same_upd (o := .lst (cs.map V.int)) n2) _ _ (upd_same (H := H6) (a := L1B) (o := .lst [.int cB]))
    have hL2B : upd (upd H6 L1B (.lst [.int cB])) L2B (.lst (cs.map V.int)) L2B = some (.lst (cs.map V.int)) := upd_same
    have hWaB := (same_upd (o := .lst (cs.map V.int)) n2) _ _ ((same_upd (o := .lst [.int cB]) n1) _ _ hW6)
    generalize upd (upd H6 L1B (.lst [.int cB])) L2B (.lst (cs.map V.int)) = HaB at *
    refine ⟨L1B, L2B, [.int cB], cs.map V.int, rfl, rfl, hL1B, hL2B, ?len, fun L3B n3 => ?_⟩
    case len => exact Nat.le_of_lt (small1000 (by simp; omega))
    have s3B := same_upd (o := .lst ([V.int cB] ++ cs.map V.int)) n3
    have hL3B : upd HaB L3B (.lst ([V.int cB] ++ cs.map V.int)) L3B = some (.lst ((cB :: cs).map V.int)) := upd_same
    have hWbB := s3B _ _ hWaB
    have sCB := sBB.trans s3B
    generalize upd HaB L3B (.lst ([V.int cB] ++ cs.map V.int)) = HbB at *
    refine ⟨_, rfl, rfl, L3B, cB :: cs, W, ws, rfl, .of hL3B, by simp, by simp; omega, hWbB, wo, fun H8 a8 rs8 ow8 g8 => ?_⟩
    exact ⟨_, rfl, _, rfl, _, _, rfl, rfl, (zd 6 (by decide) (by decide)).1, rfl, a8, W, ws, _, rs8, HbB, rfl, ow8, hWbB, wo, w42, g8, fun H9 y9 s9 yl9 => rest _ _ ⟨y9, rfl, by omega, sCB.trans s9⟩⟩
  obtain ⟨y, rfl, yl, s7⟩ := hJ
  refine ⟨_, rfl, rfl, y, rfl, by omega, fun H8 v s78 hv => ?_⟩
  have s8 := s7.trans s78
  dsimp only [gName]
  refine seq_by (fun σ H9 => ∃ x v o, σ = [some (.ref l), some (.ref W), some (.ref a), some (.str gd), some (.int way), some (.int c1), some x, some v] ∧ ThingT K H9 x o ∧ DueR H9 o v ∧ Same H H9) (fun nx rest => ?_) (fun σ H9 hJ => ?_)
  · refine ⟨_, rfl, rfl, l, ns, 0, rfl, s8.sql hS, by decide, fun c9 => ⟨_, _, rfl, rfl, zd 7 (by decide) (by decide), _, _, rfl, rfl, (by decide : (9 : Int) ≠ 0), rfl, _, rfl, iteB (fun h1 => ?_) (fun h1 => ?_)⟩⟩
    · refine ⟨_, rfl, few rfl, fun a1 n1 => ⟨_, rfl, few rfl, fun a2 n2 => fun a3 n3 => ⟨few rfl, fun a4 n4 => ?_⟩⟩⟩
      have e1 := same_upd (o := .tup [.str gd]) n1
      have e2 := same_upd (o := .lst [.str gd]) n2
      have e3 := same_upd (o := .dK []) n3
      have e4 := same_upd (o := .lst [.non, .bl true, .int 7, .ref a1, .ref a2, .ref a3]) n4
      have sZ := s8.trans (e1.trans (e2.trans (e3.trans e4)))
      have g1 := (e2.trans (e3.trans e4)) a1 _ upd_same
      have g2 := (e3.trans e4) a2 _ upd_same
      have g3 := e4 a3 _ upd_same
      have m0 := mod_lo c1 (show (0 : Int) < 6 by decide)
      have m1 := mod_hi c1 (show (0 : Int) < 6 by decide)
      obtain ⟨x, hat, hx⟩ : ∃ x, atI [.non, .bl true, .int 7, .ref a1, .ref a2, .ref a3] (c1.fmod 6) = some x ∧ ThingT K _ x none := by
        have h8 : c1.fmod 6 = 0 ∨ c1.fmod 6 = 1 ∨ c1.fmod 6 = 2 ∨ c1.fmod 6 = 3 ∨ c1.fmod 6 = 4 ∨ c1.fmod 6 = 5 := by omega
        rcases h8 with h | h | h | h | h | h <;> rw [h]
        · exact ⟨_, atI_nat (j := 0) rfl, .inl ⟨_, .of .non, T.k_NoneType_str, rfl⟩⟩
        · exact ⟨_, atI_nat (j := 1) rfl, .inl ⟨_, .of (.bl _), T.k_bool_str, rfl⟩⟩
        · exact ⟨_, atI_nat (j := 2) rfl, .inl ⟨_, .of (.int _), T.k_int_str, rfl⟩⟩
        · exact ⟨_, atI_nat (j := 3) rfl, .inl ⟨_, .of (.tup g1), T.k_tuple_str, rfl⟩⟩
        · exact ⟨_, atI_nat (j := 4) rfl, .inl ⟨_, .of (.lst g2), T.k_list_str, rfl⟩⟩
        · exact ⟨_, atI_nat (j := 5) rfl, .inl ⟨_, .of (.dK g3), T.k_dict_str, rfl⟩⟩
      exact ⟨_, rfl, _, _, rfl, rfl, (by decide : (6 : Int) ≠ 0), a4, _, _, _, rfl, rfl, .of upd_same, hat, rest _ _ ⟨x, .non, none, rfl, hx, rfl, sZ⟩⟩
    · exact rest _ _ ⟨.str y, v, readRows y, rfl, .inr ⟨y, rfl, by omega, rfl⟩, hv, s8⟩
  obtain ⟨x, v, o, rfl, hx, hv, s9⟩ := hJ
  refine seq_by (fun σ H10 => σ = [some (.ref l), some (.ref W), some (.ref a), some (.str gd), some (.int way), some (.int c1), some x, some v]) (fun nx rest => ?_) (fun σ H10 hJ => ?_)
  · cases o with
    | none =>
      have hv' : v = .non := hv
      subst hv'
      refine ⟨_, rfl, rfl, _, rfl, iteT ?_⟩
      refine ⟨_, rfl, rfl, x, none, rfl, hx, fun H10 D v10 b10 s10 ht hD => ?_⟩
      obtain ⟨_, rfl⟩ := ht
      exact ⟨D, _, _, _, rfl, rfl, hD, at1v, _, rfl, iteF (rest _ _ rfl)⟩
    | some rows =>
      obtain ⟨Dd, vs, rfl, hd⟩ := id hv
      have nd : (rows.map (·.1)).Nodup := by
        rcases hx with ⟨_, _, _, e⟩ | ⟨z, _, _, e⟩
        · cases e
        · exact read_nd e.symm
      refine ⟨_, rfl, rfl, _, rfl, iteFb (decide_eq_false (by intro e; cases e)) ?_⟩
      exact ⟨_, rfl, _, rfl, rfl, x, Dd, rows, rfl, hx, hv, nd, fun H10 s10 => ⟨_, rfl, iteF (rest _ _ rfl)⟩⟩
  subst hJ
  refine ⟨_, rfl, _, rfl, rfl, gd, rfl, by omega, fun H11 v11 s11 hv11 => ?_⟩
  rw [tr] at hv11
  obtain ⟨Dd, vs, rfl, hd⟩ := id hv11
  exact ⟨rfl, .str gd, Dd, gr, rfl, .inr ⟨gd, rfl, by omega, tr.symm⟩, hv11, gnd, fun H12 s12 => q _⟩
end
theorem all_ok {P : Program} {w : World} {K : PySem.W.Frag} {mg : Str → Option Value} {base : Heap} (T : Tx K w mg) : O_law P base T := by
  have G_is_name := ok_is_name (P := P) (w := w) (base := base) T 
  have G_is_letter := ok_is_letter (P := P) (w := w) (base := base) T 
  have G_is_test := ok_is_test (P := P) (w := w) (base := base) T 
  have G_Letter___init__ := ok_Letter___init__ (P := P) (w := w) (base := base) T 
  have G_Letter_text := ok_Letter_text (P := P) (w := w) (base := base) T 
  have G_Test___init__ := ok_Test___init__ (P := P) (w := w) (base := base) T 
  have G_Test_text := ok_Test_text (P := P) (w := w) (base := base) T 
  have G_Said___init__ := ok_Said___init__ (P := P) (w := w) (base := base) T 
  have G_Said_text := ok_Said_text (P := P) (w := w) (base := base) T 
  have G_read_piece := ok_read_piece (P := P) (w := w) (base := base) T G_is_letter G_is_test G_Letter___init__ G_Test___init__ G_Said___init__
  have G_read_part := ok_read_part (P := P) (w := w) (base := base) T G_read_piece
  have G_read_parts := ok_read_parts (P := P) (w := w) (base := base) T G_read_part
  have G_read_rows := ok_read_rows (P := P) (w := w) (base := base) T G_is_name G_read_parts
  have G_Tongue___init__ := ok_Tongue___init__ (P := P) (w := w) (base := base) T G_read_rows
  have G_Tongue_words := ok_Tongue_words (P := P) (w := w) (base := base) T 
  have G_Tongue_row_of := ok_Tongue_row_of (P := P) (w := w) (base := base) T 
  have G_Tongue_parts := ok_Tongue_parts (P := P) (w := w) (base := base) T G_Letter_text G_Test_text G_Said_text G_Tongue_row_of
  have G_Tongue_text := ok_Tongue_text (P := P) (w := w) (base := base) T 
  have G__law_cell_at := ok__law_cell_at (P := P) (w := w) (base := base) T 
  have G__law_words := ok__law_words (P := P) (w := w) (base := base) T 
  have G__law_piece := ok__law_piece (P := P) (w := w) (base := base) T 
  have G__law_rows := ok__law_rows (P := P) (w := w) (base := base) T G__law_piece
  have G__law_text := ok__law_text (P := P) (w := w) (base := base) T 
  have G__law_too_long := ok__law_too_long (P := P) (w := w) (base := base) T G__law_text
  have G__law_spoiled := ok__law_spoiled (P := P) (w := w) (base := base) T 
  have G__law_parts := ok__law_parts (P := P) (w := w) (base := base) T 
  have G__law_read := ok__law_read (P := P) (w := w) (base := base) T G__law_parts
  have G__law_told := ok__law_told (P := P) (w := w) (base := base) T G_Tongue___init__
  have G__law_good := ok__law_good (P := P) (w := w) (base := base) T G_Tongue_words G_Tongue_parts G__law_told
  have G_law := ok_law (P := P) (w := w) (base := base) T G__law_cell_at G__law_words G__law_rows G__law_text G__law_too_long G__law_spoiled G__law_read G__law_told G__law_good
  exact G_law
theorem law_in {K : PySem.W.Frag} {w : World} {mg : Str → Option Value} (T : Tx K w mg) {vs : List V} {H : Hp} {Q : VK} {E : XK} (h : spLaw K vs H Q E) : sp_law T vs H Q E := by
  obtain ⟨a, ns, rfl, r⟩ := h
  exact ⟨rfl, a, ns, rfl, r⟩
theorem all_mk {l : PySem.W.OpenLaw} {w : World} {K : PySem.W.Frag} {h : Heap} {mg : Str → Option Value} {fa : Addr} (X : K.In h) (G : h.Ns mainGlobals mg) (hfa : mg "law" = some (.ref fa))
    {OC_Tongue : Addr}
    {OC_Said : Addr}
    {OC_Test : Addr}
    {OC_Letter : Addr}
    {f0 : Addr}
    {f1 : Addr}
    {f2 : Addr}
    {f3 : Addr}
    {f4 : Addr}
    {f5 : Addr}
    {f6 : Addr}
    {f7 : Addr}
    {f8 : Addr}
    {f9 : Addr}
    {f10 : Addr}
    {f11 : Addr}
    {f12 : Addr}
    {f13 : Addr}
    {f14 : Addr}
    {f15 : Addr}
    {f16 : Addr}
    {f17 : Addr}
    {f18 : Addr}
    {f19 : Addr}
    {f20 : Addr}
    {f21 : Addr}
    {f22 : Addr}
    {f23 : Addr}
    {f24 : Addr}
    {f25 : Addr}
    {f26 : Addr}
    {f27 : Addr}
    {f28 : Addr}
    {f29 : Addr}
    {C0 : Addr}
    {C1 : Addr}
    {C2 : Addr}
    {C3 : Addr}
    {C4 : Addr}
    {C5 : Addr}
    {C6 : Addr}
    {C7 : Addr}
    {C8 : Addr}
    {C9 : Addr}
    {C10 : Addr}
    {C11 : Addr}
    {C12 : Addr}
    {C13 : Addr}
    {C14 : Addr}
    {C15 : Addr}
    {C16 : Addr}
    {KT0 : Addr} {odT0 : Option Addr} {nT0 : Nat} {slT0 : Array (Option Value)} {tt0_0 : Tok} {tt0_1 : Tok} {tt0_2 : Tok} {tt0_3 : Tok} {tt0_4 : Tok} {tt0_5 : Tok} {tt0_6 : Tok}
    {KT1 : Addr} {odT1 : Option Addr} {nT1 : Nat} {slT1 : Array (Option Value)} {tt1_0 : Tok} {tt1_1 : Tok}
    {KT2 : Addr} {odT2 : Option Addr} {nT2 : Nat} {slT2 : Array (Option Value)} {tt2_0 : Tok} {tt2_1 : Tok} {tt2_2 : Tok}
    {ti0 : Tok}
    {ti1 : Tok}
    {ti2 : Tok}
    {tL : Tok}
    (ao3 : PySem.W.nsIn K mainGlobals "Tongue" = some (some (.ref OC_Tongue)))
    (ao2 : PySem.W.nsIn K mainGlobals "Said" = some (some (.ref OC_Said)))
    (ao1 : PySem.W.nsIn K mainGlobals "Test" = some (some (.ref OC_Test)))
    (ao0 : PySem.W.nsIn K mainGlobals "Letter" = some (some (.ref OC_Letter)))
    (a0 : PySem.W.nsIn K mainGlobals "is_name" = some (some (.ref f0)))
    (l0 : DefIn K "is_name" "is_name" s_is_name f0)
    (a1 : PySem.W.nsIn K mainGlobals "is_letter" = some (some (.ref f1)))
    (l1 : DefIn K "is_letter" "is_letter" s_is_letter f1)
    (a2 : PySem.W.nsIn K mainGlobals "is_test" = some (some (.ref f2)))
    (l2 : DefIn K "is_test" "is_test" s_is_test f2)
    (a3 : PySem.W.findIn K (.ref OC_Letter) "__init__" = some (some (.ref f3))) (i3 : PySem.W.isFn K (.ref f3) = true)
    (l3 : DefIn K "__init__" "Letter.__init__" s_Letter___init__ f3)
    (a4 : PySem.W.findIn K (.ref OC_Letter) "text" = some (some (.ref f4))) (i4 : PySem.W.isFn K (.ref f4) = true)
    (l4 : DefIn K "text" "Letter.text" s_Letter_text f4)
    (a5 : PySem.W.findIn K (.ref OC_Test) "__init__" = some (some (.ref f5))) (i5 : PySem.W.isFn K (.ref f5) = true)
    (l5 : DefIn K "__init__" "Test.__init__" s_Test___init__ f5)
    (a6 : PySem.W.findIn K (.ref OC_Test) "text" = some (some (.ref f6))) (i6 : PySem.W.isFn K (.ref f6) = true)
    (l6 : DefIn K "text" "Test.text" s_Test_text f6)
    (a7 : PySem.W.findIn K (.ref OC_Said) "__init__" = some (some (.ref f7))) (i7 : PySem.W.isFn K (.ref f7) = true)
    (l7 : DefIn K "__init__" "Said.__init__" s_Said___init__ f7)
    (a8 : PySem.W.findIn K (.ref OC_Said) "text" = some (some (.ref f8))) (i8 : PySem.W.isFn K (.ref f8) = true)
    (l8 : DefIn K "text" "Said.text" s_Said_text f8)
    (a9 : PySem.W.nsIn K mainGlobals "read_piece" = some (some (.ref f9)))
    (l9 : DefIn K "read_piece" "read_piece" s_read_piece f9)
    (a10 : PySem.W.nsIn K mainGlobals "read_part" = some (some (.ref f10)))
    (l10 : DefIn K "read_part" "read_part" s_read_part f10)
    (a11 : PySem.W.nsIn K mainGlobals "read_parts" = some (some (.ref f11)))
    (l11 : DefIn K "read_parts" "read_parts" s_read_parts f11)
    (a12 : PySem.W.nsIn K mainGlobals "read_rows" = some (some (.ref f12)))
    (l12 : DefIn K "read_rows" "read_rows" s_read_rows f12)
    (a13 : PySem.W.findIn K (.ref OC_Tongue) "__init__" = some (some (.ref f13))) (i13 : PySem.W.isFn K (.ref f13) = true)
    (l13 : DefIn K "__init__" "Tongue.__init__" s_Tongue___init__ f13)
    (a14 : PySem.W.findIn K (.ref OC_Tongue) "words" = some (some (.ref f14))) (i14 : PySem.W.isFn K (.ref f14) = true)
    (l14 : DefIn K "words" "Tongue.words" s_Tongue_words f14)
    (a15 : PySem.W.findIn K (.ref OC_Tongue) "row_of" = some (some (.ref f15))) (i15 : PySem.W.isFn K (.ref f15) = true)
    (l15 : DefIn K "row_of" "Tongue.row_of" s_Tongue_row_of f15)
    (a16 : PySem.W.findIn K (.ref OC_Tongue) "parts" = some (some (.ref f16))) (i16 : PySem.W.isFn K (.ref f16) = true)
    (l16 : DefIn K "parts" "Tongue.parts" s_Tongue_parts f16)
    (a17 : PySem.W.findIn K (.ref OC_Tongue) "text" = some (some (.ref f17))) (i17 : PySem.W.isFn K (.ref f17) = true)
    (l17 : DefIn K "text" "Tongue.text" s_Tongue_text f17)
    (a18 : PySem.W.nsIn K mainGlobals "_law_cell_at" = some (some (.ref f18)))
    (l18 : DefIn K "_law_cell_at" "_law_cell_at" s__law_cell_at f18)
    (a19 : PySem.W.nsIn K mainGlobals "_law_words" = some (some (.ref f19)))
    (l19 : DefIn K "_law_words" "_law_words" s__law_words f19)
    (a20 : PySem.W.nsIn K mainGlobals "_law_piece" = some (some (.ref f20)))
    (l20 : DefIn K "_law_piece" "_law_piece" s__law_piece f20)
    (a21 : PySem.W.nsIn K mainGlobals "_law_rows" = some (some (.ref f21)))
    (l21 : DefIn K "_law_rows" "_law_rows" s__law_rows f21)
    (a22 : PySem.W.nsIn K mainGlobals "_law_text" = some (some (.ref f22)))
    (l22 : DefIn K "_law_text" "_law_text" s__law_text f22)
    (a23 : PySem.W.nsIn K mainGlobals "_law_too_long" = some (some (.ref f23)))
    (l23 : DefIn K "_law_too_long" "_law_too_long" s__law_too_long f23)
    (a24 : PySem.W.nsIn K mainGlobals "_law_spoiled" = some (some (.ref f24)))
    (l24 : DefIn K "_law_spoiled" "_law_spoiled" s__law_spoiled f24)
    (a25 : PySem.W.nsIn K mainGlobals "_law_parts" = some (some (.ref f25)))
    (l25 : DefIn K "_law_parts" "_law_parts" s__law_parts f25)
    (a26 : PySem.W.nsIn K mainGlobals "_law_read" = some (some (.ref f26)))
    (l26 : DefIn K "_law_read" "_law_read" s__law_read f26)
    (a27 : PySem.W.nsIn K mainGlobals "_law_told" = some (some (.ref f27)))
    (l27 : DefIn K "_law_told" "_law_told" s__law_told f27)
    (a28 : PySem.W.nsIn K mainGlobals "_law_good" = some (some (.ref f28)))
    (l28 : DefIn K "_law_good" "_law_good" s__law_good f28)
    (a29 : PySem.W.nsIn K mainGlobals "law" = some (some (.ref f29)))
    (l29 : DefIn K "law" "law" s_law f29)
    (pg0 : PySem.W.plainGet K OC_Letter Str.empty = true) (hd0 : PySem.W.hasDictIn K OC_Letter = true) (po0 : PySem.W.plainOver K OC_Letter = true) (sa0 : PySem.W.findIn K (.ref OC_Letter) "__setattr__" = some (some (.builtin "object.__setattr__"))) (mk0 : PySem.W.makesIn K OC_Letter = true) (kc0 : PySem.W.keepIn K (.ref OC_Letter) = true)
    (na0_letter : PySem.W.findIn K (.ref OC_Letter) "letter" = some none)
    (pg1 : PySem.W.plainGet K OC_Test Str.empty = true) (hd1 : PySem.W.hasDictIn K OC_Test = true) (po1 : PySem.W.plainOver K OC_Test = true) (sa1 : PySem.W.findIn K (.ref OC_Test) "__setattr__" = some (some (.builtin "object.__setattr__"))) (mk1 : PySem.W.makesIn K OC_Test = true) (kc1 : PySem.W.keepIn K (.ref OC_Test) = true)
    (na1_wanted : PySem.W.findIn K (.ref OC_Test) "wanted" = some none)
    (pg2 : PySem.W.plainGet K OC_Said Str.empty = true) (hd2 : PySem.W.hasDictIn K OC_Said = true) (po2 : PySem.W.plainOver K OC_Said = true) (sa2 : PySem.W.findIn K (.ref OC_Said) "__setattr__" = some (some (.builtin "object.__setattr__"))) (mk2 : PySem.W.makesIn K OC_Said = true) (kc2 : PySem.W.keepIn K (.ref OC_Said) = true)
    (na2_word : PySem.W.findIn K (.ref OC_Said) "word" = some none)
    (pg3 : PySem.W.plainGet K OC_Tongue Str.empty = true) (hd3 : PySem.W.hasDictIn K OC_Tongue = true) (po3 : PySem.W.plainOver K OC_Tongue = true) (sa3 : PySem.W.findIn K (.ref OC_Tongue) "__setattr__" = some (some (.builtin "object.__setattr__"))) (mk3 : PySem.W.makesIn K OC_Tongue = true) (kc3 : PySem.W.keepIn K (.ref OC_Tongue) = true)
    (na3_rows : PySem.W.findIn K (.ref OC_Tongue) "rows" = some none)
    (na3_source : PySem.W.findIn K (.ref OC_Tongue) "source" = some none)
    (ac0 : PySem.W.nsIn K mainGlobals "HeirError" = some (some (.ref C0)))
    (ac1 : PySem.W.nsIn K mainGlobals "NoNumber" = some (some (.ref C1)))
    (ac2 : PySem.W.nsIn K mainGlobals "NoEntry" = some (some (.ref C2)))
    (ac3 : PySem.W.nsIn K mainGlobals "Full" = some (some (.ref C3)))
    (ac4 : PySem.W.nsIn K mainGlobals "NoPerson" = some (some (.ref C4)))
    (ac5 : PySem.W.nsIn K mainGlobals "Twice" = some (some (.ref C5)))
    (ac6 : PySem.W.nsIn K mainGlobals "NoFit" = some (some (.ref C6)))
    (ac7 : PySem.W.nsIn K mainGlobals "NoWay" = some (some (.ref C7)))
    (ac8 : PySem.W.nsIn K mainGlobals "NoTongue" = some (some (.ref C8)))
    (xc8 : PySem.W.excIn K C8 EBm "ValueError.__new__" = true)
    (e1_8 : PySem.W.findIn K (.ref C8) "__getattribute__" = some (some (.builtin "BaseException.__getattribute__"))) (e2_8 : PySem.W.findIn K (.ref C8) "__getattr__" = some none) (e3_8 : PySem.W.findIn K (.ref C8) "__class__" = some (some (.builtin "object.__class__"))) (e4_8 : PySem.W.mroIn K C8 (.type "BaseException") = some true) (e5_8 : PySem.W.mroIn K C8 (.type "object") = some true)
    (ac9 : PySem.W.nsIn K mainGlobals "NoWord" = some (some (.ref C9)))
    (xc9 : PySem.W.excIn K C9 EBm "ValueError.__new__" = true)
    (e1_9 : PySem.W.findIn K (.ref C9) "__getattribute__" = some (some (.builtin "BaseException.__getattribute__"))) (e2_9 : PySem.W.findIn K (.ref C9) "__getattr__" = some none) (e3_9 : PySem.W.findIn K (.ref C9) "__class__" = some (some (.builtin "object.__class__"))) (e4_9 : PySem.W.mroIn K C9 (.type "BaseException") = some true) (e5_9 : PySem.W.mroIn K C9 (.type "object") = some true)
    (ac10 : PySem.W.nsIn K mainGlobals "Marked" = some (some (.ref C10)))
    (ac11 : PySem.W.nsIn K mainGlobals "TooMany" = some (some (.ref C11)))
    (ac12 : PySem.W.nsIn K mainGlobals "Barred" = some (some (.ref C12)))
    (ac13 : PySem.W.nsIn K mainGlobals "NoCode" = some (some (.ref C13)))
    (ac14 : PySem.W.nsIn K mainGlobals "Alive" = some (some (.ref C14)))
    (ac15 : PySem.W.nsIn K mainGlobals "Unsure" = some (some (.ref C15)))
    (ac16 : PySem.W.nsIn K mainGlobals "NoRow" = some (some (.ref C16)))
    (z_ValueError : PySem.W.nsIn K mainGlobals "ValueError" = some none)
    (z_all : PySem.W.nsIn K mainGlobals "all" = some none)
    (z_int : PySem.W.nsIn K mainGlobals "int" = some none)
    (z_isinstance : PySem.W.nsIn K mainGlobals "isinstance" = some none)
    (z_len : PySem.W.nsIn K mainGlobals "len" = some none)
    (z_list : PySem.W.nsIn K mainGlobals "list" = some none)
    (z_max : PySem.W.nsIn K mainGlobals "max" = some none)
    (z_range : PySem.W.nsIn K mainGlobals "range" = some none)
    (z_str : PySem.W.nsIn K mainGlobals "str" = some none)
    (z_tuple : PySem.W.nsIn K mainGlobals "tuple" = some none)
    (q_k_str_str : PySem.W.kitOne K (.type "str") (.type "str") = some true)
    (q_k_tuple_tuple : PySem.W.kitOne K (.type "tuple") (.type "tuple") = some true)
    (q_k_list_list : PySem.W.kitOne K (.type "list") (.type "list") = some true)
    (q_k_NoneType_str : PySem.W.kitOne K (.type "NoneType") (.type "str") = some false)
    (q_k_bool_str : PySem.W.kitOne K (.type "bool") (.type "str") = some false)
    (q_k_int_str : PySem.W.kitOne K (.type "int") (.type "str") = some false)
    (q_k_tuple_str : PySem.W.kitOne K (.type "tuple") (.type "str") = some false)
    (q_k_list_str : PySem.W.kitOne K (.type "list") (.type "str") = some false)
    (q_k_dict_str : PySem.W.kitOne K (.type "dict") (.type "str") = some false)
    (q_kx_HeirError : PySem.W.kitOne K (.ref C8) (.ref C0) = some true)
    (q_kx_ValueError : PySem.W.kitOne K (.ref C8) (.type "ValueError") = some true)
    (q_kx_Alive : PySem.W.kitOne K (.ref C8) (.ref C14) = some false)
    (q_kx_Barred : PySem.W.kitOne K (.ref C8) (.ref C12) = some false)
    (q_kx_Full : PySem.W.kitOne K (.ref C8) (.ref C3) = some false)
    (q_kx_Marked : PySem.W.kitOne K (.ref C8) (.ref C10) = some false)
    (q_kx_NoCode : PySem.W.kitOne K (.ref C8) (.ref C13) = some false)
    (q_kx_NoEntry : PySem.W.kitOne K (.ref C8) (.ref C2) = some false)
    (q_kx_NoFit : PySem.W.kitOne K (.ref C8) (.ref C6) = some false)
    (q_kx_NoNumber : PySem.W.kitOne K (.ref C8) (.ref C1) = some false)
    (q_kx_NoPerson : PySem.W.kitOne K (.ref C8) (.ref C4) = some false)
    (q_kx_NoRow : PySem.W.kitOne K (.ref C8) (.ref C16) = some false)
    (q_kx_NoWay : PySem.W.kitOne K (.ref C8) (.ref C7) = some false)
    (q_kx_NoWord : PySem.W.kitOne K (.ref C8) (.ref C9) = some false)
    (q_kx_TooMany : PySem.W.kitOne K (.ref C8) (.ref C11) = some false)
    (q_kx_Twice : PySem.W.kitOne K (.ref C8) (.ref C5) = some false)
    (q_kx_Unsure : PySem.W.kitOne K (.ref C8) (.ref C15) = some false)
    (zt0 : PySem.W.nsIn K mainGlobals "STEP_LETTERS" = some (some (.ref KT0)))
    (ut0 : K.lookup KT0 = some ⟨.type "tuple", odT0, .seq #[.str "F" tt0_0, .str "M" tt0_1, .str "T" tt0_2, .str "f" tt0_3, .str "m" tt0_4, .str "t" tt0_5, .str "S" tt0_6] nT0, slT0⟩)
    (zt1 : PySem.W.nsIn K mainGlobals "TESTS" = some (some (.ref KT1)))
    (ut1 : K.lookup KT1 = some ⟨.type "tuple", odT1, .seq #[.str "he" tt1_0, .str "she" tt1_1] nT1, slT1⟩)
    (zt2 : PySem.W.nsIn K mainGlobals "MARKS" = some (some (.ref KT2)))
    (ut2 : K.lookup KT2 = some ⟨.type "tuple", odT2, .seq #[.str "other" tt2_0, .str "elder" tt2_1, .str "younger" tt2_2] nT2, slT2⟩)
    (zi0 : PySem.W.nsIn K mainGlobals "MOST_ROWS" = some (some (.int 40 ti0)))
    (zi1 : PySem.W.nsIn K mainGlobals "MOST_PARTS" = some (some (.int 8 ti1)))
    (zi2 : PySem.W.nsIn K mainGlobals "MOST_PIECES" = some (some (.int 12 ti2)))
    (zL : PySem.W.nsIn K mainGlobals "LETTERS" = some (some (.str "abcdefghijklmnopqrstuvwxyz" tL))) :
    ∃ fd : FuncData, (∀ (s : Shared) (v : Value), BindsTo s fd ⟨[v], []⟩ [("_law_script", v)]) ∧ ∀ base : Heap, K.In base → base.Ns mainGlobals mg → FnOk l.prog w K mg base (CX1 l.prog w) 11 fa fd ["_law_script"] (spLaw K) := by
  have e := hfa.symm.trans (PySem.W.mg_of X G a29)
  cases e
  have T : Σ' (T : Tx K w mg), T.d_law.a = fa := ⟨{ c_Tongue := OC_Tongue, c_Said := OC_Said, c_Test := OC_Test, c_Letter := OC_Letter, d_is_name := .of X G a0 l0 (fun _ _ _ _ _ _ => un1 fun _ => rfl), d_is_letter := .of X G a1 l1 (fun _ _ _ _ _ _ => un1 fun _ => rfl), d_is_test := .of X G a2 l2 (fun _ _ _ _ _ _ => un1 fun _ => rfl), d_Letter___init__ := .of a3 i3 l3 (fun _ _ _ _ _ _ => un2 fun _ _ => rfl), d_Letter_text := .of a4 i4 l4 (fun _ _ _ _ _ _ => un1 fun _ => rfl), d_Test___init__ := .of a5 i5 l5 (fun _ _ _ _ _ _ => un2 fun _ _ => rfl), d_Test_text := .of a6 i6 l6 (fun _ _ _ _ _ _ => un1 fun _ => rfl), d_Said___init__ := .of a7 i7 l7 (fun _ _ _ _ _ _ => un2 fun _ _ => rfl), d_Said_text := .of a8 i8 l8 (fun _ _ _ _ _ _ => un1 fun _ => rfl), d_read_piece := .of X G a9 l9 (fun _ _ _ _ _ _ => un2 fun _ _ => rfl), d_read_part := .of X G a10 l10 (fun _ _ _ _ _ _ => un2 fun _ _ => rfl), d_read_parts := .of X G a11 l11 (fun _ _ _ _ _ _ => un2 fun _ _ => rfl), d_read_rows := .of X G a12 l12 (fun _ _ _ _ _ _ => un1 fun _ => rfl), d_Tongue___init__ := .of a13 i13 l13 (fun _ _ _ _ _ _ => un2 fun _ _ => rfl), d_Tongue_words := .of a14 i14 l14 (fun _ _ _ _ _ _ => un1 fun _ => rfl), d_Tongue_row_of := .of a15 i15 l15 (fun _ _ _ _ _ _ => un2 fun _ _ => rfl), d_Tongue_parts := .of a16 i16 l16 (fun _ _ _ _ _ _ => un2 fun _ _ => rfl), d_Tongue_text := .of a17 i17 l17 (fun _ _ _ _ _ _ => un1 fun _ => rfl), d__law_cell_at := .of X G a18 l18 (fun _ _ _ _ _ _ => un2 fun _ _ => rfl), d__law_words := .of X G a19 l19 (fun _ _ _ _ _ _ => un1 fun _ => rfl), d__law_piece := .of X G a20 l20 (fun _ _ _ _ _ _ => un2 fun _ _ => rfl), d__law_rows := .of X G a21 l21 (fun _ _ _ _ _ _ => un2 fun _ _ => rfl), d__law_text := .of X G a22 l22 (fun _ _ _ _ _ _ => un1 fun _ => rfl), d__law_too_long := .of X G a23 l23 (fun _ _ _ _ _ _ => un3 fun _ _ _ => rfl), d__law_spoiled := .of X G a24 l24 (fun _ _ _ _ _ _ => un3 fun _ _ _ => rfl), d__law_parts := .of X G a25 l25 (fun _ _ _ _ _ _ => un2 fun _ _ => rfl), d__law_read := .of X G a26 l26 (fun _ _ _ _ _ _ => un1 fun _ => rfl), d__law_told := .of X G a27 l27 (fun _ _ _ _ _ _ => un1 fun _ => rfl), d__law_good := .of X G a28 l28 (fun _ _ _ _ _ _ => un2 fun _ _ => rfl), d_law := .of X G a29 l29 (fun _ _ _ _ _ _ => un1 fun _ => rfl), m_Letter := (PySem.W.mg_of X G ao0), cl_Letter := ⟨pg0, hd0, po0, sa0⟩, mk_Letter := ⟨mk0, a3, i3, kc0⟩, na_Letter_letter := na0_letter, m_Test := (PySem.W.mg_of X G ao1), cl_Test := ⟨pg1, hd1, po1, sa1⟩, mk_Test := ⟨mk1, a5, i5, kc1⟩, na_Test_wanted := na1_wanted, m_Said := (PySem.W.mg_of X G ao2), cl_Said := ⟨pg2, hd2, po2, sa2⟩, mk_Said := ⟨mk2, a7, i7, kc2⟩, na_Said_word := na2_word, m_Tongue := (PySem.W.mg_of X G ao3), cl_Tongue := ⟨pg3, hd3, po3, sa3⟩, mk_Tongue := ⟨mk3, a13, i13, kc3⟩, na_Tongue_rows := na3_rows, na_Tongue_source := na3_source, c_HeirError := C0, m_HeirError := (PySem.W.mg_of X G ac0), c_NoNumber := C1, m_NoNumber := (PySem.W.mg_of X G ac1), c_NoEntry := C2, m_NoEntry := (PySem.W.mg_of X G ac2), c_Full := C3, m_Full := (PySem.W.mg_of X G ac3), c_NoPerson := C4, m_NoPerson := (PySem.W.mg_of X G ac4), c_Twice := C5, m_Twice := (PySem.W.mg_of X G ac5), c_NoFit := C6, m_NoFit := (PySem.W.mg_of X G ac6), c_NoWay := C7, m_NoWay := (PySem.W.mg_of X G ac7), c_NoTongue := C8, m_NoTongue := (PySem.W.mg_of X G ac8), x_NoTongue := xc8, e_NoTongue := ⟨e1_8, e2_8, e3_8, e4_8, e5_8⟩, c_NoWord := C9, m_NoWord := (PySem.W.mg_of X G ac9), x_NoWord := xc9, e_NoWord := ⟨e1_9, e2_9, e3_9, e4_9, e5_9⟩, c_Marked := C10, m_Marked := (PySem.W.mg_of X G ac10), c_TooMany := C11, m_TooMany := (PySem.W.mg_of X G ac11), c_Barred := C12, m_Barred := (PySem.W.mg_of X G ac12), c_NoCode := C13, m_NoCode := (PySem.W.mg_of X G ac13), c_Alive := C14, m_Alive := (PySem.W.mg_of X G ac14), c_Unsure := C15, m_Unsure := (PySem.W.mg_of X G ac15), c_NoRow := C16, m_NoRow := (PySem.W.mg_of X G ac16), n_ValueError := (PySem.W.mg_none_of X G z_ValueError), n_all := (PySem.W.mg_none_of X G z_all), n_int := (PySem.W.mg_none_of X G z_int), n_isinstance := (PySem.W.mg_none_of X G z_isinstance), n_len := (PySem.W.mg_none_of X G z_len), n_list := (PySem.W.mg_none_of X G z_list), n_max := (PySem.W.mg_none_of X G z_max), n_range := (PySem.W.mg_none_of X G z_range), n_str := (PySem.W.mg_none_of X G z_str), n_tuple := (PySem.W.mg_none_of X G z_tuple), k_str_str := q_k_str_str, k_tuple_tuple := q_k_tuple_tuple, k_list_list := q_k_list_list, k_NoneType_str := q_k_NoneType_str, k_bool_str := q_k_bool_str, k_int_str := q_k_int_str, k_tuple_str := q_k_tuple_str, k_list_str := q_k_list_str, k_dict_str := q_k_dict_str, kx_HeirError := q_kx_HeirError, kx_ValueError := q_kx_ValueError, kx_Alive := q_kx_Alive, kx_Barred := q_kx_Barred, kx_Full := q_kx_Full, kx_Marked := q_kx_Marked, kx_NoCode := q_kx_NoCode, kx_NoEntry := q_kx_NoEntry, kx_NoFit := q_kx_NoFit, kx_NoNumber := q_kx_NoNumber, kx_NoPerson := q_kx_NoPerson, kx_NoRow := q_kx_NoRow, kx_NoWay := q_kx_NoWay, kx_NoWord := q_kx_NoWord, kx_TooMany := q_kx_TooMany, kx_Twice := q_kx_Twice, kx_Unsure := q_kx_Unsure, a_STEP_LETTERS := KT0, m_STEP_LETTERS := (PySem.W.mg_of X G zt0), s_STEP_LETTERS := fun _ => .inr ⟨_, _, _, ut0, rfl, rfl, small1000 (Nat.le_of_ble_eq_true rfl), .cons ⟨_, rfl⟩ (.cons ⟨_, rfl⟩ (.cons ⟨_, rfl⟩ (.cons ⟨_, rfl⟩ (.cons ⟨_, rfl⟩ (.cons ⟨_, rfl⟩ (.cons ⟨_, rfl⟩ (.nil)))))))⟩, a_TESTS := KT1, m_TESTS := (PySem.W.mg_of X G zt1), s_TESTS := fun _ => .inr ⟨_, _, _, ut1, rfl, rfl, small1000 (Nat.le_of_ble_eq_true rfl), .cons ⟨_, rfl⟩ (.cons ⟨_, rfl⟩ (.nil))⟩, a_MARKS := KT2, m_MARKS := (PySem.W.mg_of X G zt2), s_MARKS := fun _ => .inr ⟨_, _, _, ut2, rfl, rfl, small1000 (Nat.le_of_ble_eq_true rfl), .cons ⟨_, rfl⟩ (.cons ⟨_, rfl⟩ (.cons ⟨_, rfl⟩ (.nil)))⟩, t_MOST_ROWS := ti0, m_MOST_ROWS := (PySem.W.mg_of X G zi0), t_MOST_PARTS := ti1, m_MOST_PARTS := (PySem.W.mg_of X G zi1), t_MOST_PIECES := ti2, m_MOST_PIECES := (PySem.W.mg_of X G zi2), tkL := tL, m_LETTERS := (PySem.W.mg_of X G zL) }, rfl⟩
  obtain ⟨T, ea⟩ := T
  subst ea
  refine ⟨(fdAt K T.d_law.a), fun s v => ?_, fun base _ _ => (all_ok T).imp fun vs H Q E z => ?_⟩
  · obtain ⟨oc, od, kV, doc, pm, an, cdv, ct, osl, e, _⟩ := T.d_law.F.ex
    rw [e]
    exact .of_eq rfl
  exact law_in T z
theorem walk {l : PySem.W.OpenLaw} {q : Program} {loose : List Str} {XP : (Str → Option Value) → Heap → Prop} {YP : World → Heap → Prop} {d : DefRec} {K : Params → PySem.W.Frag} (hn : l.most = some 63) (hdf : d.params.defaults = [])
    (hY : ∀ (w : World) (h : Heap), YP w h → (K w.params).In h)
    (F : ∀ (w : World) (mg : Str → Option Value) (fa : Addr) (h : Heap), (K w.params).In h → h.Ns mainGlobals mg → mg d.name = some (.ref fa) →
      ∃ fd : FuncData, (∀ (s : Shared) (u : Value), BindsTo s fd ⟨[u], []⟩ [("_law_script", u)]) ∧ ∀ base : Heap, (K w.params).In base → base.Ns mainGlobals mg → FnOk l.prog w (K w.params) mg base (CX1 l.prog w) 11 fa fd ["_law_script"] (spLaw (K w.params))) :
    PySem.W.WalkO q loose XP YP l.row.toRowW d [] (fun f vs => PySem.call f vs) :=
  L2.walk_of (n := 63) (k := 11) (x := "_law_script") (CX := fun w => CX1 l.prog w) (sp := fun w => spLaw (K w.params)) hn (by decide) hdf ⟨rfl, by decide, by decide⟩ hY F (fun _ _ a ns hl _ hS => ⟨a, ns, rfl, hS, hl, fun _ => rfl⟩) fun _ _ _ _ _ ⟨_, _, _, _, _, z⟩ => z
end K33
open PySem PySem.W PyProof.Rows
set_option maxRecDepth 100000 in
set_option maxHeartbeats 0 in
theorem PySem.Challenge.cw_heirbook_k33_texts_of_no_tongue_holds : PySem.Challenge.rw_heirbook_k33_texts_of_no_tongue.Holds := by
  refine K33.hd ?_
  k_fill
  refine K33.walk (l := PySem.Challenge.rw_heirbook_k33_texts_of_no_tongue) rfl rfl (fun w h Y => PySem.W.kIn_of Y) ?F
  case F =>
    intro w mg fa h KX G hmg
    apply K33.all_mk KX G hmg
    case ao3 | ao2 | ao1 | ao0 | a0 | a1 | a2 | a3 | i3 | a4 | i4 | a5 | i5 | a6 | i6 | a7 | i7 | a8 | i8 | a9 | a10 | a11 | a12 | a13 | i13 | a14 | i14 | a15 | i15 | a16 | i16 | a17 | i17 | a18 | a19 | a20 | a21 | a22 | a23 | a24 | a25 | a26 | a27 | a28 | a29 | pg0 | hd0 | po0 | sa0 | mk0 | kc0 | na0_letter | pg1 | hd1 | po1 | sa1 | mk1 | kc1 | na1_wanted | pg2 | hd2 | po2 | sa2 | mk2 | kc2 | na2_word | pg3 | hd3 | po3 | sa3 | mk3 | kc3 | na3_rows | na3_source | ac0 | ac1 | ac2 | ac3 | ac4 | ac5 | ac6 | ac7 | ac8 | e1_8 | e2_8 | e3_8 | e4_8 | e5_8 | ac9 | e1_9 | e2_9 | e3_9 | e4_9 | e5_9 | ac10 | ac11 | ac12 | ac13 | ac14 | ac15 | ac16 | z_ValueError | z_all | z_int | z_isinstance | z_len | z_list | z_max | z_range | z_str | z_tuple | zt0 | ut0 | zt1 | ut1 | zt2 | ut2 | zi0 | zi1 | zi2 | zL => k_is
    case l0 | l1 | l2 | l3 | l4 | l5 | l6 | l7 | l8 | l9 | l10 | l11 | l12 | l13 | l14 | l15 | l16 | l17 | l18 | l19 | l20 | l21 | l22 | l23 | l24 | l25 | l26 | l27 | l28 | l29 => exact ⟨⟨_, _, _, _, _, _, _, _, _, by k_is, by k_is⟩, by k_is⟩
    case xc8 | xc9 => k_exc
    case q_k_str_str | q_k_tuple_tuple | q_k_list_list | q_k_NoneType_str | q_k_bool_str | q_k_int_str | q_k_tuple_str | q_k_list_str | q_k_dict_str | q_kx_HeirError | q_kx_ValueError | q_kx_Alive | q_kx_Barred | q_kx_Full | q_kx_Marked | q_kx_NoCode | q_kx_NoEntry | q_kx_NoFit | q_kx_NoNumber | q_kx_NoPerson | q_kx_NoRow | q_kx_NoWay | q_kx_NoWord | q_kx_TooMany | q_kx_Twice | q_kx_Unsure => kit_is
