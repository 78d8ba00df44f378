import PyProof.Rows.All
import Wide.All
import OpenK.AllK
import Wide.FinOn
import Lean
import PyProof.EqAt
import PyProof.EqKinds
import PyProof.TupleCall
import PyProof.NeKinds
import PyProof.ZipIter
import PyProof.Draws
import PyProof.ConsumeWalk
import PyProof.StrCaseBound
import PyProof.StrLawsIn
import PyProof.StrLawsJoin
import PyProof.Rows.StrSplitAre
import PyProof.WalkInts
import PyProof.EnumMake
import KE.KRevSl
import PyProof.Rows.SumAny
import PySem.Challenge.RW_heirbook_k81_level
set_option Elab.async false
set_option linter.all false
set_option maxRecDepth 100000
/-! THE HAND LAYER, for ints, bools, texts, own classes, LISTS and tuples (index, slices, in, append, pop ..), calls, loops. Paste it whole ahead of your own text; what your proof does not reach may be deleted. -/
namespace L2
open PySem PySem.Spec PyProof.Rows

/-- a key: an int or a str -/
abbrev Key := Sum Int Str
def keyIs : Key → Value → Bool
  | .inl k, v => Value.isInt k v
  | .inr x, v => Value.isStrOf x v
def keyH (w : World) : Key → Int
  | .inl k => hashInt k
  | .inr x => hashStr w x
theorem keyIs_shape : ∀ {k : Key} {v : Value}, keyIs k v = true → (∃ i t, k = Sum.inl i ∧ v = Value.int i t) ∨ (∃ x t, k = Sum.inr x ∧ v = Value.str x t)
  | .inl i, v, h => by
    obtain ⟨t, e⟩ := Value.isInt_shape (k := i) (v := v) h
    exact .inl ⟨i, t, rfl, e⟩
  | .inr x, v, h => by
    obtain ⟨t, e⟩ := Value.isStrOf_shape (x := x) (v := v) h
    exact .inr ⟨x, t, rfl, e⟩
theorem key_ll (a b : Int) : decide ((Sum.inl a : Key) = Sum.inl b) = (a == b) := by
  by_cases e : a = b
  · subst e; simp
  · have h : ¬ (Sum.inl a : Key) = Sum.inl b := fun q => e (Sum.inl.inj q)
    rw [decide_eq_false h]
    exact (beq_eq_false_iff_ne.mpr e).symm
theorem key_rr (a b : Str) : decide ((Sum.inr a : Key) = Sum.inr b) = decide (a = b) := by
  by_cases e : a = b
  · subst e; simp
  · have h : ¬ (Sum.inr a : Key) = Sum.inr b := fun q => e (Sum.inr.inj q)
    rw [decide_eq_false h, decide_eq_false e]
theorem key_lr (a : Int) (b : Str) : decide ((Sum.inl a : Key) = Sum.inr b) = false := decide_eq_false (fun q => nomatch q)
theorem key_rl (a : Str) (b : Int) : decide ((Sum.inr a : Key) = Sum.inl b) = false := decide_eq_false (fun q => nomatch q)

def mixKind (prog : Program) (w : World) : PySem.KeyKind prog w Key where
  is := keyIs
  hash := keyH w
  inj := fun v a b ha hb => by
    rcases keyIs_shape ha with ⟨i, t, rfl, rfl⟩ | ⟨x, t, rfl, rfl⟩
    · rcases keyIs_shape hb with ⟨j, u, rfl, e⟩ | ⟨y, u, rfl, e⟩
      · injection e with e1 _; rw [e1]
      · exact nomatch e
    · rcases keyIs_shape hb with ⟨j, u, rfl, e⟩ | ⟨y, u, rfl, e⟩
      · exact nomatch e
      · injection e with e1 _; rw [e1]
  byValue := fun k v h => by
    rcases keyIs_shape h with ⟨i, t, rfl, rfl⟩ | ⟨x, t, rfl, rfl⟩ <;> rfl
  pyHash := fun hv h => by
    rcases keyIs_shape hv with ⟨i, t, rfl, rfl⟩ | ⟨x, t, rfl, rfl⟩
    · exact wpAny_pyHash_int h
    · exact wpAny_pyHash_str h
  eqBool := fun hu hv h => by
    rcases keyIs_shape hu with ⟨i, t, rfl, rfl⟩ | ⟨x, t, rfl, rfl⟩
    · rcases keyIs_shape hv with ⟨j, u, rfl, rfl⟩ | ⟨y, u, rfl, rfl⟩
      · rw [key_ll] at h; exact wpAny_eqBool_int h
      · rw [key_lr] at h; exact SeqAt.EqAt.int_str i t y u _ _ _ _ h
    · rcases keyIs_shape hv with ⟨j, u, rfl, rfl⟩ | ⟨y, u, rfl, rfl⟩
      · rw [key_rl] at h; exact SeqAt.EqAt.str_int x t j u _ _ _ _ h
      · rw [key_rr] at h; exact wpAny_eqBool_str h
  «strs» := fun k x t v h => by
    rcases keyIs_shape h with ⟨i, u, rfl, e⟩ | ⟨y, u, rfl, e⟩
    · exact nomatch e
    · injection e with e1 _
      subst e1
      cases v <;> rfl

end L2

namespace L2
open PySem PySem.Spec PyProof.Rows

/-- a value, without the heap -/
inductive V where
  | non | bl (b : Bool) | int (i : Int) | str (x : Str) | byt (b : Array UInt8) | flt (b : UInt64) | ref (a : Addr) | ty (n : String)
  deriving DecidableEq

def RelV : V → Value → Prop
  | .non, u => u = Value.none
  | .bl b, u => u = Value.bool b
  | .int i, u => ∃ t, u = Value.int i t
  | .str x, u => ∃ t, u = Value.str x t
  | .byt b, u => ∃ t, u = Value.bytes b t
  | .flt b, u => ∃ t, u = Value.float b t
  | .ref a, u => u = Value.ref a
  | .ty n, u => u = Value.type n

abbrev Vals : List V → List Value → Prop := Paired RelV
theorem Vals.length {xs : List V} {us : List Value} (r : Vals xs us) : xs.length = us.length := Paired.length r
theorem Vals.get : ∀ {xs : List V} {us : List Value} {i : Nat} {x : V}, Vals xs us → xs[i]? = some x → ∃ u, us[i]? = some u ∧ RelV x u
  | _, _, _, _, .nil, e => by simp at e
  | _, _, 0, _, .cons r _, e => by simp at e; subst e; exact ⟨_, rfl, r⟩
  | _, _, i + 1, x, .cons _ t, e => by
    obtain ⟨u, h1, h2⟩ := Vals.get (i := i) (x := x) t (by simpa using e)
    exact ⟨u, by simpa using h1, h2⟩
theorem Vals.append : ∀ {xs ys : List V} {us ws : List Value}, Vals xs us → Vals ys ws → Vals (xs ++ ys) (us ++ ws)
  | _, _, _, _, .nil, s => s
  | _, _, _, _, .cons r t, s => .cons r (Vals.append t s)
theorem Vals.take : ∀ {xs : List V} {us : List Value} (n : Nat), Vals xs us → Vals (xs.take n) (us.take n)
  | _, _, 0, _ => .nil
  | _, _, _ + 1, .nil => .nil
  | _, _, n + 1, .cons r t => .cons r (Vals.take n t)
theorem Vals.drop : ∀ {xs : List V} {us : List Value} (n : Nat), Vals xs us → Vals (xs.drop n) (us.drop n)
  | _, _, 0, r => r
  | _, _, _ + 1, .nil => .nil
  | _, _, n + 1, .cons _ t => Vals.drop n t
def RelO : Option V → Option Value → Prop
  | some v, some u => RelV v u
  | none, none => True
  | _, _ => False
def KV {κ : Type} : List (κ × V) → List (κ × Value) → Prop := Paired fun (p : κ × V) (q : κ × Value) => p.1 = q.1 ∧ RelV p.2 q.2

/-- a key of a dict (00_mix): an int or a text -/
def kV : Key → V
  | .inl i => .int i
  | .inr x => .str x

/-- what stands at a tracked address -/
inductive HO where
  /-- a list -/
  | lst (xs : List V)
  /-- a tuple (never changes) -/
  | tup (xs : List V)
  /-- a dict whose keys are ints and texts; one whose keys are tuples of ints and texts (the empty one is both) -/
  | dK (kvs : List (Key × V)) | dT (kvs : List (List Key × V))
  /-- a set of ints: its members, its size -/
  | set (S : Int → Bool) (n : Nat)
  /-- an instance of the class at C, its dict at dx, its attributes -/
  | ins (C dx : Addr) (fs : List (Str × V))
  /-- the dict of the instance at x -/
  | own (x : Addr)
  /-- the dict of an exception -/
  | xd (fs : List (Str × V))
  /-- a bound method, f of x -/
  | met (f x : Addr)
  /-- a range object lo, lo + 1, .. below hi -/
  | rng (lo hi : Int)
  /-- a thing that is known to the object (the script; a dict while a loop walks it): read, never written while it is so -/
  | frz (o : Obj) (u : HO)
  /-- a code object's table -/
  | tbl (ps : Array Value)
  /-- any other thing, by what is true of its one object (a def of one's own: SetO a S n := HO.ext fun h => ..) -/
  | ext (φ : Heap → Prop)

abbrev Hp := Addr → Option HO
def upd (H : Hp) (a : Addr) (o : HO) : Hp := fun b => if b = a then some o else H b
theorem upd_same {H : Hp} {a : Addr} {o : HO} : upd H a o a = some o := by unfold upd; rw [if_pos rfl]
theorem upd_ne {H : Hp} {a b : Addr} {o : HO} (h : b ≠ a) : upd H a o b = H b := by unfold upd; rw [if_neg h]
theorem ne_of_none {H : Hp} {a b : Addr} {o : HO} (h : H a = some o) (h' : H b = none) : a ≠ b := by
  intro e; subst e; rw [h] at h'; cases h'

section
variable (P : Program) (w : World)
def ObjOk (H : Hp) (h : Heap) (a : Addr) : HO → Prop
  | .lst xs => xs.length ≤ sizeLine ∧ ∃ (its : List Value) (n : Nat), Vals xs its ∧ h.get? a = some { cls := .type "list", data := .seq its.toArray n }
  | .tup xs => xs.length ≤ sizeLine ∧ ∃ its : List Value, Vals xs its ∧ IsTup h a its.toArray
  | .dK kvs => kvs.length ≤ sizeLine ∧ (a == sysModules) = false ∧ ∃ vs, KV kvs vs ∧ h.DictOf (mixKind P w) a vs
  | .dT kvs => kvs.length ≤ sizeLine ∧ (a == sysModules) = false ∧ ∃ xs : List (List Key × Addr × Value),
      Paired (fun (p : List Key × V) (q : List Key × Addr × Value) => p.1 = q.1 ∧ H q.2.1 = some (.tup (p.1.map kV)) ∧ RelV p.2 q.2.2) kvs xs ∧
      ∃ o es ep, h.get? a = some o ∧ o.ExactDict ∧ o.data = .dict es ep ∧ es.toList = xs.map (entryOfKey (tupleKind (mixKind P w))) ∧ (xs.map (·.1)).Nodup
  | .set S n => h.SetOf (intKind P w) a S n
  | .ins C dx fs => H dx = some (.own a) ∧ fs.length ≤ 1000 ∧ dx ≠ a ∧ h.get? a = some (PySem.W.instObj C dx) ∧
      ∃ mA, h.Ns1 dx mA ∧ (∀ f, RelO (fs.lookup f) (mA f)) ∧ PySem.Within mA (fs.map (·.1))
  | .own _ => ∃ o, h.get? a = some o
  | .xd fs => ∃ mA, h.Ns1 a mA ∧ ∀ f, RelO (fs.lookup f) (mA f)
  | .rng lo hi => ∃ t u v, h.get? a = some { cls := .type "range", data := .fields #[.int lo t, .int hi u, .int 1 v] }
  | .frz o u => h.get? a = some o ∧ ObjOk H h a u
  | .tbl ps => h.get? a = some { cls := .none, data := .fields ps }
  | .met f x => h.get? a = some (PySem.W.methodObj (.ref f) (.ref x))
  | .ext φ => φ h ∧ (∃ o, h.get? a = some o) ∧ ∀ h1 h2 : Heap, φ h1 → (∀ o, h1.get? a = some o → h2.get? a = some o) → φ h2
/-- the abstract heap is held -/
def HOk (H : Hp) (h : Heap) : Prop := ∀ a o, H a = some o → ObjOk P w H h a o
end

section
variable {P : Program} {w : World} {H H' : Hp} {h h' : Heap} {a : Addr} {o : HO}
theorem ObjOk.lt (x : ObjOk P w H h a o) : a < h.objs.size := by
  cases o with
  | lst xs => obtain ⟨_, _, _, _, e⟩ := x; exact Heap.lt_size e
  | tup xs => obtain ⟨_, _, _, p⟩ := x; exact p.lt
  | dK kvs => obtain ⟨_, _, _, _, o, _, _, e, _⟩ := x; exact Heap.lt_size e
  | dT kvs => obtain ⟨_, _, _, _, o, _, _, e, _⟩ := x; exact Heap.lt_size e
  | set S n => obtain ⟨o, _, _, _, e, _⟩ := x; exact Heap.lt_size e
  | ins C dx fs => obtain ⟨_, _, _, e, _⟩ := x; exact Heap.lt_size e
  | own y => obtain ⟨_, e⟩ := x; exact Heap.lt_size e
  | xd fs => obtain ⟨_, ⟨_, _, _, e, _⟩, _⟩ := x; exact Heap.lt_size e
  | rng lo hi => obtain ⟨_, _, _, e⟩ := x; exact Heap.lt_size e
  | frz ob u => obtain ⟨e, _⟩ := x; exact Heap.lt_size e
  | tbl ps => exact Heap.lt_size (show h.get? a = some _ from x)
  | met f y => exact Heap.lt_size (show h.get? a = some _ from x)
  | ext φ => obtain ⟨_, ⟨_, e⟩, _⟩ := x; exact Heap.lt_size e
theorem Paired.mapP {α β : Type} {F G : α → β → Prop} : ∀ {l₁ : List α} {l₂ : List β}, Paired F l₁ l₂ → (∀ a b, F a b → G a b) → Paired G l₁ l₂
  | _, _, .nil, _ => .nil
  | _, _, .cons r t, f => .cons (f _ _ r) (Paired.mapP t f)
/-- what an object's description leans on: its own object, its own dict, the tuples -/
theorem ObjOk.stay (x : ObjOk P w H h a o) (k : ∀ b u, (b = a ∨ H b = some (.own a)) → h.get? b = some u → h'.get? b = some u)
    (ho : ∀ b, H b = some (.own a) → H' b = some (.own a)) (ht : ∀ b xs, H b = some (.tup xs) → H' b = some (.tup xs)) : ObjOk P w H' h' a o := by
  induction o with
  | lst xs => obtain ⟨z, its, n, r, e⟩ := x; exact ⟨z, its, n, r, k _ _ (.inl rfl) e⟩
  | tup xs => obtain ⟨z, its, r, ob, e, c⟩ := x; exact ⟨z, its, r, ob, k _ _ (.inl rfl) e, c⟩
  | dK kvs => obtain ⟨z, y, vs, r, ob, es, ep, e, c⟩ := x; exact ⟨z, y, vs, r, ob, es, ep, k _ _ (.inl rfl) e, c⟩
  | dT kvs =>
    obtain ⟨z, y, xs, r, ob, es, ep, e, c⟩ := x
    exact ⟨z, y, xs, Paired.mapP r fun p q z => ⟨z.1, ht _ _ z.2.1, z.2.2⟩, ob, es, ep, k _ _ (.inl rfl) e, c⟩
  | set S n => obtain ⟨ob, es, ep, t, e, c⟩ := x; exact ⟨ob, es, ep, t, k _ _ (.inl rfl) e, c⟩
  | ins C dx fs =>
    obtain ⟨d, z, ne, e, mA, ⟨od, es, ep, e2, c⟩, r⟩ := x
    exact ⟨ho _ d, z, ne, k _ _ (.inl rfl) e, mA, ⟨od, es, ep, k _ _ (.inr d) e2, c⟩, r⟩
  | own y => obtain ⟨ob, e⟩ := x; exact ⟨ob, k _ _ (.inl rfl) e⟩
  | xd fs => obtain ⟨mA, ⟨od, es, ep, e, c⟩, r⟩ := x; exact ⟨mA, ⟨od, es, ep, k _ _ (.inl rfl) e, c⟩, r⟩
  | rng lo hi => obtain ⟨t, u, v, e⟩ := x; exact ⟨t, u, v, k _ _ (.inl rfl) e⟩
  | frz ob u ih => obtain ⟨e, q⟩ := x; exact ⟨k _ _ (.inl rfl) e, ih q⟩
  | tbl ps =>
    have e : h.get? a = some { cls := .none, data := .fields ps } := x
    show h'.get? a = some { cls := .none, data := .fields ps }
    exact k a _ (.inl rfl) e
  | met f y =>
    have e : h.get? a = some (PySem.W.methodObj (.ref f) (.ref y)) := x
    show h'.get? a = some (PySem.W.methodObj (.ref f) (.ref y))
    exact k a _ (.inl rfl) e
  | ext φ => obtain ⟨p, ⟨o, e⟩, st⟩ := x; exact ⟨st _ _ p fun o q => k _ _ (.inl rfl) q, ⟨o, k _ _ (.inl rfl) e⟩, st⟩
theorem HOk.lt (x : HOk P w H h) (e : H a = some o) : a < h.objs.size := (x a o e).lt
theorem HOk.fresh (x : HOk P w H h) (e : h.objs.size ≤ a) : H a = none := by
  cases q : H a with
  | none => rfl
  | some u => exact absurd (Nat.lt_of_lt_of_le (x.lt q) e) (Nat.lt_irrefl _)
/-- every object of the heap is kept -/
theorem HOk.kept (x : HOk P w H h) (k : ∀ b u, h.get? b = some u → h'.get? b = some u) : HOk P w H h' := fun a o e =>
  (x a o e).stay (fun b u _ q => k b u q) (fun _ q => q) fun _ _ q => q
/-- a new object is laid and tracked -/
theorem HOk.laid (x : HOk P w H h) (k : ∀ b u, h.get? b = some u → h'.get? b = some u) (hp : h.objs.size ≤ a) (new : ObjOk P w (upd H a o) h' a o) : HOk P w (upd H a o) h' := fun b u e => by
  have hn := x.fresh hp
  by_cases hb : b = a
  · subst hb; rw [upd_same] at e; cases e; exact new
  · rw [upd_ne hb] at e
    exact (x b u e).stay (fun c v _ q => k c v q) (fun c q => by rw [upd_ne (ne_of_none q hn)]; exact q) fun c xs q => by rw [upd_ne (ne_of_none q hn)]; exact q
end

/-- what may be read as u: it is u, or a known u -/
def Rd (H : Hp) (a : Addr) (u : HO) : Prop := H a = some u ∨ ∃ o, H a = some (.frz o u)
theorem Rd.ok {P : Program} {w : World} {H : Hp} {h : Heap} {a : Addr} {u : HO} (r : Rd H a u) (x : HOk P w H h) : ObjOk P w H h a u := by
  rcases r with r | ⟨o, r⟩
  · exact x a u r
  · obtain ⟨_, q⟩ := x a _ r
    exact q
/-- what may be written -/
def Mut : Option HO → Prop
  | some (.lst _) => True
  | some (.dK _) => True
  | some (.dT _) => True
  | some (.set _ _) => True
  | some (.ins _ _ _) => True
  | some (.ext _) => True
  | _ => False
section
variable {P : Program} {w : World} {H : Hp} {h h' : Heap} {x e : Addr} {o' : HO}
/-- the object at e is changed: x itself, or the dict of the instance x -/
theorem HOk.write (ok : HOk P w H h) (mu : Mut (H x)) (he : e = x ∨ H e = some (.own x)) (k : ∀ b u, b ≠ e → h.get? b = some u → h'.get? b = some u) (heo : ∃ u, h'.get? e = some u)
    (new : ObjOk P w (upd H x o') h' x o') : HOk P w (upd H x o') h' := fun b u q => by
  have nown : ∀ c y, H c = some (.own y) → c ≠ x := fun c y r z => by subst z; rw [r] at mu; exact mu
  have ntup : ∀ c xs, H c = some (.tup xs) → c ≠ x := fun c xs r z => by subst z; rw [r] at mu; exact mu
  by_cases hb : b = x
  · subst hb; rw [upd_same] at q; cases q; exact new
  · rw [upd_ne hb] at q
    by_cases hbe : b = e
    · have q' : H b = some (.own x) := by
        rcases he with z | z
        · exact absurd (hbe.trans z) hb
        · rw [hbe]; exact z
      rw [q] at q'; cases q'
      obtain ⟨v, hv⟩ := heo
      exact ⟨v, by rw [hbe]; exact hv⟩
    · refine (ok b u q).stay (fun c v hc r => k c v ?_ r) (fun c r => by rw [upd_ne (nown c b r)]; exact r) fun c xs r => by rw [upd_ne (ntup c xs r)]; exact r
      rcases hc with rfl | hc
      · exact hbe
      · rintro rfl
        rcases he with z | z
        · exact nown c b hc z
        · rw [hc] at z; cases z; exact hb rfl
end

/-! ### kept unless tracked; of the frames at fs (the callers') the slots may change (an exception that passes writes there); of the records at ex (iterators) nothing is said -/
structure Un (fs ex : List Addr) (H H' : Hp) (h h' : Heap) : Prop where
  keep : ∀ b o, h.get? b = some o → H b = none → b ∉ fs → b ∉ ex → h'.get? b = some o
  slot : ∀ b o, h.get? b = some o → H b = none → b ∈ fs → b ∉ ex → ∃ sl, h'.get? b = some { o with slots := sl }
  free : ∀ b o, h.get? b = some o → H b = none → b ∉ ex → H' b = none
  there : ∀ b o, h.get? b = some o → b ∉ ex → ∃ o', h'.get? b = some o'
  tups : ∀ b xs, H b = some (.tup xs) → H' b = some (.tup xs)
  frzs : ∀ b o u, H b = some (.frz o u) → H' b = some (.frz o u)
  tbls : ∀ b ps, H b = some (.tbl ps) → ∃ more, H' b = some (.tbl (ps ++ more))
section
variable {fs fs' ex ex' : List Addr} {H H1 H2 : Hp} {h h1 h2 h' : Heap} {a x e : Addr} {o : HO}
theorem Un.any (u : Un fs ex H H1 h h1) {b : Addr} {ob : Obj} (q : h.get? b = some ob) (n : H b = none) (hx : b ∉ ex) : ∃ sl, h1.get? b = some { ob with slots := sl } := by
  by_cases hb : b ∈ fs
  · exact u.slot b ob q n hb hx
  · exact ⟨ob.slots, u.keep b ob q n hb hx⟩
theorem Un.kept (k : ∀ b u, h.get? b = some u → h'.get? b = some u) : Un fs ex H H h h' :=
  ⟨fun b ob q _ _ _ => k b ob q, fun b ob q _ _ _ => ⟨ob.slots, k b ob q⟩, fun _ _ _ n _ => n, fun b ob q _ => ⟨ob, k b ob q⟩, fun _ _ q => q, fun _ _ _ q => q, fun _ ps q => ⟨#[], by rw [q]; simp⟩⟩
theorem Un.refl : Un fs ex H H h h := Un.kept fun _ _ q => q
theorem Un.laid (k : ∀ b u, h.get? b = some u → h'.get? b = some u) (hp : h.objs.size ≤ a) (hn : H a = none) : Un fs ex H (upd H a o) h h' where
  keep := fun b u q _ _ _ => k b u q
  slot := fun b u q _ _ _ => ⟨u.slots, k b u q⟩
  free := fun b u q n _ => by rw [upd_ne (Nat.ne_of_lt (Nat.lt_of_lt_of_le (Heap.lt_size q) hp))]; exact n
  there := fun b u q _ => ⟨u, k b u q⟩
  tups := fun b xs q => by rw [upd_ne (ne_of_none q hn)]; exact q
  frzs := fun b u xs q => by rw [upd_ne (ne_of_none q hn)]; exact q
  tbls := fun b ps q => ⟨#[], by rw [upd_ne (ne_of_none q hn), q]; simp⟩
theorem Un.write (mu : Mut (H x)) (he : e = x ∨ H e = some (.own x)) (k : ∀ b u, b ≠ e → h.get? b = some u → h'.get? b = some u) (heo : ∃ u, h'.get? e = some u) : Un fs ex H (upd H x o) h h' := by
  have hx : ∀ b, H b = none → b ≠ x := fun b n z => by subst z; rw [n] at mu; exact mu
  have hb : ∀ b, H b = none → b ≠ e := fun b n z => by
    subst z
    rcases he with r | r
    · exact hx b n r
    · rw [n] at r; cases r
  have hm : ∀ b u, H b = some u → ¬ Mut (some u) → b ≠ x := fun b u q nm z => by subst z; rw [q] at mu; exact nm mu
  refine ⟨fun b u q n _ _ => k b u (hb b n) q, fun b u q n _ _ => ⟨u.slots, k b u (hb b n) q⟩, fun b u q n _ => by rw [upd_ne (hx b n)]; exact n, fun b u q _ => ?_,
    fun b xs q => by rw [upd_ne (hm b _ q fun z => z)]; exact q, fun b u xs q => by rw [upd_ne (hm b _ q fun z => z)]; exact q, fun b ps q => ⟨#[], by rw [upd_ne (hm b _ q fun z => z), q]; simp⟩⟩
  by_cases hbe : b = e
  · subst hbe; exact heo
  · exact ⟨u, k b u hbe q⟩
end

/-! ### the heap without what is tracked -/
def trk (h : Heap) (H : Hp) : List Addr := (List.range h.objs.size).filter fun a => (H a).isSome
def hidT (h : Heap) (H : Hp) : Heap := PySem.W.hideAll h (trk h H)
theorem hidT_size (h : Heap) (H : Hp) : (hidT h H).objs.size = h.objs.size := PySem.W.hideAll_size _ _
theorem hidT_get {h : Heap} {H : Hp} {b : Addr} {o : Obj} (e : h.get? b = some o) (n : H b = none) : (hidT h H).get? b = some o :=
  PySem.W.hideAll_get _ e fun hm => by
    have q : (H b).isSome = true := (List.mem_filter.mp hm).2
    rw [n] at q; simp at q
theorem of_hidT {h : Heap} {H : Hp} {b : Addr} {o : Obj} (e : (hidT h H).get? b = some o) : h.get? b = some o ∧ H b = none := by
  have e' : h.get? b = some o := PySem.W.of_hideAll (trk h H) e
  refine ⟨e', ?_⟩
  cases q : H b with
  | none => rfl
  | some x =>
    have hm : b ∈ trk h H := List.mem_filter.mpr ⟨List.mem_range.mpr (Heap.lt_size e'), by simp [q]⟩
    have z : (hidT h H).get? b = none := PySem.W.hideAll_none (trk h H) hm
    rw [z] at e; cases e

/-! ### OpenK's ledger, filled with every new object but one -/
end L2

namespace L2
open PySem PySem.Spec PyProof.Rows

/-- the module's facts, over the base: the heap at the law's entry without what is tracked there -/
structure Mod (K : PySem.W.Frag) (mg : Str → Option Value) (base : Heap) : Prop where
  kin : K.In base
  glob : base.Ns mainGlobals mg
  blt : ∃ mb, base.Ns builtinsNs mb ∧ ∀ x : Str, x ≠ "__name__" → mb x = bootBuiltins x
  nolimit : base.NoLimit

/-- the context: a def's body (or a comprehension's block) running. base: fixed through the whole law; s₀, H₀: the entry; outer: the frames whose slots others may change (a def's callers); stack: all frames that run;
   ex: iterators that were made ahead of the entry and are walked here (a comprehension's); fn: the names whose cells were made at the entry (a def: all; a comprehension's block: its own); calm: not within an except suite; pn: pins that every state bears; xe: what is wanted of an exception that leaves the code -/
structure Cx where
  prog : Program
  w : World
  K : PySem.W.Frag
  mg : Str → Option Value
  base : Heap
  A : Around
  N : List Str
  s₀ : Shared
  H₀ : Hp
  env : Env
  outer : List Env
  stack : List Env
  ex : List Addr
  fn : Str → Bool
  calm : Bool
  pn : List (Addr × Obj)
  xe : Value → Shared → Prop
/-- the callers' frames -/
def frs (l : List Env) : List Addr := l.filterMap (·.frame)
abbrev Cx.fs (X : Cx) : List Addr := frs X.outer

def Vis (sc : Scope) (x : Str) : Prop := sc.names.lookup x = some .local ∨ sc.names.lookup x = some .cell ∨ sc.names.lookup x = some .free
def Loc (sc : Scope) (x : Str) : Prop := sc.names.lookup x = some .local ∨ sc.names.lookup x = some .cell
def Look (env : Env) (h : Heap) (m : Str → Option Value) (x : Str) (u : Value) : Prop :=
  (env.kindOf x = some .local ∧ m x = some u) ∨ ((env.kindOf x = some .cell ∨ env.kindOf x = some .free) ∧ ∃ c, env.cells.lookup x = some c ∧ h.IsCell c (some u))

structure Cx.Ok (X : Cx) : Prop where
  mod : Mod X.K X.mg X.base
  kind : X.env.scope.kind = .function
  glob : X.env.globals = mainGlobals
  blt : X.env.builtins = builtinsNs
  above : X.s₀.heap.objs.size ≤ X.env.locals
  inj : ∀ x y c, X.env.cells.lookup x = some c → X.env.cells.lookup y = some c → x = y
  has : ∀ x, (X.env.kindOf x = some .cell ∨ X.env.kindOf x = some .free) → ∃ c, X.env.cells.lookup x = some c
  cab : ∀ x c, X.fn x = true → X.env.cells.lookup x = some c → X.s₀.heap.objs.size ≤ c
  hd : X.calm = true → X.A.handled = none
  frames : X.A.frames = some X.stack
  stk : X.stack = X.outer ∨ (X.stack = X.env :: X.outer ∧ X.env.frame = some X.env.locals)
  exf : ∀ b ∈ X.ex, b ≠ X.env.locals ∧ ∀ x c, X.env.cells.lookup x = some c → c ≠ b
  bs : ∀ b o, X.base.get? b = some o → X.s₀.heap.get? b = some o ∧ X.H₀ b = none
  bsz : X.base.objs.size ≤ X.s₀.heap.objs.size
  noex : ∀ b o, X.base.get? b = some o → b ∉ X.ex
  exfs : ∀ b ∈ X.ex, b ∉ X.fs
  funs : X.s₀.heap.FunFrames X.base X.outer
  frf : ∀ b ∈ X.fs, X.H₀ b = none

structure Inv (X : Cx) (pins : List (Addr × Obj)) (σ : List (Option V)) (H : Hp) (s : Shared) : Prop where
  ok : X.Ok
  os : s.os = X.s₀.os
  bare : AllBare s.gens
  base : Un X.fs X.ex X.H₀ H X.s₀.heap s.heap
  loc : ∃ m, s.heap.Ns X.env.locals m ∧ ∀ (i : Nat) (x : Str) (v : V), X.N[i]? = some x → σ[i]? = some (some v) → Vis X.env.scope x → ∃ u, RelV v u ∧ Look X.env s.heap m x u
  cell : ∀ x c, X.env.cells.lookup x = some c → ∃ v, s.heap.IsCell c v
  free : H X.env.locals = none
  freeC : ∀ x c, X.env.cells.lookup x = some c → H c = none
  pin : ∀ p ∈ X.pn ++ pins, s.heap.get? p.1 = some p.2 ∧ H p.1 = none ∧ p.1 ≠ X.env.locals ∧ p.1 ∉ X.fs ∧ ∀ v, p.2.data ≠ .cell v
  hok : HOk X.prog X.w H s.heap
  len : σ.length = X.N.length

section
variable {X : Cx} {pins : List (Addr × Obj)} {σ : List (Option V)} {H H' : Hp} {s : Shared} {h' : Heap}

theorem Cx.Ok.nofr (ok : X.Ok) {b : Addr} {o : Obj} (e : X.base.get? b = some o) : b ∉ X.fs := fun hb => by
  have := (ok.funs.mem hb).1
  rw [e] at this; cases this
theorem Inv.bs (I : Inv X pins σ H s) : ∀ b o, X.base.get? b = some o → s.heap.get? b = some o ∧ H b = none := fun b o e =>
  ⟨I.base.keep b o (I.ok.bs b o e).1 (I.ok.bs b o e).2 (I.ok.nofr e) (I.ok.noex b o e), I.base.free b o (I.ok.bs b o e).1 (I.ok.bs b o e).2 (I.ok.noex b o e)⟩
theorem Inv.bk (I : Inv X pins σ H s) : ∀ b o, X.base.get? b = some o → s.heap.get? b = some o := fun b o e => (I.bs b o e).1
theorem Inv.mod (I : Inv X pins σ H s) : Mod X.K X.mg X.base := I.ok.mod
theorem Inv.kIn (I : Inv X pins σ H s) : X.K.In s.heap := I.ok.mod.kin.keeps I.bk
theorem Inv.lt (I : Inv X pins σ H s) : X.env.locals < s.heap.objs.size := let ⟨_, hn, _⟩ := I.loc; hn.lt
theorem Inv.sz (I : Inv X pins σ H s) : X.s₀.heap.objs.size ≤ s.heap.objs.size := Nat.le_trans I.ok.above (Nat.le_of_lt I.lt)
theorem Inv.nofs (I : Inv X pins σ H s) {a : Addr} (h : s.heap.objs.size ≤ a) : a ∉ X.fs := fun hb => by
  obtain ⟨_, o, ho, _⟩ := I.ok.funs.mem hb
  exact absurd (Nat.lt_of_lt_of_le (Heap.lt_size ho) (Nat.le_trans I.sz h)) (Nat.lt_irrefl _)
theorem Inv.cne (I : Inv X pins σ H s) : ∀ x c, X.env.cells.lookup x = some c → c ≠ X.env.locals := fun x c e z => by
  obtain ⟨v, o, ho, hd⟩ := I.cell x c e
  obtain ⟨m, ⟨o', es, ep, ho', hd', _⟩, _⟩ := I.loc
  rw [z, ho'] at ho; cases ho; rw [hd'] at hd; cases hd
theorem Inv.funs (I : Inv X pins σ H s) : s.heap.FunFrames X.base X.outer := by
  have all : ∀ (l : List Env), (∀ b ∈ frs l, b ∈ X.fs) → X.s₀.heap.FunFrames X.base l → s.heap.FunFrames X.base l := by
    intro l
    induction l with
    | nil => intro _ _; trivial
    | cons env r ih =>
      intro hs hl
      obtain ⟨hk, ⟨L, o, hf, hn, ho, hd⟩, hr⟩ := hl
      have hL : L ∈ X.fs := hs L (by unfold frs; rw [List.filterMap_cons, hf]; exact List.mem_cons_self)
      obtain ⟨sl, e⟩ := I.base.slot L o ho (I.ok.frf L hL) hL fun z => I.ok.exfs L z hL
      exact ⟨hk, ⟨L, _, hf, hn, e, hd⟩, ih (fun b hb => hs b (by unfold frs; rw [List.filterMap_cons, hf]; exact List.mem_cons_of_mem _ hb)) hr⟩
  exact all X.outer (fun _ hb => hb) I.ok.funs

/-- the frames that run, for a call -/
theorem Inv.stack (I : Inv X pins σ H s) : s.heap.FunFrames X.base X.stack := by
  rcases I.ok.stk with e | ⟨e, hf⟩
  · rw [e]; exact I.funs
  · rw [e]
    obtain ⟨m, hn, _⟩ := I.loc
    refine .cons (by rw [I.ok.kind]; decide) hf hn ?_ I.funs
    exact Heap.get?_none_of_le (Nat.le_trans I.ok.bsz I.ok.above)
theorem Inv.stkSub (I : Inv X pins σ H s) : ∀ b ∈ frs X.stack, b ∈ X.env.locals :: X.fs := fun b hb => by
  rcases I.ok.stk with e | ⟨e, hf⟩
  · rw [e] at hb; exact List.mem_cons_of_mem _ hb
  · rw [e] at hb
    unfold frs at hb
    rw [List.filterMap_cons, hf] at hb
    exact hb
theorem Inv.stkFree (I : Inv X pins σ H s) : ∀ b ∈ frs X.stack, H b = none := fun b hb => by
  rcases List.mem_cons.mp (I.stkSub b hb) with e | hb
  · rw [e]; exact I.free
  · obtain ⟨_, o, ho, _⟩ := I.ok.funs.mem hb
    exact I.base.free b o ho (I.ok.frf b hb) fun z => I.ok.exfs b z hb

/-- THE STEP: the untracked objects but the frame and the records at ch are kept (the callers' frames up to slots), the frame's map is kept, the new abstract heap is held -/
theorem Inv.step {g' : Array GenState} {t' : Nat} {d' : Drawn} {ch : List Addr} (I : Inv X pins σ H s)
    (hch : ∀ b ∈ ch, (b ∈ X.ex ∨ X.s₀.heap.objs.size ≤ b) ∧ b ≠ X.env.locals ∧ (∀ x c, X.env.cells.lookup x = some c → c ≠ b) ∧ ∀ p ∈ X.pn ++ pins, p.1 ≠ b)
    (keep : ∀ b o, b ≠ X.env.locals → b ∉ X.fs → b ∉ ch → s.heap.get? b = some o → H b = none → h'.get? b = some o)
    (slot : ∀ b o, b ≠ X.env.locals → b ∈ X.fs → b ∉ ch → s.heap.get? b = some o → H b = none → ∃ sl, h'.get? b = some { o with slots := sl }) (free : ∀ b o, b ∉ ch → s.heap.get? b = some o → H b = none → H' b = none)
    (there : ∀ b o, b ∉ ch → s.heap.get? b = some o → ∃ o', h'.get? b = some o')
    (tups : ∀ b xs, H b = some (.tup xs) → H' b = some (.tup xs)) (frzs : ∀ b o u, H b = some (.frz o u) → H' b = some (.frz o u)) (tbls : ∀ b ps, H b = some (.tbl ps) → ∃ more, H' b = some (.tbl (ps ++ more)))
    (ns : ∀ m, s.heap.Ns X.env.locals m → h'.Ns X.env.locals m) (hok : HOk X.prog X.w H' h') (hg : AllBare g') :
    Inv X pins σ H' { s with heap := h', gens := g', drawn := d', toks := t' } := by
  have neL : ∀ b o, X.s₀.heap.get? b = some o → b ≠ X.env.locals := fun b o e => Nat.ne_of_lt (Nat.lt_of_lt_of_le (Heap.lt_size e) I.ok.above)
  have neC : ∀ b o, X.s₀.heap.get? b = some o → b ∉ X.ex → b ∉ ch := fun b o e hx hb => by
    rcases (hch b hb).1 with z | z
    · exact hx z
    · exact absurd (Nat.lt_of_lt_of_le (Heap.lt_size e) z) (Nat.lt_irrefl _)
  have cellK : ∀ x c, X.env.cells.lookup x = some c → ∀ v, s.heap.IsCell c v → h'.IsCell c v := fun x c e v ⟨o, ho, hd⟩ => by
    have nch : c ∉ ch := fun z => (hch c z).2.2.1 x c e rfl
    by_cases hc : c ∈ X.fs
    · obtain ⟨sl, q⟩ := slot c o (I.cne x c e) hc nch ho (I.freeC x c e)
      exact ⟨_, q, hd⟩
    · exact ⟨o, keep c o (I.cne x c e) hc nch ho (I.freeC x c e), hd⟩
  refine ⟨I.ok, I.os, hg, ⟨fun b o e n hb hx => ?_, fun b o e n hb hx => ?_, fun b o e n hx => ?_, fun b o e hx => ?_, fun b xs e => tups b xs (I.base.tups b xs e), fun b o xs e => frzs b o xs (I.base.frzs b o xs e), fun b ps e => ?_⟩, ?_, fun x c e => ?_, ?_, fun x c e => ?_, fun p hp => ?_, hok, I.len⟩
  · exact keep b o (neL b o e) hb (neC b o e hx) (I.base.keep b o e n hb hx) (I.base.free b o e n hx)
  · obtain ⟨sl, e1⟩ := I.base.slot b o e n hb hx
    obtain ⟨sl', e2⟩ := slot b _ (neL b o e) hb (neC b o e hx) e1 (I.base.free b o e n hx)
    exact ⟨sl', e2⟩
  · obtain ⟨o', e1⟩ := I.base.there b o e hx
    exact free b o' (neC b o e hx) e1 (I.base.free b o e n hx)
  · obtain ⟨o', e1⟩ := I.base.there b o e hx
    exact there b o' (neC b o e hx) e1
  · obtain ⟨m1, e1⟩ := I.base.tbls b ps e
    obtain ⟨m2, e2⟩ := tbls b _ e1
    exact ⟨m1 ++ m2, by rw [e2, Array.append_assoc]⟩
  · obtain ⟨m, hn, hl⟩ := I.loc
    refine ⟨m, ns m hn, fun i x v e1 e2 e3 => ?_⟩
    obtain ⟨u, r, l⟩ := hl i x v e1 e2 e3
    refine ⟨u, r, ?_⟩
    rcases l with l | ⟨k, c, e, z⟩
    · exact .inl l
    · exact .inr ⟨k, c, e, cellK x c e _ z⟩
  · obtain ⟨v, z⟩ := I.cell x c e
    exact ⟨v, cellK x c e v z⟩
  · obtain ⟨m, ⟨o, _, _, ho, _⟩, _⟩ := I.loc
    exact free _ o (fun z => (hch _ z).2.1 rfl) ho I.free
  · obtain ⟨v, o, ho, hd⟩ := I.cell x c e
    exact free c o (fun z => (hch c z).2.2.1 x c e rfl) ho (I.freeC x c e)
  · obtain ⟨e, n, ne, nf, d⟩ := I.pin p hp
    have nch : p.1 ∉ ch := fun z => (hch p.1 z).2.2.2 p hp rfl
    exact ⟨keep p.1 p.2 ne nf nch e n, free p.1 p.2 nch e n, ne, nf, d⟩
/-- .. where the frame's own object is kept too -/
theorem Inv.un {t' : Nat} (I : Inv X pins σ H s) (u : Un X.fs [] H H' s.heap h') (hok : HOk X.prog X.w H' h') : Inv X pins σ H' { s with heap := h', toks := t' } := by
  obtain ⟨m, ⟨o, es, ep, ho, r⟩, _⟩ := id I.loc
  obtain ⟨sl, hL⟩ := u.any ho I.free (by simp)
  exact I.step (g' := s.gens) (d' := s.drawn) (ch := []) (fun _ z => nomatch z) (fun b o _ hb _ e n => u.keep b o e n hb (by simp)) (fun b o _ hb _ e n => u.slot b o e n hb (by simp)) (fun b o _ e n => u.free b o e n (by simp)) (fun b o _ e => u.there b o e (by simp)) u.tups u.frzs u.tbls (fun m' hm => by
    obtain ⟨o', es', ep', ho', r'⟩ := hm
    rw [ho] at ho'; cases ho'
    exact ⟨_, es', ep', hL, r'⟩) hok I.bare
/-- behind a call (or a comprehension's block): the slots of this frame may have changed too, the records at ch may have turned -/
theorem Inv.call {g' : Array GenState} {t' : Nat} {d' : Drawn} {ch : List Addr} (I : Inv X pins σ H s) (u : Un (frs X.stack) ch H H' s.heap h') (hok : HOk X.prog X.w H' h') (hg : AllBare g')
    (hch : ∀ b ∈ ch, (b ∈ X.ex ∨ X.s₀.heap.objs.size ≤ b) ∧ b ≠ X.env.locals ∧ (∀ x c, X.env.cells.lookup x = some c → c ≠ b) ∧ ∀ p ∈ X.pn ++ pins, p.1 ≠ b) :
    Inv X pins σ H' { s with heap := h', gens := g', drawn := d', toks := t' } := by
  obtain ⟨m, ⟨o, es, ep, ho, r⟩, _⟩ := id I.loc
  obtain ⟨sl, hL⟩ := u.any ho I.free fun z => (hch _ z).2.1 rfl
  exact I.step (ch := ch) hch (fun b o hL hb hc e n => u.keep b o e n (fun z => (List.mem_cons.mp (I.stkSub b z)).elim hL hb) hc) (fun b o _ _ hc e n => u.any e n hc) (fun b o hc e n => u.free b o e n hc) (fun b o hc e => u.there b o e hc) u.tups u.frzs u.tbls (fun m' hm => by
    obtain ⟨o', es', ep', ho', r'⟩ := hm
    rw [ho] at ho'; cases ho'
    exact ⟨_, es', ep', hL, r'⟩) hok hg
/-- an untracked record of ours (an iterator) has turned -/
theorem Inv.turned {t' : Nat} {it : Addr} (I : Inv X pins σ H s) (k : ∀ b o, b ≠ it → s.heap.get? b = some o → h'.get? b = some o) (hn : H it = none) (hL : it ≠ X.env.locals)
    (h1 : it ∈ X.ex ∨ X.s₀.heap.objs.size ≤ it) (h2 : ∀ x c, X.env.cells.lookup x = some c → c ≠ it) (h3 : ∀ p ∈ X.pn ++ pins, p.1 ≠ it) : Inv X pins σ H { s with heap := h', toks := t' } := by
  have nit : ∀ b u, H b = some u → b ≠ it := fun b u e z => by rw [z, hn] at e; cases e
  refine I.step (g' := s.gens) (d' := s.drawn) (ch := [it]) (fun b hb => ?_) (fun b o _ _ hc e _ => k b o (fun z => hc (by simp [z])) e) (fun b o _ _ hc e _ => ⟨o.slots, k b o (fun z => hc (by simp [z])) e⟩) (fun _ _ _ _ n => n)
    (fun b o hc e => ⟨o, k b o (fun z => hc (by simp [z])) e⟩) (fun _ _ e => e) (fun _ _ _ e => e) (fun b ps e => ⟨#[], by rw [e]; simp⟩) (fun m hm => ?_) (fun b u e => ?_) I.bare
  · have e : b = it := by simpa using hb
    subst e
    exact ⟨h1, hL, h2, h3⟩
  · obtain ⟨o, es, ep, ho, r⟩ := hm
    exact ⟨o, es, ep, k _ o (Ne.symm hL) ho, r⟩
  · refine (I.hok b u e).stay (fun c v hc q => k c v ?_ q) (fun _ q => q) fun _ _ q => q
    rcases hc with z | z
    · rw [z]; exact nit b u e
    · exact nit c _ z
theorem Inv.tok (I : Inv X pins σ H s) (t : Nat) : Inv X pins σ H { s with toks := t } := I.un (h' := s.heap) (t' := t) Un.refl I.hok
/-- all objects kept -/
theorem Inv.kept {t' : Nat} (I : Inv X pins σ H s) (k : ∀ b u, s.heap.get? b = some u → h'.get? b = some u) : Inv X pins σ H { s with heap := h', toks := t' } := I.un (Un.kept k) (I.hok.kept k)
/-- a new object laid and tracked -/
theorem Inv.laid {a : Addr} {o : HO} {t' : Nat} (I : Inv X pins σ H s) (k : ∀ b u, s.heap.get? b = some u → h'.get? b = some u) (hp : s.heap.objs.size ≤ a) (new : ObjOk X.prog X.w (upd H a o) h' a o) :
    Inv X pins σ (upd H a o) { s with heap := h', toks := t' } := I.un (Un.laid k hp (I.hok.fresh hp)) (I.hok.laid k hp new)
/-- an object written -/
theorem Inv.write {x e : Addr} {o : HO} {t' : Nat} (I : Inv X pins σ H s) (mu : Mut (H x)) (he : e = x ∨ H e = some (.own x)) (k : ∀ b u, b ≠ e → s.heap.get? b = some u → h'.get? b = some u) (heo : ∃ u, h'.get? e = some u)
    (new : ObjOk X.prog X.w (upd H x o) h' x o) : Inv X pins σ (upd H x o) { s with heap := h', toks := t' } := I.un (Un.write mu he k heo) (I.hok.write mu he k heo new)
theorem Inv.pins_of {pins' : List (Addr × Obj)} (I : Inv X pins σ H s) (h : ∀ p ∈ pins', s.heap.get? p.1 = some p.2 ∧ H p.1 = none ∧ p.1 ≠ X.env.locals ∧ p.1 ∉ X.fs ∧ ∀ v, p.2.data ≠ .cell v) : Inv X pins' σ H s :=
  ⟨I.ok, I.os, I.bare, I.base, I.loc, I.cell, I.free, I.freeC, fun p hp => (List.mem_append.mp hp).elim (fun z => I.pin p (List.mem_append_left _ z)) (h p), I.hok, I.len⟩

theorem nodup_ix {N : List Str} (hN : N.Nodup) {i j : Nat} {x : Str} (a : N[i]? = some x) (b : N[j]? = some x) : i = j := by
  obtain ⟨h1, e1⟩ := List.getElem?_eq_some_iff.mp a
  obtain ⟨h2, e2⟩ := List.getElem?_eq_some_iff.mp b
  exact (List.getElem_inj hN).mp (e1.trans e2.symm)

/-- a name is stored; what changed -/
theorem store_ok2 {M : Model} {A : Around} {E : Value → Shared → Prop} {i : Nat} {x : Str} {v : V} {u : Value} {Q : Unit → Shared → Prop} (I : Inv X pins σ H s) (hN : X.N.Nodup) (hi : X.N[i]? = some x) (hx : Loc X.env.scope x) (r : RelV v u)
    (h : ∀ s', Inv X pins (σ.set i (some v)) H s' → (∃ a, Heap.SameBut a s.heap s'.heap ∧ (a = X.env.locals ∨ X.env.cells.lookup x = some a)) → Q () s') (hf : X.fn x = true ∨ X.env.scope.names.lookup x = some .local := by first | exact .inl rfl | exact .inr rfl | assumption) : wpAny M A (storeName X.env x u) Q E s := by
  obtain ⟨m, hn, hl⟩ := id I.loc
  have hcls : (X.env.scope.kind == .class || (X.env.scope.kind == .module && X.env.locals != X.env.globals)) = false := by rw [I.ok.kind]; rfl
  have hiσ : i < σ.length := by rw [I.len]; exact (List.getElem?_eq_some_iff.mp hi).1
  have cne := I.cne
  have tracked : ∀ {a : Addr} {h' : Heap}, (∃ o, s.heap.get? a = some o ∧ H a = none) → Heap.SameBut a s.heap h' → HOk X.prog X.w H h' := fun {a h'} ha hs b ob e => by
    obtain ⟨_, _, hfree⟩ := ha
    refine (I.hok b ob e).stay (fun c w' hc q => (hs.2 c ?_).trans q) (fun _ q => q) fun _ _ q => q
    rintro rfl
    rcases hc with rfl | hc
    · rw [hfree] at e; cases e
    · rw [hfree] at hc; cases hc
  rcases hx with hk | hk
  · refine wpAny_storeName_local hk hn (fun h' hn' hs => ?_) hcls
    obtain ⟨oL, _, _, hoL, _⟩ := id hn
    refine h _ ⟨I.ok, I.os, I.bare, ⟨fun b o e n hb hx => ?_, fun b o e n hb hx => ?_, I.base.free, fun b o e hx => ?_, I.base.tups, I.base.frzs, I.base.tbls⟩, ⟨_, hn', fun j y v' e1 e2 e3 => ?_⟩, fun y c e => ?_, I.free, I.freeC, fun p hp => ?_, tracked ⟨oL, hoL, I.free⟩ hs, by simpa using I.len⟩ ⟨_, hs, .inl rfl⟩
    · exact (hs.2 b (Nat.ne_of_lt (Nat.lt_of_lt_of_le (Heap.lt_size e) I.ok.above))).trans (I.base.keep b o e n hb hx)
    · obtain ⟨sl, e1⟩ := I.base.slot b o e n hb hx
      exact ⟨sl, (hs.2 b (Nat.ne_of_lt (Nat.lt_of_lt_of_le (Heap.lt_size e) I.ok.above))).trans e1⟩
    · obtain ⟨o', e1⟩ := I.base.there b o e hx
      exact ⟨o', (hs.2 b (Nat.ne_of_lt (Nat.lt_of_lt_of_le (Heap.lt_size e) I.ok.above))).trans e1⟩
    · by_cases hj : j = i
      · subst hj
        rw [hi] at e1; cases e1
        rw [List.getElem?_set_self hiσ] at e2
        cases e2
        exact ⟨u, r, .inl ⟨hk, by simp⟩⟩
      · rw [List.getElem?_set_ne (Ne.symm hj)] at e2
        obtain ⟨u', r', q⟩ := hl j y v' e1 e2 e3
        refine ⟨u', r', ?_⟩
        rcases q with ⟨k, e⟩ | ⟨k, c, e, z⟩
        · refine .inl ⟨k, ?_⟩
          have : y ≠ x := fun e => hj (nodup_ix hN e1 (e ▸ hi))
          simp [this, e]
        · exact .inr ⟨k, c, e, z.sameBut hs (cne y c e)⟩
    · obtain ⟨w', z⟩ := I.cell y c e
      exact ⟨w', z.sameBut hs (cne y c e)⟩
    · obtain ⟨e, n, ne, nf, d⟩ := I.pin p hp
      exact ⟨(hs.2 p.1 ne).trans e, n, ne, nf, d⟩
  · have hfn : X.fn x = true := by
      rcases hf with z | z
      · exact z
      · rw [z] at hk; cases hk
    obtain ⟨c, hc⟩ := I.ok.has x (.inl hk)
    obtain ⟨w', z⟩ := I.cell x c hc
    refine wpAny_storeName_cell I.ok.kind hk hc z (fun h' hc' hs => ?_)
    obtain ⟨oc, hoc, hocd⟩ := id z
    refine h { s with heap := h' } ⟨I.ok, I.os, I.bare, ⟨fun b o e n hb hx => ?_, fun b o e n hb hx => ?_, I.base.free, fun b o e hx => ?_, I.base.tups, I.base.frzs, I.base.tbls⟩, ⟨m, hn.sameBut hs (Ne.symm (cne x c hc)), fun j y v' e1 e2 e3 => ?_⟩, fun y c' e => ?_, I.free, I.freeC, fun p hp => ?_, tracked ⟨oc, hoc, I.freeC x c hc⟩ hs, by simpa using I.len⟩ ⟨c, hs, .inr hc⟩
    · exact (hs.2 b (Nat.ne_of_lt (Nat.lt_of_lt_of_le (Heap.lt_size e) (I.ok.cab x c hfn hc)))).trans (I.base.keep b o e n hb hx)
    · obtain ⟨sl, e1⟩ := I.base.slot b o e n hb hx
      exact ⟨sl, (hs.2 b (Nat.ne_of_lt (Nat.lt_of_lt_of_le (Heap.lt_size e) (I.ok.cab x c hfn hc)))).trans e1⟩
    · obtain ⟨o', e1⟩ := I.base.there b o e hx
      exact ⟨o', (hs.2 b (Nat.ne_of_lt (Nat.lt_of_lt_of_le (Heap.lt_size e) (I.ok.cab x c hfn hc)))).trans e1⟩
    · by_cases hj : j = i
      · subst hj
        rw [hi] at e1; cases e1
        rw [List.getElem?_set_self hiσ] at e2
        cases e2
        exact ⟨u, r, .inr ⟨.inl hk, c, hc, hc'⟩⟩
      · rw [List.getElem?_set_ne (Ne.symm hj)] at e2
        obtain ⟨u', r', q⟩ := hl j y v' e1 e2 e3
        refine ⟨u', r', ?_⟩
        rcases q with q | ⟨k, c', e, z'⟩
        · exact .inl q
        · refine .inr ⟨k, c', e, z'.sameBut hs ?_⟩
          rintro rfl
          exact hj (nodup_ix hN e1 (I.ok.inj _ _ _ e hc ▸ hi))
    · by_cases hcc : c' = c
      · subst hcc; exact ⟨_, hc'⟩
      · obtain ⟨w2, z2⟩ := I.cell y c' e
        exact ⟨w2, z2.sameBut hs hcc⟩
    · obtain ⟨e, n, ne, nf, d⟩ := I.pin p hp
      refine ⟨(hs.2 p.1 ?_).trans e, n, ne, nf, d⟩
      intro q
      rw [q, hoc] at e
      have q' : oc = p.2 := Option.some.inj e
      exact d w' (by rw [← q']; exact hocd)
theorem store_ok {M : Model} {A : Around} {E : Value → Shared → Prop} {i : Nat} {x : Str} {v : V} {u : Value} {Q : Unit → Shared → Prop} (I : Inv X pins σ H s) (hN : X.N.Nodup) (hi : X.N[i]? = some x) (hx : Loc X.env.scope x) (r : RelV v u)
    (h : ∀ s', Inv X pins (σ.set i (some v)) H s' → Q () s') (hf : X.fn x = true ∨ X.env.scope.names.lookup x = some .local := by first | exact .inl rfl | exact .inr rfl | assumption) : wpAny M A (storeName X.env x u) Q E s :=
  store_ok2 I hN hi hx r (fun s' I' _ => h s' I') hf
/-- behind a call or a block, the state as it is -/
theorem Inv.call' {s' : Shared} {ch : List Addr} (I : Inv X pins σ H s) (ho : s'.os = s.os) (u : Un (frs X.stack) ch H H' s.heap s'.heap) (hok : HOk X.prog X.w H' s'.heap) (hg : AllBare s'.gens)
    (hch : ∀ b ∈ ch, (b ∈ X.ex ∨ X.s₀.heap.objs.size ≤ b) ∧ b ≠ X.env.locals ∧ (∀ x c, X.env.cells.lookup x = some c → c ≠ b) ∧ ∀ p ∈ X.pn ++ pins, p.1 ≠ b) : Inv X pins σ H' s' := by
  obtain ⟨h', g', d', t', o'⟩ := s'
  have e : o' = s.os := ho
  subst e
  exact I.call (g' := g') (t' := t') (d' := d') u hok hg hch
end

/-! ### the judgements -/
/-- an exception: its class, its own dict's address (where it has one), the abstract heap behind it -/
abbrev XK := Value → Option Addr → Hp → Prop
abbrev St := List (Option V)
abbrev VK := V → Hp → Prop
/-- an expression's reading; a test's; an argument list's -/
abbrev TE := St → Hp → VK → Prop
abbrev TT := St → Hp → (Bool → Hp → Prop) → Prop
abbrev TA := St → Hp → (List V → Hp → Prop) → Prop
/-- what is wanted behind a statement -/
structure Ends where
  nx : St → Hp → Prop
  rt : VK
  bk : St → Hp → Prop := fun _ _ => False
  ct : St → Hp → Prop := fun _ _ => False
abbrev TS := Ends → St → Hp → Prop

def EP (X : Cx) (pins : List (Addr × Obj)) (σ : St) (Q : VK) (u : Value) (s' : Shared) : Prop := ∃ v H', Inv X pins σ H' s' ∧ RelV v u ∧ Q v H'
def TP (X : Cx) (pins : List (Addr × Obj)) (σ : St) (Q : Bool → Hp → Prop) (b : Bool) (s' : Shared) : Prop := ∃ H', Inv X pins σ H' s' ∧ Q b H'
def AP (X : Cx) (pins : List (Addr × Obj)) (σ : St) (Q : List V → Hp → Prop) (us : List Value) (s' : Shared) : Prop := ∃ vs H', Inv X pins σ H' s' ∧ Vals vs us ∧ Q vs H'
def SP (X : Cx) (pins : List (Addr × Obj)) (D : Ends) (f : Flow) (s' : Shared) : Prop :=
  match f with
  | .next => ∃ σ' H', Inv X pins σ' H' s' ∧ D.nx σ' H'
  | .brk => ∃ σ' H', Inv X pins σ' H' s' ∧ D.bk σ' H'
  | .cont => ∃ σ' H', Inv X pins σ' H' s' ∧ D.ct σ' H'
  | .ret u => ∃ v σ' H', Inv X pins σ' H' s' ∧ RelV v u ∧ D.rt v H'

def PE (X : Cx) (e : Expr) (t : TE) : Prop :=
  ∀ (pins : List (Addr × Obj)) (s : Shared) (σ : St) (H : Hp) (Q : VK), Inv X pins σ H s → t σ H Q → wpAny (model X.prog X.w) X.A (eval e X.env) (EP X pins σ Q) X.xe s
def PT (X : Cx) (e : Expr) (t : TT) : Prop :=
  ∀ (pins : List (Addr × Obj)) (s : Shared) (σ : St) (H : Hp) (Q : Bool → Hp → Prop), Inv X pins σ H s → t σ H Q → wpAny (model X.prog X.w) X.A (isTrue e X.env (eval e X.env)) (TP X pins σ Q) X.xe s
/-- a test whatever its 'whole' is (and, or) -/
def PW (X : Cx) (e : Expr) (t : TT) : Prop :=
  ∀ (whole : Sem Value) (pins : List (Addr × Obj)) (s : Shared) (σ : St) (H : Hp) (Q : Bool → Hp → Prop), Inv X pins σ H s → t σ H Q → wpAny (model X.prog X.w) X.A (isTrue e X.env whole) (TP X pins σ Q) X.xe s
theorem PW.pt {X : Cx} {e : Expr} {t : TT} (h : PW X e t) : PT X e t := h _
/-- an argument list (no star), from the left -/
def PA (X : Cx) (es : List Expr) (t : TA) : Prop :=
  ∀ (pos : Pos) (pins : List (Addr × Obj)) (s : Shared) (σ : St) (H : Hp) (Q : List V → Hp → Prop), Inv X pins σ H s → t σ H Q → wpAny (model X.prog X.w) X.A (spliced (backTo pos (starEach es X.env))) (AP X pins σ Q) X.xe s
def PS (X : Cx) (st : Stmt) (t : TS) : Prop :=
  ∀ (pins : List (Addr × Obj)) (s : Shared) (σ : St) (H : Hp) (D : Ends), Inv X pins σ H s → t D σ H → wpAny (model X.prog X.w) X.A (exec st X.env) (SP X pins D) X.xe s
def PSs (X : Cx) (st : List Stmt) (t : TS) : Prop :=
  ∀ (pins : List (Addr × Obj)) (s : Shared) (σ : St) (H : Hp) (D : Ends), Inv X pins σ H s → t D σ H → wpAny (model X.prog X.w) X.A (execs st X.env) (SP X pins D) X.xe s
/-- weaken the end -/
theorem thn {α : Type} {t : Sem α} {Q Q' : α → Shared → Prop} {M : Model} {A : Around} {E : Value → Shared → Prop} {s : Shared} (h : wpAny M A t Q E s) (hQ : ∀ a s, Q a s → Q' a s) : wpAny M A t Q' E s := wpAny_mono h hQ fun _ _ x => x
end L2

namespace L2
open PySem PySem.Spec PyProof.Rows
section
variable {X : Cx}

/-! ### names and constants -/
def tVar (i : Nat) : TE := fun σ H Q => ∃ v, σ[i]? = some (some v) ∧ Q v H
def tC (v : V) : TE := fun _ H Q => Q v H
theorem pe_var {i : Nat} {x : Str} {pos : Pos} (hN : X.N[i]? = some x) (hv : Vis X.env.scope x) (hd : (x == ("__debug__" : Str)) = false := by decide) (hcd : (x == ("__classdict__" : Str)) = false := by decide) : PE X (.Name x pos) (tVar i) := by
  intro pins s σ H Q I h
  obtain ⟨v, e, h⟩ := h
  obtain ⟨m, hn, hl⟩ := I.loc
  obtain ⟨u, r, l⟩ := hl i x v hN e hv
  have fin : EP X pins σ Q u s := ⟨v, H, I, r, h⟩
  rcases l with ⟨hk, hm⟩ | ⟨hk, c, hc, hcell⟩
  · exact wpAny_Name (wpAny_loadName_local I.ok.kind hk hn hm fin) hd
  · rcases hk with hk | hk
    · exact wpAny_Name (wpAny_loadName_cell I.ok.kind hk hc hcell fin) hd
    · exact wpAny_Name (wpAny_loadName_free I.ok.kind hk hc hcell fin hcd) hd
theorem pe_int {i j pos} : PE X (.Constant (.int i) j pos) (tC (.int i)) := fun _ _ _ H _ I h => wpAny_Constant_int ⟨.int i, H, I.tok _, ⟨_, rfl⟩, h⟩
theorem pe_bl {b j pos} : PE X (.Constant (.bool b) j pos) (tC (.bl b)) := fun _ _ _ H _ I h => Constant_bool ⟨.bl b, H, I, rfl, h⟩
theorem pe_str {x j pos} : PE X (.Constant (.str x) j pos) (tC (.str x)) := fun _ _ _ H _ I h => Calls.Constant_str ⟨.str x, H, I.tok _, ⟨_, rfl⟩, h⟩

/-- a global name of the def -/
def Gl (X : Cx) (x : Str) : Prop := X.env.kindOf x = some .globalImplicit
theorem ld_glob {E : Value → Shared → Prop} {pins : List (Addr × Obj)} {s : Shared} {σ : St} {H : Hp} {x : Str} {u : Value} {pos : Pos} {Q : Value → Shared → Prop} (I : Inv X pins σ H s) (hg : Gl X x) (hm : X.mg x = some u) (h : Q u s)
    (hd : (x == ("__debug__" : Str)) = false := by decide) : wpAny (model X.prog X.w) X.A (eval (.Name x pos) X.env) Q E s :=
  Calls.Name_function_global I.ok.kind hg (Calls.loadGlobal_global (by rw [I.ok.glob]; exact I.mod.glob.keeps I.bk) hm h) hd
theorem ld_blt {E : Value → Shared → Prop} {pins : List (Addr × Obj)} {s : Shared} {σ : St} {H : Hp} {x : Str} {u : Value} {pos : Pos} {Q : Value → Shared → Prop} (I : Inv X pins σ H s) (hg : Gl X x) (hm : X.mg x = none) (hv : bootBuiltins x = some u) (h : Q u s)
    (hn : x ≠ "__name__" := by decide) (hd : (x == ("__debug__" : Str)) = false := by decide) : wpAny (model X.prog X.w) X.A (eval (.Name x pos) X.env) Q E s := by
  obtain ⟨mb, h1, h2⟩ := I.mod.blt
  exact Calls.Name_function_global I.ok.kind hg (Calls.loadGlobal_builtin (by rw [I.ok.glob]; exact I.mod.glob.keeps I.bk) hm (by rw [I.ok.blt]; exact h1.keeps I.bk) ((h2 x hn).trans hv) h) hd
/-- a module's constant, a class, a function, as a value -/
theorem pe_glob {x : Str} {v : V} {u : Value} {pos : Pos} (hg : Gl X x) (hm : X.mg x = some u) (r : RelV v u) (hd : (x == ("__debug__" : Str)) = false := by decide) : PE X (.Name x pos) (tC v) :=
  fun _ _ _ H _ I h => ld_glob I hg hm ⟨v, H, I, r, h⟩ hd
theorem pe_bltn {x : Str} {v : V} {u : Value} {pos : Pos} (hg : Gl X x) (hm : X.mg x = none) (hv : bootBuiltins x = some u) (r : RelV v u) (hn : x ≠ "__name__" := by decide) (hd : (x == ("__debug__" : Str)) = false := by decide) : PE X (.Name x pos) (tC v) :=
  fun _ _ _ H _ I h => ld_blt I hg hm hv ⟨v, H, I, r, h⟩ hn hd

/-! ### arithmetic -/
variable {a b : Expr} {ta tb : TE} {pos : Pos}
/-! ### comparisons -/
/-- a comparison as a value, as a test -/
def tB (t : TE) : TT := fun σ H Q => t σ H fun x H1 => ∃ c, x = .bl c ∧ Q c H1
/-- an expression whose value is a bool, as a test -/
theorem pt_val {e : Expr} {t : TE} (h : PE X e t) (he : ∀ whole, isTrue e X.env whole = (do let v ← whole; standAt e.pos; holding [v] (truthy v)) := by intro _; rfl) : PT X e (tB t) := by
  intro pins s σ H Q I hw
  refine isTrue_plain (thn (h pins s σ H _ I hw) fun v s1 ⟨x, H1, I1, r1, q1⟩ => ?_) (he _)
  obtain ⟨d, rfl, q⟩ := q1
  cases r1
  exact wpAny_truthy_bool ⟨H1, I1, q⟩

/-! ### and, or, not -/
variable {tA tB' : TT} {rest : List Expr}
def tAnd (t u : TT) : TT := fun σ H Q => t σ H fun c H1 => if c = true then u σ H1 Q else Q false H1
def tOr (t u : TT) : TT := fun σ H Q => t σ H fun c H1 => if c = true then Q true H1 else u σ H1 Q
def tNot (t : TT) : TT := fun σ H Q => t σ H fun c H1 => Q (!c) H1
theorem pw_and1 (ha : PT X a tA) : PW X (.BoolOp .And [a] pos) tA := by
  intro wh pins s σ H Q I h
  refine isTrue_and (thn (ha pins s σ H Q I h) fun c s1 e => ?_)
  cases c with
  | true => exact isTrue_and_nil e
  | false => exact e
theorem pw_or1 (ha : PT X a tA) : PW X (.BoolOp .Or [a] pos) tA := by
  intro wh pins s σ H Q I h
  refine isTrue_or (thn (ha pins s σ H Q I h) fun c s1 e => ?_)
  cases c with
  | false => exact isTrue_or_nil e
  | true => exact e
theorem pw_and (ha : PT X a tA) (hb : PW X (.BoolOp .And (b :: rest) pos) tB') : PW X (.BoolOp .And (a :: b :: rest) pos) (tAnd tA tB') := by
  intro wh pins s σ H Q I h
  refine isTrue_and (thn (ha pins s σ H _ I h) fun c s1 ⟨H1, I1, q1⟩ => ?_)
  cases c with
  | true => exact hb wh pins s1 σ H1 Q I1 q1
  | false => exact ⟨H1, I1, q1⟩
theorem pw_or (ha : PT X a tA) (hb : PW X (.BoolOp .Or (b :: rest) pos) tB') : PW X (.BoolOp .Or (a :: b :: rest) pos) (tOr tA tB') := by
  intro wh pins s σ H Q I h
  refine isTrue_or (thn (ha pins s σ H _ I h) fun c s1 ⟨H1, I1, q1⟩ => ?_)
  cases c with
  | true => exact ⟨H1, I1, q1⟩
  | false => exact hb wh pins s1 σ H1 Q I1 q1
theorem pt_not (ha : PT X a tA) : PT X (.UnaryOp .Not a pos) (tNot tA) := by
  intro pins s σ H Q I h
  exact isTrue_not (ha pins s σ H (fun c H1 => Q (!c) H1) I h)
/-- .. as values (bools) -/
def tAndV (ta tb : TE) : TE := fun σ H Q => ta σ H fun x H1 => ∃ c, x = .bl c ∧ if c = true then tb σ H1 Q else Q (.bl false) H1
def tNotV (ta : TE) : TE := fun σ H Q => ta σ H fun x H1 => ∃ c, x = .bl c ∧ Q (.bl (!c)) H1
theorem pe_one {op} {t : TE} (h : PE X a t) : PE X (.BoolOp op [a] pos) t := fun pins s σ H Q I hw => BoolOp_one (h pins s σ H Q I hw)
theorem pe_and (ha : PE X a ta) (hb : PE X (.BoolOp .And (b :: rest) pos) tb) : PE X (.BoolOp .And (a :: b :: rest) pos) (tAndV ta tb) := by
  intro pins s σ H Q I h
  refine BoolOp_and (thn (ha pins s σ H _ I h) fun v s1 ⟨x, H1, I1, r1, q1⟩ => ?_)
  obtain ⟨c, rfl, q1⟩ := q1
  cases r1
  refine wpAny_truthy_bool ?_
  cases c with
  | true => exact hb pins s1 σ H1 Q I1 q1
  | false => exact ⟨.bl false, H1, I1, rfl, q1⟩
theorem pe_not (ha : PE X a ta) : PE X (.UnaryOp .Not a pos) (tNotV ta) := by
  intro pins s σ H Q I h
  refine UnaryOp_ (thn (ha pins s σ H _ I h) fun v s1 ⟨x, H1, I1, r1, q1⟩ => ?_)
  obtain ⟨c, rfl, q1⟩ := q1
  cases r1
  exact not_of (wpAny_truthy_bool ⟨.bl (!c), H1, I1, rfl, q1⟩)
/-- a if t else b -/
def tIf (t : TT) (ta tb : TE) : TE := fun σ H Q => t σ H fun c H1 => if c = true then ta σ H1 Q else tb σ H1 Q
theorem pe_ifExp {c : Expr} (hc : PT X c tA) (ha : PE X a ta) (hb : PE X b tb) : PE X (.IfExp c a b pos) (tIf tA ta tb) := by
  intro pins s σ H Q I h
  refine wpAny_IfExp (thn (hc pins s σ H _ I h) fun d s1 ⟨H1, I1, q1⟩ => ?_)
  cases d with
  | true => exact ha pins s1 σ H1 Q I1 q1
  | false => exact hb pins s1 σ H1 Q I1 q1
end
end L2

namespace L2
open PySem PySem.Spec PyProof.Rows

/-! ### a list, a tuple that is read: tracked, frozen, or an object of the module -/
def SqL (K : PySem.W.Frag) (H : Hp) (a : Addr) (xs : List V) : Prop :=
  Rd H a (.lst xs) ∨
    ∃ (o : Obj) (its : Array Value) (n : Nat), K.lookup a = some o ∧ o.cls = .type "list" ∧ o.dict = none ∧ o.data = .seq its n ∧ its.size ≤ sizeLine ∧ Vals xs its.toList
def SqT (K : PySem.W.Frag) (H : Hp) (a : Addr) (xs : List V) : Prop :=
  Rd H a (.tup xs) ∨
    ∃ (o : Obj) (its : Array Value) (n : Nat), K.lookup a = some o ∧ o.cls = .type "tuple" ∧ o.data = .seq its n ∧ its.size ≤ sizeLine ∧ Vals xs its.toList
def absV : Value → Option V
  | .none => some .non
  | .bool b => some (.bl b)
  | .int i _ => some (.int i)
  | .str x _ => some (.str x)
  | .bytes b _ => some (.byt b)
  | .float b _ => some (.flt b)
  | .ref a => some (.ref a)
  | .type n => some (.ty n)
  | _ => none
theorem RelV.abs {x : V} {u : Value} (r : RelV x u) : absV u = some x := by
  cases x with
  | non => cases r; rfl
  | bl _ => cases r; rfl
  | int _ => obtain ⟨t, rfl⟩ := r; rfl
  | str _ => obtain ⟨t, rfl⟩ := r; rfl
  | byt _ => obtain ⟨t, rfl⟩ := r; rfl
  | flt _ => obtain ⟨t, rfl⟩ := r; rfl
  | ref _ => cases r; rfl
  | ty _ => cases r; rfl
theorem RelV.inj {x y : V} {u : Value} (r : RelV x u) (q : RelV y u) : x = y := Option.some.inj (r.abs.symm.trans q.abs)
theorem Vals.inj : ∀ {xs ys : List V} {us : List Value}, Vals xs us → Vals ys us → xs = ys
  | _, _, _, .nil, .nil => rfl
  | _, _, _, .cons r t, .cons r' t' => by rw [r.inj r', Vals.inj t t']
section
variable {X : Cx} {pins : List (Addr × Obj)} {σ : St} {H : Hp} {s : Shared} {a : Addr} {xs ys : List V}
theorem SqL.of {K : PySem.W.Frag} (h : H a = some (.lst xs)) : SqL K H a xs := .inl (.inl h)
theorem SqT.of {K : PySem.W.Frag} (h : H a = some (.tup xs)) : SqT K H a xs := .inl (.inl h)
theorem Inv.list (I : Inv X pins σ H s) (h : SqL X.K H a xs) : ∃ its : List Value, Vals xs its ∧ PlainL s.heap a its.toArray ∧ xs.length ≤ sizeLine := by
  rcases h with h | ⟨o, its, n, hk, hc, hd, hs, hz, r⟩
  · obtain ⟨z, its, n, r, e⟩ := h.ok I.hok
    exact ⟨its, r, ⟨_, n, e, rfl, rfl, rfl⟩, z⟩
  · refine ⟨its.toList, r, ⟨o, n, I.kIn a o hk, hc, hd, by simpa using hs⟩, ?_⟩
    have e := r.length
    simp only [Array.length_toList] at e
    omega
theorem Inv.tuple (I : Inv X pins σ H s) (h : SqT X.K H a xs) : ∃ its : List Value, Vals xs its ∧ IsTup s.heap a its.toArray ∧ xs.length ≤ sizeLine := by
  rcases h with h | ⟨o, its, n, hk, hc, hs, hz, r⟩
  · obtain ⟨z, its, r, p⟩ := h.ok I.hok
    exact ⟨its, r, p, z⟩
  · refine ⟨its.toList, r, ⟨o, I.kIn a o hk, hc, n, by simpa using hs⟩, ?_⟩
    have e := r.length
    simp only [Array.length_toList] at e
    omega
theorem Inv.list_inj (I : Inv X pins σ H s) (h : SqL X.K H a xs) (h' : SqL X.K H a ys) : xs = ys := by
  obtain ⟨its, r, ⟨o, n, e, _, _, d⟩, _⟩ := I.list h
  obtain ⟨its', r', ⟨o', n', e', _, _, d'⟩, _⟩ := I.list h'
  rw [e] at e'; cases e'
  rw [d] at d'
  injection d' with d1 _
  have : its = its' := by simpa using congrArg Array.toList d1
  subst this
  exact r.inj r'
end

/-! ### another wish about exceptions -/
section
variable {X : Cx} {pins : List (Addr × Obj)} {σ : St} {H : Hp} {s : Shared} {E : Value → Shared → Prop}
end

/-! ### blocks and small statements -/
section
variable {X : Cx} {st : Stmt} {rest : List Stmt} {t u : TS} {e : Expr} {te : TE} {pos : Pos}
def tNext : TS := fun D σ H => D.nx σ H
def tSeq (t u : TS) : TS := fun D σ H => t { D with nx := u D } σ H
theorem pss_nil : PSs X [] tNext := fun _ _ σ H _ I h => wpAny_execs_nil ⟨σ, H, I, h⟩
theorem pss_cons (h1 : PS X st t) (h2 : PSs X rest u) : PSs X (st :: rest) (tSeq t u) := by
  intro pins s σ H D I h
  refine wpAny_execs_cons (thn (h1 pins s σ H { D with nx := u D } I h) fun f s1 q => ?_)
  cases f with
  | next =>
    obtain ⟨σ', H', I', q⟩ := q
    exact h2 pins s1 σ' H' D I' q
  | ret v => exact q
  | brk => exact q
  | cont => exact q
theorem pss_one (h1 : PS X st t) : PSs X [st] t := by
  intro pins s σ H D I h
  refine wpAny_execs_cons (thn (h1 pins s σ H D I h) fun f s1 q => ?_)
  cases f with
  | next => exact wpAny_execs_nil q
  | ret v => exact q
  | brk => exact q
  | cont => exact q
/-- in a def's body nothing is shown -/
theorem Inv.quiet {pins : List (Addr × Obj)} {σ : St} {H : Hp} {s : Shared} (I : Inv X pins σ H s) : interactive X.env = false := by simp [interactive, I.ok.kind]
/-- an expression whose value is dropped -/
def tDrop (te : TE) : TS := fun D σ H => te σ H fun _ H1 => D.nx σ H1
theorem ps_expr (he : PE X e te) (hs : swapsWith e none pos.line X.env = pure false := by rfl) : PS X (.Expr e pos) (tDrop te) := by
  intro pins s σ H D I h
  exact wpAny_Expr_any (thn (he pins s σ H _ I h) fun v s1 ⟨x, H1, I1, r1, q1⟩ => ⟨σ, H1, I1, q1⟩) I.quiet hs
def tRet (te : TE) : TS := fun D σ H => te σ H D.rt
theorem ps_ret (he : PE X e te) : PS X (.Return (some e) pos) (tRet te) := by
  intro pins s σ H D I h
  exact wpAny_Return_some (thn (he pins s σ H _ I h) fun v s1 ⟨x, H1, I1, r1, q1⟩ => ⟨x, σ, H1, I1, r1, q1⟩)
def tIfS (c : TT) (t u : TS) : TS := fun D σ H => c σ H fun b H1 => if b = true then t D σ H1 else u D σ H1
theorem ps_if {c : Expr} {a b : List Stmt} {tc : TT} (hc : PT X c tc) (ha : PSs X a t) (hb : PSs X b u) : PS X (.If c a b pos) (tIfS tc t u) := by
  intro pins s σ H D I h
  refine wpAny_If (thn (hc pins s σ H _ I h) fun d s1 ⟨H1, I1, q1⟩ => ?_)
  cases d with
  | true => exact ha pins s1 σ H1 D I1 q1
  | false => exact hb pins s1 σ H1 D I1 q1
end

/-! ### targets -/
abbrev TG := V → St → Hp → (St → Hp → Prop) → Prop
abbrev TGs := List V → St → Hp → (St → Hp → Prop) → Prop
def PG (X : Cx) (target : Expr) (t : TG) : Prop :=
  ∀ (pins : List (Addr × Obj)) (s : Shared) (σ : St) (H : Hp) (v : V) (u : Value) (Q : St → Hp → Prop), Inv X pins σ H s → RelV v u → t v σ H Q →
    wpAny (model X.prog X.w) X.A (assign target X.env u) (fun _ s' => ∃ σ' H', Inv X pins σ' H' s' ∧ Q σ' H') X.xe s
/-- several targets, one after another -/
def PGs (X : Cx) (ts : List Expr) (t : TGs) : Prop :=
  ∀ (pins : List (Addr × Obj)) (s : Shared) (σ : St) (H : Hp) (vs : List V) (us : List Value) (Q : St → Hp → Prop), Inv X pins σ H s → Vals vs us → t vs σ H Q →
    wpAny (model X.prog X.w) X.A (assignInOrder ((assignEach ts X.env).map (·.2)) us) (fun _ s' => ∃ σ' H', Inv X pins σ' H' s' ∧ Q σ' H') X.xe s
section
variable {X : Cx} {pos : Pos}
def gName (i : Nat) : TG := fun v σ H Q => Q (σ.set i (some v)) H
theorem pg_name {i : Nat} {x : Str} (hN : X.N.Nodup) (hi : X.N[i]? = some x) (hx : Loc X.env.scope x) (hf : X.fn x = true ∨ X.env.scope.names.lookup x = some .local := by first | exact .inl rfl | exact .inr rfl | assumption) : PG X (.Name x pos) (gName i) := by
  intro pins s σ H v u Q I r h
  exact wpAny_assign_Name (store_ok I hN hi hx r (fun s' I' => ⟨_, H, I', h⟩) hf)
def gNil : TGs := fun vs σ H Q => vs = [] ∧ Q σ H
def gCons (t : TG) (u : TGs) : TGs := fun vs σ H Q => ∃ v r, vs = v :: r ∧ t v σ H fun σ' H' => u r σ' H' Q
theorem pgs_nil : PGs X [] gNil := by
  intro pins s σ H vs us Q I r h
  obtain ⟨e, h⟩ := h
  subst e
  cases r
  exact assignInOrder_nil ⟨σ, H, I, h⟩
theorem pgs_cons {e : Expr} {es : List Expr} {t : TG} {u : TGs} (h1 : PG X e t) (h2 : PGs X es u)
    (hs : (assignEach (e :: es) X.env).map (·.2) = assign e X.env :: (assignEach es X.env).map (·.2) := by rfl) : PGs X (e :: es) (gCons t u) := by
  intro pins s σ H vs us Q I r h
  obtain ⟨v, vr, e1, h⟩ := h
  subst e1
  cases r with
  | cons r rr =>
    rw [hs]
    refine assignInOrder_cons (thn (h1 pins s σ H _ _ _ I r h) fun _ s1 ⟨σ1, H1, I1, q1⟩ => ?_)
    exact h2 pins s1 σ1 H1 _ _ Q I1 rr q1
/-- (a, b, ..) = a tuple of that length -/
def gTup (K : PySem.W.Frag) (n : Nat) (t : TGs) : TG := fun v σ H Q => ∃ a xs, v = .ref a ∧ SqT K H a xs ∧ xs.length = n ∧ t xs σ H Q
theorem pg_tup {es : List Expr} {k : Nat} {t : TGs} {n : Nat} (hc : X.calm = true) (h : PGs X es t)
    (hn : (assignEach es X.env).length = n := by rfl) (hst : (assignEach es X.env).findIdx? (·.1) = none := by rfl) : PG X (.Tuple es k pos) (gTup X.K n t) := by
  intro pins s σ H v u Q I r hw
  obtain ⟨a, xs, e1, hq, hl, hw⟩ := hw
  subst e1
  cases r
  obtain ⟨its, rv, ht, hz⟩ := I.tuple hq
  refine assign_Tuple_tuple (I.ok.hd hc) ht (by simp [hn, ← hl, rv.length]) hst fun h' hx => ?_
  have I1 : Inv X pins σ H { s with heap := h' } := I.kept (t' := s.toks) fun b o e => hx b o (Nat.ne_of_lt (Heap.lt_size e)) e
  exact h pins _ σ H xs _ Q I1 (by simpa using rv) hw
/-- target = value -/
def tAsg (te : TE) (g : TG) : TS := fun D σ H => te σ H fun x H1 => g x σ H1 D.nx
/-- name = value -/
theorem ps_set {i : Nat} {x : Str} {e : Expr} {te : TE} {pos' : Pos} (hN : X.N.Nodup) (hi : X.N[i]? = some x) (hx : Loc X.env.scope x) (he : PE X e te) (hs : swapsWith e (some (.Name x pos')) pos.line X.env = pure false := by rfl) (hf : X.fn x = true ∨ X.env.scope.names.lookup x = some .local := by first | exact .inl rfl | exact .inr rfl | assumption) :
    PS X (.Assign [.Name x pos'] e pos) (tAsg te (gName i)) := by
  intro pins s σ H D I h
  refine wpAny_Assign_Name (thn (he pins s σ H _ I h) fun v s1 ⟨y, H1, I1, r1, q1⟩ => ?_) hs
  exact store_ok I1 hN hi hx r1 (fun s2 I2 => ⟨_, H1, I2, q1⟩) hf
/-- a, b = x, y with plain local names: stored from the right; the pair itself is not tracked (the opening rows as in PyProof/Rows/TupAssign.lean:23) -/
def tPar (i j : Nat) (ta : TA) : TS := fun D σ H => ta σ H fun vs H1 => ∃ v w, vs = [v, w] ∧ D.nx ((σ.set i (some v)).set j (some w)) H1
theorem ps_par {i j : Nat} {x y : Str} {a b : Expr} {ta : TA} {px py pt : Pos} {kt k2 pt2} (hc : X.calm = true) (hN : X.N.Nodup) (hi : X.N[i]? = some x) (hj : X.N[j]? = some y) (hij : i ≠ j)
    (hx : X.env.scope.names.lookup x = some .local) (hy : X.env.scope.names.lookup y = some .local) (ha : PA X [a, b] ta)
    (hw : swappedStores [.Tuple [.Name x px, .Name y py] kt pt] (.Tuple [a, b] k2 pt2) X.env = pure (some [x, y]))
    (hs : swapsWithSole [.Tuple [.Name x px, .Name y py] kt pt] (.Tuple [a, b] k2 pt2) pos.line X.env = pure false := by rfl) :
    PS X (.Assign [.Tuple [.Name x px, .Name y py] kt pt] (.Tuple [a, b] k2 pt2) pos) (tPar i j ta) := by
  intro pins s σ H D I h
  rw [exec_Assign_arm]
  refine wpAny_bind (wpAny_standAt ?_)
  rw [hs]
  refine wpAny_bind (wpAny_pure ?_)
  rw [if_neg (by decide)]
  refine wpAny_bind (Tuple_ (thn (ha _ pins s σ H _ I h) fun us s1 ⟨vs, H1, I1, r1, q1⟩ => ?_))
  obtain ⟨v, w, e1, q1⟩ := q1
  subst e1
  obtain ⟨u1, u2, rfl, rv, rw'⟩ : ∃ u1 u2, us = [u1, u2] ∧ RelV v u1 ∧ RelV w u2 := by
    cases r1 with
    | cons p q =>
      cases q with
      | cons p' q' =>
        cases q'
        exact ⟨_, _, rfl, p, p'⟩
  refine wpAny_newObj_type ?_ (by show 2 ≤ sizeLine; decide)
  have I2 : Inv X pins σ H1 { s1 with heap := s1.heap.push { cls := .type "tuple", data := .seq [u1, u2].toArray } } := I1.kept (t' := s1.toks) fun b o e => Heap.get?_push_of_some _ e
  rw [hw]
  refine wpAny_bind (wpAny_pure ?_)
  show wpAny (model X.prog X.w) X.A (do rule "assign.swapped-stores"; let items ← unpackItems (.ref s1.heap.objs.size) 2 none; assignInOrder [fun v => bindName X.env y v, fun v => bindName X.env x v] items.reverse; pure Flow.next) _ _ _
  refine wpAny_bind (wpAny_rule (wpAny_bind (unpackItems_tuple (items := #[u1, u2]) (I.ok.hd hc) (IsTup.new s1.heap _) fun h' hx' => ?_)))
  have I3 := I2.kept (h' := h') (t' := s1.toks) fun b o e => hx' b o (Nat.ne_of_lt (Heap.lt_size e)) e
  show wpAny _ _ (assignInOrder [fun v => bindName X.env y v, fun v => bindName X.env x v] [u2, u1] >>= fun _ => pure Flow.next) _ _ _
  refine wpAny_bind (assignInOrder_cons (wpAny_bindName (store_ok I3 hN hj (.inl hy) rw' (fun s2 I4 => ?_) (.inr hy))))
  refine assignInOrder_cons (wpAny_bindName (store_ok I4 hN hi (.inl hx) rv (fun s3 I5 => assignInOrder_nil (wpAny_pure ?_)) (.inr hx)))
  rw [List.set_comm _ _ (Ne.symm hij)] at I5
  exact ⟨_, H1, I5, q1⟩
end

/-! ### while -/
section
variable {X : Cx} {pos : Pos}
/-- the invariant W with its measure -/
def tWhile (c : TT) (tb : TS) : TS := fun D σ H => ∃ W : Nat → St → Hp → Prop, (∃ m, W m σ H) ∧ ∀ m σ H, W m σ H →
  c σ H fun b H1 => if b = true then ∃ N : St → Hp → Prop, (∀ σ' H', N σ' H' → ∃ m', m' < m ∧ W m' σ' H') ∧ tb { D with nx := N, ct := N, bk := D.nx } σ H1 else D.nx σ H1
theorem ps_while {c : Expr} {body : List Stmt} {tc : TT} {tb : TS} (hp : PassesOwn (model X.prog X.w) X.A X.env X.xe) (hc : PT X c tc) (hb : PSs X body tb) : PS X (.While c body [] pos) (tWhile tc tb) := by
  intro pins s σ H D I h
  obtain ⟨W, ⟨m0, w0⟩, turn⟩ := h
  refine wpAny_While (codeAny_whileLoop (fun n s' => ∃ σ' H', Inv X pins σ' H' s' ∧ W n σ' H') ?_ m0 ⟨σ, H, I, w0⟩)
  rintro n s1 ⟨σ1, H1, I1, w1⟩
  refine wpAny_passesOwn hp (thn (hc pins s1 σ1 H1 _ I1 (turn n σ1 H1 w1)) fun b s2 ⟨H2, I2, q2⟩ => ?_)
  cases b with
  | true =>
    obtain ⟨N, hN, q2⟩ := q2
    rw [if_pos rfl]
    refine wpAny_passesOwn hp (thn (hb pins s2 σ1 H2 _ I2 q2) fun f s3 q3 => ?_)
    cases f with
    | next =>
      obtain ⟨σ3, H3, I3, n3⟩ := q3
      obtain ⟨m', hm, w3⟩ := hN σ3 H3 n3
      exact ⟨m', hm, σ3, H3, I3, w3⟩
    | cont =>
      obtain ⟨σ3, H3, I3, n3⟩ := q3
      obtain ⟨m', hm, w3⟩ := hN σ3 H3 n3
      exact ⟨m', hm, σ3, H3, I3, w3⟩
    | brk => exact q3
    | ret v => exact q3
  | false =>
    rw [if_neg Bool.false_ne_true]
    exact wpAny_execs_nil ⟨σ1, H2, I2, q2⟩
end

/-! ### what a loop or a comprehension walks -/
/-- at turn i: it yields x (the heap may grow), or it stops -/
structure It where
  go : Nat → Hp → Prop
  yld : Nat → Hp → V → Hp → Prop
  stop : Nat → Hp → Prop
/-- the iterator's own objects may turn: they are not the frame's, not pinned, younger than the entry (or a comprehension's own) -/
def FpOk (X : Cx) (pins : List (Addr × Obj)) (H : Hp) (b : Addr) : Prop :=
  H b = none ∧ b ≠ X.env.locals ∧ b ∉ X.fs ∧ (b ∈ X.ex ∨ X.s₀.heap.objs.size ≤ b) ∧ (∀ x c, X.env.cells.lookup x = some c → c ≠ b) ∧ ∀ p ∈ X.pn ++ pins, p.1 ≠ b
theorem Inv.fpOk {X : Cx} {pins : List (Addr × Obj)} {σ : St} {H H' : Hp} {s : Shared} {b : Addr} (I : Inv X pins σ H s) (hb : s.heap.objs.size ≤ b) (hn : H' b = none) : FpOk X pins H' b := by
  refine ⟨hn, Nat.ne_of_gt (Nat.lt_of_lt_of_le I.lt hb), I.nofs hb, .inr (Nat.le_trans I.sz hb), fun x c e z => ?_, fun p hp z => ?_⟩
  · obtain ⟨v, q⟩ := I.cell x c e
    exact absurd (Nat.lt_of_lt_of_le q.lt (by rw [z]; exact hb)) (Nat.lt_irrefl _)
  · exact absurd (Nat.lt_of_lt_of_le (Heap.lt_size (I.pin p hp).1) (by rw [z]; exact hb)) (Nat.lt_irrefl _)
structure Turn (P : Program) (w : World) (K : PySem.W.Frag) (tg : Expr) (J : It) (fp : List Addr) (it : Addr) (tn : Nat → Heap → Prop) : Prop where
  mem : it ∈ fp
  obj : ∀ i h, tn i h → ∀ b ∈ fp, ∃ o, h.get? b = some o ∧ ∀ v, o.data ≠ .cell v
  keep : ∀ i h h', tn i h → (∀ b ∈ fp, ∀ o, h.get? b = some o → h'.get? b = some o) → tn i h'
  item : ∀ (X : Cx), X.prog = P → X.w = w → X.K = K → X.calm = true → ∀ (i : Nat) (pins : List (Addr × Obj)) (s : Shared) (σ : St) (H : Hp) (E : Value → Shared → Prop), Inv X pins σ H s → (∀ b ∈ fp, FpOk X pins H b) → tn i s.heap → J.go i H →
    wpAny (model P w) X.A (pyNext (.ref it)) (fun r s1 => ∃ u, r = some u ∧
      wpAny (model P w) X.A (letOwnedTupleGo tg (.ref it) u) (fun _ s2 => ∃ x H', Inv X pins σ H' s2 ∧ RelV x u ∧ J.yld i H x H' ∧ tn (i + 1) s2.heap ∧ ∀ b ∈ fp, H' b = none) E s1) E s
  done : ∀ (X : Cx), X.prog = P → X.w = w → X.K = K → X.calm = true → ∀ (i : Nat) (pins : List (Addr × Obj)) (s : Shared) (σ : St) (H : Hp) (E : Value → Shared → Prop), Inv X pins σ H s → (∀ b ∈ fp, FpOk X pins H b) → tn i s.heap → J.stop i H →
    wpAny (model P w) X.A (pyNext (.ref it)) (fun r s1 => r = none ∧ Inv X pins σ H s1) E s
  self : ∀ (A : Around) (i : Nat) (s : Shared) (Q : Value → Shared → Prop) (E : Value → Shared → Prop), tn i s.heap → Q (.ref it) s → wpAny (model P w) A (pyIter (.ref it)) Q E s
abbrev TI := St → Hp → (It → Hp → Prop) → Prop
/-- an iterator has come -/
def PIE (X : Cx) (pins : List (Addr × Obj)) (σ : St) (tg : Expr) (R : It → Hp → Prop) (itv : Value) (s2 : Shared) : Prop :=
  ∃ (it : Addr) (fp : List Addr) (tn : Nat → Heap → Prop) (J : It) (H' : Hp), itv = .ref it ∧ Inv X pins σ H' s2 ∧ Turn X.prog X.w X.K tg J fp it tn ∧ tn 0 s2.heap ∧ (∀ b ∈ fp, FpOk X pins H' b) ∧ R J H'
def PI (X : Cx) (tg iter : Expr) (wi : TI) : Prop :=
  ∀ (pins : List (Addr × Obj)) (s : Shared) (σ : St) (H : Hp) (R : It → Hp → Prop), Inv X pins σ H s → wi σ H R →
    wpAny (model X.prog X.w) X.A (eval iter X.env) (fun v s1 => wpAny (model X.prog X.w) X.A (pyIter v) (PIE X pins σ tg R) X.xe s1) X.xe s

/-- the step ahead of the store is nothing for an iterator that keeps no tuple -/
theorem go_of {M : Model} {A : Around} {E : Value → Shared → Prop} {s : Shared} {tg : Expr} {it : Addr} {u : Value} {o : Obj} {n : String} {vs : Array Value} {Q : Unit → Shared → Prop} (ho : s.heap.get? it = some o) (hc : o.cls = .type n) (hd : o.data = .fields vs)
    (hn : ["enumerate", "zip", "dict_itemiterator", "dict_reverseitemiterator", "odict_iterator", "itertools.zip_longest", "itertools.pairwise"].contains n = false) (hQ : Q () s) : wpAny M A (letOwnedTupleGo tg (.ref it) u) Q E s := by
  unfold letOwnedTupleGo
  cases tg <;> first
    | exact wpAny_pure hQ
    | (cases u <;> first
        | exact wpAny_pure hQ
        | (refine wpAny_bind (wpAny_load ho ?_)
           rw [hc, hd]
           show wpAny M A (if (["enumerate", "zip", "dict_itemiterator", "dict_reverseitemiterator", "odict_iterator", "itertools.zip_longest", "itertools.pairwise"].contains n && vs[0]? == some (rawInt _)) = true then _ else _) Q E s
           rw [if_neg (by intro h; rw [hn, Bool.false_and] at h; cases h)]
           exact wpAny_pure hQ))

/-- the list at a, as it stands at each turn (a loop may append to it) -/
def Itl (K : PySem.W.Frag) (a : Addr) : It :=
  ⟨fun i H => ∃ xs x, SqL K H a xs ∧ xs[i]? = some x, fun i H x H' => H' = H ∧ ∀ xs, SqL K H a xs → xs[i]? = some x, fun i H => ∃ xs, SqL K H a xs ∧ xs.length ≤ i⟩
theorem turn_list {P : Program} {w : World} {K : PySem.W.Frag} {tg : Expr} (a it : Addr) : Turn P w K tg (Itl K a) [it] it (fun i h => h.IsListIter it a i) where
  mem := by simp
  obj := fun i h st b hb => by
    have e : b = it := by simpa using hb
    subst e
    obtain ⟨o, e, c, d⟩ := st
    exact ⟨o, e, fun v z => by rw [d] at z; cases z⟩
  keep := fun i h h' st k => st.at fun o e => k it (by simp) o e
  item := by
    intro X hP hw hK hc i pins s σ H E I hf st hg
    subst hP hw hK
    obtain ⟨xs, x, hq, hx⟩ := hg
    obtain ⟨its, rv, p, hz⟩ := I.list hq
    obtain ⟨u, hu, ru⟩ := rv.get hx
    obtain ⟨f0, f1, f2, f3, f4, f5⟩ := hf it (by simp)
    refine wpAny_pyNext_list_item st p.isList (x := u) (by simpa using hu) fun h' st' sb => ?_
    have I1 : Inv X pins σ H { s with heap := h' } := I.turned (t' := s.toks) (fun b o hb e => (sb.2 b hb).trans e) f0 f1 f3 f4 f5
    obtain ⟨o, e, c, d⟩ := id st'
    exact ⟨u, rfl, go_of (s := { s with heap := h' }) e c d (by decide) ⟨x, H, I1, ru, ⟨rfl, fun ys hy => by rw [I.list_inj hy hq]; exact hx⟩, st', fun b hb => (hf b hb).1⟩⟩
  done := by
    intro X hP hw hK hc i pins s σ H E I hf st hg
    subst hP hw hK
    obtain ⟨xs, hq, hx⟩ := hg
    obtain ⟨its, rv, p, hz⟩ := I.list hq
    obtain ⟨f0, f1, f2, f3, f4, f5⟩ := hf it (by simp)
    have hl := rv.length
    exact wpAny_pyNext_list_end (I.ok.hd hc) st p.isList (by simp; omega) fun h' eb => ⟨rfl, I.turned (t' := s.toks) (fun b o hb e => eb b o hb e) f0 f1 f3 f4 f5⟩
  self := fun _ _ _ _ _ st h => wpAny_pyIter_listiter st h
end L2

namespace L2
open PySem PySem.Spec PyProof.Rows
section
variable {X : Cx} {tg : Expr}
def iList (K : PySem.W.Frag) (tl : TE) : TI := fun σ H R => tl σ H fun x H1 => ∃ a, x = .ref a ∧ (∃ xs, SqL K H1 a xs) ∧ R (Itl K a) H1
theorem pi_list {l : Expr} {tl : TE} (hl : PE X l tl) : PI X tg l (iList X.K tl) := by
  intro pins s σ H R I h
  refine thn (hl pins s σ H _ I h) fun v s1 ⟨x, H1, I1, r1, q1⟩ => ?_
  obtain ⟨a, e, ⟨xs, hq⟩, q⟩ := q1
  subst e
  cases r1
  obtain ⟨its, rv, p, hz⟩ := I1.list hq
  refine wpAny_pyIter_list p.isList ?_
  refine ⟨s1.heap.objs.size, [s1.heap.objs.size], _, _, H1, rfl, I1.kept (t' := s1.toks) fun b o e => Heap.get?_push_of_some _ e, turn_list a _, ⟨_, Heap.get?_push_size _ rfl, rfl, rfl⟩, fun b hb => ?_, q⟩
  have e : b = s1.heap.objs.size := by simpa using hb
  subst e
  exact I1.fpOk (Nat.le_refl _) (I1.hok.fresh (Nat.le_refl _))
/-! ### for -/
/-- W: the invariant by the turn and a measure; N: what the body is to reach -/
def tFor (wi : TI) (g : TG) (tb : TS) : TS := fun D σ H => wi σ H fun J H1 => ∃ W : Nat → Nat → St → Hp → Prop, (∃ m, W 0 m σ H1) ∧ ∀ i m σ H, W i m σ H →
  (J.stop i H ∧ D.nx σ H) ∨ (J.go i H ∧ ∃ N : St → Hp → Prop, (∀ σ' H', N σ' H' → ∃ m', m' < m ∧ W (i + 1) m' σ' H') ∧ ∀ x H', J.yld i H x H' → g x σ H' fun σ2 H2 => tb { D with nx := N, ct := N, bk := D.nx } σ2 H2)
/-- the records at fp as they stand -/
def pinsAt (fp : List Addr) (h : Heap) : List (Addr × Obj) := fp.filterMap fun b => (h.get? b).map fun o => (b, o)
theorem mem_pinsAt {fp : List Addr} {h : Heap} {b : Addr} {o : Obj} (hb : b ∈ fp) (e : h.get? b = some o) : (b, o) ∈ pinsAt fp h := List.mem_filterMap.mpr ⟨b, hb, by rw [e]; rfl⟩
theorem of_pinsAt {fp : List Addr} {h : Heap} {p : Addr × Obj} (hp : p ∈ pinsAt fp h) : p.1 ∈ fp ∧ h.get? p.1 = some p.2 := by
  obtain ⟨b, hb, e⟩ := List.mem_filterMap.mp hp
  cases q : h.get? b with
  | none => rw [q] at e; cases e
  | some o =>
    rw [q] at e
    have e' : (b, o) = p := Option.some.inj e
    subst e'
    exact ⟨hb, q⟩
theorem Inv.pinned {pins : List (Addr × Obj)} {σ : St} {H : Hp} {s : Shared} {fp : List Addr} (I : Inv X pins σ H s) (hf : ∀ b ∈ fp, FpOk X pins H b) (ho : ∀ b ∈ fp, ∃ o, s.heap.get? b = some o ∧ ∀ v, o.data ≠ .cell v) : Inv X (pins ++ pinsAt fp s.heap) σ H s :=
  I.pins_of fun p hp => (List.mem_append.mp hp).elim (fun z => I.pin p (List.mem_append_right _ z)) fun z => by
    obtain ⟨hb, e⟩ := of_pinsAt z
    obtain ⟨f0, f1, f2, _⟩ := hf p.1 hb
    obtain ⟨o, e', d⟩ := ho p.1 hb
    rw [e] at e'; cases e'
    exact ⟨e, f0, f1, f2, d⟩
theorem Inv.unpinned {pins pl : List (Addr × Obj)} {σ : St} {H : Hp} {s : Shared} (I : Inv X (pins ++ pl) σ H s) : Inv X pins σ H s := I.pins_of fun p hp => I.pin p (List.mem_append_right _ (List.mem_append_left _ hp))
theorem ps_for {iter : Expr} {body : List Stmt} {wi : TI} {g : TG} {tb : TS} {pos : Pos} (hp : PassesOwn (model X.prog X.w) X.A X.env X.xe) (hc : X.calm = true) (hi : PI X tg iter wi) (hg : PG X tg g) (hb : PSs X body tb)
    (hs : ∀ x, foldedSetIterable iter X.env x = pure x := by intro _; rfl) : PS X (.For tg iter body [] pos) (tFor wi g tb) := by
  intro pins s σ H D I h
  refine wpAny_For (thn (hi pins s σ H _ I h) fun v s1 h1 => thn h1 fun itv s2 h2 => ?_) hs
  obtain ⟨it, fp, tn, J, H2, e, I2, T, st2, f2, W, ⟨m0, w0⟩, turn⟩ := h2
  subst e
  -- what stays true of the iterator's objects through the loop
  have stat : ∀ {H' : Hp}, (∀ b ∈ fp, H' b = none) → ∀ b ∈ fp, FpOk X pins H' b := fun hn b hb => ⟨hn b hb, (f2 b hb).2⟩
  refine codeAny_forLoop_any (fun n s' => ∃ i σ' H', Inv X pins σ' H' s' ∧ tn i s'.heap ∧ (∀ b ∈ fp, H' b = none) ∧ W i n σ' H') ?_ m0 ⟨0, σ, H2, I2, st2, fun b hb => (f2 b hb).1, w0⟩
  rintro n s3 ⟨i, σ3, H3, I3, st3, fr3, w3⟩
  rcases turn i n σ3 H3 w3 with ⟨stop, qn⟩ | ⟨go, N, hN, step⟩
  · refine wpAny_passesOwn hp (thn (T.done X rfl rfl rfl hc i pins s3 σ3 H3 X.xe I3 (stat fr3) st3 stop) fun r s4 ⟨hr, I4⟩ => ?_)
    subst hr
    exact wpAny_execs_nil ⟨σ3, H3, I4, qn⟩
  · refine wpAny_passesOwn hp (thn (T.item X rfl rfl rfl hc i pins s3 σ3 H3 X.xe I3 (stat fr3) st3 go) fun r s4 ⟨u, hr, h4⟩ => ?_)
    subst hr
    refine wpAny_passesOwn hp (thn h4 fun _ s5 ⟨x, H5, I5, r5, y5, st5, fr5⟩ => ?_)
    have I5' := I5.pinned (stat fr5) (T.obj _ _ st5)
    refine wpAny_passesOwn hp (thn (hg _ s5 σ3 H5 x u _ I5' r5 (step x H5 y5)) fun _ s6 ⟨σ6, H6, I6, q6⟩ => ?_)
    refine wpAny_passesOwn hp (thn (hb _ s6 σ6 H6 _ I6 q6) fun f s7 q7 => ?_)
    have again : ∀ {σ7 : St} {H7 : Hp}, Inv X (pins ++ pinsAt fp s5.heap) σ7 H7 s7 → N σ7 H7 → ∃ m, m < n ∧ ∃ i σ' H', Inv X pins σ' H' s7 ∧ tn i s7.heap ∧ (∀ b ∈ fp, H' b = none) ∧ W i m σ' H' := fun {σ7 H7} I7 n7 => by
      obtain ⟨m', hm, w7⟩ := hN σ7 H7 n7
      refine ⟨m', hm, i + 1, σ7, H7, I7.unpinned, T.keep _ _ _ st5 fun b hb o e => (I7.pin (b, o) (List.mem_append_right _ (List.mem_append_right _ (mem_pinsAt hb e)))).1, fun b hb => ?_, w7⟩
      obtain ⟨o, e, d⟩ := T.obj _ _ st5 b hb
      exact (I7.pin (b, o) (List.mem_append_right _ (List.mem_append_right _ (mem_pinsAt hb e)))).2.1
    cases f with
    | next => obtain ⟨σ7, H7, I7, n7⟩ := q7; exact again I7 n7
    | cont => obtain ⟨σ7, H7, I7, n7⟩ := q7; exact again I7 n7
    | brk => obtain ⟨σ7, H7, I7, q7⟩ := q7; exact ⟨σ7, H7, I7.unpinned, q7⟩
    | ret v => obtain ⟨x7, σ7, H7, I7, r7, q7⟩ := q7; exact ⟨x7, σ7, H7, I7.unpinned, r7, q7⟩
end

/-! ### the forms one uses -/
/-- over a list that the body leaves as it is -/
theorem for_list {K : PySem.W.Frag} {a : Addr} {xs : List V} {g : TG} {tb : TS} {D : Ends} {σ : St} {H : Hp} (Pv : Nat → St → Hp → Prop) (h0 : Pv 0 σ H) (hl : ∀ i σ H, i ≤ xs.length → Pv i σ H → SqL K H a xs)
    (hs : ∀ i x σ H, xs[i]? = some x → Pv i σ H → g x σ H fun σ2 H2 => tb { D with nx := Pv (i + 1), ct := Pv (i + 1), bk := D.nx } σ2 H2) (hd : ∀ σ H, Pv xs.length σ H → D.nx σ H) :
    ∃ W : Nat → Nat → St → Hp → Prop, (∃ m, W 0 m σ H) ∧ ∀ i m σ H, W i m σ H →
      ((Itl K a).stop i H ∧ D.nx σ H) ∨ ((Itl K a).go i H ∧ ∃ N : St → Hp → Prop, (∀ σ' H', N σ' H' → ∃ m', m' < m ∧ W (i + 1) m' σ' H') ∧ ∀ x H', (Itl K a).yld i H x H' → g x σ H' fun σ2 H2 => tb { D with nx := N, ct := N, bk := D.nx } σ2 H2) := by
  refine ⟨fun i m σ H => m = xs.length - i ∧ i ≤ xs.length ∧ Pv i σ H, ⟨xs.length, by simp, Nat.zero_le _, h0⟩, ?_⟩
  rintro i m σ H ⟨rfl, hi, p⟩
  have q := hl i σ H hi p
  by_cases hlt : i < xs.length
  · refine .inr ⟨⟨xs, xs[i], q, by simp [hlt]⟩, Pv (i + 1), fun σ' H' p' => ⟨xs.length - (i + 1), by omega, rfl, hlt, p'⟩, fun x H' y => ?_⟩
    obtain ⟨e, y⟩ := y
    subst e
    exact hs i x σ _ (y xs q) p
  · have e : i = xs.length := by omega
    subst e
    exact .inl ⟨⟨xs, q, Nat.le_refl _⟩, hd σ H p⟩
/-- while, by a word and a measure of the state -/
theorem while_by {c : TT} {tb : TS} {D : Ends} {σ : St} {H : Hp} (Pv : St → Hp → Prop) (μ : St → Hp → Nat) (h0 : Pv σ H)
    (hs : ∀ σ H, Pv σ H → c σ H fun b H1 => if b = true then tb { D with nx := fun σ' H' => Pv σ' H' ∧ μ σ' H' < μ σ H, ct := fun σ' H' => Pv σ' H' ∧ μ σ' H' < μ σ H, bk := D.nx } σ H1 else D.nx σ H1)
    (mono : ∀ σ H Q Q', (∀ b H1, Q b H1 → Q' b H1) → c σ H Q → c σ H Q') : tWhile c tb D σ H := by
  refine ⟨fun m σ H => m = μ σ H ∧ Pv σ H, ⟨_, rfl, h0⟩, ?_⟩
  rintro m σ H ⟨rfl, p⟩
  refine mono σ H _ _ (fun b H1 q => ?_) (hs σ H p)
  cases b with
  | true => exact ⟨_, fun σ' H' ⟨p', l⟩ => ⟨_, l, rfl, p'⟩, q⟩
  | false => exact q
end L2

namespace L2
open PySem PySem.Spec PyProof.Rows

abbrev R2 := V → V → Hp → VK → Prop
/-- a two-place operation on values: f is binaryOp op, inplaceOp op or compareOp op -/
def OpR (X : Cx) (f : Value → Value → Sem Value) (r : R2) : Prop :=
  ∀ (pins : List (Addr × Obj)) (s : Shared) (σ : St) (H : Hp) (x y : V) (v u : Value) (Q : VK), Inv X pins σ H s → RelV x v → RelV y u → r x y H Q →
    wpAny (model X.prog X.w) X.A (f v u) (EP X pins σ Q) X.xe s
/-- a one-place operation -/
def UnR (X : Cx) (f : Value → Sem Value) (r : V → Hp → VK → Prop) : Prop :=
  ∀ (pins : List (Addr × Obj)) (s : Shared) (σ : St) (H : Hp) (x : V) (v : Value) (Q : VK), Inv X pins σ H s → RelV x v → r x H Q →
    wpAny (model X.prog X.w) X.A (f v) (EP X pins σ Q) X.xe s
/-- a call of a value that is known (a builtin, a type) with values -/
def CallR (X : Cx) (f : Value) (r : List V → Hp → VK → Prop) : Prop :=
  ∀ (pins : List (Addr × Obj)) (s : Shared) (σ : St) (H : Hp) (xs : List V) (us : List Value) (Q : VK), Inv X pins σ H s → Vals xs us → r xs H Q →
    wpAny (model X.prog X.w) X.A (call f us) (EP X pins σ Q) X.xe s
def tOp (r : R2) (ta tb : TE) : TE := fun σ H Q => ta σ H fun x H1 => tb σ H1 fun y H2 => r x y H2 Q
def tUn (r : V → Hp → VK → Prop) (ta : TE) : TE := fun σ H Q => ta σ H fun x H1 => r x H1 Q
/-- ints in, under C, and a value out -/
def rI (C : Int → Int → Prop) (g : Int → Int → V) : R2 := fun x y H Q => ∃ i j, x = .int i ∧ y = .int j ∧ C i j ∧ Q (g i j) H
def rI0 (g : Int → Int → V) : R2 := fun x y H Q => ∃ i j, x = .int i ∧ y = .int j ∧ Q (g i j) H
def rU (g : Int → V) : V → Hp → VK → Prop := fun x H Q => ∃ i, x = .int i ∧ Q (g i) H

section
variable {X : Cx} {a b c : Expr} {ta tb tc : TE} {pos : Pos}

theorem binT (ha : PE X a ta) (hb : PE X b tb) {pins : List (Addr × Obj)} {s : Shared} {σ : St} {H : Hp} {R : V → V → Hp → Prop} (I : Inv X pins σ H s)
    (h : ta σ H fun x H1 => tb σ H1 fun y H2 => R x y H2) {Q : Value → Shared → Prop} {f : Value → Value → Sem Value}
    (hf : ∀ v u s2 x y H2, Inv X pins σ H2 s2 → RelV x v → RelV y u → R x y H2 → wpAny (model X.prog X.w) X.A (f v u) Q X.xe s2) :
    wpAny (model X.prog X.w) X.A (eval a X.env) (fun v s₁ => wpAny (model X.prog X.w) X.A (eval b X.env) (fun u s₂ => wpAny (model X.prog X.w) X.A (f v u) Q X.xe s₂) X.xe s₁) X.xe s := by
  refine thn (ha pins s σ H _ I h) fun v s1 ⟨x, H1, I1, r1, q1⟩ => ?_
  refine thn (hb pins s1 σ H1 _ I1 q1) fun u s2 ⟨y, H2, I2, r2, q2⟩ => ?_
  exact hf v u s2 x y H2 I2 r1 r2 q2

theorem pe_op {op : Operator} {r : R2} (ho : OpR X (binaryOp op) r) (ha : PE X a ta) (hb : PE X b tb) : PE X (.BinOp a op b pos) (tOp r ta tb) := by
  intro pins s σ H Q I h
  exact wpAny_BinOp (binT ha hb I h fun v u s2 x y H2 I2 rx ry q => ho pins s2 σ H2 x y v u Q I2 rx ry q)
theorem pe_un {op : UnaryOp} {r : V → Hp → VK → Prop} (ho : UnR X (unaryOp op) r) (ha : PE X a ta) : PE X (.UnaryOp op a pos) (tUn r ta) := by
  intro pins s σ H Q I h
  exact UnaryOp_ (thn (ha pins s σ H _ I h) fun v s1 ⟨x, H1, I1, r1, q1⟩ => ho pins s1 σ H1 x v Q I1 r1 q1)
/-! ### ints -/
theorem opI {f : Value → Value → Sem Value} {C : Int → Int → Prop} {g : Int → Int → Int}
    (rule : ∀ (i j : Int) (t u : Tok) (s : Shared) (Q : Value → Shared → Prop) (E : Value → Shared → Prop), C i j → Q (.int (g i j) s.toks) { s with toks := s.toks + 1 } → wpAny (model X.prog X.w) X.A (f (.int i t) (.int j u)) Q E s) :
    OpR X f (rI C fun i j => .int (g i j)) := by
  intro pins s σ H x y v u Q I rx ry h
  obtain ⟨i, j, rfl, rfl, hc, q⟩ := h
  obtain ⟨t, rfl⟩ := rx
  obtain ⟨t', rfl⟩ := ry
  exact rule i j t t' s _ _ hc ⟨.int (g i j), H, I.tok _, ⟨_, rfl⟩, q⟩
theorem opI0 {f : Value → Value → Sem Value} {g : Int → Int → Int}
    (rule : ∀ (i j : Int) (t u : Tok) (s : Shared) (Q : Value → Shared → Prop) (E : Value → Shared → Prop), Q (.int (g i j) s.toks) { s with toks := s.toks + 1 } → wpAny (model X.prog X.w) X.A (f (.int i t) (.int j u)) Q E s) :
    OpR X f (rI0 fun i j => .int (g i j)) := by
  intro pins s σ H x y v u Q I rx ry h
  obtain ⟨i, j, rfl, rfl, q⟩ := h
  obtain ⟨t, rfl⟩ := rx
  obtain ⟨t', rfl⟩ := ry
  exact rule i j t t' s _ _ ⟨.int (g i j), H, I.tok _, ⟨_, rfl⟩, q⟩
theorem opB0 {f : Value → Value → Sem Value} {g : Int → Int → Bool}
    (rule : ∀ (i j : Int) (t u : Tok) (s : Shared) (Q : Value → Shared → Prop) (E : Value → Shared → Prop), Q (.bool (g i j)) s → wpAny (model X.prog X.w) X.A (f (.int i t) (.int j u)) Q E s) :
    OpR X f (rI0 fun i j => .bl (g i j)) := by
  intro pins s σ H x y v u Q I rx ry h
  obtain ⟨i, j, rfl, rfl, q⟩ := h
  obtain ⟨t, rfl⟩ := rx
  obtain ⟨t', rfl⟩ := ry
  exact rule i j t t' s _ _ ⟨.bl (g i j), H, I, rfl, q⟩

def CPow (i j : Int) : Prop := 0 ≤ j ∧ j ≤ 1000000 ∧ i.natAbs < 2 ^ 64
theorem op_add : OpR X (binaryOp .Add) (rI0 fun i j => .int (i + j)) := opI0 fun _ _ _ _ _ _ _ q => add_int q
theorem op_sub : OpR X (binaryOp .Sub) (rI0 fun i j => .int (i - j)) := opI0 fun _ _ _ _ _ _ _ q => sub_int q
theorem op_modN : OpR X (binaryOp .Mod) (rI (fun _ j => j ≠ 0) fun i j => .int (i.fmod j)) := opI fun _ _ _ _ _ _ _ hc q => mod_int' hc q
theorem op_pow : OpR X (binaryOp .Pow) (rI CPow fun i j => .int (i ^ j.toNat)) := opI fun _ _ _ _ _ _ _ hc q => pow_int_small hc.1 hc.2.1 hc.2.2 q
theorem unI {f : Value → Sem Value} {g : Int → Int}
    (rule : ∀ (i : Int) (t : Tok) (s : Shared) (Q : Value → Shared → Prop) (E : Value → Shared → Prop), Q (.int (g i) s.toks) { s with toks := s.toks + 1 } → wpAny (model X.prog X.w) X.A (f (.int i t)) Q E s) :
    UnR X f (rU fun i => .int (g i)) := by
  intro pins s σ H x v Q I rx h
  obtain ⟨i, rfl, q⟩ := h
  obtain ⟨t, rfl⟩ := rx
  exact rule i t s _ _ ⟨.int (g i), H, I.tok _, ⟨_, rfl⟩, q⟩
theorem un_neg : UnR X (unaryOp .USub) (rU fun i => .int (-i)) := unI fun _ _ _ _ _ q => neg_int q
/-! ### bools among ints: n += (a < b) -/
end

/-! ### comparisons -/
/-- the scalars that == tells apart as data does -/
def scal : V → V → Bool
  | .non, .non => true | .non, .int _ => true | .int _, .non => true | .non, .bl _ => true | .bl _, .non => true | .non, .str _ => true | .str _, .non => true
  | .int _, .int _ => true | .bl _, .bl _ => true | .str _, .str _ => true | .byt _, .byt _ => true
  | .int _, .str _ => true | .str _, .int _ => true | .bl _, .str _ => true | .str _, .bl _ => true
  | _, _ => false
def rEq : R2 := fun x y H Q => scal x y = true ∧ Q (.bl (decide (x = y))) H
def rNe : R2 := fun x y H Q => scal x y = true ∧ Q (.bl (!decide (x = y))) H

theorem dec_int {i j : Int} : decide (V.int i = V.int j) = (i == j) := by
  rw [Bool.eq_iff_iff]
  simp
theorem dec_bl {i j : Bool} : decide (V.bl i = V.bl j) = (i == j) := by
  rw [Bool.eq_iff_iff]
  simp
theorem dec_str {i j : Str} : decide (V.str i = V.str j) = (i == j) := by
  rw [Bool.eq_iff_iff]
  simp
theorem dec_byt {i j : Array UInt8} : decide (V.byt i = V.byt j) = (i.toList == j.toList) := by
  rw [Bool.eq_iff_iff]
  cases i
  cases j
  simp

section
variable {X : Cx} {a b c : Expr} {ta tb tc : TE} {pos : Pos}
theorem fin_bl {pins : List (Addr × Obj)} {σ : St} {H : Hp} {s : Shared} {Q : VK} {k k' : Bool} (I : Inv X pins σ H s) (q : Q (.bl k) H) (e : k = k') : EP X pins σ Q (.bool k') s := by
  subst e
  exact ⟨.bl k, H, I, rfl, q⟩
theorem op_eq : OpR X (compareOp .Eq) rEq := by
  intro pins s σ H x y v u Q I rx ry h
  obtain ⟨hs, q⟩ := h
  cases x with
  | non =>
    cases rx
    cases y with
    | non => cases ry; exact PySem.EqNone.eq_none_none (fin_bl I q (by simp))
    | bl j => cases ry; exact PySem.EqNone.eq_none_bool (fin_bl I q (by simp))
    | int j => obtain ⟨t', rfl⟩ := ry; exact PySem.EqNone.eq_none_int (fin_bl I q (by simp))
    | str j => obtain ⟨t', rfl⟩ := ry; exact PySem.EqNone.eq_none_str (fin_bl I q (by simp))
    | _ => exact absurd (show false = true from hs) Bool.false_ne_true
  | bl i =>
    cases rx
    cases y with
    | non => cases ry; exact PySem.EqNone.eq_bool_none (fin_bl I q (by simp))
    | bl j => cases ry; exact eq_bool (fin_bl I q dec_bl)
    | str j => obtain ⟨t', rfl⟩ := ry; exact PySem.EqMixed.eq_bool_str (fin_bl I q (by simp))
    | _ => exact absurd (show false = true from hs) Bool.false_ne_true
  | int i =>
    obtain ⟨t, rfl⟩ := rx
    cases y with
    | non => cases ry; exact PySem.EqNone.eq_int_none (fin_bl I q (by simp))
    | int j => obtain ⟨t', rfl⟩ := ry; exact eq_int (fin_bl I q dec_int)
    | str j => obtain ⟨t', rfl⟩ := ry; exact PySem.EqMixed.eq_int_str (fin_bl I q (by simp))
    | _ => exact absurd (show false = true from hs) Bool.false_ne_true
  | str i =>
    obtain ⟨t, rfl⟩ := rx
    cases y with
    | non => cases ry; exact PySem.EqNone.eq_str_none (fin_bl I q (by simp))
    | bl j => cases ry; exact PySem.EqMixed.eq_str_bool (fin_bl I q (by simp))
    | int j => obtain ⟨t', rfl⟩ := ry; exact PySem.EqMixed.eq_str_int (fin_bl I q (by simp))
    | str j => obtain ⟨t', rfl⟩ := ry; exact eq_str (fin_bl I q dec_str)
    | _ => exact absurd (show false = true from hs) Bool.false_ne_true
  | byt i =>
    obtain ⟨t, rfl⟩ := rx
    cases y with
    | byt j => obtain ⟨t', rfl⟩ := ry; exact PySem.W.eq_bytes (fin_bl I q dec_byt)
    | _ => exact absurd (show false = true from hs) Bool.false_ne_true
  | _ => cases y <;> exact absurd (show false = true from hs) Bool.false_ne_true
theorem op_ne : OpR X (compareOp .NotEq) rNe := by
  intro pins s σ H x y v u Q I rx ry h
  obtain ⟨hs, q⟩ := h
  cases x with
  | non =>
    cases rx
    cases y with
    | non => cases ry; exact PySem.EqNone.ne_none_none (fin_bl I q (by simp))
    | bl j => cases ry; exact PySem.EqNone.ne_none_bool (fin_bl I q (by simp))
    | int j => obtain ⟨t', rfl⟩ := ry; exact PySem.EqNone.ne_none_int (fin_bl I q (by simp))
    | str j => obtain ⟨t', rfl⟩ := ry; exact PySem.EqNone.ne_none_str (fin_bl I q (by simp))
    | _ => exact absurd (show false = true from hs) Bool.false_ne_true
  | bl i =>
    cases rx
    cases y with
    | non => cases ry; exact PySem.EqNone.ne_bool_none (fin_bl I q (by simp))
    | bl j => cases ry; exact ne_bool (fin_bl I q (congrArg not dec_bl))
    | str j => obtain ⟨t', rfl⟩ := ry; exact PySem.EqMixed.ne_bool_str (fin_bl I q (by simp))
    | _ => exact absurd (show false = true from hs) Bool.false_ne_true
  | int i =>
    obtain ⟨t, rfl⟩ := rx
    cases y with
    | non => cases ry; exact PySem.EqNone.ne_int_none (fin_bl I q (by simp))
    | int j => obtain ⟨t', rfl⟩ := ry; exact ne_int (fin_bl I q (congrArg not dec_int))
    | str j => obtain ⟨t', rfl⟩ := ry; exact PySem.EqMixed.ne_int_str (fin_bl I q (by simp))
    | _ => exact absurd (show false = true from hs) Bool.false_ne_true
  | str i =>
    obtain ⟨t, rfl⟩ := rx
    cases y with
    | non => cases ry; exact PySem.EqNone.ne_str_none (fin_bl I q (by simp))
    | bl j => cases ry; exact PySem.EqMixed.ne_str_bool (fin_bl I q (by simp))
    | int j => obtain ⟨t', rfl⟩ := ry; exact PySem.EqMixed.ne_str_int (fin_bl I q (by simp))
    | str j => obtain ⟨t', rfl⟩ := ry; exact ne_str (fin_bl I q (congrArg not dec_str))
    | _ => exact absurd (show false = true from hs) Bool.false_ne_true
  | byt i =>
    obtain ⟨t, rfl⟩ := rx
    cases y with
    | byt j => obtain ⟨t', rfl⟩ := ry; exact PySem.W.ne_bytes (fin_bl I q (congrArg not dec_byt))
    | _ => exact absurd (show false = true from hs) Bool.false_ne_true
  | _ => cases y <;> exact absurd (show false = true from hs) Bool.false_ne_true

theorem op_lt : OpR X (compareOp .Lt) (rI0 fun i j => .bl (decide (i < j))) := opB0 fun _ _ _ _ _ _ _ q => lt_int q
theorem op_le : OpR X (compareOp .LtE) (rI0 fun i j => .bl (decide (i ≤ j))) := opB0 fun _ _ _ _ _ _ _ q => le_int q
theorem op_gt : OpR X (compareOp .Gt) (rI0 fun i j => .bl (decide (j < i))) := opB0 fun _ _ _ _ _ _ _ q => gt_int q
theorem nomark (b : Expr) {op : CmpOp} (h : op ≠ .In := by decide) (h2 : op ≠ .NotIn := by decide) : behindInMarks op b = false := by
  have e1 : (op == CmpOp.In) = false := by cases op <;> first | rfl | exact absurd rfl h
  have e2 : (op == CmpOp.NotIn) = false := by cases op <;> first | rfl | exact absurd rfl h2
  cases b <;> simp [behindInMarks, e1, e2]
/-- a comparison as a value; hm: nomark b, or (for in, not in) by with_unfolding_all rfl -/
theorem pe_cmpR {op : CmpOp} {r : R2} (ho : OpR X (compareOp op) r) (ha : PE X a ta) (hb : PE X b tb) (hm : behindInMarks op b = false) : PE X (.Compare a [op] [b] pos) (tOp r ta tb) := by
  intro pins s σ H Q I h
  exact wpAny_Compare1 (binT ha hb I h fun v u s2 x y H2 I2 rx ry q => ho pins s2 σ H2 x y v u Q I2 rx ry q) hm
/-- a reading of a value as a test -/
def tTest (t : TE) : TT := fun σ H Q => t σ H fun x H' => ∃ k, x = .bl k ∧ Q k H'
theorem pt_cmpR {op : CmpOp} {r : R2} (ho : OpR X (compareOp op) r) (ha : PE X a ta) (hb : PE X b tb) (hm : behindInMarks op b = false) : PT X (.Compare a [op] [b] pos) (tTest (tOp r ta tb)) := by
  intro pins s σ H Q I h
  refine wpAny_isTrue_Compare1 (thn (ha pins s σ H _ I h) fun v s1 ⟨x, H1, I1, r1, q1⟩ => thn (hb pins s1 σ H1 _ I1 q1) fun u s2 ⟨y, H2, I2, r2, q2⟩ =>
    thn (ho pins s2 σ H2 x y v u _ I2 r1 r2 q2) fun c s3 ⟨z, H3, I3, r3, k, e, q3⟩ => ?_) hm
  subst e
  cases r3
  exact wpAny_truthy_bool ⟨H3, I3, q3⟩
/-! ### truth -/
theorem line63 : (sizeLine : Nat) < 2 ^ 63 := by rw [sizeLine_eq]; decide
/-! ### strs and bytes -/
/-! ### scalar builtins, by CallR -/
theorem vals1 {x : V} {us : List Value} (r : Vals [x] us) : ∃ u, us = [u] ∧ RelV x u := by
  cases r with
  | cons r1 r2 => cases r2; exact ⟨_, rfl, r1⟩
theorem vals2 {x y : V} {us : List Value} (r : Vals [x, y] us) : ∃ u w', us = [u, w'] ∧ RelV x u ∧ RelV y w' := by
  cases r with
  | cons r1 r2 =>
    cases r2 with
    | cons r3 r4 => cases r4; exact ⟨_, _, rfl, r1, r3⟩
theorem call_abs : CallR X (.builtin "abs") (fun xs H Q => ∃ i, xs = [.int i] ∧ Q (.int (if i < 0 then -i else i)) H) := by
  intro pins s σ H xs us Q I r h
  obtain ⟨i, rfl, q⟩ := h
  obtain ⟨u, rfl, t, rfl⟩ := vals1 r
  exact call_abs_int fun u tk => ⟨.int (if i < 0 then -i else i), H, I.tok _, ⟨_, rfl⟩, q⟩
theorem call_max2 (hc : X.calm = true) : CallR X (.builtin "max") (fun xs H Q => ∃ i j, xs = [.int i, .int j] ∧ Q (.int (if j > i then j else i)) H) := by
  intro pins s σ H xs us Q I r h
  obtain ⟨i, j, rfl, q⟩ := h
  obtain ⟨u, w', rfl, ⟨t, rfl⟩, ⟨t', rfl⟩⟩ := vals2 r
  refine max_two_ints (I.ok.hd hc) fun h' tk k => ⟨_, H, I.kept k, ?_, q⟩
  by_cases hj : j > i
  · rw [if_pos hj, if_pos hj]; exact ⟨_, rfl⟩
  · rw [if_neg hj, if_neg hj]; exact ⟨_, rfl⟩
end
end L2

namespace L2
open PySem PySem.Spec PyProof.Rows

/-! ### an instance, its attributes a map -/
structure ObjM (h : Heap) (x dx C : Addr) (mA : Str → Option Value) : Prop where
  obj : h.get? x = some (PySem.W.instObj C dx)
  ns : h.Ns1 dx mA
  ne : dx ≠ x

theorem lookIn_ns {h : Heap} {dx : Addr} {mA : Str → Option Value} (n : h.Ns1 dx mA) : ∃ od, h.get? dx = some od ∧ ∀ name, PySem.W.lookIn name od = some (mA name) := by
  obtain ⟨o, es, ep, ho, hd, hk, _, hm⟩ := n
  refine ⟨o, ho, fun name => ?_⟩
  have e := hm name
  unfold nsFind findBy at e
  rw [← Array.find?_toList] at e
  unfold PySem.W.lookIn
  rw [hd]
  dsimp only
  split
  · rename_i y q
    rw [q] at e
    exact congrArg some e
  · rename_i q
    rw [q] at e
    have a : es.toList.any (·.refKey) = false := by
      rw [List.any_eq_false]
      intro y hy
      obtain ⟨z, t, hkey⟩ := hk y (Array.mem_toList_iff.mp hy)
      simp [DictEntry.refKey, hkey]
    have a' : ¬ es.toList.any (·.refKey) = true := by rw [a]; exact Bool.false_ne_true
    rw [if_neg a']
    exact congrArg some e

theorem ObjM.look {h : Heap} {x dx C : Addr} {mA : Str → Option Value} (I : ObjM h x dx C mA) : ∃ od, PySem.W.InstAt h x (PySem.W.instObj C dx) C (some od) ∧ ∀ name, PySem.W.lookIn name od = some (mA name) :=
  let ⟨od, ho, hl⟩ := lookIn_ns I.ns
  ⟨od, ⟨I.obj, rfl, rfl, ho⟩, hl⟩

section
variable {prog : Program} {w : World} {A : Around} {E : Value → Shared → Prop} {s : Shared} {K : PySem.W.Frag} {x dx C f : Addr} {mA : Str → Option Value} {name : Str} {v : Value}

end

/-! ### the attributes as a list of pairs -/
section
variable {P : Program} {w : World} {H H' : Hp} {h h' : Heap} {a C dx : Addr} {fs fs' : List (Str × V)}
theorem ins_get (hok : HOk P w H h) (e : H a = some (.ins C dx fs)) : ∃ mA, ObjM h a dx C mA ∧ (∀ f, RelO (fs.lookup f) (mA f)) ∧ PySem.Within mA (fs.map (·.1)) ∧ fs.length ≤ 1000 ∧ H dx = some (.own a) := by
  obtain ⟨d, z, ne, ob, mA, n, r, q⟩ := (show ObjOk P w H h a (.ins C dx fs) from hok a _ e)
  exact ⟨mA, ⟨ob, n, ne⟩, r, q, z, d⟩
end

/-! ### what of the text a class must have -/
structure Cls (K : PySem.W.Frag) (C : Addr) : Prop where
  pg : PySem.W.plainGet K C Str.empty = true
  hd : PySem.W.hasDictIn K C = true
  po : PySem.W.plainOver K C = true
  sa : PySem.W.findIn K (.ref C) "__setattr__" = some (some (.builtin "object.__setattr__"))
theorem Cls.get {K : PySem.W.Frag} {C : Addr} (c : Cls K C) (f : Str) : PySem.W.plainGet K C f = true := c.pg
/-- a constant of the class -/
structure Con (K : PySem.W.Frag) (C : Addr) (f : Str) (v : V) (u : Value) : Prop where
  at_ : PySem.W.findIn K (.ref C) f = some (some u)
  rel : RelV v u
  get : PySem.W.specialIn K u "__get__" = some none
  cp : PySem.W.copiedNames.contains f = false
/-- a method: a plain def of the class or of one above it -/
structure Meth (K : PySem.W.Frag) (C : Addr) (m : Str) (f : Addr) : Prop where
  at_ : PySem.W.findIn K (.ref C) m = some (some (.ref f))
  fn : PySem.W.isFn K (.ref f) = true
  kp : PySem.W.keepIn K (.ref f) = true

section
variable {X : Cx} {pins : List (Addr × Obj)} {σ : St} {H : Hp} {s : Shared} {a C dx : Addr} {fs : List (Str × V)} {f : Str} {v : V} {A : Around} {E : Value → Shared → Prop}

end

/-! ### readings and rules -/
section
variable {X : Cx} {o e value : Expr} {f : Str} {pos pos' tpos : Pos} {ta tv : TE}
end

/-! ### isinstance -/
section
variable {X : Cx} {pins : List (Addr × Obj)} {σ : St} {H : Hp} {s : Shared} {A : Around} {E : Value → Shared → Prop} {Q : Value → Shared → Prop} {c : Value} {b : Bool}
/-- the type of a value, as the fragment's deciders take it; for an instance its class -/
inductive TyOf (K : PySem.W.Frag) (H : Hp) : V → Value → Prop where
  | non : TyOf K H .non (.type "NoneType")
  | bl (x : Bool) : TyOf K H (.bl x) (.type "bool")
  | int (i : Int) : TyOf K H (.int i) (.type "int")
  | str (x : Str) : TyOf K H (.str x) (.type "str")
  | flt (x : UInt64) : TyOf K H (.flt x) (.type "float")
  | lst {a : Addr} {xs : List V} (e : H a = some (.lst xs)) : TyOf K H (.ref a) (.type "list")
  | frz {a : Addr} {o : Obj} {xs : List V} (e : H a = some (.frz o (.lst xs))) : TyOf K H (.ref a) (.type "list")
  | tup {a : Addr} {xs : List V} (e : H a = some (.tup xs)) : TyOf K H (.ref a) (.type "tuple")
  | dK {a : Addr} {kvs : List (Key × V)} (e : H a = some (.dK kvs)) : TyOf K H (.ref a) (.type "dict")
  | dT {a : Addr} {kvs : List (List Key × V)} (e : H a = some (.dT kvs)) : TyOf K H (.ref a) (.type "dict")
  | ins {a C dx : Addr} {fs : List (Str × V)} (e : H a = some (.ins C dx fs)) (cl : Cls K C) (ha : PySem.W.findIn K (.ref C) "__class__" = some (some (.builtin "object.__class__")))
      (hn : PySem.W.specialIn K (.builtin "object.__class__") "__get__" = some (some (.builtin "getset_descriptor.__get__"))) (htk : PySem.W.takesIn K (.builtin "object.__class__") = some true)
      (hm : PySem.W.mroIn K C (.type "object") = some true) : TyOf K H (.ref a) (.ref C)
/-- isinstance(x, c) for one class c, a built-in or an own one: kitOne's answer -/
theorem isinst_ok {x : V} {u t : Value} (I : Inv X pins σ H s) (rx : RelV x u) (ty : TyOf X.K H x t) (e : PySem.W.kitOne X.K t c = some b) (h : ∀ tk, Q (.bool b) { s with toks := tk }) :
    wpAny (model X.prog X.w) A (call (.builtin "isinstance") [u, c]) Q E s := by
  cases ty with
  | non => cases (show u = Value.none from rx); exact PySem.W.kia_one PySem.W.kitx_none I.kIn True.intro e (fun z => nomatch z) h
  | bl y => cases (show u = Value.bool y from rx); exact PySem.W.kia_one PySem.W.kitx_bool I.kIn True.intro e (fun z => nomatch z) h
  | int i => obtain ⟨t, q⟩ := (show ∃ t, u = Value.int i t from rx); cases q; exact PySem.W.kia_one PySem.W.kitx_int I.kIn True.intro e (fun z => nomatch z) h
  | str y => obtain ⟨t, q⟩ := (show ∃ t, u = Value.str y t from rx); cases q; exact PySem.W.kia_one PySem.W.kitx_str I.kIn True.intro e (fun z => nomatch z) h
  | flt y => obtain ⟨t, q⟩ := (show ∃ t, u = Value.float y t from rx); cases q; exact PySem.W.kia_one PySem.W.kitx_float I.kIn True.intro e (fun z => nomatch z) h
  | @lst a xs ea =>
    cases (show u = Value.ref a from rx)
    obtain ⟨_, _, n, _, h1⟩ := (show ObjOk X.prog X.w H s.heap a (.lst xs) from I.hok a _ ea)
    exact PySem.W.kia_one PySem.W.kitx_list I.kIn ⟨_, h1, rfl⟩ e (fun z => nomatch z) h
  | @frz a ob xs ea =>
    cases (show u = Value.ref a from rx)
    obtain ⟨_, _, _, n, _, h1⟩ := (show ObjOk X.prog X.w H s.heap a (.frz ob (.lst xs)) from I.hok a _ ea)
    exact PySem.W.kia_one PySem.W.kitx_list I.kIn ⟨_, h1, rfl⟩ e (fun z => nomatch z) h
  | @tup a xs ea =>
    cases (show u = Value.ref a from rx)
    obtain ⟨_, _, _, p⟩ := (show ObjOk X.prog X.w H s.heap a (.tup xs) from I.hok a _ ea)
    obtain ⟨o, h1, h2, _⟩ := p
    exact PySem.W.kia_one PySem.W.kitx_tuple I.kIn ⟨o, h1, h2⟩ e (fun z => nomatch z) h
  | @dK a kvs ea =>
    cases (show u = Value.ref a from rx)
    obtain ⟨_, _, vs, _, p⟩ := (show ObjOk X.prog X.w H s.heap a (.dK kvs) from I.hok a _ ea)
    obtain ⟨o, es, ep, h1, h2, _⟩ := p
    exact PySem.W.kia_one PySem.W.kitx_dict I.kIn ⟨o, h1, h2.1⟩ e (fun z => nomatch z) h
  | @dT a kvs ea =>
    cases (show u = Value.ref a from rx)
    obtain ⟨_, _, xs, _, o, es, ep, h1, h2, _⟩ := (show ObjOk X.prog X.w H s.heap a (.dT kvs) from I.hok a _ ea)
    exact PySem.W.kia_one PySem.W.kitx_dict I.kIn ⟨o, h1, h2.1⟩ e (fun z => nomatch z) h
  | @ins a C dx fs ea cl ha hn htk hm =>
    cases (show u = Value.ref a from rx)
    obtain ⟨mA, O, _⟩ := ins_get I.hok ea
    obtain ⟨od, J, _⟩ := O.look
    exact PySem.W.kia_one (PySem.W.kitx_own (cl.get _) cl.hd ha hn htk hm) I.kIn J e (fun z => nomatch z) h
end
end L2

namespace L2
open PySem PySem.Spec PyProof.Rows

/-! ### room -/
structure Room (k : Nat) (A : Around) : Prop where
  hd : A.handled = none
  dp : A.depth + 3 * k + 5 < recursionLimit
  un : A.units + 16 * k + 200 < cLine
theorem Room.mono {j k : Nat} {A : Around} (r : Room k A) (h : j ≤ k) : Room j A := ⟨r.hd, by have := r.dp; omega, by have := r.un; omega⟩
theorem Room.deeper {k : Nat} {A : Around} (r : Room (k + 1) A) (env : Env) : Room k (A.deeper env) :=
  ⟨r.hd, by have := r.dp; show A.depth + 1 + 3 * k + 5 < _; omega, by have := r.un; show A.units + 3 + 16 * k + 200 < _; omega⟩
theorem Room.depth {k : Nat} {A : Around} (r : Room k A) : A.depth < recursionLimit := by have := r.dp; omega
theorem Room.units {k : Nat} {A : Around} (r : Room k A) : A.units + 64 < cLine := by have := r.un; omega
/-! ### argument lists and displays -/
def tNil : TA := fun _ H Q => Q [] H
def tCons (ta : TE) (tr : TA) : TA := fun σ H Q => ta σ H fun x H1 => tr σ H1 fun xs H2 => Q (x :: xs) H2
section
variable {X : Cx} {e : Expr} {es : List Expr} {te : TE} {t : TA} {pos : Pos}
theorem pa_nil : PA X [] tNil := fun _ _ _ _ H Q I h => Calls.spliced_nil ⟨[], H, I, .nil, h⟩
theorem pa_cons (ha : PE X e te) (hr : PA X es t) (hs : starEach (e :: es) X.env = (false, eval e X.env) :: starEach es X.env := by rfl) : PA X (e :: es) (tCons te t) := by
  intro pos pins s σ H Q I h
  rw [hs]
  show wpAny _ _ (spliced ((false, eval e X.env) :: backTo pos (starEach es X.env))) _ _ s
  refine Calls.spliced_cons (thn (ha pins s σ H _ I h) fun u s1 ⟨x, H1, I1, r1, q1⟩ => ?_)
  exact thn (hr pos pins s1 σ H1 _ I1 q1) fun us s2 ⟨xs, H2, I2, r2, q2⟩ => ⟨x :: xs, H2, I2, .cons r1 r2, q2⟩

/-- a tuple, a list of written items -/
def tTup (t : TA) : TE := fun σ H Q => t σ H fun xs H1 => xs.length ≤ sizeLine ∧ ∀ p, H1 p = none → Q (.ref p) (upd H1 p (.tup xs))
def tLst (t : TA) : TE := fun σ H Q => t σ H fun xs H1 => xs.length ≤ sizeLine ∧ ∀ p, H1 p = none → Q (.ref p) (upd H1 p (.lst xs))
theorem pe_tup {x1} (h : PA X es t) : PE X (.Tuple es x1 pos) (tTup t) := by
  intro pins s σ H Q I hq
  refine wpAny_Tuple_spliced (thn (h pos pins s σ H _ I hq) fun us s1 ⟨xs, H1, I1, r, z, q⟩ => ⟨by rw [← r.length]; exact z, ?_⟩)
  have hf : H1 s1.heap.objs.size = none := I1.hok.fresh (Nat.le_refl _)
  refine ⟨.ref s1.heap.objs.size, upd H1 s1.heap.objs.size (.tup xs), I1.laid (t' := s1.toks) (fun b u e => Heap.get?_push_of_some _ e) (Nat.le_refl _) ?_, rfl, q _ hf⟩
  exact ⟨z, us, r, ⟨_, Heap.get?_push_size _ rfl, rfl, _, rfl⟩⟩
theorem pe_lst (h : PA X es t) : PE X (.List es pos) (tLst t) := by
  intro pins s σ H Q I hq
  refine wpAny_List_spliced (thn (h pos pins s σ H _ I hq) fun us s1 ⟨xs, H1, I1, r, z, q⟩ => ⟨by rw [← r.length]; exact z, ?_⟩)
  have hf : H1 s1.heap.objs.size = none := I1.hok.fresh (Nat.le_refl _)
  refine ⟨.ref s1.heap.objs.size, upd H1 s1.heap.objs.size (.lst xs), I1.laid (t' := s1.toks) (fun b u e => Heap.get?_push_of_some _ e) (Nat.le_refl _) ?_, rfl, q _ hf⟩
  exact ⟨z, us, 0, r, Heap.get?_push_size _ rfl⟩
end

/-! ### what a def promises -/
/-- a def's promise: the bound arguments in the parameters' order, the heap, the wanted end, the wanted exception -/
abbrev Sp := List V → Hp → VK → XK → Prop
/-- how an exception lies behind a call (file 08 gives it): the callers' frames, abstract heap and state ahead of the call, the wish, the exception, the state -/
abbrev CXT := List Env → Hp → Shared → XK → Value → Shared → Prop

/-- the state at a call -/
structure Env0 (P : Program) (w : World) (K : PySem.W.Frag) (mg : Str → Option Value) (base : Heap) (A : Around) (outer : List Env) (s : Shared) (H : Hp) : Prop where
  frames : A.frames = some outer
  mod : Mod K mg base
  bs : ∀ b o, base.get? b = some o → s.heap.get? b = some o ∧ H b = none
  bsz : base.objs.size ≤ s.heap.objs.size
  funs : s.heap.FunFrames base outer
  frf : ∀ b ∈ frs outer, H b = none
  hok : HOk P w H s.heap
  bare : AllBare s.gens
/-- a call's end -/
def CE (outer : List Env) (P : Program) (w : World) (H : Hp) (s : Shared) (Q : VK) (u : Value) (s' : Shared) : Prop :=
  ∃ v H', s'.os = s.os ∧ AllBare s'.gens ∧ Un (frs outer) [] H H' s.heap s'.heap ∧ HOk P w H' s'.heap ∧ RelV v u ∧ Q v H'
def CR (CX : CXT) (outer : List Env) (P : Program) (w : World) (H : Hp) (s : Shared) (Q : VK) (E : XK) (r : Result) (s' : Shared) : Prop :=
  match r with
  | .ok (.ret u) => CE outer P w H s Q u s'
  | .ok _ => False
  | .error e => CX outer H s E e s'
structure FnOk (P : Program) (w : World) (K : PySem.W.Frag) (mg : Str → Option Value) (base : Heap) (CX : CXT) (k : Nat) (f : Addr) (fd : FuncData) (ps : List Str) (sp : Sp) : Prop where
  len : ∀ vs H Q E, sp vs H Q E → vs.length = ps.length
  run : ∀ (A : Around) (outer : List Env) (s : Shared) (H : Hp) (args : Args) (us : List Value) (vs : List V) (Q : VK) (E : XK), Room k A → Env0 P w K mg base A outer s H → BindsTo s fd args (ps.zip us) → Vals vs us → sp vs H Q E →
    codeAny (model P w) A (.call (.ref f) args) (CR CX outer P w H s Q E) s
/-- a weaker promise -/
theorem FnOk.imp {P : Program} {w : World} {K : PySem.W.Frag} {mg : Str → Option Value} {base : Heap} {CX : CXT} {k : Nat} {f : Addr} {fd : FuncData} {ps : List Str} {sp sp' : Sp} (F : FnOk P w K mg base CX k f fd ps sp)
    (h : ∀ vs H Q E, sp' vs H Q E → sp vs H Q E) : FnOk P w K mg base CX k f fd ps sp' :=
  ⟨fun vs H Q E q => F.len vs H Q E (h _ _ _ _ q), fun A outer s H args us vs Q E hr he hb hv hs => F.run A outer s H args us vs Q E hr he hb hv (h _ _ _ _ hs)⟩

section
variable {X : Cx} {pins : List (Addr × Obj)} {σ : St} {H : Hp} {s s' : Shared}
/-- from a body: what a callee wants -/
theorem Inv.env0 (I : Inv X pins σ H s) : Env0 X.prog X.w X.K X.mg X.base X.A X.stack s H :=
  ⟨I.ok.frames, I.ok.mod, I.bs, Nat.le_trans I.ok.bsz I.sz, I.stack, I.stkFree, I.hok, I.bare⟩
/-- behind a call -/
theorem Inv.after {Q : VK} {u : Value} (I : Inv X pins σ H s) (h : CE X.stack X.prog X.w H s Q u s') : EP X pins σ Q u s' := by
  obtain ⟨v, H', os, bare, un, hok, r, q⟩ := h
  obtain ⟨hh, g, d, t, os'⟩ := s'
  obtain rfl : os' = s.os := os
  exact ⟨v, H', I.call (h' := hh) (g' := g) (d' := d) (t' := t) (ch := []) un hok bare (fun b z => absurd z (by simp)), r, q⟩
end

/-! ### calls -/
/-- how the parameters are bound: us the positional arguments, kw the keywords' values by name, ds the defaults that fill up -/
def Binds (K : PySem.W.Frag) (fd : FuncData) (ps : List Str) (ds : List Value) : Prop :=
  ∀ (s : Shared) (us : List Value), K.In s.heap → (us ++ ds).length = ps.length → BindsTo s fd ⟨us, []⟩ (ps.zip (us ++ ds))
/-- every parameter is given -/
theorem Binds.all {K : PySem.W.Frag} {fd : FuncData} {ps : List Str} (h : ∀ us : List Value, us.length = ps.length → bindArgs fd ⟨us, []⟩ = pure (ps.zip us)) : Binds K fd ps [] := fun s us _ hl => by
  rw [List.append_nil] at hl ⊢
  exact .of_eq (h us hl)

section
variable {X : Cx} {CX : CXT} {k : Nat} {f C : Addr} {fd : FuncData} {ps : List Str} {sp : Sp} {dvs : List V} {ds : List Value} {E : XK} {x m : Str} {p pos apos : Pos} {e o : Expr} {es : List Expr} {ta : TE} {t : TA}

/-- what a class must have to be made -/
structure Mk (K : PySem.W.Frag) (C f : Addr) : Prop where
  makes : PySem.W.makesIn K C = true
  init : PySem.W.findIn K (.ref C) "__init__" = some (some (.ref f))
  fn : PySem.W.isFn K (.ref f) = true
  kp : PySem.W.keepIn K (.ref C) = true

end

/-! ### keywords -/
section
variable {X : Cx} {CX : CXT} {k : Nat} {f C : Addr} {fd : FuncData} {ps ks : List Str} {sp : Sp} {E : XK} {x m : Str} {p pos apos kpos : Pos} {e o : Expr} {es : List Expr} {kws : List Keyword} {te ta : TE} {t tk : TA} {nm : Option Str}
/-- how a call with keywords binds: g puts the positional values us and the keywords' values ws (names ks) in the parameters' order, defaults among them -/
structure KBinds (K : PySem.W.Frag) (fd : FuncData) (ps ks : List Str) (g : List Value → List Value → List Value) (gV : List V → List V → List V) : Prop where
  to : ∀ (s : Shared) (us ws : List Value), K.In s.heap → (g us ws).length = ps.length → BindsTo s fd ⟨us, ks.zip ws⟩ (ps.zip (g us ws))
  rel : ∀ {vs : List V} {us : List Value} {zs : List V} {ws : List Value}, Vals vs us → Vals zs ws → Vals (gV vs zs) (g us ws)
variable {g : List Value → List Value → List Value} {gV : List V → List V → List V}
end

/-! ### a def's body keeps its promise -/
/-- names: the parameters first -/
structure FnScope (N P : List Str) (sc : Scope) : Prop where
  kind : sc.kind = .function
  co : sc.isCoroutine = false
  gen : sc.isGenerator = false
  nd : N.Nodup
  pre : N.take P.length = P
  par : ∀ x ∈ P, sc.names.lookup x = some .local ∨ sc.names.lookup x = some .cell
  nofree : ∀ y ∈ sc.names, y.2 ≠ .free

theorem bindL_out {kindOf : Str → Option NameKind} {x : Str} : ∀ {binds : List (Str × Value)} {m : Str → Option Value}, (∀ v, (x, v) ∉ binds) → bindL kindOf binds m x = m x
  | [], _, _ => rfl
  | (n, v) :: r, m, h => by
    unfold bindL
    rw [bindL_out fun w hw => h w (List.mem_cons_of_mem _ hw)]
    split
    · have : x ≠ n := by rintro rfl; exact h v List.mem_cons_self
      simp [this]
    · rfl
theorem bindC_out {kindOf : Str → Option NameKind} {x : Str} : ∀ {binds : List (Str × Value)} {m : Str → Option Value}, (∀ v, (x, v) ∉ binds) → bindC kindOf binds m x = m x
  | [], _, _ => rfl
  | (n, v) :: r, m, h => by
    unfold bindC
    rw [bindC_out fun w hw => h w (List.mem_cons_of_mem _ hw)]
    split
    · rfl
    · have : x ≠ n := by rintro rfl; exact h v List.mem_cons_self
      simp [this]
theorem bindL_get {kindOf : Str → Option NameKind} {x : Str} {v : Value} : ∀ {P : List Str} {vs : List Value} {i : Nat} {m : Str → Option Value}, P.Nodup → P[i]? = some x → vs[i]? = some v → kindOf x = some .local →
    bindL kindOf (P.zip vs) m x = some v
  | [], _, _, _, _, h, _, _ => by simp at h
  | _ :: _, [], _, _, _, _, h, _ => by simp at h
  | p :: P, w :: vs, 0, m, nd, h1, h2, hk => by
    simp at h1 h2; subst h1; subst h2
    show bindL kindOf ((p, w) :: P.zip vs) m p = _
    unfold bindL
    rw [bindL_out fun v hv => (List.nodup_cons.mp nd).1 (List.of_mem_zip hv).1, if_pos hk]
    simp
  | p :: P, w :: vs, i + 1, m, nd, h1, h2, hk => by
    show bindL kindOf ((p, w) :: P.zip vs) m x = _
    unfold bindL
    exact bindL_get (i := i) (List.nodup_cons.mp nd).2 (by simpa using h1) (by simpa using h2) hk
theorem bindC_get {kindOf : Str → Option NameKind} {x : Str} {v : Value} : ∀ {P : List Str} {vs : List Value} {i : Nat} {m : Str → Option Value}, P.Nodup → P[i]? = some x → vs[i]? = some v → kindOf x ≠ some .local →
    bindC kindOf (P.zip vs) m x = some v
  | [], _, _, _, _, h, _, _ => by simp at h
  | _ :: _, [], _, _, _, _, h, _ => by simp at h
  | p :: P, w :: vs, 0, m, nd, h1, h2, hk => by
    simp at h1 h2; subst h1; subst h2
    show bindC kindOf ((p, w) :: P.zip vs) m p = _
    unfold bindC
    rw [bindC_out fun v hv => (List.nodup_cons.mp nd).1 (List.of_mem_zip hv).1, if_neg hk]
    simp
  | p :: P, w :: vs, i + 1, m, nd, h1, h2, hk => by
    show bindC kindOf ((p, w) :: P.zip vs) m x = _
    unfold bindC
    exact bindC_get (i := i) (List.nodup_cons.mp nd).2 (by simpa using h1) (by simpa using h2) hk

/-- the names' values at the entry -/
def start (N : List Str) (vs : List V) : St := vs.map some ++ List.replicate (N.length - vs.length) none

/-- the context of a def's body, at its entry; an exception leaves the frame, then lies as CX says -/
def cxOf (CX : CXT) (P : Program) (w : World) (K : PySem.W.Frag) (mg : Str → Option Value) (base : Heap) (N : List Str) (qual : Str) (scope : Scope) (f : Addr) (cd : Value) (A : Around) (outer : List Env) (s : Shared) (H : Hp) (E : XK) : Cx where
  prog := P
  w := w
  K := K
  mg := mg
  base := base
  A := A.deeper (envOfC qual scope s.heap.objs.size f cd)
  N := N
  s₀ := s
  H₀ := H
  env := envOfC qual scope s.heap.objs.size f cd
  outer := outer
  stack := envOfC qual scope s.heap.objs.size f cd :: outer
  ex := []
  calm := true
  fn := fun _ => true
  pn := []
  xe := fun e s' => wpAny (model P w) (A.deeper (envOfC qual scope s.heap.objs.size f cd)) (leaving (envOfC qual scope s.heap.objs.size f cd) e) (fun _ s'' => CX outer H s E e s'') (fun e' s'' => CX outer H s E e' s'') s'

theorem cell_has {sc : Scope} {n : Nat} {x : Str} (h : sc.names.lookup x = some .cell) : ∃ c, (cellsFrom n sc.names []).lookup x = some c := by
  have q := PySem.W.cellsFrom_some sc.names n [] (.inl h)
  exact Option.isSome_iff_exists.mp q

theorem inv_start {CX : CXT} {P : Program} {w : World} {K : PySem.W.Frag} {mg : Str → Option Value} {base : Heap} {N ps : List Str} {qual : Str} {scope : Scope} {f : Addr} {cd : Value} {A : Around} {outer : List Env} {s s1 : Shared} {H : Hp} {E : XK} {us : List Value} {vs : List V}
    (S : FnScope N ps scope) (hd : A.handled = none) (e0 : Env0 P w K mg base A outer s H) (hl : vs.length = ps.length) (r : Vals vs us)
    (x : InCallC s s.heap.objs.size (bindL (envOfC qual scope s.heap.objs.size f cd).kindOf (ps.zip us) fun _ => none) (cellsFrom (s.heap.objs.size + 1) scope.names []) (bindC (envOfC qual scope s.heap.objs.size f cd).kindOf (ps.zip us) fun _ => none) s1) :
    Inv (cxOf CX P w K mg base N qual scope f cd A outer s H E) [] (start N vs) H s1 := by
  have hpl : ps.length ≤ N.length := by have := congrArg List.length S.pre; rw [List.length_take] at this; omega
  obtain ⟨h1, tk, rfl, hk⟩ := x.done
  have noA : ∀ b : Addr, b ∉ (cxOf CX P w K mg base N qual scope f cd A outer s H E).ex := fun b z => absurd (show b ∈ ([] : List Addr) from z) (by simp)
  refine ⟨⟨e0.mod, S.kind, rfl, rfl, Nat.le_refl _, fun y z c h1 h2 => ?_, fun y hy => ?_, fun y c _ h => ?_, fun _ => hd, Around.frames_deeper e0.frames, .inr ⟨rfl, rfl⟩, fun b z => absurd z (noA b), e0.bs, e0.bsz, fun b _ _ => noA b, fun b z => absurd z (noA b), e0.funs, e0.frf⟩,
    rfl, e0.bare, Un.kept hk, ⟨_, x.toInCall.ns, fun i y v h1 h2 h3 => ?_⟩, fun y c h => ⟨_, x.cell y c h⟩, e0.hok.fresh (Nat.le_refl _), fun y c h => ?_, fun p hp => absurd (show p ∈ ([] : List (Addr × Obj)) from hp) (by simp), e0.hok.kept hk, ?_⟩
  · exact name_of_addr x.apart (PySem.mem_of_lookup h1) (PySem.mem_of_lookup h2)
  · have hy : scope.names.lookup y = some .cell ∨ scope.names.lookup y = some .free := hy
    rcases hy with hy | hy
    · exact cell_has hy
    · exact absurd rfl (S.nofree _ (PySem.mem_of_lookup hy))
  · exact Nat.le_of_lt (x.above y c (PySem.mem_of_lookup h))
  · have hi : i < vs.length := by
      unfold start at h2
      by_cases hi : i < vs.length
      · exact hi
      · rw [List.getElem?_append_right (by simpa using hi)] at h2
        rw [List.getElem?_replicate] at h2
        split at h2 <;> cases h2
    have ha : vs[i]? = some v := by
      unfold start at h2
      rw [List.getElem?_append_left (by simpa using hi), List.getElem?_map] at h2
      cases e : vs[i]? with
      | none => rw [e] at h2; cases h2
      | some a => rw [e] at h2; cases h2; rfl
    obtain ⟨u, hu, rv⟩ := r.get ha
    have hp : ps[i]? = some y := by
      rw [← S.pre, List.getElem?_take_of_lt (by omega)]; exact h1
    have ndP : ps.Nodup := by rw [← S.pre]; exact S.nd.sublist (List.take_sublist _ _)
    refine ⟨u, rv, ?_⟩
    rcases S.par y (List.mem_of_getElem? hp) with k | k
    · exact .inl ⟨k, bindL_get ndP hp hu k⟩
    · obtain ⟨c, e⟩ := cell_has (n := s.heap.objs.size + 1) k
      refine .inr ⟨.inl k, c, e, ?_⟩
      have q := x.cell y c e
      rw [bindC_get ndP hp hu (by show scope.names.lookup y ≠ _; rw [k]; decide)] at q
      exact q
  · exact e0.hok.fresh (Nat.le_of_lt (x.above y c (PySem.mem_of_lookup h)))
  · unfold start
    show _ = N.length
    rw [List.length_append, List.length_map, List.length_replicate]
    omega

/-- THE RULE: a def (or a method) of the text, by its body. The body's reading t is chosen for each entry; it is run at the parameters' values -/
theorem fn_of {CX : CXT} {P : Program} {w : World} {K : PySem.W.Frag} {mg : Str → Option Value} {base : Heap} {k : Nat} {f : Addr} {name qual : Str} {params : Arguments} {body : List Stmt} {scope : Scope} {dV kV doc pm cdv ct oc : Value} {an od : Option Addr}
    {osl : Array (Option Value)} {N ps : List Str} {sp : Sp} (lk : K.lookup f = some ⟨oc, od, .func (PySem.W.fnOf name qual params body scope dV kV doc pm an cdv ct), osl⟩) (hcd : PySem.W.codeIn K cdv qual = true) (S : FnScope N ps scope)
    (len : ∀ vs H Q E, sp vs H Q E → vs.length = ps.length)
    (hbody : ∀ (A : Around) (outer : List Env) (s : Shared) (H : Hp) (vs : List V) (Q : VK) (E : XK), Room k (A.deeper (envOfC qual scope s.heap.objs.size f cdv)) → sp vs H Q E →
      ∃ t, PSs (cxOf CX P w K mg base N qual scope f cdv A outer s H E) body t ∧ t { nx := fun _ H' => Q .non H', rt := Q } (start N vs) H) :
    FnOk P w K mg base CX (k + 1) f (PySem.W.fnOf name qual params body scope dV kV doc pm an cdv ct) ps sp := by
  refine ⟨len, fun A outer s H args us vs Q E hr e0 hb r hsp => ?_⟩
  have hl := len _ _ _ _ hsp
  have KX : K.In s.heap := e0.mod.kin.keeps fun b o e => (e0.bs b o e).1
  have lim : s.heap.NoLimit := e0.mod.nolimit.keeps fun b o e => (e0.bs b o e).1
  have hkind : ∀ y ∈ ps.zip us, scope.names.lookup y.1 = some .local ∨ (scope.names.lookup y.1 = some .cell ∧ ((cellsFrom (s.heap.objs.size + 1) scope.names []).lookup y.1).isSome = true) := fun ⟨n, v⟩ hy => by
    rcases S.par n (List.of_mem_zip hy).1 with q | q
    · exact .inl q
    · exact .inr ⟨q, PySem.W.cellsFrom_some _ _ _ (.inl q)⟩
  refine codeAny_call_function hr.depth (KX _ _ lk) rfl S.co S.gen rfl (PySem.W.codeRec_of KX hcd) (hb _ _ _ _ ?_)
  refine wpAny_newFunctionEnv_cells S.kind hkind fun env he s1 x => ?_
  subst he
  refine ⟨lim.keeps x.toInCall.keep, codeAny_func ?_⟩
  obtain ⟨t, ht, hq⟩ := hbody A outer s H vs Q E (hr.deeper _) hsp
  have I : Inv (cxOf CX P w K mg base N qual scope f cdv A outer s H E) [] (start N vs) H s1 := inv_start S hr.hd e0 hl r x
  refine wpAny_mono (ht [] s1 (start N vs) H _ I hq) (fun fl s' hs => ?_) fun e s' hs => hs
  have fin : ∀ {σ' : St} {H' : Hp} {v : V} {u : Value}, Inv (cxOf CX P w K mg base N qual scope f cdv A outer s H E) [] σ' H' s' → RelV v u → Q v H' → CE outer P w H s Q u s' :=
    fun {σ' H' v u} J rv q => ⟨v, H', J.os, J.bare, J.base, J.hok, rv, q⟩
  cases fl with
  | ret u =>
    obtain ⟨v, σ', H', J, rv, q⟩ := hs
    exact fin J rv q
  | next =>
    obtain ⟨σ', H', J, q⟩ := hs
    exact fin (v := V.non) (u := Value.none) J rfl q
  | brk =>
    obtain ⟨_, _, _, q⟩ := hs
    exact False.elim q
  | cont =>
    obtain ⟨_, _, _, q⟩ := hs
    exact False.elim q
end L2

namespace L2
open PySem PySem.Spec PyProof.Rows
section
variable {X : Cx} {x : Str} {p pos : Pos} {e : Expr} {es : List Expr} {t : TA} {id T : String} {r : List V → Hp → VK → Prop}

def tCB (r : List V → Hp → VK → Prop) (t : TA) : TE := fun σ H Q => t σ H fun vs H1 => r vs H1 Q
/-- f(e, ..), f a built-in function -/
theorem pe_callB (hc : CallR X (.builtin id) r) (hg : Gl X x) (hm : X.mg x = none) (hv : bootBuiltins x = some (.builtin id)) (ha : PA X (e :: es) t) (hn : x ≠ "__name__" := by decide) (hdb : (x == ("__debug__" : Str)) = false := by decide)
    (he : starEach (e :: es) X.env = (false, eval e X.env) :: starEach es X.env := by rfl) (hpl : (backTo pos (starEach es X.env)).any (·.1) = false := by rfl) : PE X (.Call (.Name x p) (e :: es) [] pos) (tCB r t) := by
  intro pins s σ H Q I h
  refine wpAny_Call_Name_kw (ld_blt I hg hm hv ?_ hn hdb)
  exact PyProof.Rows.callWith_builtin1 (thn (ha pos pins s σ H _ I h) fun us s1 ⟨vs, H1, I1, r1, q1⟩ => hc pins s1 σ H1 vs us Q I1 r1 q1) he hpl
/-- T(e, ..), T a built-in type -/
theorem pe_callTy (hc : CallR X (.type T) r) (hg : Gl X x) (hm : X.mg x = none) (hv : bootBuiltins x = some (.type T)) (ha : PA X (e :: es) t) (hn : x ≠ "__name__" := by decide) (hdb : (x == ("__debug__" : Str)) = false := by decide)
    (he : starEach (e :: es) X.env = (false, eval e X.env) :: starEach es X.env := by rfl) (hpl : (backTo pos (starEach es X.env)).any (·.1) = false := by rfl) : PE X (.Call (.Name x p) (e :: es) [] pos) (tCB r t) := by
  intro pins s σ H Q I h
  refine wpAny_Call_Name_kw (ld_blt I hg hm hv ?_ hn hdb)
  exact PyProof.Rows.callWith_type1 (thn (ha pos pins s σ H _ I h) fun us s1 ⟨vs, H1, I1, r1, q1⟩ => hc pins s1 σ H1 vs us Q I1 r1 q1) he hpl
end
end L2

namespace HT
open PySem PyProof.Rows

section
open PySem.SeqAt
open PySem.AutoSeq1 (wpAny_loadPart')
open PySem.MeetsSeq PySem.MeetsSeq2 PySem.MeetsSeq3

end

section
variable {prog : Program} {w : World} {A : Around} {E : Value → Shared → Prop} {s : Shared}

/-! ### t[a:b], not the whole -/
/-- a slice's bound as a place among n (d where it is left out) -/
def sIx (n d : Nat) : Option Int → Nat
  | none => d
  | some v => if v < 0 then (v + (n : Int)).toNat else min v.toNat n
theorem sIx_nat (n d k : Nat) : sIx n d (some (k : Int)) = min k n := by
  show (if (k : Int) < 0 then ((k : Int) + (n : Int)).toNat else min (k : Int).toNat n) = min k n
  rw [if_neg (by omega), Int.toNat_natCast]
end
end HT

namespace L2
open PySem PySem.Spec PyProof.Rows

/-! ### the parts of a slice -/
abbrev TO := St → Hp → (Option Int → Hp → Prop) → Prop
/-- a slice's part (left out, or an int) -/
def PO (X : Cx) (e : Option Expr) (t : TO) : Prop :=
  ∀ (pins : List (Addr × Obj)) (s : Shared) (σ : St) (H : Hp) (Q : Option Int → Hp → Prop), Inv X pins σ H s → t σ H Q →
    wpAny (model X.prog X.w) X.A (evalPart e X.env) (fun u s' => ∃ o H', Inv X pins σ H' s' ∧ IsPart u o ∧ Q o H') X.xe s
def tNoPart : TO := fun _ H Q => Q none H
def tPart (t : TE) : TO := fun σ H Q => t σ H fun x H1 => ∃ i, x = .int i ∧ Q (some i) H1

theorem intsAre_of {ns : List Int} : ∀ {us : List Value}, Vals (ns.map V.int) us → IntsAre us ns := by
  induction ns with
  | nil => intro us r; rw [List.map_nil] at r; cases r; exact .nil
  | cons n ns ih =>
    intro us r
    rw [List.map_cons] at r
    cases r with
    | cons r1 r2 =>
      obtain ⟨t, e⟩ := r1
      subst e
      exact .cons n t (ih r2)

section
variable {X : Cx} {e : Expr} {te : TE} {lo hi : Option Expr} {tl th : TO} {pos p2 : Pos}

theorem po_none : PO X none tNoPart := by
  intro pins s σ H Q I h
  rw [evalPart_none]
  exact wpAny_pure ⟨none, H, I, .none, h⟩
theorem po_some (h : PE X e te) : PO X (some e) (tPart te) := by
  intro pins s σ H Q I hw
  rw [evalPart_some]
  refine thn (h pins s σ H _ I hw) fun u s1 ⟨x, H1, I1, r1, q1⟩ => ?_
  obtain ⟨i, rfl, q⟩ := q1
  obtain ⟨t, rfl⟩ := r1
  exact ⟨some i, H1, I1, .int i t, q⟩

/-- what a slice of a value is, by values: the slice object stands at sl -/
def SlR (X : Cx) (r : V → Option Int → Option Int → Hp → VK → Prop) : Prop :=
  ∀ (pins : List (Addr × Obj)) (s : Shared) (σ : St) (H : Hp) (x : V) (v vl vu : Value) (lo hi : Option Int) (sl : Addr) (Q : VK), Inv X pins σ H s → RelV x v → s.heap.IsSliceOf sl vl vu .none → IsPart vl lo → IsPart vu hi → r x lo hi H Q →
    ∃ T id, typeLookup (.type T) "__getitem__" = pure (some (.builtin id)) ∧ s.TypeIs v T ∧ wpAny (model X.prog X.w) X.A (getItem v (.ref sl)) (EP X pins σ Q) X.xe s
def tSl (r : V → Option Int → Option Int → Hp → VK → Prop) (te : TE) (tl th : TO) : TE := fun σ H Q => te σ H fun x H1 => tl σ H1 fun l H2 => th σ H2 fun u H3 => r x l u H3 Q
/-- a[lo:hi], any a -/
theorem pe_slice {r : V → Option Int → Option Int → Hp → VK → Prop} (hr : SlR X r) (he : PE X e te) (hl : PO X lo tl) (hu : PO X hi th) : PE X (.Subscript e (.Slice lo hi none p2) pos) (tSl r te tl th) := by
  intro pins s σ H Q I h
  refine Subscript_ (thn (he pins s σ H _ I h) fun v s1 ⟨x, H1, I1, r1, q1⟩ => ?_)
  refine wpAny_Slice (thn (hl pins s1 σ H1 _ I1 q1) fun vl s2 ⟨l, H2, I2, pl, q2⟩ => thn (hu pins s2 σ H2 _ I2 q2) fun vu s3 ⟨u, H3, I3, pu, q3⟩ => ?_)
  rw [evalPart_none]
  refine wpAny_pure ?_
  have I4 : Inv X pins σ H3 { s3 with heap := s3.heap.push { cls := .type "slice", data := .fields #[vl, vu, .none] } } := I3.kept (t' := s3.toks) fun b ob q => Heap.get?_push_of_some _ q
  obtain ⟨T, id, hT, ht, hg⟩ := hr pins { s3 with heap := s3.heap.push { cls := .type "slice", data := .fields #[vl, vu, .none] } } σ H3 x v vl vu l u s3.heap.objs.size Q I4 r1 (Heap.IsSliceOf.new ..) pl pu q3
  show wpAny (model X.prog X.w) X.A (subscriptTail e (.Slice lo hi none p2) v (.ref s3.heap.objs.size)) (EP X pins σ Q) X.xe { s3 with heap := s3.heap.push { cls := .type "slice", data := .fields #[vl, vu, .none] } }
  exact tail_any (ops := [.ref s3.heap.objs.size, v]) ht hT hg (by with_unfolding_all rfl)

/-- the items of xs[lo:hi] -/
def cutV (xs : List V) (lo hi : Option Int) : List V := (xs.drop (HT.sIx xs.length 0 lo)).take (HT.sIx xs.length xs.length hi - HT.sIx xs.length 0 lo)
theorem cutV_length (xs : List V) (lo hi : Option Int) : (cutV xs lo hi).length ≤ xs.length := by
  unfold cutV
  rw [List.length_take, List.length_drop]
  omega
/-! ### t < u, t + u -/
end
end L2

namespace L2
open PySem PySem.Spec PyProof.Rows

/-! ### places -/
/-- the place that an index of any sign means -/
def ixN (n : Nat) (i : Int) : Option Nat := if 0 ≤ i then (if i < n then some i.toNat else none) else if -(n : Int) ≤ i then some (i + n).toNat else none
def atI {α : Type} (xs : List α) (i : Int) : Option α := (ixN xs.length i).bind fun j => xs[j]?
theorem ixN_seq {n : Nat} {i : Int} {j : Nat} (h : ixN n i = some j) : seqIndex? i n = some j ∧ j < n ∧ -(n : Int) ≤ i ∧ i < n := by
  unfold ixN at h
  by_cases h0 : 0 ≤ i
  · rw [if_pos h0] at h
    by_cases h1 : i < n
    · rw [if_pos h1] at h
      have e : i.toNat = j := Option.some.inj h
      exact ⟨by rw [seqIndex_of h0 h1, e], by omega, by omega, h1⟩
    · rw [if_neg h1] at h; cases h
  · rw [if_neg h0] at h
    by_cases h1 : -(n : Int) ≤ i
    · rw [if_pos h1] at h
      have e : (i + n).toNat = j := Option.some.inj h
      exact ⟨by rw [seqIndex_neg (by omega) h1, e], by omega, h1, by omega⟩
    · rw [if_neg h1] at h; cases h
theorem atI_get {α : Type} {xs : List α} {i : Int} {v : α} (h : atI xs i = some v) : ∃ j, seqIndex? i xs.length = some j ∧ xs[j]? = some v ∧ j < xs.length ∧ -(xs.length : Int) ≤ i ∧ i < xs.length := by
  unfold atI at h
  cases e : ixN xs.length i with
  | none => rw [e] at h; cases h
  | some j =>
    rw [e] at h
    obtain ⟨h1, h2, h3, h4⟩ := ixN_seq e
    exact ⟨j, h1, h, h2, h3, h4⟩
theorem atI_nat {α : Type} {xs : List α} {j : Nat} {v : α} (h : xs[j]? = some v) : atI xs (j : Int) = some v := by
  have hj : j < xs.length := (List.getElem?_eq_some_iff.mp h).1
  have e : ixN xs.length (j : Int) = some j := by
    unfold ixN
    rw [if_pos (by omega), if_pos (by omega)]; simp
  unfold atI; rw [e]; exact h
/-! ### what may be subscripted -/
/-- what stands as an index of a plain subscript -/
def PlainIx (b : Expr) : Prop := ∀ o i, subscripted b false o i = operate [o, i] (getItem o i)
/-- a subscript by values -/
def IxR (X : Cx) (r : R2) : Prop :=
  ∀ (value slice : Expr) (pins : List (Addr × Obj)) (s : Shared) (σ : St) (H : Hp) (x y : V) (v u : Value) (Q : VK), Inv X pins σ H s → RelV x v → RelV y u → r x y H Q →
    subscripted slice false v u = operate [v, u] (getItem v u) → wpAny (model X.prog X.w) X.A (subscriptTail value slice v u) (EP X pins σ Q) X.xe s
/-- a call of a builtin's method by values: the receiver, the arguments -/
def MtR (X : Cx) (id : String) (r : V → List V → Hp → VK → Prop) : Prop :=
  ∀ (pins : List (Addr × Obj)) (s : Shared) (σ : St) (H : Hp) (x : V) (xs : List V) (v : Value) (us : List Value) (Q : VK), Inv X pins σ H s → RelV x v → Vals xs us → r x xs H Q →
    wpAny (model X.prog X.w) X.A (call (.builtin id) (v :: us)) (EP X pins σ Q) X.xe s
section
variable {X : Cx} {a b : Expr} {ta tb : TE} {pos : Pos}
/-- a[b] -/
theorem pe_ix {r : R2} (hr : IxR X r) (ha : PE X a ta) (hb : PE X b tb) (hs : PlainIx b) : PE X (.Subscript a b pos) (tOp r ta tb) := by
  intro pins s σ H Q I h
  exact Subscript_ (binT ha hb I h fun v u s2 x y H2 I2 rx ry q => hr a b pins s2 σ H2 x y v u Q I2 rx ry q (hs _ _))

def rIxL (K : PySem.W.Frag) : R2 := fun x y H Q => ∃ p xs i v, x = .ref p ∧ y = .int i ∧ SqL K H p xs ∧ atI xs i = some v ∧ Q v H
def rIxT (K : PySem.W.Frag) : R2 := fun x y H Q => ∃ p xs i v, x = .ref p ∧ y = .int i ∧ SqT K H p xs ∧ atI xs i = some v ∧ Q v H
theorem ix_list : IxR X (rIxL X.K) := by
  intro value slice pins s σ H x y v u Q I rx ry h hs
  obtain ⟨p, xs, i, z, rfl, rfl, hq, he, q⟩ := h
  cases rx
  obtain ⟨t, rfl⟩ := ry
  obtain ⟨its, r, pl, hz⟩ := I.list hq
  obtain ⟨j, h1, h2, h3, h4, h5⟩ := atI_get he
  obtain ⟨w, ew, rw'⟩ := r.get h2
  have hl := r.length
  have hn := line63
  have fin : EP X pins σ Q w s := ⟨z, H, I, rw', q⟩
  by_cases h0 : 0 ≤ i
  · have hj : i.toNat = j := by
      rw [seqIndex_of h0 h5] at h1
      exact Option.some.inj h1
    exact item_listR pl.isList h0 (by omega) (by rw [hj]; simpa using ew) fin hs
  · have hj : (i + (its.toArray.size : Int)).toNat = j := by
      rw [seqIndex_neg (by omega) h4] at h1
      rw [List.size_toArray, ← hl]
      exact Option.some.inj h1
    exact subscriptTail_builtinR (x := w) pl.isList.typeIs slot_list_getitem.lookup
      (wpAny_getItem_list_neg (Q := fun r s' => r = w ∧ EP X pins σ Q r s') pl.isList (by omega) (by rw [List.size_toArray] <;> omega) (by omega) (by rw [hj]; simpa using ew) ⟨rfl, fin⟩) hs
theorem ix_tup : IxR X (rIxT X.K) := by
  intro value slice pins s σ H x y v u Q I rx ry h hs
  obtain ⟨p, xs, i, z, rfl, rfl, hq, he, q⟩ := h
  cases rx
  obtain ⟨t, rfl⟩ := ry
  obtain ⟨its, r, pl, hz⟩ := I.tuple hq
  obtain ⟨j, h1, h2, h3, h4, h5⟩ := atI_get he
  obtain ⟨w, ew, rw'⟩ := r.get h2
  have hl := r.length
  have hn := line63
  have fin : EP X pins σ Q w s := ⟨z, H, I, rw', q⟩
  exact subscriptTail_builtinR (x := w) pl.typeIs slot_tuple_getitem.lookup
    (getItem_tuple (j := j) (Q := fun r s' => r = w ∧ EP X pins σ Q r s') pl (by omega) (by omega) (by rw [List.size_toArray, ← hl]; exact h1) (by simpa using ew) ⟨rfl, fin⟩) hs
/-! ### xs[i] = v, any sign -/
/-! ### slices -/
theorem slice_bounds (lo hi : Option Int) (n : Nat) : (sliceBounds lo hi none n).1 = ((HT.sIx n 0 lo : Nat) : Int) ∧ (sliceBounds lo hi none n).2.1 = ((HT.sIx n n hi : Nat) : Int) ∧ (sliceBounds lo hi none n).2.2 = 1 := by
  refine ⟨?_, ?_, rfl⟩
  · cases lo with
    | none => simp [sliceBounds, HT.sIx]
    | some i =>
      simp only [sliceBounds, HT.sIx, Option.getD_none, show (1 : Int) > 0 by decide, if_true]
      by_cases h : i < 0
      · simp only [h, if_true] <;> omega
      · simp only [h, if_false] <;> omega
  · cases hi with
    | none => simp [sliceBounds, HT.sIx]
    | some i =>
      simp only [sliceBounds, HT.sIx, Option.getD_none, show (1 : Int) > 0 by decide, if_true]
      by_cases h : i < 0
      · simp only [h, if_true] <;> omega
      · simp only [h, if_false] <;> omega
theorem slicePick_cut (its : List Value) (lo hi : Option Int) : slicePick its.toArray lo hi none = ((its.drop (HT.sIx its.length 0 lo)).take (HT.sIx its.length its.length hi - HT.sIx its.length 0 lo)).toArray := by
  obtain ⟨h1, h2, h3⟩ := slice_bounds lo hi its.toArray.size
  unfold slicePick
  rw [h1, h2, h3]
  simp only [sliceRange_one, pick_run, List.size_toArray] <;> rfl
/-- xs[lo:hi] of a list: a new list -/
def rSlL (K : PySem.W.Frag) : V → Option Int → Option Int → Hp → VK → Prop := fun x lo hi H Q => ∃ a xs, x = .ref a ∧ SqL K H a xs ∧ ∀ p, H p = none → Q (.ref p) (upd H p (.lst (cutV xs lo hi)))
theorem sl_list : SlR X (rSlL X.K) := by
  intro pins s σ H x v vl vu lo hi sl Q I rx hs pl pu h
  obtain ⟨a, xs, rfl, hx, q⟩ := h
  cases rx
  obtain ⟨its, r, ht, hz⟩ := I.list hx
  have hlen := r.length
  refine ⟨"list", _, slot_list_getitem.lookup, ht.isList.typeIs, ?_⟩
  refine wpAny_getItem_list_slice ht.isList hs pl pu .none (by simp) ?_ (by rw [List.size_toArray] <;> omega)
  rw [slicePick_cut, ← hlen]
  refine ⟨.ref s.heap.objs.size, _, I.laid (t' := s.toks) (o := .lst (cutV xs lo hi)) (fun b ob q => Heap.get?_push_of_some _ q) (Nat.le_refl _) ?_, rfl, q _ (I.hok.fresh (Nat.le_refl _))⟩
  exact ⟨Nat.le_trans (cutV_length xs lo hi) hz, _, 0, (r.drop (HT.sIx xs.length 0 lo)).take (HT.sIx xs.length xs.length hi - HT.sIx xs.length 0 lo), Heap.get?_push_size _ rfl⟩

/-! ### in, not in: flat items -/
/-! ### len, list(x), tuple(x) of any list or tuple that is read -/
theorem call_len_seq : CallR X (.builtin "len") (fun xs H Q => ∃ p ys, xs = [.ref p] ∧ (SqL X.K H p ys ∨ SqT X.K H p ys) ∧ Q (.int ys.length) H) := by
  intro pins s σ H xs us Q I r h
  obtain ⟨p, ys, rfl, hq, q⟩ := h
  obtain ⟨u, rfl, rx⟩ := vals1 r
  cases rx
  have hn := line63
  rcases hq with hq | hq
  · obtain ⟨its, r', pl, hz⟩ := I.list hq
    have hlen := r'.length
    exact Calls.call_len_list pl.isList (by simp only [List.size_toArray] <;> omega) ⟨.int ys.length, H, I.tok _, ⟨s.toks + 1, by rw [List.size_toArray, hlen]⟩, q⟩
  · obtain ⟨its, r', pl, hz⟩ := I.tuple hq
    have hlen := r'.length
    exact len_tuple pl (by simp only [List.size_toArray] <;> omega) ⟨.int ys.length, H, I.tok _, ⟨s.toks + 1, by rw [List.size_toArray, hlen]⟩, q⟩
theorem call_list_of : CallR X (.type "list") (fun xs H Q => ∃ p ys, xs = [.ref p] ∧ (SqL X.K H p ys ∨ SqT X.K H p ys) ∧ ∀ l, H l = none → Q (.ref l) (upd H l (.lst ys))) := by
  intro pins s σ H xs us Q I r h
  obtain ⟨p, ys, rfl, hq, q⟩ := h
  obtain ⟨u, rfl, rx⟩ := vals1 r
  cases rx
  have fin : ∀ (its : List Value), Vals ys its → ys.length ≤ sizeLine → ∀ (h' : Heap) (c' : Nat), (∀ b o', s.heap.get? b = some o' → h'.get? b = some o') →
      h'.get? s.heap.objs.size = some { cls := .type "list", dict := none, data := .seq its.toArray c', slots := #[] } → EP X pins σ Q (.ref s.heap.objs.size) { s with heap := h' } := fun its r' hz h' c' kp e =>
    ⟨.ref s.heap.objs.size, _, I.laid (t' := s.toks) kp (Nat.le_refl _) (show ObjOk X.prog X.w _ h' _ (.lst ys) from ⟨hz, its, c', r', e⟩), rfl, q _ (I.hok.fresh (Nat.le_refl _))⟩
  rcases hq with hq | hq
  · obtain ⟨its, r', pl, hz⟩ := I.list hq
    have hlen := r'.length
    obtain ⟨o, ho, hc, n, hd⟩ := pl.isList
    exact call_list_seq p (.inl rfl) ho hc hd (fun h' c' kp e => fin its r' hz h' c' kp e) (by simp only [List.size_toArray] <;> omega)
  · obtain ⟨its, r', pl, hz⟩ := I.tuple hq
    have hlen := r'.length
    obtain ⟨o, ho, hc, n, hd⟩ := pl
    exact call_list_seq p (.inr rfl) ho hc hd (fun h' c' kp e => fin its r' hz h' c' kp e) (by simp only [List.size_toArray] <;> omega)
/-! ### the call of a builtin's method: o.m(..) -/
/-- the value is of that builtin type -/
def tyV (K : PySem.W.Frag) (T : String) (x : V) (H : Hp) : Prop := match x with
  | .str _ => T = "str"
  | .int _ => T = "int"
  | .ref p => (T = "list" ∧ ∃ xs, SqL K H p xs) ∨ (T = "tuple" ∧ ∃ o, K.lookup p = some o ∧ o.cls = .type "tuple" ∧ o.dict = none) ∨
      (T = "dict" ∧ ((∃ kvs, H p = some (.dK kvs)) ∨ ∃ kvs, H p = some (.dT kvs))) ∨ (T = "set" ∧ ∃ S n, H p = some (.set S n))
  | _ => False
theorem tyV_is {pins : List (Addr × Obj)} {σ : St} {H : Hp} {s : Shared} {T : String} {x : V} {v : Value} (I : Inv X pins σ H s) (r : RelV x v) (ty : tyV X.K T x H) :
    s.TypeIs v T ∧ ∀ a, v = .ref a → ∃ ob, s.heap.get? a = some ob ∧ ob.dict = none := by
  cases x with
  | str z =>
    obtain ⟨t, rfl⟩ := r
    cases (show T = "str" from ty)
    exact ⟨typeIs_str s z t, fun _ e => nomatch e⟩
  | int i =>
    obtain ⟨t, rfl⟩ := r
    cases (show T = "int" from ty)
    exact ⟨typeIs_int s i t, fun _ e => nomatch e⟩
  | ref p =>
    cases r
    rcases ty with ⟨rfl, xs, hq⟩ | ⟨rfl, o, hk, hc, hd⟩ | ⟨rfl, hk⟩ | ⟨rfl, S, n, hk⟩
    · obtain ⟨its, _, pl, _⟩ := I.list hq
      refine ⟨pl.isList.typeIs, fun a e => ?_⟩
      cases e
      obtain ⟨o, n, e, c, hd, _⟩ := pl
      exact ⟨o, e, hd⟩
    · refine ⟨⟨o, I.kIn p o hk, hc⟩, fun a e => ?_⟩
      cases e
      exact ⟨o, I.kIn _ o hk, hd⟩
    · have z : ∃ o, s.heap.get? p = some o ∧ o.ExactDict := by
        rcases hk with ⟨kvs, hk⟩ | ⟨kvs, hk⟩
        · obtain ⟨_, _, _, _, o, _, _, e, ex, _⟩ := I.hok p _ hk
          exact ⟨o, e, ex⟩
        · obtain ⟨_, _, _, _, o, _, _, e, ex, _⟩ := I.hok p _ hk
          exact ⟨o, e, ex⟩
      obtain ⟨o, e, ex⟩ := z
      refine ⟨⟨o, e, ex.1⟩, fun a e2 => ?_⟩
      cases e2
      exact ⟨o, e, ex.2.1⟩
    · obtain ⟨o, _, _, _, e, ex, _⟩ := I.hok p _ hk
      refine ⟨⟨o, e, ex.1⟩, fun a e2 => ?_⟩
      cases e2
      exact ⟨o, e, ex.2.1⟩
  | _ => exact False.elim ty
def tBM (K : PySem.W.Frag) (T : String) (r : V → List V → Hp → VK → Prop) (to : TE) (t : TA) : TE := fun σ H Q => to σ H fun x H1 => tyV K T x H1 ∧ t σ H1 fun xs H2 => r x xs H2 Q
variable {o e : Expr} {es : List Expr} {to : TE} {t : TA} {name : Str} {apos cpos : Pos} {T id : String} {r : V → List V → Hp → VK → Prop}
theorem pe_bm (pa : PlainAttrs T) (slot : Slot T name id) (hty : typeOf (.builtin id) = pure (.type "method_descriptor")) (hm : MtR X id r) (ho : PE X o to) (ha : PA X (e :: es) t)
    (hbase : attributeBase o name X.env (eval o X.env) = eval o X.env := by rfl)
    (hfew : ((backTo cpos (starEach (e :: es) X.env)).all (fun x => !x.1) && (backToKw cpos (keywordEach [] X.env)).all (fun x => x.1.isSome)
      && decide ((e :: es).length + ([] : List Keyword).length + (if ([] : List Keyword).isEmpty then 0 else 1) < 30)) = true := by rfl)
    (hline : (apos.endLine == cpos.line) = true := by rfl) (hs : starEach (e :: es) X.env = (false, eval e X.env) :: starEach es X.env := by rfl) (hplain : (backTo cpos (starEach es X.env)).any (·.1) = false := by rfl) :
    PE X (.Call (.Attribute o name apos) (e :: es) [] cpos) (tBM X.K T r to t) := by
  intro pins s σ H Q I h
  refine wpAny_Call_method_late hbase hfew hline rfl (thn (ho pins s σ H _ I h) fun v s1 ⟨x, H1, I1, r1, ty, q1⟩ => ?_)
  obtain ⟨h1, h2⟩ := tyV_is I1 r1 ty
  refine ⟨T, id, pa, slot, hty, h1, h2, ?_⟩
  have hA := ha cpos pins s1 σ H1 _ I1 q1
  rw [hs] at hA ⊢
  refine Calls.callWith_builtin (by show (false || (backTo cpos (starEach es X.env)).any (·.1)) = false; rw [hplain] <;> rfl) (Calls.evalArgs_plain ?_)
  exact thn hA fun us s2 ⟨vs, H2, I2, r2, q2⟩ => hm pins s2 σ H2 x vs v us Q I2 r1 r2 q2
/- xs.append(e), list.index on a module's tuple .. are MtR facts of 06m -/
end
end L2

namespace L2
open PySem PySem.Spec PyProof.Rows

def MtM (X : Cx) (id : String) (r : V → List V → Hp → VK → Prop) : Prop :=
  ∀ (pins : List (Addr × Obj)) (s : Shared) (σ : St) (H : Hp) (x : V) (xs : List V) (v : Value) (us : List Value) (Q : VK), Inv X pins σ H s → RelV x v → Vals xs us → r x xs H Q →
    wpAny (model X.prog X.w) X.A (call (.builtin id) (v :: us)) (EP X pins σ Q) X.xe s

/-! ### lists of values -/
theorem Vals.one : ∀ {x : V} {us : List Value}, Vals [x] us → ∃ u, us = [u] ∧ RelV x u
  | _, _, .cons r .nil => ⟨_, rfl, r⟩
theorem Vals.reverse {xs : List V} {us : List Value} (h : Vals xs us) : Vals xs.reverse us.reverse := by
  induction h with
  | nil => exact .nil
  | cons r t ih => rw [List.reverse_cons, List.reverse_cons]; exact Vals.append ih (.cons r .nil)
section
variable {X : Cx} {pins : List (Addr × Obj)} {σ : St} {H : Hp} {s : Shared} {l b : Addr} {xs ys zs : List V}

/-! ### the two steps: a tracked list is rewritten, a new list is laid -/
theorem Inv.lset {its its' : List Value} {n : Nat} {f : Array Value → Array Value} {t' : Nat} (I : Inv X pins σ H s) (hH : H l = some (.lst xs))
    (e : s.heap.get? l = some { cls := .type "list", data := .seq its.toArray n }) (hf : f its.toArray = its'.toArray) (hv : Vals ys its') (hz : ys.length ≤ sizeLine) :
    Inv X pins σ (upd H l (.lst ys)) { s with heap := s.heap.update l (Obj.mapSeq f), toks := t' } := by
  have q := PySem.IsL.update e f
  rw [hf] at q
  refine I.write (x := l) (e := l) (by rw [hH]; exact trivial) (.inl rfl) (fun b' u hb hu => (Heap.get?_update_other s.heap (Obj.mapSeq f) (Ne.symm hb)).trans hu) ⟨_, q⟩ ?_
  exact ⟨hz, its', _, hv, q⟩
theorem Inv.lnew {its : List Value} {t' : Nat} (I : Inv X pins σ H s) (hv : Vals ys its) (hz : ys.length ≤ sizeLine) :
    Inv X pins σ (upd H s.heap.objs.size (.lst ys)) { s with heap := s.heap.push { cls := .type "list", data := .seq its.toArray }, toks := t' } :=
  I.laid (fun _ _ q => Heap.get?_push_of_some _ q) (Nat.le_refl _) ⟨hz, its, 0, hv, Heap.get?_push_size _ rfl⟩
theorem Inv.fresh (I : Inv X pins σ H s) : H s.heap.objs.size = none := I.hok.fresh (Nat.le_refl _)
theorem Inv.lstM (I : Inv X pins σ H s) (hH : H l = some (.lst xs)) : xs.length ≤ sizeLine ∧ ∃ (its : List Value) (n : Nat), Vals xs its ∧ xs.length = its.length ∧ s.heap.get? l = some { cls := .type "list", data := .seq its.toArray n } := by
  obtain ⟨z, its, n, r, e⟩ := I.hok l _ hH
  exact ⟨z, its, n, r, r.length, e⟩

end

section
variable {X : Cx}

/-! ### methods -/
def rAppend : V → List V → Hp → VK → Prop := fun x vs H Q => ∃ l xs y, x = .ref l ∧ vs = [y] ∧ H l = some (.lst xs) ∧ xs.length < sizeLine ∧ Q .non (upd H l (.lst (xs ++ [y])))
theorem mt_append : MtM X "list.append" rAppend := by
  intro pins s σ H x vs v us Q I rx rv h
  obtain ⟨l, xs, y, rfl, rfl, hH, hz, q⟩ := h
  cases rx
  obtain ⟨u, rfl, ru⟩ := rv.one
  obtain ⟨z, its, n, r, hl, e⟩ := I.lstM hH
  refine call_meets F.slot_list_append ⟨_, e, rfl⟩ F.entry_list_append (F.args_list_append_2 _ _) (PySem.list_append l its.toArray n u (by rw [List.size_toArray]; omega)) ⟨e, ?_⟩
  refine ⟨.non, _, I.lset (its' := its ++ [u]) hH e (by simp) (r.append (.cons ru .nil)) ?_, rfl, q⟩
  rw [List.length_append, List.length_singleton]
  omega

/-! ### list + list, list += list, list * int -/
def rCat : R2 := fun x y H Q => ∃ l b xs zs, x = .ref l ∧ y = .ref b ∧ H l = some (.lst xs) ∧ H b = some (.lst zs) ∧ xs.length + zs.length ≤ sizeLine ∧ ∀ p, H p = none → Q (.ref p) (upd H p (.lst (xs ++ zs)))
theorem op_cat : OpR X (binaryOp .Add) rCat := by
  intro pins s σ H x y v u Q I rx ry h
  obtain ⟨l, b, xs, zs, rfl, rfl, hH, hB, hz, q⟩ := h
  cases rx
  cases ry
  obtain ⟨z, its, n, r, hl, e⟩ := I.lstM hH
  obtain ⟨z2, its2, n2, r2, hl2, e2⟩ := I.lstM hB
  refine PySem.P.add_list e e2 ?_ (by rw [List.size_toArray, List.size_toArray]; omega)
  have ea : its.toArray ++ its2.toArray = (its ++ its2).toArray := by simp
  rw [ea]
  exact ⟨.ref _, _, I.lnew (t' := s.toks) (r.append r2) (by rw [List.length_append]; omega), rfl, q _ I.fresh⟩
/-! ### del xs[i] -/
end

/-! ### xs[a:b] = ys -/
section
variable {prog : Program} {w : World} {A : Around} {E : Value → Shared → Prop} {s : Shared}
set_option maxRecDepth 100000 in
end

section
variable {X : Cx}
end
end L2
namespace L2
open PySem PySem.Spec PyProof.Rows

/-! ### lists of pairs as tables -/
section
variable {κ : Type} [DecidableEq κ]
end


/-! ### a tracked dict, its keys ints and texts or tuples of these -/
section
variable {P : Program} {w : World} {H : Hp} {h : Heap} {a : Addr}
end

section
variable {X : Cx} {pins : List (Addr × Obj)} {σ : St} {H : Hp} {s : Shared} {a : Addr} {y v : V} {u r : Value} {o : Option V} {A : Around} {E : Value → Shared → Prop}

end

section
variable {X : Cx} {pins : List (Addr × Obj)} {σ : St} {H : Hp} {s : Shared} {a : Addr} {kvs : List (Key × V)} {k : Key} {u : Value} {A : Around} {E : Value → Shared → Prop}
end


/-! ### readings and rules -/
section
variable {X : Cx} {o i e value : Expr} {pos pos' tpos : Pos} {td ty tv : TE}
end


/-! ### displays -/
section
variable {X : Cx} {pos : Pos}
end

/-! ### methods -/
/-- a method call o.m(e) of a built-in, with one argument: what must be seen of the text -/
structure M1 (X : Cx) (o : Expr) (m : Str) (apos : Pos) (e : Expr) (cpos : Pos) : Prop where
  base : attributeBase o m X.env (eval o X.env) = eval o X.env
  few : ((backTo cpos (starEach [e] X.env)).all (fun x => !x.1) && (backToKw cpos (keywordEach [] X.env)).all (fun x => x.1.isSome)
    && decide (([e] : List Expr).length + ([] : List Keyword).length + (if ([] : List Keyword).isEmpty then 0 else 1) < 30)) = true
  line : (apos.endLine == cpos.line) = true
  trees : backTo cpos (starEach [e] X.env) = [(false, eval e X.env)]
structure M2 (X : Cx) (o : Expr) (m : Str) (apos : Pos) (e f : Expr) (cpos : Pos) : Prop where
  base : attributeBase o m X.env (eval o X.env) = eval o X.env
  few : ((backTo cpos (starEach [e, f] X.env)).all (fun x => !x.1) && (backToKw cpos (keywordEach [] X.env)).all (fun x => x.1.isSome)
    && decide (([e, f] : List Expr).length + ([] : List Keyword).length + (if ([] : List Keyword).isEmpty then 0 else 1) < 30)) = true
  line : (apos.endLine == cpos.line) = true
  trees : backTo cpos (starEach [e, f] X.env) = [(false, eval e X.env), (false, eval f X.env)]

section
variable {X : Cx} {pins : List (Addr × Obj)} {σ : St} {H : Hp} {s : Shared} {a : Addr} {y d : V} {u r : Value} {o : Option V} {A : Around} {E : Value → Shared → Prop}
end

section
variable {X : Cx} {o e f : Expr} {apos cpos : Pos} {td ty tx : TE}
end

/-! ### dict(d): a copy -/
section
variable {X : Cx} {pins : List (Addr × Obj)} {σ : St} {H : Hp} {s : Shared} {a : Addr} {kvs : List (Key × V)} {A : Around} {E : Value → Shared → Prop}
end


section
variable {X : Cx} {pins : List (Addr × Obj)} {σ : St} {H : Hp} {s : Shared} {a : Addr} {y : V} {u : Value} {A : Around} {E : Value → Shared → Prop}
end
end L2

namespace Att
open PySem PySem.W PySem.Calls PyProof.Rows

/-! ### the script -/
theorem ints_of_wellAll {P : Params} {h : Heap} : ∀ (ns : List Int) (vs : List Value), WellAll P h vs (ns.map WData.int) → IntsAre vs ns := by
  intro ns
  induction ns with
  | nil =>
    intro vs w
    rw [List.map_nil] at w
    cases w
    exact .nil
  | cons n ns ih =>
    intro vs w
    rw [List.map_cons] at w
    cases w with
    | cons a b =>
      cases a
      exact .cons _ _ (ih _ b)

theorem script_of {l : OpenLaw} {n : Nat} (hn : l.most = some n) {P : Params} {h : Heap} {args : List WData} {vals : List Value}
    (hpre : l.row.toRowW.claim.pre args = true) (hwl : WellAll P h vals args) :
    ∃ a vs ns, vals = [Value.ref a] ∧ args = [WData.list (ns.map WData.int)] ∧ h.get? a = some { cls := .type "list", data := .seq vs.toArray } ∧ IntsAre vs ns ∧ ns.length ≤ n := by
  have hsh : WShape.hasAll [] args [.list .int] = true := (pre_splitW hpre).1
  have hc : l.pre.holds [] { args := args } = true := (pre_splitW hpre).2
  obtain ⟨d, r, rfl, h1, h2⟩ := hasAllW_cons hsh
  obtain rfl := hasAllW_nil h2
  obtain ⟨xs, rfl, h3⟩ := hasW_list h1
  obtain ⟨ns, rfl⟩ := items_int h3
  have hlen : ns.length ≤ n := by
    unfold OpenLaw.pre at hc
    have h4 : (WTm.not (.lt (.lit (.int (n : Int))) (.len (.arg 0)))).holds [] { args := [.list (ns.map .int)] } = true := by
      have h4 := (holds_andW hc).1
      rw [hn] at h4
      exact h4
    have h5 := condW_of h4 (w_not (w_lt w_lit (w_len_list (w_arg rfl))))
    rw [List.length_map] at h5
    refine Nat.le_of_not_lt fun q => ?_
    have q' : (n : Int) < ((ns.length : Nat) : Int) := by omega
    first
      | (rw [decide_eq_true q'] at h5; exact absurd h5 (by decide))
      | (simp at h5; omega)
  cases hwl with
  | cons w1 w2 =>
    cases w2
    cases w1 with
    | list ho hall => exact ⟨_, _, ns, rfl, rfl, ho, ints_of_wellAll ns _ hall, hlen⟩

theorem post_true (l : OpenLaw) (args : List WData) : l.row.toRowW.claim.post args (.bool true) args = true :=
  postW_of (r := l.row.toRowW) (X := (true == true))
    (show WShape.has [] (.bool true) .bool = true by first | rfl | decide | simp [WShape.has, WShape.arms, WShape.armsAll])
    (show (WTm.eq .res (.lit (.bool true))).value [] { args := args, res := some (.bool true), after := args } = some (.bool (true == true)) from w_eq_bool (w_res rfl) w_lit) rfl

/-! ### the attachment: holds_open's last premise (the goal 'hc' behind k_head) from a wpAny of the law's body -/
/-- the same from a codeAny of the CALL (for a layer whose function contracts speak of calls) -/
theorem attach_call {l : OpenLaw} {n : Nat} {q : Program} {loose : List Str} {XP : (Str → Option Value) → Heap → Prop} {YP : World → Heap → Prop} {d : DefRec}
    (hn : l.most = some n) (hdf : d.params.defaults = [])
    (call : ∀ (w : World) (s₀ s₁ : Shared) (mg mb : Str → Option Value) (fa : Addr) (o : Obj) (pm cd doc : Value) (a : Addr) (vs : List Value) (ns : List Int),
      Ground q loose [] XP w s₀ mg mb s₁.heap → YP w s₁.heap →
      s₁.heap.get? fa = some o → o.data = .func (docDef d.name d.params d.body d.scope pm cd doc) → s₁.heap.CodeRec cd d.name → mg d.name = some (.ref fa) →
      s₁.heap.get? a = some { cls := .type "list", data := .seq vs.toArray } → IntsAre vs ns → ns.length ≤ n → s₁.gens = #[] →
      codeAny (model l.prog w) callerA (.call (.ref fa) ⟨[.ref a], []⟩) (fun r s' => r = .ok (.ret (.bool true)) ∧ OldK s₁.heap s'.heap ∧ s'.os = s₁.os ∧ AllBare s'.gens) s₁) :
    WalkO q loose XP YP l.row.toRowW d [] (fun f vs => PySem.call f vs) := by
  intro w s₀ s₁ mg mb G Y fa o pm cd doc dV kV ho hd hcd hD hmg hg args vals as hpre hlay hrd hwl hlo
  obtain rfl : dV = .none := Dflts.none hD hdf
  obtain rfl : kV = .none := Dflts.noKw hD
  obtain ⟨a, vs, ns, rfl, rfl, hobj, hints, hlen⟩ := script_of hn hpre hwl
  refine enter_call (codeAny_mono (call w s₀ s₁ mg mb fa o pm cd doc a vs ns G Y ho (fd_plain hd) hcd hmg hobj hints hlen hg) fun r s' hq => ?_)
  obtain ⟨rfl, h2, h3, h4⟩ := hq
  exact ⟨.inl ⟨.bool true, .bool true, [], rfl, fun _ => rfl, .bool true, post_true l _, fun _ => ⟨List.Pairwise.nil, fun _ hm => (nomatch hm)⟩⟩, h2, h3, h4⟩

/-! ### rules over ANY heap (no ledger) from facts about the written part K: the library's own take a ledger (News) for what they write -/
section
variable {prog : Program} {w : World} {A : Around} {E : Value → Shared → Prop} {s : Shared} {K : Frag}

/-! the whole heap as the ledger: makes every rule that writes through a ledger a rule over any heap -/
end
end Att

namespace L2
open PySem PySem.Spec PyProof.Rows

theorem vals_ints : ∀ {vs : List Value} {ns : List Int}, IntsAre vs ns → Vals (ns.map V.int) vs
  | _, _, .nil => .nil
  | _, _, .cons n t h => .cons ⟨t, rfl⟩ (vals_ints h)

/-- nothing is tracked but the script, known to the object (or it is an object of the module) -/
def Only (H : Hp) : Prop := ∀ b, H b = none ∨ ∃ o xs, H b = some (.frz o (.lst xs))

/-- THE HEAD: the law's promise, at the heap behind the top. F, the promise of the law's def, may use that base is part of the heap (so K.In base, base.Ns mainGlobals mg stand in Mod) -/
theorem law_call {P : Program} {w : World} {K : PySem.W.Frag} {mg mb : Str → Option Value} {CX : CXT} {k : Nat} {fa a : Addr} {fd : FuncData} {x : Str} {sp : Sp} {s₁ : Shared} {vs : List Value} {ns : List Int}
    (KX : K.In s₁.heap) (hns : s₁.heap.Ns mainGlobals mg) (hb : s₁.heap.Ns builtinsNs mb) (hbb : ∀ x : Str, x ≠ "__name__" → mb x = bootBuiltins x) (hlim : s₁.heap.NoLimit) (hg : s₁.gens = #[])
    (ha : s₁.heap.get? a = some { cls := .type "list", data := .seq vs.toArray }) (hi : IntsAre vs ns) (hl : ns.length ≤ sizeLine) (hr : Room k callerA)
    (F : ∀ base : Heap, K.In base → base.Ns mainGlobals mg → FnOk P w K mg base CX k fa fd [x] sp) (hbind : ∀ (s : Shared) (u : Value), BindsTo s fd ⟨[u], []⟩ [(x, u)])
    (hsp : ∀ H : Hp, Only H → SqL K H a (ns.map V.int) → sp [.ref a] H (fun v _ => v = .bl true) fun _ _ _ => False)
    (hCX : ∀ H e s', CX [] H s₁ (fun _ _ _ => False) e s' → False) :
    codeAny (model P w) callerA (.call (.ref fa) ⟨[.ref a], []⟩) (fun r s' => r = .ok (.ret (.bool true)) ∧ OldK s₁.heap s'.heap ∧ s'.os = s₁.os ∧ AllBare s'.gens) s₁ := by
  have rv := vals_ints hi
  have lenV := hi.length
  -- from an abstract heap in which nothing but the script may be tracked
  have core : ∀ H : Hp, Only H → SqL K H a (ns.map V.int) → HOk P w H s₁.heap → (∀ b, H b ≠ none → b = a) → (H a ≠ none → K.lookup a = none) →
      codeAny (model P w) callerA (.call (.ref fa) ⟨[.ref a], []⟩) (fun r s' => r = .ok (.ret (.bool true)) ∧ OldK s₁.heap s'.heap ∧ s'.os = s₁.os ∧ AllBare s'.gens) s₁ := by
    intro H hO hS hok hA hK
    have base_of : ∀ {b : Addr} {o : Obj}, s₁.heap.get? b = some o → H b = none → (hidT s₁.heap H).get? b = some o := fun e n => hidT_get e n
    have noA : ∀ {b : Addr} {o : Obj} {es : Array DictEntry} {ep : Nat}, s₁.heap.get? b = some o → o.data = .dict es ep → H b = none := fun {b o es ep} e d => by
      cases q : H b with
      | none => rfl
      | some u =>
        have e' : b = a := hA b (by rw [q]; simp)
        subst e'
        rw [ha] at e; cases e
        have d' : Data.seq vs.toArray _ = Data.dict es ep := d
        cases d'
    have nsK : ∀ {b : Addr} {m : Str → Option Value}, s₁.heap.Ns b m → (hidT s₁.heap H).Ns b m := fun {b m} ⟨o, es, ep, e, d, r⟩ => ⟨o, es, ep, base_of e (noA e d), d, r⟩
    have hKb : K.In (hidT s₁.heap H) := fun b o e => base_of (KX b o e) (by
      cases q : H b with
      | none => rfl
      | some u =>
        have e' : b = a := hA b (by rw [q]; simp)
        subst e'
        rw [hK (by rw [q]; simp)] at e; cases e)
    have hM : Mod K mg (hidT s₁.heap H) := ⟨hKb, nsK hns, ⟨mb, nsK hb, hbb⟩, let ⟨mc, h1, h2⟩ := hlim; ⟨mc, nsK h1, h2⟩⟩
    have e0 : Env0 P w K mg (hidT s₁.heap H) callerA [] s₁ H := ⟨rfl, hM, fun b o e => of_hidT e, Nat.le_of_eq (hidT_size _ _), trivial, fun b hb => absurd (show b ∈ ([] : List Addr) from hb) (by simp), hok, .of_eq hg⟩
    refine codeAny_mono ((F _ hKb (nsK hns)).run callerA [] s₁ H ⟨[.ref a], []⟩ [.ref a] [.ref a] _ _ hr e0 (hbind s₁ (.ref a)) (.cons rfl .nil) (hsp H hO hS)) fun r s' h => ?_
    cases r with
    | error e => exact (hCX H e s' h).elim
    | ok fl =>
      cases fl with
      | next => exact False.elim h
      | brk => exact False.elim h
      | cont => exact False.elim h
      | ret u =>
        obtain ⟨v, H', os, bare, un, hok', r', q⟩ := h
        have q' : v = .bl true := q
        subst q'
        obtain rfl : u = Value.bool true := r'
        refine ⟨rfl, OldK.of_keep fun b o e => ?_, os, bare⟩
        cases q : H b with
        | none => exact un.keep b o e q (by intro z; exact absurd (show b ∈ ([] : List Addr) from z) (by simp)) (by simp)
        | some u =>
          rcases hO b with z | ⟨ob, xs, z⟩
          · rw [q] at z; cases z
          · have z2 := un.frzs b ob _ z
            obtain ⟨e1, _⟩ := hok b _ z
            obtain ⟨e2, _⟩ := hok' b _ z2
            rw [e] at e1; cases e1
            exact e2
  cases hk : K.lookup a with
  | some o =>
    -- the script is one of the module's own objects
    have e := KX a o hk
    rw [ha] at e
    cases e
    refine core (fun _ => none) (fun _ => .inl rfl) (.inr ⟨_, vs.toArray, _, hk, rfl, rfl, rfl, by rw [List.size_toArray, lenV]; exact hl, by simpa using rv⟩) (fun b u z => by have z' : (none : Option HO) = some u := z; cases z') (fun b z => absurd rfl z) fun z => absurd rfl z
  | none =>
    refine core (fun b => if b = a then some (.frz { cls := .type "list", data := .seq vs.toArray } (.lst (ns.map V.int))) else none) (fun b => ?_) (.inl (.inr ⟨{ cls := .type "list", data := .seq vs.toArray }, if_pos rfl⟩)) (fun b u z => ?_) (fun b z => ?_) fun _ => hk
    · by_cases hb : b = a
      · exact .inr ⟨_, _, if_pos hb⟩
      · exact .inl (if_neg hb)
    · by_cases hb : b = a
      · have z' := (if_pos hb).symm.trans z
        cases z'
        subst hb
        exact ⟨ha, by rw [List.length_map]; exact hl, vs, _, rv, ha⟩
      · have z' := (if_neg hb).symm.trans z
        cases z'
    · by_cases hb : b = a
      · exact hb
      · exact absurd (if_neg hb) z
end L2

namespace L2
open PySem PySem.Spec PyProof.Rows

/-- the goal that k_head leaves (case hc), from the law's promise. F gives the function object fd (K's own) once, then the promise over every base -/
theorem walk_of {l : PySem.W.OpenLaw} {n k : Nat} {q : Program} {loose : List Str} {XP : (Str → Option Value) → Heap → Prop} {YP : World → Heap → Prop} {d : DefRec} {K : Params → PySem.W.Frag} {CX : World → CXT} {sp : World → Sp} {x : Str}
    (hn : l.most = some n) (hn2 : n ≤ sizeLine) (hdf : d.params.defaults = []) (hr : Room k callerA)
    (hY : ∀ (w : World) (h : Heap), YP w h → (K w.params).In h)
    (F : ∀ (w : World) (mg : Str → Option Value) (fa : Addr) (h : Heap), (K w.params).In h → h.Ns mainGlobals mg → mg d.name = some (.ref fa) →
      ∃ fd : FuncData, (∀ (s : Shared) (u : Value), BindsTo s fd ⟨[u], []⟩ [(x, u)]) ∧
        ∀ base : Heap, (K w.params).In base → base.Ns mainGlobals mg → FnOk l.prog w (K w.params) mg base (CX w) k fa fd [x] (sp w))
    (hsp : ∀ (w : World) (H : Hp) (a : Addr) (ns : List Int), ns.length ≤ n → Only H → SqL (K w.params) H a (ns.map V.int) → sp w [.ref a] H (fun v _ => v = .bl true) fun _ _ _ => False)
    (hCX : ∀ (w : World) (H : Hp) (s : Shared) (e : Value) (s' : Shared), CX w [] H s (fun _ _ _ => False) e s' → False) :
    PySem.W.WalkO q loose XP YP l.row.toRowW d [] (fun f vs => PySem.call f vs) := by
  refine Att.attach_call hn hdf fun w s₀ s₁ mg mb fa o pm cd doc a vs ns G Y ho hd hcd hmg hobj hints hlen hg => ?_
  have KX := hY w _ Y
  obtain ⟨fd, hb, hF⟩ := F w mg fa _ KX G.T.g hmg
  exact law_call KX G.T.g G.T.b G.T.builtins G.T.nolimit hg hobj hints (Nat.le_trans hlen hn2) hr hF hb (fun H hO hS => hsp w H a ns hlen hO hS) fun H e s' => hCX w H s₁ e s'
end L2



/-! SHORT WORDS over the layer: a def of the text, its body, what a loop and a test want. -/
namespace L2
open PySem PySem.Spec PyProof.Rows

/-! ### the text by places -/
def defArgs (s : Stmt) : Arguments := match s with
  | .FunctionDef _ a _ _ _ _ _ _ _ _ => a
  | _ => { posonlyargs := [], args := [], vararg := none, kwonlyargs := [], kw_defaults := [], kwarg := none, defaults := [] }
def defBody (s : Stmt) : List Stmt := match s with
  | .FunctionDef _ _ b _ _ _ _ _ _ _ => b
  | _ => []
def defScope (s : Stmt) : Scope := match s with
  | .FunctionDef _ _ _ _ _ _ sc _ _ _ => sc
  | _ => { kind := .function, names := [], isGenerator := false, isCoroutine := false }

/-! ### no exception leaves a def -/
abbrev E0 : XK := fun _ _ _ => False
/-! ### a def (or method) of the text as it stands behind the top -/
structure Fun (K : PySem.W.Frag) (x qual : Str) (st : Stmt) (f : Addr) (fd : FuncData) : Prop where
  ex : ∃ (oc : Value) (od : Option Addr) (kV doc pm : Value) (an : Option Addr) (cdv ct : Value) (osl : Array (Option Value)),
    fd = PySem.W.fnOf x qual (defArgs st) (defBody st) (defScope st) .none kV doc pm an cdv ct ∧ K.lookup f = some ⟨oc, od, .func fd, osl⟩ ∧ PySem.W.codeIn K cdv qual = true
  kp : PySem.W.keepIn K (.ref f) = true
section
variable {P : Program} {w : World} {K : PySem.W.Frag} {mg : Str → Option Value} {base : Heap}
/-- how its arguments bind (no defaults): h is «fun _ _ _ _ _ _ us hl => match us, hl with | [_, _], _ => rfl», one _ a parameter -/
theorem Fun.binds {x qual : Str} {st : Stmt} {f : Addr} {fd : FuncData} {ps : List Str} (F : Fun K x qual st f fd)
    (h : ∀ (kV doc pm : Value) (an : Option Addr) (cdv ct : Value) (us : List Value), us.length = ps.length → bindArgs (PySem.W.fnOf x qual (defArgs st) (defBody st) (defScope st) .none kV doc pm an cdv ct) ⟨us, []⟩ = pure (ps.zip us)) : Binds K fd ps [] := by
  obtain ⟨oc, od, kV, doc, pm, an, cdv, ct, osl, rfl, lk, hcd⟩ := F.ex
  exact .all (h kV doc pm an cdv ct)
theorem fun_mk {x qual : Str} {st : Stmt} {f : Addr} {oc : Value} {od an : Option Addr} {osl : Array (Option Value)} {kV doc pm cdv ct : Value} (l : K.lookup f = some ⟨oc, od, .func (PySem.W.fnOf x qual (defArgs st) (defBody st) (defScope st) .none kV doc pm an cdv ct), osl⟩)
    (c : PySem.W.codeIn K cdv qual = true) (k : PySem.W.keepIn K (.ref f) = true) : Fun K x qual st f (PySem.W.fnOf x qual (defArgs st) (defBody st) (defScope st) .none kV doc pm an cdv ct) := ⟨⟨oc, od, kV, doc, pm, an, cdv, ct, osl, rfl, l, c⟩, k⟩
end
theorem small1000 {n : Nat} (h : n ≤ 1000) : n < sizeLine := Nat.lt_of_le_of_lt h (by decide)

/-! ### expressions in short: the name that stands in the i-th slot -/
section
variable {X : Cx}
theorem pv (i : Nat) {x : Str} {pos : Pos} (hN : X.N[i]? = some x := by rfl) (hv : Vis X.env.scope x := by first | exact Or.inl rfl | exact Or.inr (Or.inl rfl) | exact Or.inr (Or.inr rfl)) (hd : (x == ("__debug__" : Str)) = false := by decide)
    (hcd : (x == ("__classdict__" : Str)) = false := by decide) : PE X (.Name x pos) (tVar i) := pe_var hN hv hd hcd
end

/-! ### tests -/
theorem iteF {A B : Prop} (h : B) : if false = true then A else B := by
  rw [if_neg Bool.false_ne_true]
  exact h
theorem iteT {A B : Prop} (h : A) : if true = true then A else B := by
  rw [if_pos rfl]
  exact h
/-! ### heaps -/
/-- all that was tracked is as it was -/
def Same (H H' : Hp) : Prop := ∀ b o, H b = some o → H' b = some o
theorem Same.refl (H : Hp) : Same H H := fun _ _ h => h
theorem Same.trans {H H1 H2 : Hp} (a : Same H H1) (b : Same H1 H2) : Same H H2 := fun c o h => b c o (a c o h)
/-! ### a dict's pairs: keys that differ -/
section
variable {κ : Type} [DecidableEq κ]
end
end L2


set_option Elab.async false
set_option linter.all false
set_option maxRecDepth 100000
set_option maxHeartbeats 4000000
/-! Refusals over the hand layer: raise, a call that raises, try with one except clause of an own class. -/
namespace L2
open PySem PySem.Spec PyProof.Rows

section
variable {P : Program} {w : World} {H H' : Hp} {h h' : Heap} {a : Addr} {o : HO}
/-- what is tracked is held by a heap that lacks untracked objects alone -/
theorem HOk.lean (x : HOk P w H h) (k : ∀ b u, H b ≠ none → h.get? b = some u → h'.get? b = some u) : HOk P w H h' := fun b u e =>
  (x b u e).stay (fun c v hc q => k c v (by
    rcases hc with rfl | hc
    · rw [e]; simp
    · rw [hc]; simp) q) (fun _ q => q) fun _ _ q => q
end

/-- an exception e of class cls flies behind a call -/
structure Flies (P : Program) (w : World) (outer : List Env) (H H' : Hp) (s s' : Shared) (e : Addr) (cls : Value) : Prop where
  os : s'.os = s.os
  bare : AllBare s'.gens
  un : Un (frs outer) [] H H' s.heap s'.heap
  fly : ∃ B a0, Heap.FlyingW B outer e cls a0 s'.heap ∧ HOk P w H' B ∧ (∀ b o, s.heap.get? b = some o → H b = none → b ∉ frs outer → B.get? b = some o) ∧
    ∀ b o, s.heap.get? b = some o → b ∉ frs outer → ∃ o', B.get? b = some o'
/-- how an exception lies behind a call -/
def CX1 (P : Program) (w : World) : CXT := fun outer H s E u s' => ∃ e cls H', u = .ref e ∧ Flies P w outer H H' s s' e cls ∧ E cls none H'

section
variable {X : Cx} {pins : List (Addr × Obj)} {σ : St} {H H' : Hp} {s s' : Shared} {e : Addr} {cls : Value}
theorem Flies.inv (f : Flies X.prog X.w X.stack H H' s s' e cls) (I : Inv X pins σ H s) : Inv X pins σ H' s' := by
  obtain ⟨B, a0, fl, hB, _, _⟩ := f.fly
  exact I.call' (ch := []) f.os f.un (hB.kept fl.1) f.bare (fun b z => absurd z (by simp))
theorem Inv.nst (I : Inv X pins σ H s) {b : Addr} {o : Obj} (q : X.s₀.heap.get? b = some o) (hb : b ∉ X.fs) : b ∉ frs X.stack := fun z => by
  rcases List.mem_cons.mp (I.stkSub b z) with y | y
  · exact absurd (Nat.lt_of_lt_of_le (Heap.lt_size q) I.ok.above) (by rw [y]; exact Nat.lt_irrefl _)
  · exact hb y
/-- the exception leaves this frame -/
theorem Flies.leaves {M : Model} {Q : Unit → Shared → Prop} {E : Value → Shared → Prop} (f : Flies X.prog X.w X.stack H H' s s' e cls) (I : Inv X pins σ H s)
    (hs : X.stack = X.env :: X.outer) (hf : X.env.frame = some X.env.locals) (hx : X.ex = [])
    (hQ : ∀ s'', Flies X.prog X.w X.outer X.H₀ H' X.s₀ s'' e cls → Q () s'') : wpAny M X.A (leaving X.env (.ref e)) Q E s' := by
  have J := f.inv I
  obtain ⟨B, a0, fl, hB, kB, tB⟩ := f.fly
  rw [hs] at fl
  have nx : ∀ b : Addr, b ∉ X.ex := fun b => by rw [hx]; simp
  refine wpAny_leaves_onW (by rw [I.ok.frames, hs]) hf fl fun h' fl' up => hQ _ ?_
  have slot : ∀ b o, X.s₀.heap.get? b = some o → b ∈ X.fs → ∃ sl, h'.get? b = some { o with slots := sl } := fun b o q hb => by
    obtain ⟨sl, e1⟩ := J.base.slot b o q (I.ok.frf b hb) hb (nx b)
    obtain ⟨_, o', ho', hn⟩ := J.funs.mem hb
    rw [e1] at ho'
    cases ho'
    obtain ⟨sl', e2⟩ := up b _ e1 hn
    exact ⟨sl', e2⟩
  have keepB : ∀ b o, X.s₀.heap.get? b = some o → X.H₀ b = none → b ∉ X.fs → B.get? b = some o := fun b o q n hb =>
    kB b o (I.base.keep b o q n hb (nx b)) (I.base.free b o q n (nx b)) (I.nst q hb)
  have thereB : ∀ b o, X.s₀.heap.get? b = some o → b ∉ X.fs → ∃ o', B.get? b = some o' := fun b o q hb => by
    obtain ⟨o1, e1⟩ := I.base.there b o q (nx b)
    exact tB b o1 e1 (I.nst q hb)
  refine ⟨J.os, J.bare, ⟨fun b o q n hb _ => fl'.1 b o (keepB b o q n hb), fun b o q _ hb _ => slot b o q hb, fun b o q n _ => J.base.free b o q n (nx b), fun b o q _ => ?_, J.base.tups, J.base.frzs, J.base.tbls⟩,
    B, a0, fl', hB, keepB, thereB⟩
  by_cases hb : b ∈ X.fs
  · obtain ⟨sl, e2⟩ := slot b o q hb
    exact ⟨_, e2⟩
  · obtain ⟨o1, e1⟩ := thereB b o q hb
    exact ⟨o1, fl'.1 b o1 e1⟩
/-- one that was made here leaves this frame -/
theorem made_leaves {M : Model} {Q : Unit → Shared → Prop} {E : Value → Shared → Prop} {h1 : Heap} {vs : List Value} (I : Inv X pins σ H s) (mk : Heap.MadeExcOf s.heap h1 e cls vs)
    (hs : X.stack = X.env :: X.outer) (hf : X.env.frame = some X.env.locals) (hx : X.ex = [])
    (hQ : ∀ s'', Flies X.prog X.w X.outer X.H₀ H X.s₀ s'' e cls → Q () s'') : wpAny M X.A (leaving X.env (.ref e)) Q E { s with heap := h1 } := by
  have nx : ∀ b : Addr, b ∉ X.ex := fun b => by rw [hx]; simp
  have hid : ∀ b o, s.heap.get? b = some o → b ∉ frs X.stack → (PySem.W.hideAll s.heap (frs X.stack)).get? b = some o := fun b o q n => PySem.W.hideAll_get _ q n
  have FF : s.heap.FunFrames (PySem.W.hideAll s.heap (frs X.stack)) X.stack :=
    PySem.W.funFrames_hide I.stack fun env he a ha => List.mem_filterMap.mpr ⟨env, he, ha⟩
  have hB : HOk X.prog X.w H (PySem.W.hideAll s.heap (frs X.stack)) := I.hok.lean fun b u n q => hid b u q fun z => n (I.stkFree b z)
  have sub : ∀ b o, (PySem.W.hideAll s.heap (frs X.stack)).get? b = some o → s.heap.get? b = some o := fun b o q => PySem.W.of_hideAll _ q
  generalize PySem.W.hideAll s.heap (frs X.stack) = B at *
  rw [hs] at FF
  refine wpAny_leaves_madeW (s := { s with heap := h1 }) (by rw [I.ok.frames, hs]) hf sub FF mk fun h' t fl' _ _ up => hQ _ ?_
  have slot : ∀ b o, X.s₀.heap.get? b = some o → b ∈ X.fs → ∃ sl, h'.get? b = some { o with slots := sl } := fun b o q hb => by
    obtain ⟨sl, e1⟩ := I.base.slot b o q (I.ok.frf b hb) hb (nx b)
    obtain ⟨_, o', ho', hn⟩ := I.funs.mem hb
    rw [e1] at ho'
    cases ho'
    obtain ⟨sl', e2⟩ := up b _ (mk.keeps _ _ e1) hn
    exact ⟨sl', e2⟩
  have keepB : ∀ b o, X.s₀.heap.get? b = some o → X.H₀ b = none → b ∉ X.fs → B.get? b = some o := fun b o q n hb =>
    hid b o (I.base.keep b o q n hb (nx b)) (I.nst q hb)
  have thereB : ∀ b o, X.s₀.heap.get? b = some o → b ∉ X.fs → ∃ o', B.get? b = some o' := fun b o q hb => by
    obtain ⟨o1, e1⟩ := I.base.there b o q (nx b)
    exact ⟨o1, hid b o1 e1 (I.nst q hb)⟩
  refine ⟨I.os, I.bare, ⟨fun b o q n hb _ => fl'.1 b o (keepB b o q n hb), fun b o q _ hb _ => slot b o q hb, fun b o q n _ => I.base.free b o q n (nx b), fun b o q _ => ?_, I.base.tups, I.base.frzs, I.base.tbls⟩,
    _, _, fl', hB, keepB, thereB⟩
  by_cases hb : b ∈ X.fs
  · obtain ⟨sl, e2⟩ := slot b o q hb
    exact ⟨_, e2⟩
  · obtain ⟨o1, e1⟩ := thereB b o q hb
    exact ⟨o1, fl'.1 b o1 e1⟩
end

/-! ### a call whose wish about exceptions knows the frame -/
abbrev XS := St → XK
def PassesS (CX : CXT) (X : Cx) (E : XS) : Prop := ∀ (pins : List (Addr × Obj)) (σ : St) (H : Hp) (s : Shared) (e : Value) (s' : Shared), Inv X pins σ H s → CX X.stack H s (E σ) e s' → X.xe e s'
/-- an exception that is made in this body reaches what is wanted -/
def Raises (X : Cx) (E : XS) : Prop := ∀ (pins : List (Addr × Obj)) (σ : St) (H : Hp) (s : Shared) (h1 : Heap) (e : Addr) (cls : Value) (vs : List Value), Inv X pins σ H s → Heap.MadeExcOf s.heap h1 e cls vs → E σ cls none H → X.xe (.ref e) { s with heap := h1 }
theorem pass_none {P : Program} {w : World} {X : Cx} : PassesS (CX1 P w) X (fun _ => E0) := fun _ _ _ _ _ _ _ ⟨_, _, _, _, _, z⟩ => False.elim z
section
variable {P : Program} {w : World} {K : PySem.W.Frag} {mg : Str → Option Value} {base : Heap} {N : List Str} {qual : Str} {scope : Scope} {f : Addr} {cd : Value} {A : Around} {outer : List Env} {s : Shared} {H : Hp} {E : XK}
theorem pass_on : PassesS (CX1 P w) (cxOf (CX1 P w) P w K mg base N qual scope f cd A outer s H E) (fun _ => E) := by
  rintro pins σ H1 s1 u s' I ⟨e, cls, H', rfl, fl, q⟩
  exact fl.leaves I rfl rfl rfl fun s'' f'' => ⟨e, cls, H', rfl, f'', q⟩
theorem raise_on : Raises (cxOf (CX1 P w) P w K mg base N qual scope f cd A outer s H E) (fun _ => E) := by
  intro pins σ H1 s1 h1 e cls vs I mk q
  exact made_leaves I mk rfl rfl rfl fun s'' f'' => ⟨e, cls, H1, rfl, f'', q⟩
end

section
variable {X : Cx} {CX : CXT} {k : Nat} {f C : Addr} {fd : FuncData} {ps : List Str} {sp : Sp} {dvs : List V} {ds : List Value} {E : XS} {x m : Str} {p pos apos : Pos} {e o : Expr} {es : List Expr} {ta : TE} {t : TA}
/-- f(..), where an exception of it is wanted as E says -/
def tCallX (sp : Sp) (dvs : List V) (E : XS) (t : TA) : TE := fun σ H Q => t σ H fun vs H1 => sp (vs ++ dvs) H1 Q (E σ)
theorem run_fnX {pins : List (Addr × Obj)} {σ : St} {H : Hp} {s : Shared} {Q : VK} {us : List Value} {vs : List V} (F : FnOk X.prog X.w X.K X.mg X.base CX k f fd ps sp) (hr : Room k X.A) (hb : Binds X.K fd ps ds) (hd : Vals dvs ds) (hx : PassesS CX X E)
    (I : Inv X pins σ H s) (r : Vals vs us) (h : sp (vs ++ dvs) H Q (E σ)) : wpAny (model X.prog X.w) X.A (call (.ref f) us) (EP X pins σ Q) X.xe s := by
  have r2 : Vals (vs ++ dvs) (us ++ ds) := r.append hd
  have hl : (us ++ ds).length = ps.length := by rw [← r2.length]; exact F.len _ _ _ _ h
  refine wpAny_call (codeAny_mono (F.run X.A X.stack s H ⟨us, []⟩ (us ++ ds) (vs ++ dvs) Q (E σ) hr I.env0 (hb s us I.kIn hl) r2 h) fun r s' hq => ?_)
  cases r with
  | error e => exact hx pins σ H s e s' I hq
  | ok fl =>
    cases fl with
    | ret u => exact I.after hq
    | next => exact False.elim hq
    | brk => exact False.elim hq
    | cont => exact False.elim hq
theorem pe_callX (F : FnOk X.prog X.w X.K X.mg X.base CX k f fd ps sp) (hr : Room k X.A) (hg : Gl X x) (hm : X.mg x = some (.ref f)) (hk : PySem.W.keepIn X.K (.ref f) = true) (hb : Binds X.K fd ps ds) (hd : Vals dvs ds) (hx : PassesS CX X E)
    (ha : PA X (e :: es) t) (hdb : (x == ("__debug__" : Str)) = false := by decide) (he : starEach (e :: es) X.env = (false, eval e X.env) :: starEach es X.env := by rfl) (hpl : (backTo pos (starEach es X.env)).any (·.1) = false := by rfl) :
    PE X (.Call (.Name x p) (e :: es) [] pos) (tCallX sp dvs E t) := by
  intro pins s σ H Q I h
  refine wpAny_Call_Name_kw (ld_glob I hg hm ?_ hdb)
  refine PySem.W.callWith_K (h₀ := X.base) I.ok.mod.kin hk (thn (ha pos pins s σ H _ I h) fun us s1 ⟨vs, H1, I1, r, q⟩ => ⟨I1.kIn, ?_⟩) he hpl
  exact run_fnX F hr hb hd hx I1 r q
end

/-! ### raise -/
section
variable {K : PySem.W.Frag} {h : Heap} {C : Addr} {bmB : List Value} {newId : String}
/-- an own error class without an __init__ of its own, as the top has it -/
theorem exc_at (X : K.In h) (q : PySem.W.excIn K C bmB newId = true) : ∃ bm N nm qn bs hdct sn sub ab col dd k0 k1 k2 k3 k5 mN,
    h.get? C = some (excClassObj nm qn C N bs bm hdct sn sub ab col dd k0 k1 k2 k3 k5 newId) ∧ h.Ns N mN ∧ mN "__init__" = none ∧ OwnTail h bmB bm := by
  unfold PySem.W.excIn at q
  split at q
  case h_2 => cases q
  case h_1 dict0 cdat slots0 found =>
    split at q
    case h_2 => cases q
    case h_1 C1 rest0 s0 s1 s2 s3 nid s5 mroEq slEq =>
      simp only [Bool.and_eq_true, beq_iff_eq, Bool.not_eq_true'] at q
      have q1 := q.1.1.1.1.1
      have q2 := q.1.1.1.1.2
      have q3 := q.1.1.1.2
      have q4 := q.1.1.2
      have q5 := q.1.2
      have q6 := q.2
      subst q1 q2
      cases cdat with
      | mk nmX basesX mroX nsX qualX hdX snX subX abX colX delX =>
        dsimp only at mroEq q3 q5 q6
        subst mroEq
        subst q3
        have es : slots0 = #[s0, s1, s2, s3, some (.builtin nid), s5] := by
          cases slots0 with
          | mk l => exact congrArg _ slEq
        subst es
        exact ⟨rest0, nsX, nmX, qualX, basesX, hdX, snX, subX, abX, colX, dict0, s0, s1, s2, s3, s5, _, X _ _ found, .of_isNs (PySem.W.isNs_of_in X q5), PySem.W.nsMap_none_of_in X q5 q6, PySem.W.tail_of_in X q4⟩
end
section
variable {X : Cx} {x : Str} {C : Addr} {np cpos pos : Pos} {e₀ : Expr} {rest : List Expr} {t : TA} {bmB : List Value} {newId B initId : String} {E : XS}
def tRaise (C : Addr) (E : XS) (t : TA) : TS := fun _ σ H => t σ H fun vs H1 => vs.length ≤ sizeLine ∧ E σ (.ref C) none H1
theorem ps_raise (hg : Gl X x) (hm : X.mg x = some (.ref C)) (q : PySem.W.excIn X.K C bmB newId = true) (FB : ExcBaseFacts B newId initId bmB) (hc : X.calm = true) (hx : Raises X E) (ha : PA X (e₀ :: rest) t)
    (hd : (x == ("__debug__" : Str)) = false := by decide) (he : starEach (e₀ :: rest) X.env = (false, eval e₀ X.env) :: starEach rest X.env := by rfl) (hpl : (backTo cpos (starEach rest X.env)).any (·.1) = false := by rfl) :
    PS X (.Raise (some (.Call (.Name x np) (e₀ :: rest) [] cpos)) none pos) (tRaise C E t) := by
  intro pins s σ H D I h
  obtain ⟨bm, N, nm, qn, bs, hdct, sn, sub, ab, col, dd, k0, k1, k2, k3, k5, mN, hC, hN, hni, T⟩ := exc_at I.mod.kin q
  have hpl' : (backTo cpos (starEach (e₀ :: rest) X.env)).any (·.1) = false := by
    rw [he]
    exact hpl
  refine wpAny_Raise_call_subT (C := C) (nm := nm) (q := qn) (N := N) (bs := bs) (bm := bm) (hdct := hdct) (sn := sn) (sub := sub) (ab := ab) (col := col) (dd := dd) (k0 := k0) (k1 := k1) (k2 := k2)
    (k3 := k3) (k5 := k5) FB (mN := mN) (T.hasType FB.hasBase) (I.ok.hd hc) hpl' hni (ld_glob I hg hm ⟨rfl, ?_⟩ hd)
  have g := ha cpos pins s σ H _ I h
  rw [he] at g ⊢
  refine Calls.evalArgs_plain (wpAny_mono g (fun us s1 r1 => ?_) fun _ _ y => y)
  obtain ⟨vs, H1, I1, rv, z, q1⟩ := r1
  exact ⟨rfl, by rw [← rv.length]; exact z, I1.bk _ _ hC, hN.keeps I1.bk, T.keeps I1.bk, fun h1 e mk => hx pins σ H1 s1 h1 e (.ref C) us I1 mk q1⟩
end
end L2

set_option Elab.async false
set_option linter.all false
set_option maxRecDepth 100000
set_option maxHeartbeats 4000000
namespace L2
open PySem PySem.Spec PyProof.Rows

/-! ### try: one except clause -/
/-- what is known of a caught exception -/
def ExcAt (cls : Value) (e : Addr) : Heap → Prop := fun h => ∃ o vs, h.get? e = some o ∧ o.cls = cls ∧ o.data = .fields vs
def ExcO (cls : Value) (e : Addr) : HO := .ext (ExcAt cls e)
section
variable {P : Program} {w : World} {H H' : Hp} {h h' : Heap} {a : Addr} {o : HO}
end
section
variable {P : Program} {w : World} {outer : List Env} {H H' : Hp} {s s' : Shared} {e : Addr} {cls : Value}
end
section
variable {X : Cx} {pins : List (Addr × Obj)} {σ : St} {H H' : Hp} {s s' : Shared} {e : Addr} {cls : Value}
end
section
variable {X : Cx} {pins pins' : List (Addr × Obj)} {σ : St} {H H' : Hp} {s s' : Shared} {W : Value → Shared → Prop} {e : Addr}
end
section
variable {X : Cx} {body suite : List Stmt} {b₀ : Stmt} {x n : Str} {C : Addr} {np hpos pos : Pos} {bmB : List Value} {newId : String} {i : Nat} {tb : XS → TS} {ts : TS}
end
end L2

set_option Elab.async false
set_option linter.all false
set_option maxRecDepth 100000
set_option maxHeartbeats 4000000
/-! isinstance, of exceptions too; «is» beside a truth; greater numbers. -/
namespace L2
open PySem PySem.Spec PyProof.Rows
/-- what the top tells of an own error class, for isinstance -/
structure ExcK (K : PySem.W.Frag) (C : Addr) : Prop where
  ga : PySem.W.findIn K (.ref C) "__getattribute__" = some (some (.builtin "BaseException.__getattribute__"))
  gt : PySem.W.findIn K (.ref C) "__getattr__" = some none
  cl : PySem.W.findIn K (.ref C) "__class__" = some (some (.builtin "object.__class__"))
  mb : PySem.W.mroIn K C (.type "BaseException") = some true
  mo : PySem.W.mroIn K C (.type "object") = some true
section
variable {prog : Program} {w : World} {A : Around} {E : Value → Shared → Prop} {K : PySem.W.Frag} {h : Heap} {g : Array GenState} {d : Drawn} {t : Nat} {os : OsState} {a C : Addr} {ob : Obj}
theorem own_class_owner : (".".intercalate ("object.__class__".cutAt '.').dropLast) = "object" := by decide +kernel
theorem exc_get {R : Result → Shared → Prop} (X : K.In h) (Z : ExcK K C) (hx : h.get? a = some ob) (hc : ob.cls = .ref C) (hq : R (.ok (.ret (.ref C))) ⟨h, g, d, t, os⟩) :
    codeAny (model prog w) A (.call (.builtin "getset_descriptor.__get__") ⟨[.builtin "object.__class__", .ref a, .ref C], []⟩) R ⟨h, g, d, t, os⟩ := by
  have k5 : (⟨h, g, d, t, os⟩ : Shared).TypeIs (.builtin "object.__class__") "getset_descriptor" := F.typeOf_object_class
  have mo : PySem.W.Looks (model prog w) h (isSubtype (.ref C) (.type (".".intercalate ("object.__class__".cutAt '.').dropLast))) true := by
    rw [own_class_owner]
    exact PySem.W.looks_mroIn X Z.mo
  refine codeAny_call_builtin F.slot_gs_get.plain F.entry_gs_get (F.slot_gs_get.check _ _ _ _ _ _ _ _ k5 (F.args_gs_get _ _ _) ?_)
  repeat (any_goals (first | assumption | (with_reducible refine wpAny_loadPart_at hx ?_; rw [hc]) | (with_reducible refine mo.at ?_) | wp_step))
  refine ⟨Code.quiet_builtin _ (by decide +kernel), codeAny_builtin F.entry_object_class ?_⟩
  repeat (any_goals (first | assumption | (with_reducible refine wpAny_loadPart_at hx ?_; rw [hc]) | wp_step))
theorem exc_entry {tk : Tok} {Q : Fin → Shared → Prop} (X : K.In h) (Z : ExcK K C) (hx : h.get? a = some ob) (hc : ob.cls = .ref C) (hq : Q (.done (.ret (.ref C))) ⟨h, g, d, t, os⟩) :
    wpAny (model prog w) A (Builtin.«object.__getattribute__» ⟨[.ref a, .str "__class__" tk], []⟩) Q E ⟨h, g, d, t, os⟩ := by
  have k5 : (⟨h, g, d, t, os⟩ : Shared).TypeIs (.builtin "object.__class__") "getset_descriptor" := F.typeOf_object_class
  have f5 := F.typeOf_object_class
  have f6 := F.slot_gs_get.lookup
  have f7 := F.slot_gs_set.lookup
  have lc := PySem.W.looks_findIn (M := model prog w) X Z.cl
  repeat (any_goals (first | assumption | (with_reducible refine wpAny_loadPart_at hx ?_; rw [hc]) | (with_reducible refine lc.at ?_) | wp_step))
  refine exc_get X Z hx hc ?_
  repeat (any_goals (first | assumption | wp_step))
theorem exc_check {M : Model} {nameV : Value} {Q : Unit → Shared → Prop} (X : K.In h) (Z : ExcK K C) (hx : h.get? a = some ob) (hc : ob.cls = .ref C) (hq : Q () ⟨h, g, d, t, os⟩) :
    wpAny M A (checkBuiltinCall "BaseException.__getattribute__" ⟨[.ref a, nameV], []⟩) Q E ⟨h, g, d, t, os⟩ := by
  have kd : builtinKind "BaseException.__getattribute__" = some .slot := by decide +kernel
  have sp : splitId "BaseException.__getattribute__" = some ("BaseException", "__getattribute__") := by decide +kernel
  have mb := PySem.W.looks_mroIn (M := M) X Z.mb
  have ar := F.args_bexc_ga (.ref a) nameV
  simp only [checkBuiltinCall, kd, sp]
  refine wpAny_bind ?_
  unfold isInstance
  repeat (first | (with_reducible refine wpAny_loadPart_at hx ?_; rw [hc]) | (with_reducible refine mb.at ?_) | wp_step)
  exact hq
theorem exc_call {tk : Tok} {R : Result → Shared → Prop} (X : K.In h) (Z : ExcK K C) (hx : h.get? a = some ob) (hc : ob.cls = .ref C) (hq : R (.ok (.ret (.ref C))) ⟨h, g, d, t, os⟩) :
    codeAny (model prog w) A (.call (.builtin "BaseException.__getattribute__") ⟨[.ref a, .str "__class__" tk], []⟩) R ⟨h, g, d, t, os⟩ :=
  codeAny_call_builtin (F.excAttr_ValueError).ga.plain F.entry_bexc_ga (exc_check X Z hx hc (exc_entry X Z hx hc hq))
theorem exc_by {tk : Tok} {fill expr : Bool} {Q : Value → Shared → Prop} (X : K.In h) (Z : ExcK K C) (hx : h.get? a = some ob) (hc : ob.cls = .ref C) (hq : Q (.ref C) ⟨h, g, d, t, os⟩) :
    wpAny (model prog w) A (getAttrBy (.ref a) (.str "__class__" tk) fill expr) Q E ⟨h, g, d, t, os⟩ := by
  have f3 := (F.excAttr_ValueError).ga.bind (.ref a)
  have y0 : (expr && onTheHeap (Value.builtin "BaseException.__getattribute__")) = false := by cases expr <;> rfl
  have y2 : (Value.builtin "BaseException.__getattribute__" == Value.builtin "object.__getattribute__") = false := by decide +kernel
  have y1 : (onTheHeap (Value.ref C) && Value.builtin "BaseException.__getattribute__" == Value.builtin "object.__getattribute__") = false := by rw [y2]; rfl
  have lg := PySem.W.looks_findIn (M := model prog w) X Z.ga
  have lt := PySem.W.looks_findIn (M := model prog w) X Z.gt
  repeat (any_goals (first | assumption | (with_reducible refine wpAny_loadPart_at hx ?_; rw [hc]) | (with_reducible refine lg.at ?_) | (with_reducible refine lt.at ?_) | wp_step))
  refine exc_call X Z hx hc ?_
  repeat (any_goals (first | assumption | wp_step))
theorem exc_attr {Q : Option Value → Shared → Prop} (X : K.In h) (Z : ExcK K C) (hx : h.get? a = some ob) (hc : ob.cls = .ref C) (hq : Q (some (.ref C)) ⟨h, g, d, t + 1, os⟩) :
    wpAny (model prog w) A (getAttr? (.ref a) "__class__") Q E ⟨h, g, d, t, os⟩ := by
  unfold getAttr? getAttrBy?
  repeat (any_goals (first | assumption | with_reducible apply exc_by X Z hx hc | wp_step))
end
section
variable {K : PySem.W.Frag} {a C : Addr}
theorem kitx_exc (Z : ExcK K C) : PySem.W.KitX K (.ref a) (.ref C) (ExcAt (.ref C) a) where
  ty := fun M h X p => by
    obtain ⟨o, vs, h1, h2, _⟩ := p
    exact h2 ▸ (PySem.W.Looks.ld h1).andThen .now
  it := fun M h X p => by
    obtain ⟨cd, hc, _⟩ := Option.bind_eq_some_iff.mp Z.mo
    unfold PySem.W.clsIn at hc
    split at hc
    · rename_i ho
      intro A' Q' E' s' k q
      unfold isType loadHead
      exact wpAny_bind (wpAny_loadPart (k _ _ (X _ _ ho)) (wpAny_pure q))
    · cases hc
  ne := fun h tp dd its n sl X htp => by
    obtain ⟨cd, hc, _⟩ := Option.bind_eq_some_iff.mp Z.mo
    refine Bool.eq_false_iff.mpr fun q => ?_
    have e : C = tp := Value.ref.inj (beq_iff_eq.mp q)
    subst e
    unfold PySem.W.clsIn at hc
    split at hc
    · rename_i ho
      have z := (X _ _ ho).symm.trans htp
      cases z
    · cases hc
  ca := fun {prog w A E Q s} X p k => by
    obtain ⟨h, g, d, t, os⟩ := s
    obtain ⟨o, vs, h1, h2, _⟩ := p
    exact exc_attr X Z h1 h2 k
end
/-- the kind of a value; of a caught exception its class -/
inductive Kd (K : PySem.W.Frag) (H : Hp) : V → Value → Prop where
  | of {x : V} {t : Value} (e : TyOf K H x t) : Kd K H x t
  | exc {a C : Addr} (Z : ExcK K C) (e : H a = some (ExcO (.ref C) a)) : Kd K H (.ref a) (.ref C)
  | sqt {a : Addr} {xs : List V} (e : SqT K H a xs) : Kd K H (.ref a) (.type "tuple")
  | sql {a : Addr} {xs : List V} (e : SqL K H a xs) : Kd K H (.ref a) (.type "list")
def isC : V → Bool
  | .ref _ => true
  | .ty _ => true
  | _ => false
def clsV : V → Value
  | .ref a => .ref a
  | .ty n => .type n
  | _ => .none
section
variable {X : Cx} {A : Around}
theorem call_isi : CallR X (.builtin "isinstance") (fun xs H Q => ∃ x c t b, xs = [x, c] ∧ isC c = true ∧ Kd X.K H x t ∧ PySem.W.kitOne X.K t (clsV c) = some b ∧ Q (.bl b) H) := by
  intro pins s σ H xs us Q I r h
  obtain ⟨x, c, t, b, rfl, ic, ty, e, q⟩ := h
  obtain ⟨u, v, rfl, rx, rc⟩ := vals2 r
  have ec : clsV c = v := by
    cases c with
    | ref a => exact Eq.symm rc
    | ty n => exact Eq.symm rc
    | _ => cases ic
  rw [ec] at e
  have fin : ∀ tk, EP X pins σ Q (.bool b) { s with toks := tk } := fun tk => ⟨.bl b, H, I.tok tk, rfl, q⟩
  cases ty with
  | of ty => exact isinst_ok I rx ty e fin
  | @exc a C Z ea =>
    cases (show u = Value.ref a from rx)
    obtain ⟨p, _, _⟩ := (show ObjOk X.prog X.w H s.heap a (ExcO (.ref C) a) from I.hok a _ ea)
    exact PySem.W.kia_one (kitx_exc Z) I.kIn p e (fun z => nomatch z) fin
  | @sqt a ys ea =>
    cases (show u = Value.ref a from rx)
    rcases ea with ea | ⟨o, its, n, h1, h2, _⟩
    · obtain ⟨_, _, _, p⟩ := (show ObjOk X.prog X.w H s.heap a (.tup ys) from ea.ok I.hok)
      obtain ⟨o, h1, h2, _⟩ := p
      exact PySem.W.kia_one PySem.W.kitx_tuple I.kIn ⟨o, h1, h2⟩ e (fun z => nomatch z) fin
    · exact PySem.W.kia_one PySem.W.kitx_tuple I.kIn ⟨o, I.kIn _ _ h1, h2⟩ e (fun z => nomatch z) fin
  | @sql a ys ea =>
    cases (show u = Value.ref a from rx)
    rcases ea with ea | ⟨o, its, n, h1, h2, _⟩
    · obtain ⟨_, _, n, _, h1⟩ := (show ObjOk X.prog X.w H s.heap a (.lst ys) from ea.ok I.hok)
      exact PySem.W.kia_one PySem.W.kitx_list I.kIn ⟨_, h1, rfl⟩ e (fun z => nomatch z) fin
    · exact PySem.W.kia_one PySem.W.kitx_list I.kIn ⟨o, I.kIn _ _ h1, h2⟩ e (fun z => nomatch z) fin
/-! ### numbers of up to a thousand bits -/
def CBig (i j : Int) : Prop := i.natAbs < 2 ^ 1000 ∧ j.natAbs < 2 ^ 1000
theorem bits_big {x : Int} (h : x.natAbs < 2 ^ 1000) : Builtin.Int.intBits x ≤ 2 ^ 20 := by
  unfold Builtin.Int.intBits
  split
  · exact Nat.zero_le _
  · rename_i z
    have n : x.natAbs ≠ 0 := by
      intro q
      exact z (by rw [Int.natAbs_eq_zero.mp q]; rfl)
    have := (Nat.log2_lt n).mpr h
    omega
theorem op_mulB : OpR X (binaryOp .Mult) (rI CBig fun i j => .int (i * j)) := opI fun _ _ _ _ _ _ _ hc q => mul_int q (.of_bits (bits_big hc.1) (bits_big hc.2))
theorem op_fdivB : OpR X (binaryOp .FloorDiv) (rI (fun _ j => j ≠ 0 ∧ j.natAbs < 2 ^ 1000) fun i j => .int (i.fdiv j)) := opI fun i j _ _ _ _ _ hc q =>
  floordiv_int hc.1 q (.inl (PyProof.noPylong_of_log2 (by
    have n : j.natAbs ≠ 0 := fun z => hc.1 (Int.natAbs_eq_zero.mp z)
    have := (Nat.log2_lt n).mpr hc.2
    omega)))
/-! ### a def as it stands, its exceptions leave it -/
theorem Fun.okX {P : Program} {w : World} {K : PySem.W.Frag} {mg : Str → Option Value} {base : Heap} {CX : CXT} {x qual : Str} {st : Stmt} {f : Addr} {fd : FuncData} {N ps : List Str} {k : Nat} {sp : Sp} (F : Fun K x qual st f fd) (S : FnScope N ps (defScope st))
    (len : ∀ vs H Q E, sp vs H Q E → vs.length = ps.length)
    (hbody : ∀ (cdv : Value) (A : Around) (outer : List Env) (s : Shared) (H : Hp) (vs : List V) (Q : VK) (E : XK), Room k (A.deeper (envOfC qual (defScope st) s.heap.objs.size f cdv)) → sp vs H Q E →
      ∃ t, PSs (cxOf CX P w K mg base N qual (defScope st) f cdv A outer s H E) (defBody st) t ∧ t { nx := fun _ H' => Q .non H', rt := Q } (start N vs) H) : FnOk P w K mg base CX (k + 1) f fd ps sp := by
  obtain ⟨oc, od, kV, doc, pm, an, cdv, ct, osl, rfl, lk, hcd⟩ := F.ex
  exact fn_of lk hcd S len fun A outer s H vs Q E hr hsp => hbody cdv A outer s H vs Q E hr hsp
end
end L2

set_option Elab.async false
set_option linter.all false
set_option maxRecDepth 100000
set_option maxHeartbeats 4000000
namespace L2
open PySem PySem.Spec PyProof.Rows
/-! ### names of Python's own; the base of own errors -/
theorem bt_int : bootBuiltins "int" = some (.type "int") := by decide +kernel
theorem bt_bool : bootBuiltins "bool" = some (.type "bool") := by decide +kernel
theorem bt_list : bootBuiltins "list" = some (.type "list") := by decide +kernel
theorem bt_tuple : bootBuiltins "tuple" = some (.type "tuple") := by decide +kernel
theorem bt_len : bootBuiltins "len" = some (.builtin "len") := by decide +kernel
theorem bt_abs : bootBuiltins "abs" = some (.builtin "abs") := by decide +kernel
theorem bt_max : bootBuiltins "max" = some (.builtin "max") := by decide +kernel
theorem bt_min : bootBuiltins "min" = some (.builtin "min") := by decide +kernel
theorem bt_isinstance : bootBuiltins "isinstance" = some (.builtin "isinstance") := by decide +kernel
abbrev EBm : List Value := [.type "ValueError", .type "Exception", .type "BaseException", .type "object"]
theorem EB : ExcBaseFacts "ValueError" "ValueError.__new__" "ValueError.__init__" EBm := PySem.F.excBase_ValueError
/-! ### what stays -/
theorem same_upd {H : Hp} {p : Addr} {o : HO} (n : H p = none) : Same H (upd H p o) := fun b u e => by
  rw [upd_ne (ne_of_none e n)]
  exact e
theorem Same.rd {H H' : Hp} (e : Same H H') {a : Addr} {u : HO} (r : Rd H a u) : Rd H' a u := by
  rcases r with r | ⟨o, r⟩
  · exact .inl (e _ _ r)
  · exact .inr ⟨o, e _ _ r⟩
theorem Same.sqt {K : PySem.W.Frag} {H H' : Hp} {a : Addr} {xs : List V} (e : Same H H') (h : SqT K H a xs) : SqT K H' a xs := by
  rcases h with h | h
  · exact .inl (e.rd h)
  · exact .inr h
theorem Same.sql {K : PySem.W.Frag} {H H' : Hp} {a : Addr} {xs : List V} (e : Same H H') (h : SqL K H a xs) : SqL K H' a xs := by
  rcases h with h | h
  · exact .inl (e.rd h)
  · exact .inr h
/-- isinstance(x, C) -/
def tIsi (K : PySem.W.Frag) (t : TA) : TE := fun σ H Q => t σ H fun xs H1 => ∃ x c ty b, xs = [x, c] ∧ isC c = true ∧ Kd K H1 x ty ∧ PySem.W.kitOne K ty (clsV c) = some b ∧ Q (.bl b) H1
theorem pe_isi {X : Cx} (K : PySem.W.Frag) {p pos : Pos} {e : Expr} {es : List Expr} {t : TA} (hg : Gl X "isinstance") (hm : X.mg "isinstance" = none) (ha : PA X (e :: es) t) (hK : X.K = K := by rfl)
    (he : starEach (e :: es) X.env = (false, eval e X.env) :: starEach es X.env := by rfl) (hpl : (backTo pos (starEach es X.env)).any (·.1) = false := by rfl) : PE X (.Call (.Name "isinstance" p) (e :: es) [] pos) (tIsi K t) := by
  subst hK
  exact pe_callB (call_isi (X := X)) hg hm bt_isinstance ha (by decide) (by decide) he hpl
/-! ### == of two lists or tuples of flat values -/
end L2

set_option Elab.async false
set_option linter.all false
set_option maxRecDepth 100000
set_option maxHeartbeats 4000000
/-! Values as plain data: texts, numbers, truths, None, tuples and lists of these, however deep; == of them. -/
namespace L2
open PySem PySem.Spec PyProof.Rows
inductive D where
  | non | bl (b : Bool) | int (i : Int) | str (x : Str) | tup (ds : List D) | lst (ds : List D)
mutual
/-- v is the datum d -/
def Is (K : PySem.W.Frag) (H : Hp) : D → V → Prop
  | .non, v => v = .non
  | .bl b, v => v = .bl b
  | .int i, v => v = .int i
  | .str x, v => v = .str x
  | .tup ds, v => ∃ a xs, v = .ref a ∧ SqT K H a xs ∧ IsL K H ds xs
  | .lst ds, v => ∃ a xs, v = .ref a ∧ SqL K H a xs ∧ IsL K H ds xs
def IsL (K : PySem.W.Frag) (H : Hp) : List D → List V → Prop
  | [], xs => xs = []
  | d :: ds, xs => ∃ x r, xs = x :: r ∧ Is K H d x ∧ IsL K H ds r
end
mutual
def deq : D → D → Bool
  | .non, .non => true
  | .bl a, .bl b => a == b
  | .bl a, .int b => (if a then 1 else 0) == b
  | .int a, .bl b => a == (if b then 1 else 0)
  | .int a, .int b => a == b
  | .str a, .str b => a == b
  | .tup a, .tup b => deqL a b
  | .lst a, .lst b => deqL a b
  | _, _ => false
def deqL : List D → List D → Bool
  | [], [] => true
  | x :: xs, y :: ys => deq x y && deqL xs ys
  | _, _ => false
end
mutual
def dep : D → Nat
  | .tup ds => depL ds + 1
  | .lst ds => depL ds + 1
  | _ => 0
def depL : List D → Nat
  | [] => 0
  | d :: ds => max (dep d) (depL ds)
end
section
variable {K : PySem.W.Frag} {H H' : Hp}
mutual
theorem Same.is (e : Same H H') : ∀ (d : D) {v : V}, Is K H d v → Is K H' d v
  | .non, v, h => h
  | .bl b, v, h => h
  | .int i, v, h => h
  | .str x, v, h => h
  | .tup ds, v, h => by
    obtain ⟨a, xs, rfl, q, r⟩ := h
    exact ⟨a, xs, rfl, e.sqt q, Same.isL e ds r⟩
  | .lst ds, v, h => by
    obtain ⟨a, xs, rfl, q, r⟩ := h
    exact ⟨a, xs, rfl, e.sql q, Same.isL e ds r⟩
theorem Same.isL (e : Same H H') : ∀ (ds : List D) {xs : List V}, IsL K H ds xs → IsL K H' ds xs
  | [], xs, h => h
  | d :: ds, xs, h => by
    obtain ⟨x, r, rfl, h1, h2⟩ := h
    exact ⟨x, r, rfl, Same.is e d h1, Same.isL e ds h2⟩
end
theorem IsL.length : ∀ {ds : List D} {xs : List V}, IsL K H ds xs → xs.length = ds.length
  | [], xs, h => by cases (show xs = [] from h); rfl
  | d :: ds, xs, h => by
    obtain ⟨x, r, rfl, _, h2⟩ := h
    rw [List.length_cons, List.length_cons, IsL.length h2]
theorem IsL.append : ∀ {ds ds' : List D} {xs xs' : List V}, IsL K H ds xs → IsL K H ds' xs' → IsL K H (ds ++ ds') (xs ++ xs')
  | [], _, xs, _, h, h' => by cases (show xs = [] from h); exact h'
  | d :: ds, _, xs, _, h, h' => by
    obtain ⟨x, r, rfl, h1, h2⟩ := h
    exact ⟨x, _, rfl, h1, IsL.append h2 h'⟩
end
section
variable {X : Cx} {pins : List (Addr × Obj)} {σ : St} {H : Hp} {s : Shared}
theorem Inv.isList (I : Inv X pins σ H s) {a : Addr} {xs : List V} (h : SqL X.K H a xs) : ∃ its : List Value, Vals xs its ∧ s.heap.IsList a its.toArray := by
  rcases h with h | ⟨o, its, n, h1, h2, _, h3, _, r⟩
  · obtain ⟨_, its, n, r, e⟩ := (show ObjOk X.prog X.w H s.heap a (.lst xs) from h.ok I.hok)
    exact ⟨its, r, _, e, rfl, n, rfl⟩
  · exact ⟨its.toList, r, o, I.kIn _ _ h1, h2, n, by simpa using h3⟩
theorem Inv.isTup (I : Inv X pins σ H s) {a : Addr} {xs : List V} (h : SqT X.K H a xs) : ∃ its : List Value, Vals xs its ∧ s.heap.IsTuple a its.toArray := by
  rcases h with h | ⟨o, its, n, h1, h2, h3, _, r⟩
  · obtain ⟨_, its, r, e⟩ := (show ObjOk X.prog X.w H s.heap a (.tup xs) from h.ok I.hok)
    exact ⟨its, r, e⟩
  · exact ⟨its.toList, r, o, I.kIn _ _ h1, h2, n, by simpa using h3⟩
theorem deqL_lengths : ∀ {ds ds' : List D}, ds.length ≠ ds'.length → deqL ds ds' = false
  | [], [], h => absurd rfl h
  | [], _ :: _, _ => rfl
  | _ :: _, [], _ => rfl
  | d :: ds, d' :: ds', h => by
    unfold deqL
    rw [deqL_lengths (ds := ds) (ds' := ds') fun z => h (by rw [List.length_cons, List.length_cons, z]), Bool.and_false]
/-- the items' answers -/
def eqItem (ds ds' : List D) (j : Nat) : Bool := deq (ds.getD j .non) (ds'.getD j .non)
theorem eqItems : ∀ {ds ds' : List D}, ds.length = ds'.length → (List.range ds.length).all (eqItem ds ds') = deqL ds ds'
  | [], [], _ => rfl
  | [], _ :: _, h => by cases h
  | _ :: _, [], h => by cases h
  | d :: ds, d' :: ds', h => by
    have h' : ds.length = ds'.length := by simpa using h
    rw [List.length_cons, List.range_succ_eq_map, List.all_cons, List.all_map]
    unfold deqL
    rw [← eqItems h']
    rfl
theorem Inv.tup_fun (I : Inv X pins σ H s) {a : Addr} {xs ys : List V} (h : SqT X.K H a xs) (h' : SqT X.K H a ys) : xs = ys := by
  obtain ⟨us, r, o, e, _, n, d⟩ := I.isTup h
  obtain ⟨us', r', o', e', _, n', d'⟩ := I.isTup h'
  rw [e] at e'
  cases e'
  rw [d] at d'
  injection d' with d1 _
  have z : us = us' := by simpa using d1
  subst z
  exact r.inj r'
theorem Inv.lst_fun (I : Inv X pins σ H s) {a : Addr} {xs ys : List V} (h : SqL X.K H a xs) (h' : SqL X.K H a ys) : xs = ys := by
  obtain ⟨us, r, o, e, _, n, d⟩ := I.isList h
  obtain ⟨us', r', o', e', _, n', d'⟩ := I.isList h'
  rw [e] at e'
  cases e'
  rw [d] at d'
  injection d' with d1 _
  have z : us = us' := by simpa using d1
  subst z
  exact r.inj r'
theorem Inv.tup_lst (I : Inv X pins σ H s) {a : Addr} {xs ys : List V} (h : SqT X.K H a xs) (h' : SqL X.K H a ys) : False := by
  obtain ⟨us, r, o, e, c, _⟩ := I.isTup h
  obtain ⟨us', r', o', e', c', _⟩ := I.isList h'
  rw [e] at e'
  cases e'
  rw [c] at c'
  exact absurd (Value.type.inj c') (by decide)
mutual
theorem is_fun (I : Inv X pins σ H s) : ∀ (d d' : D) {v : V}, Is X.K H d v → Is X.K H d' v → d = d'
  | .non, d', v, h, h' => by
    cases (show v = .non from h)
    cases d' <;> first | rfl | (obtain ⟨_, _, z, _⟩ := h'; cases z; done) | cases h'
  | .bl c, d', v, h, h' => by
    cases (show v = .bl c from h)
    cases d' <;> first | rfl | (obtain ⟨_, _, z, _⟩ := h'; cases z; done) | (cases h'; done) | (cases h'; rfl)
  | .int c, d', v, h, h' => by
    cases (show v = .int c from h)
    cases d' <;> first | rfl | (obtain ⟨_, _, z, _⟩ := h'; cases z; done) | (cases h'; done) | (cases h'; rfl)
  | .str c, d', v, h, h' => by
    cases (show v = .str c from h)
    cases d' <;> first | rfl | (obtain ⟨_, _, z, _⟩ := h'; cases z; done) | (cases h'; done) | (cases h'; rfl)
  | .tup ds, d', v, h, h' => by
    obtain ⟨a, xs, rfl, q, hl⟩ := h
    cases d' with
    | tup ds' =>
      obtain ⟨a', xs', e, q', hl'⟩ := h'
      cases e
      rw [I.tup_fun q q'] at hl
      rw [isL_fun I ds ds' hl hl']
    | lst ds' =>
      obtain ⟨a', xs', e, q', hl'⟩ := h'
      cases e
      exact (I.tup_lst q q').elim
    | _ => cases h'
  | .lst ds, d', v, h, h' => by
    obtain ⟨a, xs, rfl, q, hl⟩ := h
    cases d' with
    | lst ds' =>
      obtain ⟨a', xs', e, q', hl'⟩ := h'
      cases e
      rw [I.lst_fun q q'] at hl
      rw [isL_fun I ds ds' hl hl']
    | tup ds' =>
      obtain ⟨a', xs', e, q', hl'⟩ := h'
      cases e
      exact (I.tup_lst q' q).elim
    | _ => cases h'
theorem isL_fun (I : Inv X pins σ H s) : ∀ (ds ds' : List D) {xs : List V}, IsL X.K H ds xs → IsL X.K H ds' xs → ds = ds'
  | [], ds', xs, h, h' => by
    cases (show xs = [] from h)
    cases ds' with
    | nil => rfl
    | cons d r => obtain ⟨_, _, z, _⟩ := h'; cases z
  | d :: ds, ds', xs, h, h' => by
    obtain ⟨x, r, rfl, h1, h2⟩ := h
    cases ds' with
    | nil => cases h'
    | cons d' ds' =>
      obtain ⟨x', r', e, h1', h2'⟩ := h'
      cases e
      rw [is_fun I d d' h1 h1', isL_fun I ds ds' h2 h2']
end
mutual
theorem deq_refl : ∀ d : D, deq d d = true
  | .non => rfl
  | .bl b => by simp [deq]
  | .int i => by simp [deq]
  | .str x => by simp [deq]
  | .tup ds => by simp only [deq]; exact deqL_refl ds
  | .lst ds => by simp only [deq]; exact deqL_refl ds
theorem deqL_refl : ∀ ds : List D, deqL ds ds = true
  | [] => rfl
  | d :: ds => by simp only [deqL, deq_refl d, deqL_refl ds, Bool.and_self]
end
theorem getD_of {α : Type} {l : List α} {i : Nat} {x y : α} (h : l[i]? = some x) : l.getD i y = x := by simp [List.getD, h]
/-- two tuples, two lists, when their items are known -/
theorem eq_tups {ds ds' : List D} {xs xs' : List V} {us us' : List Value} {a a' : Addr} {A : Around} (I : Inv X pins σ H s) (hl : IsL X.K H ds xs) (hl' : IsL X.K H ds' xs') (rv : Vals xs us) (rv' : Vals xs' us')
    (z : s.heap.IsTuple a us.toArray) (z' : s.heap.IsTuple a' us'.toArray) (hu : A.units < cLine)
    (it : ∀ (j : Nat) (d d' : D) (u u' : Value), ds[j]? = some d → ds'[j]? = some d' → us[j]? = some u → us'[j]? = some u' → SeqAt.EqAt A.in1 s u u' (deq d d')) : SeqAt.RcAt A s (.ref a) (.ref a') (deqL ds ds') := by
  have e1 : us.length = ds.length := by rw [← rv.length, hl.length]
  have e2 : us'.length = ds'.length := by rw [← rv'.length, hl'.length]
  have g := SeqAt.RcAt.tuples (e := eqItem ds ds') z z' hu fun j h1 h2 => by
    have g1 : j < ds.length := by rw [← e1]; simpa using h1
    have g2 : j < ds'.length := by rw [← e2]; simpa using h2
    have k1 : ds[j]? = some ds[j] := List.getElem?_eq_getElem g1
    have k2 : ds'[j]? = some ds'[j] := List.getElem?_eq_getElem g2
    unfold eqItem
    rw [getD_of k1, getD_of k2]
    exact it j _ _ _ _ k1 k2 (by simp) (by simp)
  have en : ((List.range (min us.toArray.size us'.toArray.size)).all (eqItem ds ds') && us.toArray.size == us'.toArray.size) = deqL ds ds' := by
    simp only [List.size_toArray, e1, e2]
    by_cases q : ds.length = ds'.length
    · rw [← q, Nat.min_self, eqItems q, beq_self_eq_true, Bool.and_true]
    · rw [deqL_lengths q, (beq_eq_false_iff_ne.mpr q), Bool.and_false]
  rw [en] at g
  exact g
theorem eq_lsts {ds ds' : List D} {xs xs' : List V} {us us' : List Value} {a a' : Addr} {A : Around} (I : Inv X pins σ H s) (hl : IsL X.K H ds xs) (hl' : IsL X.K H ds' xs') (rv : Vals xs us) (rv' : Vals xs' us')
    (z : s.heap.IsList a us.toArray) (z' : s.heap.IsList a' us'.toArray) (hu : A.units < cLine)
    (it : ∀ (j : Nat) (d d' : D) (u u' : Value), ds[j]? = some d → ds'[j]? = some d' → us[j]? = some u → us'[j]? = some u' → SeqAt.EqAt A.in1 s u u' (deq d d')) : SeqAt.RcAt A s (.ref a) (.ref a') (deqL ds ds') := by
  have e1 : us.length = ds.length := by rw [← rv.length, hl.length]
  have e2 : us'.length = ds'.length := by rw [← rv'.length, hl'.length]
  by_cases q : ds.length = ds'.length
  · have g := SeqAt.RcAt.lists (e := eqItem ds ds') z z' (by simp only [List.size_toArray, e1, e2, q]) hu fun j h1 h2 => by
      have g1 : j < ds.length := by rw [← e1]; simpa using h1
      have g2 : j < ds'.length := by rw [← e2]; simpa using h2
      have k1 : ds[j]? = some ds[j] := List.getElem?_eq_getElem g1
      have k2 : ds'[j]? = some ds'[j] := List.getElem?_eq_getElem g2
      unfold eqItem
      rw [getD_of k1, getD_of k2]
      exact it j _ _ _ _ k1 k2 (by simp) (by simp)
    rw [show us.toArray.size = ds.length by simp [e1], eqItems q] at g
    exact g
  · rw [deqL_lengths q]
    exact SeqAt.RcAt.lists_lengths z z' (by simp only [List.size_toArray, e1, e2]; exact bne_iff_ne.mpr q) hu
mutual
theorem eqD (I : Inv X pins σ H s) : ∀ (d d' : D) {v v' : V} {u u' : Value} {A : Around}, Is X.K H d v → Is X.K H d' v' → RelV v u → RelV v' u' → A.units + dep d < cLine → SeqAt.EqAt A s u u' (deq d d')
  | .non, d', v, v', u, u', A, h, h', r, r', hu => by
    cases (show v = .non from h); cases (show u = Value.none from r)
    cases d' with
    | non => cases (show v' = .non from h'); cases (show u' = Value.none from r'); exact SeqAt.EqAt.same _
    | bl b => cases (show v' = .bl b from h'); cases (show u' = Value.bool b from r'); exact SeqAt.EqAt.none_bool b
    | int b => cases (show v' = .int b from h'); obtain ⟨t, rfl⟩ := r'; exact SeqAt.EqAt.none_int b t
    | str b => cases (show v' = .str b from h'); obtain ⟨t, rfl⟩ := r'; exact SeqAt.EqAt.none_str b t
    | tup b => obtain ⟨a, xs, rfl, q, _⟩ := h'; cases r'; obtain ⟨its, _, z⟩ := I.isTup q; exact SeqAt.EqAt.none_tuple z (by simpa [dep] using hu)
    | lst b => obtain ⟨a, xs, rfl, q, _⟩ := h'; cases r'; obtain ⟨its, _, z⟩ := I.isList q; exact SeqAt.EqAt.none_list z (by simpa [dep] using hu)
  | .bl c, d', v, v', u, u', A, h, h', r, r', hu => by
    cases (show v = .bl c from h); cases (show u = Value.bool c from r)
    cases d' with
    | non => cases (show v' = .non from h'); cases (show u' = Value.none from r'); exact SeqAt.EqAt.bool_none c
    | bl b => cases (show v' = .bl b from h'); cases (show u' = Value.bool b from r'); exact SeqAt.EqAt.bool_bool c b
    | int b => cases (show v' = .int b from h'); obtain ⟨t, rfl⟩ := r'; exact SeqAt.EqAt.bool_int c b t
    | str b => cases (show v' = .str b from h'); obtain ⟨t, rfl⟩ := r'; exact SeqAt.EqAt.bool_str c b t
    | tup b => obtain ⟨a, xs, rfl, q, _⟩ := h'; cases r'; obtain ⟨its, _, z⟩ := I.isTup q; exact SeqAt.EqAt.bool_tuple c z (by simpa [dep] using hu)
    | lst b => obtain ⟨a, xs, rfl, q, _⟩ := h'; cases r'; obtain ⟨its, _, z⟩ := I.isList q; exact SeqAt.EqAt.bool_list c z (by simpa [dep] using hu)
  | .int c, d', v, v', u, u', A, h, h', r, r', hu => by
    cases (show v = .int c from h); obtain ⟨t0, rfl⟩ := r
    cases d' with
    | non => cases (show v' = .non from h'); cases (show u' = Value.none from r'); exact SeqAt.EqAt.int_none c t0
    | bl b => cases (show v' = .bl b from h'); cases (show u' = Value.bool b from r'); exact SeqAt.EqAt.int_bool c t0 b
    | int b => cases (show v' = .int b from h'); obtain ⟨t, rfl⟩ := r'; exact SeqAt.EqAt.int_int c t0 b t
    | str b => cases (show v' = .str b from h'); obtain ⟨t, rfl⟩ := r'; exact SeqAt.EqAt.int_str c t0 b t
    | tup b => obtain ⟨a, xs, rfl, q, _⟩ := h'; cases r'; obtain ⟨its, _, z⟩ := I.isTup q; exact SeqAt.EqAt.int_tuple c t0 z (by simpa [dep] using hu)
    | lst b => obtain ⟨a, xs, rfl, q, _⟩ := h'; cases r'; obtain ⟨its, _, z⟩ := I.isList q; exact SeqAt.EqAt.int_list c t0 z (by simpa [dep] using hu)
  | .str c, d', v, v', u, u', A, h, h', r, r', hu => by
    cases (show v = .str c from h); obtain ⟨t0, rfl⟩ := r
    cases d' with
    | non => cases (show v' = .non from h'); cases (show u' = Value.none from r'); exact SeqAt.EqAt.str_none c t0
    | bl b => cases (show v' = .bl b from h'); cases (show u' = Value.bool b from r'); exact SeqAt.EqAt.str_bool c t0 b
    | int b => cases (show v' = .int b from h'); obtain ⟨t, rfl⟩ := r'; exact SeqAt.EqAt.str_int c t0 b t
    | str b => cases (show v' = .str b from h'); obtain ⟨t, rfl⟩ := r'; exact SeqAt.EqAt.str_str c t0 b t
    | tup b => obtain ⟨a, xs, rfl, q, _⟩ := h'; cases r'; obtain ⟨its, _, z⟩ := I.isTup q; exact SeqAt.EqAt.str_tuple c t0 z (by simpa [dep] using hu)
    | lst b => obtain ⟨a, xs, rfl, q, _⟩ := h'; cases r'; obtain ⟨its, _, z⟩ := I.isList q; exact SeqAt.EqAt.str_list c t0 z (by simpa [dep] using hu)
  | .tup ds, d', v, v', u, u', A, h, h', r, r', hu => by
    obtain ⟨a, xs, rfl, q, hl⟩ := h
    cases (show u = Value.ref a from r)
    obtain ⟨its, rv, z⟩ := I.isTup q
    have hu0 : A.units < cLine := by omega
    cases d' with
    | non => cases (show v' = .non from h'); cases (show u' = Value.none from r'); exact SeqAt.EqAt.tuple_none z hu0
    | bl b => cases (show v' = .bl b from h'); cases (show u' = Value.bool b from r'); exact SeqAt.EqAt.tuple_bool b z hu0
    | int b => cases (show v' = .int b from h'); obtain ⟨t, rfl⟩ := r'; exact SeqAt.EqAt.tuple_int b t z hu0
    | str b => cases (show v' = .str b from h'); obtain ⟨t, rfl⟩ := r'; exact SeqAt.EqAt.tuple_str b t z hu0
    | lst b => obtain ⟨a2, xs2, rfl, q2, _⟩ := h'; cases r'; obtain ⟨its2, _, z2⟩ := I.isList q2; exact SeqAt.EqAt.tuple_list z z2 hu0
    | tup ds' =>
      obtain ⟨a2, xs2, rfl, q2, hl2⟩ := h'
      cases (show u' = Value.ref a2 from r')
      obtain ⟨its2, rv2, z2⟩ := I.isTup q2
      have hu1 : A.units + (depL ds + 1) < cLine := hu
      show SeqAt.EqAt A s _ _ (deqL ds ds')
      by_cases ne : a = a2
      · subst ne
        rw [I.tup_fun q q2] at hl
        rw [isL_fun I ds ds' hl hl2, deqL_refl]
        exact SeqAt.EqAt.same _
      · exact .of_refs ne (eq_tups I hl hl2 rv rv2 z z2 hu0 (eqL I ds ds' (A := A.in1) hl hl2 rv rv2 (by show A.units + 1 + depL ds < cLine; omega)))
  | .lst ds, d', v, v', u, u', A, h, h', r, r', hu => by
    obtain ⟨a, xs, rfl, q, hl⟩ := h
    cases (show u = Value.ref a from r)
    obtain ⟨its, rv, z⟩ := I.isList q
    have hu0 : A.units < cLine := by omega
    cases d' with
    | non => cases (show v' = .non from h'); cases (show u' = Value.none from r'); exact SeqAt.EqAt.list_none z hu0
    | bl b => cases (show v' = .bl b from h'); cases (show u' = Value.bool b from r'); exact SeqAt.EqAt.list_bool b z hu0
    | int b => cases (show v' = .int b from h'); obtain ⟨t, rfl⟩ := r'; exact SeqAt.EqAt.list_int b t z hu0
    | str b => cases (show v' = .str b from h'); obtain ⟨t, rfl⟩ := r'; exact SeqAt.EqAt.list_str b t z hu0
    | tup b => obtain ⟨a2, xs2, rfl, q2, _⟩ := h'; cases r'; obtain ⟨its2, _, z2⟩ := I.isTup q2; exact SeqAt.EqAt.list_tuple z z2 hu0
    | lst ds' =>
      obtain ⟨a2, xs2, rfl, q2, hl2⟩ := h'
      cases (show u' = Value.ref a2 from r')
      obtain ⟨its2, rv2, z2⟩ := I.isList q2
      have hu1 : A.units + (depL ds + 1) < cLine := hu
      show SeqAt.EqAt A s _ _ (deqL ds ds')
      by_cases ne : a = a2
      · subst ne
        rw [I.lst_fun q q2] at hl
        rw [isL_fun I ds ds' hl hl2, deqL_refl]
        exact SeqAt.EqAt.same _
      · exact .of_refs ne (eq_lsts I hl hl2 rv rv2 z z2 hu0 (eqL I ds ds' (A := A.in1) hl hl2 rv rv2 (by show A.units + 1 + depL ds < cLine; omega)))
theorem eqL (I : Inv X pins σ H s) : ∀ (ds ds' : List D) {xs xs' : List V} {us us' : List Value} {A : Around}, IsL X.K H ds xs → IsL X.K H ds' xs' → Vals xs us → Vals xs' us' → A.units + depL ds < cLine →
    ∀ (j : Nat) (d d' : D) (u u' : Value), ds[j]? = some d → ds'[j]? = some d' → us[j]? = some u → us'[j]? = some u' → SeqAt.EqAt A s u u' (deq d d')
  | [], _, _, _, _, _, _, _, _, _, _, _, j, d, d', u, u', e, _, _, _ => by simp at e
  | d0 :: ds, ds', xs, xs', us, us', A, hl, hl', rv, rv', hu, j, d, d', u, u', e1, e2, e3, e4 => by
    obtain ⟨x, r, rfl, h1, h2⟩ := hl
    cases ds' with
    | nil => simp at e2
    | cons d0' ds' =>
      obtain ⟨x', r', rfl, h1', h2'⟩ := hl'
      cases rv with
      | cons ra rb =>
        cases rv' with
        | cons ra' rb' =>
          have hu1 : A.units + max (dep d0) (depL ds) < cLine := hu
          cases j with
          | zero =>
            simp only [List.getElem?_cons_zero, Option.some.injEq] at e1 e2 e3 e4
            subst e1 e2 e3 e4
            exact eqD I _ _ h1 h1' ra ra' (by omega)
          | succ j =>
            simp only [List.getElem?_cons_succ] at e1 e2 e3 e4
            exact eqL I ds ds' h2 h2' rb rb' (by omega) j d d' u u' e1 e2 e3 e4
end
/-- == and != of two lists, of two tuples -/
def rEqD (K : PySem.W.Frag) (g : Bool → Bool) : R2 := fun x y H Q => ∃ d d', Is K H d x ∧ Is K H d' y ∧ ((∃ ds ds', d = .tup ds ∧ d' = .tup ds') ∨ ∃ ds ds', d = .lst ds ∧ d' = .lst ds') ∧ dep d ≤ 60 ∧ Q (.bl (g (deq d d'))) H
theorem op_eqS (hu : X.A.units + 64 < cLine) : OpR X (compareOp .Eq) (rEqD X.K id) := by
  intro pins s σ H x y v u Q I rx ry h
  obtain ⟨d, d', h1, h2, sh, hd, q⟩ := h
  rcases sh with ⟨ds, ds', rfl, rfl⟩ | ⟨ds, ds', rfl, rfl⟩
  · obtain ⟨a, xs, rfl, q1, hl⟩ := h1
    obtain ⟨a2, xs2, rfl, q2, hl2⟩ := h2
    cases (show v = Value.ref a from rx)
    cases (show u = Value.ref a2 from ry)
    obtain ⟨its, rv, z⟩ := I.isTup q1
    obtain ⟨its2, rv2, z2⟩ := I.isTup q2
    have hd1 : depL ds + 1 ≤ 60 := hd
    exact (eq_tups I hl hl2 rv rv2 z z2 (by omega) (eqL I ds ds' (A := X.A.in1) hl hl2 rv rv2 (by show X.A.units + 1 + depL ds < cLine; omega))) _ _ _ _ ⟨.bl _, H, I, rfl, q⟩
  · obtain ⟨a, xs, rfl, q1, hl⟩ := h1
    obtain ⟨a2, xs2, rfl, q2, hl2⟩ := h2
    cases (show v = Value.ref a from rx)
    cases (show u = Value.ref a2 from ry)
    obtain ⟨its, rv, z⟩ := I.isList q1
    obtain ⟨its2, rv2, z2⟩ := I.isList q2
    have hd1 : depL ds + 1 ≤ 60 := hd
    exact (eq_lsts I hl hl2 rv rv2 z z2 (by omega) (eqL I ds ds' (A := X.A.in1) hl hl2 rv rv2 (by show X.A.units + 1 + depL ds < cLine; omega))) _ _ _ _ ⟨.bl _, H, I, rfl, q⟩
end
end L2

set_option Elab.async false
set_option linter.all false
set_option maxRecDepth 100000
set_option maxHeartbeats 4000000
namespace L2
open PySem PySem.Spec PyProof.Rows
section
variable {X : Cx} {pins : List (Addr × Obj)} {σ : St} {H : Hp} {s : Shared}
theorem ne_tups {ds ds' : List D} {xs xs' : List V} {us us' : List Value} {a a' : Addr} {A : Around} (I : Inv X pins σ H s) (hl : IsL X.K H ds xs) (hl' : IsL X.K H ds' xs') (rv : Vals xs us) (rv' : Vals xs' us')
    (z : s.heap.IsTuple a us.toArray) (z' : s.heap.IsTuple a' us'.toArray) (hu : A.units < cLine)
    (it : ∀ (j : Nat) (d d' : D) (u u' : Value), ds[j]? = some d → ds'[j]? = some d' → us[j]? = some u → us'[j]? = some u' → SeqAt.EqAt A.in1 s u u' (deq d d')) : SeqAt.RcNeAt A s (.ref a) (.ref a') (!deqL ds ds') := by
  have e1 : us.length = ds.length := by rw [← rv.length, hl.length]
  have e2 : us'.length = ds'.length := by rw [← rv'.length, hl'.length]
  have g := SeqAt.RcNeAt.tuples (e := eqItem ds ds') z z' hu fun j h1 h2 => by
    have g1 : j < ds.length := by rw [← e1]; simpa using h1
    have g2 : j < ds'.length := by rw [← e2]; simpa using h2
    have k1 : ds[j]? = some ds[j] := List.getElem?_eq_getElem g1
    have k2 : ds'[j]? = some ds'[j] := List.getElem?_eq_getElem g2
    unfold eqItem
    rw [getD_of k1, getD_of k2]
    exact it j _ _ _ _ k1 k2 (by simp) (by simp)
  have en : ((List.range (min us.toArray.size us'.toArray.size)).all (eqItem ds ds') && us.toArray.size == us'.toArray.size) = deqL ds ds' := by
    simp only [List.size_toArray, e1, e2]
    by_cases q : ds.length = ds'.length
    · rw [← q, Nat.min_self, eqItems q, beq_self_eq_true, Bool.and_true]
    · rw [deqL_lengths q, (beq_eq_false_iff_ne.mpr q), Bool.and_false]
  rw [en] at g
  exact g
theorem op_neT (hu : X.A.units + 64 < cLine) : OpR X (compareOp .NotEq) (fun x y H Q => ∃ ds ds', Is X.K H (.tup ds) x ∧ Is X.K H (.tup ds') y ∧ depL ds ≤ 50 ∧ Q (.bl (!deqL ds ds')) H) := by
  intro pins s σ H x y v u Q I rx ry h
  obtain ⟨ds, ds', ⟨a, xs, rfl, q1, hl⟩, ⟨a2, xs2, rfl, q2, hl2⟩, hd, q⟩ := h
  cases (show v = Value.ref a from rx)
  cases (show u = Value.ref a2 from ry)
  obtain ⟨its, rv, z⟩ := I.isTup q1
  obtain ⟨its2, rv2, z2⟩ := I.isTup q2
  exact (ne_tups I hl hl2 rv rv2 z z2 (by omega) (eqL I ds ds' (A := X.A.in1) hl hl2 rv rv2 (by show X.A.units + 1 + depL ds < cLine; omega))) _ _ _ _ ⟨.bl _, H, I, rfl, q⟩
end
end L2

set_option Elab.async false
set_option linter.all false
set_option maxRecDepth 100000
set_option maxHeartbeats 4000000
/-! A list comprehension with one for and at most one if. -/
namespace L2
open PySem PySem.Spec PyProof.Rows
section
variable {prog : Program} {w : World} {A : Around} {R : Result → Shared → Prop} {s : Shared}
/-- the turns of a comprehension in which nothing is raised -/
theorem compLoop_any {elt target iter : Expr} {ifs : List Expr} {scope : Scope} {pos : Pos} {it acc : Value} {env : Env} (J : Nat → Shared → Prop)
    (turn : ∀ n s, J n s → wpAny (model prog w) A (pyNext it) (fun r s1 => match r with
      | none => R (.ok .next) s1
      | some v => wpAny (model prog w) A (letOwnedTupleGo target it v) (fun _ s2 => wpAny (model prog w) A (assign target env v) (fun _ s3 =>
          wpAny (model prog w) A (forIn ifs true fun c r => if r = true then do let ok ← isTrue c env (eval c env); pure (ForInStep.yield ok) else pure (ForInStep.yield r)) (fun ok s4 =>
            if ok = true then wpAny (model prog w) A (eval elt env) (fun x s5 => wpAny (model prog w) A (call (.builtin "list.append") [acc, x]) (fun _ s6 => ∃ m, m < n ∧ J m s6) (fun _ _ => False) s5) (fun _ _ => False) s4
            else ∃ m, m < n ∧ J m s4) (fun _ _ => False) s3) (fun _ _ => False) s2) (fun _ _ => False) s1) (fun _ _ => False) s)
    (n : Nat) (h : J n s) : codeAny (model prog w) A (.compLoop (.ListComp elt [⟨target, iter, ifs, 0⟩] scope pos) 0 it acc env) R s := by
  refine codeAny_loop rfl J (fun n s hJ => ?_) n h
  show wpAny _ A ((compTurn (.ListComp elt [⟨target, iter, ifs, 0⟩] scope pos) 0 it acc env).onRaise (fun x => do noteFrame x env; theTreesLotGoes x)) _ _ s
  refine wpAny_noted ?_
  rw [compTurn_list]
  refine wpAny_bind (wpAny_standAt (wpAny_bind (wpAny_mono (turn n s hJ) (fun r s1 h1 => ?_) fun _ _ z => z.elim)))
  cases r with
  | none => exact wpAny_pure h1
  | some v =>
    refine wpAny_bind (wpAny_mono h1 (fun _ s2 h2 => wpAny_bind (wpAny_mono h2 (fun _ s3 h3 => wpAny_bind (wpAny_mono h3 (fun ok s4 h4 => ?_) fun _ _ z => z.elim)) fun _ _ z => z.elim)) fun _ _ z => z.elim)
    cases ok with
    | false => exact wpAny_pure ⟨rfl, h4⟩
    | true => exact wpAny_bind (wpAny_bind (wpAny_mono h4 (fun x s5 h5 => wpAny_bind (wpAny_mono h5 (fun _ s6 h6 => wpAny_pure (wpAny_pure ⟨rfl, h6⟩)) fun _ _ z => z.elim)) fun _ _ z => z.elim))
end
/-- the tests of a clause: none, or one -/
def PTs (X : Cx) (ifs : List Expr) (t : TT) : Prop :=
  ∀ (pins : List (Addr × Obj)) (s : Shared) (σ : St) (H : Hp) (Q : Bool → Hp → Prop), Inv X pins σ H s → t σ H Q →
    wpAny (model X.prog X.w) X.A (forIn ifs true fun c r => if r = true then do let ok ← isTrue c X.env (eval c X.env); pure (ForInStep.yield ok) else pure (ForInStep.yield r)) (TP X pins σ Q) X.xe s
def tYes : TT := fun _ H Q => Q true H
theorem pts_nil {X : Cx} : PTs X [] tYes := fun _ _ _ H _ I h => wpAny_tests_nil ⟨H, I, h⟩
/-- the block of a comprehension: its own names, the cells that it reads, its iterator's records -/
abbrev Cx.block (X : Cx) (N : List Str) (sc : Scope) (cl : List (Str × Addr)) (fp : List Addr) (s3 : Shared) (H3 : Hp) : Cx :=
  { X with N := N, s₀ := s3, H₀ := H3, env := compEnvC sc cl s3.heap.objs.size X.env, outer := X.stack, ex := fp, fn := fun _ => false, pn := [], xe := fun _ _ => False }
/-- what is asked of a comprehension's scope -/
structure CompSc (X : Cx) (N : List Str) (sc : Scope) (cl : List (Str × Addr)) (σc : St → St) : Prop where
  kind : sc.kind = .function
  names : ∀ x ∈ sc.names, x.2 = .local → sc.names.lookup x.1 = some .local
  nocell : ∀ y ∈ sc.names, y.2 ≠ .cell
  clos : closureFor sc X.env = pure cl
  sub : ∀ x c, cl.lookup x = some c → X.env.cells.lookup x = some c
  has : ∀ x, ((relabel sc X.env).names.lookup x = some .cell ∨ (relabel sc X.env).names.lookup x = some .free) → ∃ c, cl.lookup x = some c
  len : ∀ σ : St, (σc σ).length = N.length
  cap : ∀ (σ : St) (i : Nat) (x : Str) (v : V), N[i]? = some x → (σc σ)[i]? = some (some v) → ((relabel sc X.env).names.lookup x = some .cell ∨ (relabel sc X.env).names.lookup x = some .free) ∧ (X.env.scope.names.lookup x = some .cell ∨ X.env.scope.names.lookup x = some .free) ∧ ∃ j : Nat, X.N[j]? = some x ∧ σ[j]? = some (some v)
/-- the turns of a comprehension, D its list -/
def compR (J : It) (σ0 : St) (g : TG) (tt : TT) (te : TE) (Q : VK) (H1 : Hp) : Prop := ∀ D, H1 D = none →
  ∃ W : Nat → Nat → St → List V → Hp → Prop, (∃ m, W 0 m σ0 [] (upd H1 D (.lst []))) ∧ ∀ i m σ1 ys H2, W i m σ1 ys H2 → H2 D = some (.lst ys) ∧
    ((J.stop i H2 ∧ Q (.ref D) H2) ∨ (J.go i H2 ∧ ∃ N : St → List V → Hp → Prop, (∀ σ2 ys2 H3, N σ2 ys2 H3 → ∃ m', m' < m ∧ W (i + 1) m' σ2 ys2 H3) ∧
      ∀ x H3, J.yld i H2 x H3 → g x σ1 H3 fun σ2 H4 => tt σ2 H4 fun c H5 => if c = true then te σ2 H5 fun y H6 => H6 D = some (.lst ys) ∧ ys.length < sizeLine ∧ N σ2 (ys ++ [y]) (upd H6 D (.lst (ys ++ [y]))) else N σ2 ys H5))
def tComp (wi : TI) (σc : St → St) (g : TG) (tt : TT) (te : TE) : TE := fun σ H Q => wi σ H fun J H1 => compR J (σc σ) g tt te Q H1
section
variable {X : Cx} {pins : List (Addr × Obj)} {σ : St} {H : Hp} {s : Shared} {N : List Str} {sc : Scope} {cl : List (Str × Addr)} {σc : St → St} {fp : List Addr}
/-- the block begins -/
theorem Inv.block (I : Inv X pins σ H s) (S : CompSc X N sc cl σc) (hf : ∀ b ∈ fp, FpOk X pins H b) (hlt : ∀ b ∈ fp, b < s.heap.objs.size) {h' : Heap} {t' : Nat} (k : ∀ b u, s.heap.get? b = some u → h'.get? b = some u) (hn : h'.Ns s.heap.objs.size fun _ => none) :
    Inv (X.block N sc cl fp s H) [] (σc σ) H { s with heap := h', toks := t' } := by
  have kin : ∀ x, (X.block N sc cl fp s H).env.kindOf x = (relabel sc X.env).names.lookup x := fun _ => rfl
  refine ⟨⟨I.ok.mod, S.kind, I.ok.glob, I.ok.blt, Nat.le_refl _, fun x y c h1 h2 => I.ok.inj x y c (S.sub x c h1) (S.sub y c h2), fun x hx => S.has x hx, fun x c z _ => (nomatch z), I.ok.hd, I.ok.frames, .inl rfl, fun b hb => ⟨Nat.ne_of_lt (hlt b hb), fun x c e => (hf b hb).2.2.2.2.1 x c (S.sub x c e)⟩,
    I.bs, Nat.le_trans I.ok.bsz I.sz, fun b o e hb => ?_, fun b hb z => ?_, I.stack, I.stkFree⟩,
    rfl, I.bare, Un.kept k, ⟨_, hn, fun i x v e1 e2 e3 => ?_⟩, fun x c e => ?_, I.hok.fresh (Nat.le_refl _), fun x c e => I.freeC x c (S.sub x c e), fun p hp => absurd (show p ∈ ([] : List (Addr × Obj)) from hp) (by simp), I.hok.kept k, S.len σ⟩
  · rcases (hf b hb).2.2.2.1 with z | z
    · exact I.ok.noex b o e z
    · exact absurd (Nat.lt_of_lt_of_le (Heap.lt_size e) (Nat.le_trans I.ok.bsz z)) (Nat.lt_irrefl _)
  · rcases List.mem_cons.mp (I.stkSub b z) with y | y
    · exact (hf b hb).2.1 y
    · exact (hf b hb).2.2.1 y
  · obtain ⟨hk, hko, j, hj, hσ⟩ := S.cap σ i x v e1 e2
    obtain ⟨m, hm, hl⟩ := I.loc
    obtain ⟨u, r, l⟩ := hl j x v hj hσ (by rcases hko with z | z; exact .inr (.inl z); exact .inr (.inr z))
    refine ⟨u, r, .inr ⟨hk, ?_⟩⟩
    rcases l with ⟨q, _⟩ | ⟨_, c, hc, q⟩
    · have q' : X.env.scope.names.lookup x = some .local := q
      rcases hko with z | z <;> (rw [z] at q'; cases q')
    · obtain ⟨c', hc'⟩ := S.has x hk
      have e := S.sub x c' hc'
      rw [hc] at e
      cases e
      exact ⟨c, hc', q.keeps k⟩
  · obtain ⟨v, q⟩ := I.cell x c (S.sub x c e)
    exact ⟨v, q.keeps k⟩
end
section
variable {X : Cx} {elt tg iter : Expr} {ifs : List Expr} {sc : Scope} {pos : Pos} {N : List Str} {cl : List (Str × Addr)} {σc : St → St} {wi : TI} {g : TG} {tt : TT} {te : TE}
/-- what holds of the block's own dict behind the turns -/
structure Gone (X : Cx) (pins : List (Addr × Obj)) (H : Hp) (C : Addr) : Prop where
  free : H C = none
  loc : C ≠ X.env.locals
  new : X.s₀.heap.objs.size ≤ C
  cell : ∀ x c, X.env.cells.lookup x = some c → c ≠ C
  pin : ∀ p ∈ X.pn ++ pins, p.1 ≠ C
theorem Inv.gone {pins : List (Addr × Obj)} {σ : St} {H : Hp} {s : Shared} {C : Addr} {h' : Heap} (I : Inv X pins σ H s) (G : Gone X pins H C) (sb : Heap.SameBut C s.heap h') : Inv X pins σ H { s with heap := h' } :=
  I.turned (t' := s.toks) (it := C) (fun b o n q => (sb.2 b n).trans q) G.free G.loc (.inr G.new) G.cell G.pin
/-- the list, the block, its turns -/
theorem comp_core {pins : List (Addr × Obj)} {s2 : Shared} {σ : St} {H2 : Hp} {Q : VK} {RR : Value → Addr → Result → Shared → Prop} {E : Value → Shared → Prop} {it : Addr} {fp : List Addr} {tn : Nat → Heap → Prop} {J : It}
    (hc : X.calm = true) (S : CompSc X N sc cl σc) (hg : ∀ fp s3 H3, PG (X.block N sc cl fp s3 H3) tg g) (ht : ∀ fp s3 H3, PTs (X.block N sc cl fp s3 H3) ifs tt) (he : ∀ fp s3 H3, PE (X.block N sc cl fp s3 H3) elt te)
    (I2 : Inv X pins σ H2 s2) (T : Turn X.prog X.w X.K tg J fp it tn) (st2 : tn 0 s2.heap) (f2 : ∀ b ∈ fp, FpOk X pins H2 b)
    (h2 : ∀ D, H2 D = none → ∃ W : Nat → Nat → St → List V → Hp → Prop, (∃ m, W 0 m (σc σ) [] (upd H2 D (.lst []))) ∧ ∀ i m σ1 ys H2, W i m σ1 ys H2 → H2 D = some (.lst ys) ∧
      ((J.stop i H2 ∧ Q (.ref D) H2) ∨ (J.go i H2 ∧ ∃ N : St → List V → Hp → Prop, (∀ σ2 ys2 H3, N σ2 ys2 H3 → ∃ m', m' < m ∧ W (i + 1) m' σ2 ys2 H3) ∧
        ∀ x H3, J.yld i H2 x H3 → g x σ1 H3 fun σ2 H4 => tt σ2 H4 fun c H5 => if c = true then te σ2 H5 fun y H6 => H6 D = some (.lst ys) ∧ ys.length < sizeLine ∧ N σ2 (ys ++ [y]) (upd H6 D (.lst (ys ++ [y]))) else N σ2 ys H5)))
    (hRR : ∀ D C m s7 H7, Inv X pins σ H7 s7 → s7.heap.Ns C m → Gone X pins H7 C → Q (.ref D) H7 → RR (.ref D) C (.ok .next) s7) :
    wpAny (model X.prog X.w) X.A (newList []) (fun acc s₃ => wpAny (model X.prog X.w) X.A (newFunctionEnv sc X.env.globals cl [] X.env.qual none .none (some X.env)) (fun cenv s₄ =>
      codeAny (model X.prog X.w) X.A (.compStart (.ListComp elt [⟨tg, iter, ifs, 0⟩] sc pos) 0 (.ref it) acc { cenv with scope := relabel sc X.env }) (RR acc cenv.locals) s₄) E s₃) E s2 := by
  -- the list
  refine wpAny_newObj_type ?_
  have hD : H2 s2.heap.objs.size = none := I2.hok.fresh (Nat.le_refl _)
  have I3 : Inv X pins σ (upd H2 s2.heap.objs.size (.lst [])) { s2 with heap := s2.heap.push { cls := .type "list", dict := none, data := .seq ([] : List Value).toArray } } :=
    I2.laid (t' := s2.toks) (fun b u q => Heap.get?_push_of_some _ q) (Nat.le_refl _) ⟨by decide, [], 0, .nil, Heap.get?_push_size _ rfl⟩
  have flt : ∀ b ∈ fp, b < s2.heap.objs.size := fun b hb => by
    obtain ⟨o, e, _⟩ := T.obj _ _ st2 b hb
    exact Heap.lt_size e
  obtain ⟨W, ⟨m0, w0⟩, turn⟩ := h2 s2.heap.objs.size hD
  have f3 : ∀ b ∈ fp, FpOk X pins (upd H2 s2.heap.objs.size (.lst [])) b := fun b hb => ⟨by rw [upd_ne (Nat.ne_of_lt (flt b hb))]; exact (f2 b hb).1, (f2 b hb).2⟩
  have st3 : tn 0 (s2.heap.push { cls := .type "list", dict := none, data := .seq ([] : List Value).toArray }) := T.keep _ _ _ st2 fun b _ o q => Heap.get?_push_of_some _ q
  have sz3 : s2.heap.objs.size ≤ (s2.heap.push { cls := .type "list", dict := none, data := .seq ([] : List Value).toArray }).objs.size := by rw [Heap.size_push]; exact Nat.le_succ _
  generalize s2.heap.push { cls := .type "list", dict := none, data := .seq ([] : List Value).toArray } = h3 at *
  generalize s2.heap.objs.size = D at *
  -- the block's own names
  refine wpAny_newFunctionEnv S.nocell (by intro y hy; simp at hy) (fun h4 hn4 hb4 => ?_) S.kind
  dsimp only at hn4 hb4 ⊢
  have k4 : ∀ b u, h3.get? b = some u → h4.get? b = some u := fun b u q => (hb4.2 b (Nat.ne_of_lt (Heap.lt_size q))).trans (Heap.get?_push_of_some _ q)
  have I4 : Inv (X.block N sc cl fp { s2 with heap := h3 } (upd H2 D (.lst []))) [] (σc σ) (upd H2 D (.lst [])) { s2 with heap := h4, toks := s2.toks + 0 } :=
    I3.block S f3 (fun b hb => Nat.lt_of_lt_of_le (flt b hb) sz3) k4 hn4
  have st4 : tn 0 h4 := T.keep _ _ _ st3 fun b _ o q => k4 b o q
  have fb : ∀ {H' : Hp}, (∀ b ∈ fp, H' b = none) → ∀ b ∈ fp, FpOk (X.block N sc cl fp { s2 with heap := h3 } (upd H2 D (.lst []))) [] H' b := fun hn b hb =>
    ⟨hn b hb, (I4.ok.exf b hb).1, I4.ok.exfs b hb, .inl hb, (I4.ok.exf b hb).2, fun p hp => absurd (show p ∈ ([] : List (Addr × Obj)) from hp) (by simp)⟩
  have fin : ∀ {σ' : St} {H' : Hp} {s' : Shared} {h' : Heap}, Inv (X.block N sc cl fp { s2 with heap := h3 } (upd H2 D (.lst []))) [] σ' H' s' → Heap.SameBut h3.objs.size s'.heap h' → Inv X pins σ H' { s' with heap := h' } := fun {σ' H' s' h'} J' sb => by
    have lt3 : ∀ b o, h3.get? b = some o → b ≠ h3.objs.size := fun b o q => Nat.ne_of_lt (Heap.lt_size q)
    have lo : H' h3.objs.size = none := J'.free
    have hk : HOk X.prog X.w H' h' := fun b u e => (J'.hok b u e).stay (fun c v hcc q => (sb.2 c (by
      rintro rfl
      rcases hcc with z | z
      · subst z; rw [lo] at e; cases e
      · rw [lo] at z; cases z)).trans q) (fun _ q => q) fun _ _ q => q
    refine I3.call' (s' := { s' with heap := h' }) (ch := fp) J'.os ⟨fun b o q n hb hx => (sb.2 b (lt3 b o q)).trans (J'.base.keep b o q n hb hx), fun b o q n hb hx => ?_, fun b o q n hx => J'.base.free b o q n hx, fun b o q hx => ?_, J'.base.tups, J'.base.frzs, J'.base.tbls⟩ hk J'.bare fun b hb => ?_
    · obtain ⟨sl, q1⟩ := J'.base.slot b o q n hb hx
      exact ⟨sl, (sb.2 b (lt3 b o q)).trans q1⟩
    · obtain ⟨o1, q1⟩ := J'.base.there b o q hx
      exact ⟨o1, (sb.2 b (lt3 b o q)).trans q1⟩
    · exact ⟨(f3 b hb).2.2.2.1, (f3 b hb).2.1, (f3 b hb).2.2.2.2.1, (f3 b hb).2.2.2.2.2⟩
  have loop : ∀ s5 : Shared, Inv (X.block N sc cl fp { s2 with heap := h3 } (upd H2 D (.lst []))) [] (σc σ) (upd H2 D (.lst [])) s5 → tn 0 s5.heap →
      codeAny (model X.prog X.w) X.A (.compLoop (.ListComp elt [⟨tg, iter, ifs, 0⟩] sc pos) 0 (.ref it) (.ref D) (compEnvC sc cl h3.objs.size X.env)) (RR (.ref D) h3.objs.size) s5 := fun s5 I5 st5 => by
    refine compLoop_any (fun n s' => ∃ i σ' ys H', Inv (X.block N sc cl fp { s2 with heap := h3 } (upd H2 D (.lst []))) [] σ' H' s' ∧ tn i s'.heap ∧ (∀ b ∈ fp, H' b = none) ∧ W i n σ' ys H') ?_ m0 ⟨0, _, [], _, I5, st5, fun b hb => (f3 b hb).1, w0⟩
    rintro n s6 ⟨i, σ6, ys, H6, I6, st6, fr6, w6⟩
    obtain ⟨hDy, step⟩ := turn i n σ6 ys H6 w6
    rcases step with ⟨stop, q6⟩ | ⟨go, Nx, hN, step⟩
    · refine thn (T.done (X.block N sc cl fp { s2 with heap := h3 } (upd H2 D (.lst []))) rfl rfl rfl hc i [] s6 σ6 H6 (fun _ _ => False) I6 (fb fr6) st6 stop) fun r s7 ⟨hr, I7⟩ => ?_
      subst hr
      obtain ⟨m7, hm7, _⟩ := I7.loc
      refine hRR D h3.objs.size m7 s7 H6 (fin I7 ⟨rfl, fun _ _ => rfl⟩) hm7 ⟨I7.free, Nat.ne_of_gt I3.lt, I3.sz, fun x c e => ?_, fun p hp => ?_⟩ q6
      · obtain ⟨v, z⟩ := I3.cell x c e
        exact Nat.ne_of_lt z.lt
      · exact Nat.ne_of_lt (Heap.lt_size (I3.pin p hp).1)
    · refine thn (T.item (X.block N sc cl fp { s2 with heap := h3 } (upd H2 D (.lst []))) rfl rfl rfl hc i [] s6 σ6 H6 (fun _ _ => False) I6 (fb fr6) st6 go) fun r s7 ⟨u, hr, h7⟩ => ?_
      subst hr
      refine thn h7 fun _ s8 ⟨x, H8, I8, r8, y8, st8, fr8⟩ => ?_
      have I8' := I8.pinned (fb fr8) (T.obj _ _ st8)
      refine thn (hg _ _ _ _ s8 σ6 H8 x u _ I8' r8 (step x H8 y8)) fun _ s9 ⟨σ9, H9, I9, q9⟩ => ?_
      refine thn (ht _ _ _ _ s9 σ9 H9 _ I9 q9) fun c sA ⟨HA, IA, qA⟩ => ?_
      have again : ∀ {σB : St} {HB : Hp} {sB : Shared} {zs : List V}, Inv (X.block N sc cl fp { s2 with heap := h3 } (upd H2 D (.lst []))) ([] ++ pinsAt fp s8.heap) σB HB sB → Nx σB zs HB →
          ∃ m, m < n ∧ ∃ i σ' ys H', Inv (X.block N sc cl fp { s2 with heap := h3 } (upd H2 D (.lst []))) [] σ' H' sB ∧ tn i sB.heap ∧ (∀ b ∈ fp, H' b = none) ∧ W i m σ' ys H' := fun {σB HB sB zs} IB nB => by
        obtain ⟨m', hm, wB⟩ := hN σB zs HB nB
        refine ⟨m', hm, i + 1, σB, zs, HB, IB.unpinned, T.keep _ _ _ st8 fun b hb o e => (IB.pin (b, o) (List.mem_append_right _ (List.mem_append_right _ (mem_pinsAt hb e)))).1, fun b hb => ?_, wB⟩
        obtain ⟨o, e, d⟩ := T.obj _ _ st8 b hb
        exact (IB.pin (b, o) (List.mem_append_right _ (List.mem_append_right _ (mem_pinsAt hb e)))).2.1
      cases c with
      | false => exact again IA qA
      | true =>
        refine thn (he _ _ _ _ sA σ9 HA _ IA qA) fun y sB ⟨yv, HB, IB, rB, dB, lB, qB⟩ => ?_
        exact thn (mt_append (X := X.block N sc cl fp { s2 with heap := h3 } (upd H2 D (.lst []))) _ sB σ9 HB (.ref D) [yv] (.ref D) [y] (fun v H' => v = .non ∧ Nx σ9 (ys ++ [yv]) H') IB rfl (.cons rB .nil) ⟨D, ys, yv, rfl, rfl, dB, lB, rfl, qB⟩) fun _ sC ⟨_, HC, IC, _, _, qC⟩ => again IC qC
  refine codeAny_compStart_list (loop _ I4 st4) ?_
  exact T.self _ 0 _ _ _ st4 (loop _ I4 st4)
theorem pe_comp (hc : X.calm = true) (S : CompSc X N sc cl σc) (hi : PI X tg iter wi) (hg : ∀ fp s3 H3, PG (X.block N sc cl fp s3 H3) tg g) (ht : ∀ fp s3 H3, PTs (X.block N sc cl fp s3 H3) ifs tt) (he : ∀ fp s3 H3, PE (X.block N sc cl fp s3 H3) elt te)
    (hs : ∀ x, foldedSetIterable iter X.env x = pure x := by intro _; rfl) : PE X (.ListComp elt [⟨tg, iter, ifs, 0⟩] sc pos) (tComp wi σc g tt te) := by
  intro pins s σ H Q I h
  rw [eval_ListComp]
  refine wpAny_comprehension_free rfl hs S.clos S.kind S.names (thn (hi pins s σ H _ I h) fun v s1 h1 => thn h1 fun itv s2 h2 => ?_)
  obtain ⟨it, fp, tn, J, H2, e, I2, T, st2, f2, h2⟩ := h2
  subst e
  exact comp_core (Q := Q) hc S hg ht he I2 T st2 f2 h2 fun D C m s7 H7 I7 n7 G q => ⟨m, n7, fun h' sb => ⟨.ref D, H7, I7.gone G sb, rfl, q⟩⟩
end
/-! ### iterators of Python's own that keep no tuple -/
end L2

set_option Elab.async false
set_option linter.all false
set_option maxRecDepth 100000
set_option maxHeartbeats 4000000
/-! zip of two tuples, for a loop or a comprehension with two names. -/
namespace L2
open PySem PySem.Spec PyProof.Rows
section
variable {prog : Program} {w : World} {A : Around} {s : Shared}
end
/-- where a zip's records lie: apart from each other and from what its iterators read -/
structure ZAp (z TI TO i1 i2 : Addr) (f1 f2 : List Addr) : Prop where
  TIz : TI ≠ z
  TOz : TO ≠ z
  i1z : i1 ≠ z
  i2z : i2 ≠ z
  TITO : TI ≠ TO
  TIi1 : TI ≠ i1
  TIi2 : TI ≠ i2
  TOi1 : TO ≠ i1
  TOi2 : TO ≠ i2
  i12 : i1 ≠ i2
  z1 : z ∉ f1
  z2 : z ∉ f2
  o1 : TO ∉ f1
  o2 : TO ∉ f2
  b1 : i2 ∉ f1
  b2 : i1 ∉ f2
section
variable {prog : Program} {w : World} {A : Around} {E : Value → Shared → Prop} {s : Shared} {z TI TO i1 i2 : Addr} {f1 f2 : List Addr} {n1 n2 k1 k2 : Nat} {P1 P2 : Nat → Value → Prop} {S1 S2 : Nat → Heap → Prop} {a b : Value}
theorem Draws.but {it c : Addr} {fp : List Addr} {n i : Nat} {P : Nat → Value → Prop} {St : Nat → Heap → Prop} {h h' : Heap} (D : Draws prog w A it fp n P St) (st : St i h) (e : Heap.ExtBut c h h') (hc : c ∉ fp) : St i h' :=
  D.frame _ _ _ st fun b hb o q => e b o (fun x => hc (x ▸ hb)) q
theorem zip_turn {Q : Value → Shared → Prop} (Z : ZAp z TI TO i1 i2 f1 f2) (D1 : Draws prog w A i1 f1 n1 P1 S1) (D2 : Draws prog w A i2 f2 n2 P2 S2) (hz : IsZip s.heap z TI TO .none) (hTI : IsPair s.heap TI (.ref i1) (.ref i2)) (hTO : IsPair s.heap TO a b)
    (g1 : S1 k1 s.heap) (g2 : S2 k2 s.heap) (l1 : k1 < n1) (l2 : k2 < n2)
    (hQ : ∀ x y h' tk, P1 k1 x → P2 k2 y → IsZip h' z TI TO (rawInt s.heap.objs.size) → IsPair h' TO x y → S1 (k1 + 1) h' → S2 (k2 + 1) h' → IsPair h' s.heap.objs.size x y →
      (∀ c o, c ≠ z → c ≠ TO → c ≠ i1 → c ≠ i2 → s.heap.get? c = some o → h'.get? c = some o) → Q (.ref s.heap.objs.size) { s with heap := h', toks := tk }) :
    wpAny (model prog w) A (Builtin.«zip.__next__» ⟨[.ref z], []⟩) (fun fin s' => ∃ v, fin = .done (.ret v) ∧ Q v s') E s := by
  unfold Builtin.«zip.__next__»
  refine wpAny_bind (m := field (.ref z) 2) (wpAny_field hz rfl (x := .bool false) rfl ?_)
  refine wpAny_bind (m := field (.ref z) 3) (wpAny_field hz rfl (x := .ref TI) rfl (wpAny_bind (wpAny_seqItems hTI rfl ?_)))
  refine wpAny_bind (m := Builtin.SmallTypes.ownedTupleIsFree (.ref z)) ?_
  unfold Builtin.SmallTypes.ownedTupleIsFree
  refine wpAny_bind (wpAny_field hz rfl (x := .none) rfl (wpAny_pure ?_))
  simp only [if_true]
  refine wpAny_bind (wpAny_rule (wpAny_bind (wpAny_field hz rfl (x := .ref TO) rfl (wpAny_bind (wpAny_setField_rec hz (by simp) fun hA zA sA => wpAny_bind ?_)))))
  replace zA : IsZip hA z TI TO .ellipsis := zA
  simp only [List.zipIdx_cons, List.zipIdx_nil, List.forIn_cons, List.forIn_nil]
  refine wpAny_bind (wpAny_bind (wpAny_onRaise (wpAny_bind (m := Builtin.SmallTypes.nextOf (.ref i1)) (D1.item k1 _ _ _ l1 (Draws.but D1 g1 sA.extBut Z.z1) fun x hB tB px gB sB => wpAny_pure ?_))))
  have oB : IsPair hB TO a b := sB.extBut _ _ Z.TOi1 (sA.extBut _ _ Z.TOz hTO)
  refine wpAny_bind (wpAny_seqItems oB rfl (wpAny_bind (wpAny_updateSeq_pair oB fun hC oC sC => wpAny_bind (wpAny_letGo (wpAny_pure ?_)))))
  replace oC : IsPair hC TO x b := oC
  refine wpAny_bind (wpAny_bind (wpAny_onRaise (wpAny_bind (m := Builtin.SmallTypes.nextOf (.ref i2)) (D2.item k2 _ _ _ l2 (Draws.but D2 (Draws.but D2 (Draws.but D2 g2 sA.extBut Z.z2) sB.extBut Z.b2) sC.extBut Z.o2) fun y hD tD py gD sD => wpAny_pure ?_))))
  have oD : IsPair hD TO x b := sD.extBut _ _ Z.TOi2 oC
  refine wpAny_bind (wpAny_seqItems oD rfl (wpAny_bind (wpAny_updateSeq_pair oD fun hE oE sE => wpAny_bind (wpAny_letGo (wpAny_pure (wpAny_pure ?_))))))
  replace oE : IsPair hE TO x y := oE
  have zE : IsZip hE z TI TO .ellipsis := sE.extBut _ _ Z.TOz.symm (sD.extBut _ _ Z.i2z.symm (sC.extBut _ _ Z.TOz.symm (sB.extBut _ _ Z.i1z.symm zA)))
  have sz : hE.objs.size = s.heap.objs.size := by rw [sE.1, sD.1, sC.1, sB.1, sA.1]
  have kE : ∀ c o, c ≠ z → c ≠ TO → c ≠ i1 → c ≠ i2 → s.heap.get? c = some o → hE.get? c = some o := fun c o c1 c2 c3 c4 e => sE.extBut _ _ c2 (sD.extBut _ _ c4 (sC.extBut _ _ c2 (sB.extBut _ _ c3 (sA.extBut _ _ c1 e))))
  have d1 : S1 (k1 + 1) hE := Draws.but D1 (Draws.but D1 (Draws.but D1 gB sC.extBut Z.o1) sD.extBut Z.b1) sE.extBut Z.o1
  have d2 : S2 (k2 + 1) hE := Draws.but D2 gD sE.extBut Z.o2
  refine wpAny_bind (wpAny_seqItems oE rfl (wpAny_bind (wpAny_newTuple ?_)))
  refine wpAny_bind (m := Builtin.SmallTypes.ownedTupleHandOut (.ref z) (.ref hE.objs.size)) ?_
  unfold Builtin.SmallTypes.ownedTupleHandOut
  have zF : IsZip (hE.push { cls := .type "tuple", data := .seq #[x, y] }) z TI TO .ellipsis := Heap.get?_push_of_some _ zE
  refine wpAny_bind (wpAny_setField_rec zF (by simp) fun hG zG sG => ?_)
  replace zG : IsZip hG z TI TO (rawInt hE.objs.size) := zG
  refine wpAny_setField_rec zG (by simp) fun hI zI sI => wpAny_pure ⟨_, rfl, ?_⟩
  replace zI : IsZip hI z TI TO (rawInt hE.objs.size) := zI
  have up : ∀ c o, c ≠ z → hE.get? c = some o → hI.get? c = some o := fun c o c1 e => sI.extBut _ _ c1 (sG.extBut _ _ c1 (Heap.get?_push_of_some _ e))
  have zl : hE.objs.size ≠ z := Nat.ne_of_gt (Heap.lt_size zE)
  have tI : IsPair hI hE.objs.size x y := sI.extBut _ _ zl (sG.extBut _ _ zl (Heap.get?_push_size _ rfl))
  show Q (.ref hE.objs.size) _
  rw [sz] at zI tI ⊢
  exact hQ x y hI tD px py zI (up _ _ Z.TOz oE) (D1.frame _ _ _ d1 fun c hc o e => up c o (fun q => Z.z1 (q ▸ hc)) e) (D2.frame _ _ _ d2 fun c hc o e => up c o (fun q => Z.z2 (q ▸ hc)) e) tI fun c o c1 c2 c3 c4 e => up c o c1 (kE c o c1 c2 c3 c4 e)
/-- the first of the two has come to its end (the two are as long as each other, or the first is shorter) -/
theorem zip_over {Q : Fin → Shared → Prop} (Z : ZAp z TI TO i1 i2 f1 f2) (D1 : Draws prog w A i1 f1 n1 P1 S1) (hz : IsZip s.heap z TI TO .none) (hTI : IsPair s.heap TI (.ref i1) (.ref i2))
    (g1 : S1 n1 s.heap)
    (hE : ∀ h' e, (∀ c o, c ≠ z → c ≠ TO → c ≠ i1 → c ≠ i2 → s.heap.get? c = some o → h'.get? c = some o) → (∃ o, h'.get? e = some o ∧ o.cls = .type "StopIteration") → E (.ref e) { s with heap := h' }) :
    wpAny (model prog w) A (Builtin.«zip.__next__» ⟨[.ref z], []⟩) Q E s := by
  unfold Builtin.«zip.__next__»
  refine wpAny_bind (m := field (.ref z) 2) (wpAny_field hz rfl (x := .bool false) rfl ?_)
  refine wpAny_bind (m := field (.ref z) 3) (wpAny_field hz rfl (x := .ref TI) rfl (wpAny_bind (wpAny_seqItems hTI rfl ?_)))
  refine wpAny_bind (m := Builtin.SmallTypes.ownedTupleIsFree (.ref z)) ?_
  unfold Builtin.SmallTypes.ownedTupleIsFree
  refine wpAny_bind (wpAny_field hz rfl (x := .none) rfl (wpAny_pure ?_))
  simp only [if_true]
  refine wpAny_bind (wpAny_rule (wpAny_bind (wpAny_field hz rfl (x := .ref TO) rfl (wpAny_bind (wpAny_setField_rec hz (by simp) fun hA zA sA => wpAny_bind ?_)))))
  replace zA : IsZip hA z TI TO .ellipsis := zA
  simp only [List.zipIdx_cons, List.zipIdx_nil, List.forIn_cons, List.forIn_nil]
  refine wpAny_bind (wpAny_bind (wpAny_onRaise (wpAny_bind (m := Builtin.SmallTypes.nextOf (.ref i1)) (D1.done _ _ _ (Draws.but D1 g1 sA.extBut Z.z1) fun hB e sB he => ?_))))
  obtain ⟨o, ho, c⟩ := he
  have zB : IsZip hB z TI TO .ellipsis := sB _ _ Z.i1z.symm zA
  have ez : e ≠ z := fun q => by
    subst q
    rw [zB] at ho
    cases ho
    simp at c
  exact wpAny_setField_rec zB (by simp) fun hC _ sC => hE hC e (fun c o c1 _ c3 _ q => sC.extBut _ _ c1 (sB _ _ c3 (sA.extBut _ _ c1 q))) ⟨o, sC.extBut _ _ ez ho, c⟩
theorem zip_nextD {Q : Option Value → Shared → Prop} (Z : ZAp z TI TO i1 i2 f1 f2) (D1 : Draws prog w A.in1 i1 f1 n1 P1 S1) (D2 : Draws prog w A.in1 i2 f2 n2 P2 S2) (hz : IsZip s.heap z TI TO .none) (hTI : IsPair s.heap TI (.ref i1) (.ref i2)) (hTO : IsPair s.heap TO a b)
    (g1 : S1 k1 s.heap) (g2 : S2 k2 s.heap) (l1 : k1 < n1) (l2 : k2 < n2)
    (hQ : ∀ x y h' tk, P1 k1 x → P2 k2 y → IsZip h' z TI TO (rawInt s.heap.objs.size) → IsPair h' TO x y → S1 (k1 + 1) h' → S2 (k2 + 1) h' → IsPair h' s.heap.objs.size x y →
      (∀ c o, c ≠ z → c ≠ TO → c ≠ i1 → c ≠ i2 → s.heap.get? c = some o → h'.get? c = some o) → Q (some (.ref s.heap.objs.size)) { s with heap := h', toks := tk }) :
    wpAny (model prog w) A (pyNext (.ref z)) Q E s := by
  have T : s.TypeIs (.ref z) "zip" := ⟨_, hz, rfl⟩
  unfold pyNext
  exact wpAny_bind (wpAny_attempt (wpAny_callSpecial?_slot (name := Str.ofString "__next__") T F.slot_zip_next (wpAny_call_entry F.slot_zip_next T F.entry_zip_next
    (zip_turn Z D1 D2 hz hTI hTO g1 g2 l1 l2 fun x y h' tk a1 a2 a3 a4 a5 a6 a7 a8 => wpAny_pure (hQ x y h' tk a1 a2 a3 a4 a5 a6 a7 a8)) (F.args_zip_next_1 _))))
theorem zip_endD {Q : Option Value → Shared → Prop} (Z : ZAp z TI TO i1 i2 f1 f2) (D1 : Draws prog w A.in1 i1 f1 n1 P1 S1) (hz : IsZip s.heap z TI TO .none) (hTI : IsPair s.heap TI (.ref i1) (.ref i2)) (g1 : S1 n1 s.heap)
    (hQ : ∀ h', (∀ c o, c ≠ z → c ≠ TO → c ≠ i1 → c ≠ i2 → s.heap.get? c = some o → h'.get? c = some o) → Q none { s with heap := h' }) : wpAny (model prog w) A (pyNext (.ref z)) Q E s := by
  have T : s.TypeIs (.ref z) "zip" := ⟨_, hz, rfl⟩
  unfold pyNext
  refine wpAny_bind (wpAny_attempt (wpAny_callSpecial?_slot (name := Str.ofString "__next__") T F.slot_zip_next (wpAny_call_entry F.slot_zip_next T F.entry_zip_next (zip_over Z D1 hz hTI g1 fun h' e k he => ?_) (F.args_zip_next_1 _))))
  obtain ⟨o, ho, c⟩ := he
  exact wpAny_bind (wpAny_isInstance (T := "StopIteration") (b := true) ⟨o, ho, c⟩ isSubtype_stop (wpAny_pure (hQ _ k)))
end
end L2

set_option Elab.async false
set_option linter.all false
set_option maxRecDepth 100000
set_option maxHeartbeats 4000000
/-! zip of two tuples as what a loop walks; all and any; a def that a name holds; rules with their fragment named. -/
namespace L2
open PySem PySem.Spec PyProof.Rows
section
variable {X : Cx} {pins : List (Addr × Obj)} {σ : St} {H : Hp} {s : Shared} {h' : Heap}
/-- records of ours have turned -/
theorem Inv.turnedAll {t' : Nat} {ch : List Addr} (I : Inv X pins σ H s) (hf : ∀ b ∈ ch, FpOk X pins H b) (k : ∀ b o, b ∉ ch → s.heap.get? b = some o → h'.get? b = some o) : Inv X pins σ H { s with heap := h', toks := t' } := by
  have nit : ∀ b u, H b = some u → b ∉ ch := fun b u e z => by rw [(hf b z).1] at e; cases e
  refine I.step (g' := s.gens) (d' := s.drawn) (ch := ch) (fun b hb => ⟨(hf b hb).2.2.2.1, (hf b hb).2.1, (hf b hb).2.2.2.2⟩) (fun b o _ _ hc e _ => k b o hc e) (fun b o _ _ hc e _ => ⟨o.slots, k b o hc e⟩) (fun _ _ _ _ n => n)
    (fun b o hc e => ⟨o, k b o hc e⟩) (fun _ _ e => e) (fun _ _ _ e => e) (fun b ps e => ⟨#[], by rw [e]; simp⟩) (fun m hm => ?_) (fun b u e => ?_) I.bare
  · obtain ⟨o, es, ep, ho, r⟩ := hm
    exact ⟨o, es, ep, k _ o (fun z => (hf _ z).2.1 rfl) ho, r⟩
  · refine (I.hok b u e).stay (fun c v hc q => k c v ?_ q) (fun _ q => q) fun _ _ q => q
    rcases hc with z | z
    · rw [z]; exact nit b u e
    · exact nit c _ z
/-- .. and a new object has been laid -/
theorem Inv.turnedLaid {t' : Nat} {ch : List Addr} {T : Addr} {o : HO} (I : Inv X pins σ H s) (hf : ∀ b ∈ ch, FpOk X pins H b) (k : ∀ b o, b ∉ ch → s.heap.get? b = some o → h'.get? b = some o) (hp : s.heap.objs.size ≤ T) (new : ObjOk X.prog X.w (upd H T o) h' T o) :
    Inv X pins σ (upd H T o) { s with heap := h', toks := t' } := by
  have nit : ∀ b u, H b = some u → b ∉ ch := fun b u e z => by rw [(hf b z).1] at e; cases e
  have hn := I.hok.fresh hp
  have up : ∀ {b u}, H b = some u → upd H T o b = some u := fun {b u} e => by rw [upd_ne (ne_of_none e hn)]; exact e
  refine I.step (g' := s.gens) (d' := s.drawn) (ch := ch) (fun b hb => ⟨(hf b hb).2.2.2.1, (hf b hb).2.1, (hf b hb).2.2.2.2⟩) (fun b o _ _ hc e _ => k b o hc e) (fun b o _ _ hc e _ => ⟨o.slots, k b o hc e⟩) (fun b u _ e n => ?_)
    (fun b o hc e => ⟨o, k b o hc e⟩) (fun _ _ e => up e) (fun _ _ _ e => up e) (fun b ps e => ⟨#[], by rw [up e]; simp⟩) (fun m hm => ?_) (fun b u e => ?_) I.bare
  · rw [upd_ne (fun z => absurd (Heap.lt_size e) (by rw [z]; exact Nat.not_lt.mpr hp))]
    exact n
  · obtain ⟨o, es, ep, ho, r⟩ := hm
    exact ⟨o, es, ep, k _ o (fun z => (hf _ z).2.1 rfl) ho, r⟩
  · by_cases hb : b = T
    · subst hb
      rw [upd_same] at e
      cases e
      exact new
    · rw [upd_ne hb] at e
      refine (I.hok b u e).stay (fun c v hc q => k c v ?_ q) (fun _ q => up q) fun _ _ q => up q
      rcases hc with z | z
      · rw [z]; exact nit b u e
      · exact nit c _ z
end
end L2

set_option Elab.async false
set_option linter.all false
set_option maxRecDepth 100000
set_option maxHeartbeats 4000000
namespace L2
open PySem PySem.Spec PyProof.Rows
theorem bt_zip : bootBuiltins "zip" = some (.type "zip") := by decide +kernel
theorem out2 {c x y : Nat} (h1 : c ≠ x) (h2 : c ≠ y) : c ∉ [x, y] := fun z => by
  rcases List.mem_cons.mp z with z | z
  · exact h1 z
  · exact h2 (by simpa using z)
theorem zap_of {m a b : Nat} (la : a < m) (lb : b < m) : ZAp (m + 4) (m + 2) (m + 3) m (m + 1) [m, a] [m + 1, b] where
  TIz := (by omega : (m + 2 : Nat) ≠ m + 4)
  TOz := (by omega : (m + 3 : Nat) ≠ m + 4)
  i1z := (by omega : (m : Nat) ≠ m + 4)
  i2z := (by omega : (m + 1 : Nat) ≠ m + 4)
  TITO := (by omega : (m + 2 : Nat) ≠ m + 3)
  TIi1 := (by omega : (m + 2 : Nat) ≠ m)
  TIi2 := (by omega : (m + 2 : Nat) ≠ m + 1)
  TOi1 := (by omega : (m + 3 : Nat) ≠ m)
  TOi2 := (by omega : (m + 3 : Nat) ≠ m + 1)
  i12 := (by omega : (m : Nat) ≠ m + 1)
  z1 := out2 (by omega) (by omega)
  z2 := out2 (by omega) (by omega)
  o1 := out2 (by omega) (by omega)
  o2 := out2 (by omega) (by omega)
  b1 := out2 (by omega) (by omega)
  b2 := out2 (by omega) (by omega)
section
variable {X : Cx}
end
/-! ### the fragment named -/
section
variable {X : Cx} {tg l : Expr} {tl : TE} (K : PySem.W.Frag) (hK : X.K = K)
include hK
end
end L2

set_option Elab.async false
set_option linter.all false
set_option maxRecDepth 100000
set_option maxHeartbeats 4000000
namespace L2
open PySem PySem.Spec PyProof.Rows
end L2

set_option Elab.async false
set_option linter.all false
set_option maxRecDepth 100000
set_option maxHeartbeats 4000000
/-! What readings of many laws want. -/
namespace L2
open PySem PySem.Spec PyProof.Rows
theorem iteTb {b : Bool} {A B : Prop} (e : b = true) (h : A) : if b = true then A else B := by rw [if_pos e]; exact h
theorem iteFb {b : Bool} {A B : Prop} (e : b = false) (h : B) : if b = true then A else B := by rw [if_neg (by rw [e]; decide)]; exact h
theorem iteB {b : Bool} {A B : Prop} (h1 : b = true → A) (h2 : b = false → B) : if b = true then A else B := by
  cases b with
  | true => exact iteT (h1 rfl)
  | false => exact iteF (h2 rfl)
theorem few {n : Nat} (h : Nat.ble n 1000 = true) : n ≤ sizeLine := Nat.le_of_lt (small1000 (Nat.le_of_ble_eq_true h))
section
variable {K : PySem.W.Frag} {H : Hp} {xs ys : List V} {a b : Addr} {Q : VK}
end
end L2

set_option Elab.async false
set_option linter.all false
set_option maxRecDepth 100000
set_option maxHeartbeats 4000000
/-! Comprehensions that read names from around them; with a test; dicts of the top. -/
namespace L2
open PySem PySem.Spec PyProof.Rows
def capS (js : List (Option Nat)) (σ : St) : St := js.map fun o => match o with | none => none | some j => (σ[j]?).getD none
def capC (fr : List Str) (cells : List (Str × Addr)) : List (Str × Addr) := fr.filterMap fun x => (cells.lookup x).map fun c => (x, c)
def capOk (js : List (Option Nat)) (N M : List Str) (inn out : List (Str × NameKind)) : Bool :=
  (js.zip N).all fun p => match p.1 with
    | none => true
    | some j => (M[j]? == some p.2) && ((inn.lookup p.2 == some .cell) || (inn.lookup p.2 == some .free)) && ((out.lookup p.2 == some .cell) || (out.lookup p.2 == some .free))
theorem kind_or {L : List (Str × NameKind)} {x : Str} (h : ((L.lookup x == some NameKind.cell) || (L.lookup x == some NameKind.free)) = true) : L.lookup x = some .cell ∨ L.lookup x = some .free := by
  rw [Bool.or_eq_true] at h
  rcases h with h | h
  · exact .inl (eq_of_beq h)
  · exact .inr (eq_of_beq h)
theorem capC_lookup {fr : List Str} {cells : List (Str × Addr)} {x : Str} (h : x ∈ fr) (e : (cells.lookup x).isSome = true) : ∃ c, (capC fr cells).lookup x = some c := by
  obtain ⟨c, hc⟩ := Option.isSome_iff_exists.mp e
  induction fr with
  | nil => cases h
  | cons y r ih =>
    unfold capC
    rw [List.filterMap_cons]
    by_cases q : y = x
    · subst q
      rw [hc]
      exact ⟨c, by simp⟩
    · have hr : x ∈ r := by
        rcases List.mem_cons.mp h with z | z
        · exact absurd z.symm q
        · exact z
      cases e2 : cells.lookup y with
      | none => exact ih hr
      | some d =>
        obtain ⟨c', hc'⟩ := ih hr
        refine ⟨c', ?_⟩
        show List.lookup x ((y, d) :: capC r cells) = some c'
        rw [List.lookup_cons, beq_eq_false_iff_ne.mpr (Ne.symm q)]
        exact hc'
/-- the scope of a comprehension that reads the names fr from around it -/
theorem comp_scF {X : Cx} {N : List Str} {sc : Scope} (fr : List Str) (js : List (Option Nat)) (hk : sc.kind = .function) (hn : ∀ x ∈ sc.names, x.2 = .local → sc.names.lookup x.1 = some .local) (hc : ∀ y ∈ sc.names, y.2 ≠ .cell)
    (clos : closureFor sc X.env = pure (capC fr X.env.cells)) (hall : (fr.all fun x => (X.env.cells.lookup x).isSome) = true)
    (hhas : ((relabel sc X.env).names.all fun y => (y.2 != .cell && y.2 != .free) || fr.contains y.1) = true) (hl : js.length = N.length) (hcap : capOk js N X.N (relabel sc X.env).names X.env.scope.names = true) :
    CompSc X N sc (capC fr X.env.cells) (capS js) := by
  have lk : ∀ (x : Str) (M : List (Str × NameKind)) (k : NameKind), M.lookup x = some k → (x, k) ∈ M := fun x M k h => PySem.mem_of_lookup h
  refine ⟨hk, hn, hc, clos, fun x c h => ?_, fun x h => ?_, fun σ => ?_, fun σ i x v e1 e2 => ?_⟩
  · have m := PySem.mem_of_lookup h
    obtain ⟨y, _, e⟩ := List.mem_filterMap.mp m
    obtain ⟨d, hd, e'⟩ := Option.map_eq_some_iff.mp e
    cases e'
    exact hd
  · have hm : x ∈ fr := by
      rcases h with h | h <;>
      · have q := List.all_eq_true.mp hhas _ (lk x _ _ h)
        rw [Bool.or_eq_true] at q
        rcases q with q | q
        · simp at q
        · simpa using q
    exact capC_lookup hm (List.all_eq_true.mp hall x hm)
  · unfold capS
    rw [List.length_map, hl]
  · unfold capS at e2
    rw [List.getElem?_map] at e2
    obtain ⟨o, ho, e2⟩ := Option.map_eq_some_iff.mp e2
    cases o with
    | none => cases e2
    | some j =>
      have hz : (some j, x) ∈ js.zip N := by
        refine List.mem_iff_getElem?.mpr ⟨i, ?_⟩
        rw [List.getElem?_zip_eq_some]
        exact ⟨ho, e1⟩
      have q := List.all_eq_true.mp hcap _ hz
      simp only [Bool.and_eq_true] at q
      refine ⟨kind_or q.1.2, kind_or q.2, j, eq_of_beq q.1.1, ?_⟩
      replace e2 : (σ[j]?).getD none = some v := e2
      cases e3 : σ[j]? with
      | none => rw [e3] at e2; cases e2
      | some o' => rw [e3] at e2; rw [show o' = some v from e2]
end L2

set_option Elab.async false
set_option linter.all false
set_option maxRecDepth 100000
set_option maxHeartbeats 4000000
/-! reversed of a tuple, of a list -/
namespace RevF
open PySem PySem.Spec PyProof.Rows
end RevF

set_option Elab.async false
set_option linter.all false
set_option maxRecDepth 100000
set_option maxHeartbeats 4000000
namespace RevF
open PySem PySem.Spec PyProof.Rows
section
variable {prog : Program} {w : World} {A : Around} {E : Value → Shared → Prop} {s : Shared} {a it : Addr} {us : Array Value}
end
end RevF

set_option Elab.async false
set_option linter.all false
set_option maxRecDepth 100000
set_option maxHeartbeats 4000000
/-! reversed of a tuple; a tuple's slice or sum, whatever it comes to; a dict of the top; lower, upper. -/
namespace L2
open PySem PySem.Spec PyProof.Rows
section
variable {X : Cx}
end
/-! ### t[a:b], t + u: whatever comes of it -/
section
variable {prog : Program} {w : World} {A : Around} {E : Value → Shared → Prop} {s : Shared}
end
section
variable {X : Cx}
end
/-! ### a dict of the top, which nobody changes -/
section
variable {X : Cx} {o e f : Expr} {apos cpos : Pos} {td ty tx : TE}
end
/-! ### lower, upper -/
section
variable {X : Cx}
end
end L2

set_option Elab.async false
set_option linter.all false
set_option maxRecDepth 100000
set_option maxHeartbeats 4000000
/-! reversed of a list; list of an iterator -/
namespace RevF
open PySem PySem.Spec PyProof.Rows
end RevF

set_option Elab.async false
set_option linter.all false
set_option maxRecDepth 100000
set_option maxHeartbeats 4000000
namespace RevF
open PySem PySem.Spec PyProof.Rows
section
variable {prog : Program} {w : World} {A : Around} {E : Value → Shared → Prop} {s : Shared} {a it : Addr} {us : Array Value}
end
end RevF

set_option linter.all false
namespace TextM
open PySem
end TextM

set_option Elab.async false
set_option linter.all false
set_option maxRecDepth 100000
set_option maxHeartbeats 4000000
/-! list(reversed(l)); join, split; a part of a text. -/
namespace L2
open PySem PySem.Spec PyProof.Rows
section
variable {X : Cx}
/-! ### join, split -/
end
end L2

set_option Elab.async false
set_option linter.all false
set_option maxRecDepth 100000
set_option maxHeartbeats 4000000
/-! l != l; isinstance of one of several; a part of a text; try, whatever the heap. -/
namespace L2
open PySem PySem.Spec PyProof.Rows
section
variable {X : Cx} {pins : List (Addr × Obj)} {σ : St} {H : Hp} {s : Shared}
theorem ne_lsts {ds ds' : List D} {xs xs' : List V} {us us' : List Value} {a a' : Addr} {A : Around} (I : Inv X pins σ H s) (hl : IsL X.K H ds xs) (hl' : IsL X.K H ds' xs') (rv : Vals xs us) (rv' : Vals xs' us')
    (z : s.heap.IsList a us.toArray) (z' : s.heap.IsList a' us'.toArray) (hu : A.units < cLine)
    (it : ∀ (j : Nat) (d d' : D) (u u' : Value), ds[j]? = some d → ds'[j]? = some d' → us[j]? = some u → us'[j]? = some u' → SeqAt.EqAt A.in1 s u u' (deq d d')) : SeqAt.RcNeAt A s (.ref a) (.ref a') (!deqL ds ds') := by
  have e1 : us.length = ds.length := by rw [← rv.length, hl.length]
  have e2 : us'.length = ds'.length := by rw [← rv'.length, hl'.length]
  by_cases q : ds.length = ds'.length
  · have g := SeqAt.RcNeAt.lists (e := eqItem ds ds') z z' (by simp only [List.size_toArray, e1, e2, q]) hu fun j h1 h2 => by
      have g1 : j < ds.length := by rw [← e1]; simpa using h1
      have g2 : j < ds'.length := by rw [← e2]; simpa using h2
      have k1 : ds[j]? = some ds[j] := List.getElem?_eq_getElem g1
      have k2 : ds'[j]? = some ds'[j] := List.getElem?_eq_getElem g2
      unfold eqItem
      rw [getD_of k1, getD_of k2]
      exact it j _ _ _ _ k1 k2 (by simp) (by simp)
    rw [show us.toArray.size = ds.length by simp [e1], eqItems q] at g
    exact g
  · rw [deqL_lengths q]
    exact SeqAt.RcNeAt.lists_lengths z z' (by simp only [List.size_toArray, e1, e2]; exact bne_iff_ne.mpr q) hu
theorem op_neL (hu : X.A.units + 64 < cLine) : OpR X (compareOp .NotEq) (fun x y H Q => ∃ ds ds', Is X.K H (.lst ds) x ∧ Is X.K H (.lst ds') y ∧ depL ds ≤ 50 ∧ Q (.bl (!deqL ds ds')) H) := by
  intro pins s σ H x y v u Q I rx ry h
  obtain ⟨ds, ds', ⟨a, xs, rfl, q1, hl⟩, ⟨a2, xs2, rfl, q2, hl2⟩, hd, q⟩ := h
  cases (show v = Value.ref a from rx)
  cases (show u = Value.ref a2 from ry)
  obtain ⟨its, rv, z⟩ := I.isList q1
  obtain ⟨its2, rv2, z2⟩ := I.isList q2
  exact (ne_lsts I hl hl2 rv rv2 z z2 (by omega) (eqL I ds ds' (A := X.A.in1) hl hl2 rv rv2 (by show X.A.units + 1 + depL ds < cLine; omega))) _ _ _ _ ⟨.bl _, H, I, rfl, q⟩
end
/-! ### isinstance(x, (C, D, ..)) -/
section
variable {X : Cx}
/-! ### a part of a text -/
end
end L2

set_option Elab.async false
set_option linter.all false
set_option maxRecDepth 100000
set_option maxHeartbeats 4000000
/-! Methods and new instances, where an exception is wanted as the frame says; fields with the fragment named. -/
namespace L2
open PySem PySem.Spec PyProof.Rows
section
variable {X : Cx} {CX : CXT} {k : Nat} {f C : Addr} {fd : FuncData} {ps : List Str} {sp : Sp} {dvs : List V} {ds : List Value} {E : XS} {x m : Str} {p pos apos : Pos} {e o : Expr} {es : List Expr} {ta : TE} {t : TA}
end
section
variable {X : Cx}
/-! ### sorted of a list of texts -/
theorem bt_sorted : bootBuiltins "sorted" = some (.builtin "sorted") := by decide +kernel
end
end L2

set_option Elab.async false
set_option linter.all false
set_option maxRecDepth 100000
set_option maxHeartbeats 4000000
/-! The lesser and the greater of two texts; sorted of whatever can be collected; how many keys a dict has. -/
namespace L2
open PySem PySem.Spec PyProof.Rows
section
variable {prog : Program} {w : World} {A : Around} {E : Value → Shared → Prop} {s : Shared}
end
section
variable {X : Cx}
end
end L2

set_option Elab.async false
set_option linter.all false
set_option maxRecDepth 100000
set_option maxHeartbeats 4000000
/-! setdefault of a dict whose keys are tuples. -/
namespace L2
open PySem PySem.Spec PyProof.Rows
section
variable {prog : Program} {w : World} {K : Type} [DecidableEq K] {knd : HeapKind prog w K} {A : Around} {E : Value → Shared → Prop} {s : Shared}
end
section
variable {X : Cx} {pins : List (Addr × Obj)} {σ : St} {H : Hp} {s : Shared} {a b : Addr} {kvs : List (List Key × V)} {k : List Key} {d : V} {r : Value} {A : Around} {E : Value → Shared → Prop}
end
section
variable {X : Cx} {o e f : Expr} {apos cpos : Pos} {td ty tx : TE}
end
end L2

set_option Elab.async false
set_option linter.all false
set_option maxRecDepth 100000
set_option maxHeartbeats 4000000
/-! sorted of a dict whose keys are texts. -/
namespace L2
open PySem PySem.Spec PyProof.Rows PySem.W
section
variable {prog : Program} {w : World} {A : Around} {E : Value → Shared → Prop} {s : Shared} {T : String} {r d : Addr} {n : Nat} {P : Nat → Value → Prop} {OK : Heap → Prop}
end
section
variable {X : Cx}
end
end L2

set_option Elab.async false
set_option linter.all false
set_option maxRecDepth 100000
set_option maxHeartbeats 4000000
/-! the greatest of a list of whole numbers -/
namespace L2
open PySem PySem.Spec PyProof.Rows
theorem ints_pack : ∀ {us : List Value} {is : List Int}, Vals (is.map V.int) us → ∃ ps : List (Int × Tok), us = ps.map (fun p => Value.int p.1 p.2) ∧ ps.map (·.1) = is
  | us, [], r => by cases r; exact ⟨[], rfl, rfl⟩
  | us, i :: is, r => by
    cases r with
    | cons h t =>
      obtain ⟨tk, rfl⟩ := h
      obtain ⟨ps, rfl, e⟩ := ints_pack t
      exact ⟨(i, tk) :: ps, rfl, by rw [List.map_cons, e]⟩
section
variable {X : Cx}
end
end L2

set_option Elab.async false
set_option linter.all false
set_option maxRecDepth 100000
set_option maxHeartbeats 4000000
/-! a dict stands frozen while it is walked -/
namespace L2
open PySem PySem.Spec PyProof.Rows
section
variable {X : Cx} {pins : List (Addr × Obj)} {σ : St} {H H' : Hp} {s : Shared} {d : Addr} {kvs : List (Key × V)} {o : Obj}
end
end L2

set_option Elab.async false
set_option linter.all false
set_option maxRecDepth 100000
set_option maxHeartbeats 4000000
/-! sorted and min of a list of whole numbers; enumerate of a list; zip of two lists; a list turned about by a slice -/
namespace L2
open PySem PySem.Spec PyProof.Rows
theorem vals_of_ints : ∀ {us : List Value} {zs : List Int}, IntsAre us zs → Vals (zs.map V.int) us
  | _, _, .nil => .nil
  | _, _, .cons y t r => .cons ⟨t, rfl⟩ (vals_of_ints r)
theorem argBest_low (val : Nat → Int) : ∀ k : Nat, argBest (fun i j => decide (val i < val j)) k ≤ k ∧ ∀ i, i ≤ k → val (argBest (fun i j => decide (val i < val j)) k) ≤ val i
  | 0 => ⟨Nat.le_refl _, fun i hi => by have : i = 0 := by omega
                                        subst this; exact Int.le_refl _⟩
  | k + 1 => by
    obtain ⟨h1, h2⟩ := argBest_low val k
    show (if decide (val (k + 1) < val (argBest _ k)) = true then k + 1 else argBest _ k) ≤ k + 1 ∧ ∀ i, i ≤ k + 1 → val (if decide (val (k + 1) < val (argBest _ k)) = true then k + 1 else argBest _ k) ≤ val i
    by_cases h : val (k + 1) < val (argBest (fun i j => decide (val i < val j)) k)
    · rw [if_pos (decide_eq_true h)]
      refine ⟨Nat.le_refl _, fun i hi => ?_⟩
      by_cases e : i = k + 1
      · subst e; exact Int.le_refl _
      · have := h2 i (by omega)
        omega
    · rw [if_neg (by rw [decide_eq_false h]; decide)]
      refine ⟨by omega, fun i hi => ?_⟩
      by_cases e : i = k + 1
      · subst e; omega
      · exact h2 i (by omega)
section
variable {X : Cx}
theorem call_sortedI (K : PySem.W.Frag) (hK : X.K = K := by rfl) : CallR X (.builtin "sorted") (fun xs H Q => ∃ (l : Addr) (zs : List Int), xs = [.ref l] ∧ SqL K H l (zs.map V.int) ∧ zs.length < 64 ∧ ∀ (D : Addr) (zs' : List Int), H D = none → zs'.Perm zs → zs'.Pairwise (· ≤ ·) → Q (.ref D) (upd H D (.lst (zs'.map V.int)))) := by
  subst hK
  intro pins s σ H xs us Q I r h
  obtain ⟨l, zs, rfl, hq, hl, q⟩ := h
  obtain ⟨u, rfl, ru⟩ := vals1 r
  cases (show u = Value.ref l from ru)
  obtain ⟨its, rv, pl, hz⟩ := I.list hq
  have hlen := rv.length
  rw [List.length_map] at hlen
  refine sorted_ints pl.isList (intsAre_of rv) (by omega) fun out zs' so hp hs => ?_
  obtain ⟨e, he⟩ := sortedAll_at s.heap its out
  have hle : s.heap.objs.size ≤ s.heap.objs.size + 1 := Nat.le_succ _
  have hl2 : zs'.length = zs.length := hp.length_eq
  refine ⟨.ref _, _, I.laid (t' := s.toks) (o := .lst (zs'.map V.int)) (fun b u q => sortedAll_old q) hle (show ObjOk X.prog X.w _ _ _ (.lst (zs'.map V.int)) from ⟨by rw [List.length_map]; exact Nat.le_of_lt (small1000 (by omega)), out.toList, e, vals_of_ints so, he⟩), rfl, q _ zs' (I.hok.fresh hle) hp hs⟩
theorem call_minL (K : PySem.W.Frag) (hc : X.calm = true) (hK : X.K = K := by rfl) : CallR X (.builtin "min") (fun xs H Q => ∃ (l : Addr) (is : List Int), xs = [.ref l] ∧ SqL K H l (is.map V.int) ∧ is ≠ [] ∧ ∀ m, m ∈ is → (∀ x ∈ is, m ≤ x) → Q (.int m) H) := by
  subst hK
  intro pins s σ H xs us Q I r h
  obtain ⟨l, is, rfl, hq, hne, q⟩ := h
  obtain ⟨u, rfl, ru⟩ := vals1 r
  cases (show u = Value.ref l from ru)
  obtain ⟨its, rv, pl, hz⟩ := I.list hq
  obtain ⟨ps, rfl, rfl⟩ := ints_pack rv
  have hl : s.heap.IsList l (intItems ps.toArray) := by
    have := pl.isList
    rwa [show (ps.map fun p => Value.int p.1 p.2).toArray = intItems ps.toArray by simp [intItems]] at this
  have hpos : 0 < ps.length := List.length_pos_iff.mpr (fun e => hne (by rw [e]; rfl))
  refine min_intList (I.ok.hd hc) hl (by simpa using hpos) fun v h' tk e k => ?_
  obtain ⟨b1, b2⟩ := argBest_low (numAt ps.toArray) (ps.toArray.size - 1)
  obtain ⟨t, rfl⟩ := intItems_at e
  generalize argBest (fun i j => decide (numAt ps.toArray i < numAt ps.toArray j)) (ps.toArray.size - 1) = n at *
  have hn : n < ps.length := by rw [List.size_toArray] at b1; omega
  have val : ∀ i (hi : i < ps.length), numAt ps.toArray i = (ps[i]).1 := fun i hi => by simp [numAt, hi]
  refine ⟨.int (numAt ps.toArray n), H, I.kept k, ⟨t, rfl⟩, q _ ?_ fun x hx => ?_⟩
  · rw [val n hn]
    exact List.mem_map.mpr ⟨ps[n], List.getElem_mem _, rfl⟩
  · obtain ⟨p, hp, rfl⟩ := List.mem_map.mp hx
    obtain ⟨i, hi, rfl⟩ := List.getElem_of_mem hp
    rw [← val i hi]
    exact b2 i (by rw [List.size_toArray]; omega)
/-- xs[::-1] -/
def tRevL (K : PySem.W.Frag) (te : TE) (th : TO) : TE := fun σ H Q => te σ H fun x H1 => th σ H1 fun u H2 => ∃ a xs, x = .ref a ∧ u = some (-1) ∧ SqL K H2 a xs ∧ ∀ p, H2 p = none → Q (.ref p) (upd H2 p (.lst xs.reverse))
theorem pe_sliceRev (K : PySem.W.Frag) {e st : Expr} {te : TE} {th : TO} {p2 pos : Pos} (he : PE X e te) (hu : PO X (some st) th) (hK : X.K = K := by rfl) : PE X (.Subscript e (.Slice none none (some st) p2) pos) (tRevL K te th) := by
  subst hK
  intro pins s σ H Q I h
  refine Subscript_ (thn (he pins s σ H _ I h) fun v s1 ⟨x, H1, I1, r1, q1⟩ => ?_)
  refine wpAny_Slice (wpAny_evalPart_none (wpAny_evalPart_none (thn (hu pins s1 σ H1 _ I1 q1) fun vu s3 ⟨u, H3, I3, pu, q3⟩ => ?_)))
  obtain ⟨a, xs, rfl, rfl, hx, q⟩ := q3
  cases (show v = Value.ref a from r1)
  have I4 : Inv X pins σ H3 { s3 with heap := s3.heap.push { cls := .type "slice", data := .fields #[.none, .none, vu] } } := I3.kept (t' := s3.toks) fun b ob q => Heap.get?_push_of_some _ q
  obtain ⟨its, r, ht, hz⟩ := I4.list hx
  have hlen := r.length
  show wpAny (model X.prog X.w) X.A (subscriptTail e (.Slice none none (some st) p2) (.ref a) (.ref s3.heap.objs.size)) (EP X pins σ Q) X.xe { s3 with heap := s3.heap.push { cls := .type "slice", data := .fields #[.none, .none, vu] } }
  refine tail_any (ops := [.ref a, .ref s3.heap.objs.size]) ht.isList.typeIs slot_list_getitem.lookup ?_ (by with_unfolding_all rfl)
  refine wpAny_getItem_list_slice ht.isList (Heap.IsSliceOf.new ..) .none .none pu (by decide) ?_ (by rw [List.size_toArray]; omega)
  rw [PySem.W.krv_pick]
  refine ⟨.ref _, _, I4.laid (t' := s3.toks) (o := .lst xs.reverse) (fun b ob q => Heap.get?_push_of_some _ q) (Nat.le_refl _) ?_, rfl, q _ (I4.hok.fresh (Nat.le_refl _))⟩
  exact ⟨by rw [List.length_reverse]; exact hz, _, 0, r.reverse, Heap.get?_push_size _ rfl⟩
end
/-! ### enumerate of a list -/
theorem bt_enumerate : bootBuiltins "enumerate" = some (.type "enumerate") := by decide +kernel
/-- the list at a, counted from 0 -/
def Ite (K : PySem.W.Frag) (a : Addr) : It :=
  ⟨fun i H => ∃ xs x, SqL K H a xs ∧ xs[i]? = some x,
   fun i H v H' => ∃ T x, H T = none ∧ v = .ref T ∧ (∀ xs, SqL K H a xs → xs[i]? = some x) ∧ H' = upd H T (.tup [.int i, x]),
   fun i H => ∃ xs, SqL K H a xs ∧ xs.length = i⟩
def ESt (e it a : Addr) (i : Nat) (h : Heap) : Prop := (∃ old, IsEnum h e it ((i : Nat) : Int) old) ∧ h.IsListIter it a i
theorem turn_enum {P : Program} {w : World} {K : PySem.W.Frag} {es : List Expr} {n : Nat} {pos : Pos} {e it a : Addr} (hei : e ≠ it) (hea : e ≠ a) (hai : a ≠ it) :
    Turn P w K (.Tuple es n pos) (Ite K a) [e, it] e (ESt e it a) where
  mem := by simp
  obj := fun i h ⟨⟨old, h1⟩, ⟨o2, h2, _, d2⟩⟩ c hc => by
    simp only [List.mem_cons, List.not_mem_nil, or_false] at hc
    rcases hc with rfl | rfl
    · exact ⟨_, h1, fun v q => by cases q⟩
    · exact ⟨_, h2, fun v q => by rw [d2] at q; cases q⟩
  keep := fun i h h' ⟨⟨old, h1⟩, ⟨o2, h2, r2⟩⟩ k => ⟨⟨old, k _ (by simp) _ h1⟩, ⟨o2, k _ (by simp) _ h2, r2⟩⟩
  item := by
    intro X hP hw hK hc i pins s σ H E I hf ⟨⟨old, h1⟩, h2⟩ ⟨xs, x, qa, ex⟩
    subst hP hw hK
    obtain ⟨as, ra, pl, la⟩ := I.list qa
    have hh : X.A.in1.handled = none := I.ok.hd hc
    have la' := ra.length
    have lx : i < as.toArray.size := by
      have := (List.getElem?_eq_some_iff.mp ex).1
      simp only [List.size_toArray]; omega
    refine wpAny_pyNext_enum_itemD (Draws.list hh it a hai as.toArray) h1 ⟨h2, pl.isList⟩ lx hei (by simp [hei, hea]) fun u1 h' tk p1 z1 g1 t1 hsz k => ?_
    refine ⟨_, rfl, wpAny_letOwnedTupleGo_enum z1 fun h'' z2 sb => ?_⟩
    have le : e < s.heap.objs.size := Heap.lt_size h1
    have ne : s.heap.objs.size ≠ e := Nat.ne_of_gt le
    obtain ⟨v1, e1, r1⟩ := ra.get ex
    have q1 : v1 = u1 := by
      have p : as[i]? = some u1 := by simpa using p1
      rw [e1] at p
      exact Option.some.inj p
    subst q1
    have kk : ∀ c o, c ∉ [e, it] → s.heap.get? c = some o → h''.get? c = some o := fun c o hc e => by
      simp only [List.mem_cons, List.not_mem_nil, or_false, not_or] at hc
      exact sb.extBut _ _ hc.1 (k c o hc.1 hc.2 e)
    have tt := sb.extBut _ _ ne t1
    have I' := I.turnedLaid (t' := tk + 1) (o := .tup [.int i, x]) hf kk (Nat.le_refl _) (show ObjOk X.prog X.w _ h'' _ (.tup [.int i, x]) from ⟨small1000 (by simp), [.int i tk, v1], .cons ⟨tk, rfl⟩ (.cons r1 .nil), ⟨_, tt, rfl, _, rfl⟩⟩)
    refine ⟨.ref s.heap.objs.size, _, I', rfl, ⟨s.heap.objs.size, x, I.hok.fresh (Nat.le_refl _), rfl, fun zs hz => by rw [I.list_inj hz qa]; exact ex, rfl⟩, ?_, fun c hc => ?_⟩
    · exact ⟨⟨_, z2⟩, g1.1.extBut sb.extBut hei.symm⟩
    · have hlt : c < s.heap.objs.size := by
        simp only [List.mem_cons, List.not_mem_nil, or_false] at hc
        obtain ⟨o4, e4, _⟩ := h2
        rcases hc with rfl | rfl
        · exact le
        · exact Heap.lt_size e4
      rw [upd_ne (Nat.ne_of_lt hlt)]
      exact (hf c hc).1
  done := by
    intro X hP hw hK hc i pins s σ H E I hf ⟨⟨old, h1⟩, h2⟩ ⟨xs, qa, hl⟩
    subst hP hw hK
    obtain ⟨as, ra, pl, la⟩ := I.list qa
    have hh : X.A.in1.handled = none := I.ok.hd hc
    have e' : i = as.toArray.size := by
      have := ra.length
      simp only [List.size_toArray]; omega
    subst e'
    refine wpAny_pyNext_enum_endD (Draws.list hh it a hai as.toArray) h1 ⟨h2, pl.isList⟩ fun h' k => ⟨rfl, I.turnedAll (t' := s.toks) hf fun c o hc q => ?_⟩
    simp only [List.mem_cons, List.not_mem_nil, or_false, not_or] at hc
    exact k c o hc.2 q
  self := fun _ _ _ _ _ ⟨⟨_, st⟩, _⟩ h => wpAny_pyIter_enum st h
section
variable {X : Cx}
def iEnum (K : PySem.W.Frag) (ta : TA) : TI := fun σ H R => ta σ H fun vs H1 => ∃ a, vs = [.ref a] ∧ (∃ xs, SqL K H1 a xs) ∧ R (Ite K a) H1
theorem pi_enum (K : PySem.W.Frag) {e1 : Expr} {ta : TA} {p pos pos' : Pos} {es : List Expr} {n : Nat} (hg : Gl X "enumerate") (hm : X.mg "enumerate" = none) (ha : PA X [e1] ta) (hK : X.K = K := by rfl)
    (hs : starEach [e1] X.env = (false, eval e1 X.env) :: starEach [] X.env := by rfl) (hpl : (backTo pos (starEach [] X.env)).any (·.1) = false := by rfl) : PI X (.Tuple es n pos') (.Call (.Name "enumerate" p) [e1] [] pos) (iEnum K ta) := by
  subst hK
  intro pins s σ H R I h
  refine wpAny_Call_Name_kw (ld_blt I hg hm bt_enumerate (PyProof.Rows.callWith_type1 (thn (ha pos pins s σ H _ I h) fun us s1 ⟨vs, H1, I1, r1, q1⟩ => ?_) hs hpl))
  obtain ⟨a, e, ⟨xs, qa⟩, q⟩ := q1
  subst e
  obtain ⟨u, rfl, ra⟩ := vals1 r1
  cases (show u = Value.ref a from ra)
  obtain ⟨as, ka, pl, _⟩ := I1.list qa
  have la : a < s1.heap.objs.size := by obtain ⟨o, e, _⟩ := pl.isList; exact Heap.lt_size e
  refine call_enumerate_list pl.isList fun h' hE hI hsz k => wpAny_pyIter_enum hE ?_
  refine ⟨s1.heap.objs.size + 1, _, _, _, H1, rfl, I1.kept (t' := s1.toks) k, turn_enum (a := a) (Nat.succ_ne_self _) (Nat.ne_of_gt (Nat.lt_succ_of_lt la)) (Nat.ne_of_lt la), ⟨⟨_, hE⟩, hI⟩, fun c hc => ?_, q⟩
  have hle : s1.heap.objs.size ≤ c := by
    simp only [List.mem_cons, List.not_mem_nil, or_false] at hc
    rcases hc with rfl | rfl
    · exact Nat.le_add_right _ 1
    · exact Nat.le_refl _
  exact I1.fpOk hle (I1.hok.fresh hle)
end
/-! ### zip of two lists -/
def ItzL (K : PySem.W.Frag) (a b : Addr) : It :=
  ⟨fun i H => ∃ xs ys x y, SqL K H a xs ∧ SqL K H b ys ∧ xs[i]? = some x ∧ ys[i]? = some y,
   fun i H v H' => ∃ T x y, H T = none ∧ v = .ref T ∧ (∀ xs, SqL K H a xs → xs[i]? = some x) ∧ (∀ ys, SqL K H b ys → ys[i]? = some y) ∧ H' = upd H T (.tup [x, y]),
   fun i H => ∃ xs, SqL K H a xs ∧ xs.length = i⟩
def ZStL (z TI TO i1 i2 a b : Addr) (i : Nat) (h : Heap) : Prop := IsZip h z TI TO .none ∧ IsPair h TI (.ref i1) (.ref i2) ∧ (∃ u v, IsPair h TO u v) ∧ h.IsListIter i1 a i ∧ h.IsListIter i2 b i
theorem turn_zipL {P : Program} {w : World} {K : PySem.W.Frag} {es : List Expr} {n : Nat} {pos : Pos} {z TI TO i1 i2 a b : Addr} (Z : ZAp z TI TO i1 i2 [i1, a] [i2, b]) (ha : a ≠ i1) (hb : b ≠ i2) :
    Turn P w K (.Tuple es n pos) (ItzL K a b) [z, TI, TO, i1, i2] z (ZStL z TI TO i1 i2 a b) where
  mem := by simp
  obj := fun i h ⟨h1, h2, ⟨u, v, h3⟩, ⟨o4, h4, _, d4⟩, ⟨o5, h5, _, d5⟩⟩ c hc => by
    simp only [List.mem_cons, List.not_mem_nil, or_false] at hc
    rcases hc with rfl | rfl | rfl | rfl | rfl
    · exact ⟨_, h1, fun v q => by cases q⟩
    · exact ⟨_, h2, fun v q => by cases q⟩
    · exact ⟨_, h3, fun v q => by cases q⟩
    · exact ⟨_, h4, fun v q => by rw [d4] at q; cases q⟩
    · exact ⟨_, h5, fun v q => by rw [d5] at q; cases q⟩
  keep := fun i h h' ⟨h1, h2, ⟨u, v, h3⟩, ⟨o4, h4, r4⟩, ⟨o5, h5, r5⟩⟩ k => ⟨k _ (by simp) _ h1, k _ (by simp) _ h2, ⟨u, v, k _ (by simp) _ h3⟩, ⟨o4, k _ (by simp) _ h4, r4⟩, ⟨o5, k _ (by simp) _ h5, r5⟩⟩
  item := by
    intro X hP hw hK hc i pins s σ H E I hf ⟨h1, h2, ⟨u, v, h3⟩, h4, h5⟩ ⟨xs, ys, x, y, qa, qb, ex, ey⟩
    subst hP hw hK
    obtain ⟨as, ra, pa, la⟩ := I.list qa
    obtain ⟨bs, rb, pb, lb⟩ := I.list qb
    have hh : X.A.in1.handled = none := I.ok.hd hc
    have la' := ra.length
    have lb' := rb.length
    have lx : i < as.toArray.size := by
      have := (List.getElem?_eq_some_iff.mp ex).1
      simp only [List.size_toArray]; omega
    have ly : i < bs.toArray.size := by
      have := (List.getElem?_eq_some_iff.mp ey).1
      simp only [List.size_toArray]; omega
    refine zip_nextD Z (Draws.list hh i1 a ha as.toArray) (Draws.list hh i2 b hb bs.toArray) h1 h2 h3 ⟨h4, pa.isList⟩ ⟨h5, pb.isList⟩ lx ly fun u1 u2 h' tk p1 p2 z1 o1 g1 g2 t1 k => ?_
    refine ⟨_, rfl, wpAny_letOwnedTupleGo_zip z1 fun h'' z2 sb => ?_⟩
    have lz : z < s.heap.objs.size := Heap.lt_size h1
    have nz : s.heap.objs.size ≠ z := Nat.ne_of_gt lz
    obtain ⟨v1, e1, r1⟩ := ra.get ex
    obtain ⟨v2, e2, r2⟩ := rb.get ey
    have q1 : v1 = u1 := by
      have p : as[i]? = some u1 := by simpa using p1
      rw [e1] at p
      exact Option.some.inj p
    have q2 : v2 = u2 := by
      have p : bs[i]? = some u2 := by simpa using p2
      rw [e2] at p
      exact Option.some.inj p
    subst q1 q2
    have kk : ∀ c o, c ∉ [z, TI, TO, i1, i2] → s.heap.get? c = some o → h''.get? c = some o := fun c o hc e => by
      simp only [List.mem_cons, List.not_mem_nil, or_false, not_or] at hc
      exact sb.extBut _ _ hc.1 (k c o hc.1 hc.2.2.1 hc.2.2.2.1 hc.2.2.2.2 e)
    have tt : IsPair h'' s.heap.objs.size v1 v2 := sb.extBut _ _ nz t1
    have I' := I.turnedLaid (t' := tk) (o := .tup [x, y]) hf kk (Nat.le_refl _) (show ObjOk X.prog X.w _ h'' _ (.tup [x, y]) from ⟨small1000 (by simp), [v1, v2], .cons r1 (.cons r2 .nil), ⟨_, tt, rfl, _, rfl⟩⟩)
    refine ⟨.ref s.heap.objs.size, _, I', rfl, ⟨s.heap.objs.size, x, y, I.hok.fresh (Nat.le_refl _), rfl, fun zs hz => by rw [I.list_inj hz qa]; exact ex, fun zs hz => by rw [I.list_inj hz qb]; exact ey, rfl⟩, ?_, fun c hc => ?_⟩
    · exact ⟨z2, sb.extBut _ _ Z.TIz (k _ _ Z.TIz Z.TITO Z.TIi1 Z.TIi2 h2), ⟨_, _, sb.extBut _ _ Z.TOz o1⟩, g1.1.extBut sb.extBut Z.i1z, g2.1.extBut sb.extBut Z.i2z⟩
    · have hlt : c < s.heap.objs.size := by
        simp only [List.mem_cons, List.not_mem_nil, or_false] at hc
        obtain ⟨o4, e4, _⟩ := h4
        obtain ⟨o5, e5, _⟩ := h5
        rcases hc with rfl | rfl | rfl | rfl | rfl
        · exact lz
        · exact Heap.lt_size h2
        · exact Heap.lt_size h3
        · exact Heap.lt_size e4
        · exact Heap.lt_size e5
      rw [upd_ne (Nat.ne_of_lt hlt)]
      exact (hf c hc).1
  done := by
    intro X hP hw hK hc i pins s σ H E I hf ⟨h1, h2, ⟨u, v, h3⟩, h4, h5⟩ ⟨xs, qa, hl⟩
    subst hP hw hK
    obtain ⟨as, ra, pa, la⟩ := I.list qa
    have hh : X.A.in1.handled = none := I.ok.hd hc
    have e : i = as.toArray.size := by
      have := ra.length
      simp only [List.size_toArray]; omega
    subst e
    refine zip_endD (f2 := [i2, b]) Z (Draws.list hh i1 a ha as.toArray) h1 h2 ⟨h4, pa.isList⟩ fun h' k => ⟨rfl, I.turnedAll (t' := s.toks) hf fun c o hc e => ?_⟩
    simp only [List.mem_cons, List.not_mem_nil, or_false, not_or] at hc
    exact k c o hc.1 hc.2.2.1 hc.2.2.2.1 hc.2.2.2.2 e
  self := fun _ _ _ _ _ st h => wpAny_pyIter_zip st.1 h
section
variable {X : Cx}
def iZipL (K : PySem.W.Frag) (ta : TA) : TI := fun σ H R => ta σ H fun vs H1 => ∃ a b, vs = [.ref a, .ref b] ∧ (∃ xs, SqL K H1 a xs) ∧ (∃ ys, SqL K H1 b ys) ∧ R (ItzL K a b) H1
theorem pi_zipL (K : PySem.W.Frag) {e1 e2 : Expr} {ta : TA} {p pos pos' : Pos} {es : List Expr} {n : Nat} (hg : Gl X "zip") (hm : X.mg "zip" = none) (ha : PA X [e1, e2] ta) (hK : X.K = K := by rfl)
    (hs : starEach [e1, e2] X.env = (false, eval e1 X.env) :: starEach [e2] X.env := by rfl) (hpl : (backTo pos (starEach [e2] X.env)).any (·.1) = false := by rfl) : PI X (.Tuple es n pos') (.Call (.Name "zip" p) [e1, e2] [] pos) (iZipL K ta) := by
  subst hK
  intro pins s σ H R I h
  refine wpAny_Call_Name_kw (ld_blt I hg hm bt_zip (PyProof.Rows.callWith_type1 (thn (ha pos pins s σ H _ I h) fun us s1 ⟨vs, H1, I1, r1, q1⟩ => ?_) hs hpl))
  obtain ⟨a, b, e, ⟨xs, qa⟩, ⟨ys, qb⟩, q⟩ := q1
  subst e
  obtain ⟨u, v, rfl, ra, rb⟩ := vals2 r1
  cases (show u = Value.ref a from ra)
  cases (show v = Value.ref b from rb)
  obtain ⟨as, ka, pa, _⟩ := I1.list qa
  obtain ⟨bs, kb, pb, _⟩ := I1.list qb
  have la : a < s1.heap.objs.size := by obtain ⟨o, e, _⟩ := pa.isList; exact Heap.lt_size e
  have lb : b < s1.heap.objs.size := by obtain ⟨o, e, _⟩ := pb.isList; exact Heap.lt_size e
  refine call_zip_2 pa.isList pb.isList fun h' hz hTI hTO hi1 hi2 hsz k => wpAny_pyIter_zip hz ?_
  have Z := zap_of la lb
  refine ⟨s1.heap.objs.size + 4, _, _, _, H1, rfl, I1.kept (t' := s1.toks) k, turn_zipL Z (Nat.ne_of_lt la) (Nat.ne_of_lt (Nat.lt_succ_of_lt lb)), ⟨hz, hTI, ⟨_, _, hTO⟩, hi1, hi2⟩, fun c hc => ?_, q⟩
  have hle : s1.heap.objs.size ≤ c := by
    simp only [List.mem_cons, List.not_mem_nil, or_false] at hc
    rcases hc with rfl | rfl | rfl | rfl | rfl
    · exact Nat.le_add_right _ 4
    · exact Nat.le_add_right _ 2
    · exact Nat.le_add_right _ 3
    · exact Nat.le_refl _
    · exact Nat.le_add_right _ 1
  have e := I1.fpOk hle (I1.hok.fresh hle)
  exact e
end
/-! ### loops over these, and a comprehension whose results are made on the way -/
theorem for_enum {K : PySem.W.Frag} {a : Addr} {xs : List V} {g : TG} {tb : TS} {D : Ends} {σ : St} {H : Hp} (Pv : Nat → St → Hp → Prop) (h0 : Pv 0 σ H) (hl : ∀ i σ H, i ≤ xs.length → Pv i σ H → SqL K H a xs)
    (hs : ∀ i x σ H T, xs[i]? = some x → H T = none → Pv i σ H → g (.ref T) σ (upd H T (.tup [.int i, x])) fun σ2 H2 => tb { D with nx := Pv (i + 1), ct := Pv (i + 1), bk := D.nx } σ2 H2) (hd : ∀ σ H, Pv xs.length σ H → D.nx σ H) :
    ∃ W : Nat → Nat → St → Hp → Prop, (∃ m, W 0 m σ H) ∧ ∀ i m σ H, W i m σ H →
      ((Ite K a).stop i H ∧ D.nx σ H) ∨ ((Ite K a).go i H ∧ ∃ N : St → Hp → Prop, (∀ σ' H', N σ' H' → ∃ m', m' < m ∧ W (i + 1) m' σ' H') ∧ ∀ x H', (Ite K a).yld i H x H' → g x σ H' fun σ2 H2 => tb { D with nx := N, ct := N, bk := D.nx } σ2 H2) := by
  refine ⟨fun i m σ H => m = xs.length - i ∧ i ≤ xs.length ∧ Pv i σ H, ⟨xs.length, by simp, Nat.zero_le _, h0⟩, ?_⟩
  rintro i m σ H ⟨rfl, hi, p⟩
  have q := hl i σ H hi p
  by_cases hlt : i < xs.length
  · refine .inr ⟨⟨xs, xs[i], q, by simp [hlt]⟩, Pv (i + 1), fun σ' H' p' => ⟨xs.length - (i + 1), by omega, rfl, hlt, p'⟩, fun x H' y => ?_⟩
    obtain ⟨T, z, nT, rfl, e, rfl⟩ := y
    exact hs i z σ H T (e xs q) nT p
  · have e : i = xs.length := by omega
    subst e
    exact .inl ⟨⟨xs, q, rfl⟩, hd σ H p⟩
theorem for_zipL {K : PySem.W.Frag} {a b : Addr} {xs ys : List V} {g : TG} {tb : TS} {D : Ends} {σ : St} {H : Hp} (hlen : xs.length = ys.length) (Pv : Nat → St → Hp → Prop) (h0 : Pv 0 σ H) (hl : ∀ i σ H, i ≤ xs.length → Pv i σ H → SqL K H a xs ∧ SqL K H b ys)
    (hs : ∀ i x y σ H T, xs[i]? = some x → ys[i]? = some y → H T = none → Pv i σ H → g (.ref T) σ (upd H T (.tup [x, y])) fun σ2 H2 => tb { D with nx := Pv (i + 1), ct := Pv (i + 1), bk := D.nx } σ2 H2) (hd : ∀ σ H, Pv xs.length σ H → D.nx σ H) :
    ∃ W : Nat → Nat → St → Hp → Prop, (∃ m, W 0 m σ H) ∧ ∀ i m σ H, W i m σ H →
      ((ItzL K a b).stop i H ∧ D.nx σ H) ∨ ((ItzL K a b).go i H ∧ ∃ N : St → Hp → Prop, (∀ σ' H', N σ' H' → ∃ m', m' < m ∧ W (i + 1) m' σ' H') ∧ ∀ x H', (ItzL K a b).yld i H x H' → g x σ H' fun σ2 H2 => tb { D with nx := N, ct := N, bk := D.nx } σ2 H2) := by
  refine ⟨fun i m σ H => m = xs.length - i ∧ i ≤ xs.length ∧ Pv i σ H, ⟨xs.length, by simp, Nat.zero_le _, h0⟩, ?_⟩
  rintro i m σ H ⟨rfl, hi, p⟩
  obtain ⟨q1, q2⟩ := hl i σ H hi p
  by_cases hlt : i < xs.length
  · refine .inr ⟨⟨xs, ys, xs[i], ys[i], q1, q2, by simp [hlt], List.getElem?_eq_getElem (by omega)⟩, Pv (i + 1), fun σ' H' p' => ⟨xs.length - (i + 1), by omega, rfl, hlt, p'⟩, fun x H' y => ?_⟩
    obtain ⟨T, z, u, nT, rfl, e1, e2, rfl⟩ := y
    exact hs i z u σ H T (e1 xs q1) (e2 ys q2) nT p
  · have e : i = xs.length := by omega
    subst e
    exact .inl ⟨⟨xs, q1, rfl⟩, hd σ H p⟩
/-- H' is H but for what lies at D -/
def But1 (D : Addr) (H H' : Hp) : Prop := ∀ b u, b ≠ D → H b = some u → H' b = some u
theorem comp_runD {J : It} {σ0 : St} {g : TG} {te : TE} {Q : VK} {H1 : Hp} (n : Nat) (P : Nat → Hp → V → Prop) (mono : ∀ i H H' v D xs, P i H v → H D = some (.lst xs) → But1 D H H' → P i H' v) (hn : n < sizeLine) (σP : St → Prop) (h0 : σP σ0)
    (go : ∀ i H, i < n → Same H1 H → J.go i H) (stop : ∀ H, Same H1 H → J.stop n H)
    (step : ∀ i σ H x H', i < n → σP σ → Same H1 H → J.yld i H x H' → ∀ C : V → St → Hp → Prop, (∀ y σ2 H6, σP σ2 → Same H H6 → P i H6 y → C y σ2 H6) → g x σ H' fun σ2 H4 => te σ2 H4 fun y' H6 => C y' σ2 H6)
    (fin : ∀ D ys H', H1 D = none → Same H1 H' → H' D = some (.lst ys) → ys.length = n → (∀ i y, ys[i]? = some y → P i H' y) → Q (.ref D) H') : compR J σ0 g tYes te Q H1 := by
  intro D hD
  have keep : ∀ {H : Hp} {o : HO}, Same H1 H → Same H1 (upd H D o) := fun {H o} e b u q => by
    rw [upd_ne (ne_of_none q hD)]
    exact e b u q
  refine ⟨fun i m σ ys H => i ≤ n ∧ m = n - i ∧ σP σ ∧ ys.length = i ∧ (∀ j y, ys[j]? = some y → P j H y) ∧ H D = some (.lst ys) ∧ Same H1 H, ⟨_, Nat.zero_le _, rfl, h0, rfl, fun j y e => by simp at e, upd_same, keep (Same.refl H1)⟩, ?_⟩
  rintro i m σ ys H ⟨hi, rfl, p, hy, hP, hd, sm⟩
  refine ⟨hd, ?_⟩
  by_cases lt : i < n
  · refine .inr ⟨go i H lt sm, fun σ2 ys2 H3 => σP σ2 ∧ ys2.length = i + 1 ∧ (∀ j y, ys2[j]? = some y → P j H3 y) ∧ H3 D = some (.lst ys2) ∧ Same H1 H3, fun σ2 ys2 H3 ⟨a, b, c, d, e⟩ => ⟨_, by omega, lt, rfl, a, b, c, d, e⟩, fun x H3 y => ?_⟩
    refine step i σ H x H3 lt p sm y (fun y' σ2 H6 => H6 D = some (.lst ys) ∧ ys.length < sizeLine ∧ σP σ2 ∧ (ys ++ [y']).length = i + 1 ∧ (∀ j z, (ys ++ [y'])[j]? = some z → P j (upd H6 D (.lst (ys ++ [y']))) z) ∧ upd H6 D (.lst (ys ++ [y'])) D = some (.lst (ys ++ [y'])) ∧ Same H1 (upd H6 D (.lst (ys ++ [y'])))) fun y' σ2 H6 p2 s6 hp6 => ?_
    have hd6 := s6 _ _ hd
    have bt : But1 D H6 (upd H6 D (.lst (ys ++ [y']))) := fun b u nb e => by rw [upd_ne nb]; exact e
    refine ⟨hd6, by omega, p2, by simp [hy], fun j z e => ?_, upd_same, keep (sm.trans s6)⟩
    by_cases jl : j < ys.length
    · rw [List.getElem?_append_left jl] at e
      exact mono j H _ z D _ (hP j z e) hd (fun b u nb e => bt b u nb (s6 b u e))
    · have e0 : j = i := by
        have := (List.getElem?_eq_some_iff.mp e).1
        simp at this
        omega
      subst e0
      rw [List.getElem?_append_right (by omega), hy, Nat.sub_self] at e
      cases (show y' = z by simpa using e)
      exact mono j H6 _ _ D _ hp6 hd6 bt
  · have e : i = n := by omega
    subst e
    exact .inl ⟨stop H sm, fin D ys H hD sm hd hy hP⟩
end L2

namespace K01
/-- the greatest common divisor of two ints from 0 on -/
def cd (a b : Int) : Int := ((Nat.gcd a.toNat b.toNat : Nat) : Int)
theorem cd_zero {a : Int} (h : 0 ≤ a) : cd a 0 = a := by
  unfold cd
  have e : (0 : Int).toNat = 0 := rfl
  rw [e, Nat.gcd_zero_right]
  omega
theorem cd_step {a b : Int} (ha : 0 ≤ a) (hb : 0 < b) : cd b (Int.fmod a b) = cd a b := by
  have f : Int.fmod a b = a % b := Int.fmod_eq_emod_of_nonneg a (Int.le_of_lt hb)
  have e : (a % b).toNat = a.toNat % b.toNat := by
    have h1 : ((a % b).toNat : Int) = a % b := Int.toNat_of_nonneg (Int.emod_nonneg a (by omega))
    have h2 : ((a.toNat % b.toNat : Nat) : Int) = a % b := by
      rw [Int.natCast_emod, Int.toNat_of_nonneg ha, Int.toNat_of_nonneg (Int.le_of_lt hb)]
    omega
  unfold cd
  rw [f, e, Nat.gcd_comm b.toNat, ← Nat.gcd_rec, Nat.gcd_comm]
theorem cd_pos {a b : Int} (hb : 0 < b) : 0 < cd a b := by
  unfold cd
  have : 0 < Nat.gcd a.toNat b.toNat := Nat.gcd_pos_of_pos_right _ (by omega)
  omega
theorem cd_le {a b : Int} (hb : 0 < b) : cd a b ≤ b := by
  unfold cd
  have : Nat.gcd a.toNat b.toNat ≤ b.toNat := Nat.gcd_le_right _ (by omega)
  omega
theorem turn {a₀ b₀ a b : Int} (h : cd a b = cd a₀ b₀) (ha : 0 ≤ a) (hb : 0 < b) :
    0 ≤ b ∧ 0 ≤ Int.fmod a b ∧ cd b (Int.fmod a b) = cd a₀ b₀ :=
  ⟨Int.le_of_lt hb, Int.fmod_nonneg_of_pos a hb, (cd_step ha hb).trans h⟩
theorem less {a b : Int} (hb : 0 < b) : (Int.fmod a b).toNat < b.toNat := by
  have := Int.fmod_lt_of_pos a hb
  have := Int.fmod_nonneg_of_pos a hb
  omega
theorem out {a₀ b₀ a b : Int} (h : cd a b = cd a₀ b₀) (ha : 0 ≤ a) (hb : b = 0) : a = cd a₀ b₀ := by
  subst hb
  rw [← h, cd_zero ha]

/-- d, up to its sign, is the divisor of both -/
structure G (a b d : Int) : Prop where
  is : d = cd a b
  pos : 0 < d
theorem cd_parts {a b : Int} (ha : 0 ≤ a) (hb : 0 < b) : ∃ u v, a = cd a b * u ∧ b = cd a b * v ∧ 0 ≤ u ∧ 0 < v ∧ cd u v = 1 := by
  have hp : 0 < Nat.gcd a.toNat b.toNat := Nat.gcd_pos_of_pos_right _ (by omega)
  have ea : Nat.gcd a.toNat b.toNat * (a.toNat / Nat.gcd a.toNat b.toNat) = a.toNat := Nat.mul_div_cancel' (Nat.gcd_dvd_left _ _)
  have eb : Nat.gcd a.toNat b.toNat * (b.toNat / Nat.gcd a.toNat b.toNat) = b.toNat := Nat.mul_div_cancel' (Nat.gcd_dvd_right _ _)
  have ec : Nat.gcd (a.toNat / Nat.gcd a.toNat b.toNat) (b.toNat / Nat.gcd a.toNat b.toNat) = 1 := by
    have e : Nat.gcd a.toNat b.toNat * Nat.gcd (a.toNat / Nat.gcd a.toNat b.toNat) (b.toNat / Nat.gcd a.toNat b.toNat) = Nat.gcd a.toNat b.toNat * 1 := by
      rw [← Nat.gcd_mul_left, ea, eb, Nat.mul_one]
    exact Nat.eq_of_mul_eq_mul_left hp e
  refine ⟨((a.toNat / Nat.gcd a.toNat b.toNat : Nat) : Int), ((b.toNat / Nat.gcd a.toNat b.toNat : Nat) : Int), ?_, ?_, Int.natCast_nonneg _, ?_, ?_⟩
  · unfold cd
    rw [← Int.natCast_mul, ea]
    omega
  · unfold cd
    rw [← Int.natCast_mul, eb]
    omega
  · have : b.toNat / Nat.gcd a.toNat b.toNat ≠ 0 := by
      intro z
      rw [z] at eb
      omega
    exact Int.natCast_pos.mpr (Nat.pos_of_ne_zero this)
  · unfold cd
    rw [Int.toNat_natCast, Int.toNat_natCast, ec]
    rfl

def ab (x : Int) : Int := if x < 0 then -x else x
theorem ab_nonneg (x : Int) : 0 ≤ ab x := by unfold ab; split <;> omega
theorem ab_pos {x : Int} (h : x ≠ 0) : 0 < ab x := by unfold ab; split <;> omega

/-- what the fraction of t and b is: q over p -/
structure Low (t b q p : Int) : Prop where
  cross : q * b = t * p
  one : cd (ab q) p = 1

theorem low {t b d : Int} (hb : b ≠ 0) (hd : (0 < b ∧ d = cd (ab t) (ab b)) ∨ (b < 0 ∧ d = -cd (ab t) (ab b))) :
    Low t b (Int.fdiv t d) (Int.fdiv b d) ∧ 1 ≤ Int.fdiv b d ∧ Int.fdiv b d ≤ ab b ∧ ab (Int.fdiv t d) ≤ ab t := by
  obtain ⟨u, v, eu, ev, hu, hv, e1⟩ := cd_parts (ab_nonneg t) (ab_pos hb)
  have hg : 0 < cd (ab t) (ab b) := cd_pos (ab_pos hb)
  generalize cd (ab t) (ab b) = g at *
  -- t = g * (± u)
  have ht : ∃ s, (s = u ∨ s = -u) ∧ t = g * s ∧ ab s = u := by
    unfold ab at eu
    split at eu
    · refine ⟨-u, Or.inr rfl, by rw [Int.mul_neg]; omega, ?_⟩
      unfold ab; split <;> omega
    · refine ⟨u, Or.inl rfl, eu, ?_⟩
      unfold ab; split <;> omega
  obtain ⟨s, hs, ts, as⟩ := ht
  have hle : u ≤ ab t := by
    rw [eu]
    have := Int.mul_le_mul_of_nonneg_right (show 1 ≤ g by omega) hu
    omega
  have hle2 : v ≤ ab b := by
    rw [ev]
    have := Int.mul_le_mul_of_nonneg_right (show 1 ≤ g by omega) (Int.le_of_lt hv)
    omega
  have gz : g ≠ 0 := by omega
  rcases hd with ⟨h1, h2⟩ | ⟨h1, h2⟩
  · have eb : b = g * v := by
      have : ab b = b := by unfold ab; split <;> omega
      omega
    have q1 : Int.fdiv t d = s := by rw [h2, ts]; exact Int.mul_fdiv_cancel_left s gz
    have q2 : Int.fdiv b d = v := by
      rw [h2]
      conv => lhs; rw [eb]
      exact Int.mul_fdiv_cancel_left v gz
    rw [q1, q2]
    refine ⟨⟨?_, by rw [as]; exact e1⟩, by omega, hle2, by omega⟩
    rw [eb, ts, ← Int.mul_assoc, Int.mul_comm s g]
  · have eb : b = (-g) * v := by
      have : ab b = -b := by unfold ab; split <;> omega
      rw [Int.neg_mul]
      omega
    have gz' : -g ≠ 0 := by omega
    have ts' : t = (-g) * (-s) := by rw [Int.neg_mul_neg]; exact ts
    have q1 : Int.fdiv t d = -s := by rw [h2, ts']; exact Int.mul_fdiv_cancel_left _ gz'
    have q2 : Int.fdiv b d = v := by
      rw [h2]
      conv => lhs; rw [eb]
      exact Int.mul_fdiv_cancel_left v gz'
    have as' : ab (-s) = u := by
      unfold ab at as ⊢
      split at as <;> split <;> omega
    rw [q1, q2]
    refine ⟨⟨?_, by rw [as']; exact e1⟩, by omega, hle2, by omega⟩
    rw [eb, ts', ← Int.mul_assoc, Int.mul_comm (-s) (-g)]
end K01

namespace K01
theorem coprime_of {q p : Int} (h : cd (ab q) p = 1) : Nat.Coprime q.natAbs p.toNat := by
  unfold cd at h
  have e : (ab q).toNat = q.natAbs := by unfold ab; split <;> omega
  rw [e] at h
  unfold Nat.Coprime
  omega
/-- two fractions in lowest terms that are alike are one -/
theorem same {q p a b : Int} (h1 : cd (ab q) p = 1) (h2 : cd (ab a) b = 1) (hp : 0 < p) (hb : 0 < b) (e : q * b = a * p) : q = a ∧ p = b := by
  have c1 := coprime_of h1
  have c2 := coprime_of h2
  have en : q.natAbs * b.toNat = a.natAbs * p.toNat := by
    have := congrArg Int.natAbs e
    rw [Int.natAbs_mul, Int.natAbs_mul] at this
    have e1 : b.natAbs = b.toNat := by omega
    have e2 : p.natAbs = p.toNat := by omega
    rw [e1, e2] at this
    exact this
  have d1 : p.toNat ∣ b.toNat := (Nat.Coprime.symm c1).dvd_of_dvd_mul_left ⟨a.natAbs, by rw [en, Nat.mul_comm]⟩
  have d2 : b.toNat ∣ p.toNat := (Nat.Coprime.symm c2).dvd_of_dvd_mul_left ⟨q.natAbs, by rw [← en, Nat.mul_comm]⟩
  have ep : p.toNat = b.toNat := Nat.dvd_antisymm d1 d2
  have ep' : p = b := by omega
  subst ep'
  exact ⟨Int.eq_of_mul_eq_mul_right (by omega) e, rfl⟩
end K01

set_option linter.all false
/-! the level to which an amount brings gifts -/
namespace K01
/-- what g lacks to the level h0 over h1, in parts of h1 -/
def short (h0 h1 g : Int) : Int := if h0 - g * h1 > 0 then h0 - g * h1 else 0
theorem short_nonneg (h0 h1 g : Int) : 0 ≤ short h0 h1 g := by unfold short; split <;> omega
def lack (h0 h1 : Int) (gs : List Int) : Int := (gs.map (short h0 h1)).sum
theorem lack_nonneg (h0 h1 : Int) : ∀ gs, 0 ≤ lack h0 h1 gs
  | [] => Int.le_refl _
  | g :: gs => by
    have := lack_nonneg h0 h1 gs
    have := short_nonneg h0 h1 g
    unfold lack at *
    rw [List.map_cons, List.sum_cons]
    omega
theorem lack_perm {h0 h1 : Int} {gs hs : List Int} (p : gs.Perm hs) : lack h0 h1 gs = lack h0 h1 hs := by
  unfold lack
  induction p with
  | nil => rfl
  | cons x p ih => rw [List.map_cons, List.map_cons, List.sum_cons, List.sum_cons, ih]
  | swap x y l => simp only [List.map_cons, List.sum_cons]; omega
  | trans _ _ h1 h2 => exact h1.trans h2
theorem lack_app (h0 h1 : Int) (gs hs : List Int) : lack h0 h1 (gs ++ hs) = lack h0 h1 gs + lack h0 h1 hs := by
  unfold lack
  rw [List.map_append, List.sum_append]
theorem lack_low {h0 h1 : Int} : ∀ {gs : List Int}, (∀ g ∈ gs, g * h1 ≤ h0) → lack h0 h1 gs = gs.length * h0 - h1 * gs.sum
  | [], _ => by simp [lack]
  | g :: gs, h => by
    have ih := lack_low (gs := gs) fun x hx => h x (List.mem_cons_of_mem _ hx)
    have hg := h g (List.mem_cons_self ..)
    have e : short h0 h1 g = h0 - g * h1 := by unfold short; split <;> omega
    unfold lack at *
    rw [List.map_cons, List.sum_cons, ih, e, List.length_cons, List.sum_cons, Int.mul_add, Int.mul_comm h1 g]
    have : ((gs.length + 1 : Nat) : Int) * h0 = gs.length * h0 + h0 := by
      rw [Int.natCast_add, Int.add_mul]
      simp
    omega
theorem lack_high {h0 h1 : Int} : ∀ {gs : List Int}, (∀ g ∈ gs, h0 ≤ g * h1) → lack h0 h1 gs = 0
  | [], _ => rfl
  | g :: gs, h => by
    have ih := lack_high (gs := gs) fun x hx => h x (List.mem_cons_of_mem _ hx)
    have hg := h g (List.mem_cons_self ..)
    have e : short h0 h1 g = 0 := by unfold short; split <;> omega
    unfold lack at *
    rw [List.map_cons, List.sum_cons, ih, e]
    rfl
/-- h0 over h1 is the level of a0 over a1 and gs -/
structure Fill (a0 a1 : Int) (gs : List Int) (h0 h1 : Int) : Prop where
  pos : 1 ≤ h1
  top : 0 ≤ h0
  one : cd h0 h1 = 1
  sum : lack h0 h1 gs * a1 = a0 * h1
  low : ∃ g ∈ gs, g * h1 ≤ h0
theorem ab_of {x : Int} (h : 0 ≤ x) : ab x = x := by unfold ab; split <;> omega
/-- the loop's state behind i gifts: r over q is what has been reached -/
structure Lv (a0 a1 : Int) (zs : List Int) (i : Nat) (r q : Int) : Prop where
  pos : 1 ≤ q
  top : 0 ≤ r
  eq : r * a1 * i = q * (a0 + a1 * (zs.take i).sum)
  low : ∀ z ∈ zs.take i, z * q ≤ r
theorem pos_of_mul {x y : Int} (hx : 0 < x) (h : 0 ≤ x * y) : 0 ≤ y := by
  by_cases n : 0 ≤ y
  · exact n
  · have := Int.mul_neg_of_pos_of_neg hx (show y < 0 by omega)
    omega
theorem lt_of_mul {x y z : Int} (hx : 0 < x) (h : x * y < x * z) : y < z := by
  by_cases n : y < z
  · exact n
  · have := Int.mul_le_mul_of_nonneg_left (show z ≤ y by omega) (Int.le_of_lt hx)
    omega
theorem le_of_mul {x y z : Int} (hx : 0 < x) (h : x * y ≤ x * z) : y ≤ z := by
  by_cases n : y ≤ z
  · exact n
  · have := Int.mul_lt_mul_of_pos_left (show z < y by omega) hx
    omega
theorem take_last {zs : List Int} {i : Nat} {g : Int} (h : zs[i]? = some g) : zs.take (i + 1) = zs.take i ++ [g] := by
  rw [List.take_add_one, h]
  rfl
theorem lv_step {a0 a1 : Int} {zs : List Int} {i : Nat} {r q r' q' g : Int} (ha : 0 ≤ a0) (ha1 : 1 ≤ a1) (srt : zs.Pairwise (· ≤ ·)) (hg : zs[i]? = some g) (h : i = 0 ∨ (Lv a0 a1 zs i r q ∧ g * q < r))
    (q1 : 1 ≤ q') (r0 : 0 ≤ r') (e : r' * a1 * (i + 1 : Nat) = q' * (a0 + a1 * (zs.take (i + 1)).sum)) : Lv a0 a1 zs (i + 1) r' q' := by
  have key : g * q' ≤ r' := by
    rw [take_last hg, List.sum_append, List.sum_cons, List.sum_nil, Int.add_zero] at e
    rcases h with rfl | ⟨L, lt⟩
    · have e2 : a1 * r' = q' * a0 + a1 * (g * q') := by
        have : r' * a1 * ((0 + 1 : Nat) : Int) = a1 * r' := by rw [show ((0 + 1 : Nat) : Int) = 1 from rfl, Int.mul_one, Int.mul_comm]
        rw [← this, e]
        simp only [List.take_zero, List.sum_nil, Int.zero_add, Int.mul_add]
        rw [Int.mul_left_comm q' a1 g, Int.mul_comm q' g]
      have : 0 ≤ q' * a0 := Int.mul_nonneg (by omega) ha
      exact le_of_mul (x := a1) (by omega) (by omega)
    · by_cases i0 : i = 0
      · subst i0
        have e2 : a1 * r' = q' * a0 + a1 * (g * q') := by
          have : r' * a1 * ((0 + 1 : Nat) : Int) = a1 * r' := by rw [show ((0 + 1 : Nat) : Int) = 1 from rfl, Int.mul_one, Int.mul_comm]
          rw [← this, e]
          simp only [List.take_zero, List.sum_nil, Int.zero_add, Int.mul_add]
          rw [Int.mul_left_comm q' a1 g, Int.mul_comm q' g]
        have : 0 ≤ q' * a0 := Int.mul_nonneg (by omega) ha
        exact le_of_mul (x := a1) (by omega) (by omega)
      have hi : 0 < (i : Int) := by omega
      have hai : 0 < a1 * (i : Int) := Int.mul_pos (by omega) hi
      have L2 := L.eq
      have Lp := L.pos
      clear L
      generalize (zs.take i).sum = S at *
      generalize hA : a0 + a1 * S = A at *
      -- g * q * (a1 * i) < r * (a1 * i) = q * A
      have s1 : (a1 * (i : Int)) * (g * q) < (a1 * (i : Int)) * r := Int.mul_lt_mul_of_pos_left lt hai
      have s2 : (a1 * (i : Int)) * r = q * A := by rw [← L2, Int.mul_comm, Int.mul_assoc]
      have s3 : (a1 * (i : Int)) * (g * q) = q * (g * (a1 * i)) := by
        rw [Int.mul_comm (a1 * (i : Int)), Int.mul_comm g q, Int.mul_assoc]
      have s4 : g * (a1 * (i : Int)) < A := lt_of_mul (x := q) (by omega) (by omega)
      have hA2 : a0 + a1 * (S + g) = A + a1 * g := by rw [← hA, Int.mul_add]; omega
      rw [hA2] at e
      have s5 : q' * (g * (a1 * (i : Int)) + a1 * g) ≤ q' * (A + a1 * g) := Int.mul_le_mul_of_nonneg_left (by omega) (by omega)
      have s6 : g * (a1 * (i : Int)) + a1 * g = (a1 * ((i + 1 : Nat) : Int)) * g := by
        rw [Int.natCast_add, Int.mul_add, Int.add_mul, Int.mul_comm g]
        simp
      have s7 : (a1 * ((i + 1 : Nat) : Int)) * (g * q') ≤ (a1 * ((i + 1 : Nat) : Int)) * r' := by
        have e1 : (a1 * ((i + 1 : Nat) : Int)) * (g * q') = q' * ((a1 * ((i + 1 : Nat) : Int)) * g) := by
          rw [← Int.mul_assoc, Int.mul_comm _ q']
        have e2 : (a1 * ((i + 1 : Nat) : Int)) * r' = q' * (A + a1 * g) := by
          rw [← e, Int.mul_comm, Int.mul_assoc]
        rw [e1, e2, ← s6]
        exact s5
      exact le_of_mul (Int.mul_pos (by omega) (by omega)) s7
  refine ⟨q1, r0, e, fun z hz => ?_⟩
  rw [take_last hg, List.mem_append] at hz
  have zg : z ≤ g := by
    rcases hz with hz | hz
    · obtain ⟨j, hj, e3⟩ := List.getElem_of_mem hz
      rw [List.length_take] at hj
      rw [List.getElem_take] at e3
      obtain ⟨hi, e4⟩ := List.getElem?_eq_some_iff.mp hg
      have := List.pairwise_iff_getElem.mp srt j i (by omega) hi (by omega)
      rw [e3, e4] at this
      exact this
    · have : z = g := by simpa using hz
      omega
  have := Int.mul_le_mul_of_nonneg_right zg (show 0 ≤ q' by omega)
  omega
theorem lv_fill {a0 a1 : Int} {zs gs : List Int} {i : Nat} {r q : Int} (p : zs.Perm gs) (srt : zs.Pairwise (· ≤ ·)) (i1 : 1 ≤ i) (il : i ≤ zs.length) (L : Lv a0 a1 zs i r q) (c : cd r q = 1) (h : ∀ g, zs[i]? = some g → r ≤ g * q) : Fill a0 a1 gs r q := by
  have hi : ∀ z ∈ zs.drop i, r ≤ z * q := fun z hz => by
    obtain ⟨j, hj, e3⟩ := List.getElem_of_mem hz
    rw [List.length_drop] at hj
    rw [List.getElem_drop] at e3
    have h1 := h zs[i] (List.getElem?_eq_getElem (by omega))
    have h2 : zs[i] ≤ z := by
      by_cases j0 : j = 0
      · subst j0
        simp only [Nat.add_zero] at e3
        omega
      · have := List.pairwise_iff_getElem.mp srt i (i + j) (by omega) (by omega) (by omega)
        rw [e3] at this
        exact this
    have := Int.mul_le_mul_of_nonneg_right h2 (show 0 ≤ q by have := L.pos; omega)
    omega
  refine ⟨L.pos, L.top, c, ?_, ?_⟩
  · rw [← lack_perm p, ← List.take_append_drop i zs, lack_app, lack_high hi, lack_low L.low, Int.add_zero, List.length_take, Nat.min_eq_left il, Int.sub_mul]
    have e := L.eq
    generalize (zs.take i).sum = S at *
    have e1 : (i : Int) * r * a1 = r * a1 * i := by rw [Int.mul_comm (i : Int), Int.mul_right_comm]
    rw [e1, e, Int.mul_add, Int.mul_comm a0 q, Int.mul_assoc q S a1, Int.mul_comm S a1]
    omega
  · have hz : 0 < zs.length := by omega
    refine ⟨zs[0], p.mem_iff.mp (List.getElem_mem _), L.low _ ?_⟩
    have : (zs.take i)[0]'(by rw [List.length_take]; omega) = zs[0] := List.getElem_take
    rw [← this]
    exact List.getElem_mem _
theorem Fill.perm {a0 a1 : Int} {gs hs : List Int} {h0 h1 : Int} (F : Fill a0 a1 gs h0 h1) (p : gs.Perm hs) : Fill a0 a1 hs h0 h1 := by
  obtain ⟨g, hg, l⟩ := F.low
  exact ⟨F.pos, F.top, F.one, by rw [← lack_perm p]; exact F.sum, g, p.mem_iff.mp hg, l⟩
/-- scaled to one bottom -/
theorem short_scale {h0 h1 k g : Int} (hk : 0 < k) : k * short h0 h1 g = short (k * h0) (k * h1) g := by
  unfold short
  have e : k * h0 - g * (k * h1) = k * (h0 - g * h1) := by rw [Int.mul_sub, Int.mul_left_comm]
  rw [e]
  by_cases p : h0 - g * h1 > 0
  · rw [if_pos p, if_pos (Int.mul_pos hk p)]
  · rw [if_neg p, if_neg (fun z => p (by
      have := lt_of_mul (x := k) (y := 0) (z := h0 - g * h1) hk (by rw [Int.mul_zero]; exact z)
      exact this)), Int.mul_zero]
theorem lack_scale {h0 h1 k : Int} (hk : 0 < k) : ∀ gs : List Int, k * lack h0 h1 gs = lack (k * h0) (k * h1) gs
  | [] => by simp [lack]
  | g :: gs => by
    have ih := lack_scale (h0 := h0) (h1 := h1) hk gs
    unfold lack at *
    rw [List.map_cons, List.sum_cons, List.map_cons, List.sum_cons, Int.mul_add, ih, short_scale hk]
theorem lack_mono {b c d : Int} (h : b ≤ c) : ∀ gs : List Int, lack b d gs ≤ lack c d gs
  | [] => Int.le_refl _
  | g :: gs => by
    have ih := lack_mono (d := d) h gs
    have : short b d g ≤ short c d g := by unfold short; split <;> split <;> omega
    unfold lack at *
    rw [List.map_cons, List.sum_cons, List.map_cons, List.sum_cons]
    omega
theorem lack_strict {b c d : Int} (h : b < c) : ∀ {gs : List Int}, (∃ g ∈ gs, g * d ≤ b) → lack b d gs < lack c d gs
  | [], ⟨_, hg, _⟩ => by cases hg
  | x :: gs, ⟨g, hg, l⟩ => by
    have m := lack_mono (d := d) (Int.le_of_lt h) gs
    have s : short b d x ≤ short c d x := by unfold short; split <;> split <;> omega
    rcases List.mem_cons.mp hg with rfl | hg
    · have s2 : short b d g < short c d g := by unfold short; split <;> split <;> omega
      unfold lack at *
      rw [List.map_cons, List.sum_cons, List.map_cons, List.sum_cons]
      omega
    · have ih := lack_strict h ⟨g, hg, l⟩
      unfold lack at *
      rw [List.map_cons, List.sum_cons, List.map_cons, List.sum_cons]
      omega
theorem fill_le {a0 a1 : Int} {gs : List Int} {h0 h1 k0 k1 : Int} (ha1 : 1 ≤ a1) (F : Fill a0 a1 gs h0 h1) (p2 : 1 ≤ k1) (s2 : lack k0 k1 gs * a1 ≤ a0 * k1) : k0 * h1 ≤ h0 * k1 := by
  by_cases n : k0 * h1 ≤ h0 * k1
  · exact n
  exfalso
  have p1 := F.pos
  obtain ⟨g, hg, l⟩ := F.low
  have e1 := lack_scale (h0 := h0) (h1 := h1) (k := k1) (by omega) gs
  have st : lack (k1 * h0) (k1 * h1) gs < lack (h1 * k0) (k1 * h1) gs := by
    refine lack_strict (by rw [Int.mul_comm k1, Int.mul_comm h1]; omega) ⟨g, hg, ?_⟩
    have := Int.mul_le_mul_of_nonneg_left l (show 0 ≤ k1 by omega)
    rw [Int.mul_left_comm] at this
    exact this
  rw [← e1, Int.mul_comm h1 k0] at st
  have e3 : lack (k0 * h1) (k1 * h1) gs = h1 * lack k0 k1 gs := by
    have := lack_scale (h0 := k0) (h1 := k1) (k := h1) (by omega) gs
    rw [this, Int.mul_comm h1 k0, Int.mul_comm h1 k1]
  rw [e3] at st
  have m1 : (k1 * lack h0 h1 gs) * a1 < (h1 * lack k0 k1 gs) * a1 := Int.mul_lt_mul_of_pos_right st (by omega)
  have m2 : (k1 * lack h0 h1 gs) * a1 = k1 * h1 * a0 := by rw [Int.mul_assoc, F.sum, Int.mul_comm a0 h1, Int.mul_assoc]
  have m3 : (h1 * lack k0 k1 gs) * a1 ≤ k1 * h1 * a0 := by
    rw [Int.mul_assoc]
    have := Int.mul_le_mul_of_nonneg_left s2 (show 0 ≤ h1 by omega)
    rw [Int.mul_comm a0 k1, ← Int.mul_assoc, ← Int.mul_assoc, Int.mul_comm h1 k1] at this
    rw [← Int.mul_assoc]
    exact this
  omega
theorem fill_same {a0 a1 : Int} {gs : List Int} {h0 h1 k0 k1 : Int} (ha1 : 1 ≤ a1) (F : Fill a0 a1 gs h0 h1) (G : Fill a0 a1 gs k0 k1) : h0 = k0 ∧ h1 = k1 := by
  have x := fill_le ha1 F G.pos (Int.le_of_eq G.sum)
  have y := fill_le ha1 G F.pos (Int.le_of_eq F.sum)
  have f := F.one
  have g := G.one
  rw [← ab_of F.top] at f
  rw [← ab_of G.top] at g
  exact same f g (by have := F.pos; omega) (by have := G.pos; omega) (by omega)
/-- what one is due -/
def dueT (h0 h1 g : Int) : Int := (short h0 h1 g).fdiv (cd (short h0 h1 g) h1)
def dueB (h0 h1 g : Int) : Int := h1.fdiv (cd (short h0 h1 g) h1)
theorem due_of {h0 h1 g q r : Int} (p : 1 ≤ h1) (lw : Low (short h0 h1 g) h1 q r) (r1 : 1 ≤ r) : q = dueT h0 h1 g ∧ r = dueB h0 h1 g := by
  have l := low (t := short h0 h1 g) (b := h1) (d := cd (short h0 h1 g) h1) (by omega) (.inl ⟨by omega, by rw [ab_of (short_nonneg ..), ab_of (show 0 ≤ h1 by omega)]⟩)
  refine same lw.one l.1.one (by omega) (by have := l.2.1; unfold dueB at *; omega) ?_
  have c1 := lw.cross
  have c2 := l.1.cross
  have : h1 * (q * h1.fdiv (cd (short h0 h1 g) h1)) = h1 * ((short h0 h1 g).fdiv (cd (short h0 h1 g) h1) * r) := by
    rw [← Int.mul_assoc, Int.mul_comm h1 q, c1, ← Int.mul_assoc, Int.mul_comm h1 ((short h0 h1 g).fdiv _), c2, Int.mul_assoc, Int.mul_assoc, Int.mul_comm r]
  exact Int.eq_of_mul_eq_mul_left (by omega) this
theorem due_none {h0 h1 g : Int} (p : 1 ≤ h1) (h : ¬ g * h1 < h0) : dueT h0 h1 g = 0 ∧ dueB h0 h1 g = 1 := by
  have e : short h0 h1 g = 0 := by unfold short; split <;> omega
  have c : cd 0 h1 = h1 := by unfold cd; rw [show (0 : Int).toNat = 0 from rfl, Nat.gcd_zero_left]; omega
  unfold dueT dueB
  rw [e, c]
  exact ⟨by simp, Int.fdiv_self (by omega)⟩
/-- where nothing is left the level is the least of the gifts -/
theorem Fill.bare {a1 : Int} {gs : List Int} {h0 h1 m : Int} (ha1 : 1 ≤ a1) (F : Fill 0 a1 gs h0 h1) (hm : m ∈ gs) (hl : ∀ x ∈ gs, m ≤ x) : h0 = m ∧ h1 = 1 := by
  have p := F.pos
  have z : lack h0 h1 gs = 0 := by
    have := F.sum
    rw [Int.zero_mul] at this
    rcases Int.mul_eq_zero.mp this with h | h
    · exact h
    · omega
  have le : h0 ≤ m * h1 := by
    have go : ∀ l : List Int, lack h0 h1 l = 0 → m ∈ l → h0 ≤ m * h1 := by
      intro l
      induction l with
      | nil => intro _ h; cases h
      | cons x l ih =>
        intro e h
        have n := lack_nonneg h0 h1 l
        have s := short_nonneg h0 h1 x
        have e2 : short h0 h1 x + lack h0 h1 l = 0 := by unfold lack at *; rw [List.map_cons, List.sum_cons] at e; exact e
        rcases List.mem_cons.mp h with rfl | h
        · have : short h0 h1 m = 0 := by omega
          unfold short at this
          split at this <;> omega
        · exact ih (by omega) h
    exact go gs z hm
  obtain ⟨g, hg, l⟩ := F.low
  have ge : m * h1 ≤ g * h1 := Int.mul_le_mul_of_nonneg_right (hl g hg) (by omega)
  have e : h0 = m * h1 := by omega
  have m0 : 0 ≤ m := by
    have := F.top
    rw [e, Int.mul_comm] at this
    exact pos_of_mul (by omega) this
  have f : cd (ab h0) h1 = 1 := by rw [ab_of F.top]; exact F.one
  have o : cd (ab m) 1 = 1 := by unfold cd; rw [show (1 : Int).toNat = 1 from rfl, Nat.gcd_one_right]; rfl
  exact same f o (by omega) (by decide) (by rw [e]; omega)
end K01

set_option linter.all false
/-! what the loop of the level keeps -/
namespace K01
/-- an amount and gifts as the laws hand them in -/
structure Gv (a0 a1 : Int) (gs : List Int) : Prop where
  a0n : 0 ≤ a0
  a0x : a0 ≤ 10 ^ 21
  a1n : 1 ≤ a1
  a1x : a1 ≤ 10 ^ 10
  ne : gs ≠ []
  len : gs.length ≤ 62
  each : ∀ g ∈ gs, 0 ≤ g ∧ g ≤ 10 ^ 19
structure Tg (a0 a1 : Int) (zs : List Int) (i : Nat) (t0 t1 : Int) : Prop where
  eq : t0 * a1 = (a0 + a1 * (zs.take i).sum) * t1
  p1 : 1 ≤ t1
  p2 : t1 ≤ a1
  n0 : 0 ≤ t0
  n1 : t0 ≤ 10 ^ 21 + i * 10 ^ 29
def Rc (a0 a1 : Int) (zs : List Int) (i : Nat) (r0 r1 : Int) : Prop := (i = 0 ∧ r0 = 0 ∧ r1 = 1) ∨ (1 ≤ i ∧ Lv a0 a1 zs i r0 r1 ∧ cd r0 r1 = 1 ∧ r0 ≤ 10 ^ 40 ∧ r1 ≤ 10 ^ 40)
theorem tg_start {a0 a1 : Int} {gs zs : List Int} (g : Gv a0 a1 gs) : Tg a0 a1 zs 0 a0 a1 :=
  ⟨by simp, g.a1n, Int.le_refl _, g.a0n, by have := g.a0x; simpa using this⟩
theorem tg_step {a0 a1 : Int} {zs : List Int} {i : Nat} {t0 t1 g q r : Int} (h : Tg a0 a1 zs i t0 t1) (a1x : a1 ≤ 10 ^ 10) (hg : zs[i]? = some g) (g0 : 0 ≤ g) (g1 : g ≤ 10 ^ 19)
    (lw : Low (t0 * 1 + g * t1) (t1 * 1) q r) (r1 : 1 ≤ r) (r2 : r ≤ ab (t1 * 1)) (q1 : ab q ≤ ab (t0 * 1 + g * t1)) : Tg a0 a1 zs (i + 1) q r := by
  obtain ⟨eq, p1, p2, n0, n1⟩ := h
  have cr := lw.cross
  simp only [Int.mul_one] at cr r2 q1
  have gt : 0 ≤ g * t1 := Int.mul_nonneg g0 (by omega)
  have tn : 0 ≤ t0 + g * t1 := by omega
  rw [ab_of (show 0 ≤ t1 by omega)] at r2
  rw [ab_of tn] at q1
  have qn : 0 ≤ q := by
    have : 0 ≤ t1 * q := by rw [Int.mul_comm, cr]; exact Int.mul_nonneg tn (by omega)
    exact pos_of_mul (by omega) this
  rw [ab_of qn] at q1
  refine ⟨?_, r1, by omega, qn, ?_⟩
  · rw [take_last hg, List.sum_append, List.sum_cons, List.sum_nil, Int.add_zero]
    generalize (zs.take i).sum = S at *
    apply Int.eq_of_mul_eq_mul_left (show t1 ≠ 0 by omega)
    have e1 : t1 * (q * a1) = (t0 * a1 + a1 * g * t1) * r := by
      calc t1 * (q * a1) = (q * t1) * a1 := by rw [Int.mul_comm t1, Int.mul_right_comm]
        _ = (t0 + g * t1) * r * a1 := by rw [cr]
        _ = (t0 * a1 + a1 * g * t1) * r := by
          rw [Int.mul_right_comm, Int.add_mul t0, Int.mul_comm (g * t1) a1, Int.mul_assoc a1 g t1]
    rw [e1, eq, ← Int.add_mul, Int.mul_add a1 S g, ← Int.add_assoc, Int.mul_right_comm, Int.mul_comm t1]
  · have : g * t1 ≤ 10 ^ 19 * 10 ^ 10 := by
      have x := Int.mul_le_mul_of_nonneg_right g1 (show 0 ≤ t1 by omega)
      have y := Int.mul_le_mul_of_nonneg_left (show t1 ≤ 10 ^ 10 by omega) (show (0 : Int) ≤ 10 ^ 19 by decide)
      omega
    have e : ((i + 1 : Nat) : Int) * 10 ^ 29 = i * 10 ^ 29 + 10 ^ 29 := by rw [Int.natCast_add, Int.add_mul]; rfl
    rw [e]
    omega
theorem rc_step {a0 a1 : Int} {zs : List Int} {i : Nat} {q r g r0 r1 r0' r1' : Int} (ha : 0 ≤ a0) (ha1 : 1 ≤ a1) (a1x : a1 ≤ 10 ^ 10) (hi : i < 62) (srt : zs.Pairwise (· ≤ ·)) (hg : zs[i]? = some g) (T : Tg a0 a1 zs (i + 1) q r)
    (h : i = 0 ∨ (Lv a0 a1 zs i r0 r1 ∧ g * r1 < r0)) (lw : Low (q * 1) (r * ((i : Int) + 1)) r0' r1') (p1 : 1 ≤ r1') (p2 : r1' ≤ ab (r * ((i : Int) + 1))) (p3 : ab r0' ≤ ab (q * 1)) : Rc a0 a1 zs (i + 1) r0' r1' := by
  obtain ⟨eq, t1, t2, n0, n1⟩ := T
  have cr := lw.cross
  simp only [Int.mul_one] at cr p3
  have ri : 0 < r * ((i : Int) + 1) := Int.mul_pos (by omega) (by omega)
  rw [ab_of (Int.le_of_lt ri)] at p2
  have rn : 0 ≤ r0' := by
    have : 0 ≤ (r * ((i : Int) + 1)) * r0' := by rw [Int.mul_comm, cr]; exact Int.mul_nonneg n0 (by omega)
    exact pos_of_mul ri this
  rw [ab_of rn, ab_of n0] at p3
  have e : r0' * a1 * ((i + 1 : Nat) : Int) = r1' * (a0 + a1 * (zs.take (i + 1)).sum) := by
    generalize a0 + a1 * (zs.take (i + 1)).sum = A at *
    apply Int.eq_of_mul_eq_mul_left (show r ≠ 0 by omega)
    calc r * (r0' * a1 * ((i + 1 : Nat) : Int)) = (r0' * (r * ((i : Int) + 1))) * a1 := by
          rw [Int.natCast_add, show ((1 : Nat) : Int) = 1 from rfl]
          rw [Int.mul_right_comm r0' a1, ← Int.mul_assoc, Int.mul_left_comm r r0']
      _ = q * r1' * a1 := by rw [cr]
      _ = (q * a1) * r1' := by rw [Int.mul_right_comm]
      _ = A * r * r1' := by rw [eq]
      _ = r * (r1' * A) := by rw [Int.mul_comm A r, Int.mul_assoc, Int.mul_comm A]
  have one := lw.one
  rw [ab_of rn] at one
  refine .inr ⟨by omega, lv_step ha ha1 srt hg h p1 rn e, one, ?_, ?_⟩
  · have : ((i + 1 : Nat) : Int) * 10 ^ 29 ≤ 62 * 10 ^ 29 := Int.mul_le_mul_of_nonneg_right (by omega) (by decide)
    omega
  · have : r * ((i : Int) + 1) ≤ 10 ^ 10 * 62 := by
      have x := Int.mul_le_mul_of_nonneg_right (show r ≤ 10 ^ 10 by omega) (show 0 ≤ (i : Int) + 1 by omega)
      have y := Int.mul_le_mul_of_nonneg_left (show (i : Int) + 1 ≤ 62 by omega) (show (0 : Int) ≤ 10 ^ 10 by decide)
      omega
    omega
theorem Gv.perm {a0 a1 : Int} {gs zs : List Int} (g : Gv a0 a1 gs) (p : zs.Perm gs) : Gv a0 a1 zs :=
  ⟨g.a0n, g.a0x, g.a1n, g.a1x, fun e => g.ne (by rw [e] at p; exact p.nil_eq.symm), by rw [p.length_eq]; exact g.len, fun x hx => g.each x (p.mem_iff.mp hx)⟩
theorem Gv.rev {a0 a1 : Int} {gs : List Int} (g : Gv a0 a1 gs) : Gv a0 a1 gs.reverse := g.perm (List.reverse_perm gs)
theorem Gv.one {a0 a1 : Int} {gs : List Int} (g : Gv a0 a1 gs) (h : a0 + a1 ≤ 10 ^ 21) : Gv (a0 + a1) a1 (gs.take 1) := by
  refine ⟨by have := g.a0n; have := g.a1n; omega, h, g.a1n, g.a1x, ?_, ?_, fun x hx => g.each x (List.mem_of_mem_take hx)⟩
  · cases gs with
    | nil => exact absurd rfl g.ne
    | cons x xs => simp
  · rw [List.length_take]
    have := g.len
    omega
end K01

set_option maxRecDepth 100000
set_option maxHeartbeats 4000000
set_option exponentiation.threshold 3000
seal L2.PSs L2.PS L2.PE L2.PT L2.PW L2.PA L2.PG L2.PI L2.PO
namespace K81
open PySem L2
/-! ### the text by places -/
def top (i : Nat) : Stmt := PySem.Challenge.pw_heirbook_k81_level.main.body.getD i (.Pass ⟨0, 0, 0, 0⟩)
abbrev s_is_whole : Stmt := top 4
abbrev s_common_divisor : Stmt := top 5
abbrev s_ratio : Stmt := top 6
abbrev s_plus : Stmt := top 7
abbrev s_minus : Stmt := top 8
abbrev s_over : Stmt := top 9
abbrev s_less : Stmt := top 10
abbrev s_level_of : Stmt := top 13
abbrev s_due : Stmt := top 14
abbrev s_level : Stmt := top 15
abbrev s__law_cell_at : Stmt := top 17
abbrev s__law_whole : Stmt := top 18
abbrev s__law_divisor : Stmt := top 19
abbrev s__law_is : Stmt := top 20
abbrev s__law_amount : Stmt := top 21
abbrev s__law_gifts : Stmt := top 22
abbrev s__law_fills : Stmt := top 23
abbrev s_law : Stmt := top 24
/-! ### what the top has made -/
structure Tx (K : PySem.W.Frag) (w : World) (mg : Str → Option Value) where
  a_is_whole : Addr
  fd_is_whole : FuncData
  F_is_whole : Fun K "is_whole" "is_whole" s_is_whole a_is_whole fd_is_whole
  b_is_whole : Binds K fd_is_whole ["thing"] []
  m_is_whole : mg "is_whole" = some (.ref a_is_whole)
  a_common_divisor : Addr
  fd_common_divisor : FuncData
  F_common_divisor : Fun K "common_divisor" "common_divisor" s_common_divisor a_common_divisor fd_common_divisor
  b_common_divisor : Binds K fd_common_divisor ["one", "other"] []
  m_common_divisor : mg "common_divisor" = some (.ref a_common_divisor)
  a_ratio : Addr
  fd_ratio : FuncData
  F_ratio : Fun K "ratio" "ratio" s_ratio a_ratio fd_ratio
  b_ratio : Binds K fd_ratio ["top", "bottom"] []
  m_ratio : mg "ratio" = some (.ref a_ratio)
  a_plus : Addr
  fd_plus : FuncData
  F_plus : Fun K "plus" "plus" s_plus a_plus fd_plus
  b_plus : Binds K fd_plus ["one", "other"] []
  m_plus : mg "plus" = some (.ref a_plus)
  a_minus : Addr
  fd_minus : FuncData
  F_minus : Fun K "minus" "minus" s_minus a_minus fd_minus
  b_minus : Binds K fd_minus ["one", "other"] []
  m_minus : mg "minus" = some (.ref a_minus)
  a_over : Addr
  fd_over : FuncData
  F_over : Fun K "over" "over" s_over a_over fd_over
  b_over : Binds K fd_over ["one", "other"] []
  m_over : mg "over" = some (.ref a_over)
  a_less : Addr
  fd_less : FuncData
  F_less : Fun K "less" "less" s_less a_less fd_less
  b_less : Binds K fd_less ["one", "other"] []
  m_less : mg "less" = some (.ref a_less)
  a_level_of : Addr
  fd_level_of : FuncData
  F_level_of : Fun K "level_of" "level_of" s_level_of a_level_of fd_level_of
  b_level_of : Binds K fd_level_of ["amount", "gifts"] []
  m_level_of : mg "level_of" = some (.ref a_level_of)
  a_due : Addr
  fd_due : FuncData
  F_due : Fun K "due" "due" s_due a_due fd_due
  b_due : Binds K fd_due ["reached", "gift"] []
  m_due : mg "due" = some (.ref a_due)
  a_level : Addr
  fd_level : FuncData
  F_level : Fun K "level" "level" s_level a_level fd_level
  b_level : Binds K fd_level ["amount", "gifts"] []
  m_level : mg "level" = some (.ref a_level)
  a__law_cell_at : Addr
  fd__law_cell_at : FuncData
  F__law_cell_at : Fun K "_law_cell_at" "_law_cell_at" s__law_cell_at a__law_cell_at fd__law_cell_at
  b__law_cell_at : Binds K fd__law_cell_at ["_law_script", "_law_k"] []
  m__law_cell_at : mg "_law_cell_at" = some (.ref a__law_cell_at)
  a__law_whole : Addr
  fd__law_whole : FuncData
  F__law_whole : Fun K "_law_whole" "_law_whole" s__law_whole a__law_whole fd__law_whole
  b__law_whole : Binds K fd__law_whole ["_law_found"] []
  m__law_whole : mg "_law_whole" = some (.ref a__law_whole)
  a__law_divisor : Addr
  fd__law_divisor : FuncData
  F__law_divisor : Fun K "_law_divisor" "_law_divisor" s__law_divisor a__law_divisor fd__law_divisor
  b__law_divisor : Binds K fd__law_divisor ["_law_one", "_law_other"] []
  m__law_divisor : mg "_law_divisor" = some (.ref a__law_divisor)
  a__law_is : Addr
  fd__law_is : FuncData
  F__law_is : Fun K "_law_is" "_law_is" s__law_is a__law_is fd__law_is
  b__law_is : Binds K fd__law_is ["_law_found", "_law_top", "_law_bottom"] []
  m__law_is : mg "_law_is" = some (.ref a__law_is)
  a__law_amount : Addr
  fd__law_amount : FuncData
  F__law_amount : Fun K "_law_amount" "_law_amount" s__law_amount a__law_amount fd__law_amount
  b__law_amount : Binds K fd__law_amount ["_law_cell", "_law_other"] []
  m__law_amount : mg "_law_amount" = some (.ref a__law_amount)
  a__law_gifts : Addr
  fd__law_gifts : FuncData
  F__law_gifts : Fun K "_law_gifts" "_law_gifts" s__law_gifts a__law_gifts fd__law_gifts
  b__law_gifts : Binds K fd__law_gifts ["_law_cells"] []
  m__law_gifts : mg "_law_gifts" = some (.ref a__law_gifts)
  a__law_fills : Addr
  fd__law_fills : FuncData
  F__law_fills : Fun K "_law_fills" "_law_fills" s__law_fills a__law_fills fd__law_fills
  b__law_fills : Binds K fd__law_fills ["_law_found", "_law_amount_here", "_law_gifts_here"] []
  m__law_fills : mg "_law_fills" = some (.ref a__law_fills)
  a_law : Addr
  fd_law : FuncData
  F_law : Fun K "law" "law" s_law a_law fd_law
  b_law : Binds K fd_law ["_law_script"] []
  m_law : mg "law" = some (.ref a_law)
  c_HeirError : Addr
  m_HeirError : mg "HeirError" = some (.ref c_HeirError)
  c_NoNumber : Addr
  m_NoNumber : mg "NoNumber" = some (.ref c_NoNumber)
  x_NoNumber : PySem.W.excIn K c_NoNumber EBm "ValueError.__new__" = true
  e_NoNumber : ExcK K c_NoNumber
  n_abs : mg "abs" = none
  n_bool : mg "bool" = none
  n_enumerate : mg "enumerate" = none
  n_int : mg "int" = none
  n_isinstance : mg "isinstance" = none
  n_len : mg "len" = none
  n_list : mg "list" = none
  n_max : mg "max" = none
  n_min : mg "min" = none
  n_sorted : mg "sorted" = none
  n_tuple : mg "tuple" = none
  n_zip : mg "zip" = none
  ki_int : PySem.W.kitOne K (.type "int") (.type "int") = some true
  kb_int : PySem.W.kitOne K (.type "int") (.type "bool") = some false
  kt_tuple : PySem.W.kitOne K (.type "tuple") (.type "tuple") = some true
  kl_list : PySem.W.kitOne K (.type "list") (.type "list") = some true
  a_NOTHING : Addr
  m_NOTHING : mg "NOTHING" = some (.ref a_NOTHING)
  s_NOTHING : ∀ H, SqT K H a_NOTHING [.int 0, .int 1]
def spLaw (K : PySem.W.Frag) : Sp := fun vs H Q _ => ∃ (a : Addr) (ns : List Int), vs = [.ref a] ∧ SqL K H a (ns.map V.int) ∧ ns.length ≤ 63 ∧ ∀ H', Q (.bl true) H'
open K01 (cd ab Low Fill Gv Tg Rc Lv short lack dueT dueB)
theorem ints_at {cs : List Int} {i : Nat} {y : V} (h : (cs.map V.int)[i]? = some y) : ∃ z, y = .int z ∧ cs[i]? = some z := by
  rw [List.getElem?_map] at h
  obtain ⟨z, hz, e⟩ := Option.map_eq_some_iff.mp h
  exact ⟨z, e.symm, hz⟩
theorem seq_by {a b : TS} {D : Ends} {σ : St} {H : Hp} (J : St → Hp → Prop) (h1 : ∀ nx, (∀ σ H, J σ H → nx σ H) → a { D with nx := nx } σ H) (h2 : ∀ σ H, J σ H → b D σ H) : tSeq a b D σ H := h1 _ fun σ H j => h2 σ H j
theorem same_keep {H H1 : Hp} {a : Addr} {o : HO} (e : Same H H1) (n : H a = none) : Same H (upd H1 a o) := fun b u q => by
  rw [upd_ne (ne_of_none q n)]
  exact e b u q
/-- v is the fraction a over b -/
def Fq (K : PySem.W.Frag) (H : Hp) (v : V) (a b : Int) : Prop := ∃ p, v = .ref p ∧ SqT K H p [.int a, .int b]
theorem Fq.mono {K : PySem.W.Frag} {H H' : Hp} {v : V} {a b : Int} (h : Fq K H v a b) (e : Same H H') : Fq K H' v a b := by
  obtain ⟨p, rfl, q⟩ := h
  exact ⟨p, rfl, e.sqt q⟩
theorem fq_new {K : PySem.W.Frag} {H : Hp} {p : Addr} {a b : Int} : Fq K (upd H p (.tup [.int a, .int b])) (.ref p) a b := ⟨p, rfl, .of upd_same⟩
theorem Fq.but {K : PySem.W.Frag} {H H' : Hp} {v : V} {a b : Int} {D : Addr} {xs : List V} (h : Fq K H v a b) (hd : H D = some (.lst xs)) (e : But1 D H H') : Fq K H' v a b := by
  obtain ⟨p, rfl, q⟩ := h
  refine ⟨p, rfl, ?_⟩
  rcases q with (q | ⟨o, q⟩) | q
  · exact .inl (.inl (e _ _ (fun z => by rw [z, hd] at q; cases q) q))
  · exact .inl (.inr ⟨o, e _ _ (fun z => by rw [z, hd] at q; cases q) q⟩)
  · exact .inr q
def Bd (x : Int) : Prop := x.natAbs < 2 ^ 400
/-- what ratio does with t and b -/
def Rat (c : Addr) (H : Hp) (Q : VK) (E : XK) (t b : Int) : Prop := (b = 0 → E (.ref c) none H) ∧
  (b ≠ 0 → ∀ p q r, H p = none → Low t b q r → 1 ≤ r → r ≤ ab b → ab q ≤ ab t → Q (.ref p) (upd H p (.tup [.int q, .int r])))
theorem nat900 {x : Int} (h : x.natAbs < 2 ^ 900) : x.natAbs < 2 ^ 1000 := Nat.lt_of_lt_of_le h (Nat.pow_le_pow_right (by decide) (by decide))
theorem bd1000 {x : Int} (h : Bd x) : x.natAbs < 2 ^ 1000 := Nat.lt_of_lt_of_le h (Nat.pow_le_pow_right (by decide) (by decide))
theorem bd_big {x y : Int} (h : Bd x) (h' : Bd y) : CBig x y := ⟨bd1000 h, bd1000 h'⟩
theorem bd_mul {x y : Int} (h : Bd x) (h' : Bd y) : (x * y).natAbs < 2 ^ 800 := by
  rw [Int.natAbs_mul, show (2 : Nat) ^ 800 = 2 ^ 400 * 2 ^ 400 by rw [← Nat.pow_add]]
  exact Nat.mul_lt_mul'' h h'
theorem bd_mul9 {x y : Int} (h : Bd x) (h' : Bd y) : (x * y).natAbs < 2 ^ 900 := Nat.lt_of_lt_of_le (bd_mul h h') (Nat.pow_le_pow_right (by decide) (by decide))
theorem two9 : (2 : Nat) ^ 800 + 2 ^ 800 ≤ 2 ^ 900 := by decide +kernel
theorem bd_add {x y z w : Int} (h1 : Bd x) (h2 : Bd y) (h3 : Bd z) (h4 : Bd w) : (x * y + z * w).natAbs < 2 ^ 900 := by
  have a := bd_mul h1 h2
  have b := bd_mul h3 h4
  have c := two9
  have := Int.natAbs_add_le (x * y) (z * w)
  omega
theorem bd_sub {x y z w : Int} (h1 : Bd x) (h2 : Bd y) (h3 : Bd z) (h4 : Bd w) : (x * y - z * w).natAbs < 2 ^ 900 := by
  have a := bd_mul h1 h2
  have b := bd_mul h3 h4
  have c := two9
  have := Int.natAbs_sub_le (x * y) (z * w)
  omega
theorem big41 : (10 : Nat) ^ 60 < 2 ^ 400 := by decide +kernel
theorem bd40 {x : Int} (h0 : 0 ≤ x) (h1 : x ≤ 10 ^ 60) : Bd x := by
  have := big41
  unfold Bd
  omega
theorem bd1 : Bd 1 := bd40 (by decide) (by decide)
theorem ab_natI (x : Int) : ab x = (x.natAbs : Int) := by unfold ab; split <;> omega
theorem at0 (a b : Int) : atI ([.int a, .int b] : List V) 0 = some (.int a) := atI_nat (j := 0) rfl
theorem at1 (a b : Int) : atI ([.int a, .int b] : List V) 1 = some (.int b) := atI_nat (j := 1) rfl
theorem at0v {x y : V} : atI [x, y] 0 = some x := atI_nat (j := 0) rfl
theorem at1v {x y : V} : atI [x, y] 1 = some y := atI_nat (j := 1) rfl
theorem item_int {ns : List Int} {k : Nat} (h : k < ns.length) : (ns.map V.int)[k]? = some (V.int (ns.getD k 0)) := by
  simp [List.getD, List.getElem?_eq_getElem h, h]
theorem isTup2 {K : PySem.W.Frag} {H : Hp} {v : V} {a b : Int} (h : Fq K H v a b) : Is K H (.tup [.int a, .int b]) v := by
  obtain ⟨p, rfl, q⟩ := h
  exact ⟨p, _, rfl, q, _, _, rfl, rfl, _, _, rfl, rfl, rfl⟩
theorem ints_is {K : PySem.W.Frag} {H : Hp} : ∀ ns : List Int, IsL K H (ns.map D.int) (ns.map V.int)
  | [] => rfl
  | n :: ns => ⟨_, _, rfl, rfl, ints_is ns⟩
theorem ints_dep : ∀ ns : List Int, depL (ns.map D.int) = 0
  | [] => rfl
  | n :: ns => by
    rw [List.map_cons]
    show max (dep (.int n)) (depL (ns.map D.int)) = 0
    rw [ints_dep ns]
    rfl
/-- what the level's loop keeps -/
def LvInv (K : PySem.W.Frag) (H1 : Hp) (x : V) (l : Addr) (a0 a1 : Int) (zs : List Int) (i : Nat) (σ : St) (H2 : Hp) : Prop :=
  ∃ vt vr t0 t1 r0 r1 v4 v5, σ = [some x, some (.ref l), some vt, some vr, v4, v5] ∧ Same H1 H2 ∧ Fq K H2 vt t0 t1 ∧ Fq K H2 vr r0 r1 ∧ Tg a0 a1 zs i t0 t1 ∧ Rc a0 a1 zs i r0 r1
theorem Rc.bd {a0 a1 : Int} {zs : List Int} {i : Nat} {r0 r1 : Int} (h : Rc a0 a1 zs i r0 r1) : 0 ≤ r0 ∧ r0 ≤ 10 ^ 40 ∧ 1 ≤ r1 ∧ r1 ≤ 10 ^ 40 := by
  rcases h with ⟨_, rfl, rfl⟩ | ⟨_, L, _, b0, b1⟩
  · exact ⟨by decide, by decide, by decide, by decide⟩
  · exact ⟨L.top, b0, L.pos, b1⟩
theorem Tg.bd {a0 a1 : Int} {zs : List Int} {i : Nat} {t0 t1 : Int} (h : Tg a0 a1 zs i t0 t1) (hi : i ≤ 62) (hx : a1 ≤ 10 ^ 10) : Bd t0 ∧ Bd t1 := by
  have e : (i : Int) * 10 ^ 29 ≤ 62 * 10 ^ 29 := Int.mul_le_mul_of_nonneg_right (by omega) (by decide)
  have h1 := h.n0
  have h2 := h.n1
  have h3 := h.p1
  have h4 := h.p2
  exact ⟨bd40 h1 (by omega), bd40 (by omega) (by omega)⟩
/-- one due, as a datum -/
def dueD (h0 h1 g : Int) : D := .tup [.int (dueT h0 h1 g), .int (dueB h0 h1 g)]
def Dues (K : PySem.W.Frag) (H : Hp) (h0 h1 : Int) (gs : List Int) (ds : List V) : Prop := ds.length = gs.length ∧ ∀ (i : Nat) (y : V), ds[i]? = some y → ∀ g, gs[i]? = some g → Fq K H y (dueT h0 h1 g) (dueB h0 h1 g)
theorem Dues.mono {K : PySem.W.Frag} {H H' : Hp} {h0 h1 : Int} {gs : List Int} {ds : List V} (h : Dues K H h0 h1 gs ds) (e : Same H H') : Dues K H' h0 h1 gs ds := ⟨h.1, fun i y a g b => (h.2 i y a g b).mono e⟩
theorem Dues.is {K : PySem.W.Frag} {H : Hp} {h0 h1 : Int} : ∀ {gs : List Int} {ds : List V}, Dues K H h0 h1 gs ds → IsL K H (gs.map (dueD h0 h1)) ds
  | [], [], _ => rfl
  | [], _ :: _, h => by have := h.1; cases this
  | _ :: _, [], h => by have := h.1; cases this
  | g :: gs, d :: ds, h => ⟨d, ds, rfl, isTup2 (h.2 0 d rfl g rfl), Dues.is ⟨by have := h.1; simpa using this, fun i y a g' b => h.2 (i + 1) y (by simpa using a) g' (by simpa using b)⟩⟩
theorem dues_dep (h0 h1 : Int) : ∀ gs : List Int, depL (gs.map (dueD h0 h1)) ≤ 1
  | [] => Nat.zero_le _
  | g :: gs => by
    rw [List.map_cons]
    show max (dep (dueD h0 h1 g)) (depL (gs.map (dueD h0 h1))) ≤ 1
    have := dues_dep h0 h1 gs
    have e : dep (dueD h0 h1 g) = 1 := rfl
    omega
theorem reverse_is {K : PySem.W.Frag} {H : Hp} : ∀ {ds : List D} {xs : List V}, IsL K H ds xs → IsL K H ds.reverse xs.reverse
  | [], xs, h => by cases h; rfl
  | d :: ds, xs, h => by
    obtain ⟨x, r, rfl, hx, hr⟩ := h
    rw [List.reverse_cons, List.reverse_cons]
    exact (reverse_is hr).append ⟨x, [], rfl, hx, rfl⟩
theorem cat_one (c : Int) (ns : List Int) (k m : Nat) (hm : m ≤ k + 60) : ∃ cs : List Int, ([V.int c] ++ cutV (ns.map V.int) (some (k : Int)) (some (m : Int))) = cs.map V.int ∧ cs ≠ [] ∧ cs.length ≤ m - k + 1 := by
  refine ⟨c :: ((ns.drop (min k ns.length)).take (min m ns.length - min k ns.length)), ?_, by simp, ?_⟩
  · unfold cutV
    rw [List.map_cons, List.map_take, List.map_drop, List.length_map, HT.sIx_nat, HT.sIx_nat]
    rfl
  · rw [List.length_cons, List.length_take]
    omega
theorem is_lv {K : PySem.W.Frag} {H : Hp} {p m : Addr} {v : V} {h0 h1 : Int} {ds : List D} {xs : List V} (hp : SqT K H p [v, .ref m]) (hv : Fq K H v h0 h1) (hm : SqL K H m xs) (hd : IsL K H ds xs) : Is K H (.tup [.tup [.int h0, .int h1], .lst ds]) (.ref p) :=
  ⟨p, _, rfl, hp, _, _, rfl, isTup2 hv, _, _, rfl, ⟨m, _, rfl, hm, hd⟩, rfl⟩
theorem is_lst {K : PySem.W.Frag} {H : Hp} {m : Addr} {ds : List D} {xs : List V} (hm : SqL K H m xs) (hd : IsL K H ds xs) : Is K H (.lst ds) (.ref m) := ⟨m, _, rfl, hm, hd⟩
theorem is_nil {K : PySem.W.Frag} {H : Hp} {m : Addr} (hm : SqL K H m []) : Is K H (.lst []) (.ref m) := ⟨m, _, rfl, hm, rfl⟩
theorem upd_at {H : Hp} {p : Addr} {o : HO} : upd H p o p = some o := upd_same
theorem Mod4 (c : Int) : c.fmod 4 = 0 ∨ c.fmod 4 = 1 ∨ c.fmod 4 = 2 ∨ c.fmod 4 = 3 := by
  have := Int.fmod_nonneg_of_pos c (show (0 : Int) < 4 by decide)
  have := Int.fmod_lt_of_pos c (show (0 : Int) < 4 by decide)
  omega
theorem Mod3 (c : Int) : c.fmod 3 = 0 ∨ c.fmod 3 = 1 ∨ c.fmod 3 = 2 := by
  have := Int.fmod_nonneg_of_pos c (show (0 : Int) < 3 by decide)
  have := Int.fmod_lt_of_pos c (show (0 : Int) < 3 by decide)
  omega
theorem cut_first (gs : List Int) : cutV (gs.map V.int) none (some 1) = (gs.take 1).map V.int := by
  unfold cutV
  show ((gs.map V.int).drop (HT.sIx _ 0 none)).take (HT.sIx _ _ (some ((1 : Nat) : Int)) - _) = _
  rw [HT.sIx_nat, List.length_map]
  show ((gs.map V.int).drop 0).take (min 1 gs.length - 0) = _
  rw [List.drop_zero, Nat.sub_zero, List.map_take]
  cases gs with
  | nil => rfl
  | cons x xs => rw [List.length_cons, show min 1 (xs.length + 1) = 1 by omega]
theorem lack_take {h0 h1 g : Int} {gs : List Int} {i : Nat} (h : gs[i]? = some g) : lack h0 h1 (gs.take (i + 1)) = lack h0 h1 (gs.take i) + short h0 h1 g := by
  rw [K01.take_last h, K01.lack_app]
  unfold K01.lack
  simp
theorem lack_le {h0 h1 : Int} (t : 0 ≤ h0) (p : 1 ≤ h1) : ∀ {gs : List Int}, (∀ g ∈ gs, 0 ≤ g) → lack h0 h1 gs ≤ gs.length * h0
  | [], _ => by simp [K01.lack]
  | g :: gs, h => by
    have ih := lack_le t p (gs := gs) fun x hx => h x (List.mem_cons_of_mem _ hx)
    have hg := Int.mul_nonneg (h g (List.mem_cons_self ..)) (show 0 ≤ h1 by omega)
    have e : short h0 h1 g ≤ h0 := by unfold K01.short; split <;> omega
    unfold K01.lack at *
    rw [List.map_cons, List.sum_cons, List.length_cons, Int.natCast_add, Int.add_mul]
    simp only [Int.natCast_one, Int.one_mul]
    omega
theorem four : (4 : Int) ≠ 0 ∧ (4 : Int).natAbs < 2 ^ 1000 := ⟨by decide, by decide +kernel⟩
theorem three : (3 : Int) ≠ 0 ∧ (3 : Int).natAbs < 2 ^ 1000 := ⟨by decide, by decide +kernel⟩

section
variable {K : PySem.W.Frag} {w : World} {mg : Str → Option Value}
theorem sc_is_whole : FnScope ["thing"] ["thing"] (defScope s_is_whole) := ⟨rfl, rfl, rfl, by decide +kernel, rfl, by decide +kernel, by decide +kernel⟩
/-- what is_whole promises -/
def sp_is_whole (T : Tx K w mg) : Sp := fun vs H Q E => vs.length = 1 ∧ (∃ i, vs = [.int i] ∧ Q (.bl true) H)
theorem sc_common_divisor : FnScope ["one", "other", "left"] ["one", "other"] (defScope s_common_divisor) := ⟨rfl, rfl, rfl, by decide +kernel, rfl, by decide +kernel, by decide +kernel⟩
/-- what common_divisor promises -/
def sp_common_divisor (T : Tx K w mg) : Sp := fun vs H Q E => vs.length = 2 ∧ (∃ a b, vs = [.int a, .int b] ∧ 0 ≤ a ∧ 0 ≤ b ∧ Q (.int (cd a b)) H)
theorem sc_ratio : FnScope ["top", "bottom", "divisor"] ["top", "bottom"] (defScope s_ratio) := ⟨rfl, rfl, rfl, by decide +kernel, rfl, by decide +kernel, by decide +kernel⟩
/-- what ratio promises -/
def sp_ratio (T : Tx K w mg) : Sp := fun vs H Q E => vs.length = 2 ∧ (∃ t b, vs = [.int t, .int b] ∧ t.natAbs < 2 ^ 900 ∧ b.natAbs < 2 ^ 900 ∧ Rat T.c_NoNumber H Q E t b)
theorem sc_plus : FnScope ["one", "other"] ["one", "other"] (defScope s_plus) := ⟨rfl, rfl, rfl, by decide +kernel, rfl, by decide +kernel, by decide +kernel⟩
/-- what plus promises -/
def sp_plus (T : Tx K w mg) : Sp := fun vs H Q E => vs.length = 2 ∧ (∃ x y a b c d, vs = [x, y] ∧ Fq K H x a b ∧ Fq K H y c d ∧ Bd a ∧ Bd b ∧ Bd c ∧ Bd d ∧ Rat T.c_NoNumber H Q E (a * d + c * b) (b * d))
theorem sc_minus : FnScope ["one", "other"] ["one", "other"] (defScope s_minus) := ⟨rfl, rfl, rfl, by decide +kernel, rfl, by decide +kernel, by decide +kernel⟩
/-- what minus promises -/
def sp_minus (T : Tx K w mg) : Sp := fun vs H Q E => vs.length = 2 ∧ (∃ x y a b c d, vs = [x, y] ∧ Fq K H x a b ∧ Fq K H y c d ∧ Bd a ∧ Bd b ∧ Bd c ∧ Bd d ∧ Rat T.c_NoNumber H Q E (a * d - c * b) (b * d))
theorem sc_over : FnScope ["one", "other"] ["one", "other"] (defScope s_over) := ⟨rfl, rfl, rfl, by decide +kernel, rfl, by decide +kernel, by decide +kernel⟩
/-- what over promises -/
def sp_over (T : Tx K w mg) : Sp := fun vs H Q E => vs.length = 2 ∧ (∃ x y a b c d, vs = [x, y] ∧ Fq K H x a b ∧ Fq K H y c d ∧ Bd a ∧ Bd b ∧ Bd c ∧ Bd d ∧ Rat T.c_NoNumber H Q E (a * d) (b * c))
theorem sc_less : FnScope ["one", "other"] ["one", "other"] (defScope s_less) := ⟨rfl, rfl, rfl, by decide +kernel, rfl, by decide +kernel, by decide +kernel⟩
/-- what less promises -/
def sp_less (T : Tx K w mg) : Sp := fun vs H Q E => vs.length = 2 ∧ (∃ x y a b c d, vs = [x, y] ∧ Fq K H x a b ∧ Fq K H y c d ∧ Bd a ∧ Bd b ∧ Bd c ∧ Bd d ∧ Q (.bl (decide (a * d < c * b))) H)
theorem sc_level_of : FnScope ["amount", "gifts", "together", "reached", "number", "gift"] ["amount", "gifts"] (defScope s_level_of) := ⟨rfl, rfl, rfl, by decide +kernel, rfl, by decide +kernel, by decide +kernel⟩
/-- what level_of promises -/
def sp_level_of (T : Tx K w mg) : Sp := fun vs H Q E => vs.length = 2 ∧ (∃ (x : V) (l : Addr) (a0 a1 : Int) (gs : List Int), vs = [x, .ref l] ∧ Fq K H x a0 a1 ∧ Gv a0 a1 gs ∧ SqL K H l (gs.map V.int) ∧ ∀ H' v h0 h1, Same H H' → Fq K H' v h0 h1 → Fill a0 a1 gs h0 h1 → h0 ≤ 10 ^ 40 → h1 ≤ 10 ^ 40 → Q v H')
theorem sc_due : FnScope ["reached", "gift"] ["reached", "gift"] (defScope s_due) := ⟨rfl, rfl, rfl, by decide +kernel, rfl, by decide +kernel, by decide +kernel⟩
/-- what due promises -/
def sp_due (T : Tx K w mg) : Sp := fun vs H Q E => vs.length = 2 ∧ (∃ v g h0 h1, vs = [v, .int g] ∧ Fq K H v h0 h1 ∧ 0 ≤ h0 ∧ h0 ≤ 10 ^ 40 ∧ 1 ≤ h1 ∧ h1 ≤ 10 ^ 40 ∧ 0 ≤ g ∧ g ≤ 10 ^ 19 ∧ ∀ H' w, Same H H' → Fq K H' w (dueT h0 h1 g) (dueB h0 h1 g) → Q w H')
theorem sc_level : FnScope ["amount", "gifts", "reached"] ["amount", "gifts"] (defScope s_level) := ⟨rfl, rfl, rfl, by decide +kernel, rfl, by decide +kernel, by decide +kernel⟩
/-- what level promises -/
def sp_level (T : Tx K w mg) : Sp := fun vs H Q E => vs.length = 2 ∧ (∃ (x : V) (l : Addr) (a0 a1 : Int) (gs : List Int), vs = [x, .ref l] ∧ Fq K H x a0 a1 ∧ Gv a0 a1 gs ∧ SqL K H l (gs.map V.int) ∧ ∀ H' p v m ds h0 h1, Same H H' → Fill a0 a1 gs h0 h1 → h0 ≤ 10 ^ 40 → h1 ≤ 10 ^ 40 → H m = none → H' m = some (.lst ds) → SqT K H' p [v, .ref m] → Fq K H' v h0 h1 → Dues K H' h0 h1 gs ds → Q (.ref p) H')
theorem sc__law_cell_at : FnScope ["_law_script", "_law_k"] ["_law_script", "_law_k"] (defScope s__law_cell_at) := ⟨rfl, rfl, rfl, by decide +kernel, rfl, by decide +kernel, by decide +kernel⟩
/-- what _law_cell_at promises -/
def sp__law_cell_at (T : Tx K w mg) : Sp := fun vs H Q E => vs.length = 2 ∧ (∃ (l : Addr) (ns : List Int) (k : Int), vs = [.ref l, .int k] ∧ SqL K H l (ns.map V.int) ∧ 0 ≤ k ∧ ∀ z, Q (.int z) H)
theorem sc__law_whole : FnScope ["_law_found"] ["_law_found"] (defScope s__law_whole) := ⟨rfl, rfl, rfl, by decide +kernel, rfl, by decide +kernel, by decide +kernel⟩
/-- what _law_whole promises -/
def sp__law_whole (T : Tx K w mg) : Sp := fun vs H Q E => vs.length = 1 ∧ (∃ i, vs = [.int i] ∧ Q (.bl true) H)
theorem sc__law_divisor : FnScope ["_law_one", "_law_other"] ["_law_one", "_law_other"] (defScope s__law_divisor) := ⟨rfl, rfl, rfl, by decide +kernel, rfl, by decide +kernel, by decide +kernel⟩
/-- what _law_divisor promises -/
def sp__law_divisor (T : Tx K w mg) : Sp := fun vs H Q E => vs.length = 2 ∧ (∃ a b, vs = [.int a, .int b] ∧ 0 ≤ a ∧ 0 ≤ b ∧ Q (.int (cd a b)) H)
theorem sc__law_is : FnScope ["_law_found", "_law_top", "_law_bottom", "_law_by"] ["_law_found", "_law_top", "_law_bottom"] (defScope s__law_is) := ⟨rfl, rfl, rfl, by decide +kernel, rfl, by decide +kernel, by decide +kernel⟩
/-- what _law_is promises -/
def sp__law_is (T : Tx K w mg) : Sp := fun vs H Q E => vs.length = 3 ∧ (∃ v t b, vs = [v, .int t, .int b] ∧ 0 ≤ t ∧ 1 ≤ b ∧ t ≤ 10 ^ 60 ∧ b ≤ 10 ^ 60 ∧ Fq K H v (t.fdiv (cd t b)) (b.fdiv (cd t b)) ∧ ∀ H', Same H H' → Q (.bl true) H')
theorem sc__law_amount : FnScope ["_law_cell", "_law_other", "_law_top", "_law_bottom", "_law_by"] ["_law_cell", "_law_other"] (defScope s__law_amount) := ⟨rfl, rfl, rfl, by decide +kernel, rfl, by decide +kernel, by decide +kernel⟩
/-- what _law_amount promises -/
def sp__law_amount (T : Tx K w mg) : Sp := fun vs H Q E => vs.length = 2 ∧ (∃ c o, vs = [.int c, .int o] ∧ ∀ H' v a0 a1, Same H H' → Fq K H' v a0 a1 → 0 ≤ a0 → a0 ≤ 10 ^ 20 → 1 ≤ a1 → a1 ≤ 10 ^ 9 → Q v H')
theorem sc__law_gifts : FnScope ["_law_cells", "_law_gifts_here", "_law_cell", "_law_gift"] ["_law_cells"] (defScope s__law_gifts) := ⟨rfl, rfl, rfl, by decide +kernel, rfl, by decide +kernel, by decide +kernel⟩
/-- what _law_gifts promises -/
def sp__law_gifts (T : Tx K w mg) : Sp := fun vs H Q E => vs.length = 1 ∧ (∃ (l : Addr) (cs : List Int), vs = [.ref l] ∧ SqL K H l (cs.map V.int) ∧ cs.length ≤ 62 ∧ ∀ (H' : Hp) (D : Addr) (gs : List Int), Same H H' → H' D = some (.lst (gs.map V.int)) → gs.length = cs.length → (∀ g ∈ gs, 0 ≤ g ∧ g ≤ 10 ^ 18) → Q (.ref D) H')
theorem sc__law_fills : FnScope ["_law_found", "_law_amount_here", "_law_gifts_here", "_law_high", "_law_total", "_law_gift", "_law_due", "_law_short"] ["_law_found", "_law_amount_here", "_law_gifts_here"] (defScope s__law_fills) := ⟨rfl, rfl, rfl, by decide +kernel, rfl, by decide +kernel, by decide +kernel⟩
/-- what _law_fills promises -/
def sp__law_fills (T : Tx K w mg) : Sp := fun vs H Q E => vs.length = 3 ∧ (∃ (f : Addr) (v va : V) (m l : Addr) (ds : List V) (gs : List Int) (a0 a1 h0 h1 : Int), vs = [.ref f, va, .ref l] ∧ SqT K H f [v, .ref m] ∧ Fq K H v h0 h1 ∧ SqL K H m ds ∧ Dues K H h0 h1 gs ds ∧ Fq K H va a0 a1 ∧ SqL K H l (gs.map V.int) ∧ Gv a0 a1 gs ∧ Fill a0 a1 gs h0 h1 ∧ h0 ≤ 10 ^ 40 ∧ h1 ≤ 10 ^ 40 ∧ ∀ H', Same H H' → Q (.bl true) H')
theorem sc_law : FnScope ["_law_script", "_law_amount_here", "_law_gifts_here", "_law_handed", "_law_found", "_law_kept", "_law_other_way", "_law_amount_more"] ["_law_script"] (defScope s_law) := ⟨rfl, rfl, rfl, by decide +kernel, rfl, by decide +kernel, by decide +kernel⟩
/-- what law promises -/
def sp_law (T : Tx K w mg) : Sp := fun vs H Q E => vs.length = 1 ∧ (∃ (l : Addr) (ns : List Int), vs = [.ref l] ∧ SqL K H l (ns.map V.int) ∧ ns.length ≤ 63 ∧ ∀ H', Q (.bl true) H')
theorem nd_0 : (["gift", "reached"] : List Str).Nodup := by decide +kernel
end
section
variable {P : Program} {w : World} {K : PySem.W.Frag} {mg : Str → Option Value} {base : Heap}
theorem ok_is_whole (T : Tx K w mg)  : FnOk P w K mg base (CX1 P w) 1 T.a_is_whole T.fd_is_whole ["thing"] (sp_is_whole T) := by
  refine Fun.okX (k := 0) T.F_is_whole sc_is_whole (fun vs H Q E h => h.1) (fun cdv A outer s H vs Q E hr h => ?_)
  obtain ⟨-, h⟩ := h
  obtain ⟨i, rfl, q⟩ := h
  refine ⟨_, (pss_one (ps_ret (pe_and (pe_isi K (by rfl) T.n_isinstance (pa_cons (pv 0) (pa_cons (pe_bltn (v := .ty "int") (by rfl) T.n_int bt_int rfl) pa_nil))) (pe_one (pe_not (pe_isi K (by rfl) T.n_isinstance (pa_cons (pv 0) (pa_cons (pe_bltn (v := .ty "bool") (by rfl) T.n_bool bt_bool rfl) pa_nil)))))))), ?_⟩
  have k1 : Kd K H (.int i) (.type "int") := .of (.int i)
  exact ⟨_, rfl, _, .ty "int", _, _, rfl, rfl, k1, T.ki_int, _, rfl, iteT ⟨_, rfl, _, .ty "bool", _, _, rfl, rfl, k1, T.kb_int, _, rfl, q⟩⟩
theorem ok_common_divisor (T : Tx K w mg)  : FnOk P w K mg base (CX1 P w) 1 T.a_common_divisor T.fd_common_divisor ["one", "other"] (sp_common_divisor T) := by
  refine Fun.okX (k := 0) T.F_common_divisor sc_common_divisor (fun vs H Q E h => h.1) (fun cdv A outer s H vs Q E hr h => ?_)
  obtain ⟨-, h⟩ := h
  obtain ⟨a, b, rfl, ha, hb, q⟩ := h
  refine ⟨_, (pss_cons (ps_while PassesOwn.leaving (pt_cmpR op_ne (pv 1) pe_int (nomark _)) (pss_cons (ps_set (i := 2) sc_common_divisor.nd rfl (Or.inl rfl) (pe_op op_modN (pv 0) (pv 1)))
      (pss_cons (ps_set (i := 0) sc_common_divisor.nd rfl (Or.inl rfl) (pv 1))
      (pss_one (ps_set (i := 1) sc_common_divisor.nd rfl (Or.inl rfl) (pv 2))))))
      (pss_one (ps_ret (pv 0)))), ?_⟩
  refine while_by (fun σ H2 => ∃ x y z, σ = [some (.int x), some (.int y), z] ∧ H2 = H ∧ 0 ≤ x ∧ 0 ≤ y ∧ cd x y = cd a b) (fun σ _ => match σ with | [_, some (.int y), _] => y.toNat | _ => 0) ⟨a, b, none, rfl, rfl, ha, hb, rfl⟩ ?_ ?_
  · rintro σ H2 ⟨x, y, z, rfl, rfl, hx, hy, e⟩
    refine ⟨_, rfl, rfl, _, rfl, ?_⟩
    by_cases y0 : y = 0
    · subst y0
      refine iteF ⟨_, rfl, ?_⟩
      rw [K01.out e hx rfl]
      exact q
    · rw [decide_eq_false (show ¬ V.int y = V.int 0 from fun z => y0 (V.int.inj z))]
      refine iteT ⟨_, rfl, _, rfl, _, _, rfl, rfl, y0, _, rfl, _, rfl, ?_⟩
      have t := K01.turn e hx (show 0 < y by omega)
      exact ⟨⟨y, x.fmod y, _, rfl, rfl, t.1, t.2.1, t.2.2⟩, K01.less (by omega)⟩
  · rintro σ H2 Q1 Q2 f ⟨v, e1, sc, k, e2, q2⟩
    exact ⟨v, e1, sc, k, e2, f _ _ q2⟩
theorem ok_ratio (T : Tx K w mg) (G_is_whole : FnOk P w K mg base (CX1 P w) 1 T.a_is_whole T.fd_is_whole ["thing"] (sp_is_whole T)) (G_common_divisor : FnOk P w K mg base (CX1 P w) 1 T.a_common_divisor T.fd_common_divisor ["one", "other"] (sp_common_divisor T)) : FnOk P w K mg base (CX1 P w) 2 T.a_ratio T.fd_ratio ["top", "bottom"] (sp_ratio T) := by
  refine Fun.okX (k := 1) T.F_ratio sc_ratio (fun vs H Q E h => h.1) (fun cdv A outer s H vs Q E hr h => ?_)
  obtain ⟨-, h⟩ := h
  obtain ⟨t, b, rfl, ht, hb, h0, h1⟩ := h
  refine ⟨_, (pss_cons (ps_if (PW.pt (pw_or (pt_not (pt_val (pe_callX G_is_whole (hr.mono (by decide)) (by rfl) T.m_is_whole T.F_is_whole.kp T.b_is_whole .nil pass_none (pa_cons (pv 0) pa_nil)))) (pw_or1 (pt_not (pt_val (pe_callX G_is_whole (hr.mono (by decide)) (by rfl) T.m_is_whole T.F_is_whole.kp T.b_is_whole .nil pass_none (pa_cons (pv 1) pa_nil))))))) (pss_one (ps_raise (by rfl) T.m_NoNumber T.x_NoNumber EB rfl raise_on (pa_cons pe_str pa_nil))) pss_nil)
      (pss_cons (ps_if (pt_cmpR op_eq (pv 1) pe_int (nomark _)) (pss_one (ps_raise (by rfl) T.m_NoNumber T.x_NoNumber EB rfl raise_on (pa_cons pe_str pa_nil))) pss_nil)
      (pss_cons (ps_set (i := 2) sc_ratio.nd rfl (Or.inl rfl) (pe_callX G_common_divisor (hr.mono (by decide)) (by rfl) T.m_common_divisor T.F_common_divisor.kp T.b_common_divisor .nil pass_none (pa_cons (pe_callB call_abs (by rfl) T.n_abs bt_abs (pa_cons (pv 0) pa_nil)) (pa_cons (pe_callB call_abs (by rfl) T.n_abs bt_abs (pa_cons (pv 1) pa_nil)) pa_nil))))
      (pss_cons (ps_if (pt_cmpR op_lt (pv 1) pe_int (nomark _)) (pss_one (ps_set (i := 2) sc_ratio.nd rfl (Or.inl rfl) (pe_un un_neg (pv 2)))) pss_nil)
      (pss_one (ps_ret (pe_tup (pa_cons (pe_op op_fdivB (pv 0) (pv 2)) (pa_cons (pe_op op_fdivB (pv 1) (pv 2)) pa_nil))))))))), ?_⟩
  refine ⟨_, rfl, rfl, t, rfl, _, rfl, iteF ?_⟩
  refine ⟨_, rfl, rfl, b, rfl, _, rfl, iteF ?_⟩
  refine ⟨_, rfl, rfl, _, rfl, ?_⟩
  by_cases b0 : b = 0
  · rw [decide_eq_true (show V.int b = V.int 0 by rw [b0])]
    exact iteT ⟨by show 1 ≤ sizeLine; decide, h0 b0⟩
  · rw [decide_eq_false (show ¬ V.int b = V.int 0 from fun z => b0 (V.int.inj z))]
    refine iteF ⟨_, rfl, t, rfl, _, rfl, b, rfl, rfl, ab t, ab b, rfl, K01.ab_nonneg t, K01.ab_nonneg b, ?_⟩
    have g0 : 0 < cd (ab t) (ab b) := K01.cd_pos (K01.ab_pos b0)
    have g1 : cd (ab t) (ab b) ≤ ab b := K01.cd_le (K01.ab_pos b0)
    have gb : (cd (ab t) (ab b)).natAbs < 2 ^ 900 := by
      have := ab_natI b
      omega
    refine ⟨_, rfl, b, _, rfl, rfl, _, rfl, ?_⟩
    by_cases bn : b < 0
    · rw [decide_eq_true bn]
      have lw := K01.low (t := t) (d := -cd (ab t) (ab b)) b0 (.inr ⟨bn, rfl⟩)
      have dz : -cd (ab t) (ab b) ≠ 0 ∧ (-cd (ab t) (ab b)).natAbs < 2 ^ 1000 := ⟨by omega, nat900 (by rw [Int.natAbs_neg]; exact gb)⟩
      refine iteT ⟨_, rfl, _, rfl, ?_⟩
      refine ⟨_, rfl, _, rfl, _, _, rfl, rfl, dz, _, rfl, _, rfl, _, _, rfl, rfl, dz, by show 2 ≤ sizeLine; decide, fun p hp => ?_⟩
      exact h1 b0 p _ _ hp lw.1 lw.2.1 lw.2.2.1 lw.2.2.2
    · rw [decide_eq_false bn]
      have lw := K01.low (t := t) (d := cd (ab t) (ab b)) b0 (.inl ⟨by omega, rfl⟩)
      have dz : cd (ab t) (ab b) ≠ 0 ∧ (cd (ab t) (ab b)).natAbs < 2 ^ 1000 := ⟨by omega, nat900 gb⟩
      refine iteF ?_
      refine ⟨_, rfl, _, rfl, _, _, rfl, rfl, dz, _, rfl, _, rfl, _, _, rfl, rfl, dz, by show 2 ≤ sizeLine; decide, fun p hp => ?_⟩
      exact h1 b0 p _ _ hp lw.1 lw.2.1 lw.2.2.1 lw.2.2.2
theorem ok_plus (T : Tx K w mg) (G_ratio : FnOk P w K mg base (CX1 P w) 2 T.a_ratio T.fd_ratio ["top", "bottom"] (sp_ratio T)) : FnOk P w K mg base (CX1 P w) 3 T.a_plus T.fd_plus ["one", "other"] (sp_plus T) := by
  refine Fun.okX (k := 2) T.F_plus sc_plus (fun vs H Q E h => h.1) (fun cdv A outer s H vs Q E hr h => ?_)
  obtain ⟨-, h⟩ := h
  obtain ⟨x, y, a, b, c, d, rfl, ⟨p, rfl, hp⟩, ⟨o, rfl, ho⟩, ha, hb, hc, hd, q⟩ := h
  refine ⟨_, (pss_one (ps_ret (pe_callX G_ratio (hr.mono (by decide)) (by rfl) T.m_ratio T.F_ratio.kp T.b_ratio .nil pass_on (pa_cons (pe_op op_add (pe_op op_mulB (pe_ix ix_tup (pv 0) pe_int (fun _ _ => rfl)) (pe_ix ix_tup (pv 1) pe_int (fun _ _ => rfl))) (pe_op op_mulB (pe_ix ix_tup (pv 1) pe_int (fun _ _ => rfl)) (pe_ix ix_tup (pv 0) pe_int (fun _ _ => rfl)))) (pa_cons (pe_op op_mulB (pe_ix ix_tup (pv 0) pe_int (fun _ _ => rfl)) (pe_ix ix_tup (pv 1) pe_int (fun _ _ => rfl))) pa_nil))))), ?_⟩
  exact ⟨_, rfl, p, _, _, _, rfl, rfl, hp, at0 a b, _, rfl, o, _, _, _, rfl, rfl, ho, at1 c d, _, _, rfl, rfl, bd_big ha hd, _, rfl, o, _, _, _, rfl, rfl, ho, at0 c d, _, rfl, p, _, _, _, rfl, rfl, hp, at1 a b, _, _, rfl, rfl, bd_big hc hb, _, _, rfl, rfl, _, rfl, p, _, _, _, rfl, rfl, hp, at1 a b, _, rfl, o, _, _, _, rfl, rfl, ho, at1 c d, _, _, rfl, rfl, bd_big hb hd, rfl, _, _, rfl, bd_add ha hd hc hb, bd_mul9 hb hd, q⟩
theorem ok_minus (T : Tx K w mg) (G_ratio : FnOk P w K mg base (CX1 P w) 2 T.a_ratio T.fd_ratio ["top", "bottom"] (sp_ratio T)) : FnOk P w K mg base (CX1 P w) 3 T.a_minus T.fd_minus ["one", "other"] (sp_minus T) := by
  refine Fun.okX (k := 2) T.F_minus sc_minus (fun vs H Q E h => h.1) (fun cdv A outer s H vs Q E hr h => ?_)
  obtain ⟨-, h⟩ := h
  obtain ⟨x, y, a, b, c, d, rfl, ⟨p, rfl, hp⟩, ⟨o, rfl, ho⟩, ha, hb, hc, hd, q⟩ := h
  refine ⟨_, (pss_one (ps_ret (pe_callX G_ratio (hr.mono (by decide)) (by rfl) T.m_ratio T.F_ratio.kp T.b_ratio .nil pass_on (pa_cons (pe_op op_sub (pe_op op_mulB (pe_ix ix_tup (pv 0) pe_int (fun _ _ => rfl)) (pe_ix ix_tup (pv 1) pe_int (fun _ _ => rfl))) (pe_op op_mulB (pe_ix ix_tup (pv 1) pe_int (fun _ _ => rfl)) (pe_ix ix_tup (pv 0) pe_int (fun _ _ => rfl)))) (pa_cons (pe_op op_mulB (pe_ix ix_tup (pv 0) pe_int (fun _ _ => rfl)) (pe_ix ix_tup (pv 1) pe_int (fun _ _ => rfl))) pa_nil))))), ?_⟩
  exact ⟨_, rfl, p, _, _, _, rfl, rfl, hp, at0 a b, _, rfl, o, _, _, _, rfl, rfl, ho, at1 c d, _, _, rfl, rfl, bd_big ha hd, _, rfl, o, _, _, _, rfl, rfl, ho, at0 c d, _, rfl, p, _, _, _, rfl, rfl, hp, at1 a b, _, _, rfl, rfl, bd_big hc hb, _, _, rfl, rfl, _, rfl, p, _, _, _, rfl, rfl, hp, at1 a b, _, rfl, o, _, _, _, rfl, rfl, ho, at1 c d, _, _, rfl, rfl, bd_big hb hd, rfl, _, _, rfl, bd_sub ha hd hc hb, bd_mul9 hb hd, q⟩
theorem ok_over (T : Tx K w mg) (G_ratio : FnOk P w K mg base (CX1 P w) 2 T.a_ratio T.fd_ratio ["top", "bottom"] (sp_ratio T)) : FnOk P w K mg base (CX1 P w) 3 T.a_over T.fd_over ["one", "other"] (sp_over T) := by
  refine Fun.okX (k := 2) T.F_over sc_over (fun vs H Q E h => h.1) (fun cdv A outer s H vs Q E hr h => ?_)
  obtain ⟨-, h⟩ := h
  obtain ⟨x, y, a, b, c, d, rfl, ⟨p, rfl, hp⟩, ⟨o, rfl, ho⟩, ha, hb, hc, hd, q⟩ := h
  refine ⟨_, (pss_one (ps_ret (pe_callX G_ratio (hr.mono (by decide)) (by rfl) T.m_ratio T.F_ratio.kp T.b_ratio .nil pass_on (pa_cons (pe_op op_mulB (pe_ix ix_tup (pv 0) pe_int (fun _ _ => rfl)) (pe_ix ix_tup (pv 1) pe_int (fun _ _ => rfl))) (pa_cons (pe_op op_mulB (pe_ix ix_tup (pv 0) pe_int (fun _ _ => rfl)) (pe_ix ix_tup (pv 1) pe_int (fun _ _ => rfl))) pa_nil))))), ?_⟩
  exact ⟨_, rfl, p, _, _, _, rfl, rfl, hp, at0 a b, _, rfl, o, _, _, _, rfl, rfl, ho, at1 c d, _, _, rfl, rfl, bd_big ha hd, _, rfl, p, _, _, _, rfl, rfl, hp, at1 a b, _, rfl, o, _, _, _, rfl, rfl, ho, at0 c d, _, _, rfl, rfl, bd_big hb hc, rfl, _, _, rfl, bd_mul9 ha hd, bd_mul9 hb hc, q⟩
theorem ok_less (T : Tx K w mg)  : FnOk P w K mg base (CX1 P w) 1 T.a_less T.fd_less ["one", "other"] (sp_less T) := by
  refine Fun.okX (k := 0) T.F_less sc_less (fun vs H Q E h => h.1) (fun cdv A outer s H vs Q E hr h => ?_)
  obtain ⟨-, h⟩ := h
  obtain ⟨x, y, a, b, c, d, rfl, ⟨p, rfl, hp⟩, ⟨o, rfl, ho⟩, ha, hb, hc, hd, q⟩ := h
  refine ⟨_, (pss_one (ps_ret (pe_cmpR op_lt (pe_op op_mulB (pe_ix ix_tup (pv 0) pe_int (fun _ _ => rfl)) (pe_ix ix_tup (pv 1) pe_int (fun _ _ => rfl))) (pe_op op_mulB (pe_ix ix_tup (pv 1) pe_int (fun _ _ => rfl)) (pe_ix ix_tup (pv 0) pe_int (fun _ _ => rfl))) (nomark _)))), ?_⟩
  exact ⟨_, rfl, p, _, _, _, rfl, rfl, hp, at0 a b, _, rfl, o, _, _, _, rfl, rfl, ho, at1 c d, _, _, rfl, rfl, bd_big ha hd, _, rfl, o, _, _, _, rfl, rfl, ho, at0 c d, _, rfl, p, _, _, _, rfl, rfl, hp, at1 a b, _, _, rfl, rfl, bd_big hc hb, _, _, rfl, rfl, q⟩
theorem ok_level_of (T : Tx K w mg) (G_plus : FnOk P w K mg base (CX1 P w) 3 T.a_plus T.fd_plus ["one", "other"] (sp_plus T)) (G_over : FnOk P w K mg base (CX1 P w) 3 T.a_over T.fd_over ["one", "other"] (sp_over T)) (G_less : FnOk P w K mg base (CX1 P w) 1 T.a_less T.fd_less ["one", "other"] (sp_less T)) : FnOk P w K mg base (CX1 P w) 4 T.a_level_of T.fd_level_of ["amount", "gifts"] (sp_level_of T) := by
  refine Fun.okX (k := 3) T.F_level_of sc_level_of (fun vs H Q E h => h.1) (fun cdv A outer s H vs Q E hr h => ?_)
  obtain ⟨-, h⟩ := h
  obtain ⟨x, l, a0, a1, gs, rfl, hx, gv, hS, q⟩ := h
  refine ⟨_, (pss_cons (ps_set (i := 2) sc_level_of.nd rfl (Or.inl rfl) (pv 0))
      (pss_cons (ps_set (i := 3) sc_level_of.nd rfl (Or.inl rfl) (pe_glob (v := .ref T.a_NOTHING) (by rfl) T.m_NOTHING rfl))
      (pss_cons (ps_for PassesOwn.leaving rfl (pi_enum K (by rfl) T.n_enumerate (pa_cons (pe_callB (call_sortedI K) (by rfl) T.n_sorted bt_sorted (pa_cons (pv 1) pa_nil)) pa_nil)) (pg_tup rfl (pgs_cons (pg_name (i := 4) sc_level_of.nd rfl (Or.inl rfl)) (pgs_cons (pg_name (i := 5) sc_level_of.nd rfl (Or.inl rfl)) pgs_nil)))
        (pss_cons (ps_if (PW.pt (pw_and (pt_cmpR op_gt (pv 4) pe_int (nomark _)) (pw_and1 (pt_not (pt_val (pe_callX G_less (hr.mono (by decide)) (by rfl) T.m_less T.F_less.kp T.b_less .nil pass_none (pa_cons (pe_tup (pa_cons (pv 5) (pa_cons pe_int pa_nil))) (pa_cons (pv 3) pa_nil)))))))) (pss_one (ps_ret (pv 3))) pss_nil)
      (pss_cons (ps_set (i := 2) sc_level_of.nd rfl (Or.inl rfl) (pe_callX G_plus (hr.mono (by decide)) (by rfl) T.m_plus T.F_plus.kp T.b_plus .nil pass_none (pa_cons (pv 2) (pa_cons (pe_tup (pa_cons (pv 5) (pa_cons pe_int pa_nil))) pa_nil))))
      (pss_one (ps_set (i := 3) sc_level_of.nd rfl (Or.inl rfl) (pe_callX G_over (hr.mono (by decide)) (by rfl) T.m_over T.F_over.kp T.b_over .nil pass_none (pa_cons (pv 2) (pa_cons (pe_tup (pa_cons (pe_op op_add (pv 4) pe_int) (pa_cons pe_int pa_nil))) pa_nil))))))))
      (pss_one (ps_ret (pv 3)))))), ?_⟩
  refine ⟨_, rfl, _, rfl, l, gs, rfl, hS, by have := gv.len; omega, fun D zs nD hp srt => ⟨D, rfl, ⟨_, .of upd_same⟩, for_enum (xs := zs.map V.int) (LvInv K (upd H D (.lst (zs.map V.int))) x l a0 a1 zs) ?start ?list ?turn ?done⟩⟩
  case start => exact ⟨_, _, a0, a1, 0, 1, none, none, rfl, Same.refl _, hx.mono (same_upd nD), ⟨_, rfl, T.s_NOTHING _⟩, K01.tg_start gv, .inl ⟨rfl, rfl, rfl⟩⟩
  case list =>
    rintro i σ H2 _ ⟨vt, vr, t0, t1, r0, r1, v4, v5, rfl, s2, _⟩
    exact s2.sql (.of upd_same)
  case done =>
    rintro σ H2 ⟨vt, vr, t0, t1, r0, r1, v4, v5, rfl, s2, ht, hr, tg, rc⟩
    rw [List.length_map] at rc
    have gz := gv.perm hp
    rcases rc with ⟨z, _, _⟩ | ⟨i1, L, c, b0, b1⟩
    · exact absurd (List.length_eq_zero_iff.mp z) gz.ne
    · exact ⟨_, rfl, q _ _ _ _ ((same_upd nD).trans s2) hr (K01.lv_fill hp srt i1 (Nat.le_refl _) L c (fun g e => by rw [List.getElem?_eq_none (Nat.le_refl _)] at e; cases e)) b0 b1⟩
  case turn =>
    rintro i y σ H2 Tt hy nT ⟨vt, vr, t0, t1, r0, r1, v4, v5, rfl, s2, ht, hr, tg, rc⟩
    obtain ⟨g, rfl, hg⟩ := ints_at hy
    have sT := same_upd (o := .tup [.int i, .int g]) nT
    have hr2 := hr.mono sT
    have ht2 := ht.mono sT
    have gz := gv.perm hp
    have gb := gz.each g (List.mem_of_getElem? hg)
    have il : i < 62 := by
      have h1 := (List.getElem?_eq_some_iff.mp hg).1
      have h2 := gz.len
      omega
    have rb := Rc.bd rc
    have tb := Tg.bd tg (by omega) gv.a1x
    have bg : Bd g := bd40 gb.1 (by omega)
    have br0 : Bd r0 := bd40 rb.1 (by omega)
    have br1 : Bd r1 := bd40 (by omega) (by omega)
    refine ⟨_, _, rfl, .of upd_same, rfl, _, _, rfl, _, _, rfl, rfl, ?_⟩
    dsimp only [gName]
    refine seq_by (fun σ' H' => σ' = [some x, some (.ref l), some vt, some vr, some (.int i), some (.int g)] ∧ Same (upd H2 Tt (.tup [.int i, .int g])) H' ∧ (i = 0 ∨ (Lv a0 a1 zs i r0 r1 ∧ g * r1 < r0))) (fun nx hnx => ?_) ?_
    · refine ⟨_, rfl, _, _, rfl, rfl, _, rfl, ?_⟩
      by_cases i0 : i = 0
      · rw [decide_eq_false (show ¬ ((i : Int) > 0) by omega)]
        exact iteF (iteF (hnx _ _ ⟨rfl, Same.refl _, .inl i0⟩))
      · rw [decide_eq_true (show (i : Int) > 0 by omega)]
        refine iteT ⟨_, rfl, few rfl, fun p np => ⟨_, rfl, rfl, _, _, g, 1, r0, r1, rfl, fq_new, hr2.mono (same_upd np), bg, bd1, br0, br1, _, rfl, ?_⟩⟩
        rcases rc with ⟨z, _, _⟩ | ⟨i1, L, c, b0, b1⟩
        · exact absurd z i0
        by_cases lt : g * r1 < r0 * 1
        · rw [decide_eq_true lt]
          exact iteF (hnx _ _ ⟨rfl, same_upd np, .inr ⟨L, by omega⟩⟩)
        · rw [decide_eq_false lt]
          refine iteT ⟨_, rfl, q _ _ _ _ ((same_upd nD).trans (s2.trans (sT.trans (same_upd np)))) (hr2.mono (same_upd np)) (K01.lv_fill hp srt i1 (Nat.le_of_lt (List.getElem?_eq_some_iff.mp hg).1) L c (fun g' e => ?_)) b0 b1⟩
          rw [hg] at e
          cases e
          omega
    · rintro σ' H3 ⟨rfl, s3, hi⟩
      refine ⟨_, rfl, _, rfl, few rfl, fun p np => ⟨rfl, _, _, t0, t1, g, 1, rfl, ht2.mono (s3.trans (same_upd np)), fq_new, tb.1, tb.2, bg, bd1, fun z => absurd z (by have := tg.p1; omega), fun _ p2 q2 r2 np2 lw k1 k2 k3 => ?_⟩⟩
      have tg2 := K01.tg_step tg gv.a1x hg gb.1 gb.2 lw k1 k2 k3
      have tb2 := Tg.bd tg2 (by omega) gv.a1x
      have rpos : r2 * ((i : Int) + 1) ≠ 0 := Int.mul_ne_zero (by omega) (by omega)
      refine ⟨_, rfl, _, rfl, _, _, rfl, rfl, few rfl, fun p3 np3 => ⟨rfl, _, _, q2, r2, (i : Int) + 1, 1, rfl, fq_new.mono (same_upd np3), fq_new, tb2.1, tb2.2, bd40 (by omega) (by omega), bd1, fun z => absurd z rpos, fun _ p4 q4 r4 np4 lw4 j1 j2 j3 => ?_⟩⟩
      have sA := (same_upd (o := .tup [.int g, .int 1]) np).trans ((same_upd (o := .tup [.int q2, .int r2]) np2).trans ((same_upd (o := .tup [.int ((i : Int) + 1), .int 1]) np3).trans (same_upd (o := .tup [.int q4, .int r4]) np4)))
      refine ⟨_, _, q2, r2, q4, r4, _, _, rfl, s2.trans (sT.trans (s3.trans sA)), fq_new.mono ((same_upd np3).trans (same_upd np4)), fq_new, tg2, K01.rc_step gv.a0n gv.a1n gv.a1x il srt hg tg2 hi lw4 j1 j2 j3⟩
theorem ok_due (T : Tx K w mg) (G_minus : FnOk P w K mg base (CX1 P w) 3 T.a_minus T.fd_minus ["one", "other"] (sp_minus T)) (G_less : FnOk P w K mg base (CX1 P w) 1 T.a_less T.fd_less ["one", "other"] (sp_less T)) : FnOk P w K mg base (CX1 P w) 4 T.a_due T.fd_due ["reached", "gift"] (sp_due T) := by
  refine Fun.okX (k := 3) T.F_due sc_due (fun vs H Q E h => h.1) (fun cdv A outer s H vs Q E hr h => ?_)
  obtain ⟨-, h⟩ := h
  obtain ⟨v, g, h0, h1, rfl, hv, c0, c1, c2, c3, g0, g1, q⟩ := h
  refine ⟨_, (pss_one (ps_ret (pe_ifExp (pt_val (pe_callX G_less (hr.mono (by decide)) (by rfl) T.m_less T.F_less.kp T.b_less .nil pass_none (pa_cons (pe_tup (pa_cons (pv 1) (pa_cons pe_int pa_nil))) (pa_cons (pv 0) pa_nil)))) (pe_callX G_minus (hr.mono (by decide)) (by rfl) T.m_minus T.F_minus.kp T.b_minus .nil pass_none (pa_cons (pv 0) (pa_cons (pe_tup (pa_cons (pv 1) (pa_cons pe_int pa_nil))) pa_nil))) (pe_glob (v := .ref T.a_NOTHING) (by rfl) T.m_NOTHING rfl)))), ?_⟩
  have bg : Bd g := bd40 g0 (by omega)
  have b0 : Bd h0 := bd40 c0 (by omega)
  have b1 : Bd h1 := bd40 (by omega) (by omega)
  refine ⟨_, rfl, few rfl, fun p np => ⟨_, rfl, rfl, _, _, g, 1, h0, h1, rfl, fq_new, hv.mono (same_upd np), bg, bd1, b0, b1, _, rfl, ?_⟩⟩
  by_cases lt : g * h1 < h0 * 1
  · rw [decide_eq_true lt]
    refine iteT ⟨_, rfl, _, rfl, few rfl, fun p2 np2 => ⟨rfl, _, _, h0, h1, g, 1, rfl, hv.mono ((same_upd np).trans (same_upd np2)), fq_new, b0, b1, bg, bd1, fun z => absurd z (by omega), fun _ p3 q3 r3 np3 lw k1 k2 k3 => ?_⟩⟩
    have es : short h0 h1 g = h0 * 1 - g * h1 := by unfold K01.short; split <;> omega
    rw [← es, Int.mul_one] at lw
    obtain ⟨e1, e2⟩ := K01.due_of c2 lw k1
    subst e1 e2
    exact q _ _ ((same_upd np).trans ((same_upd np2).trans (same_upd np3))) fq_new
  · rw [decide_eq_false lt]
    obtain ⟨e1, e2⟩ := K01.due_none (h0 := h0) (g := g) c2 (by omega)
    refine iteF (q _ _ (same_upd np) ?_)
    rw [e1, e2]
    exact ⟨_, rfl, T.s_NOTHING _⟩
theorem ok_level (T : Tx K w mg) (G_level_of : FnOk P w K mg base (CX1 P w) 4 T.a_level_of T.fd_level_of ["amount", "gifts"] (sp_level_of T)) (G_due : FnOk P w K mg base (CX1 P w) 4 T.a_due T.fd_due ["reached", "gift"] (sp_due T)) : FnOk P w K mg base (CX1 P w) 5 T.a_level T.fd_level ["amount", "gifts"] (sp_level T) := by
  refine Fun.okX (k := 4) T.F_level sc_level (fun vs H Q E h => h.1) (fun cdv A outer s H vs Q E hr h => ?_)
  obtain ⟨-, h⟩ := h
  obtain ⟨x, l, a0, a1, gs, rfl, hx, gv, hS, q⟩ := h
  refine ⟨_, (pss_cons (ps_set (i := 2) sc_level.nd rfl (Or.inr rfl) (pe_callX G_level_of (hr.mono (by decide)) (by rfl) T.m_level_of T.F_level_of.kp T.b_level_of .nil pass_none (pa_cons (pv 0) (pa_cons (pv 1) pa_nil))))
      (pss_one (ps_ret (pe_tup (pa_cons (pv 2) (pa_cons (pe_comp rfl (comp_scF (N := ["gift", "reached"]) ["reached"] [none, some 2] rfl (by decide +kernel) (by decide +kernel) (by rfl) (by rfl) (by rfl) (by rfl) (by rfl)) (pi_list (pv 1)) (fun _ _ _ => (pg_name (i := 0) nd_0 rfl (Or.inl rfl))) (fun _ _ _ => pts_nil) (fun _ _ _ => (pe_callX G_due (hr.mono (by decide)) (by rfl) T.m_due T.F_due.kp T.b_due .nil pass_none (pa_cons (pv 1) (pa_cons (pv 0) pa_nil))))) pa_nil)))))), ?_⟩
  refine ⟨_, rfl, _, rfl, rfl, x, l, a0, a1, gs, rfl, hx, gv, hS, fun H1 v h0 h1 s1 hv fl b0 b1 => ?_⟩
  have hS1 := s1.sql hS
  have len := gv.len
  refine ⟨_, rfl, _, rfl, l, rfl, ⟨_, hS1⟩, comp_runD gs.length (fun i H' y => ∀ g, gs[i]? = some g → Fq K H' y (dueT h0 h1 g) (dueB h0 h1 g)) (fun i Ha Hb y D xs hP hd bt g hg => (hP g hg).but hd bt) (small1000 (by omega)) (fun σ => ∃ w, σ = [w, some v]) ⟨_, rfl⟩ (fun i H2 hi sm => ?go) (fun H2 sm => ?stop) (fun i σ H2 y H3 hi hσ sm hy C hC => ?step) (fun D ys H2 nD sm hD hl hP => ?fin)⟩
  case go => exact ⟨_, _, sm.sql hS1, List.getElem?_eq_getElem (by rw [List.length_map]; exact hi)⟩
  case stop => exact ⟨_, sm.sql hS1, by rw [List.length_map]; exact Nat.le_refl _⟩
  case step =>
    obtain ⟨w, rfl⟩ := hσ
    obtain ⟨rfl, hx2⟩ := hy
    obtain ⟨g, rfl, hg⟩ := ints_at (hx2 _ (sm.sql hS1))
    have gb := gv.each g (List.mem_of_getElem? hg)
    refine ⟨_, rfl, _, rfl, rfl, v, g, h0, h1, rfl, hv.mono sm, fl.top, b0, fl.pos, b1, gb.1, gb.2, fun H6 w6 s6 hw => hC _ _ _ ⟨_, rfl⟩ s6 (fun g' e => ?_)⟩
    rw [hg] at e
    cases e
    exact hw
  case fin =>
    refine ⟨few rfl, fun p np => ?_⟩
    have nD0 : H D = none := by
      cases e : H D with
      | none => rfl
      | some o => have := s1 _ _ e; rw [nD] at this; cases this
    refine q _ p v D ys h0 h1 (s1.trans (sm.trans (same_upd np))) fl b0 b1 nD0 ?_ (.of upd_same) (hv.mono (sm.trans (same_upd np))) ⟨hl, fun i y e g hg => (hP i y e g hg).mono (same_upd np)⟩
    exact same_upd np _ _ hD
theorem ok__law_cell_at (T : Tx K w mg)  : FnOk P w K mg base (CX1 P w) 1 T.a__law_cell_at T.fd__law_cell_at ["_law_script", "_law_k"] (sp__law_cell_at T) := by
  refine Fun.okX (k := 0) T.F__law_cell_at sc__law_cell_at (fun vs H Q E h => h.1) (fun cdv A outer s H vs Q E hr h => ?_)
  obtain ⟨-, h⟩ := h
  obtain ⟨l, ns, k, rfl, hS, hk, q⟩ := h
  refine ⟨_, (pss_cons (ps_if (pt_cmpR op_lt (pv 1) (pe_callB call_len_seq (by rfl) T.n_len bt_len (pa_cons (pv 0) pa_nil)) (nomark _)) (pss_one (ps_ret (pe_ix ix_list (pv 0) (pv 1) (fun _ _ => rfl)))) pss_nil)
      (pss_one (ps_ret pe_int))), ?_⟩
  refine ⟨_, rfl, _, rfl, l, _, rfl, .inl hS, _, _, rfl, rfl, _, rfl, ?_⟩
  by_cases kl : k < ((ns.map V.int).length : Int)
  · rw [decide_eq_true kl]
    obtain ⟨j, rfl⟩ : ∃ j : Nat, k = (j : Int) := ⟨k.toNat, by omega⟩
    refine iteT ⟨_, rfl, _, rfl, l, _, _, _, rfl, rfl, hS, atI_nat (item_int (by rw [List.length_map] at kl; omega)), q _⟩
  · rw [decide_eq_false kl]
    exact iteF (q _)
theorem ok__law_whole (T : Tx K w mg)  : FnOk P w K mg base (CX1 P w) 1 T.a__law_whole T.fd__law_whole ["_law_found"] (sp__law_whole T) := by
  refine Fun.okX (k := 0) T.F__law_whole sc__law_whole (fun vs H Q E h => h.1) (fun cdv A outer s H vs Q E hr h => ?_)
  obtain ⟨-, h⟩ := h
  obtain ⟨i, rfl, q⟩ := h
  refine ⟨_, (pss_one (ps_ret (pe_and (pe_isi K (by rfl) T.n_isinstance (pa_cons (pv 0) (pa_cons (pe_bltn (v := .ty "int") (by rfl) T.n_int bt_int rfl) pa_nil))) (pe_one (pe_not (pe_isi K (by rfl) T.n_isinstance (pa_cons (pv 0) (pa_cons (pe_bltn (v := .ty "bool") (by rfl) T.n_bool bt_bool rfl) pa_nil)))))))), ?_⟩
  have k1 : Kd K H (.int i) (.type "int") := .of (.int i)
  exact ⟨_, rfl, _, .ty "int", _, _, rfl, rfl, k1, T.ki_int, _, rfl, iteT ⟨_, rfl, _, .ty "bool", _, _, rfl, rfl, k1, T.kb_int, _, rfl, q⟩⟩
theorem ok__law_divisor (T : Tx K w mg)  : FnOk P w K mg base (CX1 P w) 1 T.a__law_divisor T.fd__law_divisor ["_law_one", "_law_other"] (sp__law_divisor T) := by
  refine Fun.okX (k := 0) T.F__law_divisor sc__law_divisor (fun vs H Q E h => h.1) (fun cdv A outer s H vs Q E hr h => ?_)
  obtain ⟨-, h⟩ := h
  obtain ⟨a, b, rfl, ha, hb, q⟩ := h
  refine ⟨_, (pss_cons (ps_while PassesOwn.leaving (pt_cmpR op_gt (pv 1) pe_int (nomark _)) (pss_one (ps_par rfl sc__law_divisor.nd (i := 0) (j := 1) rfl rfl (by decide) rfl rfl (pa_cons (pv 1) (pa_cons (pe_op op_modN (pv 0) (pv 1)) pa_nil)) rfl)))
      (pss_one (ps_ret (pv 0)))), ?_⟩
  refine while_by (fun σ H2 => ∃ x y, σ = [some (.int x), some (.int y)] ∧ H2 = H ∧ 0 ≤ x ∧ 0 ≤ y ∧ cd x y = cd a b) (fun σ _ => match σ with | [_, some (.int y)] => y.toNat | _ => 0) ⟨a, b, rfl, rfl, ha, hb, rfl⟩ ?_ ?_
  · rintro σ H2 ⟨x, y, rfl, rfl, hx, hy, e⟩
    refine ⟨_, rfl, _, _, rfl, rfl, _, rfl, ?_⟩
    by_cases y0 : 0 < y
    · rw [decide_eq_true y0]
      refine iteT ⟨_, rfl, _, rfl, _, rfl, _, _, rfl, rfl, (show y ≠ 0 by omega), _, _, rfl, ?_⟩
      have t := K01.turn e hx y0
      exact ⟨⟨y, x.fmod y, rfl, rfl, t.1, t.2.1, t.2.2⟩, K01.less (by omega)⟩
    · rw [decide_eq_false y0]
      refine iteF ⟨_, rfl, ?_⟩
      rw [K01.out e hx (show y = 0 by omega)]
      exact q
  · rintro σ H2 Q1 Q2 f ⟨v, e1, i, j, e2, e3, k, e4, q2⟩
    exact ⟨v, e1, i, j, e2, e3, k, e4, f _ _ q2⟩
theorem ok__law_is (T : Tx K w mg) (G__law_whole : FnOk P w K mg base (CX1 P w) 1 T.a__law_whole T.fd__law_whole ["_law_found"] (sp__law_whole T)) (G__law_divisor : FnOk P w K mg base (CX1 P w) 1 T.a__law_divisor T.fd__law_divisor ["_law_one", "_law_other"] (sp__law_divisor T)) : FnOk P w K mg base (CX1 P w) 2 T.a__law_is T.fd__law_is ["_law_found", "_law_top", "_law_bottom"] (sp__law_is T) := by
  refine Fun.okX (k := 1) T.F__law_is sc__law_is (fun vs H Q E h => h.1) (fun cdv A outer s H vs Q E hr h => ?_)
  obtain ⟨-, h⟩ := h
  obtain ⟨v, t, b, rfl, t0, b0, t1, b1, ⟨p, rfl, hp⟩, q⟩ := h
  refine ⟨_, (pss_cons (ps_set (i := 3) sc__law_is.nd rfl (Or.inl rfl) (pe_callX G__law_divisor (hr.mono (by decide)) (by rfl) T.m__law_divisor T.F__law_divisor.kp T.b__law_divisor .nil pass_none (pa_cons (pv 1) (pa_cons (pv 2) pa_nil))))
      (pss_cons (ps_if (PW.pt (pw_or (pt_not (pt_val (pe_isi K (by rfl) T.n_isinstance (pa_cons (pv 0) (pa_cons (pe_bltn (v := .ty "tuple") (by rfl) T.n_tuple bt_tuple rfl) pa_nil))))) (pw_or (pt_cmpR op_ne (pe_callB call_len_seq (by rfl) T.n_len bt_len (pa_cons (pv 0) pa_nil)) pe_int (nomark _)) (pw_or (pt_not (pt_val (pe_callX G__law_whole (hr.mono (by decide)) (by rfl) T.m__law_whole T.F__law_whole.kp T.b__law_whole .nil pass_none (pa_cons (pe_ix ix_tup (pv 0) pe_int (fun _ _ => rfl)) pa_nil)))) (pw_or1 (pt_not (pt_val (pe_callX G__law_whole (hr.mono (by decide)) (by rfl) T.m__law_whole T.F__law_whole.kp T.b__law_whole .nil pass_none (pa_cons (pe_ix ix_tup (pv 0) pe_int (fun _ _ => rfl)) pa_nil))))))))) (pss_one (ps_ret pe_bl)) pss_nil)
      (pss_one (ps_ret (pe_cmpR (op_eqS hr.units) (pv 0) (pe_tup (pa_cons (pe_op op_fdivB (pv 1) (pv 3)) (pa_cons (pe_op op_fdivB (pv 2) (pv 3)) pa_nil))) (nomark _)))))), ?_⟩
  refine ⟨_, rfl, _, rfl, rfl, t, b, rfl, t0, by omega, ?_⟩
  have g0 : 0 < cd t b := K01.cd_pos (by omega)
  have g1 : cd t b ≤ b := K01.cd_le (by omega)
  have dz : cd t b ≠ 0 ∧ (cd t b).natAbs < 2 ^ 1000 := ⟨by omega, bd1000 (bd40 (by omega) (by omega))⟩
  refine ⟨_, rfl, _, .ty "tuple", _, _, rfl, rfl, .sqt hp, T.kt_tuple, _, rfl, ?_⟩
  refine iteF ⟨_, rfl, p, _, rfl, .inr hp, rfl, _, rfl, ?_⟩
  refine iteF ⟨_, rfl, p, _, _, _, rfl, rfl, hp, at0 _ _, rfl, _, rfl, _, rfl, ?_⟩
  refine iteF ⟨_, rfl, p, _, _, _, rfl, rfl, hp, at1 _ _, rfl, _, rfl, _, rfl, ?_⟩
  refine iteF ⟨_, rfl, _, rfl, _, rfl, _, _, rfl, rfl, dz, _, rfl, _, rfl, _, _, rfl, rfl, dz, few rfl, fun r nr => ?_⟩
  have s := same_upd (o := .tup [.int (t.fdiv (cd t b)), .int (b.fdiv (cd t b))]) nr
  refine ⟨_, _, isTup2 ⟨p, rfl, s.sqt hp⟩, isTup2 fq_new, .inl ⟨_, _, rfl, rfl⟩, by simp [dep, depL], ?_⟩
  rw [deq_refl]
  exact q _ s
theorem ok__law_amount (T : Tx K w mg) (G__law_divisor : FnOk P w K mg base (CX1 P w) 1 T.a__law_divisor T.fd__law_divisor ["_law_one", "_law_other"] (sp__law_divisor T)) : FnOk P w K mg base (CX1 P w) 2 T.a__law_amount T.fd__law_amount ["_law_cell", "_law_other"] (sp__law_amount T) := by
  refine Fun.okX (k := 1) T.F__law_amount sc__law_amount (fun vs H Q E h => h.1) (fun cdv A outer s H vs Q E hr h => ?_)
  obtain ⟨-, h⟩ := h
  obtain ⟨c, o, rfl, q⟩ := h
  refine ⟨_, (pss_cons (ps_set (i := 2) sc__law_amount.nd rfl (Or.inl rfl) (pe_op op_modN (pe_op op_fdivB (pv 0) pe_int) (pe_ix ix_list (pe_lst (pa_cons pe_int (pa_cons pe_int (pa_cons (pe_op op_pow pe_int pe_int) (pa_cons (pe_op op_pow pe_int pe_int) pa_nil))))) (pe_op op_modN (pv 0) pe_int) (fun _ _ => rfl))))
      (pss_cons (ps_set (i := 3) sc__law_amount.nd rfl (Or.inl rfl) (pe_op op_add pe_int (pe_op op_modN (pe_op op_fdivB (pv 1) pe_int) (pe_ix ix_list (pe_lst (pa_cons pe_int (pa_cons pe_int (pa_cons (pe_op op_pow pe_int pe_int) pa_nil)))) (pe_op op_modN (pv 1) pe_int) (fun _ _ => rfl)))))
      (pss_cons (ps_set (i := 4) sc__law_amount.nd rfl (Or.inl rfl) (pe_callX G__law_divisor (hr.mono (by decide)) (by rfl) T.m__law_divisor T.F__law_divisor.kp T.b__law_divisor .nil pass_none (pa_cons (pv 2) (pa_cons (pv 3) pa_nil))))
      (pss_one (ps_ret (pe_tup (pa_cons (pe_op op_fdivB (pv 2) (pv 4)) (pa_cons (pe_op op_fdivB (pv 3) (pv 4)) pa_nil)))))))), ?_⟩
  have cp9 : CPow 10 9 := ⟨by decide, by decide, by decide +kernel⟩
  have cp20 : CPow 10 20 := ⟨by decide, by decide, by decide +kernel⟩
  have key : ∃ m : Int, atI [V.int 1, .int 31, .int (10 ^ (9 : Int).toNat), .int (10 ^ (20 : Int).toNat)] (c.fmod 4) = some (.int m) ∧ 1 ≤ m ∧ m ≤ 10 ^ 20 := by
    rcases Mod4 c with e | e | e | e <;> rw [e]
    · exact ⟨1, atI_nat (j := 0) rfl, by decide, by decide⟩
    · exact ⟨31, atI_nat (j := 1) rfl, by decide, by decide⟩
    · exact ⟨10 ^ 9, atI_nat (j := 2) rfl, by decide, by decide⟩
    · exact ⟨10 ^ 20, atI_nat (j := 3) rfl, by decide, by decide⟩
  have key2 : ∃ m : Int, atI [V.int 1, .int 12, .int (10 ^ (9 : Int).toNat)] (o.fmod 3) = some (.int m) ∧ 1 ≤ m ∧ m ≤ 10 ^ 9 := by
    rcases Mod3 o with e | e | e <;> rw [e]
    · exact ⟨1, atI_nat (j := 0) rfl, by decide, by decide⟩
    · exact ⟨12, atI_nat (j := 1) rfl, by decide, by decide⟩
    · exact ⟨10 ^ 9, atI_nat (j := 2) rfl, by decide, by decide⟩
  obtain ⟨m, hm, m1, m2⟩ := key
  obtain ⟨n, hn, n1, n2⟩ := key2
  refine ⟨_, rfl, _, _, rfl, rfl, four, _, _, rfl, rfl, cp9, _, _, rfl, rfl, cp20, few rfl, fun l nl => ?_⟩
  refine ⟨_, rfl, _, _, rfl, rfl, four.1, l, _, _, _, rfl, rfl, .of upd_same, hm, _, _, rfl, rfl, (show m ≠ 0 by omega), ?_⟩
  refine ⟨_, rfl, _, _, rfl, rfl, three, _, _, rfl, rfl, cp9, few rfl, fun l2 nl2 => ?_⟩
  refine ⟨_, rfl, _, _, rfl, rfl, three.1, l2, _, _, _, rfl, rfl, .of upd_same, hn, _, _, rfl, rfl, (show n ≠ 0 by omega), _, _, rfl, rfl, ?_⟩
  have t1 := Int.fmod_nonneg_of_pos (c.fdiv 4) (show 0 < m by omega)
  have t2 := Int.fmod_lt_of_pos (c.fdiv 4) (show 0 < m by omega)
  have b1 := Int.fmod_nonneg_of_pos (o.fdiv 3) (show 0 < n by omega)
  have b2 := Int.fmod_lt_of_pos (o.fdiv 3) (show 0 < n by omega)
  try dsimp only
  generalize (c.fdiv 4).fmod m = t at *
  generalize (o.fdiv 3).fmod n = b at *
  refine ⟨_, rfl, _, rfl, rfl, t, 1 + b, rfl, t1, by omega, ?_⟩
  have g0 : 0 < cd t (1 + b) := K01.cd_pos (by omega)
  have g1 : cd t (1 + b) ≤ 1 + b := K01.cd_le (by omega)
  have dz : cd t (1 + b) ≠ 0 ∧ (cd t (1 + b)).natAbs < 2 ^ 1000 := ⟨by omega, bd1000 (bd40 (by omega) (by omega))⟩
  have lw := K01.low (t := t) (b := 1 + b) (d := cd t (1 + b)) (by omega) (.inl ⟨by omega, by rw [K01.ab_of t1, K01.ab_of (show 0 ≤ 1 + b by omega)]⟩)
  refine ⟨_, rfl, _, rfl, _, _, rfl, rfl, dz, _, rfl, _, rfl, _, _, rfl, rfl, dz, few rfl, fun r nr => ?_⟩
  have l3 := lw.2.2.1
  have l4 := lw.2.2.2
  rw [K01.ab_of (show 0 ≤ 1 + b by omega)] at l3
  rw [K01.ab_of t1] at l4
  have tn : 0 ≤ t.fdiv (cd t (1 + b)) := Int.fdiv_nonneg t1 (by omega)
  rw [K01.ab_of tn] at l4
  exact q _ _ _ _ ((same_upd nl).trans ((same_upd nl2).trans (same_upd nr))) fq_new tn (by omega) lw.2.1 (by omega)
theorem ok__law_gifts (T : Tx K w mg)  : FnOk P w K mg base (CX1 P w) 1 T.a__law_gifts T.fd__law_gifts ["_law_cells"] (sp__law_gifts T) := by
  refine Fun.okX (k := 0) T.F__law_gifts sc__law_gifts (fun vs H Q E h => h.1) (fun cdv A outer s H vs Q E hr h => ?_)
  obtain ⟨-, h⟩ := h
  obtain ⟨l, cs, rfl, hS, len, q⟩ := h
  refine ⟨_, (pss_cons (ps_set (i := 1) sc__law_gifts.nd rfl (Or.inl rfl) (pe_lst pa_nil))
      (pss_cons (ps_for PassesOwn.leaving rfl (pi_list (pv 0)) (pg_name (i := 2) sc__law_gifts.nd rfl (Or.inl rfl))
        (pss_cons (ps_set (i := 3) sc__law_gifts.nd rfl (Or.inl rfl) (pe_op op_modN (pe_op op_fdivB (pv 2) pe_int) (pe_ix ix_list (pe_lst (pa_cons pe_int (pa_cons pe_int (pa_cons (pe_op op_add (pe_op op_pow pe_int pe_int) pe_int) (pa_cons pe_int pa_nil))))) (pe_op op_modN (pv 2) pe_int) (fun _ _ => rfl))))
      (pss_cons (ps_if (PW.pt (pw_and (pt_cmpR op_eq (pe_op op_modN (pv 2) pe_int) pe_int (nomark _)) (pw_and1 (pt_cmpR (op_neL hr.units) (pv 1) (pe_lst pa_nil) (nomark _))))) (pss_one (ps_set (i := 3) sc__law_gifts.nd rfl (Or.inl rfl) (pe_ix ix_list (pv 1) pe_int (fun _ _ => rfl)))) pss_nil)
      (pss_one (ps_expr (pe_bm PySem.F.plainAttrs_list PySem.F.slot_list_append PySem.F.type_list_append mt_append (pv 1) (pa_cons (pv 3) pa_nil)))))))
      (pss_one (ps_ret (pv 1))))), ?_⟩
  have cp : CPow 10 18 := ⟨by decide, by decide, by decide +kernel⟩
  refine ⟨few rfl, fun D nD => ?_⟩
  refine ⟨_, rfl, l, rfl, ⟨_, (same_upd nD).sql hS⟩, for_list (xs := cs.map V.int) (fun i σ H2 => ∃ (gs : List Int) (v1 v2 : Option V), σ = [some (.ref l), some (.ref D), v1, v2] ∧ Same H H2 ∧ H2 D = some (.lst (gs.map V.int)) ∧ gs.length = i ∧ ∀ g ∈ gs, 0 ≤ g ∧ g ≤ 10 ^ 18) ?start ?list ?turn ?done⟩
  case start => exact ⟨[], none, none, rfl, same_upd nD, upd_same, rfl, fun g h => by cases h⟩
  case list =>
    rintro i σ H2 _ ⟨gs, v1, v2, rfl, s2, _⟩
    exact s2.sql hS
  case done =>
    rintro σ H2 ⟨gs, v1, v2, rfl, s2, hD, hl, hg⟩
    rw [List.length_map] at hl
    exact ⟨_, rfl, q _ D gs s2 hD hl hg⟩
  case turn =>
    rintro i y σ H2 hy ⟨gs, v1, v2, rfl, s2, hD, hl, hg⟩
    obtain ⟨c, rfl, hc⟩ := ints_at hy
    have il : i < 62 := by
      have h1 := (List.getElem?_eq_some_iff.mp hc).1
      omega
    have key : ∃ m : Int, atI [V.int 5, .int 1000, .int (10 ^ (18 : Int).toNat + 1), .int 1] (c.fmod 4) = some (.int m) ∧ 1 ≤ m ∧ m ≤ 10 ^ 18 + 1 := by
      rcases Mod4 c with e | e | e | e <;> rw [e]
      · exact ⟨5, atI_nat (j := 0) rfl, by decide, by decide⟩
      · exact ⟨1000, atI_nat (j := 1) rfl, by decide, by decide⟩
      · exact ⟨10 ^ 18 + 1, atI_nat (j := 2) rfl, by decide, by decide⟩
      · exact ⟨1, atI_nat (j := 3) rfl, by decide, by decide⟩
    obtain ⟨m, hm, m1, m2⟩ := key
    refine ⟨_, rfl, _, _, rfl, rfl, four, _, _, rfl, rfl, cp, _, _, rfl, rfl, few rfl, fun l2 nl2 => ?_⟩
    refine ⟨_, rfl, _, _, rfl, rfl, four.1, l2, _, _, _, rfl, rfl, .of upd_same, hm, _, _, rfl, rfl, (show m ≠ 0 by omega), ?_⟩
    have t1 := Int.fmod_nonneg_of_pos (c.fdiv 4) (show 0 < m by omega)
    have t2 := Int.fmod_lt_of_pos (c.fdiv 4) (show 0 < m by omega)
    try dsimp only
    generalize (c.fdiv 4).fmod m = t at *
    have hD2 := same_upd (o := .lst [V.int 5, .int 1000, .int (10 ^ (18 : Int).toNat + 1), .int 1]) nl2 _ _ hD
    have s3 := s2.trans (same_upd (o := .lst [V.int 5, .int 1000, .int (10 ^ (18 : Int).toNat + 1), .int 1]) nl2)
    dsimp only [gName]
    refine seq_by (fun σ' H' => ∃ t : Int, σ' = [some (.ref l), some (.ref D), some (.int c), some (.int t)] ∧ 0 ≤ t ∧ t ≤ 10 ^ 18 ∧ Same H H' ∧ H' D = some (.lst (gs.map V.int))) (fun nx hnx => ?_) ?_
    · refine ⟨_, rfl, _, _, rfl, rfl, four.1, rfl, _, rfl, iteB (fun _ => ?_) (fun _ => ?_)⟩
      · refine ⟨_, rfl, few rfl, fun l3 nl3 => ⟨_, _, is_lst (.of (same_upd nl3 _ _ hD2)) (ints_is gs), is_nil (.of upd_same), by rw [ints_dep]; decide, _, rfl, iteB (fun e => ?_) (fun _ => ?_)⟩⟩
        · cases gs with
          | nil => rw [List.map_nil, deqL_refl] at e; cases e
          | cons g gs =>
            refine ⟨_, rfl, D, _, _, _, rfl, rfl, .of (same_upd nl3 _ _ hD2), atI_nat (j := 0) rfl, ?_⟩
            have hg0 := hg g (List.mem_cons_self ..)
            exact hnx _ _ ⟨g, rfl, hg0.1, hg0.2, s3.trans (same_upd nl3), same_upd nl3 _ _ hD2⟩
        · exact hnx _ _ ⟨t, rfl, t1, by omega, s3.trans (same_upd nl3), same_upd nl3 _ _ hD2⟩
      · exact iteF (hnx _ _ ⟨t, rfl, t1, by omega, s3, hD2⟩)
    · rintro σ' H4 ⟨t, rfl, t0, t3, s4, hD4⟩
      refine ⟨_, rfl, .inl ⟨rfl, _, .of hD4⟩, _, rfl, D, _, _, rfl, rfl, hD4, small1000 (by rw [List.length_map]; omega), ?_⟩
      refine ⟨gs ++ [t], _, _, rfl, same_keep s4 nD, by rw [upd_same, List.map_append]; rfl, by simp [hl], fun g hgm => ?_⟩
      rcases List.mem_append.mp hgm with h | h
      · exact hg g h
      · cases (show g = t by simpa using h)
        exact ⟨t0, t3⟩
theorem ok__law_fills (T : Tx K w mg) (G__law_whole : FnOk P w K mg base (CX1 P w) 1 T.a__law_whole T.fd__law_whole ["_law_found"] (sp__law_whole T)) (G__law_divisor : FnOk P w K mg base (CX1 P w) 1 T.a__law_divisor T.fd__law_divisor ["_law_one", "_law_other"] (sp__law_divisor T)) (G__law_is : FnOk P w K mg base (CX1 P w) 2 T.a__law_is T.fd__law_is ["_law_found", "_law_top", "_law_bottom"] (sp__law_is T)) : FnOk P w K mg base (CX1 P w) 3 T.a__law_fills T.fd__law_fills ["_law_found", "_law_amount_here", "_law_gifts_here"] (sp__law_fills T) := by
  refine Fun.okX (k := 2) T.F__law_fills sc__law_fills (fun vs H Q E h => h.1) (fun cdv A outer s H vs Q E hr h => ?_)
  obtain ⟨-, h⟩ := h
  obtain ⟨f, v, va, m, l, ds, gs, a0, a1, h0, h1, rfl, hf, hv, hm, du, ha, hl, gv, fl, b0, b1, q⟩ := h
  refine ⟨_, (pss_cons (ps_if (PW.pt (pw_or (pt_not (pt_val (pe_isi K (by rfl) T.n_isinstance (pa_cons (pv 0) (pa_cons (pe_bltn (v := .ty "tuple") (by rfl) T.n_tuple bt_tuple rfl) pa_nil))))) (pw_or (pt_cmpR op_ne (pe_callB call_len_seq (by rfl) T.n_len bt_len (pa_cons (pv 0) pa_nil)) pe_int (nomark _)) (pw_or1 (pt_not (pt_val (pe_isi K (by rfl) T.n_isinstance (pa_cons (pe_ix ix_tup (pv 0) pe_int (fun _ _ => rfl)) (pa_cons (pe_bltn (v := .ty "list") (by rfl) T.n_list bt_list rfl) pa_nil))))))))) (pss_one (ps_ret pe_bl)) pss_nil)
      (pss_cons (ps_set (i := 3) sc__law_fills.nd rfl (Or.inl rfl) (pe_ix ix_tup (pv 0) pe_int (fun _ _ => rfl)))
      (pss_cons (ps_if (PW.pt (pw_or (pt_not (pt_val (pe_isi K (by rfl) T.n_isinstance (pa_cons (pv 3) (pa_cons (pe_bltn (v := .ty "tuple") (by rfl) T.n_tuple bt_tuple rfl) pa_nil))))) (pw_or (pt_cmpR op_ne (pe_callB call_len_seq (by rfl) T.n_len bt_len (pa_cons (pv 3) pa_nil)) pe_int (nomark _)) (pw_or (pt_not (pt_val (pe_callX G__law_whole (hr.mono (by decide)) (by rfl) T.m__law_whole T.F__law_whole.kp T.b__law_whole .nil pass_none (pa_cons (pe_ix ix_tup (pv 3) pe_int (fun _ _ => rfl)) pa_nil)))) (pw_or1 (pt_not (pt_val (pe_callX G__law_whole (hr.mono (by decide)) (by rfl) T.m__law_whole T.F__law_whole.kp T.b__law_whole .nil pass_none (pa_cons (pe_ix ix_tup (pv 3) pe_int (fun _ _ => rfl)) pa_nil))))))))) (pss_one (ps_ret pe_bl)) pss_nil)
      (pss_cons (ps_if (PW.pt (pw_or (pt_cmpR op_lt (pe_ix ix_tup (pv 3) pe_int (fun _ _ => rfl)) pe_int (nomark _)) (pw_or (pt_cmpR op_lt (pe_ix ix_tup (pv 3) pe_int (fun _ _ => rfl)) pe_int (nomark _)) (pw_or (pt_cmpR op_ne (pe_callX G__law_divisor (hr.mono (by decide)) (by rfl) T.m__law_divisor T.F__law_divisor.kp T.b__law_divisor .nil pass_none (pa_cons (pe_ix ix_tup (pv 3) pe_int (fun _ _ => rfl)) (pa_cons (pe_ix ix_tup (pv 3) pe_int (fun _ _ => rfl)) pa_nil))) pe_int (nomark _)) (pw_or1 (pt_cmpR op_ne (pe_callB call_len_seq (by rfl) T.n_len bt_len (pa_cons (pe_ix ix_tup (pv 0) pe_int (fun _ _ => rfl)) pa_nil)) (pe_callB call_len_seq (by rfl) T.n_len bt_len (pa_cons (pv 2) pa_nil)) (nomark _))))))) (pss_one (ps_ret pe_bl)) pss_nil)
      (pss_cons (ps_set (i := 4) sc__law_fills.nd rfl (Or.inl rfl) pe_int)
      (pss_cons (ps_for PassesOwn.leaving rfl (pi_zipL K (by rfl) T.n_zip (pa_cons (pv 2) (pa_cons (pe_ix ix_tup (pv 0) pe_int (fun _ _ => rfl)) pa_nil))) (pg_tup rfl (pgs_cons (pg_name (i := 5) sc__law_fills.nd rfl (Or.inl rfl)) (pgs_cons (pg_name (i := 6) sc__law_fills.nd rfl (Or.inl rfl)) pgs_nil)))
        (pss_cons (ps_set (i := 7) sc__law_fills.nd rfl (Or.inl rfl) (pe_callB (call_max2 rfl) (by rfl) T.n_max bt_max (pa_cons pe_int (pa_cons (pe_op op_sub (pe_ix ix_tup (pv 3) pe_int (fun _ _ => rfl)) (pe_op op_mulB (pv 5) (pe_ix ix_tup (pv 3) pe_int (fun _ _ => rfl)))) pa_nil))))
      (pss_cons (ps_set (i := 4) sc__law_fills.nd rfl (Or.inl rfl) (pe_op op_add (pv 4) (pv 7)))
      (pss_one (ps_if (pt_not (pt_val (pe_callX G__law_is (hr.mono (by decide)) (by rfl) T.m__law_is T.F__law_is.kp T.b__law_is .nil pass_none (pa_cons (pv 6) (pa_cons (pv 7) (pa_cons (pe_ix ix_tup (pv 3) pe_int (fun _ _ => rfl)) pa_nil)))))) (pss_one (ps_ret pe_bl)) pss_nil)))))
      (pss_cons (ps_if (PW.pt (pw_and (pt_cmpR op_eq (pe_ix ix_tup (pv 1) pe_int (fun _ _ => rfl)) pe_int (nomark _)) (pw_and1 (pt_cmpR (op_neT hr.units) (pv 3) (pe_tup (pa_cons (pe_callB (call_minL K rfl) (by rfl) T.n_min bt_min (pa_cons (pv 2) pa_nil)) (pa_cons pe_int pa_nil))) (nomark _))))) (pss_one (ps_ret pe_bl)) pss_nil)
      (pss_one (ps_ret (pe_and (pe_cmpR op_eq (pe_op op_mulB (pv 4) (pe_ix ix_tup (pv 1) pe_int (fun _ _ => rfl))) (pe_op op_mulB (pe_ix ix_tup (pv 1) pe_int (fun _ _ => rfl)) (pe_ix ix_tup (pv 3) pe_int (fun _ _ => rfl))) (nomark _)) (pe_one (pe_cmpR op_le (pe_op op_mulB (pe_callB (call_minL K rfl) (by rfl) T.n_min bt_min (pa_cons (pv 2) pa_nil)) (pe_ix ix_tup (pv 3) pe_int (fun _ _ => rfl))) (pe_ix ix_tup (pv 3) pe_int (fun _ _ => rfl)) (nomark _))))))))))))), ?_⟩
  obtain ⟨p, rfl, hp⟩ := id hv
  obtain ⟨o, rfl, ho⟩ := id ha
  have h0n := fl.top
  have h1n := fl.pos
  have bh0 : Bd h0 := bd40 h0n (by omega)
  have bh1 : Bd h1 := bd40 (by omega) (by omega)
  have ba0 : Bd a0 := bd40 gv.a0n (by have := gv.a0x; omega)
  have ba1 : Bd a1 := bd40 (by have := gv.a1n; omega) (by have := gv.a1x; omega)
  refine ⟨_, rfl, _, .ty "tuple", _, _, rfl, rfl, .sqt hf, T.kt_tuple, _, rfl, ?_⟩
  refine iteF ⟨_, rfl, f, _, rfl, .inr hf, rfl, _, rfl, ?_⟩
  refine iteF ⟨_, rfl, f, _, _, _, rfl, rfl, hf, at1v, _, .ty "list", _, _, rfl, rfl, .sql hm, T.kl_list, _, rfl, ?_⟩
  refine iteF ⟨_, rfl, f, _, _, _, rfl, rfl, hf, at0v, ?_⟩
  refine ⟨_, rfl, _, .ty "tuple", _, _, rfl, rfl, .sqt hp, T.kt_tuple, _, rfl, ?_⟩
  refine iteF ⟨_, rfl, p, _, rfl, .inr hp, rfl, _, rfl, ?_⟩
  refine iteF ⟨_, rfl, p, _, _, _, rfl, rfl, hp, at0 _ _, rfl, _, rfl, _, rfl, ?_⟩
  refine iteF ⟨_, rfl, p, _, _, _, rfl, rfl, hp, at1 _ _, rfl, _, rfl, _, rfl, ?_⟩
  refine iteF ⟨_, rfl, p, _, _, _, rfl, rfl, hp, at1 _ _, _, _, rfl, rfl, _, rfl, ?_⟩
  refine iteFb (decide_eq_false (by omega)) ⟨_, rfl, p, _, _, _, rfl, rfl, hp, at0 _ _, _, _, rfl, rfl, _, rfl, ?_⟩
  refine iteFb (decide_eq_false (by omega)) ⟨_, rfl, p, _, _, _, rfl, rfl, hp, at0 _ _, _, rfl, p, _, _, _, rfl, rfl, hp, at1 _ _, rfl, h0, h1, rfl, h0n, by omega, rfl, _, rfl, ?_⟩
  refine iteFb (by rw [fl.one]; rfl) ⟨_, rfl, f, _, _, _, rfl, rfl, hf, at1v, m, _, rfl, .inl hm, _, rfl, l, _, rfl, .inl hl, rfl, _, rfl, ?_⟩
  refine iteFb (by rw [du.1, List.length_map]; simp) ?_
  refine ⟨_, rfl, _, rfl, f, _, _, _, rfl, rfl, hf, at1v, l, m, rfl, ⟨_, hl⟩, ⟨_, hm⟩, for_zipL (xs := gs.map V.int) (ys := ds) (by rw [List.length_map, du.1]) (fun i σ H2 => ∃ v5 v6 v7, σ = [some (.ref f), some (.ref o), some (.ref l), some (.ref p), some (.int (lack h0 h1 (gs.take i))), v5, v6, v7] ∧ Same H H2) ?start ?list ?turn ?done⟩
  case start => exact ⟨none, none, none, rfl, Same.refl H⟩
  case list =>
    rintro i σ H2 _ ⟨v5, v6, v7, rfl, s2⟩
    exact ⟨s2.sql hl, s2.sql hm⟩
  case turn =>
    rintro i x y σ H2 Tt hx hy nT ⟨v5, v6, v7, rfl, s2⟩
    obtain ⟨g, rfl, hg⟩ := ints_at hx
    have gb := gv.each g (List.mem_of_getElem? hg)
    have s3 := s2.trans (same_upd (o := .tup [.int g, y]) nT)
    have hp3 := s3.sqt hp
    have bg : Bd g := bd40 gb.1 (by omega)
    refine ⟨_, _, rfl, .of upd_same, rfl, _, _, rfl, _, _, rfl, rfl, ?_⟩
    refine ⟨_, rfl, p, _, _, _, rfl, rfl, hp3, at0 _ _, _, rfl, _, rfl, p, _, _, _, rfl, rfl, hp3, at1 _ _, _, _, rfl, rfl, bd_big bg bh1, _, _, rfl, rfl, _, _, rfl, ?_⟩
    refine ⟨_, rfl, _, rfl, _, _, rfl, rfl, ?_⟩
    have sh : short h0 h1 g ≤ h0 := by
      have := Int.mul_nonneg gb.1 (show 0 ≤ h1 by omega)
      unfold K01.short
      split <;> omega
    refine ⟨_, rfl, _, rfl, _, rfl, p, _, _, _, rfl, rfl, hp3, at1 _ _, rfl, y, short h0 h1 g, h1, rfl, K01.short_nonneg .., h1n, by omega, by omega, (du.2 i y hy g hg).mono s3, fun H4 s4 => ⟨_, rfl, iteF ?_⟩⟩
    exact ⟨_, _, _, by rw [lack_take hg]; rfl, s3.trans s4⟩
  case done =>
    rintro σ H2 ⟨v5, v6, v7, rfl, s2⟩
    have tk : gs.take (gs.map V.int).length = gs := by rw [List.length_map]; exact List.take_length
    rw [tk]
    have hp2 := s2.sqt hp
    have ho2 := s2.sqt ho
    have hl2 := s2.sql hl
    have bl : Bd (lack h0 h1 gs) := by
      have x := lack_le h0n h1n (gs := gs) fun g hg => (gv.each g hg).1
      have y := K01.lack_nonneg h0 h1 gs
      have z : (gs.length : Int) * h0 ≤ 62 * 10 ^ 40 := by
        have z1 := Int.mul_le_mul_of_nonneg_right (show (gs.length : Int) ≤ 62 by have := gv.len; omega) h0n
        have z2 := Int.mul_le_mul_of_nonneg_left b0 (show (0 : Int) ≤ 62 by decide)
        omega
      exact bd40 y (by omega)
    dsimp only
    refine seq_by (fun σ' H' => σ' = [some (.ref f), some (.ref o), some (.ref l), some (.ref p), some (.int (lack h0 h1 gs)), v5, v6, v7] ∧ Same H2 H') (fun nx hnx => ?_) ?_
    · refine ⟨_, rfl, o, _, _, _, rfl, rfl, ho2, at0 _ _, rfl, _, rfl, ?_⟩
      by_cases z : a0 = 0
      · subst z
        refine iteT ⟨_, rfl, _, rfl, l, gs, rfl, hl2, gv.ne, fun mn hmn hmin => ⟨few rfl, fun r nr => ?_⟩⟩
        obtain ⟨e1, e2⟩ := fl.bare gv.a1n hmn hmin
        subst e1 e2
        refine ⟨_, _, isTup2 ⟨p, rfl, (same_upd nr).sqt hp2⟩, isTup2 fq_new, by simp [depL, dep], _, rfl, iteFb (by rw [deqL_refl]; rfl) (hnx _ _ ⟨rfl, same_upd nr⟩)⟩
      · exact iteFb (decide_eq_false (fun e => z (V.int.inj e))) (iteF (hnx _ _ ⟨rfl, Same.refl _⟩))
    · rintro σ' H3 ⟨rfl, s3⟩
      have hp3 := s3.sqt hp2
      have ho3 := s3.sqt ho2
      refine ⟨_, rfl, _, rfl, o, _, _, _, rfl, rfl, ho3, at1 _ _, _, _, rfl, rfl, bd_big bl ba1, _, rfl, o, _, _, _, rfl, rfl, ho3, at0 _ _, _, rfl, p, _, _, _, rfl, rfl, hp3, at1 _ _, _, _, rfl, rfl, bd_big ba0 bh1, rfl, _, rfl, ?_⟩
      refine iteTb (decide_eq_true (show V.int (lack h0 h1 gs * a1) = V.int (a0 * h1) by rw [fl.sum])) ⟨_, rfl, l, gs, rfl, s3.sql hl2, gv.ne, fun mn hmn hmin => ?_⟩
      have mb := gv.each mn hmn
      refine ⟨_, rfl, p, _, _, _, rfl, rfl, hp3, at1 _ _, _, _, rfl, rfl, bd_big (bd40 mb.1 (by omega)) bh1, _, rfl, p, _, _, _, rfl, rfl, hp3, at0 _ _, _, _, rfl, rfl, ?_⟩
      obtain ⟨g, hg, lo⟩ := fl.low
      have le : mn * h1 ≤ h0 := by
        have := Int.mul_le_mul_of_nonneg_right (hmin g hg) (show 0 ≤ h1 by omega)
        omega
      show Q (.bl (decide (mn * h1 ≤ h0))) _
      rw [decide_eq_true le]
      exact q _ (s2.trans s3)
theorem ok_law (T : Tx K w mg) (G_level : FnOk P w K mg base (CX1 P w) 5 T.a_level T.fd_level ["amount", "gifts"] (sp_level T)) (G__law_cell_at : FnOk P w K mg base (CX1 P w) 1 T.a__law_cell_at T.fd__law_cell_at ["_law_script", "_law_k"] (sp__law_cell_at T)) (G__law_amount : FnOk P w K mg base (CX1 P w) 2 T.a__law_amount T.fd__law_amount ["_law_cell", "_law_other"] (sp__law_amount T)) (G__law_gifts : FnOk P w K mg base (CX1 P w) 1 T.a__law_gifts T.fd__law_gifts ["_law_cells"] (sp__law_gifts T)) (G__law_fills : FnOk P w K mg base (CX1 P w) 3 T.a__law_fills T.fd__law_fills ["_law_found", "_law_amount_here", "_law_gifts_here"] (sp__law_fills T)) : FnOk P w K mg base (CX1 P w) 6 T.a_law T.fd_law ["_law_script"] (sp_law T) := by
  refine Fun.okX (k := 5) T.F_law sc_law (fun vs H Q E h => h.1) (fun cdv A outer s H vs Q E hr h => ?_)
  obtain ⟨-, h⟩ := h
  obtain ⟨l, ns, rfl, hS, hlen, q⟩ := h
  refine ⟨_, (pss_cons (ps_set (i := 1) sc_law.nd rfl (Or.inl rfl) (pe_callX G__law_amount (hr.mono (by decide)) (by rfl) T.m__law_amount T.F__law_amount.kp T.b__law_amount .nil pass_none (pa_cons (pe_callX G__law_cell_at (hr.mono (by decide)) (by rfl) T.m__law_cell_at T.F__law_cell_at.kp T.b__law_cell_at .nil pass_none (pa_cons (pv 0) (pa_cons pe_int pa_nil))) (pa_cons (pe_callX G__law_cell_at (hr.mono (by decide)) (by rfl) T.m__law_cell_at T.F__law_cell_at.kp T.b__law_cell_at .nil pass_none (pa_cons (pv 0) (pa_cons pe_int pa_nil))) pa_nil))))
      (pss_cons (ps_set (i := 2) sc_law.nd rfl (Or.inl rfl) (pe_callX G__law_gifts (hr.mono (by decide)) (by rfl) T.m__law_gifts T.F__law_gifts.kp T.b__law_gifts .nil pass_none (pa_cons (pe_op op_cat (pe_lst (pa_cons (pe_callX G__law_cell_at (hr.mono (by decide)) (by rfl) T.m__law_cell_at T.F__law_cell_at.kp T.b__law_cell_at .nil pass_none (pa_cons (pv 0) (pa_cons pe_int pa_nil))) pa_nil)) (pe_slice sl_list (pv 0) (po_some pe_int) (po_some pe_int))) pa_nil)))
      (pss_cons (ps_set (i := 3) sc_law.nd rfl (Or.inl rfl) (pe_callTy call_list_of (by rfl) T.n_list bt_list (pa_cons (pv 2) pa_nil)))
      (pss_cons (ps_set (i := 4) sc_law.nd rfl (Or.inl rfl) (pe_callX G_level (hr.mono (by decide)) (by rfl) T.m_level T.F_level.kp T.b_level .nil pass_none (pa_cons (pv 1) (pa_cons (pv 3) pa_nil))))
      (pss_cons (ps_if (PW.pt (pw_or (pt_not (pt_val (pe_callX G__law_fills (hr.mono (by decide)) (by rfl) T.m__law_fills T.F__law_fills.kp T.b__law_fills .nil pass_none (pa_cons (pv 4) (pa_cons (pv 1) (pa_cons (pv 2) pa_nil)))))) (pw_or1 (pt_cmpR (op_neL hr.units) (pv 3) (pv 2) (nomark _))))) (pss_one (ps_ret pe_bl)) pss_nil)
      (pss_cons (ps_set (i := 5) sc_law.nd rfl (Or.inl rfl) (pe_callTy call_list_of (by rfl) T.n_list bt_list (pa_cons (pe_ix ix_tup (pv 4) pe_int (fun _ _ => rfl)) pa_nil)))
      (pss_cons (ps_set (i := 6) sc_law.nd rfl (Or.inl rfl) (pe_callX G_level (hr.mono (by decide)) (by rfl) T.m_level T.F_level.kp T.b_level .nil pass_none (pa_cons (pv 1) (pa_cons (pe_sliceRev K (pv 2) (po_some (pe_un un_neg pe_int))) pa_nil))))
      (pss_cons (ps_if (PW.pt (pw_or (pt_not (pt_val (pe_callX G__law_fills (hr.mono (by decide)) (by rfl) T.m__law_fills T.F__law_fills.kp T.b__law_fills .nil pass_none (pa_cons (pv 6) (pa_cons (pv 1) (pa_cons (pe_sliceRev K (pv 2) (po_some (pe_un un_neg pe_int))) pa_nil)))))) (pw_or1 (pt_cmpR (op_neT hr.units) (pe_ix ix_tup (pv 6) pe_int (fun _ _ => rfl)) (pe_ix ix_tup (pv 4) pe_int (fun _ _ => rfl)) (nomark _))))) (pss_one (ps_ret pe_bl)) pss_nil)
      (pss_cons (ps_if (pt_cmpR (op_neL hr.units) (pe_ix ix_tup (pv 6) pe_int (fun _ _ => rfl)) (pe_sliceRev K (pv 5) (po_some (pe_un un_neg pe_int))) (nomark _)) (pss_one (ps_ret pe_bl)) pss_nil)
      (pss_cons (ps_expr (pe_bm PySem.F.plainAttrs_list PySem.F.slot_list_append PySem.F.type_list_append mt_append (pe_ix ix_tup (pv 6) pe_int (fun _ _ => rfl)) (pa_cons (pe_tup (pa_cons pe_int (pa_cons pe_int pa_nil))) pa_nil)))
      (pss_cons (ps_set (i := 7) sc_law.nd rfl (Or.inl rfl) (pe_tup (pa_cons (pe_op op_add (pe_ix ix_tup (pv 1) pe_int (fun _ _ => rfl)) (pe_ix ix_tup (pv 1) pe_int (fun _ _ => rfl))) (pa_cons (pe_ix ix_tup (pv 1) pe_int (fun _ _ => rfl)) pa_nil))))
      (pss_cons (ps_if (PW.pt (pw_or (pt_not (pt_val (pe_callX G__law_fills (hr.mono (by decide)) (by rfl) T.m__law_fills T.F__law_fills.kp T.b__law_fills .nil pass_none (pa_cons (pe_callX G_level (hr.mono (by decide)) (by rfl) T.m_level T.F_level.kp T.b_level .nil pass_none (pa_cons (pv 7) (pa_cons (pe_slice sl_list (pv 3) po_none (po_some pe_int)) pa_nil))) (pa_cons (pv 7) (pa_cons (pe_slice sl_list (pv 2) po_none (po_some pe_int)) pa_nil)))))) (pw_or1 (pt_cmpR (op_neL hr.units) (pe_ix ix_tup (pv 4) pe_int (fun _ _ => rfl)) (pv 5) (nomark _))))) (pss_one (ps_ret pe_bl)) pss_nil)
      (pss_one (ps_ret (pe_and (pe_cmpR (op_eqS hr.units) (pe_callX G_level (hr.mono (by decide)) (by rfl) T.m_level T.F_level.kp T.b_level .nil pass_none (pa_cons (pv 1) (pa_cons (pv 3) pa_nil))) (pe_tup (pa_cons (pe_ix ix_tup (pv 4) pe_int (fun _ _ => rfl)) (pa_cons (pv 5) pa_nil))) (nomark _)) (pe_one (pe_cmpR (op_eqS hr.units) (pe_ix ix_tup (pe_callX G_level (hr.mono (by decide)) (by rfl) T.m_level T.F_level.kp T.b_level .nil pass_none (pa_cons (pv 1) (pa_cons (pe_sliceRev K (pv 2) (po_some (pe_un un_neg pe_int))) pa_nil))) pe_int (fun _ _ => rfl)) (pe_sliceRev K (pv 5) (po_some (pe_un un_neg pe_int))) (nomark _)))))))))))))))))), ?_⟩
  refine ⟨_, rfl, rfl, l, ns, 0, rfl, hS, by decide, fun z0 => ⟨_, rfl, rfl, l, ns, 1, rfl, hS, by decide, fun z1 => ⟨rfl, z0, z1, rfl, fun H1 va a0 a1 s1 ha a0n a0x a1n a1x => ?_⟩⟩⟩
  refine ⟨_, rfl, rfl, l, ns, 2, rfl, s1.sql hS, by decide, fun z2 => ⟨few rfl, fun la nla => ⟨_, rfl, _, rfl, _, rfl, l, _, rfl, (same_upd nla).sql (s1.sql hS), fun lb nlb => ?_⟩⟩⟩
  obtain ⟨cs, ecs, cne, clen⟩ := cat_one z2 ns 3 62 (by omega)
  replace ecs : [V.int z2] ++ cutV (List.map V.int ns) (some 3) (some 62) = cs.map V.int := ecs
  refine ⟨la, lb, _, _, rfl, rfl, same_upd nlb _ _ upd_same, upd_same, ?_, fun lc nlc => ?_⟩
  · have := congrArg List.length ecs
    rw [List.length_append, List.length_map] at this
    rw [this]
    exact Nat.le_of_lt (small1000 (by omega))
  rw [ecs]
  have sc := (same_upd nla).trans ((same_upd nlb).trans (same_upd (o := .lst (cs.map V.int)) nlc))
  refine ⟨rfl, lc, cs, rfl, .of upd_same, by omega, fun H3 D gs s3 hD gl ge => ?_⟩
  have ha3 := ha.mono (sc.trans s3)
  have gne : gs ≠ [] := fun e => cne (by rw [e] at gl; exact List.length_eq_zero_iff.mp gl.symm)
  have gv : Gv a0 a1 gs := ⟨a0n, by omega, a1n, by omega, gne, by omega, fun g hg => ⟨(ge g hg).1, by have := (ge g hg).2; omega⟩⟩
  refine ⟨_, rfl, D, _, rfl, .inl (.of hD), fun lh nlh => ?_⟩
  have s4 := same_upd (o := .lst (gs.map V.int)) nlh
  have hD4 := s4 _ _ hD
  have ha4 := ha3.mono s4
  refine ⟨_, rfl, _, rfl, rfl, va, lh, a0, a1, gs, rfl, ha4, gv, .of upd_same, fun H5 pf vf mf ds h0 h1 s5 fl b0 b1 nmf hmf hpf hvf du => ?_⟩
  have hD5 := s5 _ _ hD4
  have hh5 := s5 _ _ (upd_at (H := H3) (p := lh) (o := .lst (gs.map V.int)))
  have ha5 := ha4.mono s5
  refine ⟨_, rfl, _, rfl, _, rfl, rfl, pf, vf, va, mf, D, ds, gs, a0, a1, h0, h1, rfl, hpf, hvf, .of hmf, du, ha5, .of hD5, gv, fl, b0, b1, fun H6 s6 => ⟨_, rfl, iteF ?_⟩⟩
  have hD6 := s6 _ _ hD5
  have hh6 := s6 _ _ hh5
  refine ⟨_, rfl, _, rfl, _, _, is_lst (.of hh6) (ints_is gs), is_lst (.of hD6) (ints_is gs), by rw [ints_dep]; decide, _, rfl, iteFb (by rw [deqL_refl]; rfl) ?_⟩
  refine ⟨_, rfl, pf, _, _, _, rfl, rfl, s6.sqt hpf, at1v, mf, _, rfl, .inl (.of (s6 _ _ hmf)), fun lk nlk => ?_⟩
  have s7 := s6.trans (same_upd (o := .lst ds) nlk)
  have hD7 := same_upd (o := .lst ds) nlk _ _ hD6
  have hh7 := same_upd (o := .lst ds) nlk _ _ hh6
  have rv : (List.map V.int gs).reverse = gs.reverse.map V.int := List.map_reverse.symm
  refine ⟨_, rfl, _, rfl, _, rfl, _, rfl, D, _, rfl, rfl, .of hD7, fun lr nlr => ?_⟩
  rw [rv]
  have s8 := same_upd (o := .lst (gs.reverse.map V.int)) nlr
  have s58 := s7.trans s8
  refine ⟨rfl, va, lr, a0, a1, gs.reverse, rfl, ha5.mono s58, gv.rev, .of upd_same, fun H9 po vo mo dso k0 k1 s9 flo c0 c1 nmo hmo hpo hvo duo => ?_⟩
  have s59 := s58.trans s9
  obtain ⟨e1, e2⟩ := K01.fill_same gv.a1n fl (flo.perm (List.reverse_perm gs))
  subst e1 e2
  have hD9 := s9 _ _ (s8 _ _ hD7)
  refine ⟨_, rfl, _, rfl, _, rfl, _, rfl, _, rfl, D, _, rfl, rfl, .of hD9, fun lr2 nlr2 => ?_⟩
  rw [rv]
  have sx := same_upd (o := .lst (gs.reverse.map V.int)) nlr2
  refine ⟨rfl, po, vo, va, mo, lr2, dso, gs.reverse, a0, a1, h0, h1, rfl, sx.sqt hpo, hvo.mono sx, .of (sx _ _ hmo), duo.mono sx, ha5.mono (s59.trans sx), .of upd_same, gv.rev, flo, b0, b1, fun Ha sa => ⟨_, rfl, iteF ?_⟩⟩
  have sxa := sx.trans sa
  have s5a := s59.trans sxa
  refine ⟨_, rfl, po, _, _, _, rfl, rfl, sxa.sqt hpo, at0v, _, rfl, pf, _, _, _, rfl, rfl, s5a.sqt hpf, at0v, _, _, isTup2 (hvo.mono sxa), isTup2 (hvf.mono s5a), by simp [depL, dep], _, rfl, iteFb (by rw [deqL_refl]; rfl) ?_⟩
  have hka := sa _ _ (sx _ _ (s9 _ _ (s8 _ _ (upd_at (H := H6) (p := lk) (o := .lst ds)))))
  refine ⟨_, rfl, po, _, _, _, rfl, rfl, sxa.sqt hpo, at1v, _, rfl, _, rfl, _, rfl, lk, _, rfl, rfl, .of hka, fun ly nly => ?_⟩
  have sy := same_upd (o := .lst ds.reverse) nly
  refine ⟨_, _, is_lst (.of (sy _ _ (sxa _ _ hmo))) (duo.mono (sxa.trans sy)).is, is_lst (.of upd_same) (reverse_is (du.mono (s5a.trans sy)).is), by have := dues_dep h0 h1 gs.reverse; omega, _, rfl, iteFb (by rw [List.map_reverse, deqL_refl]; rfl) ?_⟩
  refine ⟨_, rfl, po, _, _, _, rfl, rfl, (sxa.trans sy).sqt hpo, at1v, .inl ⟨rfl, _, .of (sy _ _ (sxa _ _ hmo))⟩, few rfl, fun pt npt => ⟨mo, _, _, rfl, rfl, same_upd npt _ _ (sy _ _ (sxa _ _ hmo)), small1000 (by have h1 := duo.1; have h2 := gv.rev.len; omega), ?_⟩⟩
  -- from here on all that lay there ahead of the other way stands
  have s8b : Same (upd (upd H6 lk (.lst ds)) lr (.lst (gs.reverse.map V.int))) (upd (upd (upd Ha ly (.lst ds.reverse)) pt (.tup [.int 1, .int 1])) mo (.lst (dso ++ [.ref pt]))) := same_keep ((s9.trans sxa).trans (sy.trans (same_upd npt))) nmo
  try dsimp only
  generalize (upd (upd (upd Ha ly (.lst ds.reverse)) pt (.tup [.int 1, .int 1])) mo (.lst (dso ++ [.ref pt]))) = Hb at *
  have s5b := s58.trans s8b
  have hab := ha5.mono s5b
  obtain ⟨pa, rfl, hpa⟩ := id hab
  refine ⟨_, rfl, pa, _, _, _, rfl, rfl, hpa, at0 _ _, _, rfl, pa, _, _, _, rfl, rfl, hpa, at1 _ _, _, _, rfl, rfl, _, rfl, pa, _, _, _, rfl, rfl, hpa, at1 _ _, few rfl, fun pm npm => ?_⟩
  have sm := same_upd (o := .tup [.int (a0 + a1), .int a1]) npm
  have s5m := s5b.trans sm
  have hDm := sm _ _ (s8b _ _ (s8 _ _ hD7))
  have hhm := sm _ _ (s8b _ _ (s8 _ _ hh7))
  have gv1 := gv.one (by omega)
  refine ⟨_, rfl, _, rfl, _, rfl, lh, _, rfl, .of hhm, fun ls nls => ?_⟩
  rw [cut_first]
  have ss := same_upd (o := .lst ((gs.take 1).map V.int)) nls
  refine ⟨rfl, _, ls, a0 + a1, a1, gs.take 1, rfl, fq_new.mono ss, gv1, .of upd_same, fun Hc pc vc mc dsc d0 d1 sc2 flc e0 e1 nmc hmc hpc hvc duc => ?_⟩
  have smc := ss.trans sc2
  refine ⟨_, rfl, _, rfl, _, rfl, D, _, rfl, .of (smc _ _ hDm), fun lt nlt => ?_⟩
  rw [cut_first]
  have st := same_upd (o := .lst ((gs.take 1).map V.int)) nlt
  refine ⟨rfl, pc, vc, _, mc, lt, dsc, gs.take 1, a0 + a1, a1, d0, d1, rfl, st.sqt hpc, hvc.mono st, .of (st _ _ hmc), duc.mono st, fq_new.mono (smc.trans st), .of upd_same, gv1, flc, e0, e1, fun Hd sd => ⟨_, rfl, iteF ?_⟩⟩
  have smd := smc.trans (st.trans sd)
  have s5d := s5m.trans smd
  have hkd := smd _ _ (sm _ _ (s8b _ _ (s8 _ _ (upd_at (H := H6) (p := lk) (o := .lst ds)))))
  refine ⟨_, rfl, pf, _, _, _, rfl, rfl, s5d.sqt hpf, at1v, _, rfl, _, _, is_lst (.of (s5d _ _ hmf)) (du.mono s5d).is, is_lst (.of hkd) (du.mono s5d).is, by have := dues_dep h0 h1 gs; omega, _, rfl, iteFb (by rw [deqL_refl]; rfl) ?_⟩
  have hDd := smd _ _ hDm
  have hhd := smd _ _ hhm
  refine ⟨_, rfl, _, rfl, rfl, _, lh, a0, a1, gs, rfl, ha5.mono s5d, gv, .of hhd, fun He pe ve me dse f0 f1 se fle g0 g1 nme hme hpe hve due => ?_⟩
  obtain ⟨x1, x2⟩ := K01.fill_same gv.a1n fl fle
  subst x1 x2
  refine ⟨_, rfl, pf, _, _, _, rfl, rfl, (s5d.trans se).sqt hpf, at0v, _, rfl, few rfl, fun pz npz => ?_⟩
  have sz := same_upd (o := .tup [vf, .ref lk]) npz
  have s5z := (s5d.trans se).trans sz
  refine ⟨_, _, is_lv (sz.sqt hpe) (hve.mono sz) (.of (sz _ _ hme)) (due.mono sz).is, is_lv (.of upd_same) (hvf.mono s5z) (.of (sz _ _ (se _ _ hkd))) (du.mono s5z).is, .inl ⟨_, _, rfl, rfl⟩, ?_, _, rfl, ?_⟩
  · have := dues_dep h0 h1 gs
    show max (dep (.tup [.int h0, .int h1])) (max (depL (gs.map (dueD h0 h1)) + 1) 0) + 1 ≤ 60
    have e : dep (.tup [.int h0, .int h1]) = 1 := rfl
    omega
  rw [deq_refl]
  refine iteT ⟨_, rfl, _, rfl, _, rfl, _, rfl, D, _, rfl, rfl, .of (sz _ _ (se _ _ hDd)), fun lw nlw => ?_⟩
  rw [rv]
  have sw := same_upd (o := .lst (gs.reverse.map V.int)) nlw
  refine ⟨rfl, _, lw, a0, a1, gs.reverse, rfl, ha5.mono (s5z.trans sw), gv.rev, .of upd_same, fun Hf pg vg mg2 dsg i0 i1 sf flg j0 j1 nmg hmg hpg hvg dug => ?_⟩
  obtain ⟨y1, y2⟩ := K01.fill_same gv.a1n fl (flg.perm (List.reverse_perm gs))
  subst y1 y2
  refine ⟨pg, _, _, _, rfl, rfl, hpg, at1v, _, rfl, _, rfl, _, rfl, lk, _, rfl, rfl, .of (sf _ _ (sw _ _ (sz _ _ (se _ _ hkd)))), fun lv nlv => ?_⟩
  have sv := same_upd (o := .lst ds.reverse) nlv
  refine ⟨_, _, is_lst (.of (sv _ _ hmg)) (dug.mono sv).is, is_lst (.of upd_same) (reverse_is (du.mono (s5z.trans (sw.trans (sf.trans sv)))).is), .inr ⟨_, _, rfl, rfl⟩, ?_, ?_⟩
  · have := dues_dep h0 h1 gs.reverse
    show depL _ + 1 ≤ 60
    omega
  rw [List.map_reverse, deq_refl]
  exact q _
end
theorem all_ok {P : Program} {w : World} {K : PySem.W.Frag} {mg : Str → Option Value} {base : Heap} (T : Tx K w mg) : FnOk P w K mg base (CX1 P w) 6 T.a_law T.fd_law ["_law_script"] (sp_law T) := by
  have G_is_whole := ok_is_whole (P := P) (w := w) (base := base) T 
  have G_common_divisor := ok_common_divisor (P := P) (w := w) (base := base) T 
  have G_ratio := ok_ratio (P := P) (w := w) (base := base) T G_is_whole G_common_divisor
  have G_plus := ok_plus (P := P) (w := w) (base := base) T G_ratio
  have G_minus := ok_minus (P := P) (w := w) (base := base) T G_ratio
  have G_over := ok_over (P := P) (w := w) (base := base) T G_ratio
  have G_less := ok_less (P := P) (w := w) (base := base) T 
  have G_level_of := ok_level_of (P := P) (w := w) (base := base) T G_plus G_over G_less
  have G_due := ok_due (P := P) (w := w) (base := base) T G_minus G_less
  have G_level := ok_level (P := P) (w := w) (base := base) T G_level_of G_due
  have G__law_cell_at := ok__law_cell_at (P := P) (w := w) (base := base) T 
  have G__law_whole := ok__law_whole (P := P) (w := w) (base := base) T 
  have G__law_divisor := ok__law_divisor (P := P) (w := w) (base := base) T 
  have G__law_is := ok__law_is (P := P) (w := w) (base := base) T G__law_whole G__law_divisor
  have G__law_amount := ok__law_amount (P := P) (w := w) (base := base) T G__law_divisor
  have G__law_gifts := ok__law_gifts (P := P) (w := w) (base := base) T 
  have G__law_fills := ok__law_fills (P := P) (w := w) (base := base) T G__law_whole G__law_divisor G__law_is
  have G_law := ok_law (P := P) (w := w) (base := base) T G_level G__law_cell_at G__law_amount G__law_gifts G__law_fills
  exact G_law
theorem law_in {K : PySem.W.Frag} {w : World} {mg : Str → Option Value} (T : Tx K w mg) {vs : List V} {H : Hp} {Q : VK} {E : XK} (h : spLaw K vs H Q E) : sp_law T vs H Q E := by
  obtain ⟨a, ns, rfl, r⟩ := h
  exact ⟨rfl, a, ns, rfl, r⟩
theorem all_mk {l : PySem.W.OpenLaw} {w : World} {K : PySem.W.Frag} {h : Heap} {mg : Str → Option Value} {fa : Addr} (X : K.In h) (G : h.Ns mainGlobals mg) (hfa : mg "law" = some (.ref fa))
    {f0 : Addr} {od0 an0 : Option Addr} {sl0 : Array (Option Value)} {oc0 kV0 dc0 pm0 cd0 ct0 : Value}
    {f1 : Addr} {od1 an1 : Option Addr} {sl1 : Array (Option Value)} {oc1 kV1 dc1 pm1 cd1 ct1 : Value}
    {f2 : Addr} {od2 an2 : Option Addr} {sl2 : Array (Option Value)} {oc2 kV2 dc2 pm2 cd2 ct2 : Value}
    {f3 : Addr} {od3 an3 : Option Addr} {sl3 : Array (Option Value)} {oc3 kV3 dc3 pm3 cd3 ct3 : Value}
    {f4 : Addr} {od4 an4 : Option Addr} {sl4 : Array (Option Value)} {oc4 kV4 dc4 pm4 cd4 ct4 : Value}
    {f5 : Addr} {od5 an5 : Option Addr} {sl5 : Array (Option Value)} {oc5 kV5 dc5 pm5 cd5 ct5 : Value}
    {f6 : Addr} {od6 an6 : Option Addr} {sl6 : Array (Option Value)} {oc6 kV6 dc6 pm6 cd6 ct6 : Value}
    {f7 : Addr} {od7 an7 : Option Addr} {sl7 : Array (Option Value)} {oc7 kV7 dc7 pm7 cd7 ct7 : Value}
    {f8 : Addr} {od8 an8 : Option Addr} {sl8 : Array (Option Value)} {oc8 kV8 dc8 pm8 cd8 ct8 : Value}
    {f9 : Addr} {od9 an9 : Option Addr} {sl9 : Array (Option Value)} {oc9 kV9 dc9 pm9 cd9 ct9 : Value}
    {f10 : Addr} {od10 an10 : Option Addr} {sl10 : Array (Option Value)} {oc10 kV10 dc10 pm10 cd10 ct10 : Value}
    {f11 : Addr} {od11 an11 : Option Addr} {sl11 : Array (Option Value)} {oc11 kV11 dc11 pm11 cd11 ct11 : Value}
    {f12 : Addr} {od12 an12 : Option Addr} {sl12 : Array (Option Value)} {oc12 kV12 dc12 pm12 cd12 ct12 : Value}
    {f13 : Addr} {od13 an13 : Option Addr} {sl13 : Array (Option Value)} {oc13 kV13 dc13 pm13 cd13 ct13 : Value}
    {f14 : Addr} {od14 an14 : Option Addr} {sl14 : Array (Option Value)} {oc14 kV14 dc14 pm14 cd14 ct14 : Value}
    {f15 : Addr} {od15 an15 : Option Addr} {sl15 : Array (Option Value)} {oc15 kV15 dc15 pm15 cd15 ct15 : Value}
    {f16 : Addr} {od16 an16 : Option Addr} {sl16 : Array (Option Value)} {oc16 kV16 dc16 pm16 cd16 ct16 : Value}
    {f17 : Addr} {od17 an17 : Option Addr} {sl17 : Array (Option Value)} {oc17 kV17 dc17 pm17 cd17 ct17 : Value}
    {C0 : Addr}
    {C1 : Addr}
    {KI0 : Addr} {odI0 : Option Addr} {nI0 : Nat} {slI0 : Array (Option Value)} {ti0_0 : Tok} {ti0_1 : Tok}
    (a0 : PySem.W.nsIn K mainGlobals "is_whole" = some (some (.ref f0)))
    (l0 : K.lookup f0 = some ⟨oc0, od0, .func (PySem.W.fnOf "is_whole" "is_whole" (defArgs s_is_whole) (defBody s_is_whole) (defScope s_is_whole) .none kV0 dc0 pm0 an0 cd0 ct0), sl0⟩)
    (cc0 : PySem.W.codeIn K cd0 "is_whole" = true) (k0 : PySem.W.keepIn K (.ref f0) = true)
    (a1 : PySem.W.nsIn K mainGlobals "common_divisor" = some (some (.ref f1)))
    (l1 : K.lookup f1 = some ⟨oc1, od1, .func (PySem.W.fnOf "common_divisor" "common_divisor" (defArgs s_common_divisor) (defBody s_common_divisor) (defScope s_common_divisor) .none kV1 dc1 pm1 an1 cd1 ct1), sl1⟩)
    (cc1 : PySem.W.codeIn K cd1 "common_divisor" = true) (k1 : PySem.W.keepIn K (.ref f1) = true)
    (a2 : PySem.W.nsIn K mainGlobals "ratio" = some (some (.ref f2)))
    (l2 : K.lookup f2 = some ⟨oc2, od2, .func (PySem.W.fnOf "ratio" "ratio" (defArgs s_ratio) (defBody s_ratio) (defScope s_ratio) .none kV2 dc2 pm2 an2 cd2 ct2), sl2⟩)
    (cc2 : PySem.W.codeIn K cd2 "ratio" = true) (k2 : PySem.W.keepIn K (.ref f2) = true)
    (a3 : PySem.W.nsIn K mainGlobals "plus" = some (some (.ref f3)))
    (l3 : K.lookup f3 = some ⟨oc3, od3, .func (PySem.W.fnOf "plus" "plus" (defArgs s_plus) (defBody s_plus) (defScope s_plus) .none kV3 dc3 pm3 an3 cd3 ct3), sl3⟩)
    (cc3 : PySem.W.codeIn K cd3 "plus" = true) (k3 : PySem.W.keepIn K (.ref f3) = true)
    (a4 : PySem.W.nsIn K mainGlobals "minus" = some (some (.ref f4)))
    (l4 : K.lookup f4 = some ⟨oc4, od4, .func (PySem.W.fnOf "minus" "minus" (defArgs s_minus) (defBody s_minus) (defScope s_minus) .none kV4 dc4 pm4 an4 cd4 ct4), sl4⟩)
    (cc4 : PySem.W.codeIn K cd4 "minus" = true) (k4 : PySem.W.keepIn K (.ref f4) = true)
    (a5 : PySem.W.nsIn K mainGlobals "over" = some (some (.ref f5)))
    (l5 : K.lookup f5 = some ⟨oc5, od5, .func (PySem.W.fnOf "over" "over" (defArgs s_over) (defBody s_over) (defScope s_over) .none kV5 dc5 pm5 an5 cd5 ct5), sl5⟩)
    (cc5 : PySem.W.codeIn K cd5 "over" = true) (k5 : PySem.W.keepIn K (.ref f5) = true)
    (a6 : PySem.W.nsIn K mainGlobals "less" = some (some (.ref f6)))
    (l6 : K.lookup f6 = some ⟨oc6, od6, .func (PySem.W.fnOf "less" "less" (defArgs s_less) (defBody s_less) (defScope s_less) .none kV6 dc6 pm6 an6 cd6 ct6), sl6⟩)
    (cc6 : PySem.W.codeIn K cd6 "less" = true) (k6 : PySem.W.keepIn K (.ref f6) = true)
    (a7 : PySem.W.nsIn K mainGlobals "level_of" = some (some (.ref f7)))
    (l7 : K.lookup f7 = some ⟨oc7, od7, .func (PySem.W.fnOf "level_of" "level_of" (defArgs s_level_of) (defBody s_level_of) (defScope s_level_of) .none kV7 dc7 pm7 an7 cd7 ct7), sl7⟩)
    (cc7 : PySem.W.codeIn K cd7 "level_of" = true) (k7 : PySem.W.keepIn K (.ref f7) = true)
    (a8 : PySem.W.nsIn K mainGlobals "due" = some (some (.ref f8)))
    (l8 : K.lookup f8 = some ⟨oc8, od8, .func (PySem.W.fnOf "due" "due" (defArgs s_due) (defBody s_due) (defScope s_due) .none kV8 dc8 pm8 an8 cd8 ct8), sl8⟩)
    (cc8 : PySem.W.codeIn K cd8 "due" = true) (k8 : PySem.W.keepIn K (.ref f8) = true)
    (a9 : PySem.W.nsIn K mainGlobals "level" = some (some (.ref f9)))
    (l9 : K.lookup f9 = some ⟨oc9, od9, .func (PySem.W.fnOf "level" "level" (defArgs s_level) (defBody s_level) (defScope s_level) .none kV9 dc9 pm9 an9 cd9 ct9), sl9⟩)
    (cc9 : PySem.W.codeIn K cd9 "level" = true) (k9 : PySem.W.keepIn K (.ref f9) = true)
    (a10 : PySem.W.nsIn K mainGlobals "_law_cell_at" = some (some (.ref f10)))
    (l10 : K.lookup f10 = some ⟨oc10, od10, .func (PySem.W.fnOf "_law_cell_at" "_law_cell_at" (defArgs s__law_cell_at) (defBody s__law_cell_at) (defScope s__law_cell_at) .none kV10 dc10 pm10 an10 cd10 ct10), sl10⟩)
    (cc10 : PySem.W.codeIn K cd10 "_law_cell_at" = true) (k10 : PySem.W.keepIn K (.ref f10) = true)
    (a11 : PySem.W.nsIn K mainGlobals "_law_whole" = some (some (.ref f11)))
    (l11 : K.lookup f11 = some ⟨oc11, od11, .func (PySem.W.fnOf "_law_whole" "_law_whole" (defArgs s__law_whole) (defBody s__law_whole) (defScope s__law_whole) .none kV11 dc11 pm11 an11 cd11 ct11), sl11⟩)
    (cc11 : PySem.W.codeIn K cd11 "_law_whole" = true) (k11 : PySem.W.keepIn K (.ref f11) = true)
    (a12 : PySem.W.nsIn K mainGlobals "_law_divisor" = some (some (.ref f12)))
    (l12 : K.lookup f12 = some ⟨oc12, od12, .func (PySem.W.fnOf "_law_divisor" "_law_divisor" (defArgs s__law_divisor) (defBody s__law_divisor) (defScope s__law_divisor) .none kV12 dc12 pm12 an12 cd12 ct12), sl12⟩)
    (cc12 : PySem.W.codeIn K cd12 "_law_divisor" = true) (k12 : PySem.W.keepIn K (.ref f12) = true)
    (a13 : PySem.W.nsIn K mainGlobals "_law_is" = some (some (.ref f13)))
    (l13 : K.lookup f13 = some ⟨oc13, od13, .func (PySem.W.fnOf "_law_is" "_law_is" (defArgs s__law_is) (defBody s__law_is) (defScope s__law_is) .none kV13 dc13 pm13 an13 cd13 ct13), sl13⟩)
    (cc13 : PySem.W.codeIn K cd13 "_law_is" = true) (k13 : PySem.W.keepIn K (.ref f13) = true)
    (a14 : PySem.W.nsIn K mainGlobals "_law_amount" = some (some (.ref f14)))
    (l14 : K.lookup f14 = some ⟨oc14, od14, .func (PySem.W.fnOf "_law_amount" "_law_amount" (defArgs s__law_amount) (defBody s__law_amount) (defScope s__law_amount) .none kV14 dc14 pm14 an14 cd14 ct14), sl14⟩)
    (cc14 : PySem.W.codeIn K cd14 "_law_amount" = true) (k14 : PySem.W.keepIn K (.ref f14) = true)
    (a15 : PySem.W.nsIn K mainGlobals "_law_gifts" = some (some (.ref f15)))
    (l15 : K.lookup f15 = some ⟨oc15, od15, .func (PySem.W.fnOf "_law_gifts" "_law_gifts" (defArgs s__law_gifts) (defBody s__law_gifts) (defScope s__law_gifts) .none kV15 dc15 pm15 an15 cd15 ct15), sl15⟩)
    (cc15 : PySem.W.codeIn K cd15 "_law_gifts" = true) (k15 : PySem.W.keepIn K (.ref f15) = true)
    (a16 : PySem.W.nsIn K mainGlobals "_law_fills" = some (some (.ref f16)))
    (l16 : K.lookup f16 = some ⟨oc16, od16, .func (PySem.W.fnOf "_law_fills" "_law_fills" (defArgs s__law_fills) (defBody s__law_fills) (defScope s__law_fills) .none kV16 dc16 pm16 an16 cd16 ct16), sl16⟩)
    (cc16 : PySem.W.codeIn K cd16 "_law_fills" = true) (k16 : PySem.W.keepIn K (.ref f16) = true)
    (a17 : PySem.W.nsIn K mainGlobals "law" = some (some (.ref f17)))
    (l17 : K.lookup f17 = some ⟨oc17, od17, .func (PySem.W.fnOf "law" "law" (defArgs s_law) (defBody s_law) (defScope s_law) .none kV17 dc17 pm17 an17 cd17 ct17), sl17⟩)
    (cc17 : PySem.W.codeIn K cd17 "law" = true) (k17 : PySem.W.keepIn K (.ref f17) = true)
    (ac0 : PySem.W.nsIn K mainGlobals "HeirError" = some (some (.ref C0)))
    (ac1 : PySem.W.nsIn K mainGlobals "NoNumber" = some (some (.ref C1)))
    (xc1 : PySem.W.excIn K C1 EBm "ValueError.__new__" = true)
    (e1_1 : PySem.W.findIn K (.ref C1) "__getattribute__" = some (some (.builtin "BaseException.__getattribute__"))) (e2_1 : PySem.W.findIn K (.ref C1) "__getattr__" = some none) (e3_1 : PySem.W.findIn K (.ref C1) "__class__" = some (some (.builtin "object.__class__"))) (e4_1 : PySem.W.mroIn K C1 (.type "BaseException") = some true) (e5_1 : PySem.W.mroIn K C1 (.type "object") = some true)
    (z_abs : PySem.W.nsIn K mainGlobals "abs" = some none)
    (z_bool : PySem.W.nsIn K mainGlobals "bool" = some none)
    (z_enumerate : PySem.W.nsIn K mainGlobals "enumerate" = some none)
    (z_int : PySem.W.nsIn K mainGlobals "int" = some none)
    (z_isinstance : PySem.W.nsIn K mainGlobals "isinstance" = some none)
    (z_len : PySem.W.nsIn K mainGlobals "len" = some none)
    (z_list : PySem.W.nsIn K mainGlobals "list" = some none)
    (z_max : PySem.W.nsIn K mainGlobals "max" = some none)
    (z_min : PySem.W.nsIn K mainGlobals "min" = some none)
    (z_sorted : PySem.W.nsIn K mainGlobals "sorted" = some none)
    (z_tuple : PySem.W.nsIn K mainGlobals "tuple" = some none)
    (z_zip : PySem.W.nsIn K mainGlobals "zip" = some none)
    (q_ki_int : PySem.W.kitOne K (.type "int") (.type "int") = some true)
    (q_kb_int : PySem.W.kitOne K (.type "int") (.type "bool") = some false)
    (q_kt_tuple : PySem.W.kitOne K (.type "tuple") (.type "tuple") = some true)
    (q_kl_list : PySem.W.kitOne K (.type "list") (.type "list") = some true)
    (zq0 : PySem.W.nsIn K mainGlobals "NOTHING" = some (some (.ref KI0)))
    (uq0 : K.lookup KI0 = some ⟨.type "tuple", odI0, .seq #[.int 0 ti0_0, .int 1 ti0_1] nI0, slI0⟩) :
    ∃ fd : FuncData, (∀ (s : Shared) (v : Value), BindsTo s fd ⟨[v], []⟩ [("_law_script", v)]) ∧ ∀ base : Heap, K.In base → base.Ns mainGlobals mg → FnOk l.prog w K mg base (CX1 l.prog w) 6 fa fd ["_law_script"] (spLaw K) := by
  have e := hfa.symm.trans (PySem.W.mg_of X G a17)
  cases e
  have T : Σ' (T : Tx K w mg), T.a_law = fa ∧ T.fd_law = PySem.W.fnOf "law" "law" (defArgs s_law) (defBody s_law) (defScope s_law) .none kV17 dc17 pm17 an17 cd17 ct17 := ⟨{ a_is_whole := f0, fd_is_whole := PySem.W.fnOf "is_whole" "is_whole" (defArgs s_is_whole) (defBody s_is_whole) (defScope s_is_whole) .none kV0 dc0 pm0 an0 cd0 ct0, F_is_whole := fun_mk (st := s_is_whole) l0 cc0 k0, b_is_whole := (fun_mk (st := s_is_whole) l0 cc0 k0).binds (fun _ _ _ _ _ _ us hl => match us, hl with | [_], _ => rfl), m_is_whole := (PySem.W.mg_of X G a0), a_common_divisor := f1, fd_common_divisor := PySem.W.fnOf "common_divisor" "common_divisor" (defArgs s_common_divisor) (defBody s_common_divisor) (defScope s_common_divisor) .none kV1 dc1 pm1 an1 cd1 ct1, F_common_divisor := fun_mk (st := s_common_divisor) l1 cc1 k1, b_common_divisor := (fun_mk (st := s_common_divisor) l1 cc1 k1).binds (fun _ _ _ _ _ _ us hl => match us, hl with | [_, _], _ => rfl), m_common_divisor := (PySem.W.mg_of X G a1), a_ratio := f2, fd_ratio := PySem.W.fnOf "ratio" "ratio" (defArgs s_ratio) (defBody s_ratio) (defScope s_ratio) .none kV2 dc2 pm2 an2 cd2 ct2, F_ratio := fun_mk (st := s_ratio) l2 cc2 k2, b_ratio := (fun_mk (st := s_ratio) l2 cc2 k2).binds (fun _ _ _ _ _ _ us hl => match us, hl with | [_, _], _ => rfl), m_ratio := (PySem.W.mg_of X G a2), a_plus := f3, fd_plus := PySem.W.fnOf "plus" "plus" (defArgs s_plus) (defBody s_plus) (defScope s_plus) .none kV3 dc3 pm3 an3 cd3 ct3, F_plus := fun_mk (st := s_plus) l3 cc3 k3, b_plus := (fun_mk (st := s_plus) l3 cc3 k3).binds (fun _ _ _ _ _ _ us hl => match us, hl with | [_, _], _ => rfl), m_plus := (PySem.W.mg_of X G a3), a_minus := f4, fd_minus := PySem.W.fnOf "minus" "minus" (defArgs s_minus) (defBody s_minus) (defScope s_minus) .none kV4 dc4 pm4 an4 cd4 ct4, F_minus := fun_mk (st := s_minus) l4 cc4 k4, b_minus := (fun_mk (st := s_minus) l4 cc4 k4).binds (fun _ _ _ _ _ _ us hl => match us, hl with | [_, _], _ => rfl), m_minus := (PySem.W.mg_of X G a4), a_over := f5, fd_over := PySem.W.fnOf "over" "over" (defArgs s_over) (defBody s_over) (defScope s_over) .none kV5 dc5 pm5 an5 cd5 ct5, F_over := fun_mk (st := s_over) l5 cc5 k5, b_over := (fun_mk (st := s_over) l5 cc5 k5).binds (fun _ _ _ _ _ _ us hl => match us, hl with | [_, _], _ => rfl), m_over := (PySem.W.mg_of X G a5), a_less := f6, fd_less := PySem.W.fnOf "less" "less" (defArgs s_less) (defBody s_less) (defScope s_less) .none kV6 dc6 pm6 an6 cd6 ct6, F_less := fun_mk (st := s_less) l6 cc6 k6, b_less := (fun_mk (st := s_less) l6 cc6 k6).binds (fun _ _ _ _ _ _ us hl => match us, hl with | [_, _], _ => rfl), m_less := (PySem.W.mg_of X G a6), a_level_of := f7, fd_level_of := PySem.W.fnOf "level_of" "level_of" (defArgs s_level_of) (defBody s_level_of) (defScope s_level_of) .none kV7 dc7 pm7 an7 cd7 ct7, F_level_of := fun_mk (st := s_level_of) l7 cc7 k7, b_level_of := (fun_mk (st := s_level_of) l7 cc7 k7).binds (fun _ _ _ _ _ _ us hl => match us, hl with | [_, _], _ => rfl), m_level_of := (PySem.W.mg_of X G a7), a_due := f8, fd_due := PySem.W.fnOf "due" "due" (defArgs s_due) (defBody s_due) (defScope s_due) .none kV8 dc8 pm8 an8 cd8 ct8, F_due := fun_mk (st := s_due) l8 cc8 k8, b_due := (fun_mk (st := s_due) l8 cc8 k8).binds (fun _ _ _ _ _ _ us hl => match us, hl with | [_, _], _ => rfl), m_due := (PySem.W.mg_of X G a8), a_level := f9, fd_level := PySem.W.fnOf "level" "level" (defArgs s_level) (defBody s_level) (defScope s_level) .none kV9 dc9 pm9 an9 cd9 ct9, F_level := fun_mk (st := s_level) l9 cc9 k9, b_level := (fun_mk (st := s_level) l9 cc9 k9).binds (fun _ _ _ _ _ _ us hl => match us, hl with | [_, _], _ => rfl), m_level := (PySem.W.mg_of X G a9), a__law_cell_at := f10, fd__law_cell_at := PySem.W.fnOf "_law_cell_at" "_law_cell_at" (defArgs s__law_cell_at) (defBody s__law_cell_at) (defScope s__law_cell_at) .none kV10 dc10 pm10 an10 cd10 ct10, F__law_cell_at := fun_mk (st := s__law_cell_at) l10 cc10 k10, b__law_cell_at := (fun_mk (st := s__law_cell_at) l10 cc10 k10).binds (fun _ _ _ _ _ _ us hl => match us, hl with | [_, _], _ => rfl), m__law_cell_at := (PySem.W.mg_of X G a10), a__law_whole := f11, fd__law_whole := PySem.W.fnOf "_law_whole" "_law_whole" (defArgs s__law_whole) (defBody s__law_whole) (defScope s__law_whole) .none kV11 dc11 pm11 an11 cd11 ct11, F__law_whole := fun_mk (st := s__law_whole) l11 cc11 k11, b__law_whole := (fun_mk (st := s__law_whole) l11 cc11 k11).binds (fun _ _ _ _ _ _ us hl => match us, hl with | [_], _ => rfl), m__law_whole := (PySem.W.mg_of X G a11), a__law_divisor := f12, fd__law_divisor := PySem.W.fnOf "_law_divisor" "_law_divisor" (defArgs s__law_divisor) (defBody s__law_divisor) (defScope s__law_divisor) .none kV12 dc12 pm12 an12 cd12 ct12, F__law_divisor := fun_mk (st := s__law_divisor) l12 cc12 k12, b__law_divisor := (fun_mk (st := s__law_divisor) l12 cc12 k12).binds (fun _ _ _ _ _ _ us hl => match us, hl with | [_, _], _ => rfl), m__law_divisor := (PySem.W.mg_of X G a12), a__law_is := f13, fd__law_is := PySem.W.fnOf "_law_is" "_law_is" (defArgs s__law_is) (defBody s__law_is) (defScope s__law_is) .none kV13 dc13 pm13 an13 cd13 ct13, F__law_is := fun_mk (st := s__law_is) l13 cc13 k13, b__law_is := (fun_mk (st := s__law_is) l13 cc13 k13).binds (fun _ _ _ _ _ _ us hl => match us, hl with | [_, _, _], _ => rfl), m__law_is := (PySem.W.mg_of X G a13), a__law_amount := f14, fd__law_amount := PySem.W.fnOf "_law_amount" "_law_amount" (defArgs s__law_amount) (defBody s__law_amount) (defScope s__law_amount) .none kV14 dc14 pm14 an14 cd14 ct14, F__law_amount := fun_mk (st := s__law_amount) l14 cc14 k14, b__law_amount := (fun_mk (st := s__law_amount) l14 cc14 k14).binds (fun _ _ _ _ _ _ us hl => match us, hl with | [_, _], _ => rfl), m__law_amount := (PySem.W.mg_of X G a14), a__law_gifts := f15, fd__law_gifts := PySem.W.fnOf "_law_gifts" "_law_gifts" (defArgs s__law_gifts) (defBody s__law_gifts) (defScope s__law_gifts) .none kV15 dc15 pm15 an15 cd15 ct15, F__law_gifts := fun_mk (st := s__law_gifts) l15 cc15 k15, b__law_gifts := (fun_mk (st := s__law_gifts) l15 cc15 k15).binds (fun _ _ _ _ _ _ us hl => match us, hl with | [_], _ => rfl), m__law_gifts := (PySem.W.mg_of X G a15), a__law_fills := f16, fd__law_fills := PySem.W.fnOf "_law_fills" "_law_fills" (defArgs s__law_fills) (defBody s__law_fills) (defScope s__law_fills) .none kV16 dc16 pm16 an16 cd16 ct16, F__law_fills := fun_mk (st := s__law_fills) l16 cc16 k16, b__law_fills := (fun_mk (st := s__law_fills) l16 cc16 k16).binds (fun _ _ _ _ _ _ us hl => match us, hl with | [_, _, _], _ => rfl), m__law_fills := (PySem.W.mg_of X G a16), a_law := fa, fd_law := PySem.W.fnOf "law" "law" (defArgs s_law) (defBody s_law) (defScope s_law) .none kV17 dc17 pm17 an17 cd17 ct17, F_law := fun_mk (st := s_law) l17 cc17 k17, b_law := (fun_mk (st := s_law) l17 cc17 k17).binds (fun _ _ _ _ _ _ us hl => match us, hl with | [_], _ => rfl), m_law := (PySem.W.mg_of X G a17), c_HeirError := C0, m_HeirError := (PySem.W.mg_of X G ac0), c_NoNumber := C1, m_NoNumber := (PySem.W.mg_of X G ac1), x_NoNumber := xc1, e_NoNumber := ⟨e1_1, e2_1, e3_1, e4_1, e5_1⟩, n_abs := (PySem.W.mg_none_of X G z_abs), n_bool := (PySem.W.mg_none_of X G z_bool), n_enumerate := (PySem.W.mg_none_of X G z_enumerate), n_int := (PySem.W.mg_none_of X G z_int), n_isinstance := (PySem.W.mg_none_of X G z_isinstance), n_len := (PySem.W.mg_none_of X G z_len), n_list := (PySem.W.mg_none_of X G z_list), n_max := (PySem.W.mg_none_of X G z_max), n_min := (PySem.W.mg_none_of X G z_min), n_sorted := (PySem.W.mg_none_of X G z_sorted), n_tuple := (PySem.W.mg_none_of X G z_tuple), n_zip := (PySem.W.mg_none_of X G z_zip), ki_int := q_ki_int, kb_int := q_kb_int, kt_tuple := q_kt_tuple, kl_list := q_kl_list, a_NOTHING := KI0, m_NOTHING := (PySem.W.mg_of X G zq0), s_NOTHING := fun _ => .inr ⟨_, _, _, uq0, rfl, rfl, small1000 (Nat.le_of_ble_eq_true rfl), .cons ⟨_, rfl⟩ (.cons ⟨_, rfl⟩ (.nil))⟩ }, rfl, rfl⟩
  obtain ⟨T, ea, ed⟩ := T
  subst ea
  refine ⟨T.fd_law, fun s v => by rw [ed]; exact .of_eq rfl, fun base _ _ => (all_ok T).imp fun vs H Q E z => ?_⟩
  exact law_in T z
theorem walk {l : PySem.W.OpenLaw} {q : Program} {loose : List Str} {XP : (Str → Option Value) → Heap → Prop} {YP : World → Heap → Prop} {d : DefRec} {K : Params → PySem.W.Frag} (hn : l.most = some 63) (hdf : d.params.defaults = [])
    (hY : ∀ (w : World) (h : Heap), YP w h → (K w.params).In h)
    (F : ∀ (w : World) (mg : Str → Option Value) (fa : Addr) (h : Heap), (K w.params).In h → h.Ns mainGlobals mg → mg d.name = some (.ref fa) →
      ∃ fd : FuncData, (∀ (s : Shared) (u : Value), BindsTo s fd ⟨[u], []⟩ [("_law_script", u)]) ∧ ∀ base : Heap, (K w.params).In base → base.Ns mainGlobals mg → FnOk l.prog w (K w.params) mg base (CX1 l.prog w) 6 fa fd ["_law_script"] (spLaw (K w.params))) :
    PySem.W.WalkO q loose XP YP l.row.toRowW d [] (fun f vs => PySem.call f vs) :=
  L2.walk_of (n := 63) (k := 6) (x := "_law_script") (CX := fun w => CX1 l.prog w) (sp := fun w => spLaw (K w.params)) hn (by decide) hdf ⟨rfl, by decide, by decide⟩ hY F (fun _ _ a ns hl _ hS => ⟨a, ns, rfl, hS, hl, fun _ => rfl⟩) fun _ _ _ _ _ ⟨_, _, _, _, _, z⟩ => z
end K81
open PySem PySem.W PyProof.Rows
set_option maxRecDepth 100000 in
set_option maxHeartbeats 0 in
theorem PySem.Challenge.cw_heirbook_k81_level_holds : PySem.Challenge.rw_heirbook_k81_level.Holds := by
  w_on; o_law; k_head; (case hw => w_witness2)
  k_fill
  refine K81.walk (l := PySem.Challenge.rw_heirbook_k81_level) rfl rfl (fun w h Y => PySem.W.kIn_of Y) ?F
  case F =>
    intro w mg fa h KX G hmg
    refine' K81.all_mk KX G hmg ?a0 ?l0 ?cc0 ?k0 ?a1 ?l1 ?cc1 ?k1 ?a2 ?l2 ?cc2 ?k2 ?a3 ?l3 ?cc3 ?k3 ?a4 ?l4 ?cc4 ?k4 ?a5 ?l5 ?cc5 ?k5 ?a6 ?l6 ?cc6 ?k6 ?a7 ?l7 ?cc7 ?k7 ?a8 ?l8 ?cc8 ?k8 ?a9 ?l9 ?cc9 ?k9 ?a10 ?l10 ?cc10 ?k10 ?a11 ?l11 ?cc11 ?k11 ?a12 ?l12 ?cc12 ?k12 ?a13 ?l13 ?cc13 ?k13 ?a14 ?l14 ?cc14 ?k14 ?a15 ?l15 ?cc15 ?k15 ?a16 ?l16 ?cc16 ?k16 ?a17 ?l17 ?cc17 ?k17 ?ac0 ?ac1 ?xc1 ?e1_1 ?e2_1 ?e3_1 ?e4_1 ?e5_1 ?z_abs ?z_bool ?z_enumerate ?z_int ?z_isinstance ?z_len ?z_list ?z_max ?z_min ?z_sorted ?z_tuple ?z_zip ?q_ki_int ?q_kb_int ?q_kt_tuple ?q_kl_list ?zq0 ?uq0
    (case a0 => k_is)
    (case l0 => k_is)
    (case cc0 => k_is)
    (case k0 => k_is)
    (case a1 => k_is)
    (case l1 => k_is)
    (case cc1 => k_is)
    (case k1 => k_is)
    (case a2 => k_is)
    (case l2 => k_is)
    (case cc2 => k_is)
    (case k2 => k_is)
    (case a3 => k_is)
    (case l3 => k_is)
    (case cc3 => k_is)
    (case k3 => k_is)
    (case a4 => k_is)
    (case l4 => k_is)
    (case cc4 => k_is)
    (case k4 => k_is)
    (case a5 => k_is)
    (case l5 => k_is)
    (case cc5 => k_is)
    (case k5 => k_is)
    (case a6 => k_is)
    (case l6 => k_is)
    (case cc6 => k_is)
    (case k6 => k_is)
    (case a7 => k_is)
    (case l7 => k_is)
    (case cc7 => k_is)
    (case k7 => k_is)
    (case a8 => k_is)
    (case l8 => k_is)
    (case cc8 => k_is)
    (case k8 => k_is)
    (case a9 => k_is)
    (case l9 => k_is)
    (case cc9 => k_is)
    (case k9 => k_is)
    (case a10 => k_is)
    (case l10 => k_is)
    (case cc10 => k_is)
    (case k10 => k_is)
    (case a11 => k_is)
    (case l11 => k_is)
    (case cc11 => k_is)
    (case k11 => k_is)
    (case a12 => k_is)
    (case l12 => k_is)
    (case cc12 => k_is)
    (case k12 => k_is)
    (case a13 => k_is)
    (case l13 => k_is)
    (case cc13 => k_is)
    (case k13 => k_is)
    (case a14 => k_is)
    (case l14 => k_is)
    (case cc14 => k_is)
    (case k14 => k_is)
    (case a15 => k_is)
    (case l15 => k_is)
    (case cc15 => k_is)
    (case k15 => k_is)
    (case a16 => k_is)
    (case l16 => k_is)
    (case cc16 => k_is)
    (case k16 => k_is)
    (case a17 => k_is)
    (case l17 => k_is)
    (case cc17 => k_is)
    (case k17 => k_is)
    (case ac0 => k_is)
    (case ac1 => k_is)
    (case xc1 => k_exc)
    (case e1_1 => k_is)
    (case e2_1 => k_is)
    (case e3_1 => k_is)
    (case e4_1 => k_is)
    (case e5_1 => k_is)
    (case z_abs => k_is)
    (case z_bool => k_is)
    (case z_enumerate => k_is)
    (case z_int => k_is)
    (case z_isinstance => k_is)
    (case z_len => k_is)
    (case z_list => k_is)
    (case z_max => k_is)
    (case z_min => k_is)
    (case z_sorted => k_is)
    (case z_tuple => k_is)
    (case z_zip => k_is)
    (case q_ki_int => kit_is)
    (case q_kb_int => kit_is)
    (case q_kt_tuple => kit_is)
    (case q_kl_list => kit_is)
    (case zq0 => k_is)
    (case uq0 => k_is)
