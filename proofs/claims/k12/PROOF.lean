import PyProof.Rows.All
import Wide.All
import OpenK.AllK
import Wide.FinOn
import Lean
import PyProof.EqAt
import PyProof.EqKinds
import PyProof.TupleCall
import PyProof.NeKinds
import PyProof.StrCaseBound
import PyProof.StrLawsIn
import PyProof.StrLawsJoin
import PyProof.Rows.StrSplitAre
import PySem.Str
import PySem.Challenge.RW_heirbook_k12_texts_of_no_way
set_option Elab.async false
set_option linter.all false
set_option maxRecDepth 100000
/-! THE HAND LAYER, for ints, bools, texts, own classes, LISTS and tuples (index, slices, in, append, pop ..), calls, loops. Paste it whole ahead of your own text; what your proof does not reach may be deleted. -/
namespace L2
open PySem PySem.Spec PyProof.Rows

/-- a key: an int or a str -/
abbrev Key := Sum Int Str
def keyIs : Key → Value → Bool
  | .inl k, v => Value.isInt k v
  | .inr x, v => Value.isStrOf x v
def keyH (w : World) : Key → Int
  | .inl k => hashInt k
  | .inr x => hashStr w x
theorem keyIs_shape : ∀ {k : Key} {v : Value}, keyIs k v = true → (∃ i t, k = Sum.inl i ∧ v = Value.int i t) ∨ (∃ x t, k = Sum.inr x ∧ v = Value.str x t)
  | .inl i, v, h => by
    obtain ⟨t, e⟩ := Value.isInt_shape (k := i) (v := v) h
    exact .inl ⟨i, t, rfl, e⟩
  | .inr x, v, h => by
    obtain ⟨t, e⟩ := Value.isStrOf_shape (x := x) (v := v) h
    exact .inr ⟨x, t, rfl, e⟩
theorem key_ll (a b : Int) : decide ((Sum.inl a : Key) = Sum.inl b) = (a == b) := by
  by_cases e : a = b
  · subst e; simp
  · have h : ¬ (Sum.inl a : Key) = Sum.inl b := fun q => e (Sum.inl.inj q)
    rw [decide_eq_false h]
    exact (beq_eq_false_iff_ne.mpr e).symm
theorem key_rr (a b : Str) : decide ((Sum.inr a : Key) = Sum.inr b) = decide (a = b) := by
  by_cases e : a = b
  · subst e; simp
  · have h : ¬ (Sum.inr a : Key) = Sum.inr b := fun q => e (Sum.inr.inj q)
    rw [decide_eq_false h, decide_eq_false e]
theorem key_lr (a : Int) (b : Str) : decide ((Sum.inl a : Key) = Sum.inr b) = false := decide_eq_false (fun q => nomatch q)
theorem key_rl (a : Str) (b : Int) : decide ((Sum.inr a : Key) = Sum.inl b) = false := decide_eq_false (fun q => nomatch q)

def mixKind (prog : Program) (w : World) : PySem.KeyKind prog w Key where
  is := keyIs
  hash := keyH w
  inj := fun v a b ha hb => by
    rcases keyIs_shape ha with ⟨i, t, rfl, rfl⟩ | ⟨x, t, rfl, rfl⟩
    · rcases keyIs_shape hb with ⟨j, u, rfl, e⟩ | ⟨y, u, rfl, e⟩
      · injection e with e1 _; rw [e1]
      · exact nomatch e
    · rcases keyIs_shape hb with ⟨j, u, rfl, e⟩ | ⟨y, u, rfl, e⟩
      · exact nomatch e
      · injection e with e1 _; rw [e1]
  byValue := fun k v h => by
    rcases keyIs_shape h with ⟨i, t, rfl, rfl⟩ | ⟨x, t, rfl, rfl⟩ <;> rfl
  pyHash := fun hv h => by
    rcases keyIs_shape hv with ⟨i, t, rfl, rfl⟩ | ⟨x, t, rfl, rfl⟩
    · exact wpAny_pyHash_int h
    · exact wpAny_pyHash_str h
  eqBool := fun hu hv h => by
    rcases keyIs_shape hu with ⟨i, t, rfl, rfl⟩ | ⟨x, t, rfl, rfl⟩
    · rcases keyIs_shape hv with ⟨j, u, rfl, rfl⟩ | ⟨y, u, rfl, rfl⟩
      · rw [key_ll] at h; exact wpAny_eqBool_int h
      · rw [key_lr] at h; exact SeqAt.EqAt.int_str i t y u _ _ _ _ h
    · rcases keyIs_shape hv with ⟨j, u, rfl, rfl⟩ | ⟨y, u, rfl, rfl⟩
      · rw [key_rl] at h; exact SeqAt.EqAt.str_int x t j u _ _ _ _ h
      · rw [key_rr] at h; exact wpAny_eqBool_str h
  «strs» := fun k x t v h => by
    rcases keyIs_shape h with ⟨i, u, rfl, e⟩ | ⟨y, u, rfl, e⟩
    · exact nomatch e
    · injection e with e1 _
      subst e1
      cases v <;> rfl

end L2

namespace L2
open PySem PySem.Spec PyProof.Rows

/-- a value, without the heap -/
inductive V where
  | non | bl (b : Bool) | int (i : Int) | str (x : Str) | byt (b : Array UInt8) | flt (b : UInt64) | ref (a : Addr) | ty (n : String)
  deriving DecidableEq

def RelV : V → Value → Prop
  | .non, u => u = Value.none
  | .bl b, u => u = Value.bool b
  | .int i, u => ∃ t, u = Value.int i t
  | .str x, u => ∃ t, u = Value.str x t
  | .byt b, u => ∃ t, u = Value.bytes b t
  | .flt b, u => ∃ t, u = Value.float b t
  | .ref a, u => u = Value.ref a
  | .ty n, u => u = Value.type n

abbrev Vals : List V → List Value → Prop := Paired RelV
theorem Vals.length {xs : List V} {us : List Value} (r : Vals xs us) : xs.length = us.length := Paired.length r
theorem Vals.get : ∀ {xs : List V} {us : List Value} {i : Nat} {x : V}, Vals xs us → xs[i]? = some x → ∃ u, us[i]? = some u ∧ RelV x u
  | _, _, _, _, .nil, e => by simp at e
  | _, _, 0, _, .cons r _, e => by simp at e; subst e; exact ⟨_, rfl, r⟩
  | _, _, i + 1, x, .cons _ t, e => by
    obtain ⟨u, h1, h2⟩ := Vals.get (i := i) (x := x) t (by simpa using e)
    exact ⟨u, by simpa using h1, h2⟩
theorem Vals.append : ∀ {xs ys : List V} {us ws : List Value}, Vals xs us → Vals ys ws → Vals (xs ++ ys) (us ++ ws)
  | _, _, _, _, .nil, s => s
  | _, _, _, _, .cons r t, s => .cons r (Vals.append t s)
theorem Vals.take : ∀ {xs : List V} {us : List Value} (n : Nat), Vals xs us → Vals (xs.take n) (us.take n)
  | _, _, 0, _ => .nil
  | _, _, _ + 1, .nil => .nil
  | _, _, n + 1, .cons r t => .cons r (Vals.take n t)
theorem Vals.drop : ∀ {xs : List V} {us : List Value} (n : Nat), Vals xs us → Vals (xs.drop n) (us.drop n)
  | _, _, 0, r => r
  | _, _, _ + 1, .nil => .nil
  | _, _, n + 1, .cons _ t => Vals.drop n t
def RelO : Option V → Option Value → Prop
  | some v, some u => RelV v u
  | none, none => True
  | _, _ => False
def KV {κ : Type} : List (κ × V) → List (κ × Value) → Prop := Paired fun (p : κ × V) (q : κ × Value) => p.1 = q.1 ∧ RelV p.2 q.2

/-- a key of a dict (00_mix): an int or a text -/
def kV : Key → V
  | .inl i => .int i
  | .inr x => .str x

/-- what stands at a tracked address -/
inductive HO where
  /-- a list -/
  | lst (xs : List V)
  /-- a tuple (never changes) -/
  | tup (xs : List V)
  /-- a dict whose keys are ints and texts; one whose keys are tuples of ints and texts (the empty one is both) -/
  | dK (kvs : List (Key × V)) | dT (kvs : List (List Key × V))
  /-- a set of ints: its members, its size -/
  | set (S : Int → Bool) (n : Nat)
  /-- an instance of the class at C, its dict at dx, its attributes -/
  | ins (C dx : Addr) (fs : List (Str × V))
  /-- the dict of the instance at x -/
  | own (x : Addr)
  /-- the dict of an exception -/
  | xd (fs : List (Str × V))
  /-- a bound method, f of x -/
  | met (f x : Addr)
  /-- a range object lo, lo + 1, .. below hi -/
  | rng (lo hi : Int)
  /-- a thing that is known to the object (the script; a dict while a loop walks it): read, never written while it is so -/
  | frz (o : Obj) (u : HO)
  /-- a code object's table -/
  | tbl (ps : Array Value)
  /-- any other thing, by what is true of its one object (a def of one's own: SetO a S n := HO.ext fun h => ..) -/
  | ext (φ : Heap → Prop)

abbrev Hp := Addr → Option HO
def upd (H : Hp) (a : Addr) (o : HO) : Hp := fun b => if b = a then some o else H b
theorem upd_same {H : Hp} {a : Addr} {o : HO} : upd H a o a = some o := by unfold upd; rw [if_pos rfl]
theorem upd_ne {H : Hp} {a b : Addr} {o : HO} (h : b ≠ a) : upd H a o b = H b := by unfold upd; rw [if_neg h]
theorem ne_of_none {H : Hp} {a b : Addr} {o : HO} (h : H a = some o) (h' : H b = none) : a ≠ b := by
  intro e; subst e; rw [h] at h'; cases h'

section
variable (P : Program) (w : World)
def ObjOk (H : Hp) (h : Heap) (a : Addr) : HO → Prop
  | .lst xs => xs.length ≤ sizeLine ∧ ∃ (its : List Value) (n : Nat), Vals xs its ∧ h.get? a = some { cls := .type "list", data := .seq its.toArray n }
  | .tup xs => xs.length ≤ sizeLine ∧ ∃ its : List Value, Vals xs its ∧ IsTup h a its.toArray
  | .dK kvs => kvs.length ≤ sizeLine ∧ (a == sysModules) = false ∧ ∃ vs, KV kvs vs ∧ h.DictOf (mixKind P w) a vs
  | .dT kvs => kvs.length ≤ sizeLine ∧ (a == sysModules) = false ∧ ∃ xs : List (List Key × Addr × Value),
      Paired (fun (p : List Key × V) (q : List Key × Addr × Value) => p.1 = q.1 ∧ H q.2.1 = some (.tup (p.1.map kV)) ∧ RelV p.2 q.2.2) kvs xs ∧
      ∃ o es ep, h.get? a = some o ∧ o.ExactDict ∧ o.data = .dict es ep ∧ es.toList = xs.map (entryOfKey (tupleKind (mixKind P w))) ∧ (xs.map (·.1)).Nodup
  | .set S n => h.SetOf (intKind P w) a S n
  | .ins C dx fs => H dx = some (.own a) ∧ fs.length ≤ 1000 ∧ dx ≠ a ∧ h.get? a = some (PySem.W.instObj C dx) ∧
      ∃ mA, h.Ns1 dx mA ∧ (∀ f, RelO (fs.lookup f) (mA f)) ∧ PySem.Within mA (fs.map (·.1))
  | .own _ => ∃ o, h.get? a = some o
  | .xd fs => ∃ mA, h.Ns1 a mA ∧ ∀ f, RelO (fs.lookup f) (mA f)
  | .rng lo hi => ∃ t u v, h.get? a = some { cls := .type "range", data := .fields #[.int lo t, .int hi u, .int 1 v] }
  | .frz o u => h.get? a = some o ∧ ObjOk H h a u
  | .tbl ps => h.get? a = some { cls := .none, data := .fields ps }
  | .met f x => h.get? a = some (PySem.W.methodObj (.ref f) (.ref x))
  | .ext φ => φ h ∧ (∃ o, h.get? a = some o) ∧ ∀ h1 h2 : Heap, φ h1 → (∀ o, h1.get? a = some o → h2.get? a = some o) → φ h2
/-- the abstract heap is held -/
def HOk (H : Hp) (h : Heap) : Prop := ∀ a o, H a = some o → ObjOk P w H h a o
end

section
variable {P : Program} {w : World} {H H' : Hp} {h h' : Heap} {a : Addr} {o : HO}
theorem ObjOk.lt (x : ObjOk P w H h a o) : a < h.objs.size := by
  cases o with
  | lst xs => obtain ⟨_, _, _, _, e⟩ := x; exact Heap.lt_size e
  | tup xs => obtain ⟨_, _, _, p⟩ := x; exact p.lt
  | dK kvs => obtain ⟨_, _, _, _, o, _, _, e, _⟩ := x; exact Heap.lt_size e
  | dT kvs => obtain ⟨_, _, _, _, o, _, _, e, _⟩ := x; exact Heap.lt_size e
  | set S n => obtain ⟨o, _, _, _, e, _⟩ := x; exact Heap.lt_size e
  | ins C dx fs => obtain ⟨_, _, _, e, _⟩ := x; exact Heap.lt_size e
  | own y => obtain ⟨_, e⟩ := x; exact Heap.lt_size e
  | xd fs => obtain ⟨_, ⟨_, _, _, e, _⟩, _⟩ := x; exact Heap.lt_size e
  | rng lo hi => obtain ⟨_, _, _, e⟩ := x; exact Heap.lt_size e
  | frz ob u => obtain ⟨e, _⟩ := x; exact Heap.lt_size e
  | tbl ps => exact Heap.lt_size (show h.get? a = some _ from x)
  | met f y => exact Heap.lt_size (show h.get? a = some _ from x)
  | ext φ => obtain ⟨_, ⟨_, e⟩, _⟩ := x; exact Heap.lt_size e
theorem Paired.mapP {α β : Type} {F G : α → β → Prop} : ∀ {l₁ : List α} {l₂ : List β}, Paired F l₁ l₂ → (∀ a b, F a b → G a b) → Paired G l₁ l₂
  | _, _, .nil, _ => .nil
  | _, _, .cons r t, f => .cons (f _ _ r) (Paired.mapP t f)
/-- what an object's description leans on: its own object, its own dict, the tuples -/
theorem ObjOk.stay (x : ObjOk P w H h a o) (k : ∀ b u, (b = a ∨ H b = some (.own a)) → h.get? b = some u → h'.get? b = some u)
    (ho : ∀ b, H b = some (.own a) → H' b = some (.own a)) (ht : ∀ b xs, H b = some (.tup xs) → H' b = some (.tup xs)) : ObjOk P w H' h' a o := by
  induction o with
  | lst xs => obtain ⟨z, its, n, r, e⟩ := x; exact ⟨z, its, n, r, k _ _ (.inl rfl) e⟩
  | tup xs => obtain ⟨z, its, r, ob, e, c⟩ := x; exact ⟨z, its, r, ob, k _ _ (.inl rfl) e, c⟩
  | dK kvs => obtain ⟨z, y, vs, r, ob, es, ep, e, c⟩ := x; exact ⟨z, y, vs, r, ob, es, ep, k _ _ (.inl rfl) e, c⟩
  | dT kvs =>
    obtain ⟨z, y, xs, r, ob, es, ep, e, c⟩ := x
    exact ⟨z, y, xs, Paired.mapP r fun p q z => ⟨z.1, ht _ _ z.2.1, z.2.2⟩, ob, es, ep, k _ _ (.inl rfl) e, c⟩
  | set S n => obtain ⟨ob, es, ep, t, e, c⟩ := x; exact ⟨ob, es, ep, t, k _ _ (.inl rfl) e, c⟩
  | ins C dx fs =>
    obtain ⟨d, z, ne, e, mA, ⟨od, es, ep, e2, c⟩, r⟩ := x
    exact ⟨ho _ d, z, ne, k _ _ (.inl rfl) e, mA, ⟨od, es, ep, k _ _ (.inr d) e2, c⟩, r⟩
  | own y => obtain ⟨ob, e⟩ := x; exact ⟨ob, k _ _ (.inl rfl) e⟩
  | xd fs => obtain ⟨mA, ⟨od, es, ep, e, c⟩, r⟩ := x; exact ⟨mA, ⟨od, es, ep, k _ _ (.inl rfl) e, c⟩, r⟩
  | rng lo hi => obtain ⟨t, u, v, e⟩ := x; exact ⟨t, u, v, k _ _ (.inl rfl) e⟩
  | frz ob u ih => obtain ⟨e, q⟩ := x; exact ⟨k _ _ (.inl rfl) e, ih q⟩
  | tbl ps =>
    have e : h.get? a = some { cls := .none, data := .fields ps } := x
    show h'.get? a = some { cls := .none, data := .fields ps }
    exact k a _ (.inl rfl) e
  | met f y =>
    have e : h.get? a = some (PySem.W.methodObj (.ref f) (.ref y)) := x
    show h'.get? a = some (PySem.W.methodObj (.ref f) (.ref y))
    exact k a _ (.inl rfl) e
  | ext φ => obtain ⟨p, ⟨o, e⟩, st⟩ := x; exact ⟨st _ _ p fun o q => k _ _ (.inl rfl) q, ⟨o, k _ _ (.inl rfl) e⟩, st⟩
theorem HOk.lt (x : HOk P w H h) (e : H a = some o) : a < h.objs.size := (x a o e).lt
theorem HOk.fresh (x : HOk P w H h) (e : h.objs.size ≤ a) : H a = none := by
  cases q : H a with
  | none => rfl
  | some u => exact absurd (Nat.lt_of_lt_of_le (x.lt q) e) (Nat.lt_irrefl _)
/-- every object of the heap is kept -/
theorem HOk.kept (x : HOk P w H h) (k : ∀ b u, h.get? b = some u → h'.get? b = some u) : HOk P w H h' := fun a o e =>
  (x a o e).stay (fun b u _ q => k b u q) (fun _ q => q) fun _ _ q => q
/-- a new object is laid and tracked -/
theorem HOk.laid (x : HOk P w H h) (k : ∀ b u, h.get? b = some u → h'.get? b = some u) (hp : h.objs.size ≤ a) (new : ObjOk P w (upd H a o) h' a o) : HOk P w (upd H a o) h' := fun b u e => by
  have hn := x.fresh hp
  by_cases hb : b = a
  · subst hb; rw [upd_same] at e; cases e; exact new
  · rw [upd_ne hb] at e
    exact (x b u e).stay (fun c v _ q => k c v q) (fun c q => by rw [upd_ne (ne_of_none q hn)]; exact q) fun c xs q => by rw [upd_ne (ne_of_none q hn)]; exact q
end

/-- what may be read as u: it is u, or a known u -/
def Rd (H : Hp) (a : Addr) (u : HO) : Prop := H a = some u ∨ ∃ o, H a = some (.frz o u)
theorem Rd.ok {P : Program} {w : World} {H : Hp} {h : Heap} {a : Addr} {u : HO} (r : Rd H a u) (x : HOk P w H h) : ObjOk P w H h a u := by
  rcases r with r | ⟨o, r⟩
  · exact x a u r
  · obtain ⟨_, q⟩ := x a _ r
    exact q
/-- what may be written -/
def Mut : Option HO → Prop
  | some (.lst _) => True
  | some (.dK _) => True
  | some (.dT _) => True
  | some (.set _ _) => True
  | some (.ins _ _ _) => True
  | some (.ext _) => True
  | _ => False
section
variable {P : Program} {w : World} {H : Hp} {h h' : Heap} {x e : Addr} {o' : HO}
/-- the object at e is changed: x itself, or the dict of the instance x -/
theorem HOk.write (ok : HOk P w H h) (mu : Mut (H x)) (he : e = x ∨ H e = some (.own x)) (k : ∀ b u, b ≠ e → h.get? b = some u → h'.get? b = some u) (heo : ∃ u, h'.get? e = some u)
    (new : ObjOk P w (upd H x o') h' x o') : HOk P w (upd H x o') h' := fun b u q => by
  have nown : ∀ c y, H c = some (.own y) → c ≠ x := fun c y r z => by subst z; rw [r] at mu; exact mu
  have ntup : ∀ c xs, H c = some (.tup xs) → c ≠ x := fun c xs r z => by subst z; rw [r] at mu; exact mu
  by_cases hb : b = x
  · subst hb; rw [upd_same] at q; cases q; exact new
  · rw [upd_ne hb] at q
    by_cases hbe : b = e
    · have q' : H b = some (.own x) := by
        rcases he with z | z
        · exact absurd (hbe.trans z) hb
        · rw [hbe]; exact z
      rw [q] at q'; cases q'
      obtain ⟨v, hv⟩ := heo
      exact ⟨v, by rw [hbe]; exact hv⟩
    · refine (ok b u q).stay (fun c v hc r => k c v ?_ r) (fun c r => by rw [upd_ne (nown c b r)]; exact r) fun c xs r => by rw [upd_ne (ntup c xs r)]; exact r
      rcases hc with rfl | hc
      · exact hbe
      · rintro rfl
        rcases he with z | z
        · exact nown c b hc z
        · rw [hc] at z; cases z; exact hb rfl
end

/-! ### kept unless tracked; of the frames at fs (the callers') the slots may change (an exception that passes writes there); of the records at ex (iterators) nothing is said -/
structure Un (fs ex : List Addr) (H H' : Hp) (h h' : Heap) : Prop where
  keep : ∀ b o, h.get? b = some o → H b = none → b ∉ fs → b ∉ ex → h'.get? b = some o
  slot : ∀ b o, h.get? b = some o → H b = none → b ∈ fs → b ∉ ex → ∃ sl, h'.get? b = some { o with slots := sl }
  free : ∀ b o, h.get? b = some o → H b = none → b ∉ ex → H' b = none
  there : ∀ b o, h.get? b = some o → b ∉ ex → ∃ o', h'.get? b = some o'
  tups : ∀ b xs, H b = some (.tup xs) → H' b = some (.tup xs)
  frzs : ∀ b o u, H b = some (.frz o u) → H' b = some (.frz o u)
  tbls : ∀ b ps, H b = some (.tbl ps) → ∃ more, H' b = some (.tbl (ps ++ more))
section
variable {fs fs' ex ex' : List Addr} {H H1 H2 : Hp} {h h1 h2 h' : Heap} {a x e : Addr} {o : HO}
theorem Un.any (u : Un fs ex H H1 h h1) {b : Addr} {ob : Obj} (q : h.get? b = some ob) (n : H b = none) (hx : b ∉ ex) : ∃ sl, h1.get? b = some { ob with slots := sl } := by
  by_cases hb : b ∈ fs
  · exact u.slot b ob q n hb hx
  · exact ⟨ob.slots, u.keep b ob q n hb hx⟩
theorem Un.kept (k : ∀ b u, h.get? b = some u → h'.get? b = some u) : Un fs ex H H h h' :=
  ⟨fun b ob q _ _ _ => k b ob q, fun b ob q _ _ _ => ⟨ob.slots, k b ob q⟩, fun _ _ _ n _ => n, fun b ob q _ => ⟨ob, k b ob q⟩, fun _ _ q => q, fun _ _ _ q => q, fun _ ps q => ⟨#[], by rw [q]; simp⟩⟩
theorem Un.refl : Un fs ex H H h h := Un.kept fun _ _ q => q
theorem Un.laid (k : ∀ b u, h.get? b = some u → h'.get? b = some u) (hp : h.objs.size ≤ a) (hn : H a = none) : Un fs ex H (upd H a o) h h' where
  keep := fun b u q _ _ _ => k b u q
  slot := fun b u q _ _ _ => ⟨u.slots, k b u q⟩
  free := fun b u q n _ => by rw [upd_ne (Nat.ne_of_lt (Nat.lt_of_lt_of_le (Heap.lt_size q) hp))]; exact n
  there := fun b u q _ => ⟨u, k b u q⟩
  tups := fun b xs q => by rw [upd_ne (ne_of_none q hn)]; exact q
  frzs := fun b u xs q => by rw [upd_ne (ne_of_none q hn)]; exact q
  tbls := fun b ps q => ⟨#[], by rw [upd_ne (ne_of_none q hn), q]; simp⟩
theorem Un.write (mu : Mut (H x)) (he : e = x ∨ H e = some (.own x)) (k : ∀ b u, b ≠ e → h.get? b = some u → h'.get? b = some u) (heo : ∃ u, h'.get? e = some u) : Un fs ex H (upd H x o) h h' := by
  have hx : ∀ b, H b = none → b ≠ x := fun b n z => by subst z; rw [n] at mu; exact mu
  have hb : ∀ b, H b = none → b ≠ e := fun b n z => by
    subst z
    rcases he with r | r
    · exact hx b n r
    · rw [n] at r; cases r
  have hm : ∀ b u, H b = some u → ¬ Mut (some u) → b ≠ x := fun b u q nm z => by subst z; rw [q] at mu; exact nm mu
  refine ⟨fun b u q n _ _ => k b u (hb b n) q, fun b u q n _ _ => ⟨u.slots, k b u (hb b n) q⟩, fun b u q n _ => by rw [upd_ne (hx b n)]; exact n, fun b u q _ => ?_,
    fun b xs q => by rw [upd_ne (hm b _ q fun z => z)]; exact q, fun b u xs q => by rw [upd_ne (hm b _ q fun z => z)]; exact q, fun b ps q => ⟨#[], by rw [upd_ne (hm b _ q fun z => z), q]; simp⟩⟩
  by_cases hbe : b = e
  · subst hbe; exact heo
  · exact ⟨u, k b u hbe q⟩
end

/-! ### the heap without what is tracked -/
def trk (h : Heap) (H : Hp) : List Addr := (List.range h.objs.size).filter fun a => (H a).isSome
def hidT (h : Heap) (H : Hp) : Heap := PySem.W.hideAll h (trk h H)
theorem hidT_size (h : Heap) (H : Hp) : (hidT h H).objs.size = h.objs.size := PySem.W.hideAll_size _ _
theorem hidT_get {h : Heap} {H : Hp} {b : Addr} {o : Obj} (e : h.get? b = some o) (n : H b = none) : (hidT h H).get? b = some o :=
  PySem.W.hideAll_get _ e fun hm => by
    have q : (H b).isSome = true := (List.mem_filter.mp hm).2
    rw [n] at q; simp at q
theorem of_hidT {h : Heap} {H : Hp} {b : Addr} {o : Obj} (e : (hidT h H).get? b = some o) : h.get? b = some o ∧ H b = none := by
  have e' : h.get? b = some o := PySem.W.of_hideAll (trk h H) e
  refine ⟨e', ?_⟩
  cases q : H b with
  | none => rfl
  | some x =>
    have hm : b ∈ trk h H := List.mem_filter.mpr ⟨List.mem_range.mpr (Heap.lt_size e'), by simp [q]⟩
    have z : (hidT h H).get? b = none := PySem.W.hideAll_none (trk h H) hm
    rw [z] at e; cases e

/-! ### OpenK's ledger, filled with every new object but one -/
end L2

namespace L2
open PySem PySem.Spec PyProof.Rows

/-- the module's facts, over the base: the heap at the law's entry without what is tracked there -/
structure Mod (K : PySem.W.Frag) (mg : Str → Option Value) (base : Heap) : Prop where
  kin : K.In base
  glob : base.Ns mainGlobals mg
  blt : ∃ mb, base.Ns builtinsNs mb ∧ ∀ x : Str, x ≠ "__name__" → mb x = bootBuiltins x
  nolimit : base.NoLimit

/-- the context: a def's body (or a comprehension's block) running. base: fixed through the whole law; s₀, H₀: the entry; outer: the frames whose slots others may change (a def's callers); stack: all frames that run;
   ex: iterators that were made ahead of the entry and are walked here (a comprehension's); fn: the names whose cells were made at the entry (a def: all; a comprehension's block: its own); calm: not within an except suite; pn: pins that every state bears; xe: what is wanted of an exception that leaves the code -/
structure Cx where
  prog : Program
  w : World
  K : PySem.W.Frag
  mg : Str → Option Value
  base : Heap
  A : Around
  N : List Str
  s₀ : Shared
  H₀ : Hp
  env : Env
  outer : List Env
  stack : List Env
  ex : List Addr
  fn : Str → Bool
  calm : Bool
  pn : List (Addr × Obj)
  xe : Value → Shared → Prop
/-- the callers' frames -/
def frs (l : List Env) : List Addr := l.filterMap (·.frame)
abbrev Cx.fs (X : Cx) : List Addr := frs X.outer

def Vis (sc : Scope) (x : Str) : Prop := sc.names.lookup x = some .local ∨ sc.names.lookup x = some .cell ∨ sc.names.lookup x = some .free
def Loc (sc : Scope) (x : Str) : Prop := sc.names.lookup x = some .local ∨ sc.names.lookup x = some .cell
def Look (env : Env) (h : Heap) (m : Str → Option Value) (x : Str) (u : Value) : Prop :=
  (env.kindOf x = some .local ∧ m x = some u) ∨ ((env.kindOf x = some .cell ∨ env.kindOf x = some .free) ∧ ∃ c, env.cells.lookup x = some c ∧ h.IsCell c (some u))

structure Cx.Ok (X : Cx) : Prop where
  mod : Mod X.K X.mg X.base
  kind : X.env.scope.kind = .function
  glob : X.env.globals = mainGlobals
  blt : X.env.builtins = builtinsNs
  above : X.s₀.heap.objs.size ≤ X.env.locals
  inj : ∀ x y c, X.env.cells.lookup x = some c → X.env.cells.lookup y = some c → x = y
  has : ∀ x, (X.env.kindOf x = some .cell ∨ X.env.kindOf x = some .free) → ∃ c, X.env.cells.lookup x = some c
  cab : ∀ x c, X.fn x = true → X.env.cells.lookup x = some c → X.s₀.heap.objs.size ≤ c
  hd : X.calm = true → X.A.handled = none
  frames : X.A.frames = some X.stack
  stk : X.stack = X.outer ∨ (X.stack = X.env :: X.outer ∧ X.env.frame = some X.env.locals)
  exf : ∀ b ∈ X.ex, b ≠ X.env.locals ∧ ∀ x c, X.env.cells.lookup x = some c → c ≠ b
  bs : ∀ b o, X.base.get? b = some o → X.s₀.heap.get? b = some o ∧ X.H₀ b = none
  bsz : X.base.objs.size ≤ X.s₀.heap.objs.size
  noex : ∀ b o, X.base.get? b = some o → b ∉ X.ex
  exfs : ∀ b ∈ X.ex, b ∉ X.fs
  funs : X.s₀.heap.FunFrames X.base X.outer
  frf : ∀ b ∈ X.fs, X.H₀ b = none

structure Inv (X : Cx) (pins : List (Addr × Obj)) (σ : List (Option V)) (H : Hp) (s : Shared) : Prop where
  ok : X.Ok
  os : s.os = X.s₀.os
  bare : AllBare s.gens
  base : Un X.fs X.ex X.H₀ H X.s₀.heap s.heap
  loc : ∃ m, s.heap.Ns X.env.locals m ∧ ∀ (i : Nat) (x : Str) (v : V), X.N[i]? = some x → σ[i]? = some (some v) → Vis X.env.scope x → ∃ u, RelV v u ∧ Look X.env s.heap m x u
  cell : ∀ x c, X.env.cells.lookup x = some c → ∃ v, s.heap.IsCell c v
  free : H X.env.locals = none
  freeC : ∀ x c, X.env.cells.lookup x = some c → H c = none
  pin : ∀ p ∈ X.pn ++ pins, s.heap.get? p.1 = some p.2 ∧ H p.1 = none ∧ p.1 ≠ X.env.locals ∧ p.1 ∉ X.fs ∧ ∀ v, p.2.data ≠ .cell v
  hok : HOk X.prog X.w H s.heap
  len : σ.length = X.N.length

section
variable {X : Cx} {pins : List (Addr × Obj)} {σ : List (Option V)} {H H' : Hp} {s : Shared} {h' : Heap}

theorem Cx.Ok.nofr (ok : X.Ok) {b : Addr} {o : Obj} (e : X.base.get? b = some o) : b ∉ X.fs := fun hb => by
  have := (ok.funs.mem hb).1
  rw [e] at this; cases this
theorem Inv.bs (I : Inv X pins σ H s) : ∀ b o, X.base.get? b = some o → s.heap.get? b = some o ∧ H b = none := fun b o e =>
  ⟨I.base.keep b o (I.ok.bs b o e).1 (I.ok.bs b o e).2 (I.ok.nofr e) (I.ok.noex b o e), I.base.free b o (I.ok.bs b o e).1 (I.ok.bs b o e).2 (I.ok.noex b o e)⟩
theorem Inv.bk (I : Inv X pins σ H s) : ∀ b o, X.base.get? b = some o → s.heap.get? b = some o := fun b o e => (I.bs b o e).1
theorem Inv.mod (I : Inv X pins σ H s) : Mod X.K X.mg X.base := I.ok.mod
theorem Inv.kIn (I : Inv X pins σ H s) : X.K.In s.heap := I.ok.mod.kin.keeps I.bk
theorem Inv.lt (I : Inv X pins σ H s) : X.env.locals < s.heap.objs.size := let ⟨_, hn, _⟩ := I.loc; hn.lt
theorem Inv.sz (I : Inv X pins σ H s) : X.s₀.heap.objs.size ≤ s.heap.objs.size := Nat.le_trans I.ok.above (Nat.le_of_lt I.lt)
theorem Inv.nofs (I : Inv X pins σ H s) {a : Addr} (h : s.heap.objs.size ≤ a) : a ∉ X.fs := fun hb => by
  obtain ⟨_, o, ho, _⟩ := I.ok.funs.mem hb
  exact absurd (Nat.lt_of_lt_of_le (Heap.lt_size ho) (Nat.le_trans I.sz h)) (Nat.lt_irrefl _)
theorem Inv.cne (I : Inv X pins σ H s) : ∀ x c, X.env.cells.lookup x = some c → c ≠ X.env.locals := fun x c e z => by
  obtain ⟨v, o, ho, hd⟩ := I.cell x c e
  obtain ⟨m, ⟨o', es, ep, ho', hd', _⟩, _⟩ := I.loc
  rw [z, ho'] at ho; cases ho; rw [hd'] at hd; cases hd
theorem Inv.funs (I : Inv X pins σ H s) : s.heap.FunFrames X.base X.outer := by
  have all : ∀ (l : List Env), (∀ b ∈ frs l, b ∈ X.fs) → X.s₀.heap.FunFrames X.base l → s.heap.FunFrames X.base l := by
    intro l
    induction l with
    | nil => intro _ _; trivial
    | cons env r ih =>
      intro hs hl
      obtain ⟨hk, ⟨L, o, hf, hn, ho, hd⟩, hr⟩ := hl
      have hL : L ∈ X.fs := hs L (by unfold frs; rw [List.filterMap_cons, hf]; exact List.mem_cons_self)
      obtain ⟨sl, e⟩ := I.base.slot L o ho (I.ok.frf L hL) hL fun z => I.ok.exfs L z hL
      exact ⟨hk, ⟨L, _, hf, hn, e, hd⟩, ih (fun b hb => hs b (by unfold frs; rw [List.filterMap_cons, hf]; exact List.mem_cons_of_mem _ hb)) hr⟩
  exact all X.outer (fun _ hb => hb) I.ok.funs

/-- the frames that run, for a call -/
theorem Inv.stack (I : Inv X pins σ H s) : s.heap.FunFrames X.base X.stack := by
  rcases I.ok.stk with e | ⟨e, hf⟩
  · rw [e]; exact I.funs
  · rw [e]
    obtain ⟨m, hn, _⟩ := I.loc
    refine .cons (by rw [I.ok.kind]; decide) hf hn ?_ I.funs
    exact Heap.get?_none_of_le (Nat.le_trans I.ok.bsz I.ok.above)
theorem Inv.stkSub (I : Inv X pins σ H s) : ∀ b ∈ frs X.stack, b ∈ X.env.locals :: X.fs := fun b hb => by
  rcases I.ok.stk with e | ⟨e, hf⟩
  · rw [e] at hb; exact List.mem_cons_of_mem _ hb
  · rw [e] at hb
    unfold frs at hb
    rw [List.filterMap_cons, hf] at hb
    exact hb
theorem Inv.stkFree (I : Inv X pins σ H s) : ∀ b ∈ frs X.stack, H b = none := fun b hb => by
  rcases List.mem_cons.mp (I.stkSub b hb) with e | hb
  · rw [e]; exact I.free
  · obtain ⟨_, o, ho, _⟩ := I.ok.funs.mem hb
    exact I.base.free b o ho (I.ok.frf b hb) fun z => I.ok.exfs b z hb

/-- THE STEP: the untracked objects but the frame and the records at ch are kept (the callers' frames up to slots), the frame's map is kept, the new abstract heap is held -/
theorem Inv.step {g' : Array GenState} {t' : Nat} {d' : Drawn} {ch : List Addr} (I : Inv X pins σ H s)
    (hch : ∀ b ∈ ch, (b ∈ X.ex ∨ X.s₀.heap.objs.size ≤ b) ∧ b ≠ X.env.locals ∧ (∀ x c, X.env.cells.lookup x = some c → c ≠ b) ∧ ∀ p ∈ X.pn ++ pins, p.1 ≠ b)
    (keep : ∀ b o, b ≠ X.env.locals → b ∉ X.fs → b ∉ ch → s.heap.get? b = some o → H b = none → h'.get? b = some o)
    (slot : ∀ b o, b ≠ X.env.locals → b ∈ X.fs → b ∉ ch → s.heap.get? b = some o → H b = none → ∃ sl, h'.get? b = some { o with slots := sl }) (free : ∀ b o, b ∉ ch → s.heap.get? b = some o → H b = none → H' b = none)
    (there : ∀ b o, b ∉ ch → s.heap.get? b = some o → ∃ o', h'.get? b = some o')
    (tups : ∀ b xs, H b = some (.tup xs) → H' b = some (.tup xs)) (frzs : ∀ b o u, H b = some (.frz o u) → H' b = some (.frz o u)) (tbls : ∀ b ps, H b = some (.tbl ps) → ∃ more, H' b = some (.tbl (ps ++ more)))
    (ns : ∀ m, s.heap.Ns X.env.locals m → h'.Ns X.env.locals m) (hok : HOk X.prog X.w H' h') (hg : AllBare g') :
    Inv X pins σ H' { s with heap := h', gens := g', drawn := d', toks := t' } := by
  have neL : ∀ b o, X.s₀.heap.get? b = some o → b ≠ X.env.locals := fun b o e => Nat.ne_of_lt (Nat.lt_of_lt_of_le (Heap.lt_size e) I.ok.above)
  have neC : ∀ b o, X.s₀.heap.get? b = some o → b ∉ X.ex → b ∉ ch := fun b o e hx hb => by
    rcases (hch b hb).1 with z | z
    · exact hx z
    · exact absurd (Nat.lt_of_lt_of_le (Heap.lt_size e) z) (Nat.lt_irrefl _)
  have cellK : ∀ x c, X.env.cells.lookup x = some c → ∀ v, s.heap.IsCell c v → h'.IsCell c v := fun x c e v ⟨o, ho, hd⟩ => by
    have nch : c ∉ ch := fun z => (hch c z).2.2.1 x c e rfl
    by_cases hc : c ∈ X.fs
    · obtain ⟨sl, q⟩ := slot c o (I.cne x c e) hc nch ho (I.freeC x c e)
      exact ⟨_, q, hd⟩
    · exact ⟨o, keep c o (I.cne x c e) hc nch ho (I.freeC x c e), hd⟩
  refine ⟨I.ok, I.os, hg, ⟨fun b o e n hb hx => ?_, fun b o e n hb hx => ?_, fun b o e n hx => ?_, fun b o e hx => ?_, fun b xs e => tups b xs (I.base.tups b xs e), fun b o xs e => frzs b o xs (I.base.frzs b o xs e), fun b ps e => ?_⟩, ?_, fun x c e => ?_, ?_, fun x c e => ?_, fun p hp => ?_, hok, I.len⟩
  · exact keep b o (neL b o e) hb (neC b o e hx) (I.base.keep b o e n hb hx) (I.base.free b o e n hx)
  · obtain ⟨sl, e1⟩ := I.base.slot b o e n hb hx
    obtain ⟨sl', e2⟩ := slot b _ (neL b o e) hb (neC b o e hx) e1 (I.base.free b o e n hx)
    exact ⟨sl', e2⟩
  · obtain ⟨o', e1⟩ := I.base.there b o e hx
    exact free b o' (neC b o e hx) e1 (I.base.free b o e n hx)
  · obtain ⟨o', e1⟩ := I.base.there b o e hx
    exact there b o' (neC b o e hx) e1
  · obtain ⟨m1, e1⟩ := I.base.tbls b ps e
    obtain ⟨m2, e2⟩ := tbls b _ e1
    exact ⟨m1 ++ m2, by rw [e2, Array.append_assoc]⟩
  · obtain ⟨m, hn, hl⟩ := I.loc
    refine ⟨m, ns m hn, fun i x v e1 e2 e3 => ?_⟩
    obtain ⟨u, r, l⟩ := hl i x v e1 e2 e3
    refine ⟨u, r, ?_⟩
    rcases l with l | ⟨k, c, e, z⟩
    · exact .inl l
    · exact .inr ⟨k, c, e, cellK x c e _ z⟩
  · obtain ⟨v, z⟩ := I.cell x c e
    exact ⟨v, cellK x c e v z⟩
  · obtain ⟨m, ⟨o, _, _, ho, _⟩, _⟩ := I.loc
    exact free _ o (fun z => (hch _ z).2.1 rfl) ho I.free
  · obtain ⟨v, o, ho, hd⟩ := I.cell x c e
    exact free c o (fun z => (hch c z).2.2.1 x c e rfl) ho (I.freeC x c e)
  · obtain ⟨e, n, ne, nf, d⟩ := I.pin p hp
    have nch : p.1 ∉ ch := fun z => (hch p.1 z).2.2.2 p hp rfl
    exact ⟨keep p.1 p.2 ne nf nch e n, free p.1 p.2 nch e n, ne, nf, d⟩
/-- .. where the frame's own object is kept too -/
theorem Inv.un {t' : Nat} (I : Inv X pins σ H s) (u : Un X.fs [] H H' s.heap h') (hok : HOk X.prog X.w H' h') : Inv X pins σ H' { s with heap := h', toks := t' } := by
  obtain ⟨m, ⟨o, es, ep, ho, r⟩, _⟩ := id I.loc
  obtain ⟨sl, hL⟩ := u.any ho I.free (by simp)
  exact I.step (g' := s.gens) (d' := s.drawn) (ch := []) (fun _ z => nomatch z) (fun b o _ hb _ e n => u.keep b o e n hb (by simp)) (fun b o _ hb _ e n => u.slot b o e n hb (by simp)) (fun b o _ e n => u.free b o e n (by simp)) (fun b o _ e => u.there b o e (by simp)) u.tups u.frzs u.tbls (fun m' hm => by
    obtain ⟨o', es', ep', ho', r'⟩ := hm
    rw [ho] at ho'; cases ho'
    exact ⟨_, es', ep', hL, r'⟩) hok I.bare
/-- behind a call (or a comprehension's block): the slots of this frame may have changed too, the records at ch may have turned -/
theorem Inv.call {g' : Array GenState} {t' : Nat} {d' : Drawn} {ch : List Addr} (I : Inv X pins σ H s) (u : Un (frs X.stack) ch H H' s.heap h') (hok : HOk X.prog X.w H' h') (hg : AllBare g')
    (hch : ∀ b ∈ ch, (b ∈ X.ex ∨ X.s₀.heap.objs.size ≤ b) ∧ b ≠ X.env.locals ∧ (∀ x c, X.env.cells.lookup x = some c → c ≠ b) ∧ ∀ p ∈ X.pn ++ pins, p.1 ≠ b) :
    Inv X pins σ H' { s with heap := h', gens := g', drawn := d', toks := t' } := by
  obtain ⟨m, ⟨o, es, ep, ho, r⟩, _⟩ := id I.loc
  obtain ⟨sl, hL⟩ := u.any ho I.free fun z => (hch _ z).2.1 rfl
  exact I.step (ch := ch) hch (fun b o hL hb hc e n => u.keep b o e n (fun z => (List.mem_cons.mp (I.stkSub b z)).elim hL hb) hc) (fun b o _ _ hc e n => u.any e n hc) (fun b o hc e n => u.free b o e n hc) (fun b o hc e => u.there b o e hc) u.tups u.frzs u.tbls (fun m' hm => by
    obtain ⟨o', es', ep', ho', r'⟩ := hm
    rw [ho] at ho'; cases ho'
    exact ⟨_, es', ep', hL, r'⟩) hok hg
/-- an untracked record of ours (an iterator) has turned -/
theorem Inv.turned {t' : Nat} {it : Addr} (I : Inv X pins σ H s) (k : ∀ b o, b ≠ it → s.heap.get? b = some o → h'.get? b = some o) (hn : H it = none) (hL : it ≠ X.env.locals)
    (h1 : it ∈ X.ex ∨ X.s₀.heap.objs.size ≤ it) (h2 : ∀ x c, X.env.cells.lookup x = some c → c ≠ it) (h3 : ∀ p ∈ X.pn ++ pins, p.1 ≠ it) : Inv X pins σ H { s with heap := h', toks := t' } := by
  have nit : ∀ b u, H b = some u → b ≠ it := fun b u e z => by rw [z, hn] at e; cases e
  refine I.step (g' := s.gens) (d' := s.drawn) (ch := [it]) (fun b hb => ?_) (fun b o _ _ hc e _ => k b o (fun z => hc (by simp [z])) e) (fun b o _ _ hc e _ => ⟨o.slots, k b o (fun z => hc (by simp [z])) e⟩) (fun _ _ _ _ n => n)
    (fun b o hc e => ⟨o, k b o (fun z => hc (by simp [z])) e⟩) (fun _ _ e => e) (fun _ _ _ e => e) (fun b ps e => ⟨#[], by rw [e]; simp⟩) (fun m hm => ?_) (fun b u e => ?_) I.bare
  · have e : b = it := by simpa using hb
    subst e
    exact ⟨h1, hL, h2, h3⟩
  · obtain ⟨o, es, ep, ho, r⟩ := hm
    exact ⟨o, es, ep, k _ o (Ne.symm hL) ho, r⟩
  · refine (I.hok b u e).stay (fun c v hc q => k c v ?_ q) (fun _ q => q) fun _ _ q => q
    rcases hc with z | z
    · rw [z]; exact nit b u e
    · exact nit c _ z
theorem Inv.tok (I : Inv X pins σ H s) (t : Nat) : Inv X pins σ H { s with toks := t } := I.un (h' := s.heap) (t' := t) Un.refl I.hok
/-- all objects kept -/
theorem Inv.kept {t' : Nat} (I : Inv X pins σ H s) (k : ∀ b u, s.heap.get? b = some u → h'.get? b = some u) : Inv X pins σ H { s with heap := h', toks := t' } := I.un (Un.kept k) (I.hok.kept k)
/-- a new object laid and tracked -/
theorem Inv.laid {a : Addr} {o : HO} {t' : Nat} (I : Inv X pins σ H s) (k : ∀ b u, s.heap.get? b = some u → h'.get? b = some u) (hp : s.heap.objs.size ≤ a) (new : ObjOk X.prog X.w (upd H a o) h' a o) :
    Inv X pins σ (upd H a o) { s with heap := h', toks := t' } := I.un (Un.laid k hp (I.hok.fresh hp)) (I.hok.laid k hp new)
/-- an object written -/
theorem Inv.write {x e : Addr} {o : HO} {t' : Nat} (I : Inv X pins σ H s) (mu : Mut (H x)) (he : e = x ∨ H e = some (.own x)) (k : ∀ b u, b ≠ e → s.heap.get? b = some u → h'.get? b = some u) (heo : ∃ u, h'.get? e = some u)
    (new : ObjOk X.prog X.w (upd H x o) h' x o) : Inv X pins σ (upd H x o) { s with heap := h', toks := t' } := I.un (Un.write mu he k heo) (I.hok.write mu he k heo new)
theorem Inv.pins_of {pins' : List (Addr × Obj)} (I : Inv X pins σ H s) (h : ∀ p ∈ pins', s.heap.get? p.1 = some p.2 ∧ H p.1 = none ∧ p.1 ≠ X.env.locals ∧ p.1 ∉ X.fs ∧ ∀ v, p.2.data ≠ .cell v) : Inv X pins' σ H s :=
  ⟨I.ok, I.os, I.bare, I.base, I.loc, I.cell, I.free, I.freeC, fun p hp => (List.mem_append.mp hp).elim (fun z => I.pin p (List.mem_append_left _ z)) (h p), I.hok, I.len⟩

theorem nodup_ix {N : List Str} (hN : N.Nodup) {i j : Nat} {x : Str} (a : N[i]? = some x) (b : N[j]? = some x) : i = j := by
  obtain ⟨h1, e1⟩ := List.getElem?_eq_some_iff.mp a
  obtain ⟨h2, e2⟩ := List.getElem?_eq_some_iff.mp b
  exact (List.getElem_inj hN).mp (e1.trans e2.symm)

/-- a name is stored; what changed -/
theorem store_ok2 {M : Model} {A : Around} {E : Value → Shared → Prop} {i : Nat} {x : Str} {v : V} {u : Value} {Q : Unit → Shared → Prop} (I : Inv X pins σ H s) (hN : X.N.Nodup) (hi : X.N[i]? = some x) (hx : Loc X.env.scope x) (r : RelV v u)
    (h : ∀ s', Inv X pins (σ.set i (some v)) H s' → (∃ a, Heap.SameBut a s.heap s'.heap ∧ (a = X.env.locals ∨ X.env.cells.lookup x = some a)) → Q () s') (hf : X.fn x = true ∨ X.env.scope.names.lookup x = some .local := by first | exact .inl rfl | exact .inr rfl | assumption) : wpAny M A (storeName X.env x u) Q E s := by
  obtain ⟨m, hn, hl⟩ := id I.loc
  have hcls : (X.env.scope.kind == .class || (X.env.scope.kind == .module && X.env.locals != X.env.globals)) = false := by rw [I.ok.kind]; rfl
  have hiσ : i < σ.length := by rw [I.len]; exact (List.getElem?_eq_some_iff.mp hi).1
  have cne := I.cne
  have tracked : ∀ {a : Addr} {h' : Heap}, (∃ o, s.heap.get? a = some o ∧ H a = none) → Heap.SameBut a s.heap h' → HOk X.prog X.w H h' := fun {a h'} ha hs b ob e => by
    obtain ⟨_, _, hfree⟩ := ha
    refine (I.hok b ob e).stay (fun c w' hc q => (hs.2 c ?_).trans q) (fun _ q => q) fun _ _ q => q
    rintro rfl
    rcases hc with rfl | hc
    · rw [hfree] at e; cases e
    · rw [hfree] at hc; cases hc
  rcases hx with hk | hk
  · refine wpAny_storeName_local hk hn (fun h' hn' hs => ?_) hcls
    obtain ⟨oL, _, _, hoL, _⟩ := id hn
    refine h _ ⟨I.ok, I.os, I.bare, ⟨fun b o e n hb hx => ?_, fun b o e n hb hx => ?_, I.base.free, fun b o e hx => ?_, I.base.tups, I.base.frzs, I.base.tbls⟩, ⟨_, hn', fun j y v' e1 e2 e3 => ?_⟩, fun y c e => ?_, I.free, I.freeC, fun p hp => ?_, tracked ⟨oL, hoL, I.free⟩ hs, by simpa using I.len⟩ ⟨_, hs, .inl rfl⟩
    · exact (hs.2 b (Nat.ne_of_lt (Nat.lt_of_lt_of_le (Heap.lt_size e) I.ok.above))).trans (I.base.keep b o e n hb hx)
    · obtain ⟨sl, e1⟩ := I.base.slot b o e n hb hx
      exact ⟨sl, (hs.2 b (Nat.ne_of_lt (Nat.lt_of_lt_of_le (Heap.lt_size e) I.ok.above))).trans e1⟩
    · obtain ⟨o', e1⟩ := I.base.there b o e hx
      exact ⟨o', (hs.2 b (Nat.ne_of_lt (Nat.lt_of_lt_of_le (Heap.lt_size e) I.ok.above))).trans e1⟩
    · by_cases hj : j = i
      · subst hj
        rw [hi] at e1; cases e1
        rw [List.getElem?_set_self hiσ] at e2
        cases e2
        exact ⟨u, r, .inl ⟨hk, by simp⟩⟩
      · rw [List.getElem?_set_ne (Ne.symm hj)] at e2
        obtain ⟨u', r', q⟩ := hl j y v' e1 e2 e3
        refine ⟨u', r', ?_⟩
        rcases q with ⟨k, e⟩ | ⟨k, c, e, z⟩
        · refine .inl ⟨k, ?_⟩
          have : y ≠ x := fun e => hj (nodup_ix hN e1 (e ▸ hi))
          simp [this, e]
        · exact .inr ⟨k, c, e, z.sameBut hs (cne y c e)⟩
    · obtain ⟨w', z⟩ := I.cell y c e
      exact ⟨w', z.sameBut hs (cne y c e)⟩
    · obtain ⟨e, n, ne, nf, d⟩ := I.pin p hp
      exact ⟨(hs.2 p.1 ne).trans e, n, ne, nf, d⟩
  · have hfn : X.fn x = true := by
      rcases hf with z | z
      · exact z
      · rw [z] at hk; cases hk
    obtain ⟨c, hc⟩ := I.ok.has x (.inl hk)
    obtain ⟨w', z⟩ := I.cell x c hc
    refine wpAny_storeName_cell I.ok.kind hk hc z (fun h' hc' hs => ?_)
    obtain ⟨oc, hoc, hocd⟩ := id z
    refine h { s with heap := h' } ⟨I.ok, I.os, I.bare, ⟨fun b o e n hb hx => ?_, fun b o e n hb hx => ?_, I.base.free, fun b o e hx => ?_, I.base.tups, I.base.frzs, I.base.tbls⟩, ⟨m, hn.sameBut hs (Ne.symm (cne x c hc)), fun j y v' e1 e2 e3 => ?_⟩, fun y c' e => ?_, I.free, I.freeC, fun p hp => ?_, tracked ⟨oc, hoc, I.freeC x c hc⟩ hs, by simpa using I.len⟩ ⟨c, hs, .inr hc⟩
    · exact (hs.2 b (Nat.ne_of_lt (Nat.lt_of_lt_of_le (Heap.lt_size e) (I.ok.cab x c hfn hc)))).trans (I.base.keep b o e n hb hx)
    · obtain ⟨sl, e1⟩ := I.base.slot b o e n hb hx
      exact ⟨sl, (hs.2 b (Nat.ne_of_lt (Nat.lt_of_lt_of_le (Heap.lt_size e) (I.ok.cab x c hfn hc)))).trans e1⟩
    · obtain ⟨o', e1⟩ := I.base.there b o e hx
      exact ⟨o', (hs.2 b (Nat.ne_of_lt (Nat.lt_of_lt_of_le (Heap.lt_size e) (I.ok.cab x c hfn hc)))).trans e1⟩
    · by_cases hj : j = i
      · subst hj
        rw [hi] at e1; cases e1
        rw [List.getElem?_set_self hiσ] at e2
        cases e2
        exact ⟨u, r, .inr ⟨.inl hk, c, hc, hc'⟩⟩
      · rw [List.getElem?_set_ne (Ne.symm hj)] at e2
        obtain ⟨u', r', q⟩ := hl j y v' e1 e2 e3
        refine ⟨u', r', ?_⟩
        rcases q with q | ⟨k, c', e, z'⟩
        · exact .inl q
        · refine .inr ⟨k, c', e, z'.sameBut hs ?_⟩
          rintro rfl
          exact hj (nodup_ix hN e1 (I.ok.inj _ _ _ e hc ▸ hi))
    · by_cases hcc : c' = c
      · subst hcc; exact ⟨_, hc'⟩
      · obtain ⟨w2, z2⟩ := I.cell y c' e
        exact ⟨w2, z2.sameBut hs hcc⟩
    · obtain ⟨e, n, ne, nf, d⟩ := I.pin p hp
      refine ⟨(hs.2 p.1 ?_).trans e, n, ne, nf, d⟩
      intro q
      rw [q, hoc] at e
      have q' : oc = p.2 := Option.some.inj e
      exact d w' (by rw [← q']; exact hocd)
theorem store_ok {M : Model} {A : Around} {E : Value → Shared → Prop} {i : Nat} {x : Str} {v : V} {u : Value} {Q : Unit → Shared → Prop} (I : Inv X pins σ H s) (hN : X.N.Nodup) (hi : X.N[i]? = some x) (hx : Loc X.env.scope x) (r : RelV v u)
    (h : ∀ s', Inv X pins (σ.set i (some v)) H s' → Q () s') (hf : X.fn x = true ∨ X.env.scope.names.lookup x = some .local := by first | exact .inl rfl | exact .inr rfl | assumption) : wpAny M A (storeName X.env x u) Q E s :=
  store_ok2 I hN hi hx r (fun s' I' _ => h s' I') hf
/-- behind a call or a block, the state as it is -/
theorem Inv.call' {s' : Shared} {ch : List Addr} (I : Inv X pins σ H s) (ho : s'.os = s.os) (u : Un (frs X.stack) ch H H' s.heap s'.heap) (hok : HOk X.prog X.w H' s'.heap) (hg : AllBare s'.gens)
    (hch : ∀ b ∈ ch, (b ∈ X.ex ∨ X.s₀.heap.objs.size ≤ b) ∧ b ≠ X.env.locals ∧ (∀ x c, X.env.cells.lookup x = some c → c ≠ b) ∧ ∀ p ∈ X.pn ++ pins, p.1 ≠ b) : Inv X pins σ H' s' := by
  obtain ⟨h', g', d', t', o'⟩ := s'
  have e : o' = s.os := ho
  subst e
  exact I.call (g' := g') (t' := t') (d' := d') u hok hg hch
end

/-! ### the judgements -/
/-- an exception: its class, its own dict's address (where it has one), the abstract heap behind it -/
abbrev XK := Value → Option Addr → Hp → Prop
abbrev St := List (Option V)
abbrev VK := V → Hp → Prop
/-- an expression's reading; a test's; an argument list's -/
abbrev TE := St → Hp → VK → Prop
abbrev TT := St → Hp → (Bool → Hp → Prop) → Prop
abbrev TA := St → Hp → (List V → Hp → Prop) → Prop
/-- what is wanted behind a statement -/
structure Ends where
  nx : St → Hp → Prop
  rt : VK
  bk : St → Hp → Prop := fun _ _ => False
  ct : St → Hp → Prop := fun _ _ => False
abbrev TS := Ends → St → Hp → Prop

def EP (X : Cx) (pins : List (Addr × Obj)) (σ : St) (Q : VK) (u : Value) (s' : Shared) : Prop := ∃ v H', Inv X pins σ H' s' ∧ RelV v u ∧ Q v H'
def TP (X : Cx) (pins : List (Addr × Obj)) (σ : St) (Q : Bool → Hp → Prop) (b : Bool) (s' : Shared) : Prop := ∃ H', Inv X pins σ H' s' ∧ Q b H'
def AP (X : Cx) (pins : List (Addr × Obj)) (σ : St) (Q : List V → Hp → Prop) (us : List Value) (s' : Shared) : Prop := ∃ vs H', Inv X pins σ H' s' ∧ Vals vs us ∧ Q vs H'
def SP (X : Cx) (pins : List (Addr × Obj)) (D : Ends) (f : Flow) (s' : Shared) : Prop :=
  match f with
  | .next => ∃ σ' H', Inv X pins σ' H' s' ∧ D.nx σ' H'
  | .brk => ∃ σ' H', Inv X pins σ' H' s' ∧ D.bk σ' H'
  | .cont => ∃ σ' H', Inv X pins σ' H' s' ∧ D.ct σ' H'
  | .ret u => ∃ v σ' H', Inv X pins σ' H' s' ∧ RelV v u ∧ D.rt v H'

def PE (X : Cx) (e : Expr) (t : TE) : Prop :=
  ∀ (pins : List (Addr × Obj)) (s : Shared) (σ : St) (H : Hp) (Q : VK), Inv X pins σ H s → t σ H Q → wpAny (model X.prog X.w) X.A (eval e X.env) (EP X pins σ Q) X.xe s
def PT (X : Cx) (e : Expr) (t : TT) : Prop :=
  ∀ (pins : List (Addr × Obj)) (s : Shared) (σ : St) (H : Hp) (Q : Bool → Hp → Prop), Inv X pins σ H s → t σ H Q → wpAny (model X.prog X.w) X.A (isTrue e X.env (eval e X.env)) (TP X pins σ Q) X.xe s
/-- a test whatever its 'whole' is (and, or) -/
def PW (X : Cx) (e : Expr) (t : TT) : Prop :=
  ∀ (whole : Sem Value) (pins : List (Addr × Obj)) (s : Shared) (σ : St) (H : Hp) (Q : Bool → Hp → Prop), Inv X pins σ H s → t σ H Q → wpAny (model X.prog X.w) X.A (isTrue e X.env whole) (TP X pins σ Q) X.xe s
theorem PW.pt {X : Cx} {e : Expr} {t : TT} (h : PW X e t) : PT X e t := h _
/-- an argument list (no star), from the left -/
def PA (X : Cx) (es : List Expr) (t : TA) : Prop :=
  ∀ (pos : Pos) (pins : List (Addr × Obj)) (s : Shared) (σ : St) (H : Hp) (Q : List V → Hp → Prop), Inv X pins σ H s → t σ H Q → wpAny (model X.prog X.w) X.A (spliced (backTo pos (starEach es X.env))) (AP X pins σ Q) X.xe s
def PS (X : Cx) (st : Stmt) (t : TS) : Prop :=
  ∀ (pins : List (Addr × Obj)) (s : Shared) (σ : St) (H : Hp) (D : Ends), Inv X pins σ H s → t D σ H → wpAny (model X.prog X.w) X.A (exec st X.env) (SP X pins D) X.xe s
def PSs (X : Cx) (st : List Stmt) (t : TS) : Prop :=
  ∀ (pins : List (Addr × Obj)) (s : Shared) (σ : St) (H : Hp) (D : Ends), Inv X pins σ H s → t D σ H → wpAny (model X.prog X.w) X.A (execs st X.env) (SP X pins D) X.xe s
/-- weaken the end -/
theorem thn {α : Type} {t : Sem α} {Q Q' : α → Shared → Prop} {M : Model} {A : Around} {E : Value → Shared → Prop} {s : Shared} (h : wpAny M A t Q E s) (hQ : ∀ a s, Q a s → Q' a s) : wpAny M A t Q' E s := wpAny_mono h hQ fun _ _ x => x
end L2

namespace L2
open PySem PySem.Spec PyProof.Rows
section
variable {X : Cx}

/-! ### names and constants -/
def tVar (i : Nat) : TE := fun σ H Q => ∃ v, σ[i]? = some (some v) ∧ Q v H
def tC (v : V) : TE := fun _ H Q => Q v H
theorem pe_var {i : Nat} {x : Str} {pos : Pos} (hN : X.N[i]? = some x) (hv : Vis X.env.scope x) (hd : (x == ("__debug__" : Str)) = false := by decide) (hcd : (x == ("__classdict__" : Str)) = false := by decide) : PE X (.Name x pos) (tVar i) := by
  intro pins s σ H Q I h
  obtain ⟨v, e, h⟩ := h
  obtain ⟨m, hn, hl⟩ := I.loc
  obtain ⟨u, r, l⟩ := hl i x v hN e hv
  have fin : EP X pins σ Q u s := ⟨v, H, I, r, h⟩
  rcases l with ⟨hk, hm⟩ | ⟨hk, c, hc, hcell⟩
  · exact wpAny_Name (wpAny_loadName_local I.ok.kind hk hn hm fin) hd
  · rcases hk with hk | hk
    · exact wpAny_Name (wpAny_loadName_cell I.ok.kind hk hc hcell fin) hd
    · exact wpAny_Name (wpAny_loadName_free I.ok.kind hk hc hcell fin hcd) hd
theorem pe_int {i j pos} : PE X (.Constant (.int i) j pos) (tC (.int i)) := fun _ _ _ H _ I h => wpAny_Constant_int ⟨.int i, H, I.tok _, ⟨_, rfl⟩, h⟩
theorem pe_bl {b j pos} : PE X (.Constant (.bool b) j pos) (tC (.bl b)) := fun _ _ _ H _ I h => Constant_bool ⟨.bl b, H, I, rfl, h⟩
theorem pe_non {j pos} : PE X (.Constant .none j pos) (tC .non) := fun _ _ _ H _ I h => Constant_none ⟨.non, H, I, rfl, h⟩
theorem pe_str {x j pos} : PE X (.Constant (.str x) j pos) (tC (.str x)) := fun _ _ _ H _ I h => Calls.Constant_str ⟨.str x, H, I.tok _, ⟨_, rfl⟩, h⟩

/-- a global name of the def -/
def Gl (X : Cx) (x : Str) : Prop := X.env.kindOf x = some .globalImplicit
theorem ld_glob {E : Value → Shared → Prop} {pins : List (Addr × Obj)} {s : Shared} {σ : St} {H : Hp} {x : Str} {u : Value} {pos : Pos} {Q : Value → Shared → Prop} (I : Inv X pins σ H s) (hg : Gl X x) (hm : X.mg x = some u) (h : Q u s)
    (hd : (x == ("__debug__" : Str)) = false := by decide) : wpAny (model X.prog X.w) X.A (eval (.Name x pos) X.env) Q E s :=
  Calls.Name_function_global I.ok.kind hg (Calls.loadGlobal_global (by rw [I.ok.glob]; exact I.mod.glob.keeps I.bk) hm h) hd
theorem ld_blt {E : Value → Shared → Prop} {pins : List (Addr × Obj)} {s : Shared} {σ : St} {H : Hp} {x : Str} {u : Value} {pos : Pos} {Q : Value → Shared → Prop} (I : Inv X pins σ H s) (hg : Gl X x) (hm : X.mg x = none) (hv : bootBuiltins x = some u) (h : Q u s)
    (hn : x ≠ "__name__" := by decide) (hd : (x == ("__debug__" : Str)) = false := by decide) : wpAny (model X.prog X.w) X.A (eval (.Name x pos) X.env) Q E s := by
  obtain ⟨mb, h1, h2⟩ := I.mod.blt
  exact Calls.Name_function_global I.ok.kind hg (Calls.loadGlobal_builtin (by rw [I.ok.glob]; exact I.mod.glob.keeps I.bk) hm (by rw [I.ok.blt]; exact h1.keeps I.bk) ((h2 x hn).trans hv) h) hd
/-- a module's constant, a class, a function, as a value -/
theorem pe_glob {x : Str} {v : V} {u : Value} {pos : Pos} (hg : Gl X x) (hm : X.mg x = some u) (r : RelV v u) (hd : (x == ("__debug__" : Str)) = false := by decide) : PE X (.Name x pos) (tC v) :=
  fun _ _ _ H _ I h => ld_glob I hg hm ⟨v, H, I, r, h⟩ hd
theorem pe_bltn {x : Str} {v : V} {u : Value} {pos : Pos} (hg : Gl X x) (hm : X.mg x = none) (hv : bootBuiltins x = some u) (r : RelV v u) (hn : x ≠ "__name__" := by decide) (hd : (x == ("__debug__" : Str)) = false := by decide) : PE X (.Name x pos) (tC v) :=
  fun _ _ _ H _ I h => ld_blt I hg hm hv ⟨v, H, I, r, h⟩ hn hd

/-! ### arithmetic -/
variable {a b : Expr} {ta tb : TE} {pos : Pos}
/-! ### comparisons -/
/-- a comparison as a value, as a test -/
def tB (t : TE) : TT := fun σ H Q => t σ H fun x H1 => ∃ c, x = .bl c ∧ Q c H1
/-- an expression whose value is a bool, as a test -/
theorem pt_val {e : Expr} {t : TE} (h : PE X e t) (he : ∀ whole, isTrue e X.env whole = (do let v ← whole; standAt e.pos; holding [v] (truthy v)) := by intro _; rfl) : PT X e (tB t) := by
  intro pins s σ H Q I hw
  refine isTrue_plain (thn (h pins s σ H _ I hw) fun v s1 ⟨x, H1, I1, r1, q1⟩ => ?_) (he _)
  obtain ⟨d, rfl, q⟩ := q1
  cases r1
  exact wpAny_truthy_bool ⟨H1, I1, q⟩

/-! ### and, or, not -/
variable {tA tB' : TT} {rest : List Expr}
def tAnd (t u : TT) : TT := fun σ H Q => t σ H fun c H1 => if c = true then u σ H1 Q else Q false H1
def tOr (t u : TT) : TT := fun σ H Q => t σ H fun c H1 => if c = true then Q true H1 else u σ H1 Q
def tNot (t : TT) : TT := fun σ H Q => t σ H fun c H1 => Q (!c) H1
theorem pw_and1 (ha : PT X a tA) : PW X (.BoolOp .And [a] pos) tA := by
  intro wh pins s σ H Q I h
  refine isTrue_and (thn (ha pins s σ H Q I h) fun c s1 e => ?_)
  cases c with
  | true => exact isTrue_and_nil e
  | false => exact e
theorem pw_or1 (ha : PT X a tA) : PW X (.BoolOp .Or [a] pos) tA := by
  intro wh pins s σ H Q I h
  refine isTrue_or (thn (ha pins s σ H Q I h) fun c s1 e => ?_)
  cases c with
  | false => exact isTrue_or_nil e
  | true => exact e
theorem pw_and (ha : PT X a tA) (hb : PW X (.BoolOp .And (b :: rest) pos) tB') : PW X (.BoolOp .And (a :: b :: rest) pos) (tAnd tA tB') := by
  intro wh pins s σ H Q I h
  refine isTrue_and (thn (ha pins s σ H _ I h) fun c s1 ⟨H1, I1, q1⟩ => ?_)
  cases c with
  | true => exact hb wh pins s1 σ H1 Q I1 q1
  | false => exact ⟨H1, I1, q1⟩
theorem pw_or (ha : PT X a tA) (hb : PW X (.BoolOp .Or (b :: rest) pos) tB') : PW X (.BoolOp .Or (a :: b :: rest) pos) (tOr tA tB') := by
  intro wh pins s σ H Q I h
  refine isTrue_or (thn (ha pins s σ H _ I h) fun c s1 ⟨H1, I1, q1⟩ => ?_)
  cases c with
  | true => exact ⟨H1, I1, q1⟩
  | false => exact hb wh pins s1 σ H1 Q I1 q1
theorem pt_not (ha : PT X a tA) : PT X (.UnaryOp .Not a pos) (tNot tA) := by
  intro pins s σ H Q I h
  exact isTrue_not (ha pins s σ H (fun c H1 => Q (!c) H1) I h)
/-- .. as values (bools) -/
def tAndV (ta tb : TE) : TE := fun σ H Q => ta σ H fun x H1 => ∃ c, x = .bl c ∧ if c = true then tb σ H1 Q else Q (.bl false) H1
def tOrV (ta tb : TE) : TE := fun σ H Q => ta σ H fun x H1 => ∃ c, x = .bl c ∧ if c = true then Q (.bl true) H1 else tb σ H1 Q
theorem pe_one {op} {t : TE} (h : PE X a t) : PE X (.BoolOp op [a] pos) t := fun pins s σ H Q I hw => BoolOp_one (h pins s σ H Q I hw)
theorem pe_and (ha : PE X a ta) (hb : PE X (.BoolOp .And (b :: rest) pos) tb) : PE X (.BoolOp .And (a :: b :: rest) pos) (tAndV ta tb) := by
  intro pins s σ H Q I h
  refine BoolOp_and (thn (ha pins s σ H _ I h) fun v s1 ⟨x, H1, I1, r1, q1⟩ => ?_)
  obtain ⟨c, rfl, q1⟩ := q1
  cases r1
  refine wpAny_truthy_bool ?_
  cases c with
  | true => exact hb pins s1 σ H1 Q I1 q1
  | false => exact ⟨.bl false, H1, I1, rfl, q1⟩
theorem pe_or (ha : PE X a ta) (hb : PE X (.BoolOp .Or (b :: rest) pos) tb) : PE X (.BoolOp .Or (a :: b :: rest) pos) (tOrV ta tb) := by
  intro pins s σ H Q I h
  refine BoolOp_or (thn (ha pins s σ H _ I h) fun v s1 ⟨x, H1, I1, r1, q1⟩ => ?_)
  obtain ⟨c, rfl, q1⟩ := q1
  cases r1
  refine wpAny_truthy_bool ?_
  cases c with
  | false => exact hb pins s1 σ H1 Q I1 q1
  | true => exact ⟨.bl true, H1, I1, rfl, q1⟩
end
end L2

namespace L2
open PySem PySem.Spec PyProof.Rows

/-! ### a list, a tuple that is read: tracked, frozen, or an object of the module -/
def SqL (K : PySem.W.Frag) (H : Hp) (a : Addr) (xs : List V) : Prop :=
  Rd H a (.lst xs) ∨
    ∃ (o : Obj) (its : Array Value) (n : Nat), K.lookup a = some o ∧ o.cls = .type "list" ∧ o.dict = none ∧ o.data = .seq its n ∧ its.size ≤ sizeLine ∧ Vals xs its.toList
def SqT (K : PySem.W.Frag) (H : Hp) (a : Addr) (xs : List V) : Prop :=
  Rd H a (.tup xs) ∨
    ∃ (o : Obj) (its : Array Value) (n : Nat), K.lookup a = some o ∧ o.cls = .type "tuple" ∧ o.data = .seq its n ∧ its.size ≤ sizeLine ∧ Vals xs its.toList
def absV : Value → Option V
  | .none => some .non
  | .bool b => some (.bl b)
  | .int i _ => some (.int i)
  | .str x _ => some (.str x)
  | .bytes b _ => some (.byt b)
  | .float b _ => some (.flt b)
  | .ref a => some (.ref a)
  | .type n => some (.ty n)
  | _ => none
theorem RelV.abs {x : V} {u : Value} (r : RelV x u) : absV u = some x := by
  cases x with
  | non => cases r; rfl
  | bl _ => cases r; rfl
  | int _ => obtain ⟨t, rfl⟩ := r; rfl
  | str _ => obtain ⟨t, rfl⟩ := r; rfl
  | byt _ => obtain ⟨t, rfl⟩ := r; rfl
  | flt _ => obtain ⟨t, rfl⟩ := r; rfl
  | ref _ => cases r; rfl
  | ty _ => cases r; rfl
theorem RelV.inj {x y : V} {u : Value} (r : RelV x u) (q : RelV y u) : x = y := Option.some.inj (r.abs.symm.trans q.abs)
theorem Vals.inj : ∀ {xs ys : List V} {us : List Value}, Vals xs us → Vals ys us → xs = ys
  | _, _, _, .nil, .nil => rfl
  | _, _, _, .cons r t, .cons r' t' => by rw [r.inj r', Vals.inj t t']
section
variable {X : Cx} {pins : List (Addr × Obj)} {σ : St} {H : Hp} {s : Shared} {a : Addr} {xs ys : List V}
theorem SqL.of {K : PySem.W.Frag} (h : H a = some (.lst xs)) : SqL K H a xs := .inl (.inl h)
theorem SqT.of {K : PySem.W.Frag} (h : H a = some (.tup xs)) : SqT K H a xs := .inl (.inl h)
theorem Inv.list (I : Inv X pins σ H s) (h : SqL X.K H a xs) : ∃ its : List Value, Vals xs its ∧ PlainL s.heap a its.toArray ∧ xs.length ≤ sizeLine := by
  rcases h with h | ⟨o, its, n, hk, hc, hd, hs, hz, r⟩
  · obtain ⟨z, its, n, r, e⟩ := h.ok I.hok
    exact ⟨its, r, ⟨_, n, e, rfl, rfl, rfl⟩, z⟩
  · refine ⟨its.toList, r, ⟨o, n, I.kIn a o hk, hc, hd, by simpa using hs⟩, ?_⟩
    have e := r.length
    simp only [Array.length_toList] at e
    omega
theorem Inv.tuple (I : Inv X pins σ H s) (h : SqT X.K H a xs) : ∃ its : List Value, Vals xs its ∧ IsTup s.heap a its.toArray ∧ xs.length ≤ sizeLine := by
  rcases h with h | ⟨o, its, n, hk, hc, hs, hz, r⟩
  · obtain ⟨z, its, r, p⟩ := h.ok I.hok
    exact ⟨its, r, p, z⟩
  · refine ⟨its.toList, r, ⟨o, I.kIn a o hk, hc, n, by simpa using hs⟩, ?_⟩
    have e := r.length
    simp only [Array.length_toList] at e
    omega
theorem Inv.list_inj (I : Inv X pins σ H s) (h : SqL X.K H a xs) (h' : SqL X.K H a ys) : xs = ys := by
  obtain ⟨its, r, ⟨o, n, e, _, _, d⟩, _⟩ := I.list h
  obtain ⟨its', r', ⟨o', n', e', _, _, d'⟩, _⟩ := I.list h'
  rw [e] at e'; cases e'
  rw [d] at d'
  injection d' with d1 _
  have : its = its' := by simpa using congrArg Array.toList d1
  subst this
  exact r.inj r'
end

/-! ### another wish about exceptions -/
section
variable {X : Cx} {pins : List (Addr × Obj)} {σ : St} {H : Hp} {s : Shared} {E : Value → Shared → Prop}
end

/-! ### blocks and small statements -/
section
variable {X : Cx} {st : Stmt} {rest : List Stmt} {t u : TS} {e : Expr} {te : TE} {pos : Pos}
def tNext : TS := fun D σ H => D.nx σ H
def tSeq (t u : TS) : TS := fun D σ H => t { D with nx := u D } σ H
theorem pss_nil : PSs X [] tNext := fun _ _ σ H _ I h => wpAny_execs_nil ⟨σ, H, I, h⟩
theorem pss_cons (h1 : PS X st t) (h2 : PSs X rest u) : PSs X (st :: rest) (tSeq t u) := by
  intro pins s σ H D I h
  refine wpAny_execs_cons (thn (h1 pins s σ H { D with nx := u D } I h) fun f s1 q => ?_)
  cases f with
  | next =>
    obtain ⟨σ', H', I', q⟩ := q
    exact h2 pins s1 σ' H' D I' q
  | ret v => exact q
  | brk => exact q
  | cont => exact q
theorem pss_one (h1 : PS X st t) : PSs X [st] t := by
  intro pins s σ H D I h
  refine wpAny_execs_cons (thn (h1 pins s σ H D I h) fun f s1 q => ?_)
  cases f with
  | next => exact wpAny_execs_nil q
  | ret v => exact q
  | brk => exact q
  | cont => exact q
/-- in a def's body nothing is shown -/
theorem Inv.quiet {pins : List (Addr × Obj)} {σ : St} {H : Hp} {s : Shared} (I : Inv X pins σ H s) : interactive X.env = false := by simp [interactive, I.ok.kind]
/-- an expression whose value is dropped -/
def tDrop (te : TE) : TS := fun D σ H => te σ H fun _ H1 => D.nx σ H1
theorem ps_expr (he : PE X e te) (hs : swapsWith e none pos.line X.env = pure false := by rfl) : PS X (.Expr e pos) (tDrop te) := by
  intro pins s σ H D I h
  exact wpAny_Expr_any (thn (he pins s σ H _ I h) fun v s1 ⟨x, H1, I1, r1, q1⟩ => ⟨σ, H1, I1, q1⟩) I.quiet hs
def tRet (te : TE) : TS := fun D σ H => te σ H D.rt
theorem ps_ret (he : PE X e te) : PS X (.Return (some e) pos) (tRet te) := by
  intro pins s σ H D I h
  exact wpAny_Return_some (thn (he pins s σ H _ I h) fun v s1 ⟨x, H1, I1, r1, q1⟩ => ⟨x, σ, H1, I1, r1, q1⟩)
def tIfS (c : TT) (t u : TS) : TS := fun D σ H => c σ H fun b H1 => if b = true then t D σ H1 else u D σ H1
theorem ps_if {c : Expr} {a b : List Stmt} {tc : TT} (hc : PT X c tc) (ha : PSs X a t) (hb : PSs X b u) : PS X (.If c a b pos) (tIfS tc t u) := by
  intro pins s σ H D I h
  refine wpAny_If (thn (hc pins s σ H _ I h) fun d s1 ⟨H1, I1, q1⟩ => ?_)
  cases d with
  | true => exact ha pins s1 σ H1 D I1 q1
  | false => exact hb pins s1 σ H1 D I1 q1
end

/-! ### targets -/
abbrev TG := V → St → Hp → (St → Hp → Prop) → Prop
def PG (X : Cx) (target : Expr) (t : TG) : Prop :=
  ∀ (pins : List (Addr × Obj)) (s : Shared) (σ : St) (H : Hp) (v : V) (u : Value) (Q : St → Hp → Prop), Inv X pins σ H s → RelV v u → t v σ H Q →
    wpAny (model X.prog X.w) X.A (assign target X.env u) (fun _ s' => ∃ σ' H', Inv X pins σ' H' s' ∧ Q σ' H') X.xe s
section
variable {X : Cx} {pos : Pos}
def gName (i : Nat) : TG := fun v σ H Q => Q (σ.set i (some v)) H
theorem pg_name {i : Nat} {x : Str} (hN : X.N.Nodup) (hi : X.N[i]? = some x) (hx : Loc X.env.scope x) (hf : X.fn x = true ∨ X.env.scope.names.lookup x = some .local := by first | exact .inl rfl | exact .inr rfl | assumption) : PG X (.Name x pos) (gName i) := by
  intro pins s σ H v u Q I r h
  exact wpAny_assign_Name (store_ok I hN hi hx r (fun s' I' => ⟨_, H, I', h⟩) hf)
/-- target = value -/
def tAsg (te : TE) (g : TG) : TS := fun D σ H => te σ H fun x H1 => g x σ H1 D.nx
/-- name = value -/
theorem ps_set {i : Nat} {x : Str} {e : Expr} {te : TE} {pos' : Pos} (hN : X.N.Nodup) (hi : X.N[i]? = some x) (hx : Loc X.env.scope x) (he : PE X e te) (hs : swapsWith e (some (.Name x pos')) pos.line X.env = pure false := by rfl) (hf : X.fn x = true ∨ X.env.scope.names.lookup x = some .local := by first | exact .inl rfl | exact .inr rfl | assumption) :
    PS X (.Assign [.Name x pos'] e pos) (tAsg te (gName i)) := by
  intro pins s σ H D I h
  refine wpAny_Assign_Name (thn (he pins s σ H _ I h) fun v s1 ⟨y, H1, I1, r1, q1⟩ => ?_) hs
  exact store_ok I1 hN hi hx r1 (fun s2 I2 => ⟨_, H1, I2, q1⟩) hf
end

/-! ### while -/
section
variable {X : Cx} {pos : Pos}
end

/-! ### what a loop or a comprehension walks -/
/-- at turn i: it yields x (the heap may grow), or it stops -/
structure It where
  go : Nat → Hp → Prop
  yld : Nat → Hp → V → Hp → Prop
  stop : Nat → Hp → Prop
/-- the iterator's own objects may turn: they are not the frame's, not pinned, younger than the entry (or a comprehension's own) -/
def FpOk (X : Cx) (pins : List (Addr × Obj)) (H : Hp) (b : Addr) : Prop :=
  H b = none ∧ b ≠ X.env.locals ∧ b ∉ X.fs ∧ (b ∈ X.ex ∨ X.s₀.heap.objs.size ≤ b) ∧ (∀ x c, X.env.cells.lookup x = some c → c ≠ b) ∧ ∀ p ∈ X.pn ++ pins, p.1 ≠ b
theorem Inv.fpOk {X : Cx} {pins : List (Addr × Obj)} {σ : St} {H H' : Hp} {s : Shared} {b : Addr} (I : Inv X pins σ H s) (hb : s.heap.objs.size ≤ b) (hn : H' b = none) : FpOk X pins H' b := by
  refine ⟨hn, Nat.ne_of_gt (Nat.lt_of_lt_of_le I.lt hb), I.nofs hb, .inr (Nat.le_trans I.sz hb), fun x c e z => ?_, fun p hp z => ?_⟩
  · obtain ⟨v, q⟩ := I.cell x c e
    exact absurd (Nat.lt_of_lt_of_le q.lt (by rw [z]; exact hb)) (Nat.lt_irrefl _)
  · exact absurd (Nat.lt_of_lt_of_le (Heap.lt_size (I.pin p hp).1) (by rw [z]; exact hb)) (Nat.lt_irrefl _)
structure Turn (P : Program) (w : World) (K : PySem.W.Frag) (tg : Expr) (J : It) (fp : List Addr) (it : Addr) (tn : Nat → Heap → Prop) : Prop where
  mem : it ∈ fp
  obj : ∀ i h, tn i h → ∀ b ∈ fp, ∃ o, h.get? b = some o ∧ ∀ v, o.data ≠ .cell v
  keep : ∀ i h h', tn i h → (∀ b ∈ fp, ∀ o, h.get? b = some o → h'.get? b = some o) → tn i h'
  item : ∀ (X : Cx), X.prog = P → X.w = w → X.K = K → X.calm = true → ∀ (i : Nat) (pins : List (Addr × Obj)) (s : Shared) (σ : St) (H : Hp) (E : Value → Shared → Prop), Inv X pins σ H s → (∀ b ∈ fp, FpOk X pins H b) → tn i s.heap → J.go i H →
    wpAny (model P w) X.A (pyNext (.ref it)) (fun r s1 => ∃ u, r = some u ∧
      wpAny (model P w) X.A (letOwnedTupleGo tg (.ref it) u) (fun _ s2 => ∃ x H', Inv X pins σ H' s2 ∧ RelV x u ∧ J.yld i H x H' ∧ tn (i + 1) s2.heap ∧ ∀ b ∈ fp, H' b = none) E s1) E s
  done : ∀ (X : Cx), X.prog = P → X.w = w → X.K = K → X.calm = true → ∀ (i : Nat) (pins : List (Addr × Obj)) (s : Shared) (σ : St) (H : Hp) (E : Value → Shared → Prop), Inv X pins σ H s → (∀ b ∈ fp, FpOk X pins H b) → tn i s.heap → J.stop i H →
    wpAny (model P w) X.A (pyNext (.ref it)) (fun r s1 => r = none ∧ Inv X pins σ H s1) E s
  self : ∀ (A : Around) (i : Nat) (s : Shared) (Q : Value → Shared → Prop) (E : Value → Shared → Prop), tn i s.heap → Q (.ref it) s → wpAny (model P w) A (pyIter (.ref it)) Q E s
abbrev TI := St → Hp → (It → Hp → Prop) → Prop
/-- an iterator has come -/
def PIE (X : Cx) (pins : List (Addr × Obj)) (σ : St) (tg : Expr) (R : It → Hp → Prop) (itv : Value) (s2 : Shared) : Prop :=
  ∃ (it : Addr) (fp : List Addr) (tn : Nat → Heap → Prop) (J : It) (H' : Hp), itv = .ref it ∧ Inv X pins σ H' s2 ∧ Turn X.prog X.w X.K tg J fp it tn ∧ tn 0 s2.heap ∧ (∀ b ∈ fp, FpOk X pins H' b) ∧ R J H'
def PI (X : Cx) (tg iter : Expr) (wi : TI) : Prop :=
  ∀ (pins : List (Addr × Obj)) (s : Shared) (σ : St) (H : Hp) (R : It → Hp → Prop), Inv X pins σ H s → wi σ H R →
    wpAny (model X.prog X.w) X.A (eval iter X.env) (fun v s1 => wpAny (model X.prog X.w) X.A (pyIter v) (PIE X pins σ tg R) X.xe s1) X.xe s

/-- the step ahead of the store is nothing for an iterator that keeps no tuple -/
theorem go_of {M : Model} {A : Around} {E : Value → Shared → Prop} {s : Shared} {tg : Expr} {it : Addr} {u : Value} {o : Obj} {n : String} {vs : Array Value} {Q : Unit → Shared → Prop} (ho : s.heap.get? it = some o) (hc : o.cls = .type n) (hd : o.data = .fields vs)
    (hn : ["enumerate", "zip", "dict_itemiterator", "dict_reverseitemiterator", "odict_iterator", "itertools.zip_longest", "itertools.pairwise"].contains n = false) (hQ : Q () s) : wpAny M A (letOwnedTupleGo tg (.ref it) u) Q E s := by
  unfold letOwnedTupleGo
  cases tg <;> first
    | exact wpAny_pure hQ
    | (cases u <;> first
        | exact wpAny_pure hQ
        | (refine wpAny_bind (wpAny_load ho ?_)
           rw [hc, hd]
           show wpAny M A (if (["enumerate", "zip", "dict_itemiterator", "dict_reverseitemiterator", "odict_iterator", "itertools.zip_longest", "itertools.pairwise"].contains n && vs[0]? == some (rawInt _)) = true then _ else _) Q E s
           rw [if_neg (by intro h; rw [hn, Bool.false_and] at h; cases h)]
           exact wpAny_pure hQ))

/-- the list at a, as it stands at each turn (a loop may append to it) -/
def Itl (K : PySem.W.Frag) (a : Addr) : It :=
  ⟨fun i H => ∃ xs x, SqL K H a xs ∧ xs[i]? = some x, fun i H x H' => H' = H ∧ ∀ xs, SqL K H a xs → xs[i]? = some x, fun i H => ∃ xs, SqL K H a xs ∧ xs.length ≤ i⟩
theorem turn_list {P : Program} {w : World} {K : PySem.W.Frag} {tg : Expr} (a it : Addr) : Turn P w K tg (Itl K a) [it] it (fun i h => h.IsListIter it a i) where
  mem := by simp
  obj := fun i h st b hb => by
    have e : b = it := by simpa using hb
    subst e
    obtain ⟨o, e, c, d⟩ := st
    exact ⟨o, e, fun v z => by rw [d] at z; cases z⟩
  keep := fun i h h' st k => st.at fun o e => k it (by simp) o e
  item := by
    intro X hP hw hK hc i pins s σ H E I hf st hg
    subst hP hw hK
    obtain ⟨xs, x, hq, hx⟩ := hg
    obtain ⟨its, rv, p, hz⟩ := I.list hq
    obtain ⟨u, hu, ru⟩ := rv.get hx
    obtain ⟨f0, f1, f2, f3, f4, f5⟩ := hf it (by simp)
    refine wpAny_pyNext_list_item st p.isList (x := u) (by simpa using hu) fun h' st' sb => ?_
    have I1 : Inv X pins σ H { s with heap := h' } := I.turned (t' := s.toks) (fun b o hb e => (sb.2 b hb).trans e) f0 f1 f3 f4 f5
    obtain ⟨o, e, c, d⟩ := id st'
    exact ⟨u, rfl, go_of (s := { s with heap := h' }) e c d (by decide) ⟨x, H, I1, ru, ⟨rfl, fun ys hy => by rw [I.list_inj hy hq]; exact hx⟩, st', fun b hb => (hf b hb).1⟩⟩
  done := by
    intro X hP hw hK hc i pins s σ H E I hf st hg
    subst hP hw hK
    obtain ⟨xs, hq, hx⟩ := hg
    obtain ⟨its, rv, p, hz⟩ := I.list hq
    obtain ⟨f0, f1, f2, f3, f4, f5⟩ := hf it (by simp)
    have hl := rv.length
    exact wpAny_pyNext_list_end (I.ok.hd hc) st p.isList (by simp; omega) fun h' eb => ⟨rfl, I.turned (t' := s.toks) (fun b o hb e => eb b o hb e) f0 f1 f3 f4 f5⟩
  self := fun _ _ _ _ _ st h => wpAny_pyIter_listiter st h
end L2

namespace L2
open PySem PySem.Spec PyProof.Rows
section
variable {X : Cx} {tg : Expr}
def iList (K : PySem.W.Frag) (tl : TE) : TI := fun σ H R => tl σ H fun x H1 => ∃ a, x = .ref a ∧ (∃ xs, SqL K H1 a xs) ∧ R (Itl K a) H1
theorem pi_list {l : Expr} {tl : TE} (hl : PE X l tl) : PI X tg l (iList X.K tl) := by
  intro pins s σ H R I h
  refine thn (hl pins s σ H _ I h) fun v s1 ⟨x, H1, I1, r1, q1⟩ => ?_
  obtain ⟨a, e, ⟨xs, hq⟩, q⟩ := q1
  subst e
  cases r1
  obtain ⟨its, rv, p, hz⟩ := I1.list hq
  refine wpAny_pyIter_list p.isList ?_
  refine ⟨s1.heap.objs.size, [s1.heap.objs.size], _, _, H1, rfl, I1.kept (t' := s1.toks) fun b o e => Heap.get?_push_of_some _ e, turn_list a _, ⟨_, Heap.get?_push_size _ rfl, rfl, rfl⟩, fun b hb => ?_, q⟩
  have e : b = s1.heap.objs.size := by simpa using hb
  subst e
  exact I1.fpOk (Nat.le_refl _) (I1.hok.fresh (Nat.le_refl _))
/-! ### for -/
/-- W: the invariant by the turn and a measure; N: what the body is to reach -/
def tFor (wi : TI) (g : TG) (tb : TS) : TS := fun D σ H => wi σ H fun J H1 => ∃ W : Nat → Nat → St → Hp → Prop, (∃ m, W 0 m σ H1) ∧ ∀ i m σ H, W i m σ H →
  (J.stop i H ∧ D.nx σ H) ∨ (J.go i H ∧ ∃ N : St → Hp → Prop, (∀ σ' H', N σ' H' → ∃ m', m' < m ∧ W (i + 1) m' σ' H') ∧ ∀ x H', J.yld i H x H' → g x σ H' fun σ2 H2 => tb { D with nx := N, ct := N, bk := D.nx } σ2 H2)
/-- the records at fp as they stand -/
def pinsAt (fp : List Addr) (h : Heap) : List (Addr × Obj) := fp.filterMap fun b => (h.get? b).map fun o => (b, o)
theorem mem_pinsAt {fp : List Addr} {h : Heap} {b : Addr} {o : Obj} (hb : b ∈ fp) (e : h.get? b = some o) : (b, o) ∈ pinsAt fp h := List.mem_filterMap.mpr ⟨b, hb, by rw [e]; rfl⟩
theorem of_pinsAt {fp : List Addr} {h : Heap} {p : Addr × Obj} (hp : p ∈ pinsAt fp h) : p.1 ∈ fp ∧ h.get? p.1 = some p.2 := by
  obtain ⟨b, hb, e⟩ := List.mem_filterMap.mp hp
  cases q : h.get? b with
  | none => rw [q] at e; cases e
  | some o =>
    rw [q] at e
    have e' : (b, o) = p := Option.some.inj e
    subst e'
    exact ⟨hb, q⟩
theorem Inv.pinned {pins : List (Addr × Obj)} {σ : St} {H : Hp} {s : Shared} {fp : List Addr} (I : Inv X pins σ H s) (hf : ∀ b ∈ fp, FpOk X pins H b) (ho : ∀ b ∈ fp, ∃ o, s.heap.get? b = some o ∧ ∀ v, o.data ≠ .cell v) : Inv X (pins ++ pinsAt fp s.heap) σ H s :=
  I.pins_of fun p hp => (List.mem_append.mp hp).elim (fun z => I.pin p (List.mem_append_right _ z)) fun z => by
    obtain ⟨hb, e⟩ := of_pinsAt z
    obtain ⟨f0, f1, f2, _⟩ := hf p.1 hb
    obtain ⟨o, e', d⟩ := ho p.1 hb
    rw [e] at e'; cases e'
    exact ⟨e, f0, f1, f2, d⟩
theorem Inv.unpinned {pins pl : List (Addr × Obj)} {σ : St} {H : Hp} {s : Shared} (I : Inv X (pins ++ pl) σ H s) : Inv X pins σ H s := I.pins_of fun p hp => I.pin p (List.mem_append_right _ (List.mem_append_left _ hp))
theorem ps_for {iter : Expr} {body : List Stmt} {wi : TI} {g : TG} {tb : TS} {pos : Pos} (hp : PassesOwn (model X.prog X.w) X.A X.env X.xe) (hc : X.calm = true) (hi : PI X tg iter wi) (hg : PG X tg g) (hb : PSs X body tb)
    (hs : ∀ x, foldedSetIterable iter X.env x = pure x := by intro _; rfl) : PS X (.For tg iter body [] pos) (tFor wi g tb) := by
  intro pins s σ H D I h
  refine wpAny_For (thn (hi pins s σ H _ I h) fun v s1 h1 => thn h1 fun itv s2 h2 => ?_) hs
  obtain ⟨it, fp, tn, J, H2, e, I2, T, st2, f2, W, ⟨m0, w0⟩, turn⟩ := h2
  subst e
  -- what stays true of the iterator's objects through the loop
  have stat : ∀ {H' : Hp}, (∀ b ∈ fp, H' b = none) → ∀ b ∈ fp, FpOk X pins H' b := fun hn b hb => ⟨hn b hb, (f2 b hb).2⟩
  refine codeAny_forLoop_any (fun n s' => ∃ i σ' H', Inv X pins σ' H' s' ∧ tn i s'.heap ∧ (∀ b ∈ fp, H' b = none) ∧ W i n σ' H') ?_ m0 ⟨0, σ, H2, I2, st2, fun b hb => (f2 b hb).1, w0⟩
  rintro n s3 ⟨i, σ3, H3, I3, st3, fr3, w3⟩
  rcases turn i n σ3 H3 w3 with ⟨stop, qn⟩ | ⟨go, N, hN, step⟩
  · refine wpAny_passesOwn hp (thn (T.done X rfl rfl rfl hc i pins s3 σ3 H3 X.xe I3 (stat fr3) st3 stop) fun r s4 ⟨hr, I4⟩ => ?_)
    subst hr
    exact wpAny_execs_nil ⟨σ3, H3, I4, qn⟩
  · refine wpAny_passesOwn hp (thn (T.item X rfl rfl rfl hc i pins s3 σ3 H3 X.xe I3 (stat fr3) st3 go) fun r s4 ⟨u, hr, h4⟩ => ?_)
    subst hr
    refine wpAny_passesOwn hp (thn h4 fun _ s5 ⟨x, H5, I5, r5, y5, st5, fr5⟩ => ?_)
    have I5' := I5.pinned (stat fr5) (T.obj _ _ st5)
    refine wpAny_passesOwn hp (thn (hg _ s5 σ3 H5 x u _ I5' r5 (step x H5 y5)) fun _ s6 ⟨σ6, H6, I6, q6⟩ => ?_)
    refine wpAny_passesOwn hp (thn (hb _ s6 σ6 H6 _ I6 q6) fun f s7 q7 => ?_)
    have again : ∀ {σ7 : St} {H7 : Hp}, Inv X (pins ++ pinsAt fp s5.heap) σ7 H7 s7 → N σ7 H7 → ∃ m, m < n ∧ ∃ i σ' H', Inv X pins σ' H' s7 ∧ tn i s7.heap ∧ (∀ b ∈ fp, H' b = none) ∧ W i m σ' H' := fun {σ7 H7} I7 n7 => by
      obtain ⟨m', hm, w7⟩ := hN σ7 H7 n7
      refine ⟨m', hm, i + 1, σ7, H7, I7.unpinned, T.keep _ _ _ st5 fun b hb o e => (I7.pin (b, o) (List.mem_append_right _ (List.mem_append_right _ (mem_pinsAt hb e)))).1, fun b hb => ?_, w7⟩
      obtain ⟨o, e, d⟩ := T.obj _ _ st5 b hb
      exact (I7.pin (b, o) (List.mem_append_right _ (List.mem_append_right _ (mem_pinsAt hb e)))).2.1
    cases f with
    | next => obtain ⟨σ7, H7, I7, n7⟩ := q7; exact again I7 n7
    | cont => obtain ⟨σ7, H7, I7, n7⟩ := q7; exact again I7 n7
    | brk => obtain ⟨σ7, H7, I7, q7⟩ := q7; exact ⟨σ7, H7, I7.unpinned, q7⟩
    | ret v => obtain ⟨x7, σ7, H7, I7, r7, q7⟩ := q7; exact ⟨x7, σ7, H7, I7.unpinned, r7, q7⟩
end

/-! ### the forms one uses -/
/-- over a list that the body leaves as it is -/
theorem for_list {K : PySem.W.Frag} {a : Addr} {xs : List V} {g : TG} {tb : TS} {D : Ends} {σ : St} {H : Hp} (Pv : Nat → St → Hp → Prop) (h0 : Pv 0 σ H) (hl : ∀ i σ H, i ≤ xs.length → Pv i σ H → SqL K H a xs)
    (hs : ∀ i x σ H, xs[i]? = some x → Pv i σ H → g x σ H fun σ2 H2 => tb { D with nx := Pv (i + 1), ct := Pv (i + 1), bk := D.nx } σ2 H2) (hd : ∀ σ H, Pv xs.length σ H → D.nx σ H) :
    ∃ W : Nat → Nat → St → Hp → Prop, (∃ m, W 0 m σ H) ∧ ∀ i m σ H, W i m σ H →
      ((Itl K a).stop i H ∧ D.nx σ H) ∨ ((Itl K a).go i H ∧ ∃ N : St → Hp → Prop, (∀ σ' H', N σ' H' → ∃ m', m' < m ∧ W (i + 1) m' σ' H') ∧ ∀ x H', (Itl K a).yld i H x H' → g x σ H' fun σ2 H2 => tb { D with nx := N, ct := N, bk := D.nx } σ2 H2) := by
  refine ⟨fun i m σ H => m = xs.length - i ∧ i ≤ xs.length ∧ Pv i σ H, ⟨xs.length, by simp, Nat.zero_le _, h0⟩, ?_⟩
  rintro i m σ H ⟨rfl, hi, p⟩
  have q := hl i σ H hi p
  by_cases hlt : i < xs.length
  · refine .inr ⟨⟨xs, xs[i], q, by simp [hlt]⟩, Pv (i + 1), fun σ' H' p' => ⟨xs.length - (i + 1), by omega, rfl, hlt, p'⟩, fun x H' y => ?_⟩
    obtain ⟨e, y⟩ := y
    subst e
    exact hs i x σ _ (y xs q) p
  · have e : i = xs.length := by omega
    subst e
    exact .inl ⟨⟨xs, q, Nat.le_refl _⟩, hd σ H p⟩
end L2

namespace L2
open PySem PySem.Spec PyProof.Rows

abbrev R2 := V → V → Hp → VK → Prop
/-- a two-place operation on values: f is binaryOp op, inplaceOp op or compareOp op -/
def OpR (X : Cx) (f : Value → Value → Sem Value) (r : R2) : Prop :=
  ∀ (pins : List (Addr × Obj)) (s : Shared) (σ : St) (H : Hp) (x y : V) (v u : Value) (Q : VK), Inv X pins σ H s → RelV x v → RelV y u → r x y H Q →
    wpAny (model X.prog X.w) X.A (f v u) (EP X pins σ Q) X.xe s
/-- a call of a value that is known (a builtin, a type) with values -/
def CallR (X : Cx) (f : Value) (r : List V → Hp → VK → Prop) : Prop :=
  ∀ (pins : List (Addr × Obj)) (s : Shared) (σ : St) (H : Hp) (xs : List V) (us : List Value) (Q : VK), Inv X pins σ H s → Vals xs us → r xs H Q →
    wpAny (model X.prog X.w) X.A (call f us) (EP X pins σ Q) X.xe s
def tOp (r : R2) (ta tb : TE) : TE := fun σ H Q => ta σ H fun x H1 => tb σ H1 fun y H2 => r x y H2 Q
/-- ints in, under C, and a value out -/
def rI (C : Int → Int → Prop) (g : Int → Int → V) : R2 := fun x y H Q => ∃ i j, x = .int i ∧ y = .int j ∧ C i j ∧ Q (g i j) H
def rI0 (g : Int → Int → V) : R2 := fun x y H Q => ∃ i j, x = .int i ∧ y = .int j ∧ Q (g i j) H
section
variable {X : Cx} {a b c : Expr} {ta tb tc : TE} {pos : Pos}

theorem binT (ha : PE X a ta) (hb : PE X b tb) {pins : List (Addr × Obj)} {s : Shared} {σ : St} {H : Hp} {R : V → V → Hp → Prop} (I : Inv X pins σ H s)
    (h : ta σ H fun x H1 => tb σ H1 fun y H2 => R x y H2) {Q : Value → Shared → Prop} {f : Value → Value → Sem Value}
    (hf : ∀ v u s2 x y H2, Inv X pins σ H2 s2 → RelV x v → RelV y u → R x y H2 → wpAny (model X.prog X.w) X.A (f v u) Q X.xe s2) :
    wpAny (model X.prog X.w) X.A (eval a X.env) (fun v s₁ => wpAny (model X.prog X.w) X.A (eval b X.env) (fun u s₂ => wpAny (model X.prog X.w) X.A (f v u) Q X.xe s₂) X.xe s₁) X.xe s := by
  refine thn (ha pins s σ H _ I h) fun v s1 ⟨x, H1, I1, r1, q1⟩ => ?_
  refine thn (hb pins s1 σ H1 _ I1 q1) fun u s2 ⟨y, H2, I2, r2, q2⟩ => ?_
  exact hf v u s2 x y H2 I2 r1 r2 q2

theorem pe_op {op : Operator} {r : R2} (ho : OpR X (binaryOp op) r) (ha : PE X a ta) (hb : PE X b tb) : PE X (.BinOp a op b pos) (tOp r ta tb) := by
  intro pins s σ H Q I h
  exact wpAny_BinOp (binT ha hb I h fun v u s2 x y H2 I2 rx ry q => ho pins s2 σ H2 x y v u Q I2 rx ry q)
/-! ### ints -/
theorem opI {f : Value → Value → Sem Value} {C : Int → Int → Prop} {g : Int → Int → Int}
    (rule : ∀ (i j : Int) (t u : Tok) (s : Shared) (Q : Value → Shared → Prop) (E : Value → Shared → Prop), C i j → Q (.int (g i j) s.toks) { s with toks := s.toks + 1 } → wpAny (model X.prog X.w) X.A (f (.int i t) (.int j u)) Q E s) :
    OpR X f (rI C fun i j => .int (g i j)) := by
  intro pins s σ H x y v u Q I rx ry h
  obtain ⟨i, j, rfl, rfl, hc, q⟩ := h
  obtain ⟨t, rfl⟩ := rx
  obtain ⟨t', rfl⟩ := ry
  exact rule i j t t' s _ _ hc ⟨.int (g i j), H, I.tok _, ⟨_, rfl⟩, q⟩
theorem opI0 {f : Value → Value → Sem Value} {g : Int → Int → Int}
    (rule : ∀ (i j : Int) (t u : Tok) (s : Shared) (Q : Value → Shared → Prop) (E : Value → Shared → Prop), Q (.int (g i j) s.toks) { s with toks := s.toks + 1 } → wpAny (model X.prog X.w) X.A (f (.int i t) (.int j u)) Q E s) :
    OpR X f (rI0 fun i j => .int (g i j)) := by
  intro pins s σ H x y v u Q I rx ry h
  obtain ⟨i, j, rfl, rfl, q⟩ := h
  obtain ⟨t, rfl⟩ := rx
  obtain ⟨t', rfl⟩ := ry
  exact rule i j t t' s _ _ ⟨.int (g i j), H, I.tok _, ⟨_, rfl⟩, q⟩
theorem opB0 {f : Value → Value → Sem Value} {g : Int → Int → Bool}
    (rule : ∀ (i j : Int) (t u : Tok) (s : Shared) (Q : Value → Shared → Prop) (E : Value → Shared → Prop), Q (.bool (g i j)) s → wpAny (model X.prog X.w) X.A (f (.int i t) (.int j u)) Q E s) :
    OpR X f (rI0 fun i j => .bl (g i j)) := by
  intro pins s σ H x y v u Q I rx ry h
  obtain ⟨i, j, rfl, rfl, q⟩ := h
  obtain ⟨t, rfl⟩ := rx
  obtain ⟨t', rfl⟩ := ry
  exact rule i j t t' s _ _ ⟨.bl (g i j), H, I, rfl, q⟩

theorem op_add : OpR X (binaryOp .Add) (rI0 fun i j => .int (i + j)) := opI0 fun _ _ _ _ _ _ _ q => add_int q
theorem op_modN : OpR X (binaryOp .Mod) (rI (fun _ j => j ≠ 0) fun i j => .int (i.fmod j)) := opI fun _ _ _ _ _ _ _ hc q => mod_int' hc q
/-! ### bools among ints: n += (a < b) -/
end

/-! ### comparisons -/
/-- the scalars that == tells apart as data does -/
def scal : V → V → Bool
  | .non, .non => true | .non, .int _ => true | .int _, .non => true | .non, .bl _ => true | .bl _, .non => true | .non, .str _ => true | .str _, .non => true
  | .int _, .int _ => true | .bl _, .bl _ => true | .str _, .str _ => true | .byt _, .byt _ => true
  | .int _, .str _ => true | .str _, .int _ => true | .bl _, .str _ => true | .str _, .bl _ => true
  | _, _ => false
def rEq : R2 := fun x y H Q => scal x y = true ∧ Q (.bl (decide (x = y))) H
theorem dec_int {i j : Int} : decide (V.int i = V.int j) = (i == j) := by
  rw [Bool.eq_iff_iff]
  simp
theorem dec_bl {i j : Bool} : decide (V.bl i = V.bl j) = (i == j) := by
  rw [Bool.eq_iff_iff]
  simp
theorem dec_str {i j : Str} : decide (V.str i = V.str j) = (i == j) := by
  rw [Bool.eq_iff_iff]
  simp
theorem dec_byt {i j : Array UInt8} : decide (V.byt i = V.byt j) = (i.toList == j.toList) := by
  rw [Bool.eq_iff_iff]
  cases i
  cases j
  simp

section
variable {X : Cx} {a b c : Expr} {ta tb tc : TE} {pos : Pos}
theorem fin_bl {pins : List (Addr × Obj)} {σ : St} {H : Hp} {s : Shared} {Q : VK} {k k' : Bool} (I : Inv X pins σ H s) (q : Q (.bl k) H) (e : k = k') : EP X pins σ Q (.bool k') s := by
  subst e
  exact ⟨.bl k, H, I, rfl, q⟩
theorem op_eq : OpR X (compareOp .Eq) rEq := by
  intro pins s σ H x y v u Q I rx ry h
  obtain ⟨hs, q⟩ := h
  cases x with
  | non =>
    cases rx
    cases y with
    | non => cases ry; exact PySem.EqNone.eq_none_none (fin_bl I q (by simp))
    | bl j => cases ry; exact PySem.EqNone.eq_none_bool (fin_bl I q (by simp))
    | int j => obtain ⟨t', rfl⟩ := ry; exact PySem.EqNone.eq_none_int (fin_bl I q (by simp))
    | str j => obtain ⟨t', rfl⟩ := ry; exact PySem.EqNone.eq_none_str (fin_bl I q (by simp))
    | _ => exact absurd (show false = true from hs) Bool.false_ne_true
  | bl i =>
    cases rx
    cases y with
    | non => cases ry; exact PySem.EqNone.eq_bool_none (fin_bl I q (by simp))
    | bl j => cases ry; exact eq_bool (fin_bl I q dec_bl)
    | str j => obtain ⟨t', rfl⟩ := ry; exact PySem.EqMixed.eq_bool_str (fin_bl I q (by simp))
    | _ => exact absurd (show false = true from hs) Bool.false_ne_true
  | int i =>
    obtain ⟨t, rfl⟩ := rx
    cases y with
    | non => cases ry; exact PySem.EqNone.eq_int_none (fin_bl I q (by simp))
    | int j => obtain ⟨t', rfl⟩ := ry; exact eq_int (fin_bl I q dec_int)
    | str j => obtain ⟨t', rfl⟩ := ry; exact PySem.EqMixed.eq_int_str (fin_bl I q (by simp))
    | _ => exact absurd (show false = true from hs) Bool.false_ne_true
  | str i =>
    obtain ⟨t, rfl⟩ := rx
    cases y with
    | non => cases ry; exact PySem.EqNone.eq_str_none (fin_bl I q (by simp))
    | bl j => cases ry; exact PySem.EqMixed.eq_str_bool (fin_bl I q (by simp))
    | int j => obtain ⟨t', rfl⟩ := ry; exact PySem.EqMixed.eq_str_int (fin_bl I q (by simp))
    | str j => obtain ⟨t', rfl⟩ := ry; exact eq_str (fin_bl I q dec_str)
    | _ => exact absurd (show false = true from hs) Bool.false_ne_true
  | byt i =>
    obtain ⟨t, rfl⟩ := rx
    cases y with
    | byt j => obtain ⟨t', rfl⟩ := ry; exact PySem.W.eq_bytes (fin_bl I q dec_byt)
    | _ => exact absurd (show false = true from hs) Bool.false_ne_true
  | _ => cases y <;> exact absurd (show false = true from hs) Bool.false_ne_true
theorem op_lt : OpR X (compareOp .Lt) (rI0 fun i j => .bl (decide (i < j))) := opB0 fun _ _ _ _ _ _ _ q => lt_int q
theorem op_gt : OpR X (compareOp .Gt) (rI0 fun i j => .bl (decide (j < i))) := opB0 fun _ _ _ _ _ _ _ q => gt_int q
/-- is None, is not None: the right side a value none -/
theorem op_isN : OpR X (compareOp .Is) (fun x y H Q => y = .non ∧ Q (.bl (decide (x = .non))) H) := by
  intro pins s σ H x y v u Q I rx ry h
  obtain ⟨rfl, q⟩ := h
  cases ry
  refine is_none_gen (fin_bl I q ?_)
  cases x <;> first
    | (cases rx; rfl)
    | (obtain ⟨t, rfl⟩ := rx; rfl)
theorem nomark (b : Expr) {op : CmpOp} (h : op ≠ .In := by decide) (h2 : op ≠ .NotIn := by decide) : behindInMarks op b = false := by
  have e1 : (op == CmpOp.In) = false := by cases op <;> first | rfl | exact absurd rfl h
  have e2 : (op == CmpOp.NotIn) = false := by cases op <;> first | rfl | exact absurd rfl h2
  cases b <;> simp [behindInMarks, e1, e2]
/-- a comparison as a value; hm: nomark b, or (for in, not in) by with_unfolding_all rfl -/
theorem pe_cmpR {op : CmpOp} {r : R2} (ho : OpR X (compareOp op) r) (ha : PE X a ta) (hb : PE X b tb) (hm : behindInMarks op b = false) : PE X (.Compare a [op] [b] pos) (tOp r ta tb) := by
  intro pins s σ H Q I h
  exact wpAny_Compare1 (binT ha hb I h fun v u s2 x y H2 I2 rx ry q => ho pins s2 σ H2 x y v u Q I2 rx ry q) hm
/-- a reading of a value as a test -/
def tTest (t : TE) : TT := fun σ H Q => t σ H fun x H' => ∃ k, x = .bl k ∧ Q k H'
theorem pt_cmpR {op : CmpOp} {r : R2} (ho : OpR X (compareOp op) r) (ha : PE X a ta) (hb : PE X b tb) (hm : behindInMarks op b = false) : PT X (.Compare a [op] [b] pos) (tTest (tOp r ta tb)) := by
  intro pins s σ H Q I h
  refine wpAny_isTrue_Compare1 (thn (ha pins s σ H _ I h) fun v s1 ⟨x, H1, I1, r1, q1⟩ => thn (hb pins s1 σ H1 _ I1 q1) fun u s2 ⟨y, H2, I2, r2, q2⟩ =>
    thn (ho pins s2 σ H2 x y v u _ I2 r1 r2 q2) fun c s3 ⟨z, H3, I3, r3, k, e, q3⟩ => ?_) hm
  subst e
  cases r3
  exact wpAny_truthy_bool ⟨H3, I3, q3⟩
/-! ### truth -/
theorem line63 : (sizeLine : Nat) < 2 ^ 63 := by rw [sizeLine_eq]; decide
/-! ### strs and bytes -/
theorem op_add_str : OpR X (binaryOp .Add) (fun x y H Q => ∃ i j, x = .str i ∧ y = .str j ∧ i.length + j.length ≤ sizeLine ∧ Q (.str (i ++ j)) H) := by
  intro pins s σ H x y v u Q I rx ry h
  obtain ⟨i, j, rfl, rfl, hz, q⟩ := h
  obtain ⟨t, rfl⟩ := rx
  obtain ⟨t', rfl⟩ := ry
  exact add_str (fun t' tk => ⟨.str (i ++ j), H, I.tok _, ⟨_, rfl⟩, q⟩) hz
/-! ### scalar builtins, by CallR -/
theorem vals1 {x : V} {us : List Value} (r : Vals [x] us) : ∃ u, us = [u] ∧ RelV x u := by
  cases r with
  | cons r1 r2 => cases r2; exact ⟨_, rfl, r1⟩
theorem vals2 {x y : V} {us : List Value} (r : Vals [x, y] us) : ∃ u w', us = [u, w'] ∧ RelV x u ∧ RelV y w' := by
  cases r with
  | cons r1 r2 =>
    cases r2 with
    | cons r3 r4 => cases r4; exact ⟨_, _, rfl, r1, r3⟩
end
end L2

namespace L2
open PySem PySem.Spec PyProof.Rows

/-! ### an instance, its attributes a map -/
structure ObjM (h : Heap) (x dx C : Addr) (mA : Str → Option Value) : Prop where
  obj : h.get? x = some (PySem.W.instObj C dx)
  ns : h.Ns1 dx mA
  ne : dx ≠ x

theorem lookIn_ns {h : Heap} {dx : Addr} {mA : Str → Option Value} (n : h.Ns1 dx mA) : ∃ od, h.get? dx = some od ∧ ∀ name, PySem.W.lookIn name od = some (mA name) := by
  obtain ⟨o, es, ep, ho, hd, hk, _, hm⟩ := n
  refine ⟨o, ho, fun name => ?_⟩
  have e := hm name
  unfold nsFind findBy at e
  rw [← Array.find?_toList] at e
  unfold PySem.W.lookIn
  rw [hd]
  dsimp only
  split
  · rename_i y q
    rw [q] at e
    exact congrArg some e
  · rename_i q
    rw [q] at e
    have a : es.toList.any (·.refKey) = false := by
      rw [List.any_eq_false]
      intro y hy
      obtain ⟨z, t, hkey⟩ := hk y (Array.mem_toList_iff.mp hy)
      simp [DictEntry.refKey, hkey]
    have a' : ¬ es.toList.any (·.refKey) = true := by rw [a]; exact Bool.false_ne_true
    rw [if_neg a']
    exact congrArg some e

theorem ObjM.look {h : Heap} {x dx C : Addr} {mA : Str → Option Value} (I : ObjM h x dx C mA) : ∃ od, PySem.W.InstAt h x (PySem.W.instObj C dx) C (some od) ∧ ∀ name, PySem.W.lookIn name od = some (mA name) :=
  let ⟨od, ho, hl⟩ := lookIn_ns I.ns
  ⟨od, ⟨I.obj, rfl, rfl, ho⟩, hl⟩

section
variable {prog : Program} {w : World} {A : Around} {E : Value → Shared → Prop} {s : Shared} {K : PySem.W.Frag} {x dx C f : Addr} {mA : Str → Option Value} {name : Str} {v : Value}

end

/-! ### the attributes as a list of pairs -/
section
variable {P : Program} {w : World} {H H' : Hp} {h h' : Heap} {a C dx : Addr} {fs fs' : List (Str × V)}
theorem ins_get (hok : HOk P w H h) (e : H a = some (.ins C dx fs)) : ∃ mA, ObjM h a dx C mA ∧ (∀ f, RelO (fs.lookup f) (mA f)) ∧ PySem.Within mA (fs.map (·.1)) ∧ fs.length ≤ 1000 ∧ H dx = some (.own a) := by
  obtain ⟨d, z, ne, ob, mA, n, r, q⟩ := (show ObjOk P w H h a (.ins C dx fs) from hok a _ e)
  exact ⟨mA, ⟨ob, n, ne⟩, r, q, z, d⟩
end

/-! ### what of the text a class must have -/
structure Cls (K : PySem.W.Frag) (C : Addr) : Prop where
  pg : PySem.W.plainGet K C Str.empty = true
  hd : PySem.W.hasDictIn K C = true
  po : PySem.W.plainOver K C = true
  sa : PySem.W.findIn K (.ref C) "__setattr__" = some (some (.builtin "object.__setattr__"))
theorem Cls.get {K : PySem.W.Frag} {C : Addr} (c : Cls K C) (f : Str) : PySem.W.plainGet K C f = true := c.pg
/-- a constant of the class -/
structure Con (K : PySem.W.Frag) (C : Addr) (f : Str) (v : V) (u : Value) : Prop where
  at_ : PySem.W.findIn K (.ref C) f = some (some u)
  rel : RelV v u
  get : PySem.W.specialIn K u "__get__" = some none
  cp : PySem.W.copiedNames.contains f = false
/-- a method: a plain def of the class or of one above it -/
structure Meth (K : PySem.W.Frag) (C : Addr) (m : Str) (f : Addr) : Prop where
  at_ : PySem.W.findIn K (.ref C) m = some (some (.ref f))
  fn : PySem.W.isFn K (.ref f) = true
  kp : PySem.W.keepIn K (.ref f) = true

section
variable {X : Cx} {pins : List (Addr × Obj)} {σ : St} {H : Hp} {s : Shared} {a C dx : Addr} {fs : List (Str × V)} {f : Str} {v : V} {A : Around} {E : Value → Shared → Prop}

end

/-! ### readings and rules -/
section
variable {X : Cx} {o e value : Expr} {f : Str} {pos pos' tpos : Pos} {ta tv : TE}
end

/-! ### isinstance -/
section
variable {X : Cx} {pins : List (Addr × Obj)} {σ : St} {H : Hp} {s : Shared} {A : Around} {E : Value → Shared → Prop} {Q : Value → Shared → Prop} {c : Value} {b : Bool}
/-- the type of a value, as the fragment's deciders take it; for an instance its class -/
inductive TyOf (K : PySem.W.Frag) (H : Hp) : V → Value → Prop where
  | non : TyOf K H .non (.type "NoneType")
  | bl (x : Bool) : TyOf K H (.bl x) (.type "bool")
  | int (i : Int) : TyOf K H (.int i) (.type "int")
  | str (x : Str) : TyOf K H (.str x) (.type "str")
  | flt (x : UInt64) : TyOf K H (.flt x) (.type "float")
  | lst {a : Addr} {xs : List V} (e : H a = some (.lst xs)) : TyOf K H (.ref a) (.type "list")
  | frz {a : Addr} {o : Obj} {xs : List V} (e : H a = some (.frz o (.lst xs))) : TyOf K H (.ref a) (.type "list")
  | tup {a : Addr} {xs : List V} (e : H a = some (.tup xs)) : TyOf K H (.ref a) (.type "tuple")
  | dK {a : Addr} {kvs : List (Key × V)} (e : H a = some (.dK kvs)) : TyOf K H (.ref a) (.type "dict")
  | dT {a : Addr} {kvs : List (List Key × V)} (e : H a = some (.dT kvs)) : TyOf K H (.ref a) (.type "dict")
  | ins {a C dx : Addr} {fs : List (Str × V)} (e : H a = some (.ins C dx fs)) (cl : Cls K C) (ha : PySem.W.findIn K (.ref C) "__class__" = some (some (.builtin "object.__class__")))
      (hn : PySem.W.specialIn K (.builtin "object.__class__") "__get__" = some (some (.builtin "getset_descriptor.__get__"))) (htk : PySem.W.takesIn K (.builtin "object.__class__") = some true)
      (hm : PySem.W.mroIn K C (.type "object") = some true) : TyOf K H (.ref a) (.ref C)
/-- isinstance(x, c) for one class c, a built-in or an own one: kitOne's answer -/
theorem isinst_ok {x : V} {u t : Value} (I : Inv X pins σ H s) (rx : RelV x u) (ty : TyOf X.K H x t) (e : PySem.W.kitOne X.K t c = some b) (h : ∀ tk, Q (.bool b) { s with toks := tk }) :
    wpAny (model X.prog X.w) A (call (.builtin "isinstance") [u, c]) Q E s := by
  cases ty with
  | non => cases (show u = Value.none from rx); exact PySem.W.kia_one PySem.W.kitx_none I.kIn True.intro e (fun z => nomatch z) h
  | bl y => cases (show u = Value.bool y from rx); exact PySem.W.kia_one PySem.W.kitx_bool I.kIn True.intro e (fun z => nomatch z) h
  | int i => obtain ⟨t, q⟩ := (show ∃ t, u = Value.int i t from rx); cases q; exact PySem.W.kia_one PySem.W.kitx_int I.kIn True.intro e (fun z => nomatch z) h
  | str y => obtain ⟨t, q⟩ := (show ∃ t, u = Value.str y t from rx); cases q; exact PySem.W.kia_one PySem.W.kitx_str I.kIn True.intro e (fun z => nomatch z) h
  | flt y => obtain ⟨t, q⟩ := (show ∃ t, u = Value.float y t from rx); cases q; exact PySem.W.kia_one PySem.W.kitx_float I.kIn True.intro e (fun z => nomatch z) h
  | @lst a xs ea =>
    cases (show u = Value.ref a from rx)
    obtain ⟨_, _, n, _, h1⟩ := (show ObjOk X.prog X.w H s.heap a (.lst xs) from I.hok a _ ea)
    exact PySem.W.kia_one PySem.W.kitx_list I.kIn ⟨_, h1, rfl⟩ e (fun z => nomatch z) h
  | @frz a ob xs ea =>
    cases (show u = Value.ref a from rx)
    obtain ⟨_, _, _, n, _, h1⟩ := (show ObjOk X.prog X.w H s.heap a (.frz ob (.lst xs)) from I.hok a _ ea)
    exact PySem.W.kia_one PySem.W.kitx_list I.kIn ⟨_, h1, rfl⟩ e (fun z => nomatch z) h
  | @tup a xs ea =>
    cases (show u = Value.ref a from rx)
    obtain ⟨_, _, _, p⟩ := (show ObjOk X.prog X.w H s.heap a (.tup xs) from I.hok a _ ea)
    obtain ⟨o, h1, h2, _⟩ := p
    exact PySem.W.kia_one PySem.W.kitx_tuple I.kIn ⟨o, h1, h2⟩ e (fun z => nomatch z) h
  | @dK a kvs ea =>
    cases (show u = Value.ref a from rx)
    obtain ⟨_, _, vs, _, p⟩ := (show ObjOk X.prog X.w H s.heap a (.dK kvs) from I.hok a _ ea)
    obtain ⟨o, es, ep, h1, h2, _⟩ := p
    exact PySem.W.kia_one PySem.W.kitx_dict I.kIn ⟨o, h1, h2.1⟩ e (fun z => nomatch z) h
  | @dT a kvs ea =>
    cases (show u = Value.ref a from rx)
    obtain ⟨_, _, xs, _, o, es, ep, h1, h2, _⟩ := (show ObjOk X.prog X.w H s.heap a (.dT kvs) from I.hok a _ ea)
    exact PySem.W.kia_one PySem.W.kitx_dict I.kIn ⟨o, h1, h2.1⟩ e (fun z => nomatch z) h
  | @ins a C dx fs ea cl ha hn htk hm =>
    cases (show u = Value.ref a from rx)
    obtain ⟨mA, O, _⟩ := ins_get I.hok ea
    obtain ⟨od, J, _⟩ := O.look
    exact PySem.W.kia_one (PySem.W.kitx_own (cl.get _) cl.hd ha hn htk hm) I.kIn J e (fun z => nomatch z) h
end
end L2

namespace L2
open PySem PySem.Spec PyProof.Rows

/-! ### room -/
structure Room (k : Nat) (A : Around) : Prop where
  hd : A.handled = none
  dp : A.depth + 3 * k + 5 < recursionLimit
  un : A.units + 16 * k + 200 < cLine
theorem Room.mono {j k : Nat} {A : Around} (r : Room k A) (h : j ≤ k) : Room j A := ⟨r.hd, by have := r.dp; omega, by have := r.un; omega⟩
theorem Room.deeper {k : Nat} {A : Around} (r : Room (k + 1) A) (env : Env) : Room k (A.deeper env) :=
  ⟨r.hd, by have := r.dp; show A.depth + 1 + 3 * k + 5 < _; omega, by have := r.un; show A.units + 3 + 16 * k + 200 < _; omega⟩
theorem Room.depth {k : Nat} {A : Around} (r : Room k A) : A.depth < recursionLimit := by have := r.dp; omega
theorem Room.units {k : Nat} {A : Around} (r : Room k A) : A.units + 64 < cLine := by have := r.un; omega
/-! ### argument lists and displays -/
def tNil : TA := fun _ H Q => Q [] H
def tCons (ta : TE) (tr : TA) : TA := fun σ H Q => ta σ H fun x H1 => tr σ H1 fun xs H2 => Q (x :: xs) H2
section
variable {X : Cx} {e : Expr} {es : List Expr} {te : TE} {t : TA} {pos : Pos}
theorem pa_nil : PA X [] tNil := fun _ _ _ _ H Q I h => Calls.spliced_nil ⟨[], H, I, .nil, h⟩
theorem pa_cons (ha : PE X e te) (hr : PA X es t) (hs : starEach (e :: es) X.env = (false, eval e X.env) :: starEach es X.env := by rfl) : PA X (e :: es) (tCons te t) := by
  intro pos pins s σ H Q I h
  rw [hs]
  show wpAny _ _ (spliced ((false, eval e X.env) :: backTo pos (starEach es X.env))) _ _ s
  refine Calls.spliced_cons (thn (ha pins s σ H _ I h) fun u s1 ⟨x, H1, I1, r1, q1⟩ => ?_)
  exact thn (hr pos pins s1 σ H1 _ I1 q1) fun us s2 ⟨xs, H2, I2, r2, q2⟩ => ⟨x :: xs, H2, I2, .cons r1 r2, q2⟩

/-- a tuple, a list of written items -/
def tTup (t : TA) : TE := fun σ H Q => t σ H fun xs H1 => xs.length ≤ sizeLine ∧ ∀ p, H1 p = none → Q (.ref p) (upd H1 p (.tup xs))
def tLst (t : TA) : TE := fun σ H Q => t σ H fun xs H1 => xs.length ≤ sizeLine ∧ ∀ p, H1 p = none → Q (.ref p) (upd H1 p (.lst xs))
theorem pe_tup {x1} (h : PA X es t) : PE X (.Tuple es x1 pos) (tTup t) := by
  intro pins s σ H Q I hq
  refine wpAny_Tuple_spliced (thn (h pos pins s σ H _ I hq) fun us s1 ⟨xs, H1, I1, r, z, q⟩ => ⟨by rw [← r.length]; exact z, ?_⟩)
  have hf : H1 s1.heap.objs.size = none := I1.hok.fresh (Nat.le_refl _)
  refine ⟨.ref s1.heap.objs.size, upd H1 s1.heap.objs.size (.tup xs), I1.laid (t' := s1.toks) (fun b u e => Heap.get?_push_of_some _ e) (Nat.le_refl _) ?_, rfl, q _ hf⟩
  exact ⟨z, us, r, ⟨_, Heap.get?_push_size _ rfl, rfl, _, rfl⟩⟩
theorem pe_lst (h : PA X es t) : PE X (.List es pos) (tLst t) := by
  intro pins s σ H Q I hq
  refine wpAny_List_spliced (thn (h pos pins s σ H _ I hq) fun us s1 ⟨xs, H1, I1, r, z, q⟩ => ⟨by rw [← r.length]; exact z, ?_⟩)
  have hf : H1 s1.heap.objs.size = none := I1.hok.fresh (Nat.le_refl _)
  refine ⟨.ref s1.heap.objs.size, upd H1 s1.heap.objs.size (.lst xs), I1.laid (t' := s1.toks) (fun b u e => Heap.get?_push_of_some _ e) (Nat.le_refl _) ?_, rfl, q _ hf⟩
  exact ⟨z, us, 0, r, Heap.get?_push_size _ rfl⟩
end

/-! ### what a def promises -/
/-- a def's promise: the bound arguments in the parameters' order, the heap, the wanted end, the wanted exception -/
abbrev Sp := List V → Hp → VK → XK → Prop
/-- how an exception lies behind a call (file 08 gives it): the callers' frames, abstract heap and state ahead of the call, the wish, the exception, the state -/
abbrev CXT := List Env → Hp → Shared → XK → Value → Shared → Prop

/-- the state at a call -/
structure Env0 (P : Program) (w : World) (K : PySem.W.Frag) (mg : Str → Option Value) (base : Heap) (A : Around) (outer : List Env) (s : Shared) (H : Hp) : Prop where
  frames : A.frames = some outer
  mod : Mod K mg base
  bs : ∀ b o, base.get? b = some o → s.heap.get? b = some o ∧ H b = none
  bsz : base.objs.size ≤ s.heap.objs.size
  funs : s.heap.FunFrames base outer
  frf : ∀ b ∈ frs outer, H b = none
  hok : HOk P w H s.heap
  bare : AllBare s.gens
/-- a call's end -/
def CE (outer : List Env) (P : Program) (w : World) (H : Hp) (s : Shared) (Q : VK) (u : Value) (s' : Shared) : Prop :=
  ∃ v H', s'.os = s.os ∧ AllBare s'.gens ∧ Un (frs outer) [] H H' s.heap s'.heap ∧ HOk P w H' s'.heap ∧ RelV v u ∧ Q v H'
def CR (CX : CXT) (outer : List Env) (P : Program) (w : World) (H : Hp) (s : Shared) (Q : VK) (E : XK) (r : Result) (s' : Shared) : Prop :=
  match r with
  | .ok (.ret u) => CE outer P w H s Q u s'
  | .ok _ => False
  | .error e => CX outer H s E e s'
structure FnOk (P : Program) (w : World) (K : PySem.W.Frag) (mg : Str → Option Value) (base : Heap) (CX : CXT) (k : Nat) (f : Addr) (fd : FuncData) (ps : List Str) (sp : Sp) : Prop where
  len : ∀ vs H Q E, sp vs H Q E → vs.length = ps.length
  run : ∀ (A : Around) (outer : List Env) (s : Shared) (H : Hp) (args : Args) (us : List Value) (vs : List V) (Q : VK) (E : XK), Room k A → Env0 P w K mg base A outer s H → BindsTo s fd args (ps.zip us) → Vals vs us → sp vs H Q E →
    codeAny (model P w) A (.call (.ref f) args) (CR CX outer P w H s Q E) s
/-- a weaker promise -/
theorem FnOk.imp {P : Program} {w : World} {K : PySem.W.Frag} {mg : Str → Option Value} {base : Heap} {CX : CXT} {k : Nat} {f : Addr} {fd : FuncData} {ps : List Str} {sp sp' : Sp} (F : FnOk P w K mg base CX k f fd ps sp)
    (h : ∀ vs H Q E, sp' vs H Q E → sp vs H Q E) : FnOk P w K mg base CX k f fd ps sp' :=
  ⟨fun vs H Q E q => F.len vs H Q E (h _ _ _ _ q), fun A outer s H args us vs Q E hr he hb hv hs => F.run A outer s H args us vs Q E hr he hb hv (h _ _ _ _ hs)⟩

section
variable {X : Cx} {pins : List (Addr × Obj)} {σ : St} {H : Hp} {s s' : Shared}
/-- from a body: what a callee wants -/
theorem Inv.env0 (I : Inv X pins σ H s) : Env0 X.prog X.w X.K X.mg X.base X.A X.stack s H :=
  ⟨I.ok.frames, I.ok.mod, I.bs, Nat.le_trans I.ok.bsz I.sz, I.stack, I.stkFree, I.hok, I.bare⟩
/-- behind a call -/
theorem Inv.after {Q : VK} {u : Value} (I : Inv X pins σ H s) (h : CE X.stack X.prog X.w H s Q u s') : EP X pins σ Q u s' := by
  obtain ⟨v, H', os, bare, un, hok, r, q⟩ := h
  obtain ⟨hh, g, d, t, os'⟩ := s'
  obtain rfl : os' = s.os := os
  exact ⟨v, H', I.call (h' := hh) (g' := g) (d' := d) (t' := t) (ch := []) un hok bare (fun b z => absurd z (by simp)), r, q⟩
end

/-! ### calls -/
/-- how the parameters are bound: us the positional arguments, kw the keywords' values by name, ds the defaults that fill up -/
def Binds (K : PySem.W.Frag) (fd : FuncData) (ps : List Str) (ds : List Value) : Prop :=
  ∀ (s : Shared) (us : List Value), K.In s.heap → (us ++ ds).length = ps.length → BindsTo s fd ⟨us, []⟩ (ps.zip (us ++ ds))
/-- every parameter is given -/
theorem Binds.all {K : PySem.W.Frag} {fd : FuncData} {ps : List Str} (h : ∀ us : List Value, us.length = ps.length → bindArgs fd ⟨us, []⟩ = pure (ps.zip us)) : Binds K fd ps [] := fun s us _ hl => by
  rw [List.append_nil] at hl ⊢
  exact .of_eq (h us hl)

section
variable {X : Cx} {CX : CXT} {k : Nat} {f C : Addr} {fd : FuncData} {ps : List Str} {sp : Sp} {dvs : List V} {ds : List Value} {E : XK} {x m : Str} {p pos apos : Pos} {e o : Expr} {es : List Expr} {ta : TE} {t : TA}

/-- what a class must have to be made -/
structure Mk (K : PySem.W.Frag) (C f : Addr) : Prop where
  makes : PySem.W.makesIn K C = true
  init : PySem.W.findIn K (.ref C) "__init__" = some (some (.ref f))
  fn : PySem.W.isFn K (.ref f) = true
  kp : PySem.W.keepIn K (.ref C) = true

end

/-! ### keywords -/
section
variable {X : Cx} {CX : CXT} {k : Nat} {f C : Addr} {fd : FuncData} {ps ks : List Str} {sp : Sp} {E : XK} {x m : Str} {p pos apos kpos : Pos} {e o : Expr} {es : List Expr} {kws : List Keyword} {te ta : TE} {t tk : TA} {nm : Option Str}
/-- how a call with keywords binds: g puts the positional values us and the keywords' values ws (names ks) in the parameters' order, defaults among them -/
structure KBinds (K : PySem.W.Frag) (fd : FuncData) (ps ks : List Str) (g : List Value → List Value → List Value) (gV : List V → List V → List V) : Prop where
  to : ∀ (s : Shared) (us ws : List Value), K.In s.heap → (g us ws).length = ps.length → BindsTo s fd ⟨us, ks.zip ws⟩ (ps.zip (g us ws))
  rel : ∀ {vs : List V} {us : List Value} {zs : List V} {ws : List Value}, Vals vs us → Vals zs ws → Vals (gV vs zs) (g us ws)
variable {g : List Value → List Value → List Value} {gV : List V → List V → List V}
end

/-! ### a def's body keeps its promise -/
/-- names: the parameters first -/
structure FnScope (N P : List Str) (sc : Scope) : Prop where
  kind : sc.kind = .function
  co : sc.isCoroutine = false
  gen : sc.isGenerator = false
  nd : N.Nodup
  pre : N.take P.length = P
  par : ∀ x ∈ P, sc.names.lookup x = some .local ∨ sc.names.lookup x = some .cell
  nofree : ∀ y ∈ sc.names, y.2 ≠ .free

theorem bindL_out {kindOf : Str → Option NameKind} {x : Str} : ∀ {binds : List (Str × Value)} {m : Str → Option Value}, (∀ v, (x, v) ∉ binds) → bindL kindOf binds m x = m x
  | [], _, _ => rfl
  | (n, v) :: r, m, h => by
    unfold bindL
    rw [bindL_out fun w hw => h w (List.mem_cons_of_mem _ hw)]
    split
    · have : x ≠ n := by rintro rfl; exact h v List.mem_cons_self
      simp [this]
    · rfl
theorem bindC_out {kindOf : Str → Option NameKind} {x : Str} : ∀ {binds : List (Str × Value)} {m : Str → Option Value}, (∀ v, (x, v) ∉ binds) → bindC kindOf binds m x = m x
  | [], _, _ => rfl
  | (n, v) :: r, m, h => by
    unfold bindC
    rw [bindC_out fun w hw => h w (List.mem_cons_of_mem _ hw)]
    split
    · rfl
    · have : x ≠ n := by rintro rfl; exact h v List.mem_cons_self
      simp [this]
theorem bindL_get {kindOf : Str → Option NameKind} {x : Str} {v : Value} : ∀ {P : List Str} {vs : List Value} {i : Nat} {m : Str → Option Value}, P.Nodup → P[i]? = some x → vs[i]? = some v → kindOf x = some .local →
    bindL kindOf (P.zip vs) m x = some v
  | [], _, _, _, _, h, _, _ => by simp at h
  | _ :: _, [], _, _, _, _, h, _ => by simp at h
  | p :: P, w :: vs, 0, m, nd, h1, h2, hk => by
    simp at h1 h2; subst h1; subst h2
    show bindL kindOf ((p, w) :: P.zip vs) m p = _
    unfold bindL
    rw [bindL_out fun v hv => (List.nodup_cons.mp nd).1 (List.of_mem_zip hv).1, if_pos hk]
    simp
  | p :: P, w :: vs, i + 1, m, nd, h1, h2, hk => by
    show bindL kindOf ((p, w) :: P.zip vs) m x = _
    unfold bindL
    exact bindL_get (i := i) (List.nodup_cons.mp nd).2 (by simpa using h1) (by simpa using h2) hk
theorem bindC_get {kindOf : Str → Option NameKind} {x : Str} {v : Value} : ∀ {P : List Str} {vs : List Value} {i : Nat} {m : Str → Option Value}, P.Nodup → P[i]? = some x → vs[i]? = some v → kindOf x ≠ some .local →
    bindC kindOf (P.zip vs) m x = some v
  | [], _, _, _, _, h, _, _ => by simp at h
  | _ :: _, [], _, _, _, _, h, _ => by simp at h
  | p :: P, w :: vs, 0, m, nd, h1, h2, hk => by
    simp at h1 h2; subst h1; subst h2
    show bindC kindOf ((p, w) :: P.zip vs) m p = _
    unfold bindC
    rw [bindC_out fun v hv => (List.nodup_cons.mp nd).1 (List.of_mem_zip hv).1, if_neg hk]
    simp
  | p :: P, w :: vs, i + 1, m, nd, h1, h2, hk => by
    show bindC kindOf ((p, w) :: P.zip vs) m x = _
    unfold bindC
    exact bindC_get (i := i) (List.nodup_cons.mp nd).2 (by simpa using h1) (by simpa using h2) hk

/-- the names' values at the entry -/
def start (N : List Str) (vs : List V) : St := vs.map some ++ List.replicate (N.length - vs.length) none

/-- the context of a def's body, at its entry; an exception leaves the frame, then lies as CX says -/
def cxOf (CX : CXT) (P : Program) (w : World) (K : PySem.W.Frag) (mg : Str → Option Value) (base : Heap) (N : List Str) (qual : Str) (scope : Scope) (f : Addr) (cd : Value) (A : Around) (outer : List Env) (s : Shared) (H : Hp) (E : XK) : Cx where
  prog := P
  w := w
  K := K
  mg := mg
  base := base
  A := A.deeper (envOfC qual scope s.heap.objs.size f cd)
  N := N
  s₀ := s
  H₀ := H
  env := envOfC qual scope s.heap.objs.size f cd
  outer := outer
  stack := envOfC qual scope s.heap.objs.size f cd :: outer
  ex := []
  calm := true
  fn := fun _ => true
  pn := []
  xe := fun e s' => wpAny (model P w) (A.deeper (envOfC qual scope s.heap.objs.size f cd)) (leaving (envOfC qual scope s.heap.objs.size f cd) e) (fun _ s'' => CX outer H s E e s'') (fun e' s'' => CX outer H s E e' s'') s'

theorem cell_has {sc : Scope} {n : Nat} {x : Str} (h : sc.names.lookup x = some .cell) : ∃ c, (cellsFrom n sc.names []).lookup x = some c := by
  have q := PySem.W.cellsFrom_some sc.names n [] (.inl h)
  exact Option.isSome_iff_exists.mp q

theorem inv_start {CX : CXT} {P : Program} {w : World} {K : PySem.W.Frag} {mg : Str → Option Value} {base : Heap} {N ps : List Str} {qual : Str} {scope : Scope} {f : Addr} {cd : Value} {A : Around} {outer : List Env} {s s1 : Shared} {H : Hp} {E : XK} {us : List Value} {vs : List V}
    (S : FnScope N ps scope) (hd : A.handled = none) (e0 : Env0 P w K mg base A outer s H) (hl : vs.length = ps.length) (r : Vals vs us)
    (x : InCallC s s.heap.objs.size (bindL (envOfC qual scope s.heap.objs.size f cd).kindOf (ps.zip us) fun _ => none) (cellsFrom (s.heap.objs.size + 1) scope.names []) (bindC (envOfC qual scope s.heap.objs.size f cd).kindOf (ps.zip us) fun _ => none) s1) :
    Inv (cxOf CX P w K mg base N qual scope f cd A outer s H E) [] (start N vs) H s1 := by
  have hpl : ps.length ≤ N.length := by have := congrArg List.length S.pre; rw [List.length_take] at this; omega
  obtain ⟨h1, tk, rfl, hk⟩ := x.done
  have noA : ∀ b : Addr, b ∉ (cxOf CX P w K mg base N qual scope f cd A outer s H E).ex := fun b z => absurd (show b ∈ ([] : List Addr) from z) (by simp)
  refine ⟨⟨e0.mod, S.kind, rfl, rfl, Nat.le_refl _, fun y z c h1 h2 => ?_, fun y hy => ?_, fun y c _ h => ?_, fun _ => hd, Around.frames_deeper e0.frames, .inr ⟨rfl, rfl⟩, fun b z => absurd z (noA b), e0.bs, e0.bsz, fun b _ _ => noA b, fun b z => absurd z (noA b), e0.funs, e0.frf⟩,
    rfl, e0.bare, Un.kept hk, ⟨_, x.toInCall.ns, fun i y v h1 h2 h3 => ?_⟩, fun y c h => ⟨_, x.cell y c h⟩, e0.hok.fresh (Nat.le_refl _), fun y c h => ?_, fun p hp => absurd (show p ∈ ([] : List (Addr × Obj)) from hp) (by simp), e0.hok.kept hk, ?_⟩
  · exact name_of_addr x.apart (PySem.mem_of_lookup h1) (PySem.mem_of_lookup h2)
  · have hy : scope.names.lookup y = some .cell ∨ scope.names.lookup y = some .free := hy
    rcases hy with hy | hy
    · exact cell_has hy
    · exact absurd rfl (S.nofree _ (PySem.mem_of_lookup hy))
  · exact Nat.le_of_lt (x.above y c (PySem.mem_of_lookup h))
  · have hi : i < vs.length := by
      unfold start at h2
      by_cases hi : i < vs.length
      · exact hi
      · rw [List.getElem?_append_right (by simpa using hi)] at h2
        rw [List.getElem?_replicate] at h2
        split at h2 <;> cases h2
    have ha : vs[i]? = some v := by
      unfold start at h2
      rw [List.getElem?_append_left (by simpa using hi), List.getElem?_map] at h2
      cases e : vs[i]? with
      | none => rw [e] at h2; cases h2
      | some a => rw [e] at h2; cases h2; rfl
    obtain ⟨u, hu, rv⟩ := r.get ha
    have hp : ps[i]? = some y := by
      rw [← S.pre, List.getElem?_take_of_lt (by omega)]; exact h1
    have ndP : ps.Nodup := by rw [← S.pre]; exact S.nd.sublist (List.take_sublist _ _)
    refine ⟨u, rv, ?_⟩
    rcases S.par y (List.mem_of_getElem? hp) with k | k
    · exact .inl ⟨k, bindL_get ndP hp hu k⟩
    · obtain ⟨c, e⟩ := cell_has (n := s.heap.objs.size + 1) k
      refine .inr ⟨.inl k, c, e, ?_⟩
      have q := x.cell y c e
      rw [bindC_get ndP hp hu (by show scope.names.lookup y ≠ _; rw [k]; decide)] at q
      exact q
  · exact e0.hok.fresh (Nat.le_of_lt (x.above y c (PySem.mem_of_lookup h)))
  · unfold start
    show _ = N.length
    rw [List.length_append, List.length_map, List.length_replicate]
    omega

/-- THE RULE: a def (or a method) of the text, by its body. The body's reading t is chosen for each entry; it is run at the parameters' values -/
theorem fn_of {CX : CXT} {P : Program} {w : World} {K : PySem.W.Frag} {mg : Str → Option Value} {base : Heap} {k : Nat} {f : Addr} {name qual : Str} {params : Arguments} {body : List Stmt} {scope : Scope} {dV kV doc pm cdv ct oc : Value} {an od : Option Addr}
    {osl : Array (Option Value)} {N ps : List Str} {sp : Sp} (lk : K.lookup f = some ⟨oc, od, .func (PySem.W.fnOf name qual params body scope dV kV doc pm an cdv ct), osl⟩) (hcd : PySem.W.codeIn K cdv qual = true) (S : FnScope N ps scope)
    (len : ∀ vs H Q E, sp vs H Q E → vs.length = ps.length)
    (hbody : ∀ (A : Around) (outer : List Env) (s : Shared) (H : Hp) (vs : List V) (Q : VK) (E : XK), Room k (A.deeper (envOfC qual scope s.heap.objs.size f cdv)) → sp vs H Q E →
      ∃ t, PSs (cxOf CX P w K mg base N qual scope f cdv A outer s H E) body t ∧ t { nx := fun _ H' => Q .non H', rt := Q } (start N vs) H) :
    FnOk P w K mg base CX (k + 1) f (PySem.W.fnOf name qual params body scope dV kV doc pm an cdv ct) ps sp := by
  refine ⟨len, fun A outer s H args us vs Q E hr e0 hb r hsp => ?_⟩
  have hl := len _ _ _ _ hsp
  have KX : K.In s.heap := e0.mod.kin.keeps fun b o e => (e0.bs b o e).1
  have lim : s.heap.NoLimit := e0.mod.nolimit.keeps fun b o e => (e0.bs b o e).1
  have hkind : ∀ y ∈ ps.zip us, scope.names.lookup y.1 = some .local ∨ (scope.names.lookup y.1 = some .cell ∧ ((cellsFrom (s.heap.objs.size + 1) scope.names []).lookup y.1).isSome = true) := fun ⟨n, v⟩ hy => by
    rcases S.par n (List.of_mem_zip hy).1 with q | q
    · exact .inl q
    · exact .inr ⟨q, PySem.W.cellsFrom_some _ _ _ (.inl q)⟩
  refine codeAny_call_function hr.depth (KX _ _ lk) rfl S.co S.gen rfl (PySem.W.codeRec_of KX hcd) (hb _ _ _ _ ?_)
  refine wpAny_newFunctionEnv_cells S.kind hkind fun env he s1 x => ?_
  subst he
  refine ⟨lim.keeps x.toInCall.keep, codeAny_func ?_⟩
  obtain ⟨t, ht, hq⟩ := hbody A outer s H vs Q E (hr.deeper _) hsp
  have I : Inv (cxOf CX P w K mg base N qual scope f cdv A outer s H E) [] (start N vs) H s1 := inv_start S hr.hd e0 hl r x
  refine wpAny_mono (ht [] s1 (start N vs) H _ I hq) (fun fl s' hs => ?_) fun e s' hs => hs
  have fin : ∀ {σ' : St} {H' : Hp} {v : V} {u : Value}, Inv (cxOf CX P w K mg base N qual scope f cdv A outer s H E) [] σ' H' s' → RelV v u → Q v H' → CE outer P w H s Q u s' :=
    fun {σ' H' v u} J rv q => ⟨v, H', J.os, J.bare, J.base, J.hok, rv, q⟩
  cases fl with
  | ret u =>
    obtain ⟨v, σ', H', J, rv, q⟩ := hs
    exact fin J rv q
  | next =>
    obtain ⟨σ', H', J, q⟩ := hs
    exact fin (v := V.non) (u := Value.none) J rfl q
  | brk =>
    obtain ⟨_, _, _, q⟩ := hs
    exact False.elim q
  | cont =>
    obtain ⟨_, _, _, q⟩ := hs
    exact False.elim q
end L2

namespace L2
open PySem PySem.Spec PyProof.Rows
section
variable {X : Cx} {x : Str} {p pos : Pos} {e : Expr} {es : List Expr} {t : TA} {id T : String} {r : List V → Hp → VK → Prop}

def tCB (r : List V → Hp → VK → Prop) (t : TA) : TE := fun σ H Q => t σ H fun vs H1 => r vs H1 Q
/-- f(e, ..), f a built-in function -/
theorem pe_callB (hc : CallR X (.builtin id) r) (hg : Gl X x) (hm : X.mg x = none) (hv : bootBuiltins x = some (.builtin id)) (ha : PA X (e :: es) t) (hn : x ≠ "__name__" := by decide) (hdb : (x == ("__debug__" : Str)) = false := by decide)
    (he : starEach (e :: es) X.env = (false, eval e X.env) :: starEach es X.env := by rfl) (hpl : (backTo pos (starEach es X.env)).any (·.1) = false := by rfl) : PE X (.Call (.Name x p) (e :: es) [] pos) (tCB r t) := by
  intro pins s σ H Q I h
  refine wpAny_Call_Name_kw (ld_blt I hg hm hv ?_ hn hdb)
  exact PyProof.Rows.callWith_builtin1 (thn (ha pos pins s σ H _ I h) fun us s1 ⟨vs, H1, I1, r1, q1⟩ => hc pins s1 σ H1 vs us Q I1 r1 q1) he hpl
/-- T(e, ..), T a built-in type -/
theorem pe_callTy (hc : CallR X (.type T) r) (hg : Gl X x) (hm : X.mg x = none) (hv : bootBuiltins x = some (.type T)) (ha : PA X (e :: es) t) (hn : x ≠ "__name__" := by decide) (hdb : (x == ("__debug__" : Str)) = false := by decide)
    (he : starEach (e :: es) X.env = (false, eval e X.env) :: starEach es X.env := by rfl) (hpl : (backTo pos (starEach es X.env)).any (·.1) = false := by rfl) : PE X (.Call (.Name x p) (e :: es) [] pos) (tCB r t) := by
  intro pins s σ H Q I h
  refine wpAny_Call_Name_kw (ld_blt I hg hm hv ?_ hn hdb)
  exact PyProof.Rows.callWith_type1 (thn (ha pos pins s σ H _ I h) fun us s1 ⟨vs, H1, I1, r1, q1⟩ => hc pins s1 σ H1 vs us Q I1 r1 q1) he hpl
end
end L2

namespace HT
open PySem PyProof.Rows

section
open PySem.SeqAt
open PySem.AutoSeq1 (wpAny_loadPart')
open PySem.MeetsSeq PySem.MeetsSeq2 PySem.MeetsSeq3

end

section
variable {prog : Program} {w : World} {A : Around} {E : Value → Shared → Prop} {s : Shared}

/-! ### t[a:b], not the whole -/
/-- a slice's bound as a place among n (d where it is left out) -/
def sIx (n d : Nat) : Option Int → Nat
  | none => d
  | some v => if v < 0 then (v + (n : Int)).toNat else min v.toNat n
theorem sIx_nat (n d k : Nat) : sIx n d (some (k : Int)) = min k n := by
  show (if (k : Int) < 0 then ((k : Int) + (n : Int)).toNat else min (k : Int).toNat n) = min k n
  rw [if_neg (by omega), Int.toNat_natCast]
end
end HT

namespace L2
open PySem PySem.Spec PyProof.Rows

/-! ### the parts of a slice -/
abbrev TO := St → Hp → (Option Int → Hp → Prop) → Prop
/-- a slice's part (left out, or an int) -/
def PO (X : Cx) (e : Option Expr) (t : TO) : Prop :=
  ∀ (pins : List (Addr × Obj)) (s : Shared) (σ : St) (H : Hp) (Q : Option Int → Hp → Prop), Inv X pins σ H s → t σ H Q →
    wpAny (model X.prog X.w) X.A (evalPart e X.env) (fun u s' => ∃ o H', Inv X pins σ H' s' ∧ IsPart u o ∧ Q o H') X.xe s
def tNoPart : TO := fun _ H Q => Q none H
def tPart (t : TE) : TO := fun σ H Q => t σ H fun x H1 => ∃ i, x = .int i ∧ Q (some i) H1

section
variable {X : Cx} {e : Expr} {te : TE} {lo hi : Option Expr} {tl th : TO} {pos p2 : Pos}

theorem po_none : PO X none tNoPart := by
  intro pins s σ H Q I h
  rw [evalPart_none]
  exact wpAny_pure ⟨none, H, I, .none, h⟩
theorem po_some (h : PE X e te) : PO X (some e) (tPart te) := by
  intro pins s σ H Q I hw
  rw [evalPart_some]
  refine thn (h pins s σ H _ I hw) fun u s1 ⟨x, H1, I1, r1, q1⟩ => ?_
  obtain ⟨i, rfl, q⟩ := q1
  obtain ⟨t, rfl⟩ := r1
  exact ⟨some i, H1, I1, .int i t, q⟩

/-- what a slice of a value is, by values: the slice object stands at sl -/
def SlR (X : Cx) (r : V → Option Int → Option Int → Hp → VK → Prop) : Prop :=
  ∀ (pins : List (Addr × Obj)) (s : Shared) (σ : St) (H : Hp) (x : V) (v vl vu : Value) (lo hi : Option Int) (sl : Addr) (Q : VK), Inv X pins σ H s → RelV x v → s.heap.IsSliceOf sl vl vu .none → IsPart vl lo → IsPart vu hi → r x lo hi H Q →
    ∃ T id, typeLookup (.type T) "__getitem__" = pure (some (.builtin id)) ∧ s.TypeIs v T ∧ wpAny (model X.prog X.w) X.A (getItem v (.ref sl)) (EP X pins σ Q) X.xe s
def tSl (r : V → Option Int → Option Int → Hp → VK → Prop) (te : TE) (tl th : TO) : TE := fun σ H Q => te σ H fun x H1 => tl σ H1 fun l H2 => th σ H2 fun u H3 => r x l u H3 Q
/-- a[lo:hi], any a -/
theorem pe_slice {r : V → Option Int → Option Int → Hp → VK → Prop} (hr : SlR X r) (he : PE X e te) (hl : PO X lo tl) (hu : PO X hi th) : PE X (.Subscript e (.Slice lo hi none p2) pos) (tSl r te tl th) := by
  intro pins s σ H Q I h
  refine Subscript_ (thn (he pins s σ H _ I h) fun v s1 ⟨x, H1, I1, r1, q1⟩ => ?_)
  refine wpAny_Slice (thn (hl pins s1 σ H1 _ I1 q1) fun vl s2 ⟨l, H2, I2, pl, q2⟩ => thn (hu pins s2 σ H2 _ I2 q2) fun vu s3 ⟨u, H3, I3, pu, q3⟩ => ?_)
  rw [evalPart_none]
  refine wpAny_pure ?_
  have I4 : Inv X pins σ H3 { s3 with heap := s3.heap.push { cls := .type "slice", data := .fields #[vl, vu, .none] } } := I3.kept (t' := s3.toks) fun b ob q => Heap.get?_push_of_some _ q
  obtain ⟨T, id, hT, ht, hg⟩ := hr pins { s3 with heap := s3.heap.push { cls := .type "slice", data := .fields #[vl, vu, .none] } } σ H3 x v vl vu l u s3.heap.objs.size Q I4 r1 (Heap.IsSliceOf.new ..) pl pu q3
  show wpAny (model X.prog X.w) X.A (subscriptTail e (.Slice lo hi none p2) v (.ref s3.heap.objs.size)) (EP X pins σ Q) X.xe { s3 with heap := s3.heap.push { cls := .type "slice", data := .fields #[vl, vu, .none] } }
  exact tail_any (ops := [.ref s3.heap.objs.size, v]) ht hT hg (by with_unfolding_all rfl)

/-- the items of xs[lo:hi] -/
def cutV (xs : List V) (lo hi : Option Int) : List V := (xs.drop (HT.sIx xs.length 0 lo)).take (HT.sIx xs.length xs.length hi - HT.sIx xs.length 0 lo)
theorem cutV_length (xs : List V) (lo hi : Option Int) : (cutV xs lo hi).length ≤ xs.length := by
  unfold cutV
  rw [List.length_take, List.length_drop]
  omega
/-! ### t < u, t + u -/
end
end L2

namespace L2
open PySem PySem.Spec PyProof.Rows

/-! ### places -/
/-- the place that an index of any sign means -/
def ixN (n : Nat) (i : Int) : Option Nat := if 0 ≤ i then (if i < n then some i.toNat else none) else if -(n : Int) ≤ i then some (i + n).toNat else none
def atI {α : Type} (xs : List α) (i : Int) : Option α := (ixN xs.length i).bind fun j => xs[j]?
theorem ixN_seq {n : Nat} {i : Int} {j : Nat} (h : ixN n i = some j) : seqIndex? i n = some j ∧ j < n ∧ -(n : Int) ≤ i ∧ i < n := by
  unfold ixN at h
  by_cases h0 : 0 ≤ i
  · rw [if_pos h0] at h
    by_cases h1 : i < n
    · rw [if_pos h1] at h
      have e : i.toNat = j := Option.some.inj h
      exact ⟨by rw [seqIndex_of h0 h1, e], by omega, by omega, h1⟩
    · rw [if_neg h1] at h; cases h
  · rw [if_neg h0] at h
    by_cases h1 : -(n : Int) ≤ i
    · rw [if_pos h1] at h
      have e : (i + n).toNat = j := Option.some.inj h
      exact ⟨by rw [seqIndex_neg (by omega) h1, e], by omega, h1, by omega⟩
    · rw [if_neg h1] at h; cases h
theorem atI_get {α : Type} {xs : List α} {i : Int} {v : α} (h : atI xs i = some v) : ∃ j, seqIndex? i xs.length = some j ∧ xs[j]? = some v ∧ j < xs.length ∧ -(xs.length : Int) ≤ i ∧ i < xs.length := by
  unfold atI at h
  cases e : ixN xs.length i with
  | none => rw [e] at h; cases h
  | some j =>
    rw [e] at h
    obtain ⟨h1, h2, h3, h4⟩ := ixN_seq e
    exact ⟨j, h1, h, h2, h3, h4⟩
theorem atI_nat {α : Type} {xs : List α} {j : Nat} {v : α} (h : xs[j]? = some v) : atI xs (j : Int) = some v := by
  have hj : j < xs.length := (List.getElem?_eq_some_iff.mp h).1
  have e : ixN xs.length (j : Int) = some j := by
    unfold ixN
    rw [if_pos (by omega), if_pos (by omega)]; simp
  unfold atI; rw [e]; exact h
/-! ### what may be subscripted -/
/-- what stands as an index of a plain subscript -/
def PlainIx (b : Expr) : Prop := ∀ o i, subscripted b false o i = operate [o, i] (getItem o i)
/-- a subscript by values -/
def IxR (X : Cx) (r : R2) : Prop :=
  ∀ (value slice : Expr) (pins : List (Addr × Obj)) (s : Shared) (σ : St) (H : Hp) (x y : V) (v u : Value) (Q : VK), Inv X pins σ H s → RelV x v → RelV y u → r x y H Q →
    subscripted slice false v u = operate [v, u] (getItem v u) → wpAny (model X.prog X.w) X.A (subscriptTail value slice v u) (EP X pins σ Q) X.xe s
/-- a call of a builtin's method by values: the receiver, the arguments -/
def MtR (X : Cx) (id : String) (r : V → List V → Hp → VK → Prop) : Prop :=
  ∀ (pins : List (Addr × Obj)) (s : Shared) (σ : St) (H : Hp) (x : V) (xs : List V) (v : Value) (us : List Value) (Q : VK), Inv X pins σ H s → RelV x v → Vals xs us → r x xs H Q →
    wpAny (model X.prog X.w) X.A (call (.builtin id) (v :: us)) (EP X pins σ Q) X.xe s
section
variable {X : Cx} {a b : Expr} {ta tb : TE} {pos : Pos}
/-- a[b] -/
theorem pe_ix {r : R2} (hr : IxR X r) (ha : PE X a ta) (hb : PE X b tb) (hs : PlainIx b) : PE X (.Subscript a b pos) (tOp r ta tb) := by
  intro pins s σ H Q I h
  exact Subscript_ (binT ha hb I h fun v u s2 x y H2 I2 rx ry q => hr a b pins s2 σ H2 x y v u Q I2 rx ry q (hs _ _))

def rIxL (K : PySem.W.Frag) : R2 := fun x y H Q => ∃ p xs i v, x = .ref p ∧ y = .int i ∧ SqL K H p xs ∧ atI xs i = some v ∧ Q v H
def rIxS : R2 := fun x y H Q => ∃ z i c, x = .str z ∧ y = .int i ∧ z.length ≤ sizeLine ∧ atI z.cps.toList i = some c ∧ Q (.str ⟨#[c]⟩) H
theorem ix_list : IxR X (rIxL X.K) := by
  intro value slice pins s σ H x y v u Q I rx ry h hs
  obtain ⟨p, xs, i, z, rfl, rfl, hq, he, q⟩ := h
  cases rx
  obtain ⟨t, rfl⟩ := ry
  obtain ⟨its, r, pl, hz⟩ := I.list hq
  obtain ⟨j, h1, h2, h3, h4, h5⟩ := atI_get he
  obtain ⟨w, ew, rw'⟩ := r.get h2
  have hl := r.length
  have hn := line63
  have fin : EP X pins σ Q w s := ⟨z, H, I, rw', q⟩
  by_cases h0 : 0 ≤ i
  · have hj : i.toNat = j := by
      rw [seqIndex_of h0 h5] at h1
      exact Option.some.inj h1
    exact item_listR pl.isList h0 (by omega) (by rw [hj]; simpa using ew) fin hs
  · have hj : (i + (its.toArray.size : Int)).toNat = j := by
      rw [seqIndex_neg (by omega) h4] at h1
      rw [List.size_toArray, ← hl]
      exact Option.some.inj h1
    exact subscriptTail_builtinR (x := w) pl.isList.typeIs slot_list_getitem.lookup
      (wpAny_getItem_list_neg (Q := fun r s' => r = w ∧ EP X pins σ Q r s') pl.isList (by omega) (by rw [List.size_toArray] <;> omega) (by omega) (by rw [hj]; simpa using ew) ⟨rfl, fin⟩) hs
theorem ix_str : IxR X rIxS := by
  intro value slice pins s σ H x y v u Q I rx ry h hs
  obtain ⟨z, i, c, rfl, rfl, hz, he, q⟩ := h
  obtain ⟨t, rfl⟩ := rx
  obtain ⟨t', rfl⟩ := ry
  obtain ⟨j, h1, h2, h3, h4, h5⟩ := atI_get he
  have hl : z.cps.toList.length = z.length := by simp [Str.length]
  rw [hl] at h1 h4 h5
  have hn := line63
  exact tail_any (typeIs_str s z t) slot_str_getitem.lookup (getItem_str (c := c) (by
    have e1 : decide (i < -(2 ^ 63 : Int)) = false := decide_eq_false (by omega)
    have e2 : decide (i ≥ 2 ^ 63) = false := decide_eq_false (by omega)
    rw [e1, e2, Bool.or_false]) (by rw [h1]; simpa using h2) ⟨.str ⟨#[c]⟩, H, I.tok _, ⟨_, rfl⟩, q⟩) hs
/-! ### xs[i] = v, any sign -/
/-! ### slices -/
theorem slice_bounds (lo hi : Option Int) (n : Nat) : (sliceBounds lo hi none n).1 = ((HT.sIx n 0 lo : Nat) : Int) ∧ (sliceBounds lo hi none n).2.1 = ((HT.sIx n n hi : Nat) : Int) ∧ (sliceBounds lo hi none n).2.2 = 1 := by
  refine ⟨?_, ?_, rfl⟩
  · cases lo with
    | none => simp [sliceBounds, HT.sIx]
    | some i =>
      simp only [sliceBounds, HT.sIx, Option.getD_none, show (1 : Int) > 0 by decide, if_true]
      by_cases h : i < 0
      · simp only [h, if_true] <;> omega
      · simp only [h, if_false] <;> omega
  · cases hi with
    | none => simp [sliceBounds, HT.sIx]
    | some i =>
      simp only [sliceBounds, HT.sIx, Option.getD_none, show (1 : Int) > 0 by decide, if_true]
      by_cases h : i < 0
      · simp only [h, if_true] <;> omega
      · simp only [h, if_false] <;> omega
theorem slicePick_cut (its : List Value) (lo hi : Option Int) : slicePick its.toArray lo hi none = ((its.drop (HT.sIx its.length 0 lo)).take (HT.sIx its.length its.length hi - HT.sIx its.length 0 lo)).toArray := by
  obtain ⟨h1, h2, h3⟩ := slice_bounds lo hi its.toArray.size
  unfold slicePick
  rw [h1, h2, h3]
  simp only [sliceRange_one, pick_run, List.size_toArray] <;> rfl
/-- xs[lo:hi] of a list: a new list -/
def rSlL (K : PySem.W.Frag) : V → Option Int → Option Int → Hp → VK → Prop := fun x lo hi H Q => ∃ a xs, x = .ref a ∧ SqL K H a xs ∧ ∀ p, H p = none → Q (.ref p) (upd H p (.lst (cutV xs lo hi)))
theorem sl_list : SlR X (rSlL X.K) := by
  intro pins s σ H x v vl vu lo hi sl Q I rx hs pl pu h
  obtain ⟨a, xs, rfl, hx, q⟩ := h
  cases rx
  obtain ⟨its, r, ht, hz⟩ := I.list hx
  have hlen := r.length
  refine ⟨"list", _, slot_list_getitem.lookup, ht.isList.typeIs, ?_⟩
  refine wpAny_getItem_list_slice ht.isList hs pl pu .none (by simp) ?_ (by rw [List.size_toArray] <;> omega)
  rw [slicePick_cut, ← hlen]
  refine ⟨.ref s.heap.objs.size, _, I.laid (t' := s.toks) (o := .lst (cutV xs lo hi)) (fun b ob q => Heap.get?_push_of_some _ q) (Nat.le_refl _) ?_, rfl, q _ (I.hok.fresh (Nat.le_refl _))⟩
  exact ⟨Nat.le_trans (cutV_length xs lo hi) hz, _, 0, (r.drop (HT.sIx xs.length 0 lo)).take (HT.sIx xs.length xs.length hi - HT.sIx xs.length 0 lo), Heap.get?_push_size _ rfl⟩

/-! ### in, not in: flat items -/
def flatV : V → Bool
  | .non => true
  | .bl _ => true
  | .int _ => true
  | .str _ => true
  | _ => false
/-- == of flat values -/
def eqV : V → V → Bool
  | .non, .non => true
  | .bl a, .bl b => a == b
  | .bl a, .int b => (if a then 1 else 0) == b
  | .int a, .bl b => a == (if b then 1 else 0)
  | .int a, .int b => a == b
  | .str a, .str b => a == b
  | _, _ => false
theorem eqAt_V {A : Around} {s : Shared} {y x : V} {u v : Value} (ry : RelV y u) (rx : RelV x v) (fy : flatV y = true) (fx : flatV x = true) : SeqAt.EqAt A s u v (eqV y x) := by
  cases y with
  | non =>
    cases ry
    cases x with
    | non => cases rx; exact SeqAt.EqAt.same _
    | bl b => cases rx; exact SeqAt.EqAt.none_bool b
    | int b => obtain ⟨t, rfl⟩ := rx; exact SeqAt.EqAt.none_int b t
    | str b => obtain ⟨t, rfl⟩ := rx; exact SeqAt.EqAt.none_str b t
    | _ => exact absurd (show false = true from fx) Bool.false_ne_true
  | bl a =>
    cases ry
    cases x with
    | non => cases rx; exact SeqAt.EqAt.bool_none a
    | bl b => cases rx; exact SeqAt.EqAt.bool_bool a b
    | int b => obtain ⟨t, rfl⟩ := rx; exact SeqAt.EqAt.bool_int a b t
    | str b => obtain ⟨t, rfl⟩ := rx; exact SeqAt.EqAt.bool_str a b t
    | _ => exact absurd (show false = true from fx) Bool.false_ne_true
  | int a =>
    obtain ⟨t', rfl⟩ := ry
    cases x with
    | non => cases rx; exact SeqAt.EqAt.int_none a t'
    | bl b => cases rx; exact SeqAt.EqAt.int_bool a t' b
    | int b => obtain ⟨t, rfl⟩ := rx; exact SeqAt.EqAt.int_int a t' b t
    | str b => obtain ⟨t, rfl⟩ := rx; exact SeqAt.EqAt.int_str a t' b t
    | _ => exact absurd (show false = true from fx) Bool.false_ne_true
  | str a =>
    obtain ⟨t', rfl⟩ := ry
    cases x with
    | non => cases rx; exact SeqAt.EqAt.str_none a t'
    | bl b => cases rx; exact SeqAt.EqAt.str_bool a t' b
    | int b => obtain ⟨t, rfl⟩ := rx; exact SeqAt.EqAt.str_int a t' b t
    | str b => obtain ⟨t, rfl⟩ := rx; exact SeqAt.EqAt.str_str a t' b t
    | _ => exact absurd (show false = true from fx) Bool.false_ne_true
  | _ => exact absurd (show false = true from fy) Bool.false_ne_true
/-- the items' answers, read off the values (a value's own answer does not lean on its token) -/
def eqU (x : V) (u : Value) : Bool := match u with
  | .none => eqV .non x
  | .bool b => eqV (.bl b) x
  | .int i _ => eqV (.int i) x
  | .str z _ => eqV (.str z) x
  | _ => false
theorem eqU_of {x y : V} {u : Value} (r : RelV y u) (f : flatV y = true) : eqU x u = eqV y x := by
  cases y with
  | non => cases r; rfl
  | bl b => cases r; rfl
  | int i => obtain ⟨t, rfl⟩ := r; rfl
  | str z => obtain ⟨t, rfl⟩ := r; rfl
  | _ => exact absurd (show false = true from f) Bool.false_ne_true
theorem any_eqU {x : V} : ∀ {xs : List V} {us : List Value}, Vals xs us → xs.all flatV = true → us.any (eqU x) = xs.any fun y => eqV y x
  | _, _, .nil, _ => rfl
  | y :: xs, u :: us, .cons r t, f => by
    rw [List.all_cons, Bool.and_eq_true] at f
    rw [List.any_cons, List.any_cons, eqU_of r f.1, any_eqU t f.2]
theorem mem_eqAt {A : Around} {s : Shared} {x : V} {v : Value} (rx : RelV x v) (fx : flatV x = true) : ∀ {xs : List V} {us : List Value}, Vals xs us → xs.all flatV = true → ∀ u ∈ us, SeqAt.EqAt A s u v (eqU x u)
  | _, _, .nil, _ => fun u hu => by cases hu
  | y :: xs, u :: us, .cons r t, f => fun u' hu => by
    rw [List.all_cons, Bool.and_eq_true] at f
    rcases List.mem_cons.mp hu with rfl | hu
    · rw [eqU_of r f.1]; exact eqAt_V r rx f.1 fx
    · exact mem_eqAt rx fx t f.2 u' hu
def inV (x : V) (xs : List V) : Bool := xs.any fun y => eqV y x
/-- x in a list or tuple of flat items -/
def rIn (K : PySem.W.Frag) (neg : Bool) : R2 := fun x y H Q => ∃ p xs, y = .ref p ∧ (SqL K H p xs ∨ SqT K H p xs) ∧ flatV x = true ∧ xs.all flatV = true ∧ Q (.bl (if neg then !inV x xs else inV x xs)) H
theorem op_in_seq : OpR X (compareOp .In) (rIn X.K false) := by
  intro pins s σ H x y v u Q I rx ry h
  obtain ⟨p, xs, rfl, hq, fx, fs, q⟩ := h
  cases ry
  rcases hq with hq | hq
  · obtain ⟨its, r, pl, hz⟩ := I.list hq
    refine SeqAt.in_listAt (eqU x) pl.isList (fun w hw => mem_eqAt rx fx r fs w (by simpa using hw)) ⟨.bl _, H, I, rfl, ?_⟩
    rw [show its.toArray.any (eqU x) = its.any (eqU x) by simp, any_eqU r fs]
    exact q
  · obtain ⟨its, r, pl, hz⟩ := I.tuple hq
    refine SeqAt.in_tupleAt (eqU x) pl (fun w hw => mem_eqAt rx fx r fs w (by simpa using hw)) ⟨.bl _, H, I, rfl, ?_⟩
    rw [show its.toArray.any (eqU x) = its.any (eqU x) by simp, any_eqU r fs]
    exact q
theorem op_notIn_seq : OpR X (compareOp .NotIn) (rIn X.K true) := by
  intro pins s σ H x y v u Q I rx ry h
  obtain ⟨p, xs, rfl, hq, fx, fs, q⟩ := h
  cases ry
  rcases hq with hq | hq
  · obtain ⟨its, r, pl, hz⟩ := I.list hq
    refine SeqAt.notIn_listAt (eqU x) pl.isList (fun w hw => mem_eqAt rx fx r fs w (by simpa using hw)) ⟨.bl _, H, I, rfl, ?_⟩
    rw [show its.toArray.any (eqU x) = its.any (eqU x) by simp, any_eqU r fs]
    exact q
  · obtain ⟨its, r, pl, hz⟩ := I.tuple hq
    refine SeqAt.notIn_tupleAt (eqU x) pl (fun w hw => mem_eqAt rx fx r fs w (by simpa using hw)) ⟨.bl _, H, I, rfl, ?_⟩
    rw [show its.toArray.any (eqU x) = its.any (eqU x) by simp, any_eqU r fs]
    exact q
/-! ### len, list(x), tuple(x) of any list or tuple that is read -/
theorem call_len_seq : CallR X (.builtin "len") (fun xs H Q => ∃ p ys, xs = [.ref p] ∧ (SqL X.K H p ys ∨ SqT X.K H p ys) ∧ Q (.int ys.length) H) := by
  intro pins s σ H xs us Q I r h
  obtain ⟨p, ys, rfl, hq, q⟩ := h
  obtain ⟨u, rfl, rx⟩ := vals1 r
  cases rx
  have hn := line63
  rcases hq with hq | hq
  · obtain ⟨its, r', pl, hz⟩ := I.list hq
    have hlen := r'.length
    exact Calls.call_len_list pl.isList (by simp only [List.size_toArray] <;> omega) ⟨.int ys.length, H, I.tok _, ⟨s.toks + 1, by rw [List.size_toArray, hlen]⟩, q⟩
  · obtain ⟨its, r', pl, hz⟩ := I.tuple hq
    have hlen := r'.length
    exact len_tuple pl (by simp only [List.size_toArray] <;> omega) ⟨.int ys.length, H, I.tok _, ⟨s.toks + 1, by rw [List.size_toArray, hlen]⟩, q⟩
theorem call_len_str : CallR X (.builtin "len") (fun xs H Q => ∃ z, xs = [.str z] ∧ z.length ≤ sizeLine ∧ Q (.int z.length) H) := by
  intro pins s σ H xs us Q I r h
  obtain ⟨z, rfl, hz, q⟩ := h
  obtain ⟨u, rfl, t, rfl⟩ := vals1 r
  have hn := line63
  exact len_str (by omega) ⟨.int z.length, H, I.tok _, ⟨_, rfl⟩, q⟩
theorem call_list_of : CallR X (.type "list") (fun xs H Q => ∃ p ys, xs = [.ref p] ∧ (SqL X.K H p ys ∨ SqT X.K H p ys) ∧ ∀ l, H l = none → Q (.ref l) (upd H l (.lst ys))) := by
  intro pins s σ H xs us Q I r h
  obtain ⟨p, ys, rfl, hq, q⟩ := h
  obtain ⟨u, rfl, rx⟩ := vals1 r
  cases rx
  have fin : ∀ (its : List Value), Vals ys its → ys.length ≤ sizeLine → ∀ (h' : Heap) (c' : Nat), (∀ b o', s.heap.get? b = some o' → h'.get? b = some o') →
      h'.get? s.heap.objs.size = some { cls := .type "list", dict := none, data := .seq its.toArray c', slots := #[] } → EP X pins σ Q (.ref s.heap.objs.size) { s with heap := h' } := fun its r' hz h' c' kp e =>
    ⟨.ref s.heap.objs.size, _, I.laid (t' := s.toks) kp (Nat.le_refl _) (show ObjOk X.prog X.w _ h' _ (.lst ys) from ⟨hz, its, c', r', e⟩), rfl, q _ (I.hok.fresh (Nat.le_refl _))⟩
  rcases hq with hq | hq
  · obtain ⟨its, r', pl, hz⟩ := I.list hq
    have hlen := r'.length
    obtain ⟨o, ho, hc, n, hd⟩ := pl.isList
    exact call_list_seq p (.inl rfl) ho hc hd (fun h' c' kp e => fin its r' hz h' c' kp e) (by simp only [List.size_toArray] <;> omega)
  · obtain ⟨its, r', pl, hz⟩ := I.tuple hq
    have hlen := r'.length
    obtain ⟨o, ho, hc, n, hd⟩ := pl
    exact call_list_seq p (.inr rfl) ho hc hd (fun h' c' kp e => fin its r' hz h' c' kp e) (by simp only [List.size_toArray] <;> omega)
theorem call_tuple_of : CallR X (.type "tuple") (fun xs H Q => ∃ p ys, xs = [.ref p] ∧ ((SqL X.K H p ys ∧ ∀ l, H l = none → Q (.ref l) (upd H l (.tup ys))) ∨ (SqT X.K H p ys ∧ Q (.ref p) H))) := by
  intro pins s σ H xs us Q I r h
  obtain ⟨p, ys, rfl, h⟩ := h
  obtain ⟨u, rfl, rx⟩ := vals1 r
  cases rx
  rcases h with ⟨hq, q⟩ | ⟨hq, q⟩
  · obtain ⟨its, r', pl, hz⟩ := I.list hq
    have hlen := r'.length
    refine call_tuple_list pl.isList (fun h' kp => ?_) (by simp only [List.size_toArray] <;> omega)
    have I1 : Inv X pins σ H { s with heap := h' } := I.kept (t' := s.toks) kp
    have I2 : Inv X pins σ (upd H h'.objs.size (.tup ys)) { s with heap := h'.push { cls := .type "tuple", data := .seq its.toArray } } :=
      I1.laid (t' := s.toks) (fun b o e => Heap.get?_push_of_some _ e) (Nat.le_refl _) (show ObjOk X.prog X.w _ _ _ (.tup ys) from ⟨hz, its, r', IsTup.new _ _⟩)
    exact ⟨.ref h'.objs.size, _, I2, rfl, q _ (I1.hok.fresh (Nat.le_refl _))⟩
  · obtain ⟨its, r', pl, hz⟩ := I.tuple hq
    exact call_tuple_same pl ⟨.ref p, H, I, rfl, q⟩

/-! ### the call of a builtin's method: o.m(..) -/
/-- the value is of that builtin type -/
def tyV (K : PySem.W.Frag) (T : String) (x : V) (H : Hp) : Prop := match x with
  | .str _ => T = "str"
  | .int _ => T = "int"
  | .ref p => (T = "list" ∧ ∃ xs, SqL K H p xs) ∨ (T = "tuple" ∧ ∃ o, K.lookup p = some o ∧ o.cls = .type "tuple" ∧ o.dict = none) ∨
      (T = "dict" ∧ ((∃ kvs, H p = some (.dK kvs)) ∨ ∃ kvs, H p = some (.dT kvs))) ∨ (T = "set" ∧ ∃ S n, H p = some (.set S n))
  | _ => False
theorem tyV_is {pins : List (Addr × Obj)} {σ : St} {H : Hp} {s : Shared} {T : String} {x : V} {v : Value} (I : Inv X pins σ H s) (r : RelV x v) (ty : tyV X.K T x H) :
    s.TypeIs v T ∧ ∀ a, v = .ref a → ∃ ob, s.heap.get? a = some ob ∧ ob.dict = none := by
  cases x with
  | str z =>
    obtain ⟨t, rfl⟩ := r
    cases (show T = "str" from ty)
    exact ⟨typeIs_str s z t, fun _ e => nomatch e⟩
  | int i =>
    obtain ⟨t, rfl⟩ := r
    cases (show T = "int" from ty)
    exact ⟨typeIs_int s i t, fun _ e => nomatch e⟩
  | ref p =>
    cases r
    rcases ty with ⟨rfl, xs, hq⟩ | ⟨rfl, o, hk, hc, hd⟩ | ⟨rfl, hk⟩ | ⟨rfl, S, n, hk⟩
    · obtain ⟨its, _, pl, _⟩ := I.list hq
      refine ⟨pl.isList.typeIs, fun a e => ?_⟩
      cases e
      obtain ⟨o, n, e, c, hd, _⟩ := pl
      exact ⟨o, e, hd⟩
    · refine ⟨⟨o, I.kIn p o hk, hc⟩, fun a e => ?_⟩
      cases e
      exact ⟨o, I.kIn _ o hk, hd⟩
    · have z : ∃ o, s.heap.get? p = some o ∧ o.ExactDict := by
        rcases hk with ⟨kvs, hk⟩ | ⟨kvs, hk⟩
        · obtain ⟨_, _, _, _, o, _, _, e, ex, _⟩ := I.hok p _ hk
          exact ⟨o, e, ex⟩
        · obtain ⟨_, _, _, _, o, _, _, e, ex, _⟩ := I.hok p _ hk
          exact ⟨o, e, ex⟩
      obtain ⟨o, e, ex⟩ := z
      refine ⟨⟨o, e, ex.1⟩, fun a e2 => ?_⟩
      cases e2
      exact ⟨o, e, ex.2.1⟩
    · obtain ⟨o, _, _, _, e, ex, _⟩ := I.hok p _ hk
      refine ⟨⟨o, e, ex.1⟩, fun a e2 => ?_⟩
      cases e2
      exact ⟨o, e, ex.2.1⟩
  | _ => exact False.elim ty
def tBM (K : PySem.W.Frag) (T : String) (r : V → List V → Hp → VK → Prop) (to : TE) (t : TA) : TE := fun σ H Q => to σ H fun x H1 => tyV K T x H1 ∧ t σ H1 fun xs H2 => r x xs H2 Q
variable {o e : Expr} {es : List Expr} {to : TE} {t : TA} {name : Str} {apos cpos : Pos} {T id : String} {r : V → List V → Hp → VK → Prop}
theorem pe_bm (pa : PlainAttrs T) (slot : Slot T name id) (hty : typeOf (.builtin id) = pure (.type "method_descriptor")) (hm : MtR X id r) (ho : PE X o to) (ha : PA X (e :: es) t)
    (hbase : attributeBase o name X.env (eval o X.env) = eval o X.env := by rfl)
    (hfew : ((backTo cpos (starEach (e :: es) X.env)).all (fun x => !x.1) && (backToKw cpos (keywordEach [] X.env)).all (fun x => x.1.isSome)
      && decide ((e :: es).length + ([] : List Keyword).length + (if ([] : List Keyword).isEmpty then 0 else 1) < 30)) = true := by rfl)
    (hline : (apos.endLine == cpos.line) = true := by rfl) (hs : starEach (e :: es) X.env = (false, eval e X.env) :: starEach es X.env := by rfl) (hplain : (backTo cpos (starEach es X.env)).any (·.1) = false := by rfl) :
    PE X (.Call (.Attribute o name apos) (e :: es) [] cpos) (tBM X.K T r to t) := by
  intro pins s σ H Q I h
  refine wpAny_Call_method_late hbase hfew hline rfl (thn (ho pins s σ H _ I h) fun v s1 ⟨x, H1, I1, r1, ty, q1⟩ => ?_)
  obtain ⟨h1, h2⟩ := tyV_is I1 r1 ty
  refine ⟨T, id, pa, slot, hty, h1, h2, ?_⟩
  have hA := ha cpos pins s1 σ H1 _ I1 q1
  rw [hs] at hA ⊢
  refine Calls.callWith_builtin (by show (false || (backTo cpos (starEach es X.env)).any (·.1)) = false; rw [hplain] <;> rfl) (Calls.evalArgs_plain ?_)
  exact thn hA fun us s2 ⟨vs, H2, I2, r2, q2⟩ => hm pins s2 σ H2 x vs v us Q I2 r1 r2 q2
/- xs.append(e), list.index on a module's tuple .. are MtR facts of 06m -/
end
end L2

namespace L2
open PySem PySem.Spec PyProof.Rows

def MtM (X : Cx) (id : String) (r : V → List V → Hp → VK → Prop) : Prop :=
  ∀ (pins : List (Addr × Obj)) (s : Shared) (σ : St) (H : Hp) (x : V) (xs : List V) (v : Value) (us : List Value) (Q : VK), Inv X pins σ H s → RelV x v → Vals xs us → r x xs H Q →
    wpAny (model X.prog X.w) X.A (call (.builtin id) (v :: us)) (EP X pins σ Q) X.xe s

/-! ### lists of values -/
theorem Vals.one : ∀ {x : V} {us : List Value}, Vals [x] us → ∃ u, us = [u] ∧ RelV x u
  | _, _, .cons r .nil => ⟨_, rfl, r⟩
section
variable {X : Cx} {pins : List (Addr × Obj)} {σ : St} {H : Hp} {s : Shared} {l b : Addr} {xs ys zs : List V}

/-! ### the two steps: a tracked list is rewritten, a new list is laid -/
theorem Inv.lset {its its' : List Value} {n : Nat} {f : Array Value → Array Value} {t' : Nat} (I : Inv X pins σ H s) (hH : H l = some (.lst xs))
    (e : s.heap.get? l = some { cls := .type "list", data := .seq its.toArray n }) (hf : f its.toArray = its'.toArray) (hv : Vals ys its') (hz : ys.length ≤ sizeLine) :
    Inv X pins σ (upd H l (.lst ys)) { s with heap := s.heap.update l (Obj.mapSeq f), toks := t' } := by
  have q := PySem.IsL.update e f
  rw [hf] at q
  refine I.write (x := l) (e := l) (by rw [hH]; exact trivial) (.inl rfl) (fun b' u hb hu => (Heap.get?_update_other s.heap (Obj.mapSeq f) (Ne.symm hb)).trans hu) ⟨_, q⟩ ?_
  exact ⟨hz, its', _, hv, q⟩
theorem Inv.lstM (I : Inv X pins σ H s) (hH : H l = some (.lst xs)) : xs.length ≤ sizeLine ∧ ∃ (its : List Value) (n : Nat), Vals xs its ∧ xs.length = its.length ∧ s.heap.get? l = some { cls := .type "list", data := .seq its.toArray n } := by
  obtain ⟨z, its, n, r, e⟩ := I.hok l _ hH
  exact ⟨z, its, n, r, r.length, e⟩

end

section
variable {X : Cx}

/-! ### methods -/
def rAppend : V → List V → Hp → VK → Prop := fun x vs H Q => ∃ l xs y, x = .ref l ∧ vs = [y] ∧ H l = some (.lst xs) ∧ xs.length < sizeLine ∧ Q .non (upd H l (.lst (xs ++ [y])))
theorem mt_append : MtM X "list.append" rAppend := by
  intro pins s σ H x vs v us Q I rx rv h
  obtain ⟨l, xs, y, rfl, rfl, hH, hz, q⟩ := h
  cases rx
  obtain ⟨u, rfl, ru⟩ := rv.one
  obtain ⟨z, its, n, r, hl, e⟩ := I.lstM hH
  refine call_meets F.slot_list_append ⟨_, e, rfl⟩ F.entry_list_append (F.args_list_append_2 _ _) (PySem.list_append l its.toArray n u (by rw [List.size_toArray]; omega)) ⟨e, ?_⟩
  refine ⟨.non, _, I.lset (its' := its ++ [u]) hH e (by simp) (r.append (.cons ru .nil)) ?_, rfl, q⟩
  rw [List.length_append, List.length_singleton]
  omega

/-! ### list + list, list += list, list * int -/
/-! ### del xs[i] -/
end

/-! ### xs[a:b] = ys -/
section
variable {prog : Program} {w : World} {A : Around} {E : Value → Shared → Prop} {s : Shared}
set_option maxRecDepth 100000 in
end

section
variable {X : Cx}
end
end L2
namespace L2
open PySem PySem.Spec PyProof.Rows

/-! ### lists of pairs as tables -/
section
variable {κ : Type} [DecidableEq κ]
end


/-! ### a tracked dict, its keys ints and texts or tuples of these -/
section
variable {P : Program} {w : World} {H : Hp} {h : Heap} {a : Addr}
end

section
variable {X : Cx} {pins : List (Addr × Obj)} {σ : St} {H : Hp} {s : Shared} {a : Addr} {y v : V} {u r : Value} {o : Option V} {A : Around} {E : Value → Shared → Prop}

theorem Inv.big (I : Inv X pins σ H s) : sysModules < s.heap.objs.size := by
  have h : mainGlobals < s.heap.objs.size := (I.mod.glob.keeps I.bk).lt
  exact Nat.lt_trans (by decide) h

end

section
variable {X : Cx} {pins : List (Addr × Obj)} {σ : St} {H : Hp} {s : Shared} {a : Addr} {kvs : List (Key × V)} {k : Key} {u : Value} {A : Around} {E : Value → Shared → Prop}
end


/-! ### readings and rules -/
section
variable {X : Cx} {o i e value : Expr} {pos pos' tpos : Pos} {td ty tv : TE}
end


/-! ### displays -/
theorem dk_empty {P : Program} {w : World} {H : Hp} (h : Heap) (hb : sysModules < h.objs.size) : ObjOk P w H (h.push { cls := .type "dict", data := .dict #[] }) h.objs.size (.dK []) :=
  ⟨Nat.zero_le _, beq_eq_false_iff_ne.mpr (Ne.symm (Nat.ne_of_lt hb)), [], .nil, Heap.DictOf.new h⟩
/-- {}, to be a dict of the kind that is wanted -/
def tDNewK : TE := fun _ H Q => ∀ p, H p = none → Q (.ref p) (upd H p (.dK []))
section
variable {X : Cx} {pos : Pos}
theorem pe_dnewK : PE X (.Dict [] [] pos) tDNewK := fun pins s σ H Q I h =>
  wpAny_Dict_empty ⟨.ref s.heap.objs.size, _, I.laid (a := s.heap.objs.size) (o := .dK []) (t' := s.toks) (fun _ _ q => Heap.get?_push_of_some _ q) (Nat.le_refl _) (dk_empty s.heap I.big), rfl, h _ (I.hok.fresh (Nat.le_refl _))⟩
end

/-! ### methods -/
/-- a method call o.m(e) of a built-in, with one argument: what must be seen of the text -/
structure M1 (X : Cx) (o : Expr) (m : Str) (apos : Pos) (e : Expr) (cpos : Pos) : Prop where
  base : attributeBase o m X.env (eval o X.env) = eval o X.env
  few : ((backTo cpos (starEach [e] X.env)).all (fun x => !x.1) && (backToKw cpos (keywordEach [] X.env)).all (fun x => x.1.isSome)
    && decide (([e] : List Expr).length + ([] : List Keyword).length + (if ([] : List Keyword).isEmpty then 0 else 1) < 30)) = true
  line : (apos.endLine == cpos.line) = true
  trees : backTo cpos (starEach [e] X.env) = [(false, eval e X.env)]
structure M2 (X : Cx) (o : Expr) (m : Str) (apos : Pos) (e f : Expr) (cpos : Pos) : Prop where
  base : attributeBase o m X.env (eval o X.env) = eval o X.env
  few : ((backTo cpos (starEach [e, f] X.env)).all (fun x => !x.1) && (backToKw cpos (keywordEach [] X.env)).all (fun x => x.1.isSome)
    && decide (([e, f] : List Expr).length + ([] : List Keyword).length + (if ([] : List Keyword).isEmpty then 0 else 1) < 30)) = true
  line : (apos.endLine == cpos.line) = true
  trees : backTo cpos (starEach [e, f] X.env) = [(false, eval e X.env), (false, eval f X.env)]

section
variable {X : Cx} {pins : List (Addr × Obj)} {σ : St} {H : Hp} {s : Shared} {a : Addr} {y d : V} {u r : Value} {o : Option V} {A : Around} {E : Value → Shared → Prop}
end

section
variable {X : Cx} {o e f : Expr} {apos cpos : Pos} {td ty tx : TE}
end

/-! ### dict(d): a copy -/
section
variable {X : Cx} {pins : List (Addr × Obj)} {σ : St} {H : Hp} {s : Shared} {a : Addr} {kvs : List (Key × V)} {A : Around} {E : Value → Shared → Prop}
end


section
variable {X : Cx} {pins : List (Addr × Obj)} {σ : St} {H : Hp} {s : Shared} {a : Addr} {y : V} {u : Value} {A : Around} {E : Value → Shared → Prop}
end
end L2

namespace Att
open PySem PySem.W PySem.Calls PyProof.Rows

/-! ### the script -/
theorem ints_of_wellAll {P : Params} {h : Heap} : ∀ (ns : List Int) (vs : List Value), WellAll P h vs (ns.map WData.int) → IntsAre vs ns := by
  intro ns
  induction ns with
  | nil =>
    intro vs w
    rw [List.map_nil] at w
    cases w
    exact .nil
  | cons n ns ih =>
    intro vs w
    rw [List.map_cons] at w
    cases w with
    | cons a b =>
      cases a
      exact .cons _ _ (ih _ b)

theorem script_of {l : OpenLaw} {n : Nat} (hn : l.most = some n) {P : Params} {h : Heap} {args : List WData} {vals : List Value}
    (hpre : l.row.toRowW.claim.pre args = true) (hwl : WellAll P h vals args) :
    ∃ a vs ns, vals = [Value.ref a] ∧ args = [WData.list (ns.map WData.int)] ∧ h.get? a = some { cls := .type "list", data := .seq vs.toArray } ∧ IntsAre vs ns ∧ ns.length ≤ n := by
  have hsh : WShape.hasAll [] args [.list .int] = true := (pre_splitW hpre).1
  have hc : l.pre.holds [] { args := args } = true := (pre_splitW hpre).2
  obtain ⟨d, r, rfl, h1, h2⟩ := hasAllW_cons hsh
  obtain rfl := hasAllW_nil h2
  obtain ⟨xs, rfl, h3⟩ := hasW_list h1
  obtain ⟨ns, rfl⟩ := items_int h3
  have hlen : ns.length ≤ n := by
    unfold OpenLaw.pre at hc
    have h4 : (WTm.not (.lt (.lit (.int (n : Int))) (.len (.arg 0)))).holds [] { args := [.list (ns.map .int)] } = true := by
      have h4 := (holds_andW hc).1
      rw [hn] at h4
      exact h4
    have h5 := condW_of h4 (w_not (w_lt w_lit (w_len_list (w_arg rfl))))
    rw [List.length_map] at h5
    refine Nat.le_of_not_lt fun q => ?_
    have q' : (n : Int) < ((ns.length : Nat) : Int) := by omega
    first
      | (rw [decide_eq_true q'] at h5; exact absurd h5 (by decide))
      | (simp at h5; omega)
  cases hwl with
  | cons w1 w2 =>
    cases w2
    cases w1 with
    | list ho hall => exact ⟨_, _, ns, rfl, rfl, ho, ints_of_wellAll ns _ hall, hlen⟩

theorem post_true (l : OpenLaw) (args : List WData) : l.row.toRowW.claim.post args (.bool true) args = true :=
  postW_of (r := l.row.toRowW) (X := (true == true))
    (show WShape.has [] (.bool true) .bool = true by first | rfl | decide | simp [WShape.has, WShape.arms, WShape.armsAll])
    (show (WTm.eq .res (.lit (.bool true))).value [] { args := args, res := some (.bool true), after := args } = some (.bool (true == true)) from w_eq_bool (w_res rfl) w_lit) rfl

/-! ### the attachment: holds_open's last premise (the goal 'hc' behind k_head) from a wpAny of the law's body -/
/-- the same from a codeAny of the CALL (for a layer whose function contracts speak of calls) -/
theorem attach_call {l : OpenLaw} {n : Nat} {q : Program} {loose : List Str} {XP : (Str → Option Value) → Heap → Prop} {YP : World → Heap → Prop} {d : DefRec}
    (hn : l.most = some n) (hdf : d.params.defaults = [])
    (call : ∀ (w : World) (s₀ s₁ : Shared) (mg mb : Str → Option Value) (fa : Addr) (o : Obj) (pm cd doc : Value) (a : Addr) (vs : List Value) (ns : List Int),
      Ground q loose [] XP w s₀ mg mb s₁.heap → YP w s₁.heap →
      s₁.heap.get? fa = some o → o.data = .func (docDef d.name d.params d.body d.scope pm cd doc) → s₁.heap.CodeRec cd d.name → mg d.name = some (.ref fa) →
      s₁.heap.get? a = some { cls := .type "list", data := .seq vs.toArray } → IntsAre vs ns → ns.length ≤ n → s₁.gens = #[] →
      codeAny (model l.prog w) callerA (.call (.ref fa) ⟨[.ref a], []⟩) (fun r s' => r = .ok (.ret (.bool true)) ∧ OldK s₁.heap s'.heap ∧ s'.os = s₁.os ∧ AllBare s'.gens) s₁) :
    WalkO q loose XP YP l.row.toRowW d [] (fun f vs => PySem.call f vs) := by
  intro w s₀ s₁ mg mb G Y fa o pm cd doc dV kV ho hd hcd hD hmg hg args vals as hpre hlay hrd hwl hlo
  obtain rfl : dV = .none := Dflts.none hD hdf
  obtain rfl : kV = .none := Dflts.noKw hD
  obtain ⟨a, vs, ns, rfl, rfl, hobj, hints, hlen⟩ := script_of hn hpre hwl
  refine enter_call (codeAny_mono (call w s₀ s₁ mg mb fa o pm cd doc a vs ns G Y ho (fd_plain hd) hcd hmg hobj hints hlen hg) fun r s' hq => ?_)
  obtain ⟨rfl, h2, h3, h4⟩ := hq
  exact ⟨.inl ⟨.bool true, .bool true, [], rfl, fun _ => rfl, .bool true, post_true l _, fun _ => ⟨List.Pairwise.nil, fun _ hm => (nomatch hm)⟩⟩, h2, h3, h4⟩

/-! ### rules over ANY heap (no ledger) from facts about the written part K: the library's own take a ledger (News) for what they write -/
section
variable {prog : Program} {w : World} {A : Around} {E : Value → Shared → Prop} {s : Shared} {K : Frag}

/-! the whole heap as the ledger: makes every rule that writes through a ledger a rule over any heap -/
end
end Att

namespace L2
open PySem PySem.Spec PyProof.Rows

theorem vals_ints : ∀ {vs : List Value} {ns : List Int}, IntsAre vs ns → Vals (ns.map V.int) vs
  | _, _, .nil => .nil
  | _, _, .cons n t h => .cons ⟨t, rfl⟩ (vals_ints h)

/-- nothing is tracked but the script, known to the object (or it is an object of the module) -/
def Only (H : Hp) : Prop := ∀ b, H b = none ∨ ∃ o xs, H b = some (.frz o (.lst xs))

/-- THE HEAD: the law's promise, at the heap behind the top. F, the promise of the law's def, may use that base is part of the heap (so K.In base, base.Ns mainGlobals mg stand in Mod) -/
theorem law_call {P : Program} {w : World} {K : PySem.W.Frag} {mg mb : Str → Option Value} {CX : CXT} {k : Nat} {fa a : Addr} {fd : FuncData} {x : Str} {sp : Sp} {s₁ : Shared} {vs : List Value} {ns : List Int}
    (KX : K.In s₁.heap) (hns : s₁.heap.Ns mainGlobals mg) (hb : s₁.heap.Ns builtinsNs mb) (hbb : ∀ x : Str, x ≠ "__name__" → mb x = bootBuiltins x) (hlim : s₁.heap.NoLimit) (hg : s₁.gens = #[])
    (ha : s₁.heap.get? a = some { cls := .type "list", data := .seq vs.toArray }) (hi : IntsAre vs ns) (hl : ns.length ≤ sizeLine) (hr : Room k callerA)
    (F : ∀ base : Heap, K.In base → base.Ns mainGlobals mg → FnOk P w K mg base CX k fa fd [x] sp) (hbind : ∀ (s : Shared) (u : Value), BindsTo s fd ⟨[u], []⟩ [(x, u)])
    (hsp : ∀ H : Hp, Only H → SqL K H a (ns.map V.int) → sp [.ref a] H (fun v _ => v = .bl true) fun _ _ _ => False)
    (hCX : ∀ H e s', CX [] H s₁ (fun _ _ _ => False) e s' → False) :
    codeAny (model P w) callerA (.call (.ref fa) ⟨[.ref a], []⟩) (fun r s' => r = .ok (.ret (.bool true)) ∧ OldK s₁.heap s'.heap ∧ s'.os = s₁.os ∧ AllBare s'.gens) s₁ := by
  have rv := vals_ints hi
  have lenV := hi.length
  -- from an abstract heap in which nothing but the script may be tracked
  have core : ∀ H : Hp, Only H → SqL K H a (ns.map V.int) → HOk P w H s₁.heap → (∀ b, H b ≠ none → b = a) → (H a ≠ none → K.lookup a = none) →
      codeAny (model P w) callerA (.call (.ref fa) ⟨[.ref a], []⟩) (fun r s' => r = .ok (.ret (.bool true)) ∧ OldK s₁.heap s'.heap ∧ s'.os = s₁.os ∧ AllBare s'.gens) s₁ := by
    intro H hO hS hok hA hK
    have base_of : ∀ {b : Addr} {o : Obj}, s₁.heap.get? b = some o → H b = none → (hidT s₁.heap H).get? b = some o := fun e n => hidT_get e n
    have noA : ∀ {b : Addr} {o : Obj} {es : Array DictEntry} {ep : Nat}, s₁.heap.get? b = some o → o.data = .dict es ep → H b = none := fun {b o es ep} e d => by
      cases q : H b with
      | none => rfl
      | some u =>
        have e' : b = a := hA b (by rw [q]; simp)
        subst e'
        rw [ha] at e; cases e
        have d' : Data.seq vs.toArray _ = Data.dict es ep := d
        cases d'
    have nsK : ∀ {b : Addr} {m : Str → Option Value}, s₁.heap.Ns b m → (hidT s₁.heap H).Ns b m := fun {b m} ⟨o, es, ep, e, d, r⟩ => ⟨o, es, ep, base_of e (noA e d), d, r⟩
    have hKb : K.In (hidT s₁.heap H) := fun b o e => base_of (KX b o e) (by
      cases q : H b with
      | none => rfl
      | some u =>
        have e' : b = a := hA b (by rw [q]; simp)
        subst e'
        rw [hK (by rw [q]; simp)] at e; cases e)
    have hM : Mod K mg (hidT s₁.heap H) := ⟨hKb, nsK hns, ⟨mb, nsK hb, hbb⟩, let ⟨mc, h1, h2⟩ := hlim; ⟨mc, nsK h1, h2⟩⟩
    have e0 : Env0 P w K mg (hidT s₁.heap H) callerA [] s₁ H := ⟨rfl, hM, fun b o e => of_hidT e, Nat.le_of_eq (hidT_size _ _), trivial, fun b hb => absurd (show b ∈ ([] : List Addr) from hb) (by simp), hok, .of_eq hg⟩
    refine codeAny_mono ((F _ hKb (nsK hns)).run callerA [] s₁ H ⟨[.ref a], []⟩ [.ref a] [.ref a] _ _ hr e0 (hbind s₁ (.ref a)) (.cons rfl .nil) (hsp H hO hS)) fun r s' h => ?_
    cases r with
    | error e => exact (hCX H e s' h).elim
    | ok fl =>
      cases fl with
      | next => exact False.elim h
      | brk => exact False.elim h
      | cont => exact False.elim h
      | ret u =>
        obtain ⟨v, H', os, bare, un, hok', r', q⟩ := h
        have q' : v = .bl true := q
        subst q'
        obtain rfl : u = Value.bool true := r'
        refine ⟨rfl, OldK.of_keep fun b o e => ?_, os, bare⟩
        cases q : H b with
        | none => exact un.keep b o e q (by intro z; exact absurd (show b ∈ ([] : List Addr) from z) (by simp)) (by simp)
        | some u =>
          rcases hO b with z | ⟨ob, xs, z⟩
          · rw [q] at z; cases z
          · have z2 := un.frzs b ob _ z
            obtain ⟨e1, _⟩ := hok b _ z
            obtain ⟨e2, _⟩ := hok' b _ z2
            rw [e] at e1; cases e1
            exact e2
  cases hk : K.lookup a with
  | some o =>
    -- the script is one of the module's own objects
    have e := KX a o hk
    rw [ha] at e
    cases e
    refine core (fun _ => none) (fun _ => .inl rfl) (.inr ⟨_, vs.toArray, _, hk, rfl, rfl, rfl, by rw [List.size_toArray, lenV]; exact hl, by simpa using rv⟩) (fun b u z => by have z' : (none : Option HO) = some u := z; cases z') (fun b z => absurd rfl z) fun z => absurd rfl z
  | none =>
    refine core (fun b => if b = a then some (.frz { cls := .type "list", data := .seq vs.toArray } (.lst (ns.map V.int))) else none) (fun b => ?_) (.inl (.inr ⟨{ cls := .type "list", data := .seq vs.toArray }, if_pos rfl⟩)) (fun b u z => ?_) (fun b z => ?_) fun _ => hk
    · by_cases hb : b = a
      · exact .inr ⟨_, _, if_pos hb⟩
      · exact .inl (if_neg hb)
    · by_cases hb : b = a
      · have z' := (if_pos hb).symm.trans z
        cases z'
        subst hb
        exact ⟨ha, by rw [List.length_map]; exact hl, vs, _, rv, ha⟩
      · have z' := (if_neg hb).symm.trans z
        cases z'
    · by_cases hb : b = a
      · exact hb
      · exact absurd (if_neg hb) z
end L2

namespace L2
open PySem PySem.Spec PyProof.Rows

/-- the goal that k_head leaves (case hc), from the law's promise. F gives the function object fd (K's own) once, then the promise over every base -/
theorem walk_of {l : PySem.W.OpenLaw} {n k : Nat} {q : Program} {loose : List Str} {XP : (Str → Option Value) → Heap → Prop} {YP : World → Heap → Prop} {d : DefRec} {K : Params → PySem.W.Frag} {CX : World → CXT} {sp : World → Sp} {x : Str}
    (hn : l.most = some n) (hn2 : n ≤ sizeLine) (hdf : d.params.defaults = []) (hr : Room k callerA)
    (hY : ∀ (w : World) (h : Heap), YP w h → (K w.params).In h)
    (F : ∀ (w : World) (mg : Str → Option Value) (fa : Addr) (h : Heap), (K w.params).In h → h.Ns mainGlobals mg → mg d.name = some (.ref fa) →
      ∃ fd : FuncData, (∀ (s : Shared) (u : Value), BindsTo s fd ⟨[u], []⟩ [(x, u)]) ∧
        ∀ base : Heap, (K w.params).In base → base.Ns mainGlobals mg → FnOk l.prog w (K w.params) mg base (CX w) k fa fd [x] (sp w))
    (hsp : ∀ (w : World) (H : Hp) (a : Addr) (ns : List Int), ns.length ≤ n → Only H → SqL (K w.params) H a (ns.map V.int) → sp w [.ref a] H (fun v _ => v = .bl true) fun _ _ _ => False)
    (hCX : ∀ (w : World) (H : Hp) (s : Shared) (e : Value) (s' : Shared), CX w [] H s (fun _ _ _ => False) e s' → False) :
    PySem.W.WalkO q loose XP YP l.row.toRowW d [] (fun f vs => PySem.call f vs) := by
  refine Att.attach_call hn hdf fun w s₀ s₁ mg mb fa o pm cd doc a vs ns G Y ho hd hcd hmg hobj hints hlen hg => ?_
  have KX := hY w _ Y
  obtain ⟨fd, hb, hF⟩ := F w mg fa _ KX G.T.g hmg
  exact law_call KX G.T.g G.T.b G.T.builtins G.T.nolimit hg hobj hints (Nat.le_trans hlen hn2) hr hF hb (fun H hO hS => hsp w H a ns hlen hO hS) fun H e s' => hCX w H s₁ e s'
end L2



/-! SHORT WORDS over the layer: a def of the text, its body, what a loop and a test want. -/
namespace L2
open PySem PySem.Spec PyProof.Rows

/-! ### the text by places -/
def defArgs (s : Stmt) : Arguments := match s with
  | .FunctionDef _ a _ _ _ _ _ _ _ _ => a
  | _ => { posonlyargs := [], args := [], vararg := none, kwonlyargs := [], kw_defaults := [], kwarg := none, defaults := [] }
def defBody (s : Stmt) : List Stmt := match s with
  | .FunctionDef _ _ b _ _ _ _ _ _ _ => b
  | _ => []
def defScope (s : Stmt) : Scope := match s with
  | .FunctionDef _ _ _ _ _ _ sc _ _ _ => sc
  | _ => { kind := .function, names := [], isGenerator := false, isCoroutine := false }

/-! ### no exception leaves a def -/
abbrev E0 : XK := fun _ _ _ => False
/-! ### a def (or method) of the text as it stands behind the top -/
structure Fun (K : PySem.W.Frag) (x qual : Str) (st : Stmt) (f : Addr) (fd : FuncData) : Prop where
  ex : ∃ (oc : Value) (od : Option Addr) (kV doc pm : Value) (an : Option Addr) (cdv ct : Value) (osl : Array (Option Value)),
    fd = PySem.W.fnOf x qual (defArgs st) (defBody st) (defScope st) .none kV doc pm an cdv ct ∧ K.lookup f = some ⟨oc, od, .func fd, osl⟩ ∧ PySem.W.codeIn K cdv qual = true
  kp : PySem.W.keepIn K (.ref f) = true
section
variable {P : Program} {w : World} {K : PySem.W.Frag} {mg : Str → Option Value} {base : Heap}
/-- how its arguments bind (no defaults): h is «fun _ _ _ _ _ _ us hl => match us, hl with | [_, _], _ => rfl», one _ a parameter -/
theorem Fun.binds {x qual : Str} {st : Stmt} {f : Addr} {fd : FuncData} {ps : List Str} (F : Fun K x qual st f fd)
    (h : ∀ (kV doc pm : Value) (an : Option Addr) (cdv ct : Value) (us : List Value), us.length = ps.length → bindArgs (PySem.W.fnOf x qual (defArgs st) (defBody st) (defScope st) .none kV doc pm an cdv ct) ⟨us, []⟩ = pure (ps.zip us)) : Binds K fd ps [] := by
  obtain ⟨oc, od, kV, doc, pm, an, cdv, ct, osl, rfl, lk, hcd⟩ := F.ex
  exact .all (h kV doc pm an cdv ct)
theorem fun_mk {x qual : Str} {st : Stmt} {f : Addr} {oc : Value} {od an : Option Addr} {osl : Array (Option Value)} {kV doc pm cdv ct : Value} (l : K.lookup f = some ⟨oc, od, .func (PySem.W.fnOf x qual (defArgs st) (defBody st) (defScope st) .none kV doc pm an cdv ct), osl⟩)
    (c : PySem.W.codeIn K cdv qual = true) (k : PySem.W.keepIn K (.ref f) = true) : Fun K x qual st f (PySem.W.fnOf x qual (defArgs st) (defBody st) (defScope st) .none kV doc pm an cdv ct) := ⟨⟨oc, od, kV, doc, pm, an, cdv, ct, osl, rfl, l, c⟩, k⟩
end
theorem small1000 {n : Nat} (h : n ≤ 1000) : n < sizeLine := Nat.lt_of_le_of_lt h (by decide)

/-! ### expressions in short: the name that stands in the i-th slot -/
section
variable {X : Cx}
theorem pv (i : Nat) {x : Str} {pos : Pos} (hN : X.N[i]? = some x := by rfl) (hv : Vis X.env.scope x := by first | exact Or.inl rfl | exact Or.inr (Or.inl rfl) | exact Or.inr (Or.inr rfl)) (hd : (x == ("__debug__" : Str)) = false := by decide)
    (hcd : (x == ("__classdict__" : Str)) = false := by decide) : PE X (.Name x pos) (tVar i) := pe_var hN hv hd hcd
end

/-! ### tests -/
theorem iteF {A B : Prop} (h : B) : if false = true then A else B := by
  rw [if_neg Bool.false_ne_true]
  exact h
theorem iteT {A B : Prop} (h : A) : if true = true then A else B := by
  rw [if_pos rfl]
  exact h
/-! ### heaps -/
/-- all that was tracked is as it was -/
def Same (H H' : Hp) : Prop := ∀ b o, H b = some o → H' b = some o
theorem Same.refl (H : Hp) : Same H H := fun _ _ h => h
theorem Same.trans {H H1 H2 : Hp} (a : Same H H1) (b : Same H1 H2) : Same H H2 := fun c o h => b c o (a c o h)
/-! ### a dict's pairs: keys that differ -/
section
variable {κ : Type} [DecidableEq κ]
end
end L2

set_option Elab.async false
set_option linter.all false
set_option maxRecDepth 100000
set_option maxHeartbeats 4000000
/-! Refusals over the hand layer: raise, a call that raises, try with one except clause of an own class. -/
namespace L2
open PySem PySem.Spec PyProof.Rows

section
variable {P : Program} {w : World} {H H' : Hp} {h h' : Heap} {a : Addr} {o : HO}
theorem ObjOk.there (x : ObjOk P w H h a o) : ∃ q, h.get? a = some q := by
  cases o with
  | lst xs => obtain ⟨_, _, _, _, e⟩ := x; exact ⟨_, e⟩
  | tup xs => obtain ⟨_, _, _, q, e, _⟩ := x; exact ⟨q, e⟩
  | dK kvs => obtain ⟨_, _, _, _, q, _, _, e, _⟩ := x; exact ⟨q, e⟩
  | dT kvs => obtain ⟨_, _, _, _, q, _, _, e, _⟩ := x; exact ⟨q, e⟩
  | set S n => obtain ⟨q, _, _, _, e, _⟩ := x; exact ⟨q, e⟩
  | ins C dx fs => obtain ⟨_, _, _, e, _⟩ := x; exact ⟨_, e⟩
  | own y => exact x
  | xd fs => obtain ⟨_, ⟨q, _, _, e, _⟩, _⟩ := x; exact ⟨q, e⟩
  | rng lo hi => obtain ⟨_, _, _, e⟩ := x; exact ⟨_, e⟩
  | frz ob u => obtain ⟨e, _⟩ := x; exact ⟨_, e⟩
  | tbl ps => exact ⟨_, x⟩
  | met f y => exact ⟨_, x⟩
  | ext φ => obtain ⟨_, e, _⟩ := x; exact e
/-- what is tracked is held by a heap that lacks untracked objects alone -/
theorem HOk.lean (x : HOk P w H h) (k : ∀ b u, H b ≠ none → h.get? b = some u → h'.get? b = some u) : HOk P w H h' := fun b u e =>
  (x b u e).stay (fun c v hc q => k c v (by
    rcases hc with rfl | hc
    · rw [e]; simp
    · rw [hc]; simp) q) (fun _ q => q) fun _ _ q => q
end

/-- an exception e of class cls flies behind a call -/
structure Flies (P : Program) (w : World) (outer : List Env) (H H' : Hp) (s s' : Shared) (e : Addr) (cls : Value) : Prop where
  os : s'.os = s.os
  bare : AllBare s'.gens
  un : Un (frs outer) [] H H' s.heap s'.heap
  fly : ∃ B a0, Heap.FlyingW B outer e cls a0 s'.heap ∧ HOk P w H' B ∧ (∀ b o, s.heap.get? b = some o → H b = none → b ∉ frs outer → B.get? b = some o) ∧
    ∀ b o, s.heap.get? b = some o → b ∉ frs outer → ∃ o', B.get? b = some o'
/-- how an exception lies behind a call -/
def CX1 (P : Program) (w : World) : CXT := fun outer H s E u s' => ∃ e cls H', u = .ref e ∧ Flies P w outer H H' s s' e cls ∧ E cls none H'

section
variable {X : Cx} {pins : List (Addr × Obj)} {σ : St} {H H' : Hp} {s s' : Shared} {e : Addr} {cls : Value}
theorem Flies.inv (f : Flies X.prog X.w X.stack H H' s s' e cls) (I : Inv X pins σ H s) : Inv X pins σ H' s' := by
  obtain ⟨B, a0, fl, hB, _, _⟩ := f.fly
  exact I.call' (ch := []) f.os f.un (hB.kept fl.1) f.bare (fun b z => absurd z (by simp))
theorem Inv.nst (I : Inv X pins σ H s) {b : Addr} {o : Obj} (q : X.s₀.heap.get? b = some o) (hb : b ∉ X.fs) : b ∉ frs X.stack := fun z => by
  rcases List.mem_cons.mp (I.stkSub b z) with y | y
  · exact absurd (Nat.lt_of_lt_of_le (Heap.lt_size q) I.ok.above) (by rw [y]; exact Nat.lt_irrefl _)
  · exact hb y
/-- one that was made here leaves this frame -/
theorem made_leaves {M : Model} {Q : Unit → Shared → Prop} {E : Value → Shared → Prop} {h1 : Heap} {vs : List Value} (I : Inv X pins σ H s) (mk : Heap.MadeExcOf s.heap h1 e cls vs)
    (hs : X.stack = X.env :: X.outer) (hf : X.env.frame = some X.env.locals) (hx : X.ex = [])
    (hQ : ∀ s'', Flies X.prog X.w X.outer X.H₀ H X.s₀ s'' e cls → Q () s'') : wpAny M X.A (leaving X.env (.ref e)) Q E { s with heap := h1 } := by
  have nx : ∀ b : Addr, b ∉ X.ex := fun b => by rw [hx]; simp
  have hid : ∀ b o, s.heap.get? b = some o → b ∉ frs X.stack → (PySem.W.hideAll s.heap (frs X.stack)).get? b = some o := fun b o q n => PySem.W.hideAll_get _ q n
  have FF : s.heap.FunFrames (PySem.W.hideAll s.heap (frs X.stack)) X.stack :=
    PySem.W.funFrames_hide I.stack fun env he a ha => List.mem_filterMap.mpr ⟨env, he, ha⟩
  have hB : HOk X.prog X.w H (PySem.W.hideAll s.heap (frs X.stack)) := I.hok.lean fun b u n q => hid b u q fun z => n (I.stkFree b z)
  have sub : ∀ b o, (PySem.W.hideAll s.heap (frs X.stack)).get? b = some o → s.heap.get? b = some o := fun b o q => PySem.W.of_hideAll _ q
  generalize PySem.W.hideAll s.heap (frs X.stack) = B at *
  rw [hs] at FF
  refine wpAny_leaves_madeW (s := { s with heap := h1 }) (by rw [I.ok.frames, hs]) hf sub FF mk fun h' t fl' _ _ up => hQ _ ?_
  have slot : ∀ b o, X.s₀.heap.get? b = some o → b ∈ X.fs → ∃ sl, h'.get? b = some { o with slots := sl } := fun b o q hb => by
    obtain ⟨sl, e1⟩ := I.base.slot b o q (I.ok.frf b hb) hb (nx b)
    obtain ⟨_, o', ho', hn⟩ := I.funs.mem hb
    rw [e1] at ho'
    cases ho'
    obtain ⟨sl', e2⟩ := up b _ (mk.keeps _ _ e1) hn
    exact ⟨sl', e2⟩
  have keepB : ∀ b o, X.s₀.heap.get? b = some o → X.H₀ b = none → b ∉ X.fs → B.get? b = some o := fun b o q n hb =>
    hid b o (I.base.keep b o q n hb (nx b)) (I.nst q hb)
  have thereB : ∀ b o, X.s₀.heap.get? b = some o → b ∉ X.fs → ∃ o', B.get? b = some o' := fun b o q hb => by
    obtain ⟨o1, e1⟩ := I.base.there b o q (nx b)
    exact ⟨o1, hid b o1 e1 (I.nst q hb)⟩
  refine ⟨I.os, I.bare, ⟨fun b o q n hb _ => fl'.1 b o (keepB b o q n hb), fun b o q _ hb _ => slot b o q hb, fun b o q n _ => I.base.free b o q n (nx b), fun b o q _ => ?_, I.base.tups, I.base.frzs, I.base.tbls⟩,
    _, _, fl', hB, keepB, thereB⟩
  by_cases hb : b ∈ X.fs
  · obtain ⟨sl, e2⟩ := slot b o q hb
    exact ⟨_, e2⟩
  · obtain ⟨o1, e1⟩ := thereB b o q hb
    exact ⟨o1, fl'.1 b o1 e1⟩
end

/-! ### a call whose wish about exceptions knows the frame -/
abbrev XS := St → XK
def PassesS (CX : CXT) (X : Cx) (E : XS) : Prop := ∀ (pins : List (Addr × Obj)) (σ : St) (H : Hp) (s : Shared) (e : Value) (s' : Shared), Inv X pins σ H s → CX X.stack H s (E σ) e s' → X.xe e s'
/-- an exception that is made in this body reaches what is wanted -/
def Raises (X : Cx) (E : XS) : Prop := ∀ (pins : List (Addr × Obj)) (σ : St) (H : Hp) (s : Shared) (h1 : Heap) (e : Addr) (cls : Value) (vs : List Value), Inv X pins σ H s → Heap.MadeExcOf s.heap h1 e cls vs → E σ cls none H → X.xe (.ref e) { s with heap := h1 }
theorem pass_none {P : Program} {w : World} {X : Cx} : PassesS (CX1 P w) X (fun _ => E0) := fun _ _ _ _ _ _ _ ⟨_, _, _, _, _, z⟩ => False.elim z
section
variable {P : Program} {w : World} {K : PySem.W.Frag} {mg : Str → Option Value} {base : Heap} {N : List Str} {qual : Str} {scope : Scope} {f : Addr} {cd : Value} {A : Around} {outer : List Env} {s : Shared} {H : Hp} {E : XK}
theorem raise_on : Raises (cxOf (CX1 P w) P w K mg base N qual scope f cd A outer s H E) (fun _ => E) := by
  intro pins σ H1 s1 h1 e cls vs I mk q
  exact made_leaves I mk rfl rfl rfl fun s'' f'' => ⟨e, cls, H1, rfl, f'', q⟩
end

section
variable {X : Cx} {CX : CXT} {k : Nat} {f C : Addr} {fd : FuncData} {ps : List Str} {sp : Sp} {dvs : List V} {ds : List Value} {E : XS} {x m : Str} {p pos apos : Pos} {e o : Expr} {es : List Expr} {ta : TE} {t : TA}
/-- f(..), where an exception of it is wanted as E says -/
def tCallX (sp : Sp) (dvs : List V) (E : XS) (t : TA) : TE := fun σ H Q => t σ H fun vs H1 => sp (vs ++ dvs) H1 Q (E σ)
theorem run_fnX {pins : List (Addr × Obj)} {σ : St} {H : Hp} {s : Shared} {Q : VK} {us : List Value} {vs : List V} (F : FnOk X.prog X.w X.K X.mg X.base CX k f fd ps sp) (hr : Room k X.A) (hb : Binds X.K fd ps ds) (hd : Vals dvs ds) (hx : PassesS CX X E)
    (I : Inv X pins σ H s) (r : Vals vs us) (h : sp (vs ++ dvs) H Q (E σ)) : wpAny (model X.prog X.w) X.A (call (.ref f) us) (EP X pins σ Q) X.xe s := by
  have r2 : Vals (vs ++ dvs) (us ++ ds) := r.append hd
  have hl : (us ++ ds).length = ps.length := by rw [← r2.length]; exact F.len _ _ _ _ h
  refine wpAny_call (codeAny_mono (F.run X.A X.stack s H ⟨us, []⟩ (us ++ ds) (vs ++ dvs) Q (E σ) hr I.env0 (hb s us I.kIn hl) r2 h) fun r s' hq => ?_)
  cases r with
  | error e => exact hx pins σ H s e s' I hq
  | ok fl =>
    cases fl with
    | ret u => exact I.after hq
    | next => exact False.elim hq
    | brk => exact False.elim hq
    | cont => exact False.elim hq
theorem pe_callX (F : FnOk X.prog X.w X.K X.mg X.base CX k f fd ps sp) (hr : Room k X.A) (hg : Gl X x) (hm : X.mg x = some (.ref f)) (hk : PySem.W.keepIn X.K (.ref f) = true) (hb : Binds X.K fd ps ds) (hd : Vals dvs ds) (hx : PassesS CX X E)
    (ha : PA X (e :: es) t) (hdb : (x == ("__debug__" : Str)) = false := by decide) (he : starEach (e :: es) X.env = (false, eval e X.env) :: starEach es X.env := by rfl) (hpl : (backTo pos (starEach es X.env)).any (·.1) = false := by rfl) :
    PE X (.Call (.Name x p) (e :: es) [] pos) (tCallX sp dvs E t) := by
  intro pins s σ H Q I h
  refine wpAny_Call_Name_kw (ld_glob I hg hm ?_ hdb)
  refine PySem.W.callWith_K (h₀ := X.base) I.ok.mod.kin hk (thn (ha pos pins s σ H _ I h) fun us s1 ⟨vs, H1, I1, r, q⟩ => ⟨I1.kIn, ?_⟩) he hpl
  exact run_fnX F hr hb hd hx I1 r q
end

/-! ### raise -/
section
variable {K : PySem.W.Frag} {h : Heap} {C : Addr} {bmB : List Value} {newId : String}
/-- an own error class without an __init__ of its own, as the top has it -/
theorem exc_at (X : K.In h) (q : PySem.W.excIn K C bmB newId = true) : ∃ bm N nm qn bs hdct sn sub ab col dd k0 k1 k2 k3 k5 mN,
    h.get? C = some (excClassObj nm qn C N bs bm hdct sn sub ab col dd k0 k1 k2 k3 k5 newId) ∧ h.Ns N mN ∧ mN "__init__" = none ∧ OwnTail h bmB bm := by
  unfold PySem.W.excIn at q
  split at q
  case h_2 => cases q
  case h_1 dict0 cdat slots0 found =>
    split at q
    case h_2 => cases q
    case h_1 C1 rest0 s0 s1 s2 s3 nid s5 mroEq slEq =>
      simp only [Bool.and_eq_true, beq_iff_eq, Bool.not_eq_true'] at q
      have q1 := q.1.1.1.1.1
      have q2 := q.1.1.1.1.2
      have q3 := q.1.1.1.2
      have q4 := q.1.1.2
      have q5 := q.1.2
      have q6 := q.2
      subst q1 q2
      cases cdat with
      | mk nmX basesX mroX nsX qualX hdX snX subX abX colX delX =>
        dsimp only at mroEq q3 q5 q6
        subst mroEq
        subst q3
        have es : slots0 = #[s0, s1, s2, s3, some (.builtin nid), s5] := by
          cases slots0 with
          | mk l => exact congrArg _ slEq
        subst es
        exact ⟨rest0, nsX, nmX, qualX, basesX, hdX, snX, subX, abX, colX, dict0, s0, s1, s2, s3, s5, _, X _ _ found, .of_isNs (PySem.W.isNs_of_in X q5), PySem.W.nsMap_none_of_in X q5 q6, PySem.W.tail_of_in X q4⟩
end
section
variable {X : Cx} {x : Str} {C : Addr} {np cpos pos : Pos} {e₀ : Expr} {rest : List Expr} {t : TA} {bmB : List Value} {newId B initId : String} {E : XS}
def tRaise (C : Addr) (E : XS) (t : TA) : TS := fun _ σ H => t σ H fun vs H1 => vs.length ≤ sizeLine ∧ E σ (.ref C) none H1
theorem ps_raise (hg : Gl X x) (hm : X.mg x = some (.ref C)) (q : PySem.W.excIn X.K C bmB newId = true) (FB : ExcBaseFacts B newId initId bmB) (hc : X.calm = true) (hx : Raises X E) (ha : PA X (e₀ :: rest) t)
    (hd : (x == ("__debug__" : Str)) = false := by decide) (he : starEach (e₀ :: rest) X.env = (false, eval e₀ X.env) :: starEach rest X.env := by rfl) (hpl : (backTo cpos (starEach rest X.env)).any (·.1) = false := by rfl) :
    PS X (.Raise (some (.Call (.Name x np) (e₀ :: rest) [] cpos)) none pos) (tRaise C E t) := by
  intro pins s σ H D I h
  obtain ⟨bm, N, nm, qn, bs, hdct, sn, sub, ab, col, dd, k0, k1, k2, k3, k5, mN, hC, hN, hni, T⟩ := exc_at I.mod.kin q
  have hpl' : (backTo cpos (starEach (e₀ :: rest) X.env)).any (·.1) = false := by
    rw [he]
    exact hpl
  refine wpAny_Raise_call_subT (C := C) (nm := nm) (q := qn) (N := N) (bs := bs) (bm := bm) (hdct := hdct) (sn := sn) (sub := sub) (ab := ab) (col := col) (dd := dd) (k0 := k0) (k1 := k1) (k2 := k2)
    (k3 := k3) (k5 := k5) FB (mN := mN) (T.hasType FB.hasBase) (I.ok.hd hc) hpl' hni (ld_glob I hg hm ⟨rfl, ?_⟩ hd)
  have g := ha cpos pins s σ H _ I h
  rw [he] at g ⊢
  refine Calls.evalArgs_plain (wpAny_mono g (fun us s1 r1 => ?_) fun _ _ y => y)
  obtain ⟨vs, H1, I1, rv, z, q1⟩ := r1
  exact ⟨rfl, by rw [← rv.length]; exact z, I1.bk _ _ hC, hN.keeps I1.bk, T.keeps I1.bk, fun h1 e mk => hx pins σ H1 s1 h1 e (.ref C) us I1 mk q1⟩
end
end L2

set_option Elab.async false
set_option linter.all false
set_option maxRecDepth 100000
set_option maxHeartbeats 4000000
namespace L2
open PySem PySem.Spec PyProof.Rows

/-! ### try: one except clause -/
/-- what is known of a caught exception -/
def ExcAt (cls : Value) (e : Addr) : Heap → Prop := fun h => ∃ o vs, h.get? e = some o ∧ o.cls = cls ∧ o.data = .fields vs
def ExcO (cls : Value) (e : Addr) : HO := .ext (ExcAt cls e)
section
variable {P : Program} {w : World} {H H' : Hp} {h h' : Heap} {a : Addr} {o : HO}
theorem HOk.track (x : HOk P w H h) (n : H a = none) (new : ObjOk P w (upd H a o) h a o) : HOk P w (upd H a o) h := fun b u e => by
  by_cases hb : b = a
  · subst hb
    rw [upd_same] at e
    cases e
    exact new
  · rw [upd_ne hb] at e
    exact (x b u e).stay (fun _ _ _ q => q) (fun c q => by rw [upd_ne (ne_of_none q n)]; exact q) fun c xs q => by rw [upd_ne (ne_of_none q n)]; exact q
theorem excO_ok {cls : Value} {e : Addr} (x : ExcAt cls e h) : ObjOk P w H h e (ExcO cls e) := by
  obtain ⟨ob, vs, h1, h2, h3⟩ := id x
  exact ⟨x, ⟨ob, h1⟩, fun g1 g2 ⟨o1, vs1, z1, z2, z3⟩ k => ⟨o1, vs1, k o1 z1, z2, z3⟩⟩
end
section
variable {P : Program} {w : World} {outer : List Env} {H H' : Hp} {s s' : Shared} {e : Addr} {cls : Value}
/-- it may be looked at and held: it flies on -/
theorem Flies.move (f : Flies P w outer H H' s s' e cls) : ∃ B a0, Heap.FlyingW B outer e cls a0 s'.heap ∧
    ∀ h5, Heap.FlyingW B outer e cls a0 h5 → s'.heap.UpToSlots h5 → Flies P w outer H H' s { s' with heap := h5 } e cls := by
  obtain ⟨B, a0, fl, hB, kB, tB⟩ := f.fly
  refine ⟨B, a0, fl, fun h5 fl5 up => ⟨f.os, f.bare, ⟨fun b o q n hb _ => fl5.1 b o (kB b o q n hb), fun b o q n hb hx => ?_, f.un.free, fun b o q hx => ?_, f.un.tups, f.un.frzs, f.un.tbls⟩, B, a0, fl5, hB, kB, tB⟩⟩
  · obtain ⟨sl, e1⟩ := f.un.slot b o q n hb hx
    obtain ⟨_, o', ho', hn⟩ := fl.2.2.1.mem hb
    rw [e1] at ho'
    cases ho'
    obtain ⟨sl', e2⟩ := up b _ e1 hn
    exact ⟨sl', e2⟩
  · by_cases hb : b ∈ frs outer
    · obtain ⟨_, o', ho', hn⟩ := fl.2.2.1.mem hb
      obtain ⟨sl', e2⟩ := up b _ ho' hn
      exact ⟨_, e2⟩
    · obtain ⟨o1, e1⟩ := tB b o q hb
      exact ⟨o1, fl5.1 b o1 e1⟩
/-- it is new, and nothing that is tracked -/
theorem Flies.new (f : Flies P w outer H H' s s' e cls) : H' e = none ∧ s.heap.get? e = none ∧ ExcAt cls e s'.heap := by
  obtain ⟨B, a0, fl, hB, kB, tB⟩ := f.fly
  obtain ⟨oe, vs, h1, h2, h3, _⟩ := fl.first
  refine ⟨?_, ?_, oe, vs, h1, h2, h3⟩
  · cases q : H' e with
    | none => rfl
    | some u =>
      obtain ⟨o1, e1⟩ := (hB e u q).there
      rw [fl.2.1] at e1
      cases e1
  · cases q : s.heap.get? e with
    | none => rfl
    | some u =>
      by_cases hb : e ∈ frs outer
      · obtain ⟨_, o', ho', hn⟩ := fl.2.2.1.mem hb
        rw [h1] at ho'
        cases ho'
        exact absurd h3 (hn vs)
      · obtain ⟨o1, e1⟩ := tB e u q hb
        rw [fl.2.1] at e1
        cases e1
end
section
variable {X : Cx} {pins : List (Addr × Obj)} {σ : St} {H H' : Hp} {s s' : Shared} {e : Addr} {cls : Value}
/-- it is caught: it is tracked from here on -/
theorem Flies.caught (f : Flies X.prog X.w X.stack H H' s s' e cls) (I : Inv X pins σ H s) : Inv X pins σ (upd H' e (ExcO cls e)) s' := by
  obtain ⟨n1, n2, ex⟩ := f.new
  have J := f.inv I
  have ne : ∀ b o, s.heap.get? b = some o → b ≠ e := fun b o q z => by
    rw [z, n2] at q
    cases q
  refine I.call' (ch := []) f.os ⟨f.un.keep, f.un.slot, fun b o q n hx => ?_, f.un.there, fun b xs q => ?_, fun b o u q => ?_, fun b ps q => ?_⟩ (J.hok.track n1 (excO_ok ex)) f.bare (fun b z => absurd z (by simp))
  · rw [upd_ne (ne b o q)]
    exact f.un.free b o q n hx
  · have z := f.un.tups b xs q
    rw [upd_ne (ne_of_none z n1)]
    exact z
  · have z := f.un.frzs b o u q
    rw [upd_ne (ne_of_none z n1)]
    exact z
  · obtain ⟨more, z⟩ := f.un.tbls b ps q
    exact ⟨more, by rw [upd_ne (ne_of_none z n1)]; exact z⟩
end
/-- the context of a try's body; of an except suite -/
abbrev Cx.tryIn (X : Cx) (pins : List (Addr × Obj)) (W : Value → Shared → Prop) : Cx := { X with pn := X.pn ++ pins, xe := W }
abbrev Cx.suite (X : Cx) (pins : List (Addr × Obj)) (e : Addr) : Cx := { X with pn := X.pn ++ pins, A := X.A.mark (some (.ref e)), calm := false, xe := fun _ _ => False }
section
variable {X : Cx} {pins pins' : List (Addr × Obj)} {σ : St} {H H' : Hp} {s s' : Shared} {W : Value → Shared → Prop} {e : Addr}
theorem Inv.tryIn (I : Inv X pins σ H s) (W : Value → Shared → Prop) : Inv (X.tryIn pins W) [] σ H s :=
  ⟨⟨I.ok.mod, I.ok.kind, I.ok.glob, I.ok.blt, I.ok.above, I.ok.inj, I.ok.has, I.ok.cab, I.ok.hd, I.ok.frames, I.ok.stk, I.ok.exf, I.ok.bs, I.ok.bsz, I.ok.noex, I.ok.exfs, I.ok.funs, I.ok.frf⟩,
    I.os, I.bare, I.base, I.loc, I.cell, I.free, I.freeC, fun p hp => I.pin p (by rw [List.append_nil] at hp; exact hp), I.hok, I.len⟩
theorem Inv.untry (I : Inv (X.tryIn pins W) pins' σ H s) : Inv X pins σ H s :=
  ⟨⟨I.ok.mod, I.ok.kind, I.ok.glob, I.ok.blt, I.ok.above, I.ok.inj, I.ok.has, I.ok.cab, I.ok.hd, I.ok.frames, I.ok.stk, I.ok.exf, I.ok.bs, I.ok.bsz, I.ok.noex, I.ok.exfs, I.ok.funs, I.ok.frf⟩,
    I.os, I.bare, I.base, I.loc, I.cell, I.free, I.freeC, fun p hp => I.pin p (List.mem_append_left _ hp), I.hok, I.len⟩
theorem Inv.suite (I : Inv X pins σ H s) (e : Addr) : Inv (X.suite pins e) [] σ H s :=
  ⟨⟨I.ok.mod, I.ok.kind, I.ok.glob, I.ok.blt, I.ok.above, I.ok.inj, I.ok.has, I.ok.cab, (fun z => nomatch z), I.ok.frames, I.ok.stk, I.ok.exf, I.ok.bs, I.ok.bsz, I.ok.noex, I.ok.exfs, I.ok.funs, I.ok.frf⟩,
    I.os, I.bare, I.base, I.loc, I.cell, I.free, I.freeC, fun p hp => I.pin p (by rw [List.append_nil] at hp; exact hp), I.hok, I.len⟩
theorem Inv.unsuite (I : Inv (X.suite pins e) pins' σ H s) (hd : X.calm = true → X.A.handled = none) : Inv X pins σ H s :=
  ⟨⟨I.ok.mod, I.ok.kind, I.ok.glob, I.ok.blt, I.ok.above, I.ok.inj, I.ok.has, I.ok.cab, hd, I.ok.frames, I.ok.stk, I.ok.exf, I.ok.bs, I.ok.bsz, I.ok.noex, I.ok.exfs, I.ok.funs, I.ok.frf⟩,
    I.os, I.bare, I.base, I.loc, I.cell, I.free, I.freeC, fun p hp => I.pin p (List.mem_append_left _ hp), I.hok, I.len⟩
theorem SP.untry {D : Ends} {f : Flow} (h : SP (X.tryIn pins W) pins' D f s') : SP X pins D f s' := by
  cases f with
  | next => obtain ⟨σ', H', I, q⟩ := h; exact ⟨σ', H', I.untry, q⟩
  | brk => obtain ⟨σ', H', I, q⟩ := h; exact ⟨σ', H', I.untry, q⟩
  | cont => obtain ⟨σ', H', I, q⟩ := h; exact ⟨σ', H', I.untry, q⟩
  | ret u => obtain ⟨v, σ', H', I, r, q⟩ := h; exact ⟨v, σ', H', I.untry, r, q⟩
theorem SP.unsuite {D : Ends} {f : Flow} (hd : X.calm = true → X.A.handled = none) (h : SP (X.suite pins e) pins' D f s') : SP X pins D f s' := by
  cases f with
  | next => obtain ⟨σ', H', I, q⟩ := h; exact ⟨σ', H', I.unsuite hd, q⟩
  | brk => obtain ⟨σ', H', I, q⟩ := h; exact ⟨σ', H', I.unsuite hd, q⟩
  | cont => obtain ⟨σ', H', I, q⟩ := h; exact ⟨σ', H', I.unsuite hd, q⟩
  | ret u => obtain ⟨v, σ', H', I, r, q⟩ := h; exact ⟨v, σ', H', I.unsuite hd, r, q⟩
/-- the exception's name goes behind the suite -/
theorem name_gone {M : Model} {A : Around} {E : Value → Shared → Prop} {i : Nat} {x : Str} {pos : Pos} {Q : Unit → Shared → Prop} (I : Inv X pins σ H s) (hN : X.N.Nodup) (hi : X.N[i]? = some x) (hk : X.env.scope.names.lookup x = some .local)
    (h : ∀ s', Inv X pins (σ.set i none) H s' → Q () s') : wpAny M A (do bindName X.env x .none; unbindBehindTheSuite X.env x pos) Q E s := by
  obtain ⟨m, hn, hl⟩ := id I.loc
  have hcls : (X.env.scope.kind == .class || (X.env.scope.kind == .module && X.env.locals != X.env.globals)) = false := by rw [I.ok.kind]; rfl
  have hiσ : i < σ.length := by rw [I.len]; exact (List.getElem?_eq_some_iff.mp hi).1
  have cne := I.cne
  refine wpAny_nameGoes_keeps hk hn hcls fun h' v hn' hs => h _ ?_
  obtain ⟨oL, _, _, hoL, _⟩ := id hn
  refine ⟨I.ok, I.os, I.bare, ⟨fun b o e n hb hx => ?_, fun b o e n hb hx => ?_, I.base.free, fun b o e hx => ?_, I.base.tups, I.base.frzs, I.base.tbls⟩, ⟨_, hn', fun j y v' e1 e2 e3 => ?_⟩, fun y c e => ?_, I.free, I.freeC, fun p hp => ?_, fun b ob e => ?_, by simpa using I.len⟩
  · exact (hs.2 b (Nat.ne_of_lt (Nat.lt_of_lt_of_le (Heap.lt_size e) I.ok.above))).trans (I.base.keep b o e n hb hx)
  · obtain ⟨sl, e1⟩ := I.base.slot b o e n hb hx
    exact ⟨sl, (hs.2 b (Nat.ne_of_lt (Nat.lt_of_lt_of_le (Heap.lt_size e) I.ok.above))).trans e1⟩
  · obtain ⟨o', e1⟩ := I.base.there b o e hx
    exact ⟨o', (hs.2 b (Nat.ne_of_lt (Nat.lt_of_lt_of_le (Heap.lt_size e) I.ok.above))).trans e1⟩
  · by_cases hj : j = i
    · subst hj
      rw [List.getElem?_set_self hiσ] at e2
      cases e2
    · rw [List.getElem?_set_ne (Ne.symm hj)] at e2
      obtain ⟨u', r', q⟩ := hl j y v' e1 e2 e3
      refine ⟨u', r', ?_⟩
      rcases q with ⟨k, e⟩ | ⟨k, c, e, z⟩
      · refine .inl ⟨k, ?_⟩
        have : y ≠ x := fun e => hj (nodup_ix hN e1 (e ▸ hi))
        simp [this, e]
      · exact .inr ⟨k, c, e, z.sameBut hs (cne y c e)⟩
  · obtain ⟨w', z⟩ := I.cell y c e
    exact ⟨w', z.sameBut hs (cne y c e)⟩
  · obtain ⟨e, n, ne, nf, d⟩ := I.pin p hp
    exact ⟨(hs.2 p.1 ne).trans e, n, ne, nf, d⟩
  · refine (I.hok b ob e).stay (fun c w' hc q => (hs.2 c ?_).trans q) (fun _ q => q) fun _ _ q => q
    rintro rfl
    rcases hc with rfl | hc
    · rw [I.free] at e; cases e
    · rw [I.free] at hc; cases hc
end
/-- a global, whatever is around -/
theorem ld_globA {X : Cx} {A : Around} {E : Value → Shared → Prop} {pins : List (Addr × Obj)} {s : Shared} {σ : St} {H : Hp} {x : Str} {u : Value} {pos : Pos} {Q : Value → Shared → Prop} (I : Inv X pins σ H s) (hg : Gl X x) (hm : X.mg x = some u) (h : Q u s)
    (hd : (x == ("__debug__" : Str)) = false := by decide) : wpAny (model X.prog X.w) A (eval (.Name x pos) X.env) Q E s :=
  Calls.Name_function_global I.ok.kind hg (Calls.loadGlobal_global (by rw [I.ok.glob]; exact I.mod.glob.keeps I.bk) hm h) hd

/-- behind a suite the exception's name is gone -/
def endsOff (i : Nat) (D : Ends) : Ends := { nx := fun σ H => D.nx (σ.set i none) H, rt := D.rt, bk := fun σ H => D.bk (σ.set i none) H, ct := fun σ H => D.ct (σ.set i none) H }
/-- what is wanted of an exception: it is of the class at C, and the suite goes on (with the name in slot i, or without) -/
def catchAs (C : Addr) (i : Nat) (ts : TS) (D : Ends) : XS := fun σ cls _ H => cls = .ref C ∧ ∀ e, H e = none → ts (endsOff i D) (σ.set i (some (.ref e))) (upd H e (ExcO (.ref C) e))
def tTryAs (C : Addr) (i : Nat) (tb : XS → TS) (ts : TS) : TS := fun D σ H => tb (catchAs C i ts D) D σ H
section
variable {X : Cx} {body suite : List Stmt} {b₀ : Stmt} {x n : Str} {C : Addr} {np hpos pos : Pos} {bmB : List Value} {newId : String} {i : Nat} {tb : XS → TS} {ts : TS}
/-- a try whose body's exceptions are all of one own class, that is caught by its name -/
theorem ps_tryAs (hs : X.stack = X.env :: X.outer) (hf : X.env.frame = some X.env.locals) (hg : Gl X x) (hm : X.mg x = some (.ref C)) (q : PySem.W.excIn X.K C bmB newId = true) (hbase : bmB.contains (.type "BaseException") = true)
    (hN : X.N.Nodup) (hi : X.N[i]? = some n) (hk : X.env.scope.names.lookup n = some .local)
    (hb : ∀ pins W E, PassesS (CX1 X.prog X.w) (X.tryIn pins W) E → PSs (X.tryIn pins W) body (tb E)) (hsu : ∀ pins e, PSs (X.suite pins e) (b₀ :: suite) ts)
    (hd : (x == ("__debug__" : Str)) = false := by decide) : PS X (.Try body [.ExceptHandler (some (.Name x np)) (some n) (b₀ :: suite) hpos] [] [] pos) (tTryAs C i tb ts) := by
  intro pins s σ H D I h
  refine wpAny_Try_except ?_
  refine wpAny_mono (hb pins (fun u s₁ => wpAny (model X.prog X.w) X.A (noteFrame u X.env) (fun _ s₂ => wpAny (model X.prog X.w) X.A (setFlight u none) (fun _ s₃ =>
    wpAny (model X.prog X.w) X.A (handleBy u X.env [.ExceptHandler (some (.Name x np)) (some n) (b₀ :: suite) hpos]) (SP X pins D) X.xe s₃) X.xe s₂) X.xe s₁) (catchAs C i ts D) ?_ [] s σ H D (I.tryIn _) h) ?_ fun _ _ z => z
  · rintro pins' σ1 H1 s1 u s' I1 ⟨e, cls, H', rfl, fl, rfl, hts⟩
    have J1 : Inv X pins σ1 H1 s1 := I1.untry
    have fl : Flies X.prog X.w X.stack H1 H' s1 s' e (.ref C) := fl
    obtain ⟨B, a0, f0, mv⟩ := fl.move
    rw [hs] at f0
    refine wpAny_looks_onW (by rw [I.ok.frames, hs]) hf f0 fun h4 held4 up4 => ?_
    refine wpAny_landsW held4 fun h5 f5 up5 => ?_
    have fl5 := mv h5 (by rw [hs]; exact f5) (up4.trans up5)
    have J5 := fl5.inv J1
    obtain ⟨ob, hob, hobc⟩ := f5.there
    refine wpAny_handleBy_cons (codeAny_handlers_test (ld_globA J5 hg hm ?_ hd)) (by intro z; cases z)
    obtain ⟨bm, Nn, nm, qn, bs, hdct, sn, sub, ab, col, dd, k0, k1, k2, k3, k5, mN, hC, hNn, hni, T⟩ := exc_at I.mod.kin q
    refine wpAny_excMatches_sub_self (J5.bk _ _ hC) hob hobc (T.hasType hbase) (codeAny_handlers_suite_as ?_)
    refine lands_againW f5 fun h6 f6 up6 => ?_
    have fl6 := mv h6 (by rw [hs]; exact f6) ((up4.trans up5).trans up6)
    have J6 := fl6.caught J1
    refine store_ok (X := X.suite pins e) (v := .ref e) (J6.suite e) hN hi (.inl hk) rfl (fun s7 J7 => ?_) (.inr hk)
    refine wpAny_mono (hsu pins e [] s7 _ _ _ J7 (hts e fl6.new.1)) (fun f s8 r8 => ?_) fun _ _ z => False.elim z
    have r9 : SP X pins (endsOff i D) f s8 := r8.unsuite I.ok.hd
    cases f with
    | next =>
      obtain ⟨σ9, H9, I9, q9⟩ := r9
      exact name_gone I9 hN hi hk fun s' J' => ⟨_, H9, J', q9⟩
    | brk =>
      obtain ⟨σ9, H9, I9, q9⟩ := r9
      exact name_gone I9 hN hi hk fun s' J' => ⟨_, H9, J', q9⟩
    | cont =>
      obtain ⟨σ9, H9, I9, q9⟩ := r9
      exact name_gone I9 hN hi hk fun s' J' => ⟨_, H9, J', q9⟩
    | ret u =>
      obtain ⟨v, σ9, H9, I9, rv, q9⟩ := r9
      exact name_gone I9 hN hi hk fun s' J' => ⟨v, _, H9, J', rv, q9⟩
  · intro f s1 r1
    have r2 : SP X pins D f s1 := r1.untry
    cases f with
    | next => exact wpAny_execs_nil r2
    | brk => exact r2
    | cont => exact r2
    | ret u => exact r2
end
end L2

set_option Elab.async false
set_option linter.all false
set_option maxRecDepth 100000
set_option maxHeartbeats 4000000
/-! isinstance, of exceptions too; «is» beside a truth; greater numbers. -/
namespace L2
open PySem PySem.Spec PyProof.Rows
/-- what the top tells of an own error class, for isinstance -/
structure ExcK (K : PySem.W.Frag) (C : Addr) : Prop where
  ga : PySem.W.findIn K (.ref C) "__getattribute__" = some (some (.builtin "BaseException.__getattribute__"))
  gt : PySem.W.findIn K (.ref C) "__getattr__" = some none
  cl : PySem.W.findIn K (.ref C) "__class__" = some (some (.builtin "object.__class__"))
  mb : PySem.W.mroIn K C (.type "BaseException") = some true
  mo : PySem.W.mroIn K C (.type "object") = some true
section
variable {prog : Program} {w : World} {A : Around} {E : Value → Shared → Prop} {K : PySem.W.Frag} {h : Heap} {g : Array GenState} {d : Drawn} {t : Nat} {os : OsState} {a C : Addr} {ob : Obj}
theorem own_class_owner : (".".intercalate ("object.__class__".cutAt '.').dropLast) = "object" := by decide +kernel
theorem exc_get {R : Result → Shared → Prop} (X : K.In h) (Z : ExcK K C) (hx : h.get? a = some ob) (hc : ob.cls = .ref C) (hq : R (.ok (.ret (.ref C))) ⟨h, g, d, t, os⟩) :
    codeAny (model prog w) A (.call (.builtin "getset_descriptor.__get__") ⟨[.builtin "object.__class__", .ref a, .ref C], []⟩) R ⟨h, g, d, t, os⟩ := by
  have k5 : (⟨h, g, d, t, os⟩ : Shared).TypeIs (.builtin "object.__class__") "getset_descriptor" := F.typeOf_object_class
  have mo : PySem.W.Looks (model prog w) h (isSubtype (.ref C) (.type (".".intercalate ("object.__class__".cutAt '.').dropLast))) true := by
    rw [own_class_owner]
    exact PySem.W.looks_mroIn X Z.mo
  refine codeAny_call_builtin F.slot_gs_get.plain F.entry_gs_get (F.slot_gs_get.check _ _ _ _ _ _ _ _ k5 (F.args_gs_get _ _ _) ?_)
  repeat (any_goals (first | assumption | (with_reducible refine wpAny_loadPart_at hx ?_; rw [hc]) | (with_reducible refine mo.at ?_) | wp_step))
  refine ⟨Code.quiet_builtin _ (by decide +kernel), codeAny_builtin F.entry_object_class ?_⟩
  repeat (any_goals (first | assumption | (with_reducible refine wpAny_loadPart_at hx ?_; rw [hc]) | wp_step))
theorem exc_entry {tk : Tok} {Q : Fin → Shared → Prop} (X : K.In h) (Z : ExcK K C) (hx : h.get? a = some ob) (hc : ob.cls = .ref C) (hq : Q (.done (.ret (.ref C))) ⟨h, g, d, t, os⟩) :
    wpAny (model prog w) A (Builtin.«object.__getattribute__» ⟨[.ref a, .str "__class__" tk], []⟩) Q E ⟨h, g, d, t, os⟩ := by
  have k5 : (⟨h, g, d, t, os⟩ : Shared).TypeIs (.builtin "object.__class__") "getset_descriptor" := F.typeOf_object_class
  have f5 := F.typeOf_object_class
  have f6 := F.slot_gs_get.lookup
  have f7 := F.slot_gs_set.lookup
  have lc := PySem.W.looks_findIn (M := model prog w) X Z.cl
  repeat (any_goals (first | assumption | (with_reducible refine wpAny_loadPart_at hx ?_; rw [hc]) | (with_reducible refine lc.at ?_) | wp_step))
  refine exc_get X Z hx hc ?_
  repeat (any_goals (first | assumption | wp_step))
theorem exc_check {M : Model} {nameV : Value} {Q : Unit → Shared → Prop} (X : K.In h) (Z : ExcK K C) (hx : h.get? a = some ob) (hc : ob.cls = .ref C) (hq : Q () ⟨h, g, d, t, os⟩) :
    wpAny M A (checkBuiltinCall "BaseException.__getattribute__" ⟨[.ref a, nameV], []⟩) Q E ⟨h, g, d, t, os⟩ := by
  have kd : builtinKind "BaseException.__getattribute__" = some .slot := by decide +kernel
  have sp : splitId "BaseException.__getattribute__" = some ("BaseException", "__getattribute__") := by decide +kernel
  have mb := PySem.W.looks_mroIn (M := M) X Z.mb
  have ar := F.args_bexc_ga (.ref a) nameV
  simp only [checkBuiltinCall, kd, sp]
  refine wpAny_bind ?_
  unfold isInstance
  repeat (first | (with_reducible refine wpAny_loadPart_at hx ?_; rw [hc]) | (with_reducible refine mb.at ?_) | wp_step)
  exact hq
theorem exc_call {tk : Tok} {R : Result → Shared → Prop} (X : K.In h) (Z : ExcK K C) (hx : h.get? a = some ob) (hc : ob.cls = .ref C) (hq : R (.ok (.ret (.ref C))) ⟨h, g, d, t, os⟩) :
    codeAny (model prog w) A (.call (.builtin "BaseException.__getattribute__") ⟨[.ref a, .str "__class__" tk], []⟩) R ⟨h, g, d, t, os⟩ :=
  codeAny_call_builtin (F.excAttr_ValueError).ga.plain F.entry_bexc_ga (exc_check X Z hx hc (exc_entry X Z hx hc hq))
theorem exc_by {tk : Tok} {fill expr : Bool} {Q : Value → Shared → Prop} (X : K.In h) (Z : ExcK K C) (hx : h.get? a = some ob) (hc : ob.cls = .ref C) (hq : Q (.ref C) ⟨h, g, d, t, os⟩) :
    wpAny (model prog w) A (getAttrBy (.ref a) (.str "__class__" tk) fill expr) Q E ⟨h, g, d, t, os⟩ := by
  have f3 := (F.excAttr_ValueError).ga.bind (.ref a)
  have y0 : (expr && onTheHeap (Value.builtin "BaseException.__getattribute__")) = false := by cases expr <;> rfl
  have y2 : (Value.builtin "BaseException.__getattribute__" == Value.builtin "object.__getattribute__") = false := by decide +kernel
  have y1 : (onTheHeap (Value.ref C) && Value.builtin "BaseException.__getattribute__" == Value.builtin "object.__getattribute__") = false := by rw [y2]; rfl
  have lg := PySem.W.looks_findIn (M := model prog w) X Z.ga
  have lt := PySem.W.looks_findIn (M := model prog w) X Z.gt
  repeat (any_goals (first | assumption | (with_reducible refine wpAny_loadPart_at hx ?_; rw [hc]) | (with_reducible refine lg.at ?_) | (with_reducible refine lt.at ?_) | wp_step))
  refine exc_call X Z hx hc ?_
  repeat (any_goals (first | assumption | wp_step))
theorem exc_attr {Q : Option Value → Shared → Prop} (X : K.In h) (Z : ExcK K C) (hx : h.get? a = some ob) (hc : ob.cls = .ref C) (hq : Q (some (.ref C)) ⟨h, g, d, t + 1, os⟩) :
    wpAny (model prog w) A (getAttr? (.ref a) "__class__") Q E ⟨h, g, d, t, os⟩ := by
  unfold getAttr? getAttrBy?
  repeat (any_goals (first | assumption | with_reducible apply exc_by X Z hx hc | wp_step))
end
section
variable {K : PySem.W.Frag} {a C : Addr}
theorem kitx_exc (Z : ExcK K C) : PySem.W.KitX K (.ref a) (.ref C) (ExcAt (.ref C) a) where
  ty := fun M h X p => by
    obtain ⟨o, vs, h1, h2, _⟩ := p
    exact h2 ▸ (PySem.W.Looks.ld h1).andThen .now
  it := fun M h X p => by
    obtain ⟨cd, hc, _⟩ := Option.bind_eq_some_iff.mp Z.mo
    unfold PySem.W.clsIn at hc
    split at hc
    · rename_i ho
      intro A' Q' E' s' k q
      unfold isType loadHead
      exact wpAny_bind (wpAny_loadPart (k _ _ (X _ _ ho)) (wpAny_pure q))
    · cases hc
  ne := fun h tp dd its n sl X htp => by
    obtain ⟨cd, hc, _⟩ := Option.bind_eq_some_iff.mp Z.mo
    refine Bool.eq_false_iff.mpr fun q => ?_
    have e : C = tp := Value.ref.inj (beq_iff_eq.mp q)
    subst e
    unfold PySem.W.clsIn at hc
    split at hc
    · rename_i ho
      have z := (X _ _ ho).symm.trans htp
      cases z
    · cases hc
  ca := fun {prog w A E Q s} X p k => by
    obtain ⟨h, g, d, t, os⟩ := s
    obtain ⟨o, vs, h1, h2, _⟩ := p
    exact exc_attr X Z h1 h2 k
end
/-- the kind of a value; of a caught exception its class -/
inductive Kd (K : PySem.W.Frag) (H : Hp) : V → Value → Prop where
  | of {x : V} {t : Value} (e : TyOf K H x t) : Kd K H x t
  | exc {a C : Addr} (Z : ExcK K C) (e : H a = some (ExcO (.ref C) a)) : Kd K H (.ref a) (.ref C)
  | sqt {a : Addr} {xs : List V} (e : SqT K H a xs) : Kd K H (.ref a) (.type "tuple")
  | sql {a : Addr} {xs : List V} (e : SqL K H a xs) : Kd K H (.ref a) (.type "list")
def isC : V → Bool
  | .ref _ => true
  | .ty _ => true
  | _ => false
def clsV : V → Value
  | .ref a => .ref a
  | .ty n => .type n
  | _ => .none
section
variable {X : Cx} {A : Around}
theorem call_isi : CallR X (.builtin "isinstance") (fun xs H Q => ∃ x c t b, xs = [x, c] ∧ isC c = true ∧ Kd X.K H x t ∧ PySem.W.kitOne X.K t (clsV c) = some b ∧ Q (.bl b) H) := by
  intro pins s σ H xs us Q I r h
  obtain ⟨x, c, t, b, rfl, ic, ty, e, q⟩ := h
  obtain ⟨u, v, rfl, rx, rc⟩ := vals2 r
  have ec : clsV c = v := by
    cases c with
    | ref a => exact Eq.symm rc
    | ty n => exact Eq.symm rc
    | _ => cases ic
  rw [ec] at e
  have fin : ∀ tk, EP X pins σ Q (.bool b) { s with toks := tk } := fun tk => ⟨.bl b, H, I.tok tk, rfl, q⟩
  cases ty with
  | of ty => exact isinst_ok I rx ty e fin
  | @exc a C Z ea =>
    cases (show u = Value.ref a from rx)
    obtain ⟨p, _, _⟩ := (show ObjOk X.prog X.w H s.heap a (ExcO (.ref C) a) from I.hok a _ ea)
    exact PySem.W.kia_one (kitx_exc Z) I.kIn p e (fun z => nomatch z) fin
  | @sqt a ys ea =>
    cases (show u = Value.ref a from rx)
    rcases ea with ea | ⟨o, its, n, h1, h2, _⟩
    · obtain ⟨_, _, _, p⟩ := (show ObjOk X.prog X.w H s.heap a (.tup ys) from ea.ok I.hok)
      obtain ⟨o, h1, h2, _⟩ := p
      exact PySem.W.kia_one PySem.W.kitx_tuple I.kIn ⟨o, h1, h2⟩ e (fun z => nomatch z) fin
    · exact PySem.W.kia_one PySem.W.kitx_tuple I.kIn ⟨o, I.kIn _ _ h1, h2⟩ e (fun z => nomatch z) fin
  | @sql a ys ea =>
    cases (show u = Value.ref a from rx)
    rcases ea with ea | ⟨o, its, n, h1, h2, _⟩
    · obtain ⟨_, _, n, _, h1⟩ := (show ObjOk X.prog X.w H s.heap a (.lst ys) from ea.ok I.hok)
      exact PySem.W.kia_one PySem.W.kitx_list I.kIn ⟨_, h1, rfl⟩ e (fun z => nomatch z) fin
    · exact PySem.W.kia_one PySem.W.kitx_list I.kIn ⟨o, I.kIn _ _ h1, h2⟩ e (fun z => nomatch z) fin
/-! ### numbers of up to a thousand bits -/
theorem op_fdivB : OpR X (binaryOp .FloorDiv) (rI (fun _ j => j ≠ 0 ∧ j.natAbs < 2 ^ 1000) fun i j => .int (i.fdiv j)) := opI fun i j _ _ _ _ _ hc q =>
  floordiv_int hc.1 q (.inl (PyProof.noPylong_of_log2 (by
    have n : j.natAbs ≠ 0 := fun z => hc.1 (Int.natAbs_eq_zero.mp z)
    have := (Nat.log2_lt n).mpr hc.2
    omega)))
/-! ### a def as it stands, its exceptions leave it -/
theorem Fun.okX {P : Program} {w : World} {K : PySem.W.Frag} {mg : Str → Option Value} {base : Heap} {CX : CXT} {x qual : Str} {st : Stmt} {f : Addr} {fd : FuncData} {N ps : List Str} {k : Nat} {sp : Sp} (F : Fun K x qual st f fd) (S : FnScope N ps (defScope st))
    (len : ∀ vs H Q E, sp vs H Q E → vs.length = ps.length)
    (hbody : ∀ (cdv : Value) (A : Around) (outer : List Env) (s : Shared) (H : Hp) (vs : List V) (Q : VK) (E : XK), Room k (A.deeper (envOfC qual (defScope st) s.heap.objs.size f cdv)) → sp vs H Q E →
      ∃ t, PSs (cxOf CX P w K mg base N qual (defScope st) f cdv A outer s H E) (defBody st) t ∧ t { nx := fun _ H' => Q .non H', rt := Q } (start N vs) H) : FnOk P w K mg base CX (k + 1) f fd ps sp := by
  obtain ⟨oc, od, kV, doc, pm, an, cdv, ct, osl, rfl, lk, hcd⟩ := F.ex
  exact fn_of lk hcd S len fun A outer s H vs Q E hr hsp => hbody cdv A outer s H vs Q E hr hsp
end
end L2

set_option Elab.async false
set_option linter.all false
set_option maxRecDepth 100000
set_option maxHeartbeats 4000000
namespace L2
open PySem PySem.Spec PyProof.Rows
/-! ### names of Python's own; the base of own errors -/
theorem bt_str : bootBuiltins "str" = some (.type "str") := by decide +kernel
theorem bt_list : bootBuiltins "list" = some (.type "list") := by decide +kernel
theorem bt_tuple : bootBuiltins "tuple" = some (.type "tuple") := by decide +kernel
theorem bt_ValueError : bootBuiltins "ValueError" = some (.type "ValueError") := by decide +kernel
theorem bt_len : bootBuiltins "len" = some (.builtin "len") := by decide +kernel
theorem bt_isinstance : bootBuiltins "isinstance" = some (.builtin "isinstance") := by decide +kernel
abbrev EBm : List Value := [.type "ValueError", .type "Exception", .type "BaseException", .type "object"]
theorem EB : ExcBaseFacts "ValueError" "ValueError.__new__" "ValueError.__init__" EBm := PySem.F.excBase_ValueError
theorem EBb : EBm.contains (.type "BaseException") = true := by decide +kernel
/-! ### what stays -/
theorem same_upd {H : Hp} {p : Addr} {o : HO} (n : H p = none) : Same H (upd H p o) := fun b u e => by
  rw [upd_ne (ne_of_none e n)]
  exact e
theorem Same.rd {H H' : Hp} (e : Same H H') {a : Addr} {u : HO} (r : Rd H a u) : Rd H' a u := by
  rcases r with r | ⟨o, r⟩
  · exact .inl (e _ _ r)
  · exact .inr ⟨o, e _ _ r⟩
theorem Same.sqt {K : PySem.W.Frag} {H H' : Hp} {a : Addr} {xs : List V} (e : Same H H') (h : SqT K H a xs) : SqT K H' a xs := by
  rcases h with h | h
  · exact .inl (e.rd h)
  · exact .inr h
theorem Same.sql {K : PySem.W.Frag} {H H' : Hp} {a : Addr} {xs : List V} (e : Same H H') (h : SqL K H a xs) : SqL K H' a xs := by
  rcases h with h | h
  · exact .inl (e.rd h)
  · exact .inr h
/-- isinstance(x, C) -/
def tIsi (K : PySem.W.Frag) (t : TA) : TE := fun σ H Q => t σ H fun xs H1 => ∃ x c ty b, xs = [x, c] ∧ isC c = true ∧ Kd K H1 x ty ∧ PySem.W.kitOne K ty (clsV c) = some b ∧ Q (.bl b) H1
theorem pe_isi {X : Cx} (K : PySem.W.Frag) {p pos : Pos} {e : Expr} {es : List Expr} {t : TA} (hg : Gl X "isinstance") (hm : X.mg "isinstance" = none) (ha : PA X (e :: es) t) (hK : X.K = K := by rfl)
    (he : starEach (e :: es) X.env = (false, eval e X.env) :: starEach es X.env := by rfl) (hpl : (backTo pos (starEach es X.env)).any (·.1) = false := by rfl) : PE X (.Call (.Name "isinstance" p) (e :: es) [] pos) (tIsi K t) := by
  subst hK
  exact pe_callB (call_isi (X := X)) hg hm bt_isinstance ha (by decide) (by decide) he hpl
/-! ### == of two lists or tuples of flat values -/
end L2

set_option Elab.async false
set_option linter.all false
set_option maxRecDepth 100000
set_option maxHeartbeats 4000000
/-! Values as plain data: texts, numbers, truths, None, tuples and lists of these, however deep; == of them. -/
namespace L2
open PySem PySem.Spec PyProof.Rows
inductive D where
  | non | bl (b : Bool) | int (i : Int) | str (x : Str) | tup (ds : List D) | lst (ds : List D)
mutual
/-- v is the datum d -/
def Is (K : PySem.W.Frag) (H : Hp) : D → V → Prop
  | .non, v => v = .non
  | .bl b, v => v = .bl b
  | .int i, v => v = .int i
  | .str x, v => v = .str x
  | .tup ds, v => ∃ a xs, v = .ref a ∧ SqT K H a xs ∧ IsL K H ds xs
  | .lst ds, v => ∃ a xs, v = .ref a ∧ SqL K H a xs ∧ IsL K H ds xs
def IsL (K : PySem.W.Frag) (H : Hp) : List D → List V → Prop
  | [], xs => xs = []
  | d :: ds, xs => ∃ x r, xs = x :: r ∧ Is K H d x ∧ IsL K H ds r
end
mutual
def deq : D → D → Bool
  | .non, .non => true
  | .bl a, .bl b => a == b
  | .bl a, .int b => (if a then 1 else 0) == b
  | .int a, .bl b => a == (if b then 1 else 0)
  | .int a, .int b => a == b
  | .str a, .str b => a == b
  | .tup a, .tup b => deqL a b
  | .lst a, .lst b => deqL a b
  | _, _ => false
def deqL : List D → List D → Bool
  | [], [] => true
  | x :: xs, y :: ys => deq x y && deqL xs ys
  | _, _ => false
end
mutual
def dep : D → Nat
  | .tup ds => depL ds + 1
  | .lst ds => depL ds + 1
  | _ => 0
def depL : List D → Nat
  | [] => 0
  | d :: ds => max (dep d) (depL ds)
end
section
variable {K : PySem.W.Frag} {H H' : Hp}
mutual
theorem Same.is (e : Same H H') : ∀ (d : D) {v : V}, Is K H d v → Is K H' d v
  | .non, v, h => h
  | .bl b, v, h => h
  | .int i, v, h => h
  | .str x, v, h => h
  | .tup ds, v, h => by
    obtain ⟨a, xs, rfl, q, r⟩ := h
    exact ⟨a, xs, rfl, e.sqt q, Same.isL e ds r⟩
  | .lst ds, v, h => by
    obtain ⟨a, xs, rfl, q, r⟩ := h
    exact ⟨a, xs, rfl, e.sql q, Same.isL e ds r⟩
theorem Same.isL (e : Same H H') : ∀ (ds : List D) {xs : List V}, IsL K H ds xs → IsL K H' ds xs
  | [], xs, h => h
  | d :: ds, xs, h => by
    obtain ⟨x, r, rfl, h1, h2⟩ := h
    exact ⟨x, r, rfl, Same.is e d h1, Same.isL e ds h2⟩
end
theorem IsL.length : ∀ {ds : List D} {xs : List V}, IsL K H ds xs → xs.length = ds.length
  | [], xs, h => by cases (show xs = [] from h); rfl
  | d :: ds, xs, h => by
    obtain ⟨x, r, rfl, _, h2⟩ := h
    rw [List.length_cons, List.length_cons, IsL.length h2]
end
section
variable {X : Cx} {pins : List (Addr × Obj)} {σ : St} {H : Hp} {s : Shared}
theorem Inv.isList (I : Inv X pins σ H s) {a : Addr} {xs : List V} (h : SqL X.K H a xs) : ∃ its : List Value, Vals xs its ∧ s.heap.IsList a its.toArray := by
  rcases h with h | ⟨o, its, n, h1, h2, _, h3, _, r⟩
  · obtain ⟨_, its, n, r, e⟩ := (show ObjOk X.prog X.w H s.heap a (.lst xs) from h.ok I.hok)
    exact ⟨its, r, _, e, rfl, n, rfl⟩
  · exact ⟨its.toList, r, o, I.kIn _ _ h1, h2, n, by simpa using h3⟩
theorem Inv.isTup (I : Inv X pins σ H s) {a : Addr} {xs : List V} (h : SqT X.K H a xs) : ∃ its : List Value, Vals xs its ∧ s.heap.IsTuple a its.toArray := by
  rcases h with h | ⟨o, its, n, h1, h2, h3, _, r⟩
  · obtain ⟨_, its, r, e⟩ := (show ObjOk X.prog X.w H s.heap a (.tup xs) from h.ok I.hok)
    exact ⟨its, r, e⟩
  · exact ⟨its.toList, r, o, I.kIn _ _ h1, h2, n, by simpa using h3⟩
theorem deqL_lengths : ∀ {ds ds' : List D}, ds.length ≠ ds'.length → deqL ds ds' = false
  | [], [], h => absurd rfl h
  | [], _ :: _, _ => rfl
  | _ :: _, [], _ => rfl
  | d :: ds, d' :: ds', h => by
    unfold deqL
    rw [deqL_lengths (ds := ds) (ds' := ds') fun z => h (by rw [List.length_cons, List.length_cons, z]), Bool.and_false]
/-- the items' answers -/
def eqItem (ds ds' : List D) (j : Nat) : Bool := deq (ds.getD j .non) (ds'.getD j .non)
theorem eqItems : ∀ {ds ds' : List D}, ds.length = ds'.length → (List.range ds.length).all (eqItem ds ds') = deqL ds ds'
  | [], [], _ => rfl
  | [], _ :: _, h => by cases h
  | _ :: _, [], h => by cases h
  | d :: ds, d' :: ds', h => by
    have h' : ds.length = ds'.length := by simpa using h
    rw [List.length_cons, List.range_succ_eq_map, List.all_cons, List.all_map]
    unfold deqL
    rw [← eqItems h']
    rfl
theorem Inv.tup_fun (I : Inv X pins σ H s) {a : Addr} {xs ys : List V} (h : SqT X.K H a xs) (h' : SqT X.K H a ys) : xs = ys := by
  obtain ⟨us, r, o, e, _, n, d⟩ := I.isTup h
  obtain ⟨us', r', o', e', _, n', d'⟩ := I.isTup h'
  rw [e] at e'
  cases e'
  rw [d] at d'
  injection d' with d1 _
  have z : us = us' := by simpa using d1
  subst z
  exact r.inj r'
theorem Inv.lst_fun (I : Inv X pins σ H s) {a : Addr} {xs ys : List V} (h : SqL X.K H a xs) (h' : SqL X.K H a ys) : xs = ys := by
  obtain ⟨us, r, o, e, _, n, d⟩ := I.isList h
  obtain ⟨us', r', o', e', _, n', d'⟩ := I.isList h'
  rw [e] at e'
  cases e'
  rw [d] at d'
  injection d' with d1 _
  have z : us = us' := by simpa using d1
  subst z
  exact r.inj r'
theorem Inv.tup_lst (I : Inv X pins σ H s) {a : Addr} {xs ys : List V} (h : SqT X.K H a xs) (h' : SqL X.K H a ys) : False := by
  obtain ⟨us, r, o, e, c, _⟩ := I.isTup h
  obtain ⟨us', r', o', e', c', _⟩ := I.isList h'
  rw [e] at e'
  cases e'
  rw [c] at c'
  exact absurd (Value.type.inj c') (by decide)
mutual
theorem is_fun (I : Inv X pins σ H s) : ∀ (d d' : D) {v : V}, Is X.K H d v → Is X.K H d' v → d = d'
  | .non, d', v, h, h' => by
    cases (show v = .non from h)
    cases d' <;> first | rfl | (obtain ⟨_, _, z, _⟩ := h'; cases z; done) | cases h'
  | .bl c, d', v, h, h' => by
    cases (show v = .bl c from h)
    cases d' <;> first | rfl | (obtain ⟨_, _, z, _⟩ := h'; cases z; done) | (cases h'; done) | (cases h'; rfl)
  | .int c, d', v, h, h' => by
    cases (show v = .int c from h)
    cases d' <;> first | rfl | (obtain ⟨_, _, z, _⟩ := h'; cases z; done) | (cases h'; done) | (cases h'; rfl)
  | .str c, d', v, h, h' => by
    cases (show v = .str c from h)
    cases d' <;> first | rfl | (obtain ⟨_, _, z, _⟩ := h'; cases z; done) | (cases h'; done) | (cases h'; rfl)
  | .tup ds, d', v, h, h' => by
    obtain ⟨a, xs, rfl, q, hl⟩ := h
    cases d' with
    | tup ds' =>
      obtain ⟨a', xs', e, q', hl'⟩ := h'
      cases e
      rw [I.tup_fun q q'] at hl
      rw [isL_fun I ds ds' hl hl']
    | lst ds' =>
      obtain ⟨a', xs', e, q', hl'⟩ := h'
      cases e
      exact (I.tup_lst q q').elim
    | _ => cases h'
  | .lst ds, d', v, h, h' => by
    obtain ⟨a, xs, rfl, q, hl⟩ := h
    cases d' with
    | lst ds' =>
      obtain ⟨a', xs', e, q', hl'⟩ := h'
      cases e
      rw [I.lst_fun q q'] at hl
      rw [isL_fun I ds ds' hl hl']
    | tup ds' =>
      obtain ⟨a', xs', e, q', hl'⟩ := h'
      cases e
      exact (I.tup_lst q' q).elim
    | _ => cases h'
theorem isL_fun (I : Inv X pins σ H s) : ∀ (ds ds' : List D) {xs : List V}, IsL X.K H ds xs → IsL X.K H ds' xs → ds = ds'
  | [], ds', xs, h, h' => by
    cases (show xs = [] from h)
    cases ds' with
    | nil => rfl
    | cons d r => obtain ⟨_, _, z, _⟩ := h'; cases z
  | d :: ds, ds', xs, h, h' => by
    obtain ⟨x, r, rfl, h1, h2⟩ := h
    cases ds' with
    | nil => cases h'
    | cons d' ds' =>
      obtain ⟨x', r', e, h1', h2'⟩ := h'
      cases e
      rw [is_fun I d d' h1 h1', isL_fun I ds ds' h2 h2']
end
mutual
theorem deq_refl : ∀ d : D, deq d d = true
  | .non => rfl
  | .bl b => by simp [deq]
  | .int i => by simp [deq]
  | .str x => by simp [deq]
  | .tup ds => by simp only [deq]; exact deqL_refl ds
  | .lst ds => by simp only [deq]; exact deqL_refl ds
theorem deqL_refl : ∀ ds : List D, deqL ds ds = true
  | [] => rfl
  | d :: ds => by simp only [deqL, deq_refl d, deqL_refl ds, Bool.and_self]
end
theorem getD_of {α : Type} {l : List α} {i : Nat} {x y : α} (h : l[i]? = some x) : l.getD i y = x := by simp [List.getD, h]
/-- two tuples, two lists, when their items are known -/
theorem eq_tups {ds ds' : List D} {xs xs' : List V} {us us' : List Value} {a a' : Addr} {A : Around} (I : Inv X pins σ H s) (hl : IsL X.K H ds xs) (hl' : IsL X.K H ds' xs') (rv : Vals xs us) (rv' : Vals xs' us')
    (z : s.heap.IsTuple a us.toArray) (z' : s.heap.IsTuple a' us'.toArray) (hu : A.units < cLine)
    (it : ∀ (j : Nat) (d d' : D) (u u' : Value), ds[j]? = some d → ds'[j]? = some d' → us[j]? = some u → us'[j]? = some u' → SeqAt.EqAt A.in1 s u u' (deq d d')) : SeqAt.RcAt A s (.ref a) (.ref a') (deqL ds ds') := by
  have e1 : us.length = ds.length := by rw [← rv.length, hl.length]
  have e2 : us'.length = ds'.length := by rw [← rv'.length, hl'.length]
  have g := SeqAt.RcAt.tuples (e := eqItem ds ds') z z' hu fun j h1 h2 => by
    have g1 : j < ds.length := by rw [← e1]; simpa using h1
    have g2 : j < ds'.length := by rw [← e2]; simpa using h2
    have k1 : ds[j]? = some ds[j] := List.getElem?_eq_getElem g1
    have k2 : ds'[j]? = some ds'[j] := List.getElem?_eq_getElem g2
    unfold eqItem
    rw [getD_of k1, getD_of k2]
    exact it j _ _ _ _ k1 k2 (by simp) (by simp)
  have en : ((List.range (min us.toArray.size us'.toArray.size)).all (eqItem ds ds') && us.toArray.size == us'.toArray.size) = deqL ds ds' := by
    simp only [List.size_toArray, e1, e2]
    by_cases q : ds.length = ds'.length
    · rw [← q, Nat.min_self, eqItems q, beq_self_eq_true, Bool.and_true]
    · rw [deqL_lengths q, (beq_eq_false_iff_ne.mpr q), Bool.and_false]
  rw [en] at g
  exact g
theorem eq_lsts {ds ds' : List D} {xs xs' : List V} {us us' : List Value} {a a' : Addr} {A : Around} (I : Inv X pins σ H s) (hl : IsL X.K H ds xs) (hl' : IsL X.K H ds' xs') (rv : Vals xs us) (rv' : Vals xs' us')
    (z : s.heap.IsList a us.toArray) (z' : s.heap.IsList a' us'.toArray) (hu : A.units < cLine)
    (it : ∀ (j : Nat) (d d' : D) (u u' : Value), ds[j]? = some d → ds'[j]? = some d' → us[j]? = some u → us'[j]? = some u' → SeqAt.EqAt A.in1 s u u' (deq d d')) : SeqAt.RcAt A s (.ref a) (.ref a') (deqL ds ds') := by
  have e1 : us.length = ds.length := by rw [← rv.length, hl.length]
  have e2 : us'.length = ds'.length := by rw [← rv'.length, hl'.length]
  by_cases q : ds.length = ds'.length
  · have g := SeqAt.RcAt.lists (e := eqItem ds ds') z z' (by simp only [List.size_toArray, e1, e2, q]) hu fun j h1 h2 => by
      have g1 : j < ds.length := by rw [← e1]; simpa using h1
      have g2 : j < ds'.length := by rw [← e2]; simpa using h2
      have k1 : ds[j]? = some ds[j] := List.getElem?_eq_getElem g1
      have k2 : ds'[j]? = some ds'[j] := List.getElem?_eq_getElem g2
      unfold eqItem
      rw [getD_of k1, getD_of k2]
      exact it j _ _ _ _ k1 k2 (by simp) (by simp)
    rw [show us.toArray.size = ds.length by simp [e1], eqItems q] at g
    exact g
  · rw [deqL_lengths q]
    exact SeqAt.RcAt.lists_lengths z z' (by simp only [List.size_toArray, e1, e2]; exact bne_iff_ne.mpr q) hu
mutual
theorem eqD (I : Inv X pins σ H s) : ∀ (d d' : D) {v v' : V} {u u' : Value} {A : Around}, Is X.K H d v → Is X.K H d' v' → RelV v u → RelV v' u' → A.units + dep d < cLine → SeqAt.EqAt A s u u' (deq d d')
  | .non, d', v, v', u, u', A, h, h', r, r', hu => by
    cases (show v = .non from h); cases (show u = Value.none from r)
    cases d' with
    | non => cases (show v' = .non from h'); cases (show u' = Value.none from r'); exact SeqAt.EqAt.same _
    | bl b => cases (show v' = .bl b from h'); cases (show u' = Value.bool b from r'); exact SeqAt.EqAt.none_bool b
    | int b => cases (show v' = .int b from h'); obtain ⟨t, rfl⟩ := r'; exact SeqAt.EqAt.none_int b t
    | str b => cases (show v' = .str b from h'); obtain ⟨t, rfl⟩ := r'; exact SeqAt.EqAt.none_str b t
    | tup b => obtain ⟨a, xs, rfl, q, _⟩ := h'; cases r'; obtain ⟨its, _, z⟩ := I.isTup q; exact SeqAt.EqAt.none_tuple z (by simpa [dep] using hu)
    | lst b => obtain ⟨a, xs, rfl, q, _⟩ := h'; cases r'; obtain ⟨its, _, z⟩ := I.isList q; exact SeqAt.EqAt.none_list z (by simpa [dep] using hu)
  | .bl c, d', v, v', u, u', A, h, h', r, r', hu => by
    cases (show v = .bl c from h); cases (show u = Value.bool c from r)
    cases d' with
    | non => cases (show v' = .non from h'); cases (show u' = Value.none from r'); exact SeqAt.EqAt.bool_none c
    | bl b => cases (show v' = .bl b from h'); cases (show u' = Value.bool b from r'); exact SeqAt.EqAt.bool_bool c b
    | int b => cases (show v' = .int b from h'); obtain ⟨t, rfl⟩ := r'; exact SeqAt.EqAt.bool_int c b t
    | str b => cases (show v' = .str b from h'); obtain ⟨t, rfl⟩ := r'; exact SeqAt.EqAt.bool_str c b t
    | tup b => obtain ⟨a, xs, rfl, q, _⟩ := h'; cases r'; obtain ⟨its, _, z⟩ := I.isTup q; exact SeqAt.EqAt.bool_tuple c z (by simpa [dep] using hu)
    | lst b => obtain ⟨a, xs, rfl, q, _⟩ := h'; cases r'; obtain ⟨its, _, z⟩ := I.isList q; exact SeqAt.EqAt.bool_list c z (by simpa [dep] using hu)
  | .int c, d', v, v', u, u', A, h, h', r, r', hu => by
    cases (show v = .int c from h); obtain ⟨t0, rfl⟩ := r
    cases d' with
    | non => cases (show v' = .non from h'); cases (show u' = Value.none from r'); exact SeqAt.EqAt.int_none c t0
    | bl b => cases (show v' = .bl b from h'); cases (show u' = Value.bool b from r'); exact SeqAt.EqAt.int_bool c t0 b
    | int b => cases (show v' = .int b from h'); obtain ⟨t, rfl⟩ := r'; exact SeqAt.EqAt.int_int c t0 b t
    | str b => cases (show v' = .str b from h'); obtain ⟨t, rfl⟩ := r'; exact SeqAt.EqAt.int_str c t0 b t
    | tup b => obtain ⟨a, xs, rfl, q, _⟩ := h'; cases r'; obtain ⟨its, _, z⟩ := I.isTup q; exact SeqAt.EqAt.int_tuple c t0 z (by simpa [dep] using hu)
    | lst b => obtain ⟨a, xs, rfl, q, _⟩ := h'; cases r'; obtain ⟨its, _, z⟩ := I.isList q; exact SeqAt.EqAt.int_list c t0 z (by simpa [dep] using hu)
  | .str c, d', v, v', u, u', A, h, h', r, r', hu => by
    cases (show v = .str c from h); obtain ⟨t0, rfl⟩ := r
    cases d' with
    | non => cases (show v' = .non from h'); cases (show u' = Value.none from r'); exact SeqAt.EqAt.str_none c t0
    | bl b => cases (show v' = .bl b from h'); cases (show u' = Value.bool b from r'); exact SeqAt.EqAt.str_bool c t0 b
    | int b => cases (show v' = .int b from h'); obtain ⟨t, rfl⟩ := r'; exact SeqAt.EqAt.str_int c t0 b t
    | str b => cases (show v' = .str b from h'); obtain ⟨t, rfl⟩ := r'; exact SeqAt.EqAt.str_str c t0 b t
    | tup b => obtain ⟨a, xs, rfl, q, _⟩ := h'; cases r'; obtain ⟨its, _, z⟩ := I.isTup q; exact SeqAt.EqAt.str_tuple c t0 z (by simpa [dep] using hu)
    | lst b => obtain ⟨a, xs, rfl, q, _⟩ := h'; cases r'; obtain ⟨its, _, z⟩ := I.isList q; exact SeqAt.EqAt.str_list c t0 z (by simpa [dep] using hu)
  | .tup ds, d', v, v', u, u', A, h, h', r, r', hu => by
    obtain ⟨a, xs, rfl, q, hl⟩ := h
    cases (show u = Value.ref a from r)
    obtain ⟨its, rv, z⟩ := I.isTup q
    have hu0 : A.units < cLine := by omega
    cases d' with
    | non => cases (show v' = .non from h'); cases (show u' = Value.none from r'); exact SeqAt.EqAt.tuple_none z hu0
    | bl b => cases (show v' = .bl b from h'); cases (show u' = Value.bool b from r'); exact SeqAt.EqAt.tuple_bool b z hu0
    | int b => cases (show v' = .int b from h'); obtain ⟨t, rfl⟩ := r'; exact SeqAt.EqAt.tuple_int b t z hu0
    | str b => cases (show v' = .str b from h'); obtain ⟨t, rfl⟩ := r'; exact SeqAt.EqAt.tuple_str b t z hu0
    | lst b => obtain ⟨a2, xs2, rfl, q2, _⟩ := h'; cases r'; obtain ⟨its2, _, z2⟩ := I.isList q2; exact SeqAt.EqAt.tuple_list z z2 hu0
    | tup ds' =>
      obtain ⟨a2, xs2, rfl, q2, hl2⟩ := h'
      cases (show u' = Value.ref a2 from r')
      obtain ⟨its2, rv2, z2⟩ := I.isTup q2
      have hu1 : A.units + (depL ds + 1) < cLine := hu
      show SeqAt.EqAt A s _ _ (deqL ds ds')
      by_cases ne : a = a2
      · subst ne
        rw [I.tup_fun q q2] at hl
        rw [isL_fun I ds ds' hl hl2, deqL_refl]
        exact SeqAt.EqAt.same _
      · exact .of_refs ne (eq_tups I hl hl2 rv rv2 z z2 hu0 (eqL I ds ds' (A := A.in1) hl hl2 rv rv2 (by show A.units + 1 + depL ds < cLine; omega)))
  | .lst ds, d', v, v', u, u', A, h, h', r, r', hu => by
    obtain ⟨a, xs, rfl, q, hl⟩ := h
    cases (show u = Value.ref a from r)
    obtain ⟨its, rv, z⟩ := I.isList q
    have hu0 : A.units < cLine := by omega
    cases d' with
    | non => cases (show v' = .non from h'); cases (show u' = Value.none from r'); exact SeqAt.EqAt.list_none z hu0
    | bl b => cases (show v' = .bl b from h'); cases (show u' = Value.bool b from r'); exact SeqAt.EqAt.list_bool b z hu0
    | int b => cases (show v' = .int b from h'); obtain ⟨t, rfl⟩ := r'; exact SeqAt.EqAt.list_int b t z hu0
    | str b => cases (show v' = .str b from h'); obtain ⟨t, rfl⟩ := r'; exact SeqAt.EqAt.list_str b t z hu0
    | tup b => obtain ⟨a2, xs2, rfl, q2, _⟩ := h'; cases r'; obtain ⟨its2, _, z2⟩ := I.isTup q2; exact SeqAt.EqAt.list_tuple z z2 hu0
    | lst ds' =>
      obtain ⟨a2, xs2, rfl, q2, hl2⟩ := h'
      cases (show u' = Value.ref a2 from r')
      obtain ⟨its2, rv2, z2⟩ := I.isList q2
      have hu1 : A.units + (depL ds + 1) < cLine := hu
      show SeqAt.EqAt A s _ _ (deqL ds ds')
      by_cases ne : a = a2
      · subst ne
        rw [I.lst_fun q q2] at hl
        rw [isL_fun I ds ds' hl hl2, deqL_refl]
        exact SeqAt.EqAt.same _
      · exact .of_refs ne (eq_lsts I hl hl2 rv rv2 z z2 hu0 (eqL I ds ds' (A := A.in1) hl hl2 rv rv2 (by show A.units + 1 + depL ds < cLine; omega)))
theorem eqL (I : Inv X pins σ H s) : ∀ (ds ds' : List D) {xs xs' : List V} {us us' : List Value} {A : Around}, IsL X.K H ds xs → IsL X.K H ds' xs' → Vals xs us → Vals xs' us' → A.units + depL ds < cLine →
    ∀ (j : Nat) (d d' : D) (u u' : Value), ds[j]? = some d → ds'[j]? = some d' → us[j]? = some u → us'[j]? = some u' → SeqAt.EqAt A s u u' (deq d d')
  | [], _, _, _, _, _, _, _, _, _, _, _, j, d, d', u, u', e, _, _, _ => by simp at e
  | d0 :: ds, ds', xs, xs', us, us', A, hl, hl', rv, rv', hu, j, d, d', u, u', e1, e2, e3, e4 => by
    obtain ⟨x, r, rfl, h1, h2⟩ := hl
    cases ds' with
    | nil => simp at e2
    | cons d0' ds' =>
      obtain ⟨x', r', rfl, h1', h2'⟩ := hl'
      cases rv with
      | cons ra rb =>
        cases rv' with
        | cons ra' rb' =>
          have hu1 : A.units + max (dep d0) (depL ds) < cLine := hu
          cases j with
          | zero =>
            simp only [List.getElem?_cons_zero, Option.some.injEq] at e1 e2 e3 e4
            subst e1 e2 e3 e4
            exact eqD I _ _ h1 h1' ra ra' (by omega)
          | succ j =>
            simp only [List.getElem?_cons_succ] at e1 e2 e3 e4
            exact eqL I ds ds' h2 h2' rb rb' (by omega) j d d' u u' e1 e2 e3 e4
end
/-- == and != of two lists, of two tuples -/
def rEqD (K : PySem.W.Frag) (g : Bool → Bool) : R2 := fun x y H Q => ∃ d d', Is K H d x ∧ Is K H d' y ∧ ((∃ ds ds', d = .tup ds ∧ d' = .tup ds') ∨ ∃ ds ds', d = .lst ds ∧ d' = .lst ds') ∧ dep d ≤ 60 ∧ Q (.bl (g (deq d d'))) H
theorem op_eqS (hu : X.A.units + 64 < cLine) : OpR X (compareOp .Eq) (rEqD X.K id) := by
  intro pins s σ H x y v u Q I rx ry h
  obtain ⟨d, d', h1, h2, sh, hd, q⟩ := h
  rcases sh with ⟨ds, ds', rfl, rfl⟩ | ⟨ds, ds', rfl, rfl⟩
  · obtain ⟨a, xs, rfl, q1, hl⟩ := h1
    obtain ⟨a2, xs2, rfl, q2, hl2⟩ := h2
    cases (show v = Value.ref a from rx)
    cases (show u = Value.ref a2 from ry)
    obtain ⟨its, rv, z⟩ := I.isTup q1
    obtain ⟨its2, rv2, z2⟩ := I.isTup q2
    have hd1 : depL ds + 1 ≤ 60 := hd
    exact (eq_tups I hl hl2 rv rv2 z z2 (by omega) (eqL I ds ds' (A := X.A.in1) hl hl2 rv rv2 (by show X.A.units + 1 + depL ds < cLine; omega))) _ _ _ _ ⟨.bl _, H, I, rfl, q⟩
  · obtain ⟨a, xs, rfl, q1, hl⟩ := h1
    obtain ⟨a2, xs2, rfl, q2, hl2⟩ := h2
    cases (show v = Value.ref a from rx)
    cases (show u = Value.ref a2 from ry)
    obtain ⟨its, rv, z⟩ := I.isList q1
    obtain ⟨its2, rv2, z2⟩ := I.isList q2
    have hd1 : depL ds + 1 ≤ 60 := hd
    exact (eq_lsts I hl hl2 rv rv2 z z2 (by omega) (eqL I ds ds' (A := X.A.in1) hl hl2 rv rv2 (by show X.A.units + 1 + depL ds < cLine; omega))) _ _ _ _ ⟨.bl _, H, I, rfl, q⟩
end
end L2

set_option Elab.async false
set_option linter.all false
set_option maxRecDepth 100000
set_option maxHeartbeats 4000000
namespace L2
open PySem PySem.Spec PyProof.Rows
section
variable {X : Cx} {pins : List (Addr × Obj)} {σ : St} {H : Hp} {s : Shared}
end
end L2

set_option Elab.async false
set_option linter.all false
set_option maxRecDepth 100000
set_option maxHeartbeats 4000000
/-! A list comprehension with one for and at most one if. -/
namespace L2
open PySem PySem.Spec PyProof.Rows
section
variable {prog : Program} {w : World} {A : Around} {R : Result → Shared → Prop} {s : Shared}
/-- the turns of a comprehension in which nothing is raised -/
theorem compLoop_any {elt target iter : Expr} {ifs : List Expr} {scope : Scope} {pos : Pos} {it acc : Value} {env : Env} (J : Nat → Shared → Prop)
    (turn : ∀ n s, J n s → wpAny (model prog w) A (pyNext it) (fun r s1 => match r with
      | none => R (.ok .next) s1
      | some v => wpAny (model prog w) A (letOwnedTupleGo target it v) (fun _ s2 => wpAny (model prog w) A (assign target env v) (fun _ s3 =>
          wpAny (model prog w) A (forIn ifs true fun c r => if r = true then do let ok ← isTrue c env (eval c env); pure (ForInStep.yield ok) else pure (ForInStep.yield r)) (fun ok s4 =>
            if ok = true then wpAny (model prog w) A (eval elt env) (fun x s5 => wpAny (model prog w) A (call (.builtin "list.append") [acc, x]) (fun _ s6 => ∃ m, m < n ∧ J m s6) (fun _ _ => False) s5) (fun _ _ => False) s4
            else ∃ m, m < n ∧ J m s4) (fun _ _ => False) s3) (fun _ _ => False) s2) (fun _ _ => False) s1) (fun _ _ => False) s)
    (n : Nat) (h : J n s) : codeAny (model prog w) A (.compLoop (.ListComp elt [⟨target, iter, ifs, 0⟩] scope pos) 0 it acc env) R s := by
  refine codeAny_loop rfl J (fun n s hJ => ?_) n h
  show wpAny _ A ((compTurn (.ListComp elt [⟨target, iter, ifs, 0⟩] scope pos) 0 it acc env).onRaise (fun x => do noteFrame x env; theTreesLotGoes x)) _ _ s
  refine wpAny_noted ?_
  rw [compTurn_list]
  refine wpAny_bind (wpAny_standAt (wpAny_bind (wpAny_mono (turn n s hJ) (fun r s1 h1 => ?_) fun _ _ z => z.elim)))
  cases r with
  | none => exact wpAny_pure h1
  | some v =>
    refine wpAny_bind (wpAny_mono h1 (fun _ s2 h2 => wpAny_bind (wpAny_mono h2 (fun _ s3 h3 => wpAny_bind (wpAny_mono h3 (fun ok s4 h4 => ?_) fun _ _ z => z.elim)) fun _ _ z => z.elim)) fun _ _ z => z.elim)
    cases ok with
    | false => exact wpAny_pure ⟨rfl, h4⟩
    | true => exact wpAny_bind (wpAny_bind (wpAny_mono h4 (fun x s5 h5 => wpAny_bind (wpAny_mono h5 (fun _ s6 h6 => wpAny_pure (wpAny_pure ⟨rfl, h6⟩)) fun _ _ z => z.elim)) fun _ _ z => z.elim))
end
/-- the tests of a clause: none, or one -/
def PTs (X : Cx) (ifs : List Expr) (t : TT) : Prop :=
  ∀ (pins : List (Addr × Obj)) (s : Shared) (σ : St) (H : Hp) (Q : Bool → Hp → Prop), Inv X pins σ H s → t σ H Q →
    wpAny (model X.prog X.w) X.A (forIn ifs true fun c r => if r = true then do let ok ← isTrue c X.env (eval c X.env); pure (ForInStep.yield ok) else pure (ForInStep.yield r)) (TP X pins σ Q) X.xe s
def tYes : TT := fun _ H Q => Q true H
theorem pts_nil {X : Cx} : PTs X [] tYes := fun _ _ _ H _ I h => wpAny_tests_nil ⟨H, I, h⟩
/-- the block of a comprehension: its own names, the cells that it reads, its iterator's records -/
abbrev Cx.block (X : Cx) (N : List Str) (sc : Scope) (cl : List (Str × Addr)) (fp : List Addr) (s3 : Shared) (H3 : Hp) : Cx :=
  { X with N := N, s₀ := s3, H₀ := H3, env := compEnvC sc cl s3.heap.objs.size X.env, outer := X.stack, ex := fp, fn := fun _ => false, pn := [], xe := fun _ _ => False }
/-- what is asked of a comprehension's scope -/
structure CompSc (X : Cx) (N : List Str) (sc : Scope) (cl : List (Str × Addr)) (σc : St → St) : Prop where
  kind : sc.kind = .function
  names : ∀ x ∈ sc.names, x.2 = .local → sc.names.lookup x.1 = some .local
  nocell : ∀ y ∈ sc.names, y.2 ≠ .cell
  clos : closureFor sc X.env = pure cl
  sub : ∀ x c, cl.lookup x = some c → X.env.cells.lookup x = some c
  has : ∀ x, ((relabel sc X.env).names.lookup x = some .cell ∨ (relabel sc X.env).names.lookup x = some .free) → ∃ c, cl.lookup x = some c
  len : ∀ σ : St, (σc σ).length = N.length
  cap : ∀ (σ : St) (i : Nat) (x : Str) (v : V), N[i]? = some x → (σc σ)[i]? = some (some v) → ((relabel sc X.env).names.lookup x = some .cell ∨ (relabel sc X.env).names.lookup x = some .free) ∧ (X.env.scope.names.lookup x = some .cell ∨ X.env.scope.names.lookup x = some .free) ∧ ∃ j : Nat, X.N[j]? = some x ∧ σ[j]? = some (some v)
/-- the turns of a comprehension, D its list -/
def compR (J : It) (σ0 : St) (g : TG) (tt : TT) (te : TE) (Q : VK) (H1 : Hp) : Prop := ∀ D, H1 D = none →
  ∃ W : Nat → Nat → St → List V → Hp → Prop, (∃ m, W 0 m σ0 [] (upd H1 D (.lst []))) ∧ ∀ i m σ1 ys H2, W i m σ1 ys H2 → H2 D = some (.lst ys) ∧
    ((J.stop i H2 ∧ Q (.ref D) H2) ∨ (J.go i H2 ∧ ∃ N : St → List V → Hp → Prop, (∀ σ2 ys2 H3, N σ2 ys2 H3 → ∃ m', m' < m ∧ W (i + 1) m' σ2 ys2 H3) ∧
      ∀ x H3, J.yld i H2 x H3 → g x σ1 H3 fun σ2 H4 => tt σ2 H4 fun c H5 => if c = true then te σ2 H5 fun y H6 => H6 D = some (.lst ys) ∧ ys.length < sizeLine ∧ N σ2 (ys ++ [y]) (upd H6 D (.lst (ys ++ [y]))) else N σ2 ys H5))
def tComp (wi : TI) (σc : St → St) (g : TG) (tt : TT) (te : TE) : TE := fun σ H Q => wi σ H fun J H1 => compR J (σc σ) g tt te Q H1
section
variable {X : Cx} {pins : List (Addr × Obj)} {σ : St} {H : Hp} {s : Shared} {N : List Str} {sc : Scope} {cl : List (Str × Addr)} {σc : St → St} {fp : List Addr}
/-- the block begins -/
theorem Inv.block (I : Inv X pins σ H s) (S : CompSc X N sc cl σc) (hf : ∀ b ∈ fp, FpOk X pins H b) (hlt : ∀ b ∈ fp, b < s.heap.objs.size) {h' : Heap} {t' : Nat} (k : ∀ b u, s.heap.get? b = some u → h'.get? b = some u) (hn : h'.Ns s.heap.objs.size fun _ => none) :
    Inv (X.block N sc cl fp s H) [] (σc σ) H { s with heap := h', toks := t' } := by
  have kin : ∀ x, (X.block N sc cl fp s H).env.kindOf x = (relabel sc X.env).names.lookup x := fun _ => rfl
  refine ⟨⟨I.ok.mod, S.kind, I.ok.glob, I.ok.blt, Nat.le_refl _, fun x y c h1 h2 => I.ok.inj x y c (S.sub x c h1) (S.sub y c h2), fun x hx => S.has x hx, fun x c z _ => (nomatch z), I.ok.hd, I.ok.frames, .inl rfl, fun b hb => ⟨Nat.ne_of_lt (hlt b hb), fun x c e => (hf b hb).2.2.2.2.1 x c (S.sub x c e)⟩,
    I.bs, Nat.le_trans I.ok.bsz I.sz, fun b o e hb => ?_, fun b hb z => ?_, I.stack, I.stkFree⟩,
    rfl, I.bare, Un.kept k, ⟨_, hn, fun i x v e1 e2 e3 => ?_⟩, fun x c e => ?_, I.hok.fresh (Nat.le_refl _), fun x c e => I.freeC x c (S.sub x c e), fun p hp => absurd (show p ∈ ([] : List (Addr × Obj)) from hp) (by simp), I.hok.kept k, S.len σ⟩
  · rcases (hf b hb).2.2.2.1 with z | z
    · exact I.ok.noex b o e z
    · exact absurd (Nat.lt_of_lt_of_le (Heap.lt_size e) (Nat.le_trans I.ok.bsz z)) (Nat.lt_irrefl _)
  · rcases List.mem_cons.mp (I.stkSub b z) with y | y
    · exact (hf b hb).2.1 y
    · exact (hf b hb).2.2.1 y
  · obtain ⟨hk, hko, j, hj, hσ⟩ := S.cap σ i x v e1 e2
    obtain ⟨m, hm, hl⟩ := I.loc
    obtain ⟨u, r, l⟩ := hl j x v hj hσ (by rcases hko with z | z; exact .inr (.inl z); exact .inr (.inr z))
    refine ⟨u, r, .inr ⟨hk, ?_⟩⟩
    rcases l with ⟨q, _⟩ | ⟨_, c, hc, q⟩
    · have q' : X.env.scope.names.lookup x = some .local := q
      rcases hko with z | z <;> (rw [z] at q'; cases q')
    · obtain ⟨c', hc'⟩ := S.has x hk
      have e := S.sub x c' hc'
      rw [hc] at e
      cases e
      exact ⟨c, hc', q.keeps k⟩
  · obtain ⟨v, q⟩ := I.cell x c (S.sub x c e)
    exact ⟨v, q.keeps k⟩
end
section
variable {X : Cx} {elt tg iter : Expr} {ifs : List Expr} {sc : Scope} {pos : Pos} {N : List Str} {cl : List (Str × Addr)} {σc : St → St} {wi : TI} {g : TG} {tt : TT} {te : TE}
/-- what holds of the block's own dict behind the turns -/
structure Gone (X : Cx) (pins : List (Addr × Obj)) (H : Hp) (C : Addr) : Prop where
  free : H C = none
  loc : C ≠ X.env.locals
  new : X.s₀.heap.objs.size ≤ C
  cell : ∀ x c, X.env.cells.lookup x = some c → c ≠ C
  pin : ∀ p ∈ X.pn ++ pins, p.1 ≠ C
theorem Inv.gone {pins : List (Addr × Obj)} {σ : St} {H : Hp} {s : Shared} {C : Addr} {h' : Heap} (I : Inv X pins σ H s) (G : Gone X pins H C) (sb : Heap.SameBut C s.heap h') : Inv X pins σ H { s with heap := h' } :=
  I.turned (t' := s.toks) (it := C) (fun b o n q => (sb.2 b n).trans q) G.free G.loc (.inr G.new) G.cell G.pin
/-- the list, the block, its turns -/
theorem comp_core {pins : List (Addr × Obj)} {s2 : Shared} {σ : St} {H2 : Hp} {Q : VK} {RR : Value → Addr → Result → Shared → Prop} {E : Value → Shared → Prop} {it : Addr} {fp : List Addr} {tn : Nat → Heap → Prop} {J : It}
    (hc : X.calm = true) (S : CompSc X N sc cl σc) (hg : ∀ fp s3 H3, PG (X.block N sc cl fp s3 H3) tg g) (ht : ∀ fp s3 H3, PTs (X.block N sc cl fp s3 H3) ifs tt) (he : ∀ fp s3 H3, PE (X.block N sc cl fp s3 H3) elt te)
    (I2 : Inv X pins σ H2 s2) (T : Turn X.prog X.w X.K tg J fp it tn) (st2 : tn 0 s2.heap) (f2 : ∀ b ∈ fp, FpOk X pins H2 b)
    (h2 : ∀ D, H2 D = none → ∃ W : Nat → Nat → St → List V → Hp → Prop, (∃ m, W 0 m (σc σ) [] (upd H2 D (.lst []))) ∧ ∀ i m σ1 ys H2, W i m σ1 ys H2 → H2 D = some (.lst ys) ∧
      ((J.stop i H2 ∧ Q (.ref D) H2) ∨ (J.go i H2 ∧ ∃ N : St → List V → Hp → Prop, (∀ σ2 ys2 H3, N σ2 ys2 H3 → ∃ m', m' < m ∧ W (i + 1) m' σ2 ys2 H3) ∧
        ∀ x H3, J.yld i H2 x H3 → g x σ1 H3 fun σ2 H4 => tt σ2 H4 fun c H5 => if c = true then te σ2 H5 fun y H6 => H6 D = some (.lst ys) ∧ ys.length < sizeLine ∧ N σ2 (ys ++ [y]) (upd H6 D (.lst (ys ++ [y]))) else N σ2 ys H5)))
    (hRR : ∀ D C m s7 H7, Inv X pins σ H7 s7 → s7.heap.Ns C m → Gone X pins H7 C → Q (.ref D) H7 → RR (.ref D) C (.ok .next) s7) :
    wpAny (model X.prog X.w) X.A (newList []) (fun acc s₃ => wpAny (model X.prog X.w) X.A (newFunctionEnv sc X.env.globals cl [] X.env.qual none .none (some X.env)) (fun cenv s₄ =>
      codeAny (model X.prog X.w) X.A (.compStart (.ListComp elt [⟨tg, iter, ifs, 0⟩] sc pos) 0 (.ref it) acc { cenv with scope := relabel sc X.env }) (RR acc cenv.locals) s₄) E s₃) E s2 := by
  -- the list
  refine wpAny_newObj_type ?_
  have hD : H2 s2.heap.objs.size = none := I2.hok.fresh (Nat.le_refl _)
  have I3 : Inv X pins σ (upd H2 s2.heap.objs.size (.lst [])) { s2 with heap := s2.heap.push { cls := .type "list", dict := none, data := .seq ([] : List Value).toArray } } :=
    I2.laid (t' := s2.toks) (fun b u q => Heap.get?_push_of_some _ q) (Nat.le_refl _) ⟨by decide, [], 0, .nil, Heap.get?_push_size _ rfl⟩
  have flt : ∀ b ∈ fp, b < s2.heap.objs.size := fun b hb => by
    obtain ⟨o, e, _⟩ := T.obj _ _ st2 b hb
    exact Heap.lt_size e
  obtain ⟨W, ⟨m0, w0⟩, turn⟩ := h2 s2.heap.objs.size hD
  have f3 : ∀ b ∈ fp, FpOk X pins (upd H2 s2.heap.objs.size (.lst [])) b := fun b hb => ⟨by rw [upd_ne (Nat.ne_of_lt (flt b hb))]; exact (f2 b hb).1, (f2 b hb).2⟩
  have st3 : tn 0 (s2.heap.push { cls := .type "list", dict := none, data := .seq ([] : List Value).toArray }) := T.keep _ _ _ st2 fun b _ o q => Heap.get?_push_of_some _ q
  have sz3 : s2.heap.objs.size ≤ (s2.heap.push { cls := .type "list", dict := none, data := .seq ([] : List Value).toArray }).objs.size := by rw [Heap.size_push]; exact Nat.le_succ _
  generalize s2.heap.push { cls := .type "list", dict := none, data := .seq ([] : List Value).toArray } = h3 at *
  generalize s2.heap.objs.size = D at *
  -- the block's own names
  refine wpAny_newFunctionEnv S.nocell (by intro y hy; simp at hy) (fun h4 hn4 hb4 => ?_) S.kind
  dsimp only at hn4 hb4 ⊢
  have k4 : ∀ b u, h3.get? b = some u → h4.get? b = some u := fun b u q => (hb4.2 b (Nat.ne_of_lt (Heap.lt_size q))).trans (Heap.get?_push_of_some _ q)
  have I4 : Inv (X.block N sc cl fp { s2 with heap := h3 } (upd H2 D (.lst []))) [] (σc σ) (upd H2 D (.lst [])) { s2 with heap := h4, toks := s2.toks + 0 } :=
    I3.block S f3 (fun b hb => Nat.lt_of_lt_of_le (flt b hb) sz3) k4 hn4
  have st4 : tn 0 h4 := T.keep _ _ _ st3 fun b _ o q => k4 b o q
  have fb : ∀ {H' : Hp}, (∀ b ∈ fp, H' b = none) → ∀ b ∈ fp, FpOk (X.block N sc cl fp { s2 with heap := h3 } (upd H2 D (.lst []))) [] H' b := fun hn b hb =>
    ⟨hn b hb, (I4.ok.exf b hb).1, I4.ok.exfs b hb, .inl hb, (I4.ok.exf b hb).2, fun p hp => absurd (show p ∈ ([] : List (Addr × Obj)) from hp) (by simp)⟩
  have fin : ∀ {σ' : St} {H' : Hp} {s' : Shared} {h' : Heap}, Inv (X.block N sc cl fp { s2 with heap := h3 } (upd H2 D (.lst []))) [] σ' H' s' → Heap.SameBut h3.objs.size s'.heap h' → Inv X pins σ H' { s' with heap := h' } := fun {σ' H' s' h'} J' sb => by
    have lt3 : ∀ b o, h3.get? b = some o → b ≠ h3.objs.size := fun b o q => Nat.ne_of_lt (Heap.lt_size q)
    have lo : H' h3.objs.size = none := J'.free
    have hk : HOk X.prog X.w H' h' := fun b u e => (J'.hok b u e).stay (fun c v hcc q => (sb.2 c (by
      rintro rfl
      rcases hcc with z | z
      · subst z; rw [lo] at e; cases e
      · rw [lo] at z; cases z)).trans q) (fun _ q => q) fun _ _ q => q
    refine I3.call' (s' := { s' with heap := h' }) (ch := fp) J'.os ⟨fun b o q n hb hx => (sb.2 b (lt3 b o q)).trans (J'.base.keep b o q n hb hx), fun b o q n hb hx => ?_, fun b o q n hx => J'.base.free b o q n hx, fun b o q hx => ?_, J'.base.tups, J'.base.frzs, J'.base.tbls⟩ hk J'.bare fun b hb => ?_
    · obtain ⟨sl, q1⟩ := J'.base.slot b o q n hb hx
      exact ⟨sl, (sb.2 b (lt3 b o q)).trans q1⟩
    · obtain ⟨o1, q1⟩ := J'.base.there b o q hx
      exact ⟨o1, (sb.2 b (lt3 b o q)).trans q1⟩
    · exact ⟨(f3 b hb).2.2.2.1, (f3 b hb).2.1, (f3 b hb).2.2.2.2.1, (f3 b hb).2.2.2.2.2⟩
  have loop : ∀ s5 : Shared, Inv (X.block N sc cl fp { s2 with heap := h3 } (upd H2 D (.lst []))) [] (σc σ) (upd H2 D (.lst [])) s5 → tn 0 s5.heap →
      codeAny (model X.prog X.w) X.A (.compLoop (.ListComp elt [⟨tg, iter, ifs, 0⟩] sc pos) 0 (.ref it) (.ref D) (compEnvC sc cl h3.objs.size X.env)) (RR (.ref D) h3.objs.size) s5 := fun s5 I5 st5 => by
    refine compLoop_any (fun n s' => ∃ i σ' ys H', Inv (X.block N sc cl fp { s2 with heap := h3 } (upd H2 D (.lst []))) [] σ' H' s' ∧ tn i s'.heap ∧ (∀ b ∈ fp, H' b = none) ∧ W i n σ' ys H') ?_ m0 ⟨0, _, [], _, I5, st5, fun b hb => (f3 b hb).1, w0⟩
    rintro n s6 ⟨i, σ6, ys, H6, I6, st6, fr6, w6⟩
    obtain ⟨hDy, step⟩ := turn i n σ6 ys H6 w6
    rcases step with ⟨stop, q6⟩ | ⟨go, Nx, hN, step⟩
    · refine thn (T.done (X.block N sc cl fp { s2 with heap := h3 } (upd H2 D (.lst []))) rfl rfl rfl hc i [] s6 σ6 H6 (fun _ _ => False) I6 (fb fr6) st6 stop) fun r s7 ⟨hr, I7⟩ => ?_
      subst hr
      obtain ⟨m7, hm7, _⟩ := I7.loc
      refine hRR D h3.objs.size m7 s7 H6 (fin I7 ⟨rfl, fun _ _ => rfl⟩) hm7 ⟨I7.free, Nat.ne_of_gt I3.lt, I3.sz, fun x c e => ?_, fun p hp => ?_⟩ q6
      · obtain ⟨v, z⟩ := I3.cell x c e
        exact Nat.ne_of_lt z.lt
      · exact Nat.ne_of_lt (Heap.lt_size (I3.pin p hp).1)
    · refine thn (T.item (X.block N sc cl fp { s2 with heap := h3 } (upd H2 D (.lst []))) rfl rfl rfl hc i [] s6 σ6 H6 (fun _ _ => False) I6 (fb fr6) st6 go) fun r s7 ⟨u, hr, h7⟩ => ?_
      subst hr
      refine thn h7 fun _ s8 ⟨x, H8, I8, r8, y8, st8, fr8⟩ => ?_
      have I8' := I8.pinned (fb fr8) (T.obj _ _ st8)
      refine thn (hg _ _ _ _ s8 σ6 H8 x u _ I8' r8 (step x H8 y8)) fun _ s9 ⟨σ9, H9, I9, q9⟩ => ?_
      refine thn (ht _ _ _ _ s9 σ9 H9 _ I9 q9) fun c sA ⟨HA, IA, qA⟩ => ?_
      have again : ∀ {σB : St} {HB : Hp} {sB : Shared} {zs : List V}, Inv (X.block N sc cl fp { s2 with heap := h3 } (upd H2 D (.lst []))) ([] ++ pinsAt fp s8.heap) σB HB sB → Nx σB zs HB →
          ∃ m, m < n ∧ ∃ i σ' ys H', Inv (X.block N sc cl fp { s2 with heap := h3 } (upd H2 D (.lst []))) [] σ' H' sB ∧ tn i sB.heap ∧ (∀ b ∈ fp, H' b = none) ∧ W i m σ' ys H' := fun {σB HB sB zs} IB nB => by
        obtain ⟨m', hm, wB⟩ := hN σB zs HB nB
        refine ⟨m', hm, i + 1, σB, zs, HB, IB.unpinned, T.keep _ _ _ st8 fun b hb o e => (IB.pin (b, o) (List.mem_append_right _ (List.mem_append_right _ (mem_pinsAt hb e)))).1, fun b hb => ?_, wB⟩
        obtain ⟨o, e, d⟩ := T.obj _ _ st8 b hb
        exact (IB.pin (b, o) (List.mem_append_right _ (List.mem_append_right _ (mem_pinsAt hb e)))).2.1
      cases c with
      | false => exact again IA qA
      | true =>
        refine thn (he _ _ _ _ sA σ9 HA _ IA qA) fun y sB ⟨yv, HB, IB, rB, dB, lB, qB⟩ => ?_
        exact thn (mt_append (X := X.block N sc cl fp { s2 with heap := h3 } (upd H2 D (.lst []))) _ sB σ9 HB (.ref D) [yv] (.ref D) [y] (fun v H' => v = .non ∧ Nx σ9 (ys ++ [yv]) H') IB rfl (.cons rB .nil) ⟨D, ys, yv, rfl, rfl, dB, lB, rfl, qB⟩) fun _ sC ⟨_, HC, IC, _, _, qC⟩ => again IC qC
  refine codeAny_compStart_list (loop _ I4 st4) ?_
  exact T.self _ 0 _ _ _ st4 (loop _ I4 st4)
theorem pe_comp (hc : X.calm = true) (S : CompSc X N sc cl σc) (hi : PI X tg iter wi) (hg : ∀ fp s3 H3, PG (X.block N sc cl fp s3 H3) tg g) (ht : ∀ fp s3 H3, PTs (X.block N sc cl fp s3 H3) ifs tt) (he : ∀ fp s3 H3, PE (X.block N sc cl fp s3 H3) elt te)
    (hs : ∀ x, foldedSetIterable iter X.env x = pure x := by intro _; rfl) : PE X (.ListComp elt [⟨tg, iter, ifs, 0⟩] sc pos) (tComp wi σc g tt te) := by
  intro pins s σ H Q I h
  rw [eval_ListComp]
  refine wpAny_comprehension_free rfl hs S.clos S.kind S.names (thn (hi pins s σ H _ I h) fun v s1 h1 => thn h1 fun itv s2 h2 => ?_)
  obtain ⟨it, fp, tn, J, H2, e, I2, T, st2, f2, h2⟩ := h2
  subst e
  exact comp_core (Q := Q) hc S hg ht he I2 T st2 f2 h2 fun D C m s7 H7 I7 n7 G q => ⟨m, n7, fun h' sb => ⟨.ref D, H7, I7.gone G sb, rfl, q⟩⟩
end
/-! ### iterators of Python's own that keep no tuple -/
/-- x stands at turn i of n -/
def Itw (n : Nat) (V1 : Nat → V → Prop) : It := ⟨fun i _ => i < n, fun i H x H' => H' = H ∧ V1 i x, fun i _ => i = n⟩
theorem turn_walks {P : Program} {w : World} {K : PySem.W.Frag} {tg : Expr} {it : Addr} {n : Nat} {Pv : Nat → Value → Prop} {V1 : Nat → V → Prop} {st : Nat → Heap → Prop}
    (W : ∀ A : Around, A.handled = none → Walks P w A it [it] [it] n Pv st) (ob : ∀ i h, st i h → ∃ o, h.get? it = some o ∧ ∀ v, o.data ≠ .cell v) (val : ∀ i v, Pv i v → ∃ x, RelV x v ∧ V1 i x)
    (own : ∀ i v s (M : Model) (A : Around) (E : Value → Shared → Prop) (Q : Unit → Shared → Prop), Pv i v → Q () s → wpAny M A (letOwnedTupleGo tg (.ref it) v) Q E s)
    (self : ∀ (A : Around) (i : Nat) (s : Shared) (Q : Value → Shared → Prop) (E : Value → Shared → Prop), st i s.heap → Q (.ref it) s → wpAny (model P w) A (pyIter (.ref it)) Q E s) : Turn P w K tg (Itw n V1) [it] it st where
  mem := by simp
  obj := fun i h hs b hb => by
    have e : b = it := by simpa using hb
    subst e
    exact ob i h hs
  keep := fun i h h' hs k => (W {} rfl).frame i h h' hs k
  item := fun X hP hw hK hc i pins s σ H E I hf hs go => by
    subst hP hw hK
    refine (W X.A (I.ok.hd hc)).item i s _ E go hs fun v h' tk pv hs' k => ⟨v, rfl, ?_⟩
    obtain ⟨x, rx, vx⟩ := val i v pv
    obtain ⟨f0, f1, _, f3, f4, f5⟩ := hf it (by simp)
    have I' : Inv X pins σ H { s with heap := h', toks := tk } := I.turned (it := it) (fun b o n q => k b o (by simpa using n) q) f0 f1 f3 f4 f5
    refine own i v _ _ _ _ _ pv ⟨x, H, I', rx, ⟨rfl, vx⟩, hs', fun b hb => ?_⟩
    have e : b = it := by simpa using hb
    subst e
    exact f0
  done := fun X hP hw hK hc i pins s σ H E I hf hs stop => by
    subst hP hw hK
    have e : i = n := stop
    subst e
    obtain ⟨f0, f1, _, f3, f4, f5⟩ := hf it (by simp)
    exact (W X.A (I.ok.hd hc)).done s _ E hs fun h' tk k => ⟨rfl, I.turned (it := it) (fun b o n q => k b o (by simpa using n) q) f0 f1 f3 f4 f5⟩
  self := self
/-- a text's signs -/
def iStr (te : TE) : TI := fun σ H R => te σ H fun x H1 => ∃ z, x = .str z ∧ R (Itw z.cps.size fun i y => ∃ c, z.cps[i]? = some c ∧ y = .str ⟨#[c]⟩) H1
theorem own_str {M : Model} {A : Around} {E : Value → Shared → Prop} {s : Shared} {tg : Expr} {it : Addr} {z : Str} {t : Tok} {Q : Unit → Shared → Prop} (q : Q () s) : wpAny M A (letOwnedTupleGo tg (.ref it) (.str z t)) Q E s := by
  unfold letOwnedTupleGo
  cases tg <;> exact wpAny_pure q
theorem pi_str {X : Cx} {tg e : Expr} {te : TE} (he : PE X e te) : PI X tg e (iStr te) := by
  intro pins s σ H R I h
  refine thn (he pins s σ H _ I h) fun v s1 ⟨x, H1, I1, r1, z, e1, q⟩ => ?_
  subst e1
  obtain ⟨t, rfl⟩ := r1
  have fr : H1 s1.heap.objs.size = none := I1.hok.fresh (Nat.le_refl _)
  by_cases low : z.cps.all (· < 128) = true
  · refine wpAny_pyIter_ascii low ⟨s1.heap.objs.size, [s1.heap.objs.size], fun i h => h.IsStrIter s1.heap.objs.size "str_ascii_iterator" z t i, _, H1, rfl, I1.kept (t' := s1.toks) fun b u q => Heap.get?_push_of_some _ q,
      turn_walks (fun A hA => Walks.strAscii hA _ z t) (fun i h ⟨o, ho, _, hd⟩ => ⟨o, ho, fun v q => by rw [hd] at q; cases q⟩) (fun i v ⟨c, u, hc, hv⟩ => ⟨.str ⟨#[c]⟩, ⟨u, hv⟩, c, hc, rfl⟩) (fun i v s M A E Q ⟨c, u, _, hv⟩ hq => by rw [hv]; exact own_str hq) fun A i s Q E hs hq => wpAny_pyIter_striter_ascii hs hq,
      ⟨_, Heap.get?_push_size _ rfl, rfl, rfl⟩, fun b hb => ?_, q⟩
    have e : b = s1.heap.objs.size := by simpa using hb
    subst e
    exact I1.fpOk (Nat.le_refl _) fr
  · refine wpAny_pyIter_wide (Bool.eq_false_iff.mpr low) ⟨s1.heap.objs.size, [s1.heap.objs.size], fun i h => h.IsStrIter s1.heap.objs.size "str_iterator" z t i, _, H1, rfl, I1.kept (t' := s1.toks) fun b u q => Heap.get?_push_of_some _ q,
      turn_walks (fun A hA => Walks.strWide hA _ z t) (fun i h ⟨o, ho, _, hd⟩ => ⟨o, ho, fun v q => by rw [hd] at q; cases q⟩) (fun i v ⟨c, u, hc, hv⟩ => ⟨.str ⟨#[c]⟩, ⟨u, hv⟩, c, hc, rfl⟩) (fun i v s M A E Q ⟨c, u, _, hv⟩ hq => by rw [hv]; exact own_str hq) fun A i s Q E hs hq => wpAny_pyIter_striter_wide hs hq,
      ⟨_, Heap.get?_push_size _ rfl, rfl, rfl⟩, fun b hb => ?_, q⟩
    have e : b = s1.heap.objs.size := by simpa using hb
    subst e
    exact I1.fpOk (Nat.le_refl _) fr
end L2

set_option Elab.async false
set_option linter.all false
set_option maxRecDepth 100000
set_option maxHeartbeats 4000000
namespace L2
open PySem PySem.Spec PyProof.Rows
theorem bt_all : bootBuiltins "all" = some (.builtin "all") := by decide +kernel
section
variable {X : Cx}
/-- all(l), l a list of truths -/
theorem bools_truth {P : Program} {w : World} {A : Around} {bs : List Bool} {us : List Value} (r : Vals (bs.map V.bl) us) : TruthOf P w A (fun i v => us.toArray[i]? = some v) (fun i => bs.getD i false) := by
  intro i v s Q E e q
  have e' : us[i]? = some v := by simpa using e
  have hl := r.length
  rw [List.length_map] at hl
  have lt : i < bs.length := by
    have := (List.getElem?_eq_some_iff.mp e').1
    omega
  obtain ⟨u, e2, r2⟩ := r.get (i := i) (x := V.bl bs[i]) (by simp [lt])
  rw [e'] at e2
  cases e2
  cases (show v = Value.bool bs[i] from r2)
  have z : bs.getD i false = bs[i] := by simp [List.getD, lt]
  exact wpAny_truthy_bool (by rw [← z]; exact q)
theorem all_range : ∀ bs : List Bool, ((List.range bs.length).all fun i => bs.getD i false) = bs.all id
  | [] => rfl
  | b :: bs => by
    rw [List.length_cons, List.range_succ_eq_map, List.all_cons, List.all_map, List.all_cons, ← all_range bs]
    rfl
theorem call_all (hc : X.calm = true) : CallR X (.builtin "all") (fun xs H Q => ∃ (a : Addr) (bs : List Bool), xs = [.ref a] ∧ H a = some (.lst (bs.map V.bl)) ∧ Q (.bl (bs.all id)) H) := by
  intro pins s σ H xs us Q I r h
  obtain ⟨a, bs, rfl, q, hq⟩ := h
  obtain ⟨u, rfl, ru⟩ := vals1 r
  cases (show u = Value.ref a from ru)
  obtain ⟨its, rv, pl, hz⟩ := I.list (.inl (.inl q))
  have lt : a < s.heap.objs.size := by obtain ⟨o, e, _⟩ := pl.isList; exact Heap.lt_size e
  have hl := rv.length
  rw [List.length_map] at hl
  refine call_all_walk (wpAny_pyIter_list pl.isList ⟨s.heap.objs.size, _, _, _, _, _, _, rfl, Walks.list (show X.A.in1.handled = none from I.ok.hd hc) _ a (Nat.ne_of_lt lt) its.toArray, ⟨⟨_, Heap.get?_push_size _ rfl, rfl, rfl⟩, pl.isList.push _⟩, bools_truth rv, fun h' tk k => ?_⟩)
  rw [List.size_toArray, ← hl, all_range]
  exact ⟨.bl _, H, I.kept (t' := tk) fun b o e => k b o (fun z => absurd (Heap.lt_size e) (by rw [show b = s.heap.objs.size by simpa using z]; exact Nat.lt_irrefl _)) (Heap.get?_push_of_some _ e), rfl, hq⟩
end
/-! ### the fragment named -/
section
variable {X : Cx} {tg l : Expr} {tl : TE} (K : PySem.W.Frag) (hK : X.K = K)
include hK
theorem ix_listK : IxR X (rIxL K) := by subst hK; exact ix_list
end
end L2

set_option Elab.async false
set_option linter.all false
set_option maxRecDepth 100000
set_option maxHeartbeats 4000000
namespace L2
open PySem PySem.Spec PyProof.Rows
/-- a comprehension with no test: what comes out is known ahead -/
theorem comp_run {J : It} {σ0 : St} {g : TG} {te : TE} {Q : VK} {H1 : Hp} (out : List V) (hn : out.length < sizeLine) (σP : St → Prop) (h0 : σP σ0)
    (go : ∀ i H, i < out.length → Same H1 H → J.go i H) (stop : ∀ H, Same H1 H → J.stop out.length H)
    (step : ∀ i σ H x H' y, out[i]? = some y → σP σ → Same H1 H → J.yld i H x H' → ∀ C : V → St → Hp → Prop, (∀ σ2 H6, σP σ2 → Same H H6 → C y σ2 H6) → g x σ H' fun σ2 H4 => te σ2 H4 fun y' H6 => C y' σ2 H6)
    (fin : ∀ D H', H1 D = none → Same H1 H' → H' D = some (.lst out) → Q (.ref D) H') : compR J σ0 g tYes te Q H1 := by
  intro D hD
  have keep : ∀ {H : Hp} {o : HO}, Same H1 H → Same H1 (upd H D o) := fun {H o} e b u q => by
    rw [upd_ne (ne_of_none q hD)]
    exact e b u q
  refine ⟨fun i m σ ys H => i ≤ out.length ∧ m = out.length - i ∧ σP σ ∧ ys = out.take i ∧ H D = some (.lst ys) ∧ Same H1 H, ⟨_, Nat.zero_le _, rfl, h0, rfl, upd_same, keep (Same.refl H1)⟩, ?_⟩
  rintro i m σ ys H ⟨hi, rfl, p, rfl, hd, sm⟩
  refine ⟨hd, ?_⟩
  by_cases lt : i < out.length
  · refine .inr ⟨go i H lt sm, fun σ2 ys2 H3 => σP σ2 ∧ ys2 = out.take (i + 1) ∧ H3 D = some (.lst ys2) ∧ Same H1 H3, fun σ2 ys2 H3 ⟨a, b, c, d⟩ => ⟨_, by omega, lt, rfl, a, b, c, d⟩, fun x H3 y => ?_⟩
    have e : out[i]? = some out[i] := by simp [lt]
    refine step i σ H x H3 out[i] e p sm y (fun y' σ2 H6 => H6 D = some (.lst (out.take i)) ∧ (out.take i).length < sizeLine ∧ σP σ2 ∧ out.take i ++ [y'] = out.take (i + 1) ∧ upd H6 D (.lst (out.take i ++ [y'])) D = some (.lst (out.take i ++ [y'])) ∧ Same H1 (upd H6 D (.lst (out.take i ++ [y'])))) fun σ2 H6 p2 s6 => ?_
    exact ⟨s6 _ _ hd, by rw [List.length_take]; omega, p2, by rw [List.take_add_one, e]; rfl, upd_same, keep (sm.trans s6)⟩
  · have e : i = out.length := by omega
    subst e
    rw [List.take_length] at hd
    exact .inl ⟨stop H sm, fin D H hD sm hd⟩
end L2

set_option Elab.async false
set_option linter.all false
set_option maxRecDepth 100000
set_option maxHeartbeats 4000000
/-! What readings of many laws want. -/
namespace L2
open PySem PySem.Spec PyProof.Rows
theorem iteTb {b : Bool} {A B : Prop} (e : b = true) (h : A) : if b = true then A else B := by rw [if_pos e]; exact h
theorem iteFb {b : Bool} {A B : Prop} (e : b = false) (h : B) : if b = true then A else B := by rw [if_neg (by rw [e]; decide)]; exact h
theorem iteB {b : Bool} {A B : Prop} (h1 : b = true → A) (h2 : b = false → B) : if b = true then A else B := by
  cases b with
  | true => exact iteT (h1 rfl)
  | false => exact iteF (h2 rfl)
theorem few {n : Nat} (h : Nat.ble n 1000 = true) : n ≤ sizeLine := Nat.le_of_lt (small1000 (Nat.le_of_ble_eq_true h))
theorem mod_lo (c : Int) {n : Int} (h : 0 < n) : 0 ≤ c.fmod n := Int.fmod_nonneg_of_pos c h
theorem mod_hi (c : Int) {n : Int} (h : 0 < n) : c.fmod n < n := Int.fmod_lt_of_pos c h
theorem str_dec {x y : Str} : decide (V.str x = V.str y) = decide (x = y) := by
  rw [Bool.eq_iff_iff]
  simp
theorem at_i {α : Type} {xs : List α} {i : Int} {x : α} (h0 : 0 ≤ i) (e : xs[i.toNat]? = some x) : atI xs i = some x := by
  have := atI_nat e
  rwa [Int.toNat_of_nonneg h0] at this
section
variable {K : PySem.W.Frag} {H : Hp} {xs ys : List V} {a b : Addr} {Q : VK}
end
end L2

set_option Elab.async false
set_option linter.all false
set_option maxRecDepth 100000
set_option maxHeartbeats 4000000
/-! Comprehensions that read names from around them; with a test; dicts of the top. -/
namespace L2
open PySem PySem.Spec PyProof.Rows
def capS (js : List (Option Nat)) (σ : St) : St := js.map fun o => match o with | none => none | some j => (σ[j]?).getD none
def capC (fr : List Str) (cells : List (Str × Addr)) : List (Str × Addr) := fr.filterMap fun x => (cells.lookup x).map fun c => (x, c)
def capOk (js : List (Option Nat)) (N M : List Str) (inn out : List (Str × NameKind)) : Bool :=
  (js.zip N).all fun p => match p.1 with
    | none => true
    | some j => (M[j]? == some p.2) && ((inn.lookup p.2 == some .cell) || (inn.lookup p.2 == some .free)) && ((out.lookup p.2 == some .cell) || (out.lookup p.2 == some .free))
theorem kind_or {L : List (Str × NameKind)} {x : Str} (h : ((L.lookup x == some NameKind.cell) || (L.lookup x == some NameKind.free)) = true) : L.lookup x = some .cell ∨ L.lookup x = some .free := by
  rw [Bool.or_eq_true] at h
  rcases h with h | h
  · exact .inl (eq_of_beq h)
  · exact .inr (eq_of_beq h)
theorem capC_lookup {fr : List Str} {cells : List (Str × Addr)} {x : Str} (h : x ∈ fr) (e : (cells.lookup x).isSome = true) : ∃ c, (capC fr cells).lookup x = some c := by
  obtain ⟨c, hc⟩ := Option.isSome_iff_exists.mp e
  induction fr with
  | nil => cases h
  | cons y r ih =>
    unfold capC
    rw [List.filterMap_cons]
    by_cases q : y = x
    · subst q
      rw [hc]
      exact ⟨c, by simp⟩
    · have hr : x ∈ r := by
        rcases List.mem_cons.mp h with z | z
        · exact absurd z.symm q
        · exact z
      cases e2 : cells.lookup y with
      | none => exact ih hr
      | some d =>
        obtain ⟨c', hc'⟩ := ih hr
        refine ⟨c', ?_⟩
        show List.lookup x ((y, d) :: capC r cells) = some c'
        rw [List.lookup_cons, beq_eq_false_iff_ne.mpr (Ne.symm q)]
        exact hc'
/-- the scope of a comprehension that reads the names fr from around it -/
theorem comp_scF {X : Cx} {N : List Str} {sc : Scope} (fr : List Str) (js : List (Option Nat)) (hk : sc.kind = .function) (hn : ∀ x ∈ sc.names, x.2 = .local → sc.names.lookup x.1 = some .local) (hc : ∀ y ∈ sc.names, y.2 ≠ .cell)
    (clos : closureFor sc X.env = pure (capC fr X.env.cells)) (hall : (fr.all fun x => (X.env.cells.lookup x).isSome) = true)
    (hhas : ((relabel sc X.env).names.all fun y => (y.2 != .cell && y.2 != .free) || fr.contains y.1) = true) (hl : js.length = N.length) (hcap : capOk js N X.N (relabel sc X.env).names X.env.scope.names = true) :
    CompSc X N sc (capC fr X.env.cells) (capS js) := by
  have lk : ∀ (x : Str) (M : List (Str × NameKind)) (k : NameKind), M.lookup x = some k → (x, k) ∈ M := fun x M k h => PySem.mem_of_lookup h
  refine ⟨hk, hn, hc, clos, fun x c h => ?_, fun x h => ?_, fun σ => ?_, fun σ i x v e1 e2 => ?_⟩
  · have m := PySem.mem_of_lookup h
    obtain ⟨y, _, e⟩ := List.mem_filterMap.mp m
    obtain ⟨d, hd, e'⟩ := Option.map_eq_some_iff.mp e
    cases e'
    exact hd
  · have hm : x ∈ fr := by
      rcases h with h | h <;>
      · have q := List.all_eq_true.mp hhas _ (lk x _ _ h)
        rw [Bool.or_eq_true] at q
        rcases q with q | q
        · simp at q
        · simpa using q
    exact capC_lookup hm (List.all_eq_true.mp hall x hm)
  · unfold capS
    rw [List.length_map, hl]
  · unfold capS at e2
    rw [List.getElem?_map] at e2
    obtain ⟨o, ho, e2⟩ := Option.map_eq_some_iff.mp e2
    cases o with
    | none => cases e2
    | some j =>
      have hz : (some j, x) ∈ js.zip N := by
        refine List.mem_iff_getElem?.mpr ⟨i, ?_⟩
        rw [List.getElem?_zip_eq_some]
        exact ⟨ho, e1⟩
      have q := List.all_eq_true.mp hcap _ hz
      simp only [Bool.and_eq_true] at q
      refine ⟨kind_or q.1.2, kind_or q.2, j, eq_of_beq q.1.1, ?_⟩
      replace e2 : (σ[j]?).getD none = some v := e2
      cases e3 : σ[j]? with
      | none => rw [e3] at e2; cases e2
      | some o' => rw [e3] at e2; rw [show o' = some v from e2]
end L2

set_option Elab.async false
set_option linter.all false
set_option maxRecDepth 100000
set_option maxHeartbeats 4000000
/-! reversed of a tuple; a tuple's slice or sum, whatever it comes to; a dict of the top; lower, upper. -/
namespace L2
open PySem PySem.Spec PyProof.Rows
/-! ### t[a:b], t + u: whatever comes of it -/
section
variable {prog : Program} {w : World} {A : Around} {E : Value → Shared → Prop} {s : Shared}
end
section
variable {X : Cx}
end
/-! ### a dict of the top, which nobody changes -/
section
variable {X : Cx} {o e f : Expr} {apos cpos : Pos} {td ty tx : TE}
end
/-! ### lower, upper -/
section
variable {X : Cx}
end
end L2

set_option linter.all false
namespace TextM
open PySem
/-- a row of signs cut at each c -/
def splitL (c : Nat) : List Nat → List (List Nat)
  | [] => [[]]
  | a :: r => if a = c then [] :: splitL c r else match splitL c r with
    | [] => [[a]]
    | p :: ps => (a :: p) :: ps
theorem splitL_ne (c : Nat) : ∀ l, ∃ p ps, splitL c l = p :: ps
  | [] => ⟨_, _, rfl⟩
  | a :: r => by
    unfold splitL
    by_cases h : a = c
    · rw [if_pos h]; exact ⟨_, _, rfl⟩
    · rw [if_neg h]
      obtain ⟨p, ps, e⟩ := splitL_ne c r
      rw [e]
      exact ⟨_, _, rfl⟩
theorem splitL_cons_ne {c a : Nat} {r : List Nat} {p : List Nat} {ps : List (List Nat)} (h : a ≠ c) (e : splitL c r = p :: ps) : splitL c (a :: r) = (a :: p) :: ps := by
  rw [splitL, if_neg h, e]
theorem splitL_cons_eq {c : Nat} {r : List Nat} : splitL c (c :: r) = [] :: splitL c r := by rw [splitL, if_pos rfl]
/-- the places of c from k on -/
def cutsF (c : Nat) : Nat → List Nat → List Nat
  | _, [] => []
  | k, a :: r => if a = c then k :: cutsF c (k + 1) r else cutsF c (k + 1) r
theorem drop_at {l : List Nat} {k : Nat} (lt : k < l.length) : ∃ v, l.drop k = v :: l.drop (k + 1) ∧ l[k]? = some v := ⟨l[k], List.drop_eq_getElem_cons lt, List.getElem?_eq_getElem lt⟩
theorem occ_loop (x : Str) (c : Nat) (lim : Nat) (hl : x.length < lim) : ∀ (m k : Nat) (found : Array Nat) (free : Nat), k + m = x.length → found.size ≤ k → free ≤ k →
    (forIn (List.range' k (m + 1)) (found, free) (StrLaws.occBody x ⟨#[c]⟩ x.length lim)).run.fst.toList = found.toList ++ cutsF c k (x.cps.toList.drop k)
  | 0, k, found, free, hk, hs, hf => by
    have e : x.cps.toList.drop k = [] := List.drop_eq_nil_of_le (by rw [Array.length_toList]; show x.length ≤ k; omega)
    rw [e, cutsF, List.append_nil]
    rw [List.range'_succ, List.range'_zero, List.forIn_cons]
    have no : ¬ (k + (⟨#[c]⟩ : Str).length ≤ x.length) := by show ¬ (k + 1 ≤ x.length); omega
    unfold StrLaws.occBody
    simp [no]
  | m + 1, k, found, free, hk, hs, hf => by
    have lt : k < x.cps.toList.length := by rw [Array.length_toList]; show k < x.length; omega
    rw [List.range'_succ, List.forIn_cons]
    obtain ⟨v, dr, ev⟩ := drop_at lt
    have sub := StrLaws.subAt_one x c k
    have i1 : k + (⟨#[c]⟩ : Str).length ≤ x.length := by show k + 1 ≤ x.length; omega
    by_cases h : v = c
    · have t : Builtin.Str.subAt x ⟨#[c]⟩ k = true := (sub.mpr (by rw [ev, h])).2
      have st : StrLaws.occBody x ⟨#[c]⟩ x.length lim k (found, free) = pure (ForInStep.yield (found.push k, k + 1)) := by
        unfold StrLaws.occBody
        have z1 : found.size < lim := by omega
        simp [z1, hf, i1, t]
        rfl
      rw [st, pure_bind]
      have ih := occ_loop x c lim hl m (k + 1) (found.push k) (k + 1) (by omega) (by simp; omega) (Nat.le_refl _)
      rw [dr, cutsF, if_pos h]
      simpa using ih
    · have t : Builtin.Str.subAt x ⟨#[c]⟩ k = false := by
        rw [Bool.eq_false_iff]
        intro q
        have := sub.mp ⟨i1, q⟩
        rw [ev] at this
        exact h (Option.some.inj this)
      have st : StrLaws.occBody x ⟨#[c]⟩ x.length lim k (found, free) = pure (ForInStep.yield (found, free)) := by
        unfold StrLaws.occBody
        simp [t]
      rw [st, pure_bind]
      have ih := occ_loop x c lim hl m (k + 1) found free (by omega) (by omega) (by omega)
      rw [dr, cutsF, if_neg h]
      simpa using ih
theorem occ_one (x : Str) (c : Nat) : Builtin.Str.occurrences x ⟨#[c]⟩ 0 x.length (x.length + 1) = cutsF c 0 x.cps.toList := by
  rw [StrLaws.occ_eq]
  have := occ_loop x c (x.length + 1) (Nat.lt_succ_self _) x.length 0 #[] 0 (by omega) (Nat.le_refl _) (Nat.le_refl _)
  simpa using this
theorem between (x : Str) : ∀ (cuts : List Nat) (a : Nat), ((a :: cuts.map (· + 1)).zip (cuts ++ [x.length])).map (fun p => Builtin.Str.strSub x p.1 p.2) = match cuts with
    | [] => [Builtin.Str.strSub x a x.length]
    | d :: r => Builtin.Str.strSub x a d :: (((d + 1) :: r.map (· + 1)).zip (r ++ [x.length])).map (fun p => Builtin.Str.strSub x p.1 p.2)
  | [], a => rfl
  | d :: r, a => rfl
theorem parts_one (x : Str) (c : Nat) : ∀ (m k a : Nat), k + m = x.length → a ≤ k →
    ∃ p ps, splitL c (x.cps.toList.drop k) = p :: ps ∧
    ((a :: (cutsF c k (x.cps.toList.drop k)).map (· + 1)).zip (cutsF c k (x.cps.toList.drop k) ++ [x.length])).map (fun p => Builtin.Str.strSub x p.1 p.2) =
      (⟨((x.cps.toList.drop a).take (k - a) ++ p).toArray⟩ : Str) :: ps.map fun q => (⟨q.toArray⟩ : Str)
  | 0, k, a, hk, ha => by
    have e : x.cps.toList.drop k = [] := List.drop_eq_nil_of_le (by rw [Array.length_toList]; show x.length ≤ k; omega)
    rw [e]
    refine ⟨[], [], rfl, ?_⟩
    have ek : k = x.length := by omega
    show [Builtin.Str.strSub x a x.length] = _
    refine congrArg (· :: []) (Str.ext' ?_)
    rw [← Array.toList_inj, StrLaws.strSub_toList, ← ek]
    simp
  | m + 1, k, a, hk, ha => by
    have lt : k < x.cps.toList.length := by rw [Array.length_toList]; show k < x.length; omega
    obtain ⟨v, dr, ev⟩ := drop_at lt
    by_cases h : v = c
    · obtain ⟨p, ps, e1, e2⟩ := parts_one x c m (k + 1) (k + 1) (by omega) (Nat.le_refl _)
      refine ⟨[], p :: ps, by rw [dr, h, splitL_cons_eq, e1], ?_⟩
      rw [dr, cutsF, if_pos h, between]
      simp only
      rw [e2]
      simp only [Nat.sub_self, List.take_zero, List.nil_append, List.append_nil, List.map_cons]
      refine congrArg (· :: _) (Str.ext' ?_)
      rw [← Array.toList_inj, StrLaws.strSub_toList]
    · obtain ⟨p, ps, e1, e2⟩ := parts_one x c m (k + 1) a (by omega) (by omega)
      refine ⟨v :: p, ps, by rw [dr]; exact splitL_cons_ne h e1, ?_⟩
      rw [dr, cutsF, if_neg h, e2]
      refine congrArg (· :: _) ?_
      congr 2
      have : k + 1 - a = (k - a) + 1 := by omega
      rw [this, List.take_add_one, List.getElem?_drop, show a + (k - a) = k by omega, ev]
      simp
/-- a text cut at one sign -/
theorem split_one (x : Str) (c : Nat) (hk : ¬ Builtin.Str.strKind x < Builtin.Str.strKind ⟨#[c]⟩) : Txt.split x ⟨#[c]⟩ = (splitL c x.cps.toList).map fun q => (⟨q.toArray⟩ : Str) := by
  obtain ⟨p, ps, e1, e2⟩ := parts_one x c x.length 0 0 (by omega) (Nat.le_refl _)
  rw [List.drop_zero] at e1 e2
  have res : Builtin.Str.partsBetween x (cutsF c 0 x.cps.toList) (⟨#[c]⟩ : Str).length = (splitL c x.cps.toList).map fun q => (⟨q.toArray⟩ : Str) := by
    rw [e1]
    unfold Builtin.Str.partsBetween
    have l1 : (⟨#[c]⟩ : Str).length = 1 := rfl
    rw [l1]
    simpa using e2
  unfold Txt.split
  by_cases h1 : x.length < (⟨#[c]⟩ : Str).length
  · have z : x.cps.toList = [] := by
      have : x.length < 1 := h1
      apply List.eq_nil_of_length_eq_zero
      rw [Array.length_toList]
      show x.length = 0
      omega
    have zx : x = ⟨#[]⟩ := Str.ext' (by rw [← Array.toList_inj, z])
    rw [if_pos (by simp [h1]), zx]
    rfl
  · rw [if_neg (by simp [h1]; exact Nat.not_lt.mp hk), occ_one]
    by_cases h2 : (cutsF c 0 x.cps.toList).isEmpty = true
    · rw [if_pos h2]
      rw [List.isEmpty_iff] at h2
      rw [← res, h2]
      unfold Builtin.Str.partsBetween
      simp only [List.map_nil, List.nil_append, List.zip_cons_cons, List.zip_nil_left, List.map_cons]
      refine congrArg (· :: []) (Str.ext' ?_)
      rw [← Array.toList_inj, StrLaws.strSub_toList]
      simp [Str.length]
      rw [List.take_of_length_le (by rw [Array.length_toList]; exact Nat.le_refl _)]
    · rw [if_neg h2, res]
/-- parts without c, put together, are cut to just these -/
def glueL (c : Nat) : List Nat → List (List Nat) → List Nat
  | p, [] => p
  | p, q :: r => p ++ c :: glueL c q r
theorem splitL_pre {c : Nat} : ∀ {p : List Nat} {r q : List Nat} {qs : List (List Nat)}, c ∉ p → splitL c r = q :: qs → splitL c (p ++ r) = (p ++ q) :: qs
  | [], _, _, _, _, e => e
  | a :: p, r, q, qs, h, e => by
    have h1 : a ≠ c := fun z => h (by rw [z]; exact List.mem_cons_self ..)
    have h2 : c ∉ p := fun z => h (List.mem_cons_of_mem _ z)
    exact splitL_cons_ne h1 (splitL_pre h2 e)
theorem splitL_glue {c : Nat} : ∀ {ps : List (List Nat)} {p : List Nat}, c ∉ p → (∀ q ∈ ps, c ∉ q) → splitL c (glueL c p ps) = p :: ps
  | [], p, h, _ => by
    have := splitL_pre (c := c) (p := p) (r := []) h rfl
    simpa [glueL] using this
  | q :: ps, p, h, hs => by
    have ih := splitL_glue (ps := ps) (p := q) (hs q (List.mem_cons_self ..)) fun x hx => hs x (List.mem_cons_of_mem _ hx)
    rw [glueL]
    have := splitL_pre (c := c) (p := p) (r := c :: glueL c q ps) h (by rw [splitL_cons_eq, ih])
    rw [this, List.append_nil]
/-- join, by rows of signs -/
theorem join_glue (c : Nat) : ∀ (ps : List Str) (p : Str), ((⟨#[c]⟩ : Str).join (p :: ps)).cps.toList = glueL c p.cps.toList (ps.map (·.cps.toList))
  | [], p => by
    show (p : Str).cps.toList = _
    rfl
  | q :: ps, p => by
    have ih := join_glue c ps q
    show (p ++ (⟨#[c]⟩ : Str) ++ (⟨#[c]⟩ : Str).join (q :: ps)).cps.toList = _
    rw [Str.cps_append, Str.cps_append, Array.toList_append, Array.toList_append, ih]
    simp [glueL]
theorem split_join {c : Nat} {p : Str} {ps : List Str} (hk : ¬ Builtin.Str.strKind ((⟨#[c]⟩ : Str).join (p :: ps)) < Builtin.Str.strKind ⟨#[c]⟩) (h : ∀ q ∈ p :: ps, c ∉ q.cps.toList) : Txt.split ((⟨#[c]⟩ : Str).join (p :: ps)) ⟨#[c]⟩ = p :: ps := by
  rw [split_one _ _ hk, join_glue, splitL_glue (h p (List.mem_cons_self ..)) (by
    intro q hq
    obtain ⟨z, hz, rfl⟩ := List.mem_map.mp hq
    exact h z (List.mem_cons_of_mem _ hz))]
  have e : ((fun q : List Nat => (⟨q.toArray⟩ : Str)) ∘ fun x : Str => x.cps.toList) = id := funext fun x => by simp
  simp [e]
theorem kind_low {x : Str} {c : Nat} (hc : c < 256) : ¬ Builtin.Str.strKind x < Builtin.Str.strKind ⟨#[c]⟩ := by
  have e : Builtin.Str.strKind ⟨#[c]⟩ = 1 := by
    unfold Builtin.Str.strKind
    rw [if_pos (by simp [hc])]
  rw [e]
  unfold Builtin.Str.strKind
  split
  · decide
  · split <;> decide
end TextM

set_option Elab.async false
set_option linter.all false
set_option maxRecDepth 100000
set_option maxHeartbeats 4000000
/-! list(reversed(l)); join, split; a part of a text. -/
namespace L2
open PySem PySem.Spec PyProof.Rows
section
variable {X : Cx}
/-! ### join, split -/
theorem strsAre_of : ∀ {zs : List Str} {us : List Value}, Vals (zs.map V.str) us → StrsAre us zs
  | [], _, .nil => .nil
  | z :: zs, _, .cons r rs => by
    obtain ⟨t, rfl⟩ := r
    exact .cons z t (strsAre_of rs)
def rJoin (K : PySem.W.Frag) : V → List V → Hp → VK → Prop := fun x xs H Q => ∃ sep a zs, x = .str sep ∧ xs = [.ref a] ∧ (SqL K H a (zs.map V.str) ∨ SqT K H a (zs.map V.str)) ∧ (zs.map (·.length)).sum + zs.length * sep.length ≤ 16777216 ∧ Q (.str (sep.join zs)) H
theorem mt_join (K : PySem.W.Frag) (hK : X.K = K := by rfl) : MtR X "str.join" (rJoin K) := by
  subst hK
  intro pins s σ H x xs v us Q I rx r h
  obtain ⟨sep, a, zs, rfl, rfl, ha, hz, q⟩ := h
  obtain ⟨t, rfl⟩ := rx
  obtain ⟨u, rfl, ru⟩ := vals1 r
  cases (show u = Value.ref a from ru)
  rcases ha with ha | ha
  · obtain ⟨its, rv, pl, _⟩ := I.list ha
    refine join_list pl.isList (strsAre_of rv) hz fun t' k => ⟨.str (sep.join zs), H, I.kept (t' := k) fun b u q => q, ?_, q⟩
    exact ⟨t', by rw [Txt.join, StrLaws.glued_eq_join]⟩
  · obtain ⟨its, rv, pl, _⟩ := I.tuple ha
    refine join_tuple pl (strsAre_of rv) hz fun t' k => ⟨.str (sep.join zs), H, I.kept (t' := k) fun b u q => q, ?_, q⟩
    exact ⟨t', by rw [Txt.join, StrLaws.glued_eq_join]⟩
theorem strsFrom_vals : ∀ (zs : List Str) (n : Nat), Vals (zs.map V.str) (strsFrom n zs)
  | [], _ => .nil
  | z :: zs, n => .cons ⟨_, rfl⟩ (strsFrom_vals zs (n + 1))
theorem parts_len (z : Str) (c : Nat) : ((TextM.splitL c z.cps.toList).map fun q => (⟨q.toArray⟩ : Str)).length ≤ z.length + 1 := by
  rw [List.length_map]
  have go : ∀ l : List Nat, (TextM.splitL c l).length ≤ l.length + 1 := by
    intro l
    induction l with
    | nil => exact Nat.le_refl _
    | cons a r ih =>
      obtain ⟨p, ps, e⟩ := TextM.splitL_ne c r
      by_cases h : a = c
      · subst h
        rw [TextM.splitL_cons_eq, List.length_cons, List.length_cons]
        omega
      · rw [TextM.splitL_cons_ne h e]
        rw [e] at ih
        simp only [List.length_cons] at ih ⊢
        omega
  have := go z.cps.toList
  rw [Array.length_toList] at this
  exact this
def partsOf (c : Nat) (z : Str) : List Str := (TextM.splitL c z.cps.toList).map fun q => (⟨q.toArray⟩ : Str)
def rSplit1 (c : Nat) : V → List V → Hp → VK → Prop := fun x xs H Q => ∃ z, x = .str z ∧ xs = [.str ⟨#[c]⟩] ∧ z.length ≤ 100000 ∧ ∀ D, H D = none → Q (.ref D) (upd H D (.lst ((partsOf c z).map V.str)))
theorem line_big : 100002 ≤ sizeLine := by decide
theorem mt_split1 (c : Nat) (hc : c < 256) : MtR X "str.split" (rSplit1 c) := by
  intro pins s σ H x xs v us Q I rx r h
  obtain ⟨z, rfl, rfl, hz, q⟩ := h
  obtain ⟨t, rfl⟩ := rx
  obtain ⟨u, rfl, ru⟩ := vals1 r
  obtain ⟨t2, rfl⟩ := ru
  have hb := line_big
  have sp := TextM.split_one z c (TextM.kind_low hc)
  have pl := parts_len z c
  have fin : ∀ (us : List Value) (tk : Nat), Vals ((partsOf c z).map V.str) us → EP X pins σ Q (.ref s.heap.objs.size) { s with heap := s.heap.push { cls := .type "list", data := .seq us.toArray }, toks := tk } := fun us tk rv =>
    ⟨.ref _, _, I.laid (t' := tk) (o := .lst ((partsOf c z).map V.str)) (fun b u e => Heap.get?_push_of_some _ e) (Nat.le_refl _) (show ObjOk X.prog X.w _ _ _ (.lst ((partsOf c z).map V.str)) from ⟨by rw [List.length_map]; unfold partsOf; omega, us, 0, rv, Heap.get?_push_size _ rfl⟩), rfl, q _ (I.hok.fresh (Nat.le_refl _))⟩
  unfold Txt.split at sp
  by_cases h1 : (decide (z.length < (⟨#[c]⟩ : Str).length) || decide (Builtin.Str.strKind z < Builtin.Str.strKind ⟨#[c]⟩)) = true
  · rw [if_pos h1] at sp
    refine call_meets PySem.F.slot_str_split rfl PySem.F.entry_str_split (PySem.F.args_str_split_2 _ _) (meets_str_split_cannot_occur z _ t t2 h1) (fin [.str z t] s.toks ?_)
    unfold partsOf
    rw [← sp]
    exact .cons ⟨_, rfl⟩ .nil
  · rw [if_neg h1] at sp
    by_cases h2 : (Builtin.Str.occurrences z ⟨#[c]⟩ 0 z.length (z.length + 1)).isEmpty = true
    · rw [if_pos h2] at sp
      refine call_meets PySem.F.slot_str_split rfl PySem.F.entry_str_split (PySem.F.args_str_split_2 _ _) (meets_str_split_not_found z _ t t2 (Bool.eq_false_iff.mpr h1) rfl h2) (fin [.str z t] s.toks ?_)
      unfold partsOf
      rw [← sp]
      exact .cons ⟨_, rfl⟩ .nil
    · rw [if_neg h2] at sp
      refine call_meets PySem.F.slot_str_split rfl PySem.F.entry_str_split (PySem.F.args_str_split_2 _ _) (meets_str_split_sep z _ t t2 (Bool.eq_false_iff.mpr h1) rfl (Bool.eq_false_iff.mpr h2) (by omega) (by rw [sp]; omega)) (fin _ _ ?_)
      unfold partsOf
      rw [← sp]
      exact strsFrom_vals _ _
end
end L2

set_option Elab.async false
set_option linter.all false
set_option maxRecDepth 100000
set_option maxHeartbeats 4000000
/-! l != l; isinstance of one of several; a part of a text; try, whatever the heap. -/
namespace L2
open PySem PySem.Spec PyProof.Rows
section
variable {X : Cx} {pins : List (Addr × Obj)} {σ : St} {H : Hp} {s : Shared}
theorem ne_lsts {ds ds' : List D} {xs xs' : List V} {us us' : List Value} {a a' : Addr} {A : Around} (I : Inv X pins σ H s) (hl : IsL X.K H ds xs) (hl' : IsL X.K H ds' xs') (rv : Vals xs us) (rv' : Vals xs' us')
    (z : s.heap.IsList a us.toArray) (z' : s.heap.IsList a' us'.toArray) (hu : A.units < cLine)
    (it : ∀ (j : Nat) (d d' : D) (u u' : Value), ds[j]? = some d → ds'[j]? = some d' → us[j]? = some u → us'[j]? = some u' → SeqAt.EqAt A.in1 s u u' (deq d d')) : SeqAt.RcNeAt A s (.ref a) (.ref a') (!deqL ds ds') := by
  have e1 : us.length = ds.length := by rw [← rv.length, hl.length]
  have e2 : us'.length = ds'.length := by rw [← rv'.length, hl'.length]
  by_cases q : ds.length = ds'.length
  · have g := SeqAt.RcNeAt.lists (e := eqItem ds ds') z z' (by simp only [List.size_toArray, e1, e2, q]) hu fun j h1 h2 => by
      have g1 : j < ds.length := by rw [← e1]; simpa using h1
      have g2 : j < ds'.length := by rw [← e2]; simpa using h2
      have k1 : ds[j]? = some ds[j] := List.getElem?_eq_getElem g1
      have k2 : ds'[j]? = some ds'[j] := List.getElem?_eq_getElem g2
      unfold eqItem
      rw [getD_of k1, getD_of k2]
      exact it j _ _ _ _ k1 k2 (by simp) (by simp)
    rw [show us.toArray.size = ds.length by simp [e1], eqItems q] at g
    exact g
  · rw [deqL_lengths q]
    exact SeqAt.RcNeAt.lists_lengths z z' (by simp only [List.size_toArray, e1, e2]; exact bne_iff_ne.mpr q) hu
theorem op_neL (hu : X.A.units + 64 < cLine) : OpR X (compareOp .NotEq) (fun x y H Q => ∃ ds ds', Is X.K H (.lst ds) x ∧ Is X.K H (.lst ds') y ∧ depL ds ≤ 50 ∧ Q (.bl (!deqL ds ds')) H) := by
  intro pins s σ H x y v u Q I rx ry h
  obtain ⟨ds, ds', ⟨a, xs, rfl, q1, hl⟩, ⟨a2, xs2, rfl, q2, hl2⟩, hd, q⟩ := h
  cases (show v = Value.ref a from rx)
  cases (show u = Value.ref a2 from ry)
  obtain ⟨its, rv, z⟩ := I.isList q1
  obtain ⟨its2, rv2, z2⟩ := I.isList q2
  exact (ne_lsts I hl hl2 rv rv2 z z2 (by omega) (eqL I ds ds' (A := X.A.in1) hl hl2 rv rv2 (by show X.A.units + 1 + depL ds < cLine; omega))) _ _ _ _ ⟨.bl _, H, I, rfl, q⟩
end
/-! ### isinstance(x, (C, D, ..)) -/
theorem kitAny_cons {K : PySem.W.Frag} {t c : Value} {cs : List Value} (h : PySem.W.kitOne K t c = some false) (hs : PySem.W.kitAny K t cs = some false) : PySem.W.kitAny K t (c :: cs) = some false := by
  unfold PySem.W.kitAny
  rw [h, hs]
theorem kitAny_nil {K : PySem.W.Frag} {t : Value} : PySem.W.kitAny K t [] = some false := rfl
theorem cls_vals : ∀ {cs : List V} {us : List Value}, Vals cs us → (cs.all isC) = true → us = cs.map clsV
  | [], _, .nil, _ => rfl
  | c :: cs, _, .cons r rs, h => by
    rw [List.all_cons, Bool.and_eq_true] at h
    have e := cls_vals rs h.2
    rw [List.map_cons, ← e]
    congr 1
    cases c with
    | ref a => exact r
    | ty n => exact r
    | _ => cases h.1
/-- isinstance(e, (C, D, ..)) of an exception -/
def tIsiX (K : PySem.W.Frag) (t : TA) : TE := fun σ H Q => t σ H fun xs H1 => ∃ a C tp cs b, xs = [.ref a, .ref tp] ∧ H1 a = some (ExcO (.ref C) a) ∧ ExcK K C ∧ SqT K H1 tp cs ∧ (cs.all isC) = true ∧ PySem.W.kitAny K (.ref C) (cs.map clsV) = some b ∧ Q (.bl b) H1
section
variable {X : Cx}
theorem call_isiX : CallR X (.builtin "isinstance") (fun xs H Q => ∃ a C tp cs b, xs = [.ref a, .ref tp] ∧ H a = some (ExcO (.ref C) a) ∧ ExcK X.K C ∧ SqT X.K H tp cs ∧ (cs.all isC) = true ∧ PySem.W.kitAny X.K (.ref C) (cs.map clsV) = some b ∧ Q (.bl b) H) := by
  intro pins s σ H xs us Q I r h
  obtain ⟨a, C, tp, cs, b, rfl, ea, Z, ht, hc, e, q⟩ := h
  obtain ⟨u, v, rfl, rx, rc⟩ := vals2 r
  cases (show u = Value.ref a from rx)
  cases (show v = Value.ref tp from rc)
  have fin : ∀ tk, EP X pins σ Q (.bool b) { s with toks := tk } := fun tk => ⟨.bl b, H, I.tok tk, rfl, q⟩
  obtain ⟨its, rv, pl, _⟩ := I.tuple ht
  rw [← cls_vals rv hc] at e
  obtain ⟨⟨oc, od, dat, sl⟩, h1, h2, n, h3⟩ := pl
  simp only at h2 h3
  subst h2 h3
  obtain ⟨p, _, _⟩ := (show ObjOk X.prog X.w H s.heap a (ExcO (.ref C) a) from I.hok a _ ea)
  exact PySem.W.kia_tup (kitx_exc Z) I.kIn p h1 e (fun z => nomatch z) fin
theorem pe_isiX (K : PySem.W.Frag) {p pos : Pos} {e : Expr} {es : List Expr} {t : TA} (hg : Gl X "isinstance") (hm : X.mg "isinstance" = none) (ha : PA X (e :: es) t) (hK : X.K = K := by rfl)
    (he : starEach (e :: es) X.env = (false, eval e X.env) :: starEach es X.env := by rfl) (hpl : (backTo pos (starEach es X.env)).any (·.1) = false := by rfl) : PE X (.Call (.Name "isinstance" p) (e :: es) [] pos) (tIsiX K t) := by
  subst hK
  exact pe_callB (call_isiX (X := X)) hg hm bt_isinstance ha (by decide) (by decide) he hpl
/-! ### a part of a text -/
def rSlS : V → Option Int → Option Int → Hp → VK → Prop := fun x lo hi H Q => ∃ z, x = .str z ∧ z.length ≤ sizeLine ∧ Q (.str (Txt.slice z lo hi)) H
theorem part_of {v : Value} {o : Option Int} (h : IsPart v o) : ∃ l : Option (Int × Tok), v = partValue l ∧ l.map (·.1) = o := by
  cases h with
  | none => exact ⟨none, rfl, rfl⟩
  | int i t => exact ⟨some (i, t), rfl, rfl⟩
theorem sl_str : SlR X rSlS := by
  intro pins s σ H x v vl vu lo hi sl Q I rx hs pl pu h
  obtain ⟨z, rfl, hz, q⟩ := h
  obtain ⟨t, rfl⟩ := rx
  obtain ⟨l, rfl, el⟩ := part_of pl
  obtain ⟨u, rfl, eu⟩ := part_of pu
  refine ⟨"str", _, PyProof.Rows.slot_str_getitem.lookup, rfl, wpAny_getItem_str_slice (st := none) hs rfl ?_⟩
  unfold sliceMade slicePicked
  rw [el, eu]
  show Made.post (if ((1 : Int) == 1 && (Builtin.Str.strSliceIndices lo hi 1 z.length).length == z.length) = true then _ else Made.str ⟨(List.filterMap (fun i => z.cps[i]?) (Builtin.Str.strSliceIndices lo hi 1 z.length)).toArray⟩) _ _
  have hle := Txt.slice_le z lo hi
  unfold Txt.slice at q hle
  by_cases c : ((1 : Int) == 1 && (Builtin.Str.strSliceIndices lo hi 1 z.length).length == z.length) = true
  · rw [if_pos c]
    rw [if_pos c] at q
    exact ⟨.str z, H, I, ⟨_, rfl⟩, q⟩
  · rw [if_neg c]
    rw [if_neg c] at q hle
    exact ⟨Nat.le_trans hle hz, .str _, H, I.tok _, ⟨_, rfl⟩, q⟩
end
theorem try_asF {C : Addr} {i : Nat} {tb : XS → TS} {ts : TS} {D : Ends} {σ σ' : St} {H : Hp} (hc : ∀ H' e, Same H H' → H' e = none → ts (endsOff i D) (σ'.set i (some (.ref e))) (upd H' e (ExcO (.ref C) e))) (hb : ∀ E : XS, (∀ H', Same H H' → E σ' (.ref C) none H') → tb E D σ H) : tTryAs C i tb ts D σ H :=
  hb _ fun H' s => ⟨rfl, fun e he => hc H' e s he⟩
end L2

namespace WayM
open PySem
def steps : List Str := ["F", "M", "T", "f", "m", "t", "S", "he", "she"]
def Stp (x : Str) : Prop := x ∈ steps
instance (x : Str) : Decidable (Stp x) := inferInstanceAs (Decidable (x ∈ steps))
end WayM

set_option maxRecDepth 100000
set_option maxHeartbeats 4000000
seal L2.PSs L2.PS L2.PE L2.PT L2.PW L2.PA L2.PG L2.PI L2.PO
namespace K12
open PySem L2
/-! ### the text by places -/
def top (i : Nat) : Stmt := PySem.Challenge.pw_heirbook_k12_texts_of_no_way.main.body.getD i (.Pass ⟨0, 0, 0, 0⟩)
abbrev s_is_letter : Stmt := top 23
abbrev s_is_test : Stmt := top 24
abbrev s_read_way : Stmt := top 25
abbrev s__law_cell_at : Stmt := top 27
abbrev s__law_read : Stmt := top 28
abbrev s__law_good : Stmt := top 29
abbrev s__law_spoiled : Stmt := top 30
abbrev s__law_pieces : Stmt := top 31
abbrev s__law_text : Stmt := top 32
abbrev s__law_told : Stmt := top 33
abbrev s_law : Stmt := top 34
/-! ### what the top has made -/
structure Tx (K : PySem.W.Frag) (w : World) (mg : Str → Option Value) where
  a_is_letter : Addr
  fd_is_letter : FuncData
  F_is_letter : Fun K "is_letter" "is_letter" s_is_letter a_is_letter fd_is_letter
  b_is_letter : Binds K fd_is_letter ["thing"] []
  m_is_letter : mg "is_letter" = some (.ref a_is_letter)
  a_is_test : Addr
  fd_is_test : FuncData
  F_is_test : Fun K "is_test" "is_test" s_is_test a_is_test fd_is_test
  b_is_test : Binds K fd_is_test ["thing"] []
  m_is_test : mg "is_test" = some (.ref a_is_test)
  a_read_way : Addr
  fd_read_way : FuncData
  F_read_way : Fun K "read_way" "read_way" s_read_way a_read_way fd_read_way
  b_read_way : Binds K fd_read_way ["text"] []
  m_read_way : mg "read_way" = some (.ref a_read_way)
  a__law_cell_at : Addr
  fd__law_cell_at : FuncData
  F__law_cell_at : Fun K "_law_cell_at" "_law_cell_at" s__law_cell_at a__law_cell_at fd__law_cell_at
  b__law_cell_at : Binds K fd__law_cell_at ["_law_script", "_law_k"] []
  m__law_cell_at : mg "_law_cell_at" = some (.ref a__law_cell_at)
  a__law_read : Addr
  fd__law_read : FuncData
  F__law_read : Fun K "_law_read" "_law_read" s__law_read a__law_read fd__law_read
  b__law_read : Binds K fd__law_read ["_law_text_here"] []
  m__law_read : mg "_law_read" = some (.ref a__law_read)
  a__law_good : Addr
  fd__law_good : FuncData
  F__law_good : Fun K "_law_good" "_law_good" s__law_good a__law_good fd__law_good
  b__law_good : Binds K fd__law_good ["_law_cells"] []
  m__law_good : mg "_law_good" = some (.ref a__law_good)
  a__law_spoiled : Addr
  fd__law_spoiled : FuncData
  F__law_spoiled : Fun K "_law_spoiled" "_law_spoiled" s__law_spoiled a__law_spoiled fd__law_spoiled
  b__law_spoiled : Binds K fd__law_spoiled ["_law_text_here", "_law_cell", "_law_way"] []
  m__law_spoiled : mg "_law_spoiled" = some (.ref a__law_spoiled)
  a__law_pieces : Addr
  fd__law_pieces : FuncData
  F__law_pieces : Fun K "_law_pieces" "_law_pieces" s__law_pieces a__law_pieces fd__law_pieces
  b__law_pieces : Binds K fd__law_pieces ["_law_cells"] []
  m__law_pieces : mg "_law_pieces" = some (.ref a__law_pieces)
  a__law_text : Addr
  fd__law_text : FuncData
  F__law_text : Fun K "_law_text" "_law_text" s__law_text a__law_text fd__law_text
  b__law_text : Binds K fd__law_text ["_law_script"] []
  m__law_text : mg "_law_text" = some (.ref a__law_text)
  a__law_told : Addr
  fd__law_told : FuncData
  F__law_told : Fun K "_law_told" "_law_told" s__law_told a__law_told fd__law_told
  b__law_told : Binds K fd__law_told ["_law_thing"] []
  m__law_told : mg "_law_told" = some (.ref a__law_told)
  a_law : Addr
  fd_law : FuncData
  F_law : Fun K "law" "law" s_law a_law fd_law
  b_law : Binds K fd_law ["_law_script"] []
  m_law : mg "law" = some (.ref a_law)
  c_HeirError : Addr
  m_HeirError : mg "HeirError" = some (.ref c_HeirError)
  c_NoNumber : Addr
  m_NoNumber : mg "NoNumber" = some (.ref c_NoNumber)
  c_NoEntry : Addr
  m_NoEntry : mg "NoEntry" = some (.ref c_NoEntry)
  c_Full : Addr
  m_Full : mg "Full" = some (.ref c_Full)
  c_NoPerson : Addr
  m_NoPerson : mg "NoPerson" = some (.ref c_NoPerson)
  c_Twice : Addr
  m_Twice : mg "Twice" = some (.ref c_Twice)
  c_NoFit : Addr
  m_NoFit : mg "NoFit" = some (.ref c_NoFit)
  c_NoWay : Addr
  m_NoWay : mg "NoWay" = some (.ref c_NoWay)
  c_NoTongue : Addr
  m_NoTongue : mg "NoTongue" = some (.ref c_NoTongue)
  c_NoWord : Addr
  m_NoWord : mg "NoWord" = some (.ref c_NoWord)
  c_Marked : Addr
  m_Marked : mg "Marked" = some (.ref c_Marked)
  c_TooMany : Addr
  m_TooMany : mg "TooMany" = some (.ref c_TooMany)
  c_Barred : Addr
  m_Barred : mg "Barred" = some (.ref c_Barred)
  c_NoCode : Addr
  m_NoCode : mg "NoCode" = some (.ref c_NoCode)
  c_Alive : Addr
  m_Alive : mg "Alive" = some (.ref c_Alive)
  c_Unsure : Addr
  m_Unsure : mg "Unsure" = some (.ref c_Unsure)
  c_NoRow : Addr
  m_NoRow : mg "NoRow" = some (.ref c_NoRow)
  x_NoWay : PySem.W.excIn K c_NoWay EBm "ValueError.__new__" = true
  e_NoWay : ExcK K c_NoWay
  n_ValueError : mg "ValueError" = none
  n_all : mg "all" = none
  n_isinstance : mg "isinstance" = none
  n_len : mg "len" = none
  n_list : mg "list" = none
  n_str : mg "str" = none
  n_tuple : mg "tuple" = none
  k_str_str : PySem.W.kitOne K (.type "str") (.type "str") = some true
  k_tuple_tuple : PySem.W.kitOne K (.type "tuple") (.type "tuple") = some true
  k_NoneType_tuple : PySem.W.kitOne K (.type "NoneType") (.type "tuple") = some false
  k_NoneType_str : PySem.W.kitOne K (.type "NoneType") (.type "str") = some false
  k_bool_str : PySem.W.kitOne K (.type "bool") (.type "str") = some false
  k_int_str : PySem.W.kitOne K (.type "int") (.type "str") = some false
  k_tuple_str : PySem.W.kitOne K (.type "tuple") (.type "str") = some false
  k_list_str : PySem.W.kitOne K (.type "list") (.type "str") = some false
  k_dict_str : PySem.W.kitOne K (.type "dict") (.type "str") = some false
  kx_HeirError : PySem.W.kitOne K (.ref c_NoWay) (.ref c_HeirError) = some true
  kx_ValueError : PySem.W.kitOne K (.ref c_NoWay) (.type "ValueError") = some true
  kx_Alive : PySem.W.kitOne K (.ref c_NoWay) (.ref c_Alive) = some false
  kx_Barred : PySem.W.kitOne K (.ref c_NoWay) (.ref c_Barred) = some false
  kx_Full : PySem.W.kitOne K (.ref c_NoWay) (.ref c_Full) = some false
  kx_Marked : PySem.W.kitOne K (.ref c_NoWay) (.ref c_Marked) = some false
  kx_NoCode : PySem.W.kitOne K (.ref c_NoWay) (.ref c_NoCode) = some false
  kx_NoEntry : PySem.W.kitOne K (.ref c_NoWay) (.ref c_NoEntry) = some false
  kx_NoFit : PySem.W.kitOne K (.ref c_NoWay) (.ref c_NoFit) = some false
  kx_NoNumber : PySem.W.kitOne K (.ref c_NoWay) (.ref c_NoNumber) = some false
  kx_NoPerson : PySem.W.kitOne K (.ref c_NoWay) (.ref c_NoPerson) = some false
  kx_NoRow : PySem.W.kitOne K (.ref c_NoWay) (.ref c_NoRow) = some false
  kx_NoTongue : PySem.W.kitOne K (.ref c_NoWay) (.ref c_NoTongue) = some false
  kx_NoWord : PySem.W.kitOne K (.ref c_NoWay) (.ref c_NoWord) = some false
  kx_TooMany : PySem.W.kitOne K (.ref c_NoWay) (.ref c_TooMany) = some false
  kx_Twice : PySem.W.kitOne K (.ref c_NoWay) (.ref c_Twice) = some false
  kx_Unsure : PySem.W.kitOne K (.ref c_NoWay) (.ref c_Unsure) = some false
  a_STEP_LETTERS : Addr
  m_STEP_LETTERS : mg "STEP_LETTERS" = some (.ref a_STEP_LETTERS)
  s_STEP_LETTERS : ∀ H, SqT K H a_STEP_LETTERS [.str "F", .str "M", .str "T", .str "f", .str "m", .str "t", .str "S"]
  a_TESTS : Addr
  m_TESTS : mg "TESTS" = some (.ref a_TESTS)
  s_TESTS : ∀ H, SqT K H a_TESTS [.str "he", .str "she"]
  t_MOST_STEPS : Tok
  m_MOST_STEPS : mg "MOST_STEPS" = some (.int 24 t_MOST_STEPS)
open WayM TextM
def spLaw (K : PySem.W.Frag) : Sp := fun vs H Q E => ∃ (l : Addr) (ns : List Int), vs = [.ref l] ∧ SqL K H l (ns.map V.int) ∧ ns.length ≤ 63 ∧ ∀ H', Q (.bl true) H'
theorem item_int {ns : List Int} {k : Nat} (h : k < ns.length) : (ns.map V.int)[k]? = some (V.int (ns.getD k 0)) := by
  simp [List.getD, List.getElem?_eq_getElem h, h]
theorem map_at {xs : List Str} {i : Nat} {y : V} (h : (xs.map V.str)[i]? = some y) : ∃ z, y = .str z ∧ xs[i]? = some z := by
  rw [List.getElem?_map] at h
  obtain ⟨z, hz, e⟩ := Option.map_eq_some_iff.mp h
  exact ⟨z, e.symm, hz⟩
theorem ints_at {cs : List Int} {i : Nat} {y : V} (h : (cs.map V.int)[i]? = some y) : ∃ z, y = .int z ∧ cs[i]? = some z := by
  rw [List.getElem?_map] at h
  obtain ⟨z, hz, e⟩ := Option.map_eq_some_iff.mp h
  exact ⟨z, e.symm, hz⟩
def stepOf (c : Int) : Str := steps.getD (c.fmod 9).toNat "F"
theorem stepOf_lt (c : Int) : (c.fmod 9).toNat < steps.length := by
  have h0 := mod_lo c (show (0 : Int) < 9 by decide)
  have h1 := mod_hi c (show (0 : Int) < 9 by decide)
  show (c.fmod 9).toNat < 9
  omega
theorem stepOf_stp (c : Int) : Stp (stepOf c) := by
  unfold stepOf Stp
  rw [List.getD_eq_getElem?_getD, List.getElem?_eq_getElem (stepOf_lt c)]
  exact List.getElem_mem _
theorem stepOf_at (c : Int) : atI (steps.map V.str) (c.fmod 9) = some (.str (stepOf c)) := by
  refine at_i (mod_lo c (by decide)) ?_
  unfold stepOf
  rw [List.getElem?_map, List.getD_eq_getElem?_getD, List.getElem?_eq_getElem (stepOf_lt c)]
  rfl
/-! ### ways and their texts -/
def blank : Str := ⟨#[32]⟩
def letters : List Str := ["F", "M", "T", "f", "m", "t", "S"]
def tests : List Str := ["he", "she"]
def isLet (x : Str) : Bool := decide (x ∈ letters)
def isTes (x : Str) : Bool := decide (x ∈ tests)
theorem stp_iff (x : Str) : Stp x ↔ (isLet x || isTes x) = true := by
  unfold Stp isLet isTes steps letters tests
  simp [or_assoc]
theorem in_strs (x : Str) : ∀ l : List Str, inV (.str x) (l.map V.str) = decide (x ∈ l) := by
  intro l
  unfold inV
  induction l with
  | nil => rfl
  | cons y r ih =>
    rw [List.map_cons, List.any_cons, ih]
    by_cases h : x = y
    · subst h; simp [eqV]
    · simp [eqV, h, Ne.symm h]
def readW (z : Str) : Option (List Str) := if z = "" then some [] else if (partsOf 32 z).length ≤ 24 ∧ ∀ p ∈ partsOf 32 z, Stp p then some (partsOf 32 z) else none
theorem stp_no_blank {x : Str} (h : Stp x) : 32 ∉ x.cps.toList := (show ∀ x ∈ steps, 32 ∉ x.cps.toList by decide +kernel) x h
theorem stp_ne {x : Str} (h : Stp x) : x ≠ "" := (show ∀ x ∈ steps, x ≠ "" by decide +kernel) x h
theorem stp_len {x : Str} (h : Stp x) : x.length ≤ 3 := (show ∀ x ∈ steps, x.length ≤ 3 by decide +kernel) x h
theorem parts_join {ws : List Str} (h : ∀ x ∈ ws, Stp x) (hn : ws ≠ []) : partsOf 32 (blank.join ws) = ws := by
  obtain ⟨p, ps, rfl⟩ := List.exists_cons_of_ne_nil hn
  unfold partsOf blank
  rw [← split_one _ _ (kind_low (by decide))]
  exact split_join (kind_low (by decide)) fun q hq => stp_no_blank (h q hq)
theorem join_len : ∀ {ws : List Str}, (∀ x ∈ ws, Stp x) → (blank.join ws).length ≤ 4 * ws.length
  | [], _ => Nat.zero_le _
  | [p], h => by
    show p.length ≤ _
    have := stp_len (h p (by simp))
    simp
    omega
  | p :: q :: r, h => by
    show (p ++ blank ++ blank.join (q :: r)).length ≤ _
    have ih := join_len (ws := q :: r) fun x hx => h x (List.mem_cons_of_mem _ hx)
    have := stp_len (h p (by simp))
    rw [Str.length_append, Str.length_append]
    have hb : blank.length = 1 := rfl
    simp only [List.length_cons] at ih ⊢
    omega
theorem join_empty {ws : List Str} (h : ∀ x ∈ ws, Stp x) (e : blank.join ws = "") : ws = [] := by
  cases ws with
  | nil => rfl
  | cons p ps =>
    have z := parts_join h (by simp)
    rw [e] at z
    have z2 : partsOf 32 "" = [("" : Str)] := by decide +kernel
    rw [z2] at z
    cases z
    exact absurd rfl (stp_ne (h "" (by simp)))
theorem readW_join {ws : List Str} (h : ∀ x ∈ ws, Stp x) (hl : ws.length ≤ 24) : readW (blank.join ws) = some ws := by
  unfold readW
  by_cases e : blank.join ws = ""
  · rw [if_pos e, join_empty h e]
  · have hn : ws ≠ [] := fun z => e (by subst z; rfl)
    rw [if_neg e, parts_join h hn, if_pos ⟨hl, h⟩]
/-! ### a text read sign by sign -/
theorem splitL_snoc {c : Nat} : ∀ {l : List Nat} {ws : List (List Nat)} {w : List Nat}, splitL c l = ws ++ [w] → splitL c (l ++ [c]) = ws ++ [w] ++ [[]] ∧ ∀ a, a ≠ c → splitL c (l ++ [a]) = ws ++ [w ++ [a]]
  | [], ws, w, e => by
    have e' : [([] : List Nat)] = ws ++ [w] := e
    cases ws with
    | nil =>
      simp at e'
      subst e'
      refine ⟨by simp [splitL], fun a h => by simp [splitL, h]⟩
    | cons p r =>
      have := congrArg List.length e'
      simp at this
  | b :: l, ws, w, e => by
    obtain ⟨p, ps, e1⟩ := splitL_ne c l
    by_cases h : b = c
    · subst h
      rw [splitL_cons_eq] at e
      cases ws with
      | nil =>
        rw [e1] at e
        simp at e
      | cons q r =>
        rw [List.cons_append] at e
        injection e with e2 e3
        have ih := splitL_snoc e3
        subst e2
        refine ⟨?_, fun a ha => ?_⟩
        · rw [List.cons_append, splitL_cons_eq, ih.1]; rfl
        · rw [List.cons_append, splitL_cons_eq, ih.2 a ha]; rfl
    · rw [splitL_cons_ne h e1] at e
      cases ws with
      | nil =>
        rw [List.nil_append] at e
        injection e with e2 e3
        subst e2 e3
        have ih := splitL_snoc (ws := []) (w := p) e1
        refine ⟨?_, fun a ha => ?_⟩
        · rw [List.cons_append, splitL_cons_ne h ih.1]; rfl
        · rw [List.cons_append, splitL_cons_ne h (ih.2 a ha)]; rfl
      | cons q r =>
        rw [List.cons_append] at e
        injection e with e2 e3
        subst e2
        have ih := splitL_snoc (ws := p :: r) (w := w) (by rw [e1, e3]; rfl)
        refine ⟨?_, fun a ha => ?_⟩
        · rw [List.cons_append, splitL_cons_ne h (show splitL c (l ++ [c]) = p :: (r ++ [w] ++ [[]]) by rw [ih.1]; rfl)]; rfl
        · rw [List.cons_append, splitL_cons_ne h (show splitL c (l ++ [a]) = p :: (r ++ [w ++ [a]]) by rw [ih.2 a ha]; rfl)]; rfl
theorem same_keep {H H1 : Hp} {a : Addr} {o : HO} (e : Same H H1) (n : H a = none) : Same H (upd H1 a o) := fun b u q => by
  rw [upd_ne (ne_of_none q n)]
  exact e b u q
/-- a loop over the signs of a text -/
theorem for_signs {n : Nat} {V1 : Nat → V → Prop} {g : TG} {tb : TS} {D : Ends} {σ : St} {H : Hp} (Pv : Nat → St → Hp → Prop) (h0 : Pv 0 σ H)
    (hs : ∀ i x σ H, i < n → V1 i x → Pv i σ H → g x σ H fun σ2 H2 => tb { D with nx := Pv (i + 1), ct := Pv (i + 1), bk := D.nx } σ2 H2) (hd : ∀ σ H, Pv n σ H → D.nx σ H) :
    ∃ W : Nat → Nat → St → Hp → Prop, (∃ m, W 0 m σ H) ∧ ∀ i m σ H, W i m σ H →
      ((Itw n V1).stop i H ∧ D.nx σ H) ∨ ((Itw n V1).go i H ∧ ∃ N : St → Hp → Prop, (∀ σ' H', N σ' H' → ∃ m', m' < m ∧ W (i + 1) m' σ' H') ∧ ∀ x H', (Itw n V1).yld i H x H' → g x σ H' fun σ2 H2 => tb { D with nx := N, ct := N, bk := D.nx } σ2 H2) := by
  refine ⟨fun i m σ H => m = n - i ∧ i ≤ n ∧ Pv i σ H, ⟨n, by simp, Nat.zero_le _, h0⟩, ?_⟩
  rintro i m σ H ⟨rfl, hi, p⟩
  by_cases hlt : i < n
  · refine .inr ⟨hlt, Pv (i + 1), fun σ' H' q => ⟨n - (i + 1), by omega, rfl, hlt, q⟩, ?_⟩
    rintro x H' ⟨rfl, hx⟩
    exact hs i x σ _ hlt hx p
  · have e : i = n := by omega
    subst e
    exact .inl ⟨rfl, hd σ H p⟩
theorem sum_len : ∀ {l : List Str}, (∀ x ∈ l, Stp x) → (l.map fun x => x.length).sum ≤ 3 * l.length
  | [], _ => Nat.zero_le _
  | a :: r, h => by
    have := stp_len (h a (by simp))
    have := sum_len (l := r) fun x hx => h x (List.mem_cons_of_mem _ hx)
    simp only [List.map_cons, List.sum_cons, List.length_cons]
    omega
def bits : List Str := ["F", " ", "M ", "he", " ", "she ", "S", " f", "m t", "h", "e", "s", "  ", " he ", "T F", "sh"]
theorem bit_at (c : Int) : ∃ b, atI (bits.map V.str) (c.fmod 16) = some (.str b) ∧ b.length ≤ 4 := by
  have h0 := mod_lo c (show (0 : Int) < 16 by decide)
  have h1 := mod_hi c (show (0 : Int) < 16 by decide)
  have hl : (c.fmod 16).toNat < bits.length := by
    show (c.fmod 16).toNat < 16
    omega
  refine ⟨bits[(c.fmod 16).toNat], at_i h0 ?_, ?_⟩
  · rw [List.getElem?_map, List.getElem?_eq_getElem hl]
    rfl
  · exact (show ∀ b ∈ bits, b.length ≤ 4 by decide +kernel) _ (List.getElem_mem hl)
theorem cut_any (ns : List Int) (a b : Nat) : ∃ cs : List Int, cutV (ns.map V.int) (some (a : Int)) (some (b : Int)) = cs.map V.int ∧ cs.length ≤ b - a := by
  unfold cutV
  refine ⟨(ns.drop (HT.sIx (ns.map V.int).length 0 (some (a : Int)))).take (HT.sIx (ns.map V.int).length (ns.map V.int).length (some (b : Int)) - HT.sIx (ns.map V.int).length 0 (some (a : Int))), by rw [List.map_take, List.map_drop], ?_⟩
  rw [List.length_take, HT.sIx_nat, HT.sIx_nat]
  omega
section
variable {z y : Str} {lo hi lo' hi' : Option Int} (hz : z.length ≤ 300)
include hz
theorem sl1 (hy : y.length ≤ 1) : (Txt.slice z lo hi).length + y.length ≤ sizeLine := Nat.le_of_lt (small1000 (by have := Txt.slice_le z lo hi; omega))
theorem sl2 (hy : y.length ≤ 1) : (Txt.slice z lo hi ++ y).length + (Txt.slice z lo' hi').length ≤ sizeLine := Nat.le_of_lt (small1000 (by have := Txt.slice_le z lo hi; have := Txt.slice_le z lo' hi'; rw [Str.length_append]; omega))
theorem sl3 (hy : y.length ≤ 1) : (Txt.slice z lo hi ++ y ++ Txt.slice z lo' hi').length ≤ 1000 := by have := Txt.slice_le z lo hi; have := Txt.slice_le z lo' hi'; rw [Str.length_append, Str.length_append]; omega
theorem sl4 : (Txt.slice z lo hi).length + (Txt.slice z lo' hi').length ≤ sizeLine := Nat.le_of_lt (small1000 (by have := Txt.slice_le z lo hi; have := Txt.slice_le z lo' hi'; omega))
theorem sl5 : (Txt.slice z lo hi ++ Txt.slice z lo' hi').length ≤ 1000 := by have := Txt.slice_le z lo hi; have := Txt.slice_le z lo' hi'; rw [Str.length_append]; omega
end
def DueO (K : PySem.W.Frag) (H : Hp) (o : Option (List Str)) (v : V) : Prop := (∃ ws D, o = some ws ∧ v = .ref D ∧ SqL K H D (ws.map V.str)) ∨ (o = none ∧ v = .non)
def ToldO (K : PySem.W.Frag) (H : Hp) (o : Option (List Str)) (v : V) (b : Bool) : Prop := (∃ ws D, o = some ws ∧ v = .ref D ∧ SqT K H D (ws.map V.str) ∧ b = false) ∨ (o = none ∧ v = .non ∧ b = true)
def Thing (K : PySem.W.Frag) (H : Hp) (x : V) (o : Option (List Str)) : Prop := (∃ ty, Kd K H x ty ∧ PySem.W.kitOne K ty (.type "str") = some false ∧ o = none) ∨ ∃ z, x = .str z ∧ z.length ≤ 1000 ∧ o = readW z
theorem DueO.mono {K : PySem.W.Frag} {H H' : Hp} {o : Option (List Str)} {v : V} (h : DueO K H o v) (e : Same H H') : DueO K H' o v := by
  rcases h with ⟨ws, D, h1, h2, h3⟩ | h
  · exact .inl ⟨ws, D, h1, h2, e.sql h3⟩
  · exact .inr h
theorem seq_by {a b : TS} {D : Ends} {σ : St} {H : Hp} (J : St → Hp → Prop) (h1 : ∀ nx, (∀ σ H, J σ H → nx σ H) → a { D with nx := nx } σ H) (h2 : ∀ σ H, J σ H → b D σ H) : tSeq a b D σ H := h1 (b D) h2
theorem strs_is {K : PySem.W.Frag} {H : Hp} : ∀ ws : List Str, IsL K H (ws.map D.str) (ws.map V.str)
  | [] => rfl
  | w :: ws => ⟨_, _, rfl, rfl, strs_is ws⟩
theorem strs_dep : ∀ ws : List Str, depL (ws.map D.str) ≤ 1
  | [] => by decide
  | w :: ws => by
    have := strs_dep ws
    simp only [List.map_cons, depL, dep]
    omega
theorem at0v {x y : V} : atI [x, y] 0 = some x := atI_nat (j := 0) rfl
theorem at1v {x y : V} : atI [x, y] 1 = some y := atI_nat (j := 1) rfl
theorem lst_dep (ws : List Str) : dep (.lst (ws.map D.str)) ≤ 60 := by
  have := strs_dep ws
  simp only [dep]
  omega
theorem ToldO.yes {K : PySem.W.Frag} {H : Hp} {ws : List Str} {v : V} {b : Bool} (h : ToldO K H (some ws) v b) : ∃ D, v = .ref D ∧ SqT K H D (ws.map V.str) ∧ b = false := by
  rcases h with ⟨ws2, D, e, h1, h2, h3⟩ | ⟨e, _⟩
  · cases e
    exact ⟨D, h1, h2, h3⟩
  · cases e
theorem DueO.yes {K : PySem.W.Frag} {H : Hp} {ws : List Str} {v : V} (h : DueO K H (some ws) v) : ∃ D, v = .ref D ∧ SqL K H D (ws.map V.str) := by
  rcases h with ⟨ws2, D, e, h1, h2⟩ | ⟨e, _⟩
  · cases e
    exact ⟨D, h1, h2⟩
  · cases e

section
variable {K : PySem.W.Frag} {w : World} {mg : Str → Option Value}
theorem sc_is_letter : FnScope ["thing"] ["thing"] (defScope s_is_letter) := ⟨rfl, rfl, rfl, by decide +kernel, rfl, by decide +kernel, by decide +kernel⟩
/-- what is_letter promises -/
def sp_is_letter (T : Tx K w mg) : Sp := fun vs H Q E => vs.length = 1 ∧ (∃ x, vs = [.str x] ∧ ∀ H', Same H H' → Q (.bl (isLet x)) H')
theorem sc_is_test : FnScope ["thing"] ["thing"] (defScope s_is_test) := ⟨rfl, rfl, rfl, by decide +kernel, rfl, by decide +kernel, by decide +kernel⟩
/-- what is_test promises -/
def sp_is_test (T : Tx K w mg) : Sp := fun vs H Q E => vs.length = 1 ∧ (∃ x, vs = [.str x] ∧ ∀ H', Same H H' → Q (.bl (isTes x)) H')
theorem sc_read_way : FnScope ["text", "steps"] ["text"] (defScope s_read_way) := ⟨rfl, rfl, rfl, by decide +kernel, rfl, by decide +kernel, by decide +kernel⟩
/-- what read_way promises -/
def sp_read_way (T : Tx K w mg) : Sp := fun vs H Q E => vs.length = 1 ∧ (∃ x, vs = [x] ∧ ((∃ ty, Kd K H x ty ∧ PySem.W.kitOne K ty (.type "str") = some false ∧ ∀ H', Same H H' → E (.ref T.c_NoWay) none H') ∨ ∃ z, x = .str z ∧ z.length ≤ 1000 ∧ (∀ ws, readW z = some ws → ∀ H' b, Same H H' → SqT K H' b (ws.map V.str) → Q (.ref b) H') ∧ (readW z = none → ∀ H', Same H H' → E (.ref T.c_NoWay) none H')))
theorem sc__law_cell_at : FnScope ["_law_script", "_law_k"] ["_law_script", "_law_k"] (defScope s__law_cell_at) := ⟨rfl, rfl, rfl, by decide +kernel, rfl, by decide +kernel, by decide +kernel⟩
/-- what _law_cell_at promises -/
def sp__law_cell_at (T : Tx K w mg) : Sp := fun vs H Q E => vs.length = 2 ∧ (∃ (l : Addr) (ns : List Int) (k : Int), vs = [.ref l, .int k] ∧ SqL K H l (ns.map V.int) ∧ 0 ≤ k ∧ ∀ c, Q (.int c) H)
theorem sc__law_read : FnScope ["_law_text_here", "_law_words", "_law_word", "_law_sign", "_law_step"] ["_law_text_here"] (defScope s__law_read) := ⟨rfl, rfl, rfl, by decide +kernel, rfl, by decide +kernel, by decide +kernel⟩
/-- what _law_read promises -/
def sp__law_read (T : Tx K w mg) : Sp := fun vs H Q E => vs.length = 1 ∧ (∃ z, vs = [.str z] ∧ z.length ≤ 1000 ∧ ∀ H' v, Same H H' → DueO K H' (readW z) v → Q v H')
theorem sc__law_good : FnScope ["_law_cells", "_law_some"] ["_law_cells"] (defScope s__law_good) := ⟨rfl, rfl, rfl, by decide +kernel, rfl, by decide +kernel, by decide +kernel⟩
/-- what _law_good promises -/
def sp__law_good (T : Tx K w mg) : Sp := fun vs H Q E => vs.length = 1 ∧ (∃ (l : Addr) (cs : List Int), vs = [.ref l] ∧ SqL K H l (cs.map V.int) ∧ cs.length ≤ 63 ∧ ∀ H', Same H H' → Q (.str (blank.join (cs.map stepOf))) H')
theorem sc__law_spoiled : FnScope ["_law_text_here", "_law_cell", "_law_way", "_law_signs", "_law_sign", "_law_at"] ["_law_text_here", "_law_cell", "_law_way"] (defScope s__law_spoiled) := ⟨rfl, rfl, rfl, by decide +kernel, rfl, by decide +kernel, by decide +kernel⟩
/-- what _law_spoiled promises -/
def sp__law_spoiled (T : Tx K w mg) : Sp := fun vs H Q E => vs.length = 3 ∧ (∃ (z : Str) (c k : Int), vs = [.str z, .int c, .int k] ∧ z.length ≤ 300 ∧ ∀ H' y, Same H H' → y.length ≤ 1000 → Q (.str y) H')
theorem sc__law_pieces : FnScope ["_law_cells", "_law_some", "_law_text_here", "_law_cell"] ["_law_cells"] (defScope s__law_pieces) := ⟨rfl, rfl, rfl, by decide +kernel, rfl, by decide +kernel, by decide +kernel⟩
/-- what _law_pieces promises -/
def sp__law_pieces (T : Tx K w mg) : Sp := fun vs H Q E => vs.length = 1 ∧ (∃ (l : Addr) (cs : List Int), vs = [.ref l] ∧ SqL K H l (cs.map V.int) ∧ cs.length ≤ 63 ∧ ∀ H' y, Same H H' → y.length ≤ 1000 → Q (.str y) H')
theorem sc__law_text : FnScope ["_law_script", "_law_way", "_law_text_here"] ["_law_script"] (defScope s__law_text) := ⟨rfl, rfl, rfl, by decide +kernel, rfl, by decide +kernel, by decide +kernel⟩
/-- what _law_text promises -/
def sp__law_text (T : Tx K w mg) : Sp := fun vs H Q E => vs.length = 1 ∧ (∃ (l : Addr) (cs : List Int), vs = [.ref l] ∧ SqL K H l (cs.map V.int) ∧ ∀ H' y, Same H H' → y.length ≤ 1000 → Q (.str y) H')
theorem sc__law_told : FnScope ["_law_thing", "_law_found", "_law_right", "e"] ["_law_thing"] (defScope s__law_told) := ⟨rfl, rfl, rfl, by decide +kernel, rfl, by decide +kernel, by decide +kernel⟩
/-- what _law_told promises -/
def sp__law_told (T : Tx K w mg) : Sp := fun vs H Q E => vs.length = 1 ∧ (∃ x o, vs = [x] ∧ Thing K H x o ∧ ∀ H' D v b, Same H H' → ToldO K H' o v b → SqL K H' D [v, .bl b] → Q (.ref D) H')
theorem sc_law : FnScope ["_law_script", "_law_thing", "_law_due", "_law_told_here", "_law_good_here"] ["_law_script"] (defScope s_law) := ⟨rfl, rfl, rfl, by decide +kernel, rfl, by decide +kernel, by decide +kernel⟩
/-- what law promises -/
def sp_law (T : Tx K w mg) : Sp := fun vs H Q E => vs.length = 1 ∧ (∃ (l : Addr) (ns : List Int), vs = [.ref l] ∧ SqL K H l (ns.map V.int) ∧ ns.length ≤ 63 ∧ ∀ H', Q (.bl true) H')
theorem nd_0 : (["step"] : List Str).Nodup := by decide +kernel
theorem nd_1 : (["_law_cell", "_law_some"] : List Str).Nodup := by decide +kernel
end
section
variable {P : Program} {w : World} {K : PySem.W.Frag} {mg : Str → Option Value} {base : Heap}
theorem ok_is_letter (T : Tx K w mg)  : FnOk P w K mg base (CX1 P w) 1 T.a_is_letter T.fd_is_letter ["thing"] (sp_is_letter T) := by
  refine Fun.okX (k := 0) T.F_is_letter sc_is_letter (fun vs H Q E h => h.1) (fun cdv A outer s H vs Q E hr h => ?_)
  obtain ⟨-, h⟩ := h
  obtain ⟨x, rfl, q⟩ := h
  refine ⟨_, (pss_one (ps_ret (pe_and (pe_isi K (by rfl) T.n_isinstance (pa_cons (pv 0) (pa_cons (pe_bltn (v := .ty "str") (by rfl) T.n_str bt_str rfl) pa_nil))) (pe_one (pe_cmpR op_in_seq (pv 0) (pe_glob (v := .ref T.a_STEP_LETTERS) (by rfl) T.m_STEP_LETTERS rfl) (by rfl)))))), ?_⟩
  refine ⟨_, rfl, _, .ty "str", _, _, rfl, rfl, .of (.str _), T.k_str_str, _, rfl, iteT ⟨_, rfl, T.a_STEP_LETTERS, _, rfl, .inr (T.s_STEP_LETTERS _), rfl, rfl, ?_⟩⟩
  have e : (if false = true then !inV (.str x) (letters.map V.str) else inV (.str x) (letters.map V.str)) = isLet x := in_strs x letters
  have q1 := q _ (Same.refl H)
  rw [← e] at q1
  exact q1
theorem ok_is_test (T : Tx K w mg)  : FnOk P w K mg base (CX1 P w) 1 T.a_is_test T.fd_is_test ["thing"] (sp_is_test T) := by
  refine Fun.okX (k := 0) T.F_is_test sc_is_test (fun vs H Q E h => h.1) (fun cdv A outer s H vs Q E hr h => ?_)
  obtain ⟨-, h⟩ := h
  obtain ⟨x, rfl, q⟩ := h
  refine ⟨_, (pss_one (ps_ret (pe_and (pe_isi K (by rfl) T.n_isinstance (pa_cons (pv 0) (pa_cons (pe_bltn (v := .ty "str") (by rfl) T.n_str bt_str rfl) pa_nil))) (pe_one (pe_cmpR op_in_seq (pv 0) (pe_glob (v := .ref T.a_TESTS) (by rfl) T.m_TESTS rfl) (by rfl)))))), ?_⟩
  refine ⟨_, rfl, _, .ty "str", _, _, rfl, rfl, .of (.str _), T.k_str_str, _, rfl, iteT ⟨_, rfl, T.a_TESTS, _, rfl, .inr (T.s_TESTS _), rfl, rfl, ?_⟩⟩
  have e : (if false = true then !inV (.str x) (tests.map V.str) else inV (.str x) (tests.map V.str)) = isTes x := in_strs x tests
  have q1 := q _ (Same.refl H)
  rw [← e] at q1
  exact q1
theorem ok_read_way (T : Tx K w mg) (G_is_letter : FnOk P w K mg base (CX1 P w) 1 T.a_is_letter T.fd_is_letter ["thing"] (sp_is_letter T)) (G_is_test : FnOk P w K mg base (CX1 P w) 1 T.a_is_test T.fd_is_test ["thing"] (sp_is_test T)) : FnOk P w K mg base (CX1 P w) 2 T.a_read_way T.fd_read_way ["text"] (sp_read_way T) := by
  refine Fun.okX (k := 1) T.F_read_way sc_read_way (fun vs H Q E h => h.1) (fun cdv A outer s H vs Q E hr h => ?_)
  obtain ⟨-, h⟩ := h
  obtain ⟨x, rfl, h⟩ := h
  refine ⟨_, (pss_cons (ps_if (pt_not (pt_val (pe_isi K (by rfl) T.n_isinstance (pa_cons (pv 0) (pa_cons (pe_bltn (v := .ty "str") (by rfl) T.n_str bt_str rfl) pa_nil))))) (pss_one (ps_raise (by rfl) T.m_NoWay T.x_NoWay EB rfl raise_on (pa_cons pe_str pa_nil))) pss_nil)
      (pss_cons (ps_if (pt_cmpR op_eq (pv 0) pe_str (nomark _)) (pss_one (ps_ret (pe_tup pa_nil))) pss_nil)
      (pss_cons (ps_set (i := 1) sc_read_way.nd rfl (Or.inl rfl) (pe_bm PySem.F.plainAttrs_str PySem.F.slot_str_split PySem.F.type_str_split (mt_split1 32 (by decide)) (pv 0) (pa_cons pe_str pa_nil)))
      (pss_cons (ps_if (pt_cmpR op_gt (pe_callB call_len_seq (by rfl) T.n_len bt_len (pa_cons (pv 1) pa_nil)) (pe_glob (v := .int 24) (by rfl) T.m_MOST_STEPS ⟨_, rfl⟩) (nomark _)) (pss_one (ps_raise (by rfl) T.m_NoWay T.x_NoWay EB rfl raise_on (pa_cons pe_str pa_nil))) pss_nil)
      (pss_cons (ps_if (pt_not (pt_val (pe_callB (call_all rfl) (by rfl) T.n_all bt_all (pa_cons (pe_comp rfl (comp_scF (N := ["step"]) [] [none] rfl (by decide +kernel) (by decide +kernel) (by rfl) (by rfl) (by rfl) (by rfl) (by rfl)) (pi_list (pv 1)) (fun _ _ _ => (pg_name (i := 0) nd_0 rfl (Or.inl rfl))) (fun _ _ _ => pts_nil) (fun _ _ _ => (pe_or (pe_callX G_is_letter (hr.mono (by decide)) (by rfl) T.m_is_letter T.F_is_letter.kp T.b_is_letter .nil pass_none (pa_cons (pv 0) pa_nil)) (pe_one (pe_callX G_is_test (hr.mono (by decide)) (by rfl) T.m_is_test T.F_is_test.kp T.b_is_test .nil pass_none (pa_cons (pv 0) pa_nil)))))) pa_nil)))) (pss_one (ps_raise (by rfl) T.m_NoWay T.x_NoWay EB rfl raise_on (pa_cons pe_str pa_nil))) pss_nil)
      (pss_one (ps_ret (pe_callTy call_tuple_of (by rfl) T.n_tuple bt_tuple (pa_cons (pv 1) pa_nil))))))))), ?_⟩
  rcases h with ⟨ty, hk, ks, qe⟩ | ⟨z, rfl, hz, q, qe⟩
  · exact ⟨_, rfl, _, .ty "str", _, _, rfl, rfl, hk, ks, _, rfl, iteT ⟨by decide, qe _ (Same.refl H)⟩⟩
  refine ⟨_, rfl, _, .ty "str", _, _, rfl, rfl, .of (.str _), T.k_str_str, _, rfl, iteF ⟨_, rfl, rfl, _, rfl, ?_⟩⟩
  by_cases he : z = ""
  · subst he
    refine iteTb (by decide +kernel) ⟨by decide, fun p np => q [] (by decide +kernel) _ p (same_upd np) (.of upd_same)⟩
  refine iteFb (by rw [str_dec]; exact decide_eq_false he) ?_
  refine ⟨_, rfl, rfl, z, rfl, rfl, by omega, fun D nD => ?_⟩
  have sA := same_upd (o := .lst ((partsOf 32 z).map V.str)) nD
  have hD : SqL K (upd H D (.lst ((partsOf 32 z).map V.str))) D ((partsOf 32 z).map V.str) := .of upd_same
  have hpl := parts_len z 32
  generalize upd H D (.lst ((partsOf 32 z).map V.str)) = H1 at *
  refine ⟨_, rfl, D, _, rfl, .inl hD, _, _, rfl, rfl, _, rfl, ?_⟩
  by_cases h24 : (24 : Int) < (((partsOf 32 z).map V.str).length : Nat)
  · have no : readW z = none := by
      unfold readW
      rw [if_neg he, if_neg]
      intro h
      have := h.1
      rw [List.length_map] at h24
      omega
    exact iteTb (decide_eq_true h24) ⟨by decide, qe no _ sA⟩
  refine iteFb (decide_eq_false h24) ?_
  have h24' : (partsOf 32 z).length ≤ 24 := by rw [List.length_map] at h24; omega
  refine ⟨_, rfl, D, rfl, ⟨_, hD⟩, comp_run ((partsOf 32 z).map fun p => V.bl (isLet p || isTes p)) (small1000 (by rw [List.length_map]; omega)) (fun σ => ∃ v, σ = [v]) ⟨_, rfl⟩ (fun i H2 hi sm => ?go) (fun H2 sm => ?stop) (fun i σ H2 x H3 y hy hσ sm hx C hC => ?step) (fun D2 H2 nD2 sm hD2 => ?fin)⟩
  case go =>
    have hi' : i < ((partsOf 32 z).map V.str).length := by rw [List.length_map] at hi ⊢; exact hi
    exact ⟨_, _, sm.sql hD, List.getElem?_eq_getElem hi'⟩
  case stop =>
    exact ⟨_, sm.sql hD, by simp⟩
  case step =>
    obtain ⟨v, rfl⟩ := hσ
    obtain ⟨rfl, hx⟩ := hx
    obtain ⟨p, rfl, hp⟩ := map_at (hx _ (sm.sql hD))
    rw [List.getElem?_map, hp] at hy
    obtain rfl : V.bl (isLet p || isTes p) = y := Option.some.inj hy
    refine ⟨_, rfl, rfl, p, rfl, fun H5 s5 => ⟨_, rfl, ?_⟩⟩
    cases hb : isLet p with
    | true =>
      rw [hb, Bool.true_or] at hC
      exact iteT (hC _ _ ⟨_, rfl⟩ s5)
    | false =>
      rw [hb, Bool.false_or] at hC
      exact iteF ⟨_, rfl, rfl, p, rfl, fun H6 s6 => hC _ _ ⟨_, rfl⟩ (s5.trans s6)⟩
  case fin =>
  refine ⟨D2, (partsOf 32 z).map fun p => isLet p || isTes p, rfl, by rw [hD2, List.map_map]; rfl, _, rfl, ?_⟩
  have s2 := sA.trans sm
  by_cases hall : ∀ p ∈ partsOf 32 z, Stp p
  · have e : (((partsOf 32 z).map fun p => isLet p || isTes p).all id) = true := by
      rw [List.all_map, List.all_eq_true]
      intro p hp
      exact (stp_iff p).mp (hall p hp)
    refine iteFb (by rw [e]; rfl) ⟨_, rfl, D, _, rfl, .inl ⟨sm.sql hD, fun t nt => q _ ?_ _ t (s2.trans (same_upd nt)) (.of upd_same)⟩⟩
    unfold readW
    rw [if_neg he, if_pos ⟨h24', hall⟩]
  · have e : (((partsOf 32 z).map fun p => isLet p || isTes p).all id) = false := by
      rw [Bool.eq_false_iff]
      intro t
      rw [List.all_map, List.all_eq_true] at t
      exact hall fun p hp => (stp_iff p).mpr (t p hp)
    have no : readW z = none := by
      unfold readW
      rw [if_neg he, if_neg fun h => hall h.2]
    exact iteTb (by rw [e]; rfl) ⟨by decide, qe no _ s2⟩
theorem ok__law_cell_at (T : Tx K w mg)  : FnOk P w K mg base (CX1 P w) 1 T.a__law_cell_at T.fd__law_cell_at ["_law_script", "_law_k"] (sp__law_cell_at T) := by
  refine Fun.okX (k := 0) T.F__law_cell_at sc__law_cell_at (fun vs H Q E h => h.1) (fun cdv A outer s H vs Q E hr h => ?_)
  obtain ⟨-, h⟩ := h
  obtain ⟨l, ns, k, rfl, hS, hk, q⟩ := h
  refine ⟨_, (pss_cons (ps_if (pt_cmpR op_lt (pv 1) (pe_callB call_len_seq (by rfl) T.n_len bt_len (pa_cons (pv 0) pa_nil)) (nomark _)) (pss_one (ps_ret (pe_ix ix_list (pv 0) (pv 1) (fun _ _ => rfl)))) pss_nil)
      (pss_one (ps_ret pe_int))), ?_⟩
  refine ⟨_, rfl, _, rfl, l, _, rfl, .inl hS, _, _, rfl, rfl, _, rfl, ?_⟩
  by_cases kl : k < ((ns.map V.int).length : Int)
  · rw [decide_eq_true kl]
    obtain ⟨j, rfl⟩ : ∃ j : Nat, k = (j : Int) := ⟨k.toNat, by omega⟩
    refine iteT ⟨_, rfl, _, rfl, l, _, _, _, rfl, rfl, hS, atI_nat (item_int (by rw [List.length_map] at kl; omega)), q _⟩
  · rw [decide_eq_false kl]
    exact iteF (q _)
theorem ok__law_read (T : Tx K w mg)  : FnOk P w K mg base (CX1 P w) 1 T.a__law_read T.fd__law_read ["_law_text_here"] (sp__law_read T) := by
  refine Fun.okX (k := 0) T.F__law_read sc__law_read (fun vs H Q E h => h.1) (fun cdv A outer s H vs Q E hr h => ?_)
  obtain ⟨-, h⟩ := h
  obtain ⟨z, rfl, hz, q0⟩ := h
  refine ⟨_, (pss_cons (ps_if (pt_cmpR op_eq (pv 0) pe_str (nomark _)) (pss_one (ps_ret (pe_lst pa_nil))) pss_nil)
      (pss_cons (ps_set (i := 1) sc__law_read.nd rfl (Or.inl rfl) (pe_lst pa_nil))
      (pss_cons (ps_set (i := 2) sc__law_read.nd rfl (Or.inl rfl) pe_str)
      (pss_cons (ps_for PassesOwn.leaving rfl (pi_str (pv 0)) (pg_name (i := 3) sc__law_read.nd rfl (Or.inl rfl))
        (pss_one (ps_if (pt_cmpR op_eq (pv 3) pe_str (nomark _)) (pss_cons (ps_expr (pe_bm PySem.F.plainAttrs_list PySem.F.slot_list_append PySem.F.type_list_append mt_append (pv 1) (pa_cons (pv 2) pa_nil)))
      (pss_one (ps_set (i := 2) sc__law_read.nd rfl (Or.inl rfl) pe_str))) (pss_one (ps_set (i := 2) sc__law_read.nd rfl (Or.inl rfl) (pe_op op_add_str (pv 2) (pv 3)))))))
      (pss_cons (ps_expr (pe_bm PySem.F.plainAttrs_list PySem.F.slot_list_append PySem.F.type_list_append mt_append (pv 1) (pa_cons (pv 2) pa_nil)))
      (pss_cons (ps_for PassesOwn.leaving rfl (pi_list (pv 1)) (pg_name (i := 4) sc__law_read.nd rfl (Or.inl rfl))
        (pss_one (ps_if (pt_cmpR op_notIn_seq (pv 4) (pe_lst (pa_cons pe_str (pa_cons pe_str (pa_cons pe_str (pa_cons pe_str (pa_cons pe_str (pa_cons pe_str (pa_cons pe_str (pa_cons pe_str (pa_cons pe_str pa_nil)))))))))) (by rfl)) (pss_one (ps_ret pe_non)) pss_nil)))
      (pss_cons (ps_if (pt_cmpR op_gt (pe_callB call_len_seq (by rfl) T.n_len bt_len (pa_cons (pv 1) pa_nil)) pe_int (nomark _)) (pss_one (ps_ret pe_non)) pss_nil)
      (pss_one (ps_ret (pv 1)))))))))), ?_⟩
  have q : ∀ ws, readW z = some ws → ∀ H' D, Same H H' → SqL K H' D (ws.map V.str) → Q (.ref D) H' := fun ws hw H' D s hD => q0 _ _ s (.inl ⟨ws, D, hw, rfl, hD⟩)
  have qn : readW z = none → ∀ H', Same H H' → Q .non H' := fun no H' s => q0 _ _ s (.inr ⟨no, rfl⟩)
  refine ⟨_, rfl, rfl, _, rfl, ?_⟩
  by_cases he : z = ""
  · subst he
    exact iteTb (by decide +kernel) ⟨by decide, fun p np => q [] (by decide +kernel) _ p (same_upd np) (.of upd_same)⟩
  refine iteFb (by rw [str_dec]; exact decide_eq_false he) ⟨by decide, fun a na => ?_⟩
  refine ⟨_, rfl, z, rfl, for_signs (fun i σ H2 => ∃ (ws : List (List Nat)) (w : List Nat) (v1 v2 : Option V), σ = [some (.str z), some (.ref a), some (.str ⟨w.toArray⟩), v1, v2] ∧ splitL 32 (z.cps.toList.take i) = ws ++ [w] ∧ w.length ≤ i ∧ ws.length ≤ i ∧ H2 a = some (.lst (ws.map fun q => V.str ⟨q.toArray⟩)) ∧ Same H H2) ⟨[], [], none, none, rfl, rfl, Nat.le_refl _, Nat.le_refl _, upd_same, same_upd na⟩ ?turn ?done⟩
  case turn =>
    rintro i x σ H2 hi ⟨c, hc, rfl⟩ ⟨ws, w, v1, v2, rfl, hsp, hw, hws, ha, s2⟩
    have hi2 : i < z.length := hi
    have tk : z.cps.toList.take (i + 1) = z.cps.toList.take i ++ [c] := by
      rw [List.take_add_one, Array.getElem?_toList, hc]
      rfl
    have sn := splitL_snoc hsp
    refine ⟨_, rfl, rfl, _, rfl, ?_⟩
    by_cases hb : c = 32
    · subst hb
      refine iteTb (by decide +kernel) ⟨_, rfl, .inl ⟨rfl, _, .of ha⟩, _, rfl, a, _, _, rfl, rfl, ha, small1000 (by rw [List.length_map]; omega), ?_⟩
      refine ⟨ws ++ [w], [], _, _, rfl, by rw [tk]; exact sn.1, Nat.zero_le _, by rw [List.length_append]; simp; omega, ?_, same_keep s2 na⟩
      rw [upd_same, List.map_append]
      rfl
    · have ne : decide (V.str ⟨#[c]⟩ = V.str (Str.ofString " ")) = false := by
        rw [str_dec]
        refine decide_eq_false fun e => hb ?_
        have e2 := congrArg (fun s : Str => s.cps.toList) e
        have e3 : [c] = [32] := e2
        simpa using e3
      have cat : (⟨w.toArray⟩ : Str) ++ (⟨#[c]⟩ : Str) = ⟨(w ++ [c]).toArray⟩ := Str.ext' (by rw [Str.cps_append]; simp)
      refine iteFb ne ⟨_, rfl, _, rfl, _, _, rfl, rfl, Nat.le_of_lt (small1000 (by show w.toArray.size + 1 ≤ 1000; rw [List.size_toArray]; omega)), ?_⟩
      rw [cat]
      exact ⟨ws, w ++ [c], _, _, rfl, by rw [tk]; exact sn.2 c hb, by rw [List.length_append]; simp; omega, by omega, ha, s2⟩
  case done =>
    rintro σ H2 ⟨ws, w, v1, v2, rfl, hsp, hw, hws, ha, s2⟩
    have full : z.cps.toList.take z.cps.size = z.cps.toList := List.take_of_length_le (by rw [Array.length_toList]; exact Nat.le_refl _)
    rw [full] at hsp
    have hws2 : ws.length ≤ z.length := hws
    refine ⟨_, rfl, .inl ⟨rfl, _, .of ha⟩, _, rfl, a, _, _, rfl, rfl, ha, small1000 (by rw [List.length_map]; omega), ?_⟩
    have pe : (ws.map fun q => V.str ⟨q.toArray⟩) ++ [V.str ⟨w.toArray⟩] = (partsOf 32 z).map V.str := by
      unfold partsOf
      rw [hsp, List.map_map, List.map_append]
      rfl
    rw [pe]
    have hA : (upd H2 a (.lst ((partsOf 32 z).map V.str))) a = some (.lst ((partsOf 32 z).map V.str)) := upd_same
    have s3 : Same H (upd H2 a (.lst ((partsOf 32 z).map V.str))) := same_keep s2 na
    generalize upd H2 a (.lst ((partsOf 32 z).map V.str)) = H3 at *
    refine ⟨_, rfl, a, rfl, ⟨_, .of hA⟩, for_list (xs := (partsOf 32 z).map V.str) (fun i σ H4 => (∃ v, σ = [some (.str z), some (.ref a), some (.str ⟨w.toArray⟩), v1, v]) ∧ (∀ p ∈ (partsOf 32 z).take i, Stp p) ∧ H4 a = some (.lst ((partsOf 32 z).map V.str)) ∧ Same H H4) ⟨⟨_, rfl⟩, by simp, hA, s3⟩ ?sq ?turn2 ?done2⟩
    case sq =>
      rintro i σ H4 hi ⟨_, _, h4, _⟩
      exact .of h4
    case turn2 =>
      rintro i x σ H4 hx ⟨⟨v, rfl⟩, hp, h4, s4⟩
      obtain ⟨y, rfl, hy⟩ := map_at hx
      refine ⟨_, rfl, by decide, fun p np => ⟨p, _, rfl, .inl (.of upd_same), rfl, rfl, _, rfl, ?_⟩⟩
      have e : (if true = true then !inV (.str y) (steps.map V.str) else inV (.str y) (steps.map V.str)) = !decide (y ∈ steps) := by
        rw [in_strs]
        rfl
      by_cases hs : Stp y
      · refine iteFb (e.trans (by rw [decide_eq_true (show y ∈ steps from hs)]; rfl)) ⟨⟨_, rfl⟩, fun p hp2 => ?_, ?_, s4.trans (same_upd np)⟩
        · rw [List.take_add_one, hy] at hp2
          rcases List.mem_append.mp hp2 with z1 | z1
          · exact hp p z1
          · have : p = y := by simpa using z1
            rw [this]
            exact hs
        · exact (same_upd np) a _ h4
      · refine iteTb (e.trans (by rw [decide_eq_false (show ¬ y ∈ steps from hs)]; rfl)) (qn ?_ _ (s4.trans (same_upd np)))
        unfold readW
        rw [if_neg he, if_neg fun h => hs (h.2 y (List.mem_of_getElem? hy))]
    case done2 =>
      rintro σ H4 ⟨⟨v, rfl⟩, hp, h4, s4⟩
      have hall : ∀ p ∈ partsOf 32 z, Stp p := fun p h => hp p (by rw [List.take_of_length_le (by simp)]; exact h)
      refine ⟨_, rfl, a, _, rfl, .inl (.of h4), _, _, rfl, rfl, _, rfl, ?_⟩
      by_cases h24 : (24 : Int) < (((partsOf 32 z).map V.str).length : Nat)
      · refine iteTb (decide_eq_true h24) (qn ?_ _ s4)
        unfold readW
        rw [if_neg he, if_neg]
        intro h
        have := h.1
        rw [List.length_map] at h24
        omega
      · refine iteFb (decide_eq_false h24) ⟨_, rfl, q _ ?_ _ a s4 (.of h4)⟩
        have : (partsOf 32 z).length ≤ 24 := by rw [List.length_map] at h24; omega
        unfold readW
        rw [if_neg he, if_pos ⟨this, hall⟩]
theorem ok__law_good (T : Tx K w mg)  : FnOk P w K mg base (CX1 P w) 1 T.a__law_good T.fd__law_good ["_law_cells"] (sp__law_good T) := by
  refine Fun.okX (k := 0) T.F__law_good sc__law_good (fun vs H Q E h => h.1) (fun cdv A outer s H vs Q E hr h => ?_)
  obtain ⟨-, h⟩ := h
  obtain ⟨l, cs, rfl, hS, hl, q⟩ := h
  refine ⟨_, (pss_cons (ps_set (i := 1) sc__law_good.nd rfl (Or.inr rfl) (pe_lst (pa_cons pe_str (pa_cons pe_str (pa_cons pe_str (pa_cons pe_str (pa_cons pe_str (pa_cons pe_str (pa_cons pe_str (pa_cons pe_str (pa_cons pe_str pa_nil)))))))))))
      (pss_one (ps_ret (pe_bm PySem.F.plainAttrs_str PySem.F.slot_str_join PySem.F.type_str_join (mt_join K) pe_str (pa_cons (pe_comp rfl (comp_scF (N := ["_law_cell", "_law_some"]) ["_law_some"] [none, some 1] rfl (by decide +kernel) (by decide +kernel) (by rfl) (by rfl) (by rfl) (by rfl) (by rfl)) (pi_list (pv 0)) (fun _ _ _ => (pg_name (i := 0) nd_1 rfl (Or.inl rfl))) (fun _ _ _ => pts_nil) (fun _ _ _ => (pe_ix (ix_listK K rfl) (pv 1) (pe_op op_modN (pv 0) pe_int) (fun _ _ => rfl)))) pa_nil))))), ?_⟩
  refine ⟨by decide, fun p np => ?_⟩
  have sA := same_upd (o := .lst (steps.map V.str)) np
  have hp : SqL K (upd H p (.lst (steps.map V.str))) p (steps.map V.str) := .of upd_same
  have hS1 := sA.sql hS
  refine ⟨rfl, _, rfl, l, rfl, ⟨_, hS1⟩, comp_run ((cs.map stepOf).map V.str) (small1000 (by rw [List.length_map, List.length_map]; omega)) (fun σ => ∃ v, σ = [v, some (.ref p)]) ⟨_, rfl⟩ (fun i H2 hi sm => ?go) (fun H2 sm => ?stop) (fun i σ H2 x H3 y hy hσ sm hx C hC => ?step) (fun D H2 nD sm hD => ?fin)⟩
  case go =>
    have hi' : i < (cs.map V.int).length := by rw [List.length_map, List.length_map] at hi; rw [List.length_map]; exact hi
    exact ⟨_, _, sm.sql hS1, List.getElem?_eq_getElem hi'⟩
  case stop =>
    exact ⟨_, sm.sql hS1, by simp⟩
  case step =>
    obtain ⟨v, rfl⟩ := hσ
    obtain ⟨rfl, hx⟩ := hx
    obtain ⟨z, rfl, hz⟩ := ints_at (hx _ (sm.sql hS1))
    obtain ⟨z2, rfl, hz2⟩ := map_at hy
    rw [List.getElem?_map, hz] at hz2
    obtain rfl : stepOf z = z2 := Option.some.inj hz2
    exact ⟨_, rfl, _, rfl, _, _, rfl, rfl, (by decide : (9 : Int) ≠ 0), p, _, _, _, rfl, rfl, sm.sql hp, stepOf_at z, hC _ _ ⟨_, rfl⟩ (Same.refl _)⟩
  case fin =>
  refine ⟨_, D, cs.map stepOf, rfl, rfl, .inl (.of hD), ?_, q _ (sA.trans sm)⟩
  have hst : ∀ x ∈ cs.map stepOf, Stp x := fun x hx => by
    obtain ⟨c, _, rfl⟩ := List.mem_map.mp hx
    exact stepOf_stp c
  have h2 := sum_len hst
  have h3 : (Str.ofString " ").length = 1 := rfl
  rw [h3]
  rw [List.length_map] at h2 ⊢
  omega
theorem ok__law_spoiled (T : Tx K w mg)  : FnOk P w K mg base (CX1 P w) 1 T.a__law_spoiled T.fd__law_spoiled ["_law_text_here", "_law_cell", "_law_way"] (sp__law_spoiled T) := by
  refine Fun.okX (k := 0) T.F__law_spoiled sc__law_spoiled (fun vs H Q E h => h.1) (fun cdv A outer s H vs Q E hr h => ?_)
  obtain ⟨-, h⟩ := h
  obtain ⟨z, c, k, rfl, hz, q⟩ := h
  refine ⟨_, (pss_cons (ps_set (i := 3) sc__law_spoiled.nd rfl (Or.inl rfl) pe_str)
      (pss_cons (ps_set (i := 4) sc__law_spoiled.nd rfl (Or.inl rfl) (pe_ix ix_str (pv 3) (pe_op op_modN (pv 1) (pe_callB call_len_str (by rfl) T.n_len bt_len (pa_cons (pv 3) pa_nil))) (fun _ _ => rfl)))
      (pss_cons (ps_set (i := 5) sc__law_spoiled.nd rfl (Or.inl rfl) (pe_op op_modN (pe_op op_fdivB (pv 1) (pe_callB call_len_str (by rfl) T.n_len bt_len (pa_cons (pv 3) pa_nil))) (pe_op op_add (pe_callB call_len_str (by rfl) T.n_len bt_len (pa_cons (pv 0) pa_nil)) pe_int)))
      (pss_cons (ps_if (pt_cmpR op_eq (pv 2) pe_int (nomark _)) (pss_one (ps_ret (pe_op op_add_str (pe_op op_add_str (pe_slice sl_str (pv 0) po_none (po_some (pv 5))) (pv 4)) (pe_slice sl_str (pv 0) (po_some (pv 5)) po_none)))) pss_nil)
      (pss_cons (ps_if (pt_cmpR op_eq (pv 2) pe_int (nomark _)) (pss_one (ps_ret (pe_op op_add_str (pe_slice sl_str (pv 0) po_none (po_some (pv 5))) (pe_slice sl_str (pv 0) (po_some (pe_op op_add (pv 5) pe_int)) po_none)))) pss_nil)
      (pss_one (ps_ret (pe_op op_add_str (pe_op op_add_str (pe_slice sl_str (pv 0) po_none (po_some (pv 5))) (pv 4)) (pe_slice sl_str (pv 0) (po_some (pe_op op_add (pv 5) pe_int)) po_none))))))))), ?_⟩
  have zs : z.length ≤ sizeLine := Nat.le_of_lt (small1000 (by omega))
  have m0 := mod_lo c (show (0 : Int) < 20 by decide)
  have m1 := mod_hi c (show (0 : Int) < 20 by decide)
  obtain ⟨ch, hch⟩ : ∃ ch, atI (Str.ofString "FMTfmtS hesHE12s\n-:a").cps.toList (c.fmod 20) = some ch := by
    have hl : (c.fmod 20).toNat < (Str.ofString "FMTfmtS hesHE12s\n-:a").cps.toList.length := by
      show (c.fmod 20).toNat < 20
      omega
    exact ⟨_, at_i m0 (List.getElem?_eq_getElem hl)⟩
  refine ⟨_, rfl, _, rfl, _, rfl, _, rfl, by decide, _, _, rfl, rfl, (by decide : (20 : Int) ≠ 0), _, _, _, rfl, rfl, by decide, hch, ?_⟩
  refine ⟨_, rfl, _, rfl, _, rfl, by decide, _, _, rfl, rfl, ⟨(by decide : (20 : Int) ≠ 0), ?big⟩, _, rfl, z, rfl, zs, _, _, rfl, rfl, _, _, rfl, rfl, ?ne, ?_⟩
  case big => show (20 : Nat) < 2 ^ 1000; exact Nat.lt_of_lt_of_le (by decide : 20 < 2 ^ 5) (Nat.pow_le_pow_right (by decide) (by decide))
  case ne => show ((z.length : Nat) : Int) + 1 ≠ 0; omega
  have y1 : (⟨#[ch]⟩ : Str).length ≤ 1 := Nat.le_refl _
  refine ⟨_, rfl, rfl, _, rfl, iteB (fun h1 => ?_) (fun h1 => ⟨_, rfl, rfl, _, rfl, iteB (fun h2 => ?_) (fun h2 => ?_)⟩)⟩
  · exact ⟨_, rfl, _, rfl, _, rfl, z, rfl, zs, _, rfl, _, _, rfl, rfl, sl1 hz y1, _, rfl, _, rfl, _, rfl, z, rfl, zs, _, _, rfl, rfl, sl2 hz y1, q _ _ (Same.refl H) (sl3 hz y1)⟩
  · exact ⟨_, rfl, _, rfl, _, rfl, z, rfl, zs, _, rfl, _, rfl, _, _, rfl, rfl, _, rfl, z, rfl, zs, _, _, rfl, rfl, sl4 hz, q _ _ (Same.refl H) (sl5 hz)⟩
  · exact ⟨_, rfl, _, rfl, _, rfl, z, rfl, zs, _, rfl, _, _, rfl, rfl, sl1 hz y1, _, rfl, _, rfl, _, _, rfl, rfl, _, rfl, z, rfl, zs, _, _, rfl, rfl, sl2 hz y1, q _ _ (Same.refl H) (sl3 hz y1)⟩
theorem ok__law_pieces (T : Tx K w mg)  : FnOk P w K mg base (CX1 P w) 1 T.a__law_pieces T.fd__law_pieces ["_law_cells"] (sp__law_pieces T) := by
  refine Fun.okX (k := 0) T.F__law_pieces sc__law_pieces (fun vs H Q E h => h.1) (fun cdv A outer s H vs Q E hr h => ?_)
  obtain ⟨-, h⟩ := h
  obtain ⟨l, cs, rfl, hS, hl, q⟩ := h
  refine ⟨_, (pss_cons (ps_set (i := 1) sc__law_pieces.nd rfl (Or.inl rfl) (pe_lst (pa_cons pe_str (pa_cons pe_str (pa_cons pe_str (pa_cons pe_str (pa_cons pe_str (pa_cons pe_str (pa_cons pe_str (pa_cons pe_str (pa_cons pe_str (pa_cons pe_str (pa_cons pe_str (pa_cons pe_str (pa_cons pe_str (pa_cons pe_str (pa_cons pe_str (pa_cons pe_str pa_nil))))))))))))))))))
      (pss_cons (ps_set (i := 2) sc__law_pieces.nd rfl (Or.inl rfl) pe_str)
      (pss_cons (ps_for PassesOwn.leaving rfl (pi_list (pv 0)) (pg_name (i := 3) sc__law_pieces.nd rfl (Or.inl rfl))
        (pss_one (ps_set (i := 2) sc__law_pieces.nd rfl (Or.inl rfl) (pe_op op_add_str (pv 2) (pe_ix ix_list (pv 1) (pe_op op_modN (pv 3) pe_int) (fun _ _ => rfl))))))
      (pss_one (ps_ret (pv 2)))))), ?_⟩
  refine ⟨by decide, fun p np => ?_⟩
  have sA := same_upd (o := .lst (bits.map V.str)) np
  have hp : SqL K (upd H p (.lst (bits.map V.str))) p (bits.map V.str) := .of upd_same
  have hS1 := sA.sql hS
  refine ⟨_, rfl, l, rfl, ⟨_, hS1⟩, for_list (xs := cs.map V.int) (fun i σ H2 => i ≤ 63 ∧ (∃ y v, σ = [some (.ref l), some (.ref p), some (.str y), v] ∧ y.length ≤ 4 * i) ∧ Same (upd H p (.lst (bits.map V.str))) H2) ⟨by omega, ⟨"", none, rfl, Nat.le_refl _⟩, Same.refl _⟩ ?sq ?turn ?done⟩
  case sq =>
    rintro i σ H2 hi ⟨_, _, s2⟩
    exact s2.sql hS1
  case done =>
    rintro σ H2 ⟨hi, ⟨y, v, rfl, hy⟩, s2⟩
    exact ⟨_, rfl, q _ y (sA.trans s2) (by omega)⟩
  case turn =>
    rintro i x σ H2 hx ⟨hi, ⟨y, v, rfl, hy⟩, s2⟩
    obtain ⟨c, rfl, hc⟩ := ints_at hx
    have li : i < cs.length := (List.getElem?_eq_some_iff.mp hc).1
    obtain ⟨b, hb, bl⟩ := bit_at c
    refine ⟨_, rfl, _, rfl, _, rfl, _, _, rfl, rfl, (by decide : (16 : Int) ≠ 0), p, _, _, _, rfl, rfl, s2.sql hp, hb, y, b, rfl, rfl, Nat.le_of_lt (small1000 (by omega)), by omega, ⟨_, _, rfl, ?_⟩, s2⟩
    rw [Str.length_append]
    omega
theorem ok__law_text (T : Tx K w mg) (G__law_cell_at : FnOk P w K mg base (CX1 P w) 1 T.a__law_cell_at T.fd__law_cell_at ["_law_script", "_law_k"] (sp__law_cell_at T)) (G__law_good : FnOk P w K mg base (CX1 P w) 1 T.a__law_good T.fd__law_good ["_law_cells"] (sp__law_good T)) (G__law_spoiled : FnOk P w K mg base (CX1 P w) 1 T.a__law_spoiled T.fd__law_spoiled ["_law_text_here", "_law_cell", "_law_way"] (sp__law_spoiled T)) (G__law_pieces : FnOk P w K mg base (CX1 P w) 1 T.a__law_pieces T.fd__law_pieces ["_law_cells"] (sp__law_pieces T)) : FnOk P w K mg base (CX1 P w) 2 T.a__law_text T.fd__law_text ["_law_script"] (sp__law_text T) := by
  refine Fun.okX (k := 1) T.F__law_text sc__law_text (fun vs H Q E h => h.1) (fun cdv A outer s H vs Q E hr h => ?_)
  obtain ⟨-, h⟩ := h
  obtain ⟨l, cs, rfl, hS, q⟩ := h
  refine ⟨_, (pss_cons (ps_set (i := 1) sc__law_text.nd rfl (Or.inl rfl) (pe_op op_modN (pe_callX G__law_cell_at (hr.mono (by decide)) (by rfl) T.m__law_cell_at T.F__law_cell_at.kp T.b__law_cell_at .nil pass_none (pa_cons (pv 0) (pa_cons pe_int pa_nil))) pe_int))
      (pss_cons (ps_set (i := 2) sc__law_text.nd rfl (Or.inl rfl) (pe_callX G__law_good (hr.mono (by decide)) (by rfl) T.m__law_good T.F__law_good.kp T.b__law_good .nil pass_none (pa_cons (pe_slice sl_list (pv 0) (po_some pe_int) (po_some pe_int)) pa_nil)))
      (pss_cons (ps_if (pt_cmpR op_eq (pv 1) pe_int (nomark _)) (pss_one (ps_ret (pe_callX G__law_pieces (hr.mono (by decide)) (by rfl) T.m__law_pieces T.F__law_pieces.kp T.b__law_pieces .nil pass_none (pa_cons (pe_slice sl_list (pv 0) (po_some pe_int) (po_some pe_int)) pa_nil)))) pss_nil)
      (pss_cons (ps_if (PW.pt (pw_and (pt_cmpR op_gt (pv 1) pe_int (nomark _)) (pw_and1 (pt_cmpR op_lt (pv 1) pe_int (nomark _))))) (pss_one (ps_ret (pe_callX G__law_spoiled (hr.mono (by decide)) (by rfl) T.m__law_spoiled T.F__law_spoiled.kp T.b__law_spoiled .nil pass_none (pa_cons (pv 2) (pa_cons (pe_callX G__law_cell_at (hr.mono (by decide)) (by rfl) T.m__law_cell_at T.F__law_cell_at.kp T.b__law_cell_at .nil pass_none (pa_cons (pv 0) (pa_cons pe_int pa_nil))) (pa_cons (pv 1) pa_nil)))))) pss_nil)
      (pss_one (ps_ret (pv 2))))))), ?_⟩
  refine ⟨_, rfl, rfl, l, cs, 0, rfl, hS, by decide, fun c => ?_⟩
  obtain ⟨c1, e1, l1⟩ := cut_any cs 2 32
  obtain ⟨c2, e2, l2⟩ := cut_any cs 2 14
  refine ⟨_, _, rfl, rfl, (by decide : (6 : Int) ≠ 0), _, rfl, _, rfl, _, rfl, l, _, rfl, hS, fun p np => ?_⟩
  have e1' : cutV (cs.map V.int) (some 2) (some 32) = c1.map V.int := e1
  rw [e1']
  have sA := same_upd (o := .lst (c1.map V.int)) np
  refine ⟨rfl, p, c1, rfl, .of upd_same, by omega, fun H1 s1 => ?_⟩
  have s2 := sA.trans s1
  have hst : ∀ x ∈ c1.map stepOf, Stp x := fun x hx => by
    obtain ⟨c, _, rfl⟩ := List.mem_map.mp hx
    exact stepOf_stp c
  have jl := join_len hst
  rw [List.length_map] at jl
  refine ⟨_, rfl, rfl, _, rfl, iteB (fun h5 => ?_) (fun h5 => ?_)⟩
  · refine ⟨_, rfl, _, rfl, _, rfl, l, _, rfl, s2.sql hS, fun p2 np2 => ?_⟩
    have e2' : cutV (cs.map V.int) (some 2) (some 14) = c2.map V.int := e2
    rw [e2']
    exact ⟨rfl, p2, c2, rfl, .of upd_same, by omega, fun H2 y s3 hy => q _ y (s2.trans ((same_upd np2).trans s3)) hy⟩
  refine ⟨_, rfl, _, _, rfl, rfl, _, rfl, iteB (fun g1 => ⟨_, rfl, _, _, rfl, rfl, _, rfl, iteB (fun g2 => ?_) (fun g2 => ?_)⟩) (fun g1 => iteF ⟨_, rfl, q _ _ s2 (by omega)⟩)⟩
  · exact ⟨_, rfl, _, rfl, rfl, l, cs, 1, rfl, s2.sql hS, by decide, fun d => ⟨_, rfl, rfl, _, d, _, rfl, by omega, fun H2 y s3 hy => q _ y (s2.trans s3) hy⟩⟩
  · exact ⟨_, rfl, q _ _ s2 (by omega)⟩
theorem ok__law_told (T : Tx K w mg) (G_read_way : FnOk P w K mg base (CX1 P w) 2 T.a_read_way T.fd_read_way ["text"] (sp_read_way T)) : FnOk P w K mg base (CX1 P w) 3 T.a__law_told T.fd__law_told ["_law_thing"] (sp__law_told T) := by
  refine Fun.okX (k := 2) T.F__law_told sc__law_told (fun vs H Q E h => h.1) (fun cdv A outer s H vs Q E hr h => ?_)
  obtain ⟨-, h⟩ := h
  obtain ⟨x, o, rfl, h, q0⟩ := h
  refine ⟨_, (pss_cons (ps_set (i := 1) sc__law_told.nd rfl (Or.inl rfl) pe_non)
      (pss_cons (ps_set (i := 2) sc__law_told.nd rfl (Or.inl rfl) pe_bl)
      (pss_cons (ps_tryAs rfl rfl (by rfl) T.m_NoWay T.x_NoWay EBb (i := 3) sc__law_told.nd rfl rfl (fun pins W E hE => (pss_one (ps_set (i := 1) sc__law_told.nd rfl (Or.inl rfl) (pe_callX G_read_way (hr.mono (by decide)) (by rfl) T.m_read_way T.F_read_way.kp T.b_read_way .nil hE (pa_cons (pv 0) pa_nil))))) (fun pins e => (pss_cons (ps_set (i := 2) sc__law_told.nd rfl (Or.inl rfl) (pe_and (pe_isi K (by rfl) T.n_isinstance (pa_cons (pv 3) (pa_cons (pe_glob (v := .ref T.c_HeirError) (by rfl) T.m_HeirError rfl) pa_nil))) (pe_one (pe_isi K (by rfl) T.n_isinstance (pa_cons (pv 3) (pa_cons (pe_bltn (v := .ty "ValueError") (by rfl) T.n_ValueError bt_ValueError rfl) pa_nil))))))
      (pss_cons (ps_if (pt_val (pe_isiX K (by rfl) T.n_isinstance (pa_cons (pv 3) (pa_cons (pe_tup (pa_cons (pe_glob (v := .ref T.c_Alive) (by rfl) T.m_Alive rfl) (pa_cons (pe_glob (v := .ref T.c_Barred) (by rfl) T.m_Barred rfl) (pa_cons (pe_glob (v := .ref T.c_Full) (by rfl) T.m_Full rfl) (pa_cons (pe_glob (v := .ref T.c_Marked) (by rfl) T.m_Marked rfl) (pa_cons (pe_glob (v := .ref T.c_NoCode) (by rfl) T.m_NoCode rfl) (pa_cons (pe_glob (v := .ref T.c_NoEntry) (by rfl) T.m_NoEntry rfl) (pa_cons (pe_glob (v := .ref T.c_NoFit) (by rfl) T.m_NoFit rfl) (pa_cons (pe_glob (v := .ref T.c_NoNumber) (by rfl) T.m_NoNumber rfl) (pa_cons (pe_glob (v := .ref T.c_NoPerson) (by rfl) T.m_NoPerson rfl) pa_nil)))))))))) pa_nil)))) (pss_one (ps_set (i := 2) sc__law_told.nd rfl (Or.inl rfl) pe_bl)) pss_nil)
      (pss_one (ps_if (pt_val (pe_isiX K (by rfl) T.n_isinstance (pa_cons (pv 3) (pa_cons (pe_tup (pa_cons (pe_glob (v := .ref T.c_NoRow) (by rfl) T.m_NoRow rfl) (pa_cons (pe_glob (v := .ref T.c_NoTongue) (by rfl) T.m_NoTongue rfl) (pa_cons (pe_glob (v := .ref T.c_NoWord) (by rfl) T.m_NoWord rfl) (pa_cons (pe_glob (v := .ref T.c_TooMany) (by rfl) T.m_TooMany rfl) (pa_cons (pe_glob (v := .ref T.c_Twice) (by rfl) T.m_Twice rfl) (pa_cons (pe_glob (v := .ref T.c_Unsure) (by rfl) T.m_Unsure rfl) pa_nil))))))) pa_nil)))) (pss_one (ps_set (i := 2) sc__law_told.nd rfl (Or.inl rfl) pe_bl)) pss_nil))))))
      (pss_one (ps_ret (pe_lst (pa_cons (pv 1) (pa_cons (pv 2) pa_nil)))))))), ?_⟩
  dsimp only [gName, tSeq, tAsg, tC]
  rcases h with ⟨ty, hk, ks, ho⟩ | ⟨z, rfl, hz, ho⟩
  · have qn : ∀ H' D, Same H H' → SqL K H' D [.non, .bl true] → Q (.ref D) H' := fun H' D s hD => q0 _ D _ _ s (.inr ⟨ho, rfl, rfl⟩) hD
    refine try_asF (σ' := [some x, some .non, some (.bl false), none]) (H := H) (fun H1 e s1 he => ?_) (fun E' caught => ?_)
    · refine ⟨_, rfl, _, .ref T.c_HeirError, _, _, rfl, rfl, .exc T.e_NoWay upd_same, T.kx_HeirError, _, rfl, iteT ⟨_, rfl, _, .ty "ValueError", _, _, rfl, rfl, .exc T.e_NoWay upd_same, T.kx_ValueError, ?_⟩⟩
      refine ⟨_, rfl, few rfl, fun p np => ⟨e, T.c_NoWay, p, _, false, rfl, (same_upd np) e _ upd_same, T.e_NoWay, .of upd_same, rfl, (kitAny_cons T.kx_Alive (kitAny_cons T.kx_Barred (kitAny_cons T.kx_Full (kitAny_cons T.kx_Marked (kitAny_cons T.kx_NoCode (kitAny_cons T.kx_NoEntry (kitAny_cons T.kx_NoFit (kitAny_cons T.kx_NoNumber (kitAny_cons T.kx_NoPerson kitAny_nil))))))))), _, rfl, iteF ?_⟩⟩
      have g1 := (same_upd (o := .tup [.ref T.c_Alive, .ref T.c_Barred, .ref T.c_Full, .ref T.c_Marked, .ref T.c_NoCode, .ref T.c_NoEntry, .ref T.c_NoFit, .ref T.c_NoNumber, .ref T.c_NoPerson]) np)
      refine ⟨_, rfl, few rfl, fun p2 np2 => ⟨e, T.c_NoWay, p2, _, false, rfl, (same_upd np2) e _ (g1 e _ upd_same), T.e_NoWay, .of upd_same, rfl, (kitAny_cons T.kx_NoRow (kitAny_cons T.kx_NoTongue (kitAny_cons T.kx_NoWord (kitAny_cons T.kx_TooMany (kitAny_cons T.kx_Twice (kitAny_cons T.kx_Unsure kitAny_nil)))))), _, rfl, iteF ?_⟩⟩
      refine ⟨_, rfl, _, rfl, few rfl, fun D nD => qn _ D ?_ (.of upd_same)⟩
      exact s1.trans ((same_upd he).trans (g1.trans ((same_upd np2).trans (same_upd nD))))
    · exact ⟨_, rfl, rfl, x, rfl, .inl ⟨ty, hk, ks, caught⟩⟩
  cases hw : readW z with
  | none =>
    have qn : ∀ H' D, Same H H' → SqL K H' D [.non, .bl true] → Q (.ref D) H' := fun H' D s hD => q0 _ D _ _ s (.inr ⟨ho.trans hw, rfl, rfl⟩) hD
    refine try_asF (σ' := [some (.str z), some .non, some (.bl false), none]) (H := H) (fun H1 e s1 he => ?_) (fun E' caught => ?_)
    · refine ⟨_, rfl, _, .ref T.c_HeirError, _, _, rfl, rfl, .exc T.e_NoWay upd_same, T.kx_HeirError, _, rfl, iteT ⟨_, rfl, _, .ty "ValueError", _, _, rfl, rfl, .exc T.e_NoWay upd_same, T.kx_ValueError, ?_⟩⟩
      refine ⟨_, rfl, few rfl, fun p np => ⟨e, T.c_NoWay, p, _, false, rfl, (same_upd np) e _ upd_same, T.e_NoWay, .of upd_same, rfl, (kitAny_cons T.kx_Alive (kitAny_cons T.kx_Barred (kitAny_cons T.kx_Full (kitAny_cons T.kx_Marked (kitAny_cons T.kx_NoCode (kitAny_cons T.kx_NoEntry (kitAny_cons T.kx_NoFit (kitAny_cons T.kx_NoNumber (kitAny_cons T.kx_NoPerson kitAny_nil))))))))), _, rfl, iteF ?_⟩⟩
      have g1 := (same_upd (o := .tup [.ref T.c_Alive, .ref T.c_Barred, .ref T.c_Full, .ref T.c_Marked, .ref T.c_NoCode, .ref T.c_NoEntry, .ref T.c_NoFit, .ref T.c_NoNumber, .ref T.c_NoPerson]) np)
      refine ⟨_, rfl, few rfl, fun p2 np2 => ⟨e, T.c_NoWay, p2, _, false, rfl, (same_upd np2) e _ (g1 e _ upd_same), T.e_NoWay, .of upd_same, rfl, (kitAny_cons T.kx_NoRow (kitAny_cons T.kx_NoTongue (kitAny_cons T.kx_NoWord (kitAny_cons T.kx_TooMany (kitAny_cons T.kx_Twice (kitAny_cons T.kx_Unsure kitAny_nil)))))), _, rfl, iteF ?_⟩⟩
      refine ⟨_, rfl, _, rfl, few rfl, fun D nD => qn _ D ?_ (.of upd_same)⟩
      exact s1.trans ((same_upd he).trans (g1.trans ((same_upd np2).trans (same_upd nD))))
    · exact ⟨_, rfl, rfl, _, rfl, .inr ⟨z, rfl, hz, fun ws e => absurd (hw.symm.trans e) (by simp), fun _ => caught⟩⟩
  | some ws =>
    refine ⟨_, rfl, rfl, _, rfl, .inr ⟨z, rfl, hz, fun ws' e H1 b s1 hb => ?_, fun no => absurd (hw.symm.trans no) (by simp)⟩⟩
    cases hw.symm.trans e
    exact ⟨_, rfl, _, rfl, few rfl, fun D nD => q0 _ D _ _ (s1.trans (same_upd nD)) (.inl ⟨ws, b, ho.trans hw, rfl, (same_upd nD).sqt hb, rfl⟩) (.of upd_same)⟩
theorem ok_law (T : Tx K w mg) (G__law_cell_at : FnOk P w K mg base (CX1 P w) 1 T.a__law_cell_at T.fd__law_cell_at ["_law_script", "_law_k"] (sp__law_cell_at T)) (G__law_read : FnOk P w K mg base (CX1 P w) 1 T.a__law_read T.fd__law_read ["_law_text_here"] (sp__law_read T)) (G__law_good : FnOk P w K mg base (CX1 P w) 1 T.a__law_good T.fd__law_good ["_law_cells"] (sp__law_good T)) (G__law_text : FnOk P w K mg base (CX1 P w) 2 T.a__law_text T.fd__law_text ["_law_script"] (sp__law_text T)) (G__law_told : FnOk P w K mg base (CX1 P w) 3 T.a__law_told T.fd__law_told ["_law_thing"] (sp__law_told T)) : FnOk P w K mg base (CX1 P w) 4 T.a_law T.fd_law ["_law_script"] (sp_law T) := by
  refine Fun.okX (k := 3) T.F_law sc_law (fun vs H Q E h => h.1) (fun cdv A outer s H vs Q E hr h => ?_)
  obtain ⟨-, h⟩ := h
  obtain ⟨l, ns, rfl, hS, hlen, q⟩ := h
  refine ⟨_, (pss_cons (ps_set (i := 1) sc_law.nd rfl (Or.inl rfl) (pe_callX G__law_text (hr.mono (by decide)) (by rfl) T.m__law_text T.F__law_text.kp T.b__law_text .nil pass_none (pa_cons (pv 0) pa_nil)))
      (pss_cons (ps_set (i := 2) sc_law.nd rfl (Or.inl rfl) (pe_callX G__law_read (hr.mono (by decide)) (by rfl) T.m__law_read T.F__law_read.kp T.b__law_read .nil pass_none (pa_cons (pv 1) pa_nil)))
      (pss_cons (ps_if (pt_cmpR op_eq (pe_op op_modN (pe_op op_fdivB (pe_callX G__law_cell_at (hr.mono (by decide)) (by rfl) T.m__law_cell_at T.F__law_cell_at.kp T.b__law_cell_at .nil pass_none (pa_cons (pv 0) (pa_cons pe_int pa_nil))) pe_int) pe_int) pe_int (nomark _)) (pss_cons (ps_set (i := 1) sc_law.nd rfl (Or.inl rfl) (pe_ix ix_list (pe_lst (pa_cons pe_non (pa_cons pe_bl (pa_cons pe_int (pa_cons (pe_tup (pa_cons pe_str pa_nil)) (pa_cons (pe_lst (pa_cons pe_str (pa_cons pe_str pa_nil))) (pa_cons pe_dnewK (pa_cons (pe_tup pa_nil) (pa_cons (pe_lst pa_nil) pa_nil))))))))) (pe_op op_modN (pe_callX G__law_cell_at (hr.mono (by decide)) (by rfl) T.m__law_cell_at T.F__law_cell_at.kp T.b__law_cell_at .nil pass_none (pa_cons (pv 0) (pa_cons pe_int pa_nil))) pe_int) (fun _ _ => rfl)))
      (pss_one (ps_set (i := 2) sc_law.nd rfl (Or.inl rfl) pe_non))) pss_nil)
      (pss_cons (ps_set (i := 3) sc_law.nd rfl (Or.inl rfl) (pe_callX G__law_told (hr.mono (by decide)) (by rfl) T.m__law_told T.F__law_told.kp T.b__law_told .nil pass_none (pa_cons (pv 1) pa_nil)))
      (pss_cons (ps_if (pt_cmpR op_isN (pv 2) pe_non (nomark _)) (pss_one (ps_if (pt_not (pt_val (pe_ix ix_list (pv 3) pe_int (fun _ _ => rfl)))) (pss_one (ps_ret pe_bl)) pss_nil)) (pss_one (ps_if (PW.pt (pw_or (pt_not (pt_val (pe_isi K (by rfl) T.n_isinstance (pa_cons (pe_ix ix_list (pv 3) pe_int (fun _ _ => rfl)) (pa_cons (pe_bltn (v := .ty "tuple") (by rfl) T.n_tuple bt_tuple rfl) pa_nil))))) (pw_or1 (pt_cmpR (op_neL hr.units) (pe_callTy call_list_of (by rfl) T.n_list bt_list (pa_cons (pe_ix ix_list (pv 3) pe_int (fun _ _ => rfl)) pa_nil)) (pv 2) (nomark _))))) (pss_one (ps_ret pe_bl)) pss_nil)))
      (pss_cons (ps_set (i := 4) sc_law.nd rfl (Or.inl rfl) (pe_callX G__law_good (hr.mono (by decide)) (by rfl) T.m__law_good T.F__law_good.kp T.b__law_good .nil pass_none (pa_cons (pe_slice sl_list (pv 0) (po_some pe_int) (po_some pe_int)) pa_nil)))
      (pss_cons (ps_set (i := 3) sc_law.nd rfl (Or.inl rfl) (pe_callX G__law_told (hr.mono (by decide)) (by rfl) T.m__law_told T.F__law_told.kp T.b__law_told .nil pass_none (pa_cons (pv 4) pa_nil)))
      (pss_one (ps_ret (pe_and (pe_isi K (by rfl) T.n_isinstance (pa_cons (pe_ix ix_list (pv 3) pe_int (fun _ _ => rfl)) (pa_cons (pe_bltn (v := .ty "tuple") (by rfl) T.n_tuple bt_tuple rfl) pa_nil))) (pe_and (pe_cmpR (op_eqS hr.units) (pe_callTy call_list_of (by rfl) T.n_list bt_list (pa_cons (pe_ix ix_list (pv 3) pe_int (fun _ _ => rfl)) pa_nil)) (pe_callX G__law_read (hr.mono (by decide)) (by rfl) T.m__law_read T.F__law_read.kp T.b__law_read .nil pass_none (pa_cons (pv 4) pa_nil)) (nomark _)) (pe_one (pe_cmpR (op_eqS hr.units) (pe_ix ix_list (pe_callX G__law_told (hr.mono (by decide)) (by rfl) T.m__law_told T.F__law_told.kp T.b__law_told .nil pass_none (pa_cons pe_str pa_nil)) pe_int (fun _ _ => rfl)) (pe_tup pa_nil) (nomark _)))))))))))))), ?_⟩
  refine ⟨_, rfl, rfl, l, ns, rfl, hS, fun H1 z s1 hz => ?_⟩
  refine ⟨_, rfl, rfl, z, rfl, hz, fun H2 v s2 hv => ?_⟩
  dsimp only [gName]
  refine seq_by (fun σ H3 => ∃ x v o, σ = [some (.ref l), some x, some v, none, none] ∧ Thing K H3 x o ∧ DueO K H3 o v ∧ Same H H3) (fun nx rest => ?_) (fun σ H3 hJ => ?_)
  · have s12 := s1.trans s2
    refine ⟨_, rfl, rfl, l, ns, 0, rfl, s12.sql hS, by decide, fun c => ⟨_, _, rfl, rfl, ⟨(by decide : (6 : Int) ≠ 0), ?big⟩, _, _, rfl, rfl, (by decide : (9 : Int) ≠ 0), rfl, _, rfl, iteB (fun h1 => ?_) (fun h1 => ?_)⟩⟩
    case big => show (6 : Nat) < 2 ^ 1000; exact Nat.lt_of_lt_of_le (by decide : 6 < 2 ^ 5) (Nat.pow_le_pow_right (by decide) (by decide))
    · refine ⟨few rfl, fun a1 n1 => ⟨few rfl, fun a2 n2 => fun a3 n3 => ⟨few rfl, fun a4 n4 => ⟨few rfl, fun a5 n5 => ⟨few rfl, fun a6 n6 => ?_⟩⟩⟩⟩⟩
      have e1 := same_upd (o := .tup [.str "F"]) n1
      have e2 := same_upd (o := .lst [.str "F", .str "M"]) n2
      have e3 := same_upd (o := .dK []) n3
      have e4 := same_upd (o := .tup []) n4
      have e5 := same_upd (o := .lst []) n5
      have e6 := same_upd (o := .lst [.non, .bl true, .int 7, .ref a1, .ref a2, .ref a3, .ref a4, .ref a5]) n6
      have sZ := s12.trans (e1.trans (e2.trans (e3.trans (e4.trans (e5.trans e6)))))
      have g1 := (e2.trans (e3.trans (e4.trans (e5.trans e6)))) a1 _ upd_same
      have g2 := (e3.trans (e4.trans (e5.trans e6))) a2 _ upd_same
      have g3 := (e4.trans (e5.trans e6)) a3 _ upd_same
      have g4 := (e5.trans e6) a4 _ upd_same
      have g5 := e6 a5 _ upd_same
      refine ⟨_, rfl, rfl, l, ns, 1, rfl, sZ.sql hS, by decide, fun d => ?_⟩
      have m0 := mod_lo d (show (0 : Int) < 8 by decide)
      have m1 := mod_hi d (show (0 : Int) < 8 by decide)
      obtain ⟨x, hat, hx⟩ : ∃ x, atI [.non, .bl true, .int 7, .ref a1, .ref a2, .ref a3, .ref a4, .ref a5] (d.fmod 8) = some x ∧ Thing K _ x none := by
        have h8 : d.fmod 8 = 0 ∨ d.fmod 8 = 1 ∨ d.fmod 8 = 2 ∨ d.fmod 8 = 3 ∨ d.fmod 8 = 4 ∨ d.fmod 8 = 5 ∨ d.fmod 8 = 6 ∨ d.fmod 8 = 7 := by omega
        rcases h8 with h | h | h | h | h | h | h | h <;> rw [h]
        · exact ⟨_, atI_nat (j := 0) rfl, .inl ⟨_, .of .non, T.k_NoneType_str, rfl⟩⟩
        · exact ⟨_, atI_nat (j := 1) rfl, .inl ⟨_, .of (.bl _), T.k_bool_str, rfl⟩⟩
        · exact ⟨_, atI_nat (j := 2) rfl, .inl ⟨_, .of (.int _), T.k_int_str, rfl⟩⟩
        · exact ⟨_, atI_nat (j := 3) rfl, .inl ⟨_, .of (.tup g1), T.k_tuple_str, rfl⟩⟩
        · exact ⟨_, atI_nat (j := 4) rfl, .inl ⟨_, .of (.lst g2), T.k_list_str, rfl⟩⟩
        · exact ⟨_, atI_nat (j := 5) rfl, .inl ⟨_, .of (.dK g3), T.k_dict_str, rfl⟩⟩
        · exact ⟨_, atI_nat (j := 6) rfl, .inl ⟨_, .of (.tup g4), T.k_tuple_str, rfl⟩⟩
        · exact ⟨_, atI_nat (j := 7) rfl, .inl ⟨_, .of (.lst g5), T.k_list_str, rfl⟩⟩
      exact ⟨_, _, rfl, rfl, (by decide : (8 : Int) ≠ 0), a6, _, _, _, rfl, rfl, .of upd_same, hat, rest _ _ ⟨x, .non, none, rfl, hx, .inr ⟨rfl, rfl⟩, sZ⟩⟩
    · exact rest _ _ ⟨.str z, v, readW z, rfl, .inr ⟨z, rfl, hz, rfl⟩, hv, s12⟩
  obtain ⟨x, v, o, rfl, hx, hv, s3⟩ := hJ
  refine ⟨_, rfl, rfl, x, o, rfl, hx, fun H4 D v4 b4 s4 ht hD => ?_⟩
  replace hv := hv.mono s4
  have s5 := s3.trans s4
  dsimp only [gName]
  refine seq_by (fun σ H5 => σ = [some (.ref l), some x, some v, some (.ref D), none] ∧ Same H4 H5) (fun nx rest => ?_) (fun σ H5 hJ => ?_)
  · rcases hv with ⟨ws, Dd, ho, rfl, hDd⟩ | ⟨ho, rfl⟩
    · rcases ht with ⟨ws2, a2, ho2, rfl, hT, rfl⟩ | ⟨ho2, _⟩
      · rw [ho] at ho2
        cases ho2
        refine ⟨_, rfl, rfl, _, rfl, iteFb (by simp) ?_⟩
        refine ⟨_, rfl, D, _, _, _, rfl, rfl, hD, at0v, _, .ty "tuple", _, _, rfl, rfl, .sqt hT, T.k_tuple_tuple, _, rfl, iteF ?_⟩
        refine ⟨_, rfl, D, _, _, _, rfl, rfl, hD, at0v, a2, _, rfl, .inr hT, fun L nL => ?_⟩
        refine ⟨_, rfl, ws.map L2.D.str, ws.map L2.D.str, ⟨L, _, rfl, .of upd_same, strs_is ws⟩, ⟨Dd, _, rfl, (same_upd nL).sql hDd, strs_is ws⟩, Nat.le_trans (strs_dep ws) (by decide), _, rfl, ?_⟩
        rw [deqL_refl]
        exact iteF (rest _ _ ⟨rfl, same_upd nL⟩)
      · rw [ho] at ho2
        cases ho2
    · rcases ht with ⟨ws2, a2, ho2, _⟩ | ⟨_, rfl, rfl⟩
      · rw [ho] at ho2
        cases ho2
      refine ⟨_, rfl, rfl, _, rfl, iteTb (by simp) ?_⟩
      exact ⟨_, rfl, D, _, _, _, rfl, rfl, hD, at1v, _, rfl, iteF (rest _ _ ⟨rfl, Same.refl _⟩)⟩
  obtain ⟨rfl, s6⟩ := hJ
  have s7 := s5.trans s6
  obtain ⟨c1, e1, l1⟩ := cut_any ns 2 26
  have e1' : cutV (ns.map V.int) (some 2) (some 26) = c1.map V.int := e1
  refine ⟨_, rfl, _, rfl, _, rfl, l, _, rfl, s7.sql hS, fun p np => ?_⟩
  rw [e1']
  refine ⟨rfl, p, c1, rfl, .of upd_same, by omega, fun H6 s8 => ?_⟩
  have s9 := (same_upd (o := .lst (c1.map V.int)) np).trans s8
  have hst : ∀ x ∈ c1.map stepOf, Stp x := fun x hx => by
    obtain ⟨c, _, rfl⟩ := List.mem_map.mp hx
    exact stepOf_stp c
  have jl := join_len hst
  have wl : (c1.map stepOf).length ≤ 24 := by rw [List.length_map]; omega
  have rw' := readW_join hst wl
  generalize c1.map stepOf = ws at *
  refine ⟨_, rfl, rfl, .str (blank.join ws), _, rfl, .inr ⟨_, rfl, by omega, rfl⟩, fun H7 D2 v b sA ht2 hD2 => ?_⟩
  rw [rw'] at ht2
  obtain ⟨a2, rfl, hT, rfl⟩ := ht2.yes
  refine ⟨_, rfl, D2, _, _, _, rfl, rfl, hD2, at0v, _, .ty "tuple", _, _, rfl, rfl, .sqt hT, T.k_tuple_tuple, _, rfl, iteT ?_⟩
  refine ⟨_, rfl, D2, _, _, _, rfl, rfl, hD2, at0v, a2, _, rfl, .inr hT, fun L nL => ?_⟩
  refine ⟨_, rfl, rfl, blank.join ws, rfl, by omega, fun H8 v8 sB hv8 => ?_⟩
  rw [rw'] at hv8
  obtain ⟨D3, rfl, hD3⟩ := hv8.yes
  refine ⟨.lst (ws.map L2.D.str), .lst (ws.map L2.D.str), ⟨L, _, rfl, sB.sql (.of upd_same), strs_is ws⟩, ⟨D3, _, rfl, hD3, strs_is ws⟩, .inr ⟨_, _, rfl, rfl⟩, lst_dep ws, _, rfl, ?_⟩
  rw [deq_refl]
  refine iteT ⟨rfl, .str "", _, rfl, .inr ⟨"", rfl, by decide, rfl⟩, fun H9 D4 v9 b9 sC ht9 hD4 => ?_⟩
  obtain ⟨a9, rfl, hT9, rfl⟩ := ToldO.yes (ws := []) ht9
  refine ⟨D4, _, _, _, rfl, rfl, hD4, at0v, few rfl, fun t nt => ?_⟩
  refine ⟨.tup [], .tup [], ⟨a9, _, rfl, (same_upd nt).sqt hT9, rfl⟩, ⟨t, _, rfl, .of upd_same, rfl⟩, .inl ⟨_, _, rfl, rfl⟩, by decide, ?_⟩
  exact q _
end
theorem all_ok {P : Program} {w : World} {K : PySem.W.Frag} {mg : Str → Option Value} {base : Heap} (T : Tx K w mg) : FnOk P w K mg base (CX1 P w) 4 T.a_law T.fd_law ["_law_script"] (sp_law T) := by
  have G_is_letter := ok_is_letter (P := P) (w := w) (base := base) T 
  have G_is_test := ok_is_test (P := P) (w := w) (base := base) T 
  have G_read_way := ok_read_way (P := P) (w := w) (base := base) T G_is_letter G_is_test
  have G__law_cell_at := ok__law_cell_at (P := P) (w := w) (base := base) T 
  have G__law_read := ok__law_read (P := P) (w := w) (base := base) T 
  have G__law_good := ok__law_good (P := P) (w := w) (base := base) T 
  have G__law_spoiled := ok__law_spoiled (P := P) (w := w) (base := base) T 
  have G__law_pieces := ok__law_pieces (P := P) (w := w) (base := base) T 
  have G__law_text := ok__law_text (P := P) (w := w) (base := base) T G__law_cell_at G__law_good G__law_spoiled G__law_pieces
  have G__law_told := ok__law_told (P := P) (w := w) (base := base) T G_read_way
  have G_law := ok_law (P := P) (w := w) (base := base) T G__law_cell_at G__law_read G__law_good G__law_text G__law_told
  exact G_law
theorem law_in {K : PySem.W.Frag} {w : World} {mg : Str → Option Value} (T : Tx K w mg) {vs : List V} {H : Hp} {Q : VK} {E : XK} (h : spLaw K vs H Q E) : sp_law T vs H Q E := by
  obtain ⟨a, ns, rfl, r⟩ := h
  exact ⟨rfl, a, ns, rfl, r⟩
theorem all_mk {l : PySem.W.OpenLaw} {w : World} {K : PySem.W.Frag} {h : Heap} {mg : Str → Option Value} {fa : Addr} (X : K.In h) (G : h.Ns mainGlobals mg) (hfa : mg "law" = some (.ref fa))
    {f0 : Addr} {od0 an0 : Option Addr} {sl0 : Array (Option Value)} {oc0 kV0 dc0 pm0 cd0 ct0 : Value}
    {f1 : Addr} {od1 an1 : Option Addr} {sl1 : Array (Option Value)} {oc1 kV1 dc1 pm1 cd1 ct1 : Value}
    {f2 : Addr} {od2 an2 : Option Addr} {sl2 : Array (Option Value)} {oc2 kV2 dc2 pm2 cd2 ct2 : Value}
    {f3 : Addr} {od3 an3 : Option Addr} {sl3 : Array (Option Value)} {oc3 kV3 dc3 pm3 cd3 ct3 : Value}
    {f4 : Addr} {od4 an4 : Option Addr} {sl4 : Array (Option Value)} {oc4 kV4 dc4 pm4 cd4 ct4 : Value}
    {f5 : Addr} {od5 an5 : Option Addr} {sl5 : Array (Option Value)} {oc5 kV5 dc5 pm5 cd5 ct5 : Value}
    {f6 : Addr} {od6 an6 : Option Addr} {sl6 : Array (Option Value)} {oc6 kV6 dc6 pm6 cd6 ct6 : Value}
    {f7 : Addr} {od7 an7 : Option Addr} {sl7 : Array (Option Value)} {oc7 kV7 dc7 pm7 cd7 ct7 : Value}
    {f8 : Addr} {od8 an8 : Option Addr} {sl8 : Array (Option Value)} {oc8 kV8 dc8 pm8 cd8 ct8 : Value}
    {f9 : Addr} {od9 an9 : Option Addr} {sl9 : Array (Option Value)} {oc9 kV9 dc9 pm9 cd9 ct9 : Value}
    {f10 : Addr} {od10 an10 : Option Addr} {sl10 : Array (Option Value)} {oc10 kV10 dc10 pm10 cd10 ct10 : Value}
    {C0 : Addr}
    {C1 : Addr}
    {C2 : Addr}
    {C3 : Addr}
    {C4 : Addr}
    {C5 : Addr}
    {C6 : Addr}
    {C7 : Addr}
    {C8 : Addr}
    {C9 : Addr}
    {C10 : Addr}
    {C11 : Addr}
    {C12 : Addr}
    {C13 : Addr}
    {C14 : Addr}
    {C15 : Addr}
    {C16 : Addr}
    {KT0 : Addr} {odT0 : Option Addr} {nT0 : Nat} {slT0 : Array (Option Value)} {tt0_0 : Tok} {tt0_1 : Tok} {tt0_2 : Tok} {tt0_3 : Tok} {tt0_4 : Tok} {tt0_5 : Tok} {tt0_6 : Tok}
    {KT1 : Addr} {odT1 : Option Addr} {nT1 : Nat} {slT1 : Array (Option Value)} {tt1_0 : Tok} {tt1_1 : Tok}
    {ti0 : Tok}
    (a0 : PySem.W.nsIn K mainGlobals "is_letter" = some (some (.ref f0)))
    (l0 : K.lookup f0 = some ⟨oc0, od0, .func (PySem.W.fnOf "is_letter" "is_letter" (defArgs s_is_letter) (defBody s_is_letter) (defScope s_is_letter) .none kV0 dc0 pm0 an0 cd0 ct0), sl0⟩)
    (cc0 : PySem.W.codeIn K cd0 "is_letter" = true) (k0 : PySem.W.keepIn K (.ref f0) = true)
    (a1 : PySem.W.nsIn K mainGlobals "is_test" = some (some (.ref f1)))
    (l1 : K.lookup f1 = some ⟨oc1, od1, .func (PySem.W.fnOf "is_test" "is_test" (defArgs s_is_test) (defBody s_is_test) (defScope s_is_test) .none kV1 dc1 pm1 an1 cd1 ct1), sl1⟩)
    (cc1 : PySem.W.codeIn K cd1 "is_test" = true) (k1 : PySem.W.keepIn K (.ref f1) = true)
    (a2 : PySem.W.nsIn K mainGlobals "read_way" = some (some (.ref f2)))
    (l2 : K.lookup f2 = some ⟨oc2, od2, .func (PySem.W.fnOf "read_way" "read_way" (defArgs s_read_way) (defBody s_read_way) (defScope s_read_way) .none kV2 dc2 pm2 an2 cd2 ct2), sl2⟩)
    (cc2 : PySem.W.codeIn K cd2 "read_way" = true) (k2 : PySem.W.keepIn K (.ref f2) = true)
    (a3 : PySem.W.nsIn K mainGlobals "_law_cell_at" = some (some (.ref f3)))
    (l3 : K.lookup f3 = some ⟨oc3, od3, .func (PySem.W.fnOf "_law_cell_at" "_law_cell_at" (defArgs s__law_cell_at) (defBody s__law_cell_at) (defScope s__law_cell_at) .none kV3 dc3 pm3 an3 cd3 ct3), sl3⟩)
    (cc3 : PySem.W.codeIn K cd3 "_law_cell_at" = true) (k3 : PySem.W.keepIn K (.ref f3) = true)
    (a4 : PySem.W.nsIn K mainGlobals "_law_read" = some (some (.ref f4)))
    (l4 : K.lookup f4 = some ⟨oc4, od4, .func (PySem.W.fnOf "_law_read" "_law_read" (defArgs s__law_read) (defBody s__law_read) (defScope s__law_read) .none kV4 dc4 pm4 an4 cd4 ct4), sl4⟩)
    (cc4 : PySem.W.codeIn K cd4 "_law_read" = true) (k4 : PySem.W.keepIn K (.ref f4) = true)
    (a5 : PySem.W.nsIn K mainGlobals "_law_good" = some (some (.ref f5)))
    (l5 : K.lookup f5 = some ⟨oc5, od5, .func (PySem.W.fnOf "_law_good" "_law_good" (defArgs s__law_good) (defBody s__law_good) (defScope s__law_good) .none kV5 dc5 pm5 an5 cd5 ct5), sl5⟩)
    (cc5 : PySem.W.codeIn K cd5 "_law_good" = true) (k5 : PySem.W.keepIn K (.ref f5) = true)
    (a6 : PySem.W.nsIn K mainGlobals "_law_spoiled" = some (some (.ref f6)))
    (l6 : K.lookup f6 = some ⟨oc6, od6, .func (PySem.W.fnOf "_law_spoiled" "_law_spoiled" (defArgs s__law_spoiled) (defBody s__law_spoiled) (defScope s__law_spoiled) .none kV6 dc6 pm6 an6 cd6 ct6), sl6⟩)
    (cc6 : PySem.W.codeIn K cd6 "_law_spoiled" = true) (k6 : PySem.W.keepIn K (.ref f6) = true)
    (a7 : PySem.W.nsIn K mainGlobals "_law_pieces" = some (some (.ref f7)))
    (l7 : K.lookup f7 = some ⟨oc7, od7, .func (PySem.W.fnOf "_law_pieces" "_law_pieces" (defArgs s__law_pieces) (defBody s__law_pieces) (defScope s__law_pieces) .none kV7 dc7 pm7 an7 cd7 ct7), sl7⟩)
    (cc7 : PySem.W.codeIn K cd7 "_law_pieces" = true) (k7 : PySem.W.keepIn K (.ref f7) = true)
    (a8 : PySem.W.nsIn K mainGlobals "_law_text" = some (some (.ref f8)))
    (l8 : K.lookup f8 = some ⟨oc8, od8, .func (PySem.W.fnOf "_law_text" "_law_text" (defArgs s__law_text) (defBody s__law_text) (defScope s__law_text) .none kV8 dc8 pm8 an8 cd8 ct8), sl8⟩)
    (cc8 : PySem.W.codeIn K cd8 "_law_text" = true) (k8 : PySem.W.keepIn K (.ref f8) = true)
    (a9 : PySem.W.nsIn K mainGlobals "_law_told" = some (some (.ref f9)))
    (l9 : K.lookup f9 = some ⟨oc9, od9, .func (PySem.W.fnOf "_law_told" "_law_told" (defArgs s__law_told) (defBody s__law_told) (defScope s__law_told) .none kV9 dc9 pm9 an9 cd9 ct9), sl9⟩)
    (cc9 : PySem.W.codeIn K cd9 "_law_told" = true) (k9 : PySem.W.keepIn K (.ref f9) = true)
    (a10 : PySem.W.nsIn K mainGlobals "law" = some (some (.ref f10)))
    (l10 : K.lookup f10 = some ⟨oc10, od10, .func (PySem.W.fnOf "law" "law" (defArgs s_law) (defBody s_law) (defScope s_law) .none kV10 dc10 pm10 an10 cd10 ct10), sl10⟩)
    (cc10 : PySem.W.codeIn K cd10 "law" = true) (k10 : PySem.W.keepIn K (.ref f10) = true)
    (ac0 : PySem.W.nsIn K mainGlobals "HeirError" = some (some (.ref C0)))
    (ac1 : PySem.W.nsIn K mainGlobals "NoNumber" = some (some (.ref C1)))
    (ac2 : PySem.W.nsIn K mainGlobals "NoEntry" = some (some (.ref C2)))
    (ac3 : PySem.W.nsIn K mainGlobals "Full" = some (some (.ref C3)))
    (ac4 : PySem.W.nsIn K mainGlobals "NoPerson" = some (some (.ref C4)))
    (ac5 : PySem.W.nsIn K mainGlobals "Twice" = some (some (.ref C5)))
    (ac6 : PySem.W.nsIn K mainGlobals "NoFit" = some (some (.ref C6)))
    (ac7 : PySem.W.nsIn K mainGlobals "NoWay" = some (some (.ref C7)))
    (xc7 : PySem.W.excIn K C7 EBm "ValueError.__new__" = true)
    (e1_7 : PySem.W.findIn K (.ref C7) "__getattribute__" = some (some (.builtin "BaseException.__getattribute__"))) (e2_7 : PySem.W.findIn K (.ref C7) "__getattr__" = some none) (e3_7 : PySem.W.findIn K (.ref C7) "__class__" = some (some (.builtin "object.__class__"))) (e4_7 : PySem.W.mroIn K C7 (.type "BaseException") = some true) (e5_7 : PySem.W.mroIn K C7 (.type "object") = some true)
    (ac8 : PySem.W.nsIn K mainGlobals "NoTongue" = some (some (.ref C8)))
    (ac9 : PySem.W.nsIn K mainGlobals "NoWord" = some (some (.ref C9)))
    (ac10 : PySem.W.nsIn K mainGlobals "Marked" = some (some (.ref C10)))
    (ac11 : PySem.W.nsIn K mainGlobals "TooMany" = some (some (.ref C11)))
    (ac12 : PySem.W.nsIn K mainGlobals "Barred" = some (some (.ref C12)))
    (ac13 : PySem.W.nsIn K mainGlobals "NoCode" = some (some (.ref C13)))
    (ac14 : PySem.W.nsIn K mainGlobals "Alive" = some (some (.ref C14)))
    (ac15 : PySem.W.nsIn K mainGlobals "Unsure" = some (some (.ref C15)))
    (ac16 : PySem.W.nsIn K mainGlobals "NoRow" = some (some (.ref C16)))
    (z_ValueError : PySem.W.nsIn K mainGlobals "ValueError" = some none)
    (z_all : PySem.W.nsIn K mainGlobals "all" = some none)
    (z_isinstance : PySem.W.nsIn K mainGlobals "isinstance" = some none)
    (z_len : PySem.W.nsIn K mainGlobals "len" = some none)
    (z_list : PySem.W.nsIn K mainGlobals "list" = some none)
    (z_str : PySem.W.nsIn K mainGlobals "str" = some none)
    (z_tuple : PySem.W.nsIn K mainGlobals "tuple" = some none)
    (q_k_str_str : PySem.W.kitOne K (.type "str") (.type "str") = some true)
    (q_k_tuple_tuple : PySem.W.kitOne K (.type "tuple") (.type "tuple") = some true)
    (q_k_NoneType_tuple : PySem.W.kitOne K (.type "NoneType") (.type "tuple") = some false)
    (q_k_NoneType_str : PySem.W.kitOne K (.type "NoneType") (.type "str") = some false)
    (q_k_bool_str : PySem.W.kitOne K (.type "bool") (.type "str") = some false)
    (q_k_int_str : PySem.W.kitOne K (.type "int") (.type "str") = some false)
    (q_k_tuple_str : PySem.W.kitOne K (.type "tuple") (.type "str") = some false)
    (q_k_list_str : PySem.W.kitOne K (.type "list") (.type "str") = some false)
    (q_k_dict_str : PySem.W.kitOne K (.type "dict") (.type "str") = some false)
    (q_kx_HeirError : PySem.W.kitOne K (.ref C7) (.ref C0) = some true)
    (q_kx_ValueError : PySem.W.kitOne K (.ref C7) (.type "ValueError") = some true)
    (q_kx_Alive : PySem.W.kitOne K (.ref C7) (.ref C14) = some false)
    (q_kx_Barred : PySem.W.kitOne K (.ref C7) (.ref C12) = some false)
    (q_kx_Full : PySem.W.kitOne K (.ref C7) (.ref C3) = some false)
    (q_kx_Marked : PySem.W.kitOne K (.ref C7) (.ref C10) = some false)
    (q_kx_NoCode : PySem.W.kitOne K (.ref C7) (.ref C13) = some false)
    (q_kx_NoEntry : PySem.W.kitOne K (.ref C7) (.ref C2) = some false)
    (q_kx_NoFit : PySem.W.kitOne K (.ref C7) (.ref C6) = some false)
    (q_kx_NoNumber : PySem.W.kitOne K (.ref C7) (.ref C1) = some false)
    (q_kx_NoPerson : PySem.W.kitOne K (.ref C7) (.ref C4) = some false)
    (q_kx_NoRow : PySem.W.kitOne K (.ref C7) (.ref C16) = some false)
    (q_kx_NoTongue : PySem.W.kitOne K (.ref C7) (.ref C8) = some false)
    (q_kx_NoWord : PySem.W.kitOne K (.ref C7) (.ref C9) = some false)
    (q_kx_TooMany : PySem.W.kitOne K (.ref C7) (.ref C11) = some false)
    (q_kx_Twice : PySem.W.kitOne K (.ref C7) (.ref C5) = some false)
    (q_kx_Unsure : PySem.W.kitOne K (.ref C7) (.ref C15) = some false)
    (zt0 : PySem.W.nsIn K mainGlobals "STEP_LETTERS" = some (some (.ref KT0)))
    (ut0 : K.lookup KT0 = some ⟨.type "tuple", odT0, .seq #[.str "F" tt0_0, .str "M" tt0_1, .str "T" tt0_2, .str "f" tt0_3, .str "m" tt0_4, .str "t" tt0_5, .str "S" tt0_6] nT0, slT0⟩)
    (zt1 : PySem.W.nsIn K mainGlobals "TESTS" = some (some (.ref KT1)))
    (ut1 : K.lookup KT1 = some ⟨.type "tuple", odT1, .seq #[.str "he" tt1_0, .str "she" tt1_1] nT1, slT1⟩)
    (zi0 : PySem.W.nsIn K mainGlobals "MOST_STEPS" = some (some (.int 24 ti0))) :
    ∃ fd : FuncData, (∀ (s : Shared) (v : Value), BindsTo s fd ⟨[v], []⟩ [("_law_script", v)]) ∧ ∀ base : Heap, K.In base → base.Ns mainGlobals mg → FnOk l.prog w K mg base (CX1 l.prog w) 4 fa fd ["_law_script"] (spLaw K) := by
  have e := hfa.symm.trans (PySem.W.mg_of X G a10)
  cases e
  have T : Σ' (T : Tx K w mg), T.a_law = fa ∧ T.fd_law = PySem.W.fnOf "law" "law" (defArgs s_law) (defBody s_law) (defScope s_law) .none kV10 dc10 pm10 an10 cd10 ct10 := ⟨{ a_is_letter := f0, fd_is_letter := PySem.W.fnOf "is_letter" "is_letter" (defArgs s_is_letter) (defBody s_is_letter) (defScope s_is_letter) .none kV0 dc0 pm0 an0 cd0 ct0, F_is_letter := fun_mk (st := s_is_letter) l0 cc0 k0, b_is_letter := (fun_mk (st := s_is_letter) l0 cc0 k0).binds (fun _ _ _ _ _ _ us hl => match us, hl with | [_], _ => rfl), m_is_letter := (PySem.W.mg_of X G a0), a_is_test := f1, fd_is_test := PySem.W.fnOf "is_test" "is_test" (defArgs s_is_test) (defBody s_is_test) (defScope s_is_test) .none kV1 dc1 pm1 an1 cd1 ct1, F_is_test := fun_mk (st := s_is_test) l1 cc1 k1, b_is_test := (fun_mk (st := s_is_test) l1 cc1 k1).binds (fun _ _ _ _ _ _ us hl => match us, hl with | [_], _ => rfl), m_is_test := (PySem.W.mg_of X G a1), a_read_way := f2, fd_read_way := PySem.W.fnOf "read_way" "read_way" (defArgs s_read_way) (defBody s_read_way) (defScope s_read_way) .none kV2 dc2 pm2 an2 cd2 ct2, F_read_way := fun_mk (st := s_read_way) l2 cc2 k2, b_read_way := (fun_mk (st := s_read_way) l2 cc2 k2).binds (fun _ _ _ _ _ _ us hl => match us, hl with | [_], _ => rfl), m_read_way := (PySem.W.mg_of X G a2), a__law_cell_at := f3, fd__law_cell_at := PySem.W.fnOf "_law_cell_at" "_law_cell_at" (defArgs s__law_cell_at) (defBody s__law_cell_at) (defScope s__law_cell_at) .none kV3 dc3 pm3 an3 cd3 ct3, F__law_cell_at := fun_mk (st := s__law_cell_at) l3 cc3 k3, b__law_cell_at := (fun_mk (st := s__law_cell_at) l3 cc3 k3).binds (fun _ _ _ _ _ _ us hl => match us, hl with | [_, _], _ => rfl), m__law_cell_at := (PySem.W.mg_of X G a3), a__law_read := f4, fd__law_read := PySem.W.fnOf "_law_read" "_law_read" (defArgs s__law_read) (defBody s__law_read) (defScope s__law_read) .none kV4 dc4 pm4 an4 cd4 ct4, F__law_read := fun_mk (st := s__law_read) l4 cc4 k4, b__law_read := (fun_mk (st := s__law_read) l4 cc4 k4).binds (fun _ _ _ _ _ _ us hl => match us, hl with | [_], _ => rfl), m__law_read := (PySem.W.mg_of X G a4), a__law_good := f5, fd__law_good := PySem.W.fnOf "_law_good" "_law_good" (defArgs s__law_good) (defBody s__law_good) (defScope s__law_good) .none kV5 dc5 pm5 an5 cd5 ct5, F__law_good := fun_mk (st := s__law_good) l5 cc5 k5, b__law_good := (fun_mk (st := s__law_good) l5 cc5 k5).binds (fun _ _ _ _ _ _ us hl => match us, hl with | [_], _ => rfl), m__law_good := (PySem.W.mg_of X G a5), a__law_spoiled := f6, fd__law_spoiled := PySem.W.fnOf "_law_spoiled" "_law_spoiled" (defArgs s__law_spoiled) (defBody s__law_spoiled) (defScope s__law_spoiled) .none kV6 dc6 pm6 an6 cd6 ct6, F__law_spoiled := fun_mk (st := s__law_spoiled) l6 cc6 k6, b__law_spoiled := (fun_mk (st := s__law_spoiled) l6 cc6 k6).binds (fun _ _ _ _ _ _ us hl => match us, hl with | [_, _, _], _ => rfl), m__law_spoiled := (PySem.W.mg_of X G a6), a__law_pieces := f7, fd__law_pieces := PySem.W.fnOf "_law_pieces" "_law_pieces" (defArgs s__law_pieces) (defBody s__law_pieces) (defScope s__law_pieces) .none kV7 dc7 pm7 an7 cd7 ct7, F__law_pieces := fun_mk (st := s__law_pieces) l7 cc7 k7, b__law_pieces := (fun_mk (st := s__law_pieces) l7 cc7 k7).binds (fun _ _ _ _ _ _ us hl => match us, hl with | [_], _ => rfl), m__law_pieces := (PySem.W.mg_of X G a7), a__law_text := f8, fd__law_text := PySem.W.fnOf "_law_text" "_law_text" (defArgs s__law_text) (defBody s__law_text) (defScope s__law_text) .none kV8 dc8 pm8 an8 cd8 ct8, F__law_text := fun_mk (st := s__law_text) l8 cc8 k8, b__law_text := (fun_mk (st := s__law_text) l8 cc8 k8).binds (fun _ _ _ _ _ _ us hl => match us, hl with | [_], _ => rfl), m__law_text := (PySem.W.mg_of X G a8), a__law_told := f9, fd__law_told := PySem.W.fnOf "_law_told" "_law_told" (defArgs s__law_told) (defBody s__law_told) (defScope s__law_told) .none kV9 dc9 pm9 an9 cd9 ct9, F__law_told := fun_mk (st := s__law_told) l9 cc9 k9, b__law_told := (fun_mk (st := s__law_told) l9 cc9 k9).binds (fun _ _ _ _ _ _ us hl => match us, hl with | [_], _ => rfl), m__law_told := (PySem.W.mg_of X G a9), a_law := fa, fd_law := PySem.W.fnOf "law" "law" (defArgs s_law) (defBody s_law) (defScope s_law) .none kV10 dc10 pm10 an10 cd10 ct10, F_law := fun_mk (st := s_law) l10 cc10 k10, b_law := (fun_mk (st := s_law) l10 cc10 k10).binds (fun _ _ _ _ _ _ us hl => match us, hl with | [_], _ => rfl), m_law := (PySem.W.mg_of X G a10), c_HeirError := C0, m_HeirError := (PySem.W.mg_of X G ac0), c_NoNumber := C1, m_NoNumber := (PySem.W.mg_of X G ac1), c_NoEntry := C2, m_NoEntry := (PySem.W.mg_of X G ac2), c_Full := C3, m_Full := (PySem.W.mg_of X G ac3), c_NoPerson := C4, m_NoPerson := (PySem.W.mg_of X G ac4), c_Twice := C5, m_Twice := (PySem.W.mg_of X G ac5), c_NoFit := C6, m_NoFit := (PySem.W.mg_of X G ac6), c_NoWay := C7, m_NoWay := (PySem.W.mg_of X G ac7), x_NoWay := xc7, e_NoWay := ⟨e1_7, e2_7, e3_7, e4_7, e5_7⟩, c_NoTongue := C8, m_NoTongue := (PySem.W.mg_of X G ac8), c_NoWord := C9, m_NoWord := (PySem.W.mg_of X G ac9), c_Marked := C10, m_Marked := (PySem.W.mg_of X G ac10), c_TooMany := C11, m_TooMany := (PySem.W.mg_of X G ac11), c_Barred := C12, m_Barred := (PySem.W.mg_of X G ac12), c_NoCode := C13, m_NoCode := (PySem.W.mg_of X G ac13), c_Alive := C14, m_Alive := (PySem.W.mg_of X G ac14), c_Unsure := C15, m_Unsure := (PySem.W.mg_of X G ac15), c_NoRow := C16, m_NoRow := (PySem.W.mg_of X G ac16), n_ValueError := (PySem.W.mg_none_of X G z_ValueError), n_all := (PySem.W.mg_none_of X G z_all), n_isinstance := (PySem.W.mg_none_of X G z_isinstance), n_len := (PySem.W.mg_none_of X G z_len), n_list := (PySem.W.mg_none_of X G z_list), n_str := (PySem.W.mg_none_of X G z_str), n_tuple := (PySem.W.mg_none_of X G z_tuple), k_str_str := q_k_str_str, k_tuple_tuple := q_k_tuple_tuple, k_NoneType_tuple := q_k_NoneType_tuple, k_NoneType_str := q_k_NoneType_str, k_bool_str := q_k_bool_str, k_int_str := q_k_int_str, k_tuple_str := q_k_tuple_str, k_list_str := q_k_list_str, k_dict_str := q_k_dict_str, kx_HeirError := q_kx_HeirError, kx_ValueError := q_kx_ValueError, kx_Alive := q_kx_Alive, kx_Barred := q_kx_Barred, kx_Full := q_kx_Full, kx_Marked := q_kx_Marked, kx_NoCode := q_kx_NoCode, kx_NoEntry := q_kx_NoEntry, kx_NoFit := q_kx_NoFit, kx_NoNumber := q_kx_NoNumber, kx_NoPerson := q_kx_NoPerson, kx_NoRow := q_kx_NoRow, kx_NoTongue := q_kx_NoTongue, kx_NoWord := q_kx_NoWord, kx_TooMany := q_kx_TooMany, kx_Twice := q_kx_Twice, kx_Unsure := q_kx_Unsure, a_STEP_LETTERS := KT0, m_STEP_LETTERS := (PySem.W.mg_of X G zt0), s_STEP_LETTERS := fun _ => .inr ⟨_, _, _, ut0, rfl, rfl, small1000 (Nat.le_of_ble_eq_true rfl), .cons ⟨_, rfl⟩ (.cons ⟨_, rfl⟩ (.cons ⟨_, rfl⟩ (.cons ⟨_, rfl⟩ (.cons ⟨_, rfl⟩ (.cons ⟨_, rfl⟩ (.cons ⟨_, rfl⟩ (.nil)))))))⟩, a_TESTS := KT1, m_TESTS := (PySem.W.mg_of X G zt1), s_TESTS := fun _ => .inr ⟨_, _, _, ut1, rfl, rfl, small1000 (Nat.le_of_ble_eq_true rfl), .cons ⟨_, rfl⟩ (.cons ⟨_, rfl⟩ (.nil))⟩, t_MOST_STEPS := ti0, m_MOST_STEPS := (PySem.W.mg_of X G zi0) }, rfl, rfl⟩
  obtain ⟨T, ea, ed⟩ := T
  subst ea
  refine ⟨T.fd_law, fun s v => by rw [ed]; exact .of_eq rfl, fun base _ _ => (all_ok T).imp fun vs H Q E z => ?_⟩
  exact law_in T z
theorem walk {l : PySem.W.OpenLaw} {q : Program} {loose : List Str} {XP : (Str → Option Value) → Heap → Prop} {YP : World → Heap → Prop} {d : DefRec} {K : Params → PySem.W.Frag} (hn : l.most = some 63) (hdf : d.params.defaults = [])
    (hY : ∀ (w : World) (h : Heap), YP w h → (K w.params).In h)
    (F : ∀ (w : World) (mg : Str → Option Value) (fa : Addr) (h : Heap), (K w.params).In h → h.Ns mainGlobals mg → mg d.name = some (.ref fa) →
      ∃ fd : FuncData, (∀ (s : Shared) (u : Value), BindsTo s fd ⟨[u], []⟩ [("_law_script", u)]) ∧ ∀ base : Heap, (K w.params).In base → base.Ns mainGlobals mg → FnOk l.prog w (K w.params) mg base (CX1 l.prog w) 4 fa fd ["_law_script"] (spLaw (K w.params))) :
    PySem.W.WalkO q loose XP YP l.row.toRowW d [] (fun f vs => PySem.call f vs) :=
  L2.walk_of (n := 63) (k := 4) (x := "_law_script") (CX := fun w => CX1 l.prog w) (sp := fun w => spLaw (K w.params)) hn (by decide) hdf ⟨rfl, by decide, by decide⟩ hY F (fun _ _ a ns hl _ hS => ⟨a, ns, rfl, hS, hl, fun _ => rfl⟩) fun _ _ _ _ _ ⟨_, _, _, _, _, z⟩ => z
end K12
open PySem PySem.W PyProof.Rows
set_option maxRecDepth 100000 in
set_option maxHeartbeats 0 in
theorem PySem.Challenge.cw_heirbook_k12_texts_of_no_way_holds : PySem.Challenge.rw_heirbook_k12_texts_of_no_way.Holds := by
  w_on; o_law; k_head; (case hw => w_witness2)
  k_fill
  refine K12.walk (l := PySem.Challenge.rw_heirbook_k12_texts_of_no_way) rfl rfl (fun w h Y => PySem.W.kIn_of Y) ?F
  case F =>
    intro w mg fa h KX G hmg
    refine' K12.all_mk KX G hmg ?a0 ?l0 ?cc0 ?k0 ?a1 ?l1 ?cc1 ?k1 ?a2 ?l2 ?cc2 ?k2 ?a3 ?l3 ?cc3 ?k3 ?a4 ?l4 ?cc4 ?k4 ?a5 ?l5 ?cc5 ?k5 ?a6 ?l6 ?cc6 ?k6 ?a7 ?l7 ?cc7 ?k7 ?a8 ?l8 ?cc8 ?k8 ?a9 ?l9 ?cc9 ?k9 ?a10 ?l10 ?cc10 ?k10 ?ac0 ?ac1 ?ac2 ?ac3 ?ac4 ?ac5 ?ac6 ?ac7 ?xc7 ?e1_7 ?e2_7 ?e3_7 ?e4_7 ?e5_7 ?ac8 ?ac9 ?ac10 ?ac11 ?ac12 ?ac13 ?ac14 ?ac15 ?ac16 ?z_ValueError ?z_all ?z_isinstance ?z_len ?z_list ?z_str ?z_tuple ?q_k_str_str ?q_k_tuple_tuple ?q_k_NoneType_tuple ?q_k_NoneType_str ?q_k_bool_str ?q_k_int_str ?q_k_tuple_str ?q_k_list_str ?q_k_dict_str ?q_kx_HeirError ?q_kx_ValueError ?q_kx_Alive ?q_kx_Barred ?q_kx_Full ?q_kx_Marked ?q_kx_NoCode ?q_kx_NoEntry ?q_kx_NoFit ?q_kx_NoNumber ?q_kx_NoPerson ?q_kx_NoRow ?q_kx_NoTongue ?q_kx_NoWord ?q_kx_TooMany ?q_kx_Twice ?q_kx_Unsure ?zt0 ?ut0 ?zt1 ?ut1 ?zi0
    (case a0 => k_is)
    (case l0 => k_is)
    (case cc0 => k_is)
    (case k0 => k_is)
    (case a1 => k_is)
    (case l1 => k_is)
    (case cc1 => k_is)
    (case k1 => k_is)
    (case a2 => k_is)
    (case l2 => k_is)
    (case cc2 => k_is)
    (case k2 => k_is)
    (case a3 => k_is)
    (case l3 => k_is)
    (case cc3 => k_is)
    (case k3 => k_is)
    (case a4 => k_is)
    (case l4 => k_is)
    (case cc4 => k_is)
    (case k4 => k_is)
    (case a5 => k_is)
    (case l5 => k_is)
    (case cc5 => k_is)
    (case k5 => k_is)
    (case a6 => k_is)
    (case l6 => k_is)
    (case cc6 => k_is)
    (case k6 => k_is)
    (case a7 => k_is)
    (case l7 => k_is)
    (case cc7 => k_is)
    (case k7 => k_is)
    (case a8 => k_is)
    (case l8 => k_is)
    (case cc8 => k_is)
    (case k8 => k_is)
    (case a9 => k_is)
    (case l9 => k_is)
    (case cc9 => k_is)
    (case k9 => k_is)
    (case a10 => k_is)
    (case l10 => k_is)
    (case cc10 => k_is)
    (case k10 => k_is)
    (case ac0 => k_is)
    (case ac1 => k_is)
    (case ac2 => k_is)
    (case ac3 => k_is)
    (case ac4 => k_is)
    (case ac5 => k_is)
    (case ac6 => k_is)
    (case ac7 => k_is)
    (case xc7 => k_exc)
    (case e1_7 => k_is)
    (case e2_7 => k_is)
    (case e3_7 => k_is)
    (case e4_7 => k_is)
    (case e5_7 => k_is)
    (case ac8 => k_is)
    (case ac9 => k_is)
    (case ac10 => k_is)
    (case ac11 => k_is)
    (case ac12 => k_is)
    (case ac13 => k_is)
    (case ac14 => k_is)
    (case ac15 => k_is)
    (case ac16 => k_is)
    (case z_ValueError => k_is)
    (case z_all => k_is)
    (case z_isinstance => k_is)
    (case z_len => k_is)
    (case z_list => k_is)
    (case z_str => k_is)
    (case z_tuple => k_is)
    (case q_k_str_str => kit_is)
    (case q_k_tuple_tuple => kit_is)
    (case q_k_NoneType_tuple => kit_is)
    (case q_k_NoneType_str => kit_is)
    (case q_k_bool_str => kit_is)
    (case q_k_int_str => kit_is)
    (case q_k_tuple_str => kit_is)
    (case q_k_list_str => kit_is)
    (case q_k_dict_str => kit_is)
    (case q_kx_HeirError => kit_is)
    (case q_kx_ValueError => kit_is)
    (case q_kx_Alive => kit_is)
    (case q_kx_Barred => kit_is)
    (case q_kx_Full => kit_is)
    (case q_kx_Marked => kit_is)
    (case q_kx_NoCode => kit_is)
    (case q_kx_NoEntry => kit_is)
    (case q_kx_NoFit => kit_is)
    (case q_kx_NoNumber => kit_is)
    (case q_kx_NoPerson => kit_is)
    (case q_kx_NoRow => kit_is)
    (case q_kx_NoTongue => kit_is)
    (case q_kx_NoWord => kit_is)
    (case q_kx_TooMany => kit_is)
    (case q_kx_Twice => kit_is)
    (case q_kx_Unsure => kit_is)
    (case zt0 => k_is)
    (case ut0 => k_is)
    (case zt1 => k_is)
    (case ut1 => k_is)
    (case zi0 => k_is)
