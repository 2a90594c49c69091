import PyProof.Rows.All
import Wide.All
import OpenK.AllK
import Wide.FinOn
import Lean
import PyProof.EqAt
import PyProof.EqKinds
import PyProof.TupleCall
import PySem.Challenge.RW_plait_k36_whole_three_rules
set_option Elab.async false
set_option linter.all false
set_option maxRecDepth 100000
/-! THE HAND LAYER, for ints, bools, texts, own classes, LISTS and tuples (index, slices, in, append, pop ..), calls, loops. Paste it whole ahead of your own text; what your proof does not reach may be deleted. -/
namespace L2
open PySem PySem.Spec PyProof.Rows

/-- a key: an int or a str -/
abbrev Key := Sum Int Str
def keyIs : Key → Value → Bool
  | .inl k, v => Value.isInt k v
  | .inr x, v => Value.isStrOf x v
def keyH (w : World) : Key → Int
  | .inl k => hashInt k
  | .inr x => hashStr w x
theorem keyIs_shape : ∀ {k : Key} {v : Value}, keyIs k v = true → (∃ i t, k = Sum.inl i ∧ v = Value.int i t) ∨ (∃ x t, k = Sum.inr x ∧ v = Value.str x t)
  | .inl i, v, h => by
    obtain ⟨t, e⟩ := Value.isInt_shape (k := i) (v := v) h
    exact .inl ⟨i, t, rfl, e⟩
  | .inr x, v, h => by
    obtain ⟨t, e⟩ := Value.isStrOf_shape (x := x) (v := v) h
    exact .inr ⟨x, t, rfl, e⟩
theorem keyIs_int (i : Int) (t : Tok) : keyIs (.inl i) (.int i t) = true := by simp [keyIs, Value.isInt]
theorem keyIs_str (x : Str) (t : Tok) : keyIs (.inr x) (.str x t) = true := by simp [keyIs, Value.isStrOf]
theorem key_ll (a b : Int) : decide ((Sum.inl a : Key) = Sum.inl b) = (a == b) := by
  by_cases e : a = b
  · subst e; simp
  · have h : ¬ (Sum.inl a : Key) = Sum.inl b := fun q => e (Sum.inl.inj q)
    rw [decide_eq_false h]
    exact (beq_eq_false_iff_ne.mpr e).symm
theorem key_rr (a b : Str) : decide ((Sum.inr a : Key) = Sum.inr b) = decide (a = b) := by
  by_cases e : a = b
  · subst e; simp
  · have h : ¬ (Sum.inr a : Key) = Sum.inr b := fun q => e (Sum.inr.inj q)
    rw [decide_eq_false h, decide_eq_false e]
theorem key_lr (a : Int) (b : Str) : decide ((Sum.inl a : Key) = Sum.inr b) = false := decide_eq_false (fun q => nomatch q)
theorem key_rl (a : Str) (b : Int) : decide ((Sum.inr a : Key) = Sum.inl b) = false := decide_eq_false (fun q => nomatch q)

def mixKind (prog : Program) (w : World) : PySem.KeyKind prog w Key where
  is := keyIs
  hash := keyH w
  inj := fun v a b ha hb => by
    rcases keyIs_shape ha with ⟨i, t, rfl, rfl⟩ | ⟨x, t, rfl, rfl⟩
    · rcases keyIs_shape hb with ⟨j, u, rfl, e⟩ | ⟨y, u, rfl, e⟩
      · injection e with e1 _; rw [e1]
      · exact nomatch e
    · rcases keyIs_shape hb with ⟨j, u, rfl, e⟩ | ⟨y, u, rfl, e⟩
      · exact nomatch e
      · injection e with e1 _; rw [e1]
  byValue := fun k v h => by
    rcases keyIs_shape h with ⟨i, t, rfl, rfl⟩ | ⟨x, t, rfl, rfl⟩ <;> rfl
  pyHash := fun hv h => by
    rcases keyIs_shape hv with ⟨i, t, rfl, rfl⟩ | ⟨x, t, rfl, rfl⟩
    · exact wpAny_pyHash_int h
    · exact wpAny_pyHash_str h
  eqBool := fun hu hv h => by
    rcases keyIs_shape hu with ⟨i, t, rfl, rfl⟩ | ⟨x, t, rfl, rfl⟩
    · rcases keyIs_shape hv with ⟨j, u, rfl, rfl⟩ | ⟨y, u, rfl, rfl⟩
      · rw [key_ll] at h; exact wpAny_eqBool_int h
      · rw [key_lr] at h; exact SeqAt.EqAt.int_str i t y u _ _ _ _ h
    · rcases keyIs_shape hv with ⟨j, u, rfl, rfl⟩ | ⟨y, u, rfl, rfl⟩
      · rw [key_rl] at h; exact SeqAt.EqAt.str_int x t j u _ _ _ _ h
      · rw [key_rr] at h; exact wpAny_eqBool_str h
  «strs» := fun k x t v h => by
    rcases keyIs_shape h with ⟨i, u, rfl, e⟩ | ⟨y, u, rfl, e⟩
    · exact nomatch e
    · injection e with e1 _
      subst e1
      cases v <;> rfl

theorem mixKind_int (prog : Program) (w : World) (i : Int) (t : Tok) : (mixKind prog w).is (.inl i) (.int i t) = true := keyIs_int i t
theorem mixKind_str (prog : Program) (w : World) (x : Str) (t : Tok) : (mixKind prog w).is (.inr x) (.str x t) = true := keyIs_str x t
end L2

namespace L2
open PySem PySem.Spec PyProof.Rows

/-- a value, without the heap -/
inductive V where
  | non | bl (b : Bool) | int (i : Int) | str (x : Str) | byt (b : Array UInt8) | flt (b : UInt64) | ref (a : Addr) | ty (n : String)
  deriving DecidableEq

def RelV : V → Value → Prop
  | .non, u => u = Value.none
  | .bl b, u => u = Value.bool b
  | .int i, u => ∃ t, u = Value.int i t
  | .str x, u => ∃ t, u = Value.str x t
  | .byt b, u => ∃ t, u = Value.bytes b t
  | .flt b, u => ∃ t, u = Value.float b t
  | .ref a, u => u = Value.ref a
  | .ty n, u => u = Value.type n

abbrev Vals : List V → List Value → Prop := Paired RelV
theorem Vals.length {xs : List V} {us : List Value} (r : Vals xs us) : xs.length = us.length := Paired.length r
theorem Vals.get : ∀ {xs : List V} {us : List Value} {i : Nat} {x : V}, Vals xs us → xs[i]? = some x → ∃ u, us[i]? = some u ∧ RelV x u
  | _, _, _, _, .nil, e => by simp at e
  | _, _, 0, _, .cons r _, e => by simp at e; subst e; exact ⟨_, rfl, r⟩
  | _, _, i + 1, x, .cons _ t, e => by
    obtain ⟨u, h1, h2⟩ := Vals.get (i := i) (x := x) t (by simpa using e)
    exact ⟨u, by simpa using h1, h2⟩
theorem Vals.set {x : V} {u : Value} (r : RelV x u) : ∀ {xs : List V} {us : List Value} (i : Nat), Vals xs us → Vals (xs.set i x) (us.set i u)
  | _, _, _, .nil => .nil
  | _, _, 0, .cons _ t => .cons r t
  | _, _, i + 1, .cons q t => .cons q (Vals.set r i t)
theorem Vals.append : ∀ {xs ys : List V} {us ws : List Value}, Vals xs us → Vals ys ws → Vals (xs ++ ys) (us ++ ws)
  | _, _, _, _, .nil, s => s
  | _, _, _, _, .cons r t, s => .cons r (Vals.append t s)
theorem Vals.take : ∀ {xs : List V} {us : List Value} (n : Nat), Vals xs us → Vals (xs.take n) (us.take n)
  | _, _, 0, _ => .nil
  | _, _, _ + 1, .nil => .nil
  | _, _, n + 1, .cons r t => .cons r (Vals.take n t)
theorem Vals.drop : ∀ {xs : List V} {us : List Value} (n : Nat), Vals xs us → Vals (xs.drop n) (us.drop n)
  | _, _, 0, r => r
  | _, _, _ + 1, .nil => .nil
  | _, _, n + 1, .cons _ t => Vals.drop n t
def RelO : Option V → Option Value → Prop
  | some v, some u => RelV v u
  | none, none => True
  | _, _ => False
def KV {κ : Type} : List (κ × V) → List (κ × Value) → Prop := Paired fun (p : κ × V) (q : κ × Value) => p.1 = q.1 ∧ RelV p.2 q.2

/-- a key of a dict (00_mix): an int or a text -/
def kV : Key → V
  | .inl i => .int i
  | .inr x => .str x

/-- what stands at a tracked address -/
inductive HO where
  /-- a list -/
  | lst (xs : List V)
  /-- a tuple (never changes) -/
  | tup (xs : List V)
  /-- a dict whose keys are ints and texts; one whose keys are tuples of ints and texts (the empty one is both) -/
  | dK (kvs : List (Key × V)) | dT (kvs : List (List Key × V))
  /-- a set of ints: its members, its size -/
  | set (S : Int → Bool) (n : Nat)
  /-- an instance of the class at C, its dict at dx, its attributes -/
  | ins (C dx : Addr) (fs : List (Str × V))
  /-- the dict of the instance at x -/
  | own (x : Addr)
  /-- the dict of an exception -/
  | xd (fs : List (Str × V))
  /-- a bound method, f of x -/
  | met (f x : Addr)
  /-- a range object lo, lo + 1, .. below hi -/
  | rng (lo hi : Int)
  /-- a thing that is known to the object (the script; a dict while a loop walks it): read, never written while it is so -/
  | frz (o : Obj) (u : HO)
  /-- a code object's table -/
  | tbl (ps : Array Value)
  /-- any other thing, by what is true of its one object (a def of one's own: SetO a S n := HO.ext fun h => ..) -/
  | ext (φ : Heap → Prop)

abbrev Hp := Addr → Option HO
def upd (H : Hp) (a : Addr) (o : HO) : Hp := fun b => if b = a then some o else H b
theorem upd_same {H : Hp} {a : Addr} {o : HO} : upd H a o a = some o := by unfold upd; rw [if_pos rfl]
theorem upd_ne {H : Hp} {a b : Addr} {o : HO} (h : b ≠ a) : upd H a o b = H b := by unfold upd; rw [if_neg h]
/-- two objects of different content stand apart -/
theorem ne_of {H : Hp} {a b : Addr} {o u : HO} (h : H a = some o) (h' : H b = some u) (d : o ≠ u) : a ≠ b := by
  intro e; subst e; rw [h] at h'; exact d (Option.some.inj h')
theorem ne_of_none {H : Hp} {a b : Addr} {o : HO} (h : H a = some o) (h' : H b = none) : a ≠ b := by
  intro e; subst e; rw [h] at h'; cases h'

section
variable (P : Program) (w : World)
def ObjOk (H : Hp) (h : Heap) (a : Addr) : HO → Prop
  | .lst xs => xs.length ≤ sizeLine ∧ ∃ (its : List Value) (n : Nat), Vals xs its ∧ h.get? a = some { cls := .type "list", data := .seq its.toArray n }
  | .tup xs => xs.length ≤ sizeLine ∧ ∃ its : List Value, Vals xs its ∧ IsTup h a its.toArray
  | .dK kvs => kvs.length ≤ sizeLine ∧ (a == sysModules) = false ∧ ∃ vs, KV kvs vs ∧ h.DictOf (mixKind P w) a vs
  | .dT kvs => kvs.length ≤ sizeLine ∧ (a == sysModules) = false ∧ ∃ xs : List (List Key × Addr × Value),
      Paired (fun (p : List Key × V) (q : List Key × Addr × Value) => p.1 = q.1 ∧ H q.2.1 = some (.tup (p.1.map kV)) ∧ RelV p.2 q.2.2) kvs xs ∧
      ∃ o es ep, h.get? a = some o ∧ o.ExactDict ∧ o.data = .dict es ep ∧ es.toList = xs.map (entryOfKey (tupleKind (mixKind P w))) ∧ (xs.map (·.1)).Nodup
  | .set S n => h.SetOf (intKind P w) a S n
  | .ins C dx fs => H dx = some (.own a) ∧ fs.length ≤ 1000 ∧ dx ≠ a ∧ h.get? a = some (PySem.W.instObj C dx) ∧
      ∃ mA, h.Ns1 dx mA ∧ (∀ f, RelO (fs.lookup f) (mA f)) ∧ PySem.Within mA (fs.map (·.1))
  | .own _ => ∃ o, h.get? a = some o
  | .xd fs => ∃ mA, h.Ns1 a mA ∧ ∀ f, RelO (fs.lookup f) (mA f)
  | .rng lo hi => ∃ t u v, h.get? a = some { cls := .type "range", data := .fields #[.int lo t, .int hi u, .int 1 v] }
  | .frz o u => h.get? a = some o ∧ ObjOk H h a u
  | .tbl ps => h.get? a = some { cls := .none, data := .fields ps }
  | .met f x => h.get? a = some (PySem.W.methodObj (.ref f) (.ref x))
  | .ext φ => φ h ∧ (∃ o, h.get? a = some o) ∧ ∀ h1 h2 : Heap, φ h1 → (∀ o, h1.get? a = some o → h2.get? a = some o) → φ h2
/-- the abstract heap is held -/
def HOk (H : Hp) (h : Heap) : Prop := ∀ a o, H a = some o → ObjOk P w H h a o
end

section
variable {P : Program} {w : World} {H H' : Hp} {h h' : Heap} {a : Addr} {o : HO}
theorem ObjOk.lt (x : ObjOk P w H h a o) : a < h.objs.size := by
  cases o with
  | lst xs => obtain ⟨_, _, _, _, e⟩ := x; exact Heap.lt_size e
  | tup xs => obtain ⟨_, _, _, p⟩ := x; exact p.lt
  | dK kvs => obtain ⟨_, _, _, _, o, _, _, e, _⟩ := x; exact Heap.lt_size e
  | dT kvs => obtain ⟨_, _, _, _, o, _, _, e, _⟩ := x; exact Heap.lt_size e
  | set S n => obtain ⟨o, _, _, _, e, _⟩ := x; exact Heap.lt_size e
  | ins C dx fs => obtain ⟨_, _, _, e, _⟩ := x; exact Heap.lt_size e
  | own y => obtain ⟨_, e⟩ := x; exact Heap.lt_size e
  | xd fs => obtain ⟨_, ⟨_, _, _, e, _⟩, _⟩ := x; exact Heap.lt_size e
  | rng lo hi => obtain ⟨_, _, _, e⟩ := x; exact Heap.lt_size e
  | frz ob u => obtain ⟨e, _⟩ := x; exact Heap.lt_size e
  | tbl ps => exact Heap.lt_size (show h.get? a = some _ from x)
  | met f y => exact Heap.lt_size (show h.get? a = some _ from x)
  | ext φ => obtain ⟨_, ⟨_, e⟩, _⟩ := x; exact Heap.lt_size e
theorem Paired.mapP {α β : Type} {F G : α → β → Prop} : ∀ {l₁ : List α} {l₂ : List β}, Paired F l₁ l₂ → (∀ a b, F a b → G a b) → Paired G l₁ l₂
  | _, _, .nil, _ => .nil
  | _, _, .cons r t, f => .cons (f _ _ r) (Paired.mapP t f)
/-- what an object's description leans on: its own object, its own dict, the tuples -/
theorem ObjOk.stay (x : ObjOk P w H h a o) (k : ∀ b u, (b = a ∨ H b = some (.own a)) → h.get? b = some u → h'.get? b = some u)
    (ho : ∀ b, H b = some (.own a) → H' b = some (.own a)) (ht : ∀ b xs, H b = some (.tup xs) → H' b = some (.tup xs)) : ObjOk P w H' h' a o := by
  induction o with
  | lst xs => obtain ⟨z, its, n, r, e⟩ := x; exact ⟨z, its, n, r, k _ _ (.inl rfl) e⟩
  | tup xs => obtain ⟨z, its, r, ob, e, c⟩ := x; exact ⟨z, its, r, ob, k _ _ (.inl rfl) e, c⟩
  | dK kvs => obtain ⟨z, y, vs, r, ob, es, ep, e, c⟩ := x; exact ⟨z, y, vs, r, ob, es, ep, k _ _ (.inl rfl) e, c⟩
  | dT kvs =>
    obtain ⟨z, y, xs, r, ob, es, ep, e, c⟩ := x
    exact ⟨z, y, xs, Paired.mapP r fun p q z => ⟨z.1, ht _ _ z.2.1, z.2.2⟩, ob, es, ep, k _ _ (.inl rfl) e, c⟩
  | set S n => obtain ⟨ob, es, ep, t, e, c⟩ := x; exact ⟨ob, es, ep, t, k _ _ (.inl rfl) e, c⟩
  | ins C dx fs =>
    obtain ⟨d, z, ne, e, mA, ⟨od, es, ep, e2, c⟩, r⟩ := x
    exact ⟨ho _ d, z, ne, k _ _ (.inl rfl) e, mA, ⟨od, es, ep, k _ _ (.inr d) e2, c⟩, r⟩
  | own y => obtain ⟨ob, e⟩ := x; exact ⟨ob, k _ _ (.inl rfl) e⟩
  | xd fs => obtain ⟨mA, ⟨od, es, ep, e, c⟩, r⟩ := x; exact ⟨mA, ⟨od, es, ep, k _ _ (.inl rfl) e, c⟩, r⟩
  | rng lo hi => obtain ⟨t, u, v, e⟩ := x; exact ⟨t, u, v, k _ _ (.inl rfl) e⟩
  | frz ob u ih => obtain ⟨e, q⟩ := x; exact ⟨k _ _ (.inl rfl) e, ih q⟩
  | tbl ps =>
    have e : h.get? a = some { cls := .none, data := .fields ps } := x
    show h'.get? a = some { cls := .none, data := .fields ps }
    exact k a _ (.inl rfl) e
  | met f y =>
    have e : h.get? a = some (PySem.W.methodObj (.ref f) (.ref y)) := x
    show h'.get? a = some (PySem.W.methodObj (.ref f) (.ref y))
    exact k a _ (.inl rfl) e
  | ext φ => obtain ⟨p, ⟨o, e⟩, st⟩ := x; exact ⟨st _ _ p fun o q => k _ _ (.inl rfl) q, ⟨o, k _ _ (.inl rfl) e⟩, st⟩
theorem HOk.lt (x : HOk P w H h) (e : H a = some o) : a < h.objs.size := (x a o e).lt
theorem HOk.fresh (x : HOk P w H h) (e : h.objs.size ≤ a) : H a = none := by
  cases q : H a with
  | none => rfl
  | some u => exact absurd (Nat.lt_of_lt_of_le (x.lt q) e) (Nat.lt_irrefl _)
/-- every object of the heap is kept -/
theorem HOk.kept (x : HOk P w H h) (k : ∀ b u, h.get? b = some u → h'.get? b = some u) : HOk P w H h' := fun a o e =>
  (x a o e).stay (fun b u _ q => k b u q) (fun _ q => q) fun _ _ q => q
/-- a new object is laid and tracked -/
theorem HOk.laid (x : HOk P w H h) (k : ∀ b u, h.get? b = some u → h'.get? b = some u) (hp : h.objs.size ≤ a) (new : ObjOk P w (upd H a o) h' a o) : HOk P w (upd H a o) h' := fun b u e => by
  have hn := x.fresh hp
  by_cases hb : b = a
  · subst hb; rw [upd_same] at e; cases e; exact new
  · rw [upd_ne hb] at e
    exact (x b u e).stay (fun c v _ q => k c v q) (fun c q => by rw [upd_ne (ne_of_none q hn)]; exact q) fun c xs q => by rw [upd_ne (ne_of_none q hn)]; exact q
end

/-- what may be read as u: it is u, or a known u -/
def Rd (H : Hp) (a : Addr) (u : HO) : Prop := H a = some u ∨ ∃ o, H a = some (.frz o u)
theorem Rd.of {H : Hp} {a : Addr} {u : HO} (h : H a = some u) : Rd H a u := .inl h
theorem Rd.ok {P : Program} {w : World} {H : Hp} {h : Heap} {a : Addr} {u : HO} (r : Rd H a u) (x : HOk P w H h) : ObjOk P w H h a u := by
  rcases r with r | ⟨o, r⟩
  · exact x a u r
  · obtain ⟨_, q⟩ := x a _ r
    exact q
/-- what may be written -/
def Mut : Option HO → Prop
  | some (.lst _) => True
  | some (.dK _) => True
  | some (.dT _) => True
  | some (.set _ _) => True
  | some (.ins _ _ _) => True
  | some (.ext _) => True
  | _ => False
section
variable {P : Program} {w : World} {H : Hp} {h h' : Heap} {x e : Addr} {o' : HO}
/-- the object at e is changed: x itself, or the dict of the instance x -/
theorem HOk.write (ok : HOk P w H h) (mu : Mut (H x)) (he : e = x ∨ H e = some (.own x)) (k : ∀ b u, b ≠ e → h.get? b = some u → h'.get? b = some u) (heo : ∃ u, h'.get? e = some u)
    (new : ObjOk P w (upd H x o') h' x o') : HOk P w (upd H x o') h' := fun b u q => by
  have nown : ∀ c y, H c = some (.own y) → c ≠ x := fun c y r z => by subst z; rw [r] at mu; exact mu
  have ntup : ∀ c xs, H c = some (.tup xs) → c ≠ x := fun c xs r z => by subst z; rw [r] at mu; exact mu
  by_cases hb : b = x
  · subst hb; rw [upd_same] at q; cases q; exact new
  · rw [upd_ne hb] at q
    by_cases hbe : b = e
    · have q' : H b = some (.own x) := by
        rcases he with z | z
        · exact absurd (hbe.trans z) hb
        · rw [hbe]; exact z
      rw [q] at q'; cases q'
      obtain ⟨v, hv⟩ := heo
      exact ⟨v, by rw [hbe]; exact hv⟩
    · refine (ok b u q).stay (fun c v hc r => k c v ?_ r) (fun c r => by rw [upd_ne (nown c b r)]; exact r) fun c xs r => by rw [upd_ne (ntup c xs r)]; exact r
      rcases hc with rfl | hc
      · exact hbe
      · rintro rfl
        rcases he with z | z
        · exact nown c b hc z
        · rw [hc] at z; cases z; exact hb rfl
end

/-! ### kept unless tracked; of the frames at fs (the callers') the slots may change (an exception that passes writes there); of the records at ex (iterators) nothing is said -/
structure Un (fs ex : List Addr) (H H' : Hp) (h h' : Heap) : Prop where
  keep : ∀ b o, h.get? b = some o → H b = none → b ∉ fs → b ∉ ex → h'.get? b = some o
  slot : ∀ b o, h.get? b = some o → H b = none → b ∈ fs → b ∉ ex → ∃ sl, h'.get? b = some { o with slots := sl }
  free : ∀ b o, h.get? b = some o → H b = none → b ∉ ex → H' b = none
  there : ∀ b o, h.get? b = some o → b ∉ ex → ∃ o', h'.get? b = some o'
  tups : ∀ b xs, H b = some (.tup xs) → H' b = some (.tup xs)
  frzs : ∀ b o u, H b = some (.frz o u) → H' b = some (.frz o u)
  tbls : ∀ b ps, H b = some (.tbl ps) → ∃ more, H' b = some (.tbl (ps ++ more))
section
variable {fs fs' ex ex' : List Addr} {H H1 H2 : Hp} {h h1 h2 h' : Heap} {a x e : Addr} {o : HO}
theorem Un.any (u : Un fs ex H H1 h h1) {b : Addr} {ob : Obj} (q : h.get? b = some ob) (n : H b = none) (hx : b ∉ ex) : ∃ sl, h1.get? b = some { ob with slots := sl } := by
  by_cases hb : b ∈ fs
  · exact u.slot b ob q n hb hx
  · exact ⟨ob.slots, u.keep b ob q n hb hx⟩
theorem Un.trans (a : Un fs ex H H1 h h1) (b : Un fs ex H1 H2 h1 h2) : Un fs ex H H2 h h2 where
  keep := fun c ob q n hc hx => b.keep c ob (a.keep c ob q n hc hx) (a.free c ob q n hx) hc hx
  slot := fun c ob q n hc hx => by
    obtain ⟨sl, e1⟩ := a.slot c ob q n hc hx
    obtain ⟨sl', e2⟩ := b.slot c _ e1 (a.free c ob q n hx) hc hx
    exact ⟨sl', e2⟩
  free := fun c ob q n hx => by
    obtain ⟨o', e1⟩ := a.there c ob q hx
    exact b.free c o' e1 (a.free c ob q n hx) hx
  there := fun c ob q hx => by
    obtain ⟨o', e1⟩ := a.there c ob q hx
    exact b.there c o' e1 hx
  tups := fun c xs q => b.tups c xs (a.tups c xs q)
  frzs := fun c ob xs q => b.frzs c ob xs (a.frzs c ob xs q)
  tbls := fun c ps q => by
    obtain ⟨m1, e1⟩ := a.tbls c ps q
    obtain ⟨m2, e2⟩ := b.tbls c _ e1
    exact ⟨m1 ++ m2, by rw [e2, Array.append_assoc]⟩
theorem Un.kept (k : ∀ b u, h.get? b = some u → h'.get? b = some u) : Un fs ex H H h h' :=
  ⟨fun b ob q _ _ _ => k b ob q, fun b ob q _ _ _ => ⟨ob.slots, k b ob q⟩, fun _ _ _ n _ => n, fun b ob q _ => ⟨ob, k b ob q⟩, fun _ _ q => q, fun _ _ _ q => q, fun _ ps q => ⟨#[], by rw [q]; simp⟩⟩
theorem Un.refl : Un fs ex H H h h := Un.kept fun _ _ q => q
theorem Un.laid (k : ∀ b u, h.get? b = some u → h'.get? b = some u) (hp : h.objs.size ≤ a) (hn : H a = none) : Un fs ex H (upd H a o) h h' where
  keep := fun b u q _ _ _ => k b u q
  slot := fun b u q _ _ _ => ⟨u.slots, k b u q⟩
  free := fun b u q n _ => by rw [upd_ne (Nat.ne_of_lt (Nat.lt_of_lt_of_le (Heap.lt_size q) hp))]; exact n
  there := fun b u q _ => ⟨u, k b u q⟩
  tups := fun b xs q => by rw [upd_ne (ne_of_none q hn)]; exact q
  frzs := fun b u xs q => by rw [upd_ne (ne_of_none q hn)]; exact q
  tbls := fun b ps q => ⟨#[], by rw [upd_ne (ne_of_none q hn), q]; simp⟩
theorem Un.write (mu : Mut (H x)) (he : e = x ∨ H e = some (.own x)) (k : ∀ b u, b ≠ e → h.get? b = some u → h'.get? b = some u) (heo : ∃ u, h'.get? e = some u) : Un fs ex H (upd H x o) h h' := by
  have hx : ∀ b, H b = none → b ≠ x := fun b n z => by subst z; rw [n] at mu; exact mu
  have hb : ∀ b, H b = none → b ≠ e := fun b n z => by
    subst z
    rcases he with r | r
    · exact hx b n r
    · rw [n] at r; cases r
  have hm : ∀ b u, H b = some u → ¬ Mut (some u) → b ≠ x := fun b u q nm z => by subst z; rw [q] at mu; exact nm mu
  refine ⟨fun b u q n _ _ => k b u (hb b n) q, fun b u q n _ _ => ⟨u.slots, k b u (hb b n) q⟩, fun b u q n _ => by rw [upd_ne (hx b n)]; exact n, fun b u q _ => ?_,
    fun b xs q => by rw [upd_ne (hm b _ q fun z => z)]; exact q, fun b u xs q => by rw [upd_ne (hm b _ q fun z => z)]; exact q, fun b ps q => ⟨#[], by rw [upd_ne (hm b _ q fun z => z), q]; simp⟩⟩
  by_cases hbe : b = e
  · subst hbe; exact heo
  · exact ⟨u, k b u hbe q⟩
theorem Un.mono (u : Un fs ex H H1 h h1) (hs : ∀ b ∈ fs, b ∈ fs') (hx : ∀ b ∈ ex, b ∈ ex') : Un fs' ex' H H1 h h1 :=
  ⟨fun b ob q n hb he => u.keep b ob q n (fun z => hb (hs b z)) fun z => he (hx b z), fun _ _ q n _ he => u.any q n fun z => he (hx _ z), fun b ob q n he => u.free b ob q n fun z => he (hx b z), fun b ob q he => u.there b ob q fun z => he (hx b z), u.tups, u.frzs, u.tbls⟩
end

/-! ### the heap without what is tracked -/
def trk (h : Heap) (H : Hp) : List Addr := (List.range h.objs.size).filter fun a => (H a).isSome
def hidT (h : Heap) (H : Hp) : Heap := PySem.W.hideAll h (trk h H)
theorem hidT_size (h : Heap) (H : Hp) : (hidT h H).objs.size = h.objs.size := PySem.W.hideAll_size _ _
theorem hidT_get {h : Heap} {H : Hp} {b : Addr} {o : Obj} (e : h.get? b = some o) (n : H b = none) : (hidT h H).get? b = some o :=
  PySem.W.hideAll_get _ e fun hm => by
    have q : (H b).isSome = true := (List.mem_filter.mp hm).2
    rw [n] at q; simp at q
theorem of_hidT {h : Heap} {H : Hp} {b : Addr} {o : Obj} (e : (hidT h H).get? b = some o) : h.get? b = some o ∧ H b = none := by
  have e' : h.get? b = some o := PySem.W.of_hideAll (trk h H) e
  refine ⟨e', ?_⟩
  cases q : H b with
  | none => rfl
  | some x =>
    have hm : b ∈ trk h H := List.mem_filter.mpr ⟨List.mem_range.mpr (Heap.lt_size e'), by simp [q]⟩
    have z : (hidT h H).get? b = none := PySem.W.hideAll_none (trk h H) hm
    rw [z] at e; cases e

/-! ### OpenK's ledger, filled with every new object but one -/
def allNews (g h : Heap) (L : Addr) : List (Addr × Obj) := (List.range h.objs.size).filterMap fun a => if a = L ∨ (g.get? a).isSome = true then none else (h.get? a).map fun o => (a, o)
def rest (g h : Heap) (L d : Addr) : List (Addr × Obj) := (allNews g h L).filter fun p => decide (p.1 ≠ d)
end L2

namespace L2
open PySem PySem.Spec PyProof.Rows

/-- the module's facts, over the base: the heap at the law's entry without what is tracked there -/
structure Mod (K : PySem.W.Frag) (mg : Str → Option Value) (base : Heap) : Prop where
  kin : K.In base
  glob : base.Ns mainGlobals mg
  blt : ∃ mb, base.Ns builtinsNs mb ∧ ∀ x : Str, x ≠ "__name__" → mb x = bootBuiltins x
  nolimit : base.NoLimit

/-- the context: a def's body (or a comprehension's block) running. base: fixed through the whole law; s₀, H₀: the entry; outer: the frames whose slots others may change (a def's callers); stack: all frames that run;
   ex: iterators that were made ahead of the entry and are walked here (a comprehension's); fn: the names whose cells were made at the entry (a def: all; a comprehension's block: its own); calm: not within an except suite; pn: pins that every state bears; xe: what is wanted of an exception that leaves the code -/
structure Cx where
  prog : Program
  w : World
  K : PySem.W.Frag
  mg : Str → Option Value
  base : Heap
  A : Around
  N : List Str
  s₀ : Shared
  H₀ : Hp
  env : Env
  outer : List Env
  stack : List Env
  ex : List Addr
  fn : Str → Bool
  calm : Bool
  pn : List (Addr × Obj)
  xe : Value → Shared → Prop
/-- the callers' frames -/
def frs (l : List Env) : List Addr := l.filterMap (·.frame)
abbrev Cx.fs (X : Cx) : List Addr := frs X.outer

def Vis (sc : Scope) (x : Str) : Prop := sc.names.lookup x = some .local ∨ sc.names.lookup x = some .cell ∨ sc.names.lookup x = some .free
def Loc (sc : Scope) (x : Str) : Prop := sc.names.lookup x = some .local ∨ sc.names.lookup x = some .cell
def Look (env : Env) (h : Heap) (m : Str → Option Value) (x : Str) (u : Value) : Prop :=
  (env.kindOf x = some .local ∧ m x = some u) ∨ ((env.kindOf x = some .cell ∨ env.kindOf x = some .free) ∧ ∃ c, env.cells.lookup x = some c ∧ h.IsCell c (some u))

structure Cx.Ok (X : Cx) : Prop where
  mod : Mod X.K X.mg X.base
  kind : X.env.scope.kind = .function
  glob : X.env.globals = mainGlobals
  blt : X.env.builtins = builtinsNs
  above : X.s₀.heap.objs.size ≤ X.env.locals
  inj : ∀ x y c, X.env.cells.lookup x = some c → X.env.cells.lookup y = some c → x = y
  has : ∀ x, (X.env.kindOf x = some .cell ∨ X.env.kindOf x = some .free) → ∃ c, X.env.cells.lookup x = some c
  cab : ∀ x c, X.fn x = true → X.env.cells.lookup x = some c → X.s₀.heap.objs.size ≤ c
  hd : X.calm = true → X.A.handled = none
  frames : X.A.frames = some X.stack
  stk : X.stack = X.outer ∨ (X.stack = X.env :: X.outer ∧ X.env.frame = some X.env.locals)
  exf : ∀ b ∈ X.ex, b ≠ X.env.locals ∧ ∀ x c, X.env.cells.lookup x = some c → c ≠ b
  bs : ∀ b o, X.base.get? b = some o → X.s₀.heap.get? b = some o ∧ X.H₀ b = none
  bsz : X.base.objs.size ≤ X.s₀.heap.objs.size
  noex : ∀ b o, X.base.get? b = some o → b ∉ X.ex
  exfs : ∀ b ∈ X.ex, b ∉ X.fs
  funs : X.s₀.heap.FunFrames X.base X.outer
  frf : ∀ b ∈ X.fs, X.H₀ b = none

structure Inv (X : Cx) (pins : List (Addr × Obj)) (σ : List (Option V)) (H : Hp) (s : Shared) : Prop where
  ok : X.Ok
  os : s.os = X.s₀.os
  bare : AllBare s.gens
  base : Un X.fs X.ex X.H₀ H X.s₀.heap s.heap
  loc : ∃ m, s.heap.Ns X.env.locals m ∧ ∀ (i : Nat) (x : Str) (v : V), X.N[i]? = some x → σ[i]? = some (some v) → Vis X.env.scope x → ∃ u, RelV v u ∧ Look X.env s.heap m x u
  cell : ∀ x c, X.env.cells.lookup x = some c → ∃ v, s.heap.IsCell c v
  free : H X.env.locals = none
  freeC : ∀ x c, X.env.cells.lookup x = some c → H c = none
  pin : ∀ p ∈ X.pn ++ pins, s.heap.get? p.1 = some p.2 ∧ H p.1 = none ∧ p.1 ≠ X.env.locals ∧ p.1 ∉ X.fs ∧ ∀ v, p.2.data ≠ .cell v
  hok : HOk X.prog X.w H s.heap
  len : σ.length = X.N.length

section
variable {X : Cx} {pins : List (Addr × Obj)} {σ : List (Option V)} {H H' : Hp} {s : Shared} {h' : Heap}

theorem Cx.Ok.nofr (ok : X.Ok) {b : Addr} {o : Obj} (e : X.base.get? b = some o) : b ∉ X.fs := fun hb => by
  have := (ok.funs.mem hb).1
  rw [e] at this; cases this
theorem Inv.bs (I : Inv X pins σ H s) : ∀ b o, X.base.get? b = some o → s.heap.get? b = some o ∧ H b = none := fun b o e =>
  ⟨I.base.keep b o (I.ok.bs b o e).1 (I.ok.bs b o e).2 (I.ok.nofr e) (I.ok.noex b o e), I.base.free b o (I.ok.bs b o e).1 (I.ok.bs b o e).2 (I.ok.noex b o e)⟩
theorem Inv.bk (I : Inv X pins σ H s) : ∀ b o, X.base.get? b = some o → s.heap.get? b = some o := fun b o e => (I.bs b o e).1
theorem Inv.mod (I : Inv X pins σ H s) : Mod X.K X.mg X.base := I.ok.mod
theorem Inv.kIn (I : Inv X pins σ H s) : X.K.In s.heap := I.ok.mod.kin.keeps I.bk
theorem Inv.nolimit (I : Inv X pins σ H s) : s.heap.NoLimit := I.ok.mod.nolimit.keeps I.bk
theorem Inv.lt (I : Inv X pins σ H s) : X.env.locals < s.heap.objs.size := let ⟨_, hn, _⟩ := I.loc; hn.lt
theorem Inv.sz (I : Inv X pins σ H s) : X.s₀.heap.objs.size ≤ s.heap.objs.size := Nat.le_trans I.ok.above (Nat.le_of_lt I.lt)
theorem Inv.nofs (I : Inv X pins σ H s) {a : Addr} (h : s.heap.objs.size ≤ a) : a ∉ X.fs := fun hb => by
  obtain ⟨_, o, ho, _⟩ := I.ok.funs.mem hb
  exact absurd (Nat.lt_of_lt_of_le (Heap.lt_size ho) (Nat.le_trans I.sz h)) (Nat.lt_irrefl _)
theorem Inv.cne (I : Inv X pins σ H s) : ∀ x c, X.env.cells.lookup x = some c → c ≠ X.env.locals := fun x c e z => by
  obtain ⟨v, o, ho, hd⟩ := I.cell x c e
  obtain ⟨m, ⟨o', es, ep, ho', hd', _⟩, _⟩ := I.loc
  rw [z, ho'] at ho; cases ho; rw [hd'] at hd; cases hd
theorem Inv.funs (I : Inv X pins σ H s) : s.heap.FunFrames X.base X.outer := by
  have all : ∀ (l : List Env), (∀ b ∈ frs l, b ∈ X.fs) → X.s₀.heap.FunFrames X.base l → s.heap.FunFrames X.base l := by
    intro l
    induction l with
    | nil => intro _ _; trivial
    | cons env r ih =>
      intro hs hl
      obtain ⟨hk, ⟨L, o, hf, hn, ho, hd⟩, hr⟩ := hl
      have hL : L ∈ X.fs := hs L (by unfold frs; rw [List.filterMap_cons, hf]; exact List.mem_cons_self)
      obtain ⟨sl, e⟩ := I.base.slot L o ho (I.ok.frf L hL) hL fun z => I.ok.exfs L z hL
      exact ⟨hk, ⟨L, _, hf, hn, e, hd⟩, ih (fun b hb => hs b (by unfold frs; rw [List.filterMap_cons, hf]; exact List.mem_cons_of_mem _ hb)) hr⟩
  exact all X.outer (fun _ hb => hb) I.ok.funs

/-- the frames that run, for a call -/
theorem Inv.stack (I : Inv X pins σ H s) : s.heap.FunFrames X.base X.stack := by
  rcases I.ok.stk with e | ⟨e, hf⟩
  · rw [e]; exact I.funs
  · rw [e]
    obtain ⟨m, hn, _⟩ := I.loc
    refine .cons (by rw [I.ok.kind]; decide) hf hn ?_ I.funs
    exact Heap.get?_none_of_le (Nat.le_trans I.ok.bsz I.ok.above)
theorem Inv.stkSub (I : Inv X pins σ H s) : ∀ b ∈ frs X.stack, b ∈ X.env.locals :: X.fs := fun b hb => by
  rcases I.ok.stk with e | ⟨e, hf⟩
  · rw [e] at hb; exact List.mem_cons_of_mem _ hb
  · rw [e] at hb
    unfold frs at hb
    rw [List.filterMap_cons, hf] at hb
    exact hb
theorem Inv.stkFree (I : Inv X pins σ H s) : ∀ b ∈ frs X.stack, H b = none := fun b hb => by
  rcases List.mem_cons.mp (I.stkSub b hb) with e | hb
  · rw [e]; exact I.free
  · obtain ⟨_, o, ho, _⟩ := I.ok.funs.mem hb
    exact I.base.free b o ho (I.ok.frf b hb) fun z => I.ok.exfs b z hb

/-- THE STEP: the untracked objects but the frame and the records at ch are kept (the callers' frames up to slots), the frame's map is kept, the new abstract heap is held -/
theorem Inv.step {g' : Array GenState} {t' : Nat} {d' : Drawn} {ch : List Addr} (I : Inv X pins σ H s)
    (hch : ∀ b ∈ ch, (b ∈ X.ex ∨ X.s₀.heap.objs.size ≤ b) ∧ b ≠ X.env.locals ∧ (∀ x c, X.env.cells.lookup x = some c → c ≠ b) ∧ ∀ p ∈ X.pn ++ pins, p.1 ≠ b)
    (keep : ∀ b o, b ≠ X.env.locals → b ∉ X.fs → b ∉ ch → s.heap.get? b = some o → H b = none → h'.get? b = some o)
    (slot : ∀ b o, b ≠ X.env.locals → b ∈ X.fs → b ∉ ch → s.heap.get? b = some o → H b = none → ∃ sl, h'.get? b = some { o with slots := sl }) (free : ∀ b o, b ∉ ch → s.heap.get? b = some o → H b = none → H' b = none)
    (there : ∀ b o, b ∉ ch → s.heap.get? b = some o → ∃ o', h'.get? b = some o')
    (tups : ∀ b xs, H b = some (.tup xs) → H' b = some (.tup xs)) (frzs : ∀ b o u, H b = some (.frz o u) → H' b = some (.frz o u)) (tbls : ∀ b ps, H b = some (.tbl ps) → ∃ more, H' b = some (.tbl (ps ++ more)))
    (ns : ∀ m, s.heap.Ns X.env.locals m → h'.Ns X.env.locals m) (hok : HOk X.prog X.w H' h') (hg : AllBare g') :
    Inv X pins σ H' { s with heap := h', gens := g', drawn := d', toks := t' } := by
  have neL : ∀ b o, X.s₀.heap.get? b = some o → b ≠ X.env.locals := fun b o e => Nat.ne_of_lt (Nat.lt_of_lt_of_le (Heap.lt_size e) I.ok.above)
  have neC : ∀ b o, X.s₀.heap.get? b = some o → b ∉ X.ex → b ∉ ch := fun b o e hx hb => by
    rcases (hch b hb).1 with z | z
    · exact hx z
    · exact absurd (Nat.lt_of_lt_of_le (Heap.lt_size e) z) (Nat.lt_irrefl _)
  have cellK : ∀ x c, X.env.cells.lookup x = some c → ∀ v, s.heap.IsCell c v → h'.IsCell c v := fun x c e v ⟨o, ho, hd⟩ => by
    have nch : c ∉ ch := fun z => (hch c z).2.2.1 x c e rfl
    by_cases hc : c ∈ X.fs
    · obtain ⟨sl, q⟩ := slot c o (I.cne x c e) hc nch ho (I.freeC x c e)
      exact ⟨_, q, hd⟩
    · exact ⟨o, keep c o (I.cne x c e) hc nch ho (I.freeC x c e), hd⟩
  refine ⟨I.ok, I.os, hg, ⟨fun b o e n hb hx => ?_, fun b o e n hb hx => ?_, fun b o e n hx => ?_, fun b o e hx => ?_, fun b xs e => tups b xs (I.base.tups b xs e), fun b o xs e => frzs b o xs (I.base.frzs b o xs e), fun b ps e => ?_⟩, ?_, fun x c e => ?_, ?_, fun x c e => ?_, fun p hp => ?_, hok, I.len⟩
  · exact keep b o (neL b o e) hb (neC b o e hx) (I.base.keep b o e n hb hx) (I.base.free b o e n hx)
  · obtain ⟨sl, e1⟩ := I.base.slot b o e n hb hx
    obtain ⟨sl', e2⟩ := slot b _ (neL b o e) hb (neC b o e hx) e1 (I.base.free b o e n hx)
    exact ⟨sl', e2⟩
  · obtain ⟨o', e1⟩ := I.base.there b o e hx
    exact free b o' (neC b o e hx) e1 (I.base.free b o e n hx)
  · obtain ⟨o', e1⟩ := I.base.there b o e hx
    exact there b o' (neC b o e hx) e1
  · obtain ⟨m1, e1⟩ := I.base.tbls b ps e
    obtain ⟨m2, e2⟩ := tbls b _ e1
    exact ⟨m1 ++ m2, by rw [e2, Array.append_assoc]⟩
  · obtain ⟨m, hn, hl⟩ := I.loc
    refine ⟨m, ns m hn, fun i x v e1 e2 e3 => ?_⟩
    obtain ⟨u, r, l⟩ := hl i x v e1 e2 e3
    refine ⟨u, r, ?_⟩
    rcases l with l | ⟨k, c, e, z⟩
    · exact .inl l
    · exact .inr ⟨k, c, e, cellK x c e _ z⟩
  · obtain ⟨v, z⟩ := I.cell x c e
    exact ⟨v, cellK x c e v z⟩
  · obtain ⟨m, ⟨o, _, _, ho, _⟩, _⟩ := I.loc
    exact free _ o (fun z => (hch _ z).2.1 rfl) ho I.free
  · obtain ⟨v, o, ho, hd⟩ := I.cell x c e
    exact free c o (fun z => (hch c z).2.2.1 x c e rfl) ho (I.freeC x c e)
  · obtain ⟨e, n, ne, nf, d⟩ := I.pin p hp
    have nch : p.1 ∉ ch := fun z => (hch p.1 z).2.2.2 p hp rfl
    exact ⟨keep p.1 p.2 ne nf nch e n, free p.1 p.2 nch e n, ne, nf, d⟩
/-- .. where the frame's own object is kept too -/
theorem Inv.un {t' : Nat} (I : Inv X pins σ H s) (u : Un X.fs [] H H' s.heap h') (hok : HOk X.prog X.w H' h') : Inv X pins σ H' { s with heap := h', toks := t' } := by
  obtain ⟨m, ⟨o, es, ep, ho, r⟩, _⟩ := id I.loc
  obtain ⟨sl, hL⟩ := u.any ho I.free (by simp)
  exact I.step (g' := s.gens) (d' := s.drawn) (ch := []) (fun _ z => nomatch z) (fun b o _ hb _ e n => u.keep b o e n hb (by simp)) (fun b o _ hb _ e n => u.slot b o e n hb (by simp)) (fun b o _ e n => u.free b o e n (by simp)) (fun b o _ e => u.there b o e (by simp)) u.tups u.frzs u.tbls (fun m' hm => by
    obtain ⟨o', es', ep', ho', r'⟩ := hm
    rw [ho] at ho'; cases ho'
    exact ⟨_, es', ep', hL, r'⟩) hok I.bare
/-- behind a call (or a comprehension's block): the slots of this frame may have changed too, the records at ch may have turned -/
theorem Inv.call {g' : Array GenState} {t' : Nat} {d' : Drawn} {ch : List Addr} (I : Inv X pins σ H s) (u : Un (frs X.stack) ch H H' s.heap h') (hok : HOk X.prog X.w H' h') (hg : AllBare g')
    (hch : ∀ b ∈ ch, (b ∈ X.ex ∨ X.s₀.heap.objs.size ≤ b) ∧ b ≠ X.env.locals ∧ (∀ x c, X.env.cells.lookup x = some c → c ≠ b) ∧ ∀ p ∈ X.pn ++ pins, p.1 ≠ b) :
    Inv X pins σ H' { s with heap := h', gens := g', drawn := d', toks := t' } := by
  obtain ⟨m, ⟨o, es, ep, ho, r⟩, _⟩ := id I.loc
  obtain ⟨sl, hL⟩ := u.any ho I.free fun z => (hch _ z).2.1 rfl
  exact I.step (ch := ch) hch (fun b o hL hb hc e n => u.keep b o e n (fun z => (List.mem_cons.mp (I.stkSub b z)).elim hL hb) hc) (fun b o _ _ hc e n => u.any e n hc) (fun b o hc e n => u.free b o e n hc) (fun b o hc e => u.there b o e hc) u.tups u.frzs u.tbls (fun m' hm => by
    obtain ⟨o', es', ep', ho', r'⟩ := hm
    rw [ho] at ho'; cases ho'
    exact ⟨_, es', ep', hL, r'⟩) hok hg
/-- an untracked record of ours (an iterator) has turned -/
theorem Inv.turned {t' : Nat} {it : Addr} (I : Inv X pins σ H s) (k : ∀ b o, b ≠ it → s.heap.get? b = some o → h'.get? b = some o) (hn : H it = none) (hL : it ≠ X.env.locals)
    (h1 : it ∈ X.ex ∨ X.s₀.heap.objs.size ≤ it) (h2 : ∀ x c, X.env.cells.lookup x = some c → c ≠ it) (h3 : ∀ p ∈ X.pn ++ pins, p.1 ≠ it) : Inv X pins σ H { s with heap := h', toks := t' } := by
  have nit : ∀ b u, H b = some u → b ≠ it := fun b u e z => by rw [z, hn] at e; cases e
  refine I.step (g' := s.gens) (d' := s.drawn) (ch := [it]) (fun b hb => ?_) (fun b o _ _ hc e _ => k b o (fun z => hc (by simp [z])) e) (fun b o _ _ hc e _ => ⟨o.slots, k b o (fun z => hc (by simp [z])) e⟩) (fun _ _ _ _ n => n)
    (fun b o hc e => ⟨o, k b o (fun z => hc (by simp [z])) e⟩) (fun _ _ e => e) (fun _ _ _ e => e) (fun b ps e => ⟨#[], by rw [e]; simp⟩) (fun m hm => ?_) (fun b u e => ?_) I.bare
  · have e : b = it := by simpa using hb
    subst e
    exact ⟨h1, hL, h2, h3⟩
  · obtain ⟨o, es, ep, ho, r⟩ := hm
    exact ⟨o, es, ep, k _ o (Ne.symm hL) ho, r⟩
  · refine (I.hok b u e).stay (fun c v hc q => k c v ?_ q) (fun _ q => q) fun _ _ q => q
    rcases hc with z | z
    · rw [z]; exact nit b u e
    · exact nit c _ z
theorem Inv.tok (I : Inv X pins σ H s) (t : Nat) : Inv X pins σ H { s with toks := t } := I.un (h' := s.heap) (t' := t) Un.refl I.hok
/-- all objects kept -/
theorem Inv.kept {t' : Nat} (I : Inv X pins σ H s) (k : ∀ b u, s.heap.get? b = some u → h'.get? b = some u) : Inv X pins σ H { s with heap := h', toks := t' } := I.un (Un.kept k) (I.hok.kept k)
/-- a new object laid and tracked -/
theorem Inv.laid {a : Addr} {o : HO} {t' : Nat} (I : Inv X pins σ H s) (k : ∀ b u, s.heap.get? b = some u → h'.get? b = some u) (hp : s.heap.objs.size ≤ a) (new : ObjOk X.prog X.w (upd H a o) h' a o) :
    Inv X pins σ (upd H a o) { s with heap := h', toks := t' } := I.un (Un.laid k hp (I.hok.fresh hp)) (I.hok.laid k hp new)
/-- an object written -/
theorem Inv.write {x e : Addr} {o : HO} {t' : Nat} (I : Inv X pins σ H s) (mu : Mut (H x)) (he : e = x ∨ H e = some (.own x)) (k : ∀ b u, b ≠ e → s.heap.get? b = some u → h'.get? b = some u) (heo : ∃ u, h'.get? e = some u)
    (new : ObjOk X.prog X.w (upd H x o) h' x o) : Inv X pins σ (upd H x o) { s with heap := h', toks := t' } := I.un (Un.write mu he k heo) (I.hok.write mu he k heo new)
/-- forgetting slots, pins -/
theorem Inv.weak {σ' : List (Option V)} (I : Inv X pins σ H s) (hl : σ'.length = σ.length) (w : ∀ (i : Nat) v, σ'[i]? = some (some v) → σ[i]? = some (some v)) : Inv X pins σ' H s :=
  ⟨I.ok, I.os, I.bare, I.base, let ⟨m, hn, hl'⟩ := I.loc; ⟨m, hn, fun i x v e1 e2 e3 => hl' i x v e1 (w i v e2) e3⟩, I.cell, I.free, I.freeC, I.pin, I.hok, hl.trans I.len⟩
theorem Inv.pins_of {pins' : List (Addr × Obj)} (I : Inv X pins σ H s) (h : ∀ p ∈ pins', s.heap.get? p.1 = some p.2 ∧ H p.1 = none ∧ p.1 ≠ X.env.locals ∧ p.1 ∉ X.fs ∧ ∀ v, p.2.data ≠ .cell v) : Inv X pins' σ H s :=
  ⟨I.ok, I.os, I.bare, I.base, I.loc, I.cell, I.free, I.freeC, fun p hp => (List.mem_append.mp hp).elim (fun z => I.pin p (List.mem_append_left _ z)) (h p), I.hok, I.len⟩

theorem nodup_ix {N : List Str} (hN : N.Nodup) {i j : Nat} {x : Str} (a : N[i]? = some x) (b : N[j]? = some x) : i = j := by
  obtain ⟨h1, e1⟩ := List.getElem?_eq_some_iff.mp a
  obtain ⟨h2, e2⟩ := List.getElem?_eq_some_iff.mp b
  exact (List.getElem_inj hN).mp (e1.trans e2.symm)

/-- a name is stored; what changed -/
theorem store_ok2 {M : Model} {A : Around} {E : Value → Shared → Prop} {i : Nat} {x : Str} {v : V} {u : Value} {Q : Unit → Shared → Prop} (I : Inv X pins σ H s) (hN : X.N.Nodup) (hi : X.N[i]? = some x) (hx : Loc X.env.scope x) (r : RelV v u)
    (h : ∀ s', Inv X pins (σ.set i (some v)) H s' → (∃ a, Heap.SameBut a s.heap s'.heap ∧ (a = X.env.locals ∨ X.env.cells.lookup x = some a)) → Q () s') (hf : X.fn x = true ∨ X.env.scope.names.lookup x = some .local := by first | exact .inl rfl | exact .inr rfl | assumption) : wpAny M A (storeName X.env x u) Q E s := by
  obtain ⟨m, hn, hl⟩ := id I.loc
  have hcls : (X.env.scope.kind == .class || (X.env.scope.kind == .module && X.env.locals != X.env.globals)) = false := by rw [I.ok.kind]; rfl
  have hiσ : i < σ.length := by rw [I.len]; exact (List.getElem?_eq_some_iff.mp hi).1
  have cne := I.cne
  have tracked : ∀ {a : Addr} {h' : Heap}, (∃ o, s.heap.get? a = some o ∧ H a = none) → Heap.SameBut a s.heap h' → HOk X.prog X.w H h' := fun {a h'} ha hs b ob e => by
    obtain ⟨_, _, hfree⟩ := ha
    refine (I.hok b ob e).stay (fun c w' hc q => (hs.2 c ?_).trans q) (fun _ q => q) fun _ _ q => q
    rintro rfl
    rcases hc with rfl | hc
    · rw [hfree] at e; cases e
    · rw [hfree] at hc; cases hc
  rcases hx with hk | hk
  · refine wpAny_storeName_local hk hn (fun h' hn' hs => ?_) hcls
    obtain ⟨oL, _, _, hoL, _⟩ := id hn
    refine h _ ⟨I.ok, I.os, I.bare, ⟨fun b o e n hb hx => ?_, fun b o e n hb hx => ?_, I.base.free, fun b o e hx => ?_, I.base.tups, I.base.frzs, I.base.tbls⟩, ⟨_, hn', fun j y v' e1 e2 e3 => ?_⟩, fun y c e => ?_, I.free, I.freeC, fun p hp => ?_, tracked ⟨oL, hoL, I.free⟩ hs, by simpa using I.len⟩ ⟨_, hs, .inl rfl⟩
    · exact (hs.2 b (Nat.ne_of_lt (Nat.lt_of_lt_of_le (Heap.lt_size e) I.ok.above))).trans (I.base.keep b o e n hb hx)
    · obtain ⟨sl, e1⟩ := I.base.slot b o e n hb hx
      exact ⟨sl, (hs.2 b (Nat.ne_of_lt (Nat.lt_of_lt_of_le (Heap.lt_size e) I.ok.above))).trans e1⟩
    · obtain ⟨o', e1⟩ := I.base.there b o e hx
      exact ⟨o', (hs.2 b (Nat.ne_of_lt (Nat.lt_of_lt_of_le (Heap.lt_size e) I.ok.above))).trans e1⟩
    · by_cases hj : j = i
      · subst hj
        rw [hi] at e1; cases e1
        rw [List.getElem?_set_self hiσ] at e2
        cases e2
        exact ⟨u, r, .inl ⟨hk, by simp⟩⟩
      · rw [List.getElem?_set_ne (Ne.symm hj)] at e2
        obtain ⟨u', r', q⟩ := hl j y v' e1 e2 e3
        refine ⟨u', r', ?_⟩
        rcases q with ⟨k, e⟩ | ⟨k, c, e, z⟩
        · refine .inl ⟨k, ?_⟩
          have : y ≠ x := fun e => hj (nodup_ix hN e1 (e ▸ hi))
          simp [this, e]
        · exact .inr ⟨k, c, e, z.sameBut hs (cne y c e)⟩
    · obtain ⟨w', z⟩ := I.cell y c e
      exact ⟨w', z.sameBut hs (cne y c e)⟩
    · obtain ⟨e, n, ne, nf, d⟩ := I.pin p hp
      exact ⟨(hs.2 p.1 ne).trans e, n, ne, nf, d⟩
  · have hfn : X.fn x = true := by
      rcases hf with z | z
      · exact z
      · rw [z] at hk; cases hk
    obtain ⟨c, hc⟩ := I.ok.has x (.inl hk)
    obtain ⟨w', z⟩ := I.cell x c hc
    refine wpAny_storeName_cell I.ok.kind hk hc z (fun h' hc' hs => ?_)
    obtain ⟨oc, hoc, hocd⟩ := id z
    refine h { s with heap := h' } ⟨I.ok, I.os, I.bare, ⟨fun b o e n hb hx => ?_, fun b o e n hb hx => ?_, I.base.free, fun b o e hx => ?_, I.base.tups, I.base.frzs, I.base.tbls⟩, ⟨m, hn.sameBut hs (Ne.symm (cne x c hc)), fun j y v' e1 e2 e3 => ?_⟩, fun y c' e => ?_, I.free, I.freeC, fun p hp => ?_, tracked ⟨oc, hoc, I.freeC x c hc⟩ hs, by simpa using I.len⟩ ⟨c, hs, .inr hc⟩
    · exact (hs.2 b (Nat.ne_of_lt (Nat.lt_of_lt_of_le (Heap.lt_size e) (I.ok.cab x c hfn hc)))).trans (I.base.keep b o e n hb hx)
    · obtain ⟨sl, e1⟩ := I.base.slot b o e n hb hx
      exact ⟨sl, (hs.2 b (Nat.ne_of_lt (Nat.lt_of_lt_of_le (Heap.lt_size e) (I.ok.cab x c hfn hc)))).trans e1⟩
    · obtain ⟨o', e1⟩ := I.base.there b o e hx
      exact ⟨o', (hs.2 b (Nat.ne_of_lt (Nat.lt_of_lt_of_le (Heap.lt_size e) (I.ok.cab x c hfn hc)))).trans e1⟩
    · by_cases hj : j = i
      · subst hj
        rw [hi] at e1; cases e1
        rw [List.getElem?_set_self hiσ] at e2
        cases e2
        exact ⟨u, r, .inr ⟨.inl hk, c, hc, hc'⟩⟩
      · rw [List.getElem?_set_ne (Ne.symm hj)] at e2
        obtain ⟨u', r', q⟩ := hl j y v' e1 e2 e3
        refine ⟨u', r', ?_⟩
        rcases q with q | ⟨k, c', e, z'⟩
        · exact .inl q
        · refine .inr ⟨k, c', e, z'.sameBut hs ?_⟩
          rintro rfl
          exact hj (nodup_ix hN e1 (I.ok.inj _ _ _ e hc ▸ hi))
    · by_cases hcc : c' = c
      · subst hcc; exact ⟨_, hc'⟩
      · obtain ⟨w2, z2⟩ := I.cell y c' e
        exact ⟨w2, z2.sameBut hs hcc⟩
    · obtain ⟨e, n, ne, nf, d⟩ := I.pin p hp
      refine ⟨(hs.2 p.1 ?_).trans e, n, ne, nf, d⟩
      intro q
      rw [q, hoc] at e
      have q' : oc = p.2 := Option.some.inj e
      exact d w' (by rw [← q']; exact hocd)
theorem store_ok {M : Model} {A : Around} {E : Value → Shared → Prop} {i : Nat} {x : Str} {v : V} {u : Value} {Q : Unit → Shared → Prop} (I : Inv X pins σ H s) (hN : X.N.Nodup) (hi : X.N[i]? = some x) (hx : Loc X.env.scope x) (r : RelV v u)
    (h : ∀ s', Inv X pins (σ.set i (some v)) H s' → Q () s') (hf : X.fn x = true ∨ X.env.scope.names.lookup x = some .local := by first | exact .inl rfl | exact .inr rfl | assumption) : wpAny M A (storeName X.env x u) Q E s :=
  store_ok2 I hN hi hx r (fun s' I' _ => h s' I') hf
/-- behind a call or a block, the state as it is -/
theorem Inv.call' {s' : Shared} {ch : List Addr} (I : Inv X pins σ H s) (ho : s'.os = s.os) (u : Un (frs X.stack) ch H H' s.heap s'.heap) (hok : HOk X.prog X.w H' s'.heap) (hg : AllBare s'.gens)
    (hch : ∀ b ∈ ch, (b ∈ X.ex ∨ X.s₀.heap.objs.size ≤ b) ∧ b ≠ X.env.locals ∧ (∀ x c, X.env.cells.lookup x = some c → c ≠ b) ∧ ∀ p ∈ X.pn ++ pins, p.1 ≠ b) : Inv X pins σ H' s' := by
  obtain ⟨h', g', d', t', o'⟩ := s'
  have e : o' = s.os := ho
  subst e
  exact I.call (g' := g') (t' := t') (d' := d') u hok hg hch
end

/-! ### the judgements -/
/-- an exception: its class, its own dict's address (where it has one), the abstract heap behind it -/
abbrev XK := Value → Option Addr → Hp → Prop
abbrev St := List (Option V)
abbrev VK := V → Hp → Prop
/-- an expression's reading; a test's; an argument list's -/
abbrev TE := St → Hp → VK → Prop
abbrev TT := St → Hp → (Bool → Hp → Prop) → Prop
abbrev TA := St → Hp → (List V → Hp → Prop) → Prop
/-- what is wanted behind a statement -/
structure Ends where
  nx : St → Hp → Prop
  rt : VK
  bk : St → Hp → Prop := fun _ _ => False
  ct : St → Hp → Prop := fun _ _ => False
abbrev TS := Ends → St → Hp → Prop

def EP (X : Cx) (pins : List (Addr × Obj)) (σ : St) (Q : VK) (u : Value) (s' : Shared) : Prop := ∃ v H', Inv X pins σ H' s' ∧ RelV v u ∧ Q v H'
def TP (X : Cx) (pins : List (Addr × Obj)) (σ : St) (Q : Bool → Hp → Prop) (b : Bool) (s' : Shared) : Prop := ∃ H', Inv X pins σ H' s' ∧ Q b H'
def AP (X : Cx) (pins : List (Addr × Obj)) (σ : St) (Q : List V → Hp → Prop) (us : List Value) (s' : Shared) : Prop := ∃ vs H', Inv X pins σ H' s' ∧ Vals vs us ∧ Q vs H'
def SP (X : Cx) (pins : List (Addr × Obj)) (D : Ends) (f : Flow) (s' : Shared) : Prop :=
  match f with
  | .next => ∃ σ' H', Inv X pins σ' H' s' ∧ D.nx σ' H'
  | .brk => ∃ σ' H', Inv X pins σ' H' s' ∧ D.bk σ' H'
  | .cont => ∃ σ' H', Inv X pins σ' H' s' ∧ D.ct σ' H'
  | .ret u => ∃ v σ' H', Inv X pins σ' H' s' ∧ RelV v u ∧ D.rt v H'

def PE (X : Cx) (e : Expr) (t : TE) : Prop :=
  ∀ (pins : List (Addr × Obj)) (s : Shared) (σ : St) (H : Hp) (Q : VK), Inv X pins σ H s → t σ H Q → wpAny (model X.prog X.w) X.A (eval e X.env) (EP X pins σ Q) X.xe s
def PT (X : Cx) (e : Expr) (t : TT) : Prop :=
  ∀ (pins : List (Addr × Obj)) (s : Shared) (σ : St) (H : Hp) (Q : Bool → Hp → Prop), Inv X pins σ H s → t σ H Q → wpAny (model X.prog X.w) X.A (isTrue e X.env (eval e X.env)) (TP X pins σ Q) X.xe s
/-- a test whatever its 'whole' is (and, or) -/
def PW (X : Cx) (e : Expr) (t : TT) : Prop :=
  ∀ (whole : Sem Value) (pins : List (Addr × Obj)) (s : Shared) (σ : St) (H : Hp) (Q : Bool → Hp → Prop), Inv X pins σ H s → t σ H Q → wpAny (model X.prog X.w) X.A (isTrue e X.env whole) (TP X pins σ Q) X.xe s
theorem PW.pt {X : Cx} {e : Expr} {t : TT} (h : PW X e t) : PT X e t := h _
/-- an argument list (no star), from the left -/
def PA (X : Cx) (es : List Expr) (t : TA) : Prop :=
  ∀ (pos : Pos) (pins : List (Addr × Obj)) (s : Shared) (σ : St) (H : Hp) (Q : List V → Hp → Prop), Inv X pins σ H s → t σ H Q → wpAny (model X.prog X.w) X.A (spliced (backTo pos (starEach es X.env))) (AP X pins σ Q) X.xe s
def PS (X : Cx) (st : Stmt) (t : TS) : Prop :=
  ∀ (pins : List (Addr × Obj)) (s : Shared) (σ : St) (H : Hp) (D : Ends), Inv X pins σ H s → t D σ H → wpAny (model X.prog X.w) X.A (exec st X.env) (SP X pins D) X.xe s
def PSs (X : Cx) (st : List Stmt) (t : TS) : Prop :=
  ∀ (pins : List (Addr × Obj)) (s : Shared) (σ : St) (H : Hp) (D : Ends), Inv X pins σ H s → t D σ H → wpAny (model X.prog X.w) X.A (execs st X.env) (SP X pins D) X.xe s
/-- weaken the end -/
theorem thn {α : Type} {t : Sem α} {Q Q' : α → Shared → Prop} {M : Model} {A : Around} {E : Value → Shared → Prop} {s : Shared} (h : wpAny M A t Q E s) (hQ : ∀ a s, Q a s → Q' a s) : wpAny M A t Q' E s := wpAny_mono h hQ fun _ _ x => x
end L2

namespace L2
open PySem PySem.Spec PyProof.Rows
section
variable {X : Cx}

/-! ### names and constants -/
def tVar (i : Nat) : TE := fun σ H Q => ∃ v, σ[i]? = some (some v) ∧ Q v H
def tC (v : V) : TE := fun _ H Q => Q v H
theorem pe_var {i : Nat} {x : Str} {pos : Pos} (hN : X.N[i]? = some x) (hv : Vis X.env.scope x) (hd : (x == ("__debug__" : Str)) = false := by decide) (hcd : (x == ("__classdict__" : Str)) = false := by decide) : PE X (.Name x pos) (tVar i) := by
  intro pins s σ H Q I h
  obtain ⟨v, e, h⟩ := h
  obtain ⟨m, hn, hl⟩ := I.loc
  obtain ⟨u, r, l⟩ := hl i x v hN e hv
  have fin : EP X pins σ Q u s := ⟨v, H, I, r, h⟩
  rcases l with ⟨hk, hm⟩ | ⟨hk, c, hc, hcell⟩
  · exact wpAny_Name (wpAny_loadName_local I.ok.kind hk hn hm fin) hd
  · rcases hk with hk | hk
    · exact wpAny_Name (wpAny_loadName_cell I.ok.kind hk hc hcell fin) hd
    · exact wpAny_Name (wpAny_loadName_free I.ok.kind hk hc hcell fin hcd) hd
theorem pe_int {i j pos} : PE X (.Constant (.int i) j pos) (tC (.int i)) := fun _ _ _ H _ I h => wpAny_Constant_int ⟨.int i, H, I.tok _, ⟨_, rfl⟩, h⟩
theorem pe_bl {b j pos} : PE X (.Constant (.bool b) j pos) (tC (.bl b)) := fun _ _ _ H _ I h => Constant_bool ⟨.bl b, H, I, rfl, h⟩
theorem pe_non {j pos} : PE X (.Constant .none j pos) (tC .non) := fun _ _ _ H _ I h => Constant_none ⟨.non, H, I, rfl, h⟩
/-- a global name of the def -/
def Gl (X : Cx) (x : Str) : Prop := X.env.kindOf x = some .globalImplicit
theorem ld_glob {E : Value → Shared → Prop} {pins : List (Addr × Obj)} {s : Shared} {σ : St} {H : Hp} {x : Str} {u : Value} {pos : Pos} {Q : Value → Shared → Prop} (I : Inv X pins σ H s) (hg : Gl X x) (hm : X.mg x = some u) (h : Q u s)
    (hd : (x == ("__debug__" : Str)) = false := by decide) : wpAny (model X.prog X.w) X.A (eval (.Name x pos) X.env) Q E s :=
  Calls.Name_function_global I.ok.kind hg (Calls.loadGlobal_global (by rw [I.ok.glob]; exact I.mod.glob.keeps I.bk) hm h) hd
theorem ld_blt {E : Value → Shared → Prop} {pins : List (Addr × Obj)} {s : Shared} {σ : St} {H : Hp} {x : Str} {u : Value} {pos : Pos} {Q : Value → Shared → Prop} (I : Inv X pins σ H s) (hg : Gl X x) (hm : X.mg x = none) (hv : bootBuiltins x = some u) (h : Q u s)
    (hn : x ≠ "__name__" := by decide) (hd : (x == ("__debug__" : Str)) = false := by decide) : wpAny (model X.prog X.w) X.A (eval (.Name x pos) X.env) Q E s := by
  obtain ⟨mb, h1, h2⟩ := I.mod.blt
  exact Calls.Name_function_global I.ok.kind hg (Calls.loadGlobal_builtin (by rw [I.ok.glob]; exact I.mod.glob.keeps I.bk) hm (by rw [I.ok.blt]; exact h1.keeps I.bk) ((h2 x hn).trans hv) h) hd
/-- a module's constant, a class, a function, as a value -/
theorem pe_glob {x : Str} {v : V} {u : Value} {pos : Pos} (hg : Gl X x) (hm : X.mg x = some u) (r : RelV v u) (hd : (x == ("__debug__" : Str)) = false := by decide) : PE X (.Name x pos) (tC v) :=
  fun _ _ _ H _ I h => ld_glob I hg hm ⟨v, H, I, r, h⟩ hd
theorem pe_bltn {x : Str} {v : V} {u : Value} {pos : Pos} (hg : Gl X x) (hm : X.mg x = none) (hv : bootBuiltins x = some u) (r : RelV v u) (hn : x ≠ "__name__" := by decide) (hd : (x == ("__debug__" : Str)) = false := by decide) : PE X (.Name x pos) (tC v) :=
  fun _ _ _ H _ I h => ld_blt I hg hm hv ⟨v, H, I, r, h⟩ hn hd

/-! ### arithmetic -/
variable {a b : Expr} {ta tb : TE} {pos : Pos}
/-! ### comparisons -/
def PC (X : Cx) (op : CmpOp) (a b : Expr) (t : TE) : Prop :=
  ∀ (pins : List (Addr × Obj)) (s : Shared) (σ : St) (H : Hp) (Q : VK), Inv X pins σ H s → t σ H Q →
    wpAny (model X.prog X.w) X.A (eval a X.env) (fun v s₁ => wpAny (model X.prog X.w) X.A (eval b X.env) (fun u s₂ => wpAny (model X.prog X.w) X.A (compareOp op v u) (EP X pins σ Q) X.xe s₂) X.xe s₁) X.xe s
theorem nobehind (b : Expr) {op : CmpOp} (h : op ≠ .In) (h2 : op ≠ .NotIn) : behindInMarks op b = false := by
  have e1 : (op == CmpOp.In) = false := by cases op <;> first | rfl | exact absurd rfl h
  have e2 : (op == CmpOp.NotIn) = false := by cases op <;> first | rfl | exact absurd rfl h2
  cases b <;> simp [behindInMarks, e1, e2]
/-- a comparison as a value, as a test -/
def tB (t : TE) : TT := fun σ H Q => t σ H fun x H1 => ∃ c, x = .bl c ∧ Q c H1
theorem pt_cmp {op : CmpOp} {t : TE} (h : PC X op a b t) (h1 : behindInMarks op b = false := by first | exact nobehind _ (by decide) (by decide) | rfl) : PT X (.Compare a [op] [b] pos) (tB t) := by
  intro pins s σ H Q I hw
  refine wpAny_isTrue_Compare1 (thn (h pins s σ H _ I hw) fun v s1 h1 => thn h1 fun u s2 h2 => thn h2 fun c s3 ⟨x, H1, I1, r1, q1⟩ => ?_) h1
  obtain ⟨d, rfl, q⟩ := q1
  cases r1
  exact wpAny_truthy_bool ⟨H1, I1, q⟩
/-- an expression whose value is a bool, as a test -/
theorem pt_val {e : Expr} {t : TE} (h : PE X e t) (he : ∀ whole, isTrue e X.env whole = (do let v ← whole; standAt e.pos; holding [v] (truthy v)) := by intro _; rfl) : PT X e (tB t) := by
  intro pins s σ H Q I hw
  refine isTrue_plain (thn (h pins s σ H _ I hw) fun v s1 ⟨x, H1, I1, r1, q1⟩ => ?_) (he _)
  obtain ⟨d, rfl, q⟩ := q1
  cases r1
  exact wpAny_truthy_bool ⟨H1, I1, q⟩

/-! ### and, or, not -/
variable {tA tB' : TT} {rest : List Expr}
def tAnd (t u : TT) : TT := fun σ H Q => t σ H fun c H1 => if c = true then u σ H1 Q else Q false H1
def tOr (t u : TT) : TT := fun σ H Q => t σ H fun c H1 => if c = true then Q true H1 else u σ H1 Q
def tNot (t : TT) : TT := fun σ H Q => t σ H fun c H1 => Q (!c) H1
theorem pw_and1 (ha : PT X a tA) : PW X (.BoolOp .And [a] pos) tA := by
  intro wh pins s σ H Q I h
  refine isTrue_and (thn (ha pins s σ H Q I h) fun c s1 e => ?_)
  cases c with
  | true => exact isTrue_and_nil e
  | false => exact e
theorem pw_or1 (ha : PT X a tA) : PW X (.BoolOp .Or [a] pos) tA := by
  intro wh pins s σ H Q I h
  refine isTrue_or (thn (ha pins s σ H Q I h) fun c s1 e => ?_)
  cases c with
  | false => exact isTrue_or_nil e
  | true => exact e
theorem pw_and (ha : PT X a tA) (hb : PW X (.BoolOp .And (b :: rest) pos) tB') : PW X (.BoolOp .And (a :: b :: rest) pos) (tAnd tA tB') := by
  intro wh pins s σ H Q I h
  refine isTrue_and (thn (ha pins s σ H _ I h) fun c s1 ⟨H1, I1, q1⟩ => ?_)
  cases c with
  | true => exact hb wh pins s1 σ H1 Q I1 q1
  | false => exact ⟨H1, I1, q1⟩
theorem pw_or (ha : PT X a tA) (hb : PW X (.BoolOp .Or (b :: rest) pos) tB') : PW X (.BoolOp .Or (a :: b :: rest) pos) (tOr tA tB') := by
  intro wh pins s σ H Q I h
  refine isTrue_or (thn (ha pins s σ H _ I h) fun c s1 ⟨H1, I1, q1⟩ => ?_)
  cases c with
  | true => exact ⟨H1, I1, q1⟩
  | false => exact hb wh pins s1 σ H1 Q I1 q1
theorem pt_not (ha : PT X a tA) : PT X (.UnaryOp .Not a pos) (tNot tA) := by
  intro pins s σ H Q I h
  exact isTrue_not (ha pins s σ H (fun c H1 => Q (!c) H1) I h)
end
end L2

namespace L2
open PySem PySem.Spec PyProof.Rows

/-! ### a list, a tuple that is read: tracked, frozen, or an object of the module -/
def SqL (K : PySem.W.Frag) (H : Hp) (a : Addr) (xs : List V) : Prop :=
  Rd H a (.lst xs) ∨
    ∃ (o : Obj) (its : Array Value) (n : Nat), K.lookup a = some o ∧ o.cls = .type "list" ∧ o.dict = none ∧ o.data = .seq its n ∧ its.size ≤ sizeLine ∧ Vals xs its.toList
def SqT (K : PySem.W.Frag) (H : Hp) (a : Addr) (xs : List V) : Prop :=
  Rd H a (.tup xs) ∨
    ∃ (o : Obj) (its : Array Value) (n : Nat), K.lookup a = some o ∧ o.cls = .type "tuple" ∧ o.data = .seq its n ∧ its.size ≤ sizeLine ∧ Vals xs its.toList
def absV : Value → Option V
  | .none => some .non
  | .bool b => some (.bl b)
  | .int i _ => some (.int i)
  | .str x _ => some (.str x)
  | .bytes b _ => some (.byt b)
  | .float b _ => some (.flt b)
  | .ref a => some (.ref a)
  | .type n => some (.ty n)
  | _ => none
theorem RelV.abs {x : V} {u : Value} (r : RelV x u) : absV u = some x := by
  cases x with
  | non => cases r; rfl
  | bl _ => cases r; rfl
  | int _ => obtain ⟨t, rfl⟩ := r; rfl
  | str _ => obtain ⟨t, rfl⟩ := r; rfl
  | byt _ => obtain ⟨t, rfl⟩ := r; rfl
  | flt _ => obtain ⟨t, rfl⟩ := r; rfl
  | ref _ => cases r; rfl
  | ty _ => cases r; rfl
theorem RelV.inj {x y : V} {u : Value} (r : RelV x u) (q : RelV y u) : x = y := Option.some.inj (r.abs.symm.trans q.abs)
theorem Vals.inj : ∀ {xs ys : List V} {us : List Value}, Vals xs us → Vals ys us → xs = ys
  | _, _, _, .nil, .nil => rfl
  | _, _, _, .cons r t, .cons r' t' => by rw [r.inj r', Vals.inj t t']
section
variable {X : Cx} {pins : List (Addr × Obj)} {σ : St} {H : Hp} {s : Shared} {a : Addr} {xs ys : List V}
theorem SqL.of {K : PySem.W.Frag} (h : H a = some (.lst xs)) : SqL K H a xs := .inl (.inl h)
theorem SqT.of {K : PySem.W.Frag} (h : H a = some (.tup xs)) : SqT K H a xs := .inl (.inl h)
theorem Inv.list (I : Inv X pins σ H s) (h : SqL X.K H a xs) : ∃ its : List Value, Vals xs its ∧ PlainL s.heap a its.toArray ∧ xs.length ≤ sizeLine := by
  rcases h with h | ⟨o, its, n, hk, hc, hd, hs, hz, r⟩
  · obtain ⟨z, its, n, r, e⟩ := h.ok I.hok
    exact ⟨its, r, ⟨_, n, e, rfl, rfl, rfl⟩, z⟩
  · refine ⟨its.toList, r, ⟨o, n, I.kIn a o hk, hc, hd, by simpa using hs⟩, ?_⟩
    have e := r.length
    simp only [Array.length_toList] at e
    omega
theorem Inv.tuple (I : Inv X pins σ H s) (h : SqT X.K H a xs) : ∃ its : List Value, Vals xs its ∧ IsTup s.heap a its.toArray ∧ xs.length ≤ sizeLine := by
  rcases h with h | ⟨o, its, n, hk, hc, hs, hz, r⟩
  · obtain ⟨z, its, r, p⟩ := h.ok I.hok
    exact ⟨its, r, p, z⟩
  · refine ⟨its.toList, r, ⟨o, I.kIn a o hk, hc, n, by simpa using hs⟩, ?_⟩
    have e := r.length
    simp only [Array.length_toList] at e
    omega
theorem Inv.list_inj (I : Inv X pins σ H s) (h : SqL X.K H a xs) (h' : SqL X.K H a ys) : xs = ys := by
  obtain ⟨its, r, ⟨o, n, e, _, _, d⟩, _⟩ := I.list h
  obtain ⟨its', r', ⟨o', n', e', _, _, d'⟩, _⟩ := I.list h'
  rw [e] at e'; cases e'
  rw [d] at d'
  injection d' with d1 _
  have : its = its' := by simpa using congrArg Array.toList d1
  subst this
  exact r.inj r'
end

/-! ### another wish about exceptions -/
abbrev Cx.wish (X : Cx) (E : Value → Shared → Prop) : Cx := { X with xe := E }
/-- no exception leaves -/
abbrev Cx.nox (X : Cx) : Cx := X.wish fun _ _ => False
theorem Cx.Ok.wish {X : Cx} (ok : X.Ok) (E : Value → Shared → Prop) : (X.wish E).Ok :=
  ⟨ok.mod, ok.kind, ok.glob, ok.blt, ok.above, ok.inj, ok.has, ok.cab, ok.hd, ok.frames, ok.stk, ok.exf, ok.bs, ok.bsz, ok.noex, ok.exfs, ok.funs, ok.frf⟩
theorem Cx.Ok.unwish {X : Cx} {E : Value → Shared → Prop} (ok : (X.wish E).Ok) : X.Ok :=
  ⟨ok.mod, ok.kind, ok.glob, ok.blt, ok.above, ok.inj, ok.has, ok.cab, ok.hd, ok.frames, ok.stk, ok.exf, ok.bs, ok.bsz, ok.noex, ok.exfs, ok.funs, ok.frf⟩
section
variable {X : Cx} {pins : List (Addr × Obj)} {σ : St} {H : Hp} {s : Shared} {E : Value → Shared → Prop}
theorem Inv.wish (I : Inv X pins σ H s) (E : Value → Shared → Prop) : Inv (X.wish E) pins σ H s := ⟨I.ok.wish E, I.os, I.bare, I.base, I.loc, I.cell, I.free, I.freeC, I.pin, I.hok, I.len⟩
theorem Inv.unwish (I : Inv (X.wish E) pins σ H s) : Inv X pins σ H s := ⟨I.ok.unwish, I.os, I.bare, I.base, I.loc, I.cell, I.free, I.freeC, I.pin, I.hok, I.len⟩
theorem SP.unwish {D : Ends} {f : Flow} {s' : Shared} (h : SP (X.wish E) pins D f s') : SP X pins D f s' := by
  cases f with
  | next => obtain ⟨σ', H', I, q⟩ := h; exact ⟨σ', H', I.unwish, q⟩
  | brk => obtain ⟨σ', H', I, q⟩ := h; exact ⟨σ', H', I.unwish, q⟩
  | cont => obtain ⟨σ', H', I, q⟩ := h; exact ⟨σ', H', I.unwish, q⟩
  | ret u => obtain ⟨v, σ', H', I, r, q⟩ := h; exact ⟨v, σ', H', I.unwish, r, q⟩
theorem PE.nox {e : Expr} {t : TE} (h : PE X.nox e t) : PE X e t := fun pins s σ H Q I hw =>
  wpAny_mono (h pins s σ H Q (I.wish _) hw) (fun _ _ ⟨v, H', I', r, q⟩ => ⟨v, H', I'.unwish, r, q⟩) fun _ _ z => False.elim z
theorem PT.nox {e : Expr} {t : TT} (h : PT X.nox e t) : PT X e t := fun pins s σ H Q I hw =>
  wpAny_mono (h pins s σ H Q (I.wish _) hw) (fun _ _ ⟨H', I', q⟩ => ⟨H', I'.unwish, q⟩) fun _ _ z => False.elim z
theorem PSs.nox {st : List Stmt} {t : TS} (h : PSs X.nox st t) : PSs X st t := fun pins s σ H D I hw =>
  wpAny_mono (h pins s σ H D (I.wish _) hw) (fun _ _ q => q.unwish) fun _ _ z => False.elim z
end

/-! ### blocks and small statements -/
section
variable {X : Cx} {st : Stmt} {rest : List Stmt} {t u : TS} {e : Expr} {te : TE} {pos : Pos}
def tNext : TS := fun D σ H => D.nx σ H
def tSeq (t u : TS) : TS := fun D σ H => t { D with nx := u D } σ H
theorem pss_nil : PSs X [] tNext := fun _ _ σ H _ I h => wpAny_execs_nil ⟨σ, H, I, h⟩
theorem pss_cons (h1 : PS X st t) (h2 : PSs X rest u) : PSs X (st :: rest) (tSeq t u) := by
  intro pins s σ H D I h
  refine wpAny_execs_cons (thn (h1 pins s σ H { D with nx := u D } I h) fun f s1 q => ?_)
  cases f with
  | next =>
    obtain ⟨σ', H', I', q⟩ := q
    exact h2 pins s1 σ' H' D I' q
  | ret v => exact q
  | brk => exact q
  | cont => exact q
/-- in a def's body nothing is shown -/
theorem Inv.quiet {pins : List (Addr × Obj)} {σ : St} {H : Hp} {s : Shared} (I : Inv X pins σ H s) : interactive X.env = false := by simp [interactive, I.ok.kind]
/-- an expression whose value is dropped -/
def tDrop (te : TE) : TS := fun D σ H => te σ H fun _ H1 => D.nx σ H1
theorem ps_expr (he : PE X e te) (hs : swapsWith e none pos.line X.env = pure false := by rfl) : PS X (.Expr e pos) (tDrop te) := by
  intro pins s σ H D I h
  exact wpAny_Expr_any (thn (he pins s σ H _ I h) fun v s1 ⟨x, H1, I1, r1, q1⟩ => ⟨σ, H1, I1, q1⟩) I.quiet hs
def tRet (te : TE) : TS := fun D σ H => te σ H D.rt
theorem ps_ret (he : PE X e te) : PS X (.Return (some e) pos) (tRet te) := by
  intro pins s σ H D I h
  exact wpAny_Return_some (thn (he pins s σ H _ I h) fun v s1 ⟨x, H1, I1, r1, q1⟩ => ⟨x, σ, H1, I1, r1, q1⟩)
def tIfS (c : TT) (t u : TS) : TS := fun D σ H => c σ H fun b H1 => if b = true then t D σ H1 else u D σ H1
theorem ps_if {c : Expr} {a b : List Stmt} {tc : TT} (hc : PT X c tc) (ha : PSs X a t) (hb : PSs X b u) : PS X (.If c a b pos) (tIfS tc t u) := by
  intro pins s σ H D I h
  refine wpAny_If (thn (hc pins s σ H _ I h) fun d s1 ⟨H1, I1, q1⟩ => ?_)
  cases d with
  | true => exact ha pins s1 σ H1 D I1 q1
  | false => exact hb pins s1 σ H1 D I1 q1
/-- code that the proof never comes to -/
def tNever : TS := fun _ _ _ => False
theorem ps_never : PS X st tNever := fun _ _ _ _ _ _ h => h.elim
end

/-! ### targets -/
abbrev TG := V → St → Hp → (St → Hp → Prop) → Prop
abbrev TGs := List V → St → Hp → (St → Hp → Prop) → Prop
def PG (X : Cx) (target : Expr) (t : TG) : Prop :=
  ∀ (pins : List (Addr × Obj)) (s : Shared) (σ : St) (H : Hp) (v : V) (u : Value) (Q : St → Hp → Prop), Inv X pins σ H s → RelV v u → t v σ H Q →
    wpAny (model X.prog X.w) X.A (assign target X.env u) (fun _ s' => ∃ σ' H', Inv X pins σ' H' s' ∧ Q σ' H') X.xe s
/-- several targets, one after another -/
def PGs (X : Cx) (ts : List Expr) (t : TGs) : Prop :=
  ∀ (pins : List (Addr × Obj)) (s : Shared) (σ : St) (H : Hp) (vs : List V) (us : List Value) (Q : St → Hp → Prop), Inv X pins σ H s → Vals vs us → t vs σ H Q →
    wpAny (model X.prog X.w) X.A (assignInOrder ((assignEach ts X.env).map (·.2)) us) (fun _ s' => ∃ σ' H', Inv X pins σ' H' s' ∧ Q σ' H') X.xe s
section
variable {X : Cx} {pos : Pos}
def gName (i : Nat) : TG := fun v σ H Q => Q (σ.set i (some v)) H
theorem pg_name {i : Nat} {x : Str} (hN : X.N.Nodup) (hi : X.N[i]? = some x) (hx : Loc X.env.scope x) (hf : X.fn x = true ∨ X.env.scope.names.lookup x = some .local := by first | exact .inl rfl | exact .inr rfl | assumption) : PG X (.Name x pos) (gName i) := by
  intro pins s σ H v u Q I r h
  exact wpAny_assign_Name (store_ok I hN hi hx r (fun s' I' => ⟨_, H, I', h⟩) hf)
def gNil : TGs := fun vs σ H Q => vs = [] ∧ Q σ H
def gCons (t : TG) (u : TGs) : TGs := fun vs σ H Q => ∃ v r, vs = v :: r ∧ t v σ H fun σ' H' => u r σ' H' Q
theorem pgs_nil : PGs X [] gNil := by
  intro pins s σ H vs us Q I r h
  obtain ⟨e, h⟩ := h
  subst e
  cases r
  exact assignInOrder_nil ⟨σ, H, I, h⟩
theorem pgs_cons {e : Expr} {es : List Expr} {t : TG} {u : TGs} (h1 : PG X e t) (h2 : PGs X es u)
    (hs : (assignEach (e :: es) X.env).map (·.2) = assign e X.env :: (assignEach es X.env).map (·.2) := by rfl) : PGs X (e :: es) (gCons t u) := by
  intro pins s σ H vs us Q I r h
  obtain ⟨v, vr, e1, h⟩ := h
  subst e1
  cases r with
  | cons r rr =>
    rw [hs]
    refine assignInOrder_cons (thn (h1 pins s σ H _ _ _ I r h) fun _ s1 ⟨σ1, H1, I1, q1⟩ => ?_)
    exact h2 pins s1 σ1 H1 _ _ Q I1 rr q1
/-- (a, b, ..) = a tuple of that length -/
def gTup (K : PySem.W.Frag) (n : Nat) (t : TGs) : TG := fun v σ H Q => ∃ a xs, v = .ref a ∧ SqT K H a xs ∧ xs.length = n ∧ t xs σ H Q
theorem pg_tup {es : List Expr} {k : Nat} {t : TGs} {n : Nat} (hc : X.calm = true) (h : PGs X es t)
    (hn : (assignEach es X.env).length = n := by rfl) (hst : (assignEach es X.env).findIdx? (·.1) = none := by rfl) : PG X (.Tuple es k pos) (gTup X.K n t) := by
  intro pins s σ H v u Q I r hw
  obtain ⟨a, xs, e1, hq, hl, hw⟩ := hw
  subst e1
  cases r
  obtain ⟨its, rv, ht, hz⟩ := I.tuple hq
  refine assign_Tuple_tuple (I.ok.hd hc) ht (by simp [hn, ← hl, rv.length]) hst fun h' hx => ?_
  have I1 : Inv X pins σ H { s with heap := h' } := I.kept (t' := s.toks) fun b o e => hx b o (Nat.ne_of_lt (Heap.lt_size e)) e
  exact h pins _ σ H xs _ Q I1 (by simpa using rv) hw
/-- target = value -/
def tAsg (te : TE) (g : TG) : TS := fun D σ H => te σ H fun x H1 => g x σ H1 D.nx
/-- name = value -/
theorem ps_set {i : Nat} {x : Str} {e : Expr} {te : TE} {pos' : Pos} (hN : X.N.Nodup) (hi : X.N[i]? = some x) (hx : Loc X.env.scope x) (he : PE X e te) (hs : swapsWith e (some (.Name x pos')) pos.line X.env = pure false := by rfl) (hf : X.fn x = true ∨ X.env.scope.names.lookup x = some .local := by first | exact .inl rfl | exact .inr rfl | assumption) :
    PS X (.Assign [.Name x pos'] e pos) (tAsg te (gName i)) := by
  intro pins s σ H D I h
  refine wpAny_Assign_Name (thn (he pins s σ H _ I h) fun v s1 ⟨y, H1, I1, r1, q1⟩ => ?_) hs
  exact store_ok I1 hN hi hx r1 (fun s2 I2 => ⟨_, H1, I2, q1⟩) hf
end

/-! ### while -/
section
variable {X : Cx} {pos : Pos}
/-- the invariant W with its measure -/
def tWhile (c : TT) (tb : TS) : TS := fun D σ H => ∃ W : Nat → St → Hp → Prop, (∃ m, W m σ H) ∧ ∀ m σ H, W m σ H →
  c σ H fun b H1 => if b = true then ∃ N : St → Hp → Prop, (∀ σ' H', N σ' H' → ∃ m', m' < m ∧ W m' σ' H') ∧ tb { D with nx := N, ct := N, bk := D.nx } σ H1 else D.nx σ H1
theorem ps_while {c : Expr} {body : List Stmt} {tc : TT} {tb : TS} (hp : PassesOwn (model X.prog X.w) X.A X.env X.xe) (hc : PT X c tc) (hb : PSs X body tb) : PS X (.While c body [] pos) (tWhile tc tb) := by
  intro pins s σ H D I h
  obtain ⟨W, ⟨m0, w0⟩, turn⟩ := h
  refine wpAny_While (codeAny_whileLoop (fun n s' => ∃ σ' H', Inv X pins σ' H' s' ∧ W n σ' H') ?_ m0 ⟨σ, H, I, w0⟩)
  rintro n s1 ⟨σ1, H1, I1, w1⟩
  refine wpAny_passesOwn hp (thn (hc pins s1 σ1 H1 _ I1 (turn n σ1 H1 w1)) fun b s2 ⟨H2, I2, q2⟩ => ?_)
  cases b with
  | true =>
    obtain ⟨N, hN, q2⟩ := q2
    rw [if_pos rfl]
    refine wpAny_passesOwn hp (thn (hb pins s2 σ1 H2 _ I2 q2) fun f s3 q3 => ?_)
    cases f with
    | next =>
      obtain ⟨σ3, H3, I3, n3⟩ := q3
      obtain ⟨m', hm, w3⟩ := hN σ3 H3 n3
      exact ⟨m', hm, σ3, H3, I3, w3⟩
    | cont =>
      obtain ⟨σ3, H3, I3, n3⟩ := q3
      obtain ⟨m', hm, w3⟩ := hN σ3 H3 n3
      exact ⟨m', hm, σ3, H3, I3, w3⟩
    | brk => exact q3
    | ret v => exact q3
  | false =>
    rw [if_neg Bool.false_ne_true]
    exact wpAny_execs_nil ⟨σ1, H2, I2, q2⟩
end

/-! ### what a loop or a comprehension walks -/
/-- at turn i: it yields x (the heap may grow), or it stops -/
structure It where
  go : Nat → Hp → Prop
  yld : Nat → Hp → V → Hp → Prop
  stop : Nat → Hp → Prop
/-- the iterator's own objects may turn: they are not the frame's, not pinned, younger than the entry (or a comprehension's own) -/
def FpOk (X : Cx) (pins : List (Addr × Obj)) (H : Hp) (b : Addr) : Prop :=
  H b = none ∧ b ≠ X.env.locals ∧ b ∉ X.fs ∧ (b ∈ X.ex ∨ X.s₀.heap.objs.size ≤ b) ∧ (∀ x c, X.env.cells.lookup x = some c → c ≠ b) ∧ ∀ p ∈ X.pn ++ pins, p.1 ≠ b
theorem Inv.fpOk {X : Cx} {pins : List (Addr × Obj)} {σ : St} {H H' : Hp} {s : Shared} {b : Addr} (I : Inv X pins σ H s) (hb : s.heap.objs.size ≤ b) (hn : H' b = none) : FpOk X pins H' b := by
  refine ⟨hn, Nat.ne_of_gt (Nat.lt_of_lt_of_le I.lt hb), I.nofs hb, .inr (Nat.le_trans I.sz hb), fun x c e z => ?_, fun p hp z => ?_⟩
  · obtain ⟨v, q⟩ := I.cell x c e
    exact absurd (Nat.lt_of_lt_of_le q.lt (by rw [z]; exact hb)) (Nat.lt_irrefl _)
  · exact absurd (Nat.lt_of_lt_of_le (Heap.lt_size (I.pin p hp).1) (by rw [z]; exact hb)) (Nat.lt_irrefl _)
structure Turn (P : Program) (w : World) (K : PySem.W.Frag) (tg : Expr) (J : It) (fp : List Addr) (it : Addr) (tn : Nat → Heap → Prop) : Prop where
  mem : it ∈ fp
  obj : ∀ i h, tn i h → ∀ b ∈ fp, ∃ o, h.get? b = some o ∧ ∀ v, o.data ≠ .cell v
  keep : ∀ i h h', tn i h → (∀ b ∈ fp, ∀ o, h.get? b = some o → h'.get? b = some o) → tn i h'
  item : ∀ (X : Cx), X.prog = P → X.w = w → X.K = K → X.calm = true → ∀ (i : Nat) (pins : List (Addr × Obj)) (s : Shared) (σ : St) (H : Hp) (E : Value → Shared → Prop), Inv X pins σ H s → (∀ b ∈ fp, FpOk X pins H b) → tn i s.heap → J.go i H →
    wpAny (model P w) X.A (pyNext (.ref it)) (fun r s1 => ∃ u, r = some u ∧
      wpAny (model P w) X.A (letOwnedTupleGo tg (.ref it) u) (fun _ s2 => ∃ x H', Inv X pins σ H' s2 ∧ RelV x u ∧ J.yld i H x H' ∧ tn (i + 1) s2.heap ∧ ∀ b ∈ fp, H' b = none) E s1) E s
  done : ∀ (X : Cx), X.prog = P → X.w = w → X.K = K → X.calm = true → ∀ (i : Nat) (pins : List (Addr × Obj)) (s : Shared) (σ : St) (H : Hp) (E : Value → Shared → Prop), Inv X pins σ H s → (∀ b ∈ fp, FpOk X pins H b) → tn i s.heap → J.stop i H →
    wpAny (model P w) X.A (pyNext (.ref it)) (fun r s1 => r = none ∧ Inv X pins σ H s1) E s
  self : ∀ (A : Around) (i : Nat) (s : Shared) (Q : Value → Shared → Prop) (E : Value → Shared → Prop), tn i s.heap → Q (.ref it) s → wpAny (model P w) A (pyIter (.ref it)) Q E s
abbrev TI := St → Hp → (It → Hp → Prop) → Prop
/-- an iterator has come -/
def PIE (X : Cx) (pins : List (Addr × Obj)) (σ : St) (tg : Expr) (R : It → Hp → Prop) (itv : Value) (s2 : Shared) : Prop :=
  ∃ (it : Addr) (fp : List Addr) (tn : Nat → Heap → Prop) (J : It) (H' : Hp), itv = .ref it ∧ Inv X pins σ H' s2 ∧ Turn X.prog X.w X.K tg J fp it tn ∧ tn 0 s2.heap ∧ (∀ b ∈ fp, FpOk X pins H' b) ∧ R J H'
def PI (X : Cx) (tg iter : Expr) (wi : TI) : Prop :=
  ∀ (pins : List (Addr × Obj)) (s : Shared) (σ : St) (H : Hp) (R : It → Hp → Prop), Inv X pins σ H s → wi σ H R →
    wpAny (model X.prog X.w) X.A (eval iter X.env) (fun v s1 => wpAny (model X.prog X.w) X.A (pyIter v) (PIE X pins σ tg R) X.xe s1) X.xe s

/-- the step ahead of the store is nothing for an iterator that keeps no tuple -/
theorem go_of {M : Model} {A : Around} {E : Value → Shared → Prop} {s : Shared} {tg : Expr} {it : Addr} {u : Value} {o : Obj} {n : String} {vs : Array Value} {Q : Unit → Shared → Prop} (ho : s.heap.get? it = some o) (hc : o.cls = .type n) (hd : o.data = .fields vs)
    (hn : ["enumerate", "zip", "dict_itemiterator", "dict_reverseitemiterator", "odict_iterator", "itertools.zip_longest", "itertools.pairwise"].contains n = false) (hQ : Q () s) : wpAny M A (letOwnedTupleGo tg (.ref it) u) Q E s := by
  unfold letOwnedTupleGo
  cases tg <;> first
    | exact wpAny_pure hQ
    | (cases u <;> first
        | exact wpAny_pure hQ
        | (refine wpAny_bind (wpAny_load ho ?_)
           rw [hc, hd]
           show wpAny M A (if (["enumerate", "zip", "dict_itemiterator", "dict_reverseitemiterator", "odict_iterator", "itertools.zip_longest", "itertools.pairwise"].contains n && vs[0]? == some (rawInt _)) = true then _ else _) Q E s
           rw [if_neg (by intro h; rw [hn, Bool.false_and] at h; cases h)]
           exact wpAny_pure hQ))

/-- the list at a, as it stands at each turn (a loop may append to it) -/
def Itl (K : PySem.W.Frag) (a : Addr) : It :=
  ⟨fun i H => ∃ xs x, SqL K H a xs ∧ xs[i]? = some x, fun i H x H' => H' = H ∧ ∀ xs, SqL K H a xs → xs[i]? = some x, fun i H => ∃ xs, SqL K H a xs ∧ xs.length ≤ i⟩
/-- lo, lo + 1, .. (n of them) -/
def Itr (lo : Int) (n : Nat) : It := ⟨fun i _ => i < n, fun i H x H' => H' = H ∧ x = .int (lo + i), fun i _ => n ≤ i⟩
theorem turn_list {P : Program} {w : World} {K : PySem.W.Frag} {tg : Expr} (a it : Addr) : Turn P w K tg (Itl K a) [it] it (fun i h => h.IsListIter it a i) where
  mem := by simp
  obj := fun i h st b hb => by
    have e : b = it := by simpa using hb
    subst e
    obtain ⟨o, e, c, d⟩ := st
    exact ⟨o, e, fun v z => by rw [d] at z; cases z⟩
  keep := fun i h h' st k => st.at fun o e => k it (by simp) o e
  item := by
    intro X hP hw hK hc i pins s σ H E I hf st hg
    subst hP hw hK
    obtain ⟨xs, x, hq, hx⟩ := hg
    obtain ⟨its, rv, p, hz⟩ := I.list hq
    obtain ⟨u, hu, ru⟩ := rv.get hx
    obtain ⟨f0, f1, f2, f3, f4, f5⟩ := hf it (by simp)
    refine wpAny_pyNext_list_item st p.isList (x := u) (by simpa using hu) fun h' st' sb => ?_
    have I1 : Inv X pins σ H { s with heap := h' } := I.turned (t' := s.toks) (fun b o hb e => (sb.2 b hb).trans e) f0 f1 f3 f4 f5
    obtain ⟨o, e, c, d⟩ := id st'
    exact ⟨u, rfl, go_of (s := { s with heap := h' }) e c d (by decide) ⟨x, H, I1, ru, ⟨rfl, fun ys hy => by rw [I.list_inj hy hq]; exact hx⟩, st', fun b hb => (hf b hb).1⟩⟩
  done := by
    intro X hP hw hK hc i pins s σ H E I hf st hg
    subst hP hw hK
    obtain ⟨xs, hq, hx⟩ := hg
    obtain ⟨its, rv, p, hz⟩ := I.list hq
    obtain ⟨f0, f1, f2, f3, f4, f5⟩ := hf it (by simp)
    have hl := rv.length
    exact wpAny_pyNext_list_end (I.ok.hd hc) st p.isList (by simp; omega) fun h' eb => ⟨rfl, I.turned (t' := s.toks) (fun b o hb e => eb b o hb e) f0 f1 f3 f4 f5⟩
  self := fun _ _ _ _ _ st h => wpAny_pyIter_listiter st h
theorem turn_range {P : Program} {w : World} {K : PySem.W.Frag} {tg : Expr} (it : Addr) (lo : Int) (n : Nat) : Turn P w K tg (Itr lo n) [it] it (fun i h => IsRangeIter h it (lo + (i : Nat) * 1) ((n : Int) - (i : Nat)) 1) where
  mem := by simp
  obj := fun i h st b hb => by
    have e : b = it := by simpa using hb
    subst e
    exact ⟨_, st, fun v z => by
      have z' : Data.fields _ = Data.cell v := z
      cases z'⟩
  keep := fun i h h' st k => k it (by simp) _ st
  item := by
    intro X hP hw hK hc i pins s σ H E I hf st hg
    subst hP hw hK
    obtain ⟨f0, f1, f2, f3, f4, f5⟩ := hf it (by simp)
    have W := Walks.range (prog := X.prog) (w := X.w) (I.ok.hd hc) it lo 1 n
    refine W.item i s _ _ hg st fun v h' tk hv st' kk => ?_
    obtain ⟨t, rfl⟩ := hv
    have I1 : Inv X pins σ H { s with heap := h', toks := tk } := I.turned (fun b o hb e => kk b o (by simpa using hb) e) f0 f1 f3 f4 f5
    refine ⟨_, rfl, go_of (s := { s with heap := h', toks := tk }) (n := "range_iterator") st' rfl rfl (by decide) ⟨.int (lo + i), H, I1, ⟨t, ?_⟩, ⟨rfl, rfl⟩, st', fun b hb => (hf b hb).1⟩⟩
    rw [Int.mul_one]
  done := by
    intro X hP hw hK hc i pins s σ H E I hf st hg
    subst hP hw hK
    obtain ⟨f0, f1, f2, f3, f4, f5⟩ := hf it (by simp)
    exact wpAny_pyNext_range_end (I.ok.hd hc) st (by have : n ≤ i := hg; omega) fun h' eb => ⟨rfl, I.turned (t' := s.toks) (fun b o hb e => eb b o hb e) f0 f1 f3 f4 f5⟩
  self := fun _ _ _ _ _ st h => wpAny_pyIter_rangeiter st h
end L2

namespace L2
open PySem PySem.Spec PyProof.Rows
section
variable {X : Cx} {tg : Expr}
def iList (K : PySem.W.Frag) (tl : TE) : TI := fun σ H R => tl σ H fun x H1 => ∃ a, x = .ref a ∧ (∃ xs, SqL K H1 a xs) ∧ R (Itl K a) H1
theorem pi_list {l : Expr} {tl : TE} (hl : PE X l tl) : PI X tg l (iList X.K tl) := by
  intro pins s σ H R I h
  refine thn (hl pins s σ H _ I h) fun v s1 ⟨x, H1, I1, r1, q1⟩ => ?_
  obtain ⟨a, e, ⟨xs, hq⟩, q⟩ := q1
  subst e
  cases r1
  obtain ⟨its, rv, p, hz⟩ := I1.list hq
  refine wpAny_pyIter_list p.isList ?_
  refine ⟨s1.heap.objs.size, [s1.heap.objs.size], _, _, H1, rfl, I1.kept (t' := s1.toks) fun b o e => Heap.get?_push_of_some _ e, turn_list a _, ⟨_, Heap.get?_push_size _ rfl, rfl, rfl⟩, fun b hb => ?_, q⟩
  have e : b = s1.heap.objs.size := by simpa using hb
  subst e
  exact I1.fpOk (Nat.le_refl _) (I1.hok.fresh (Nat.le_refl _))
/-- a range object just made, walked -/
theorem range_it {pins : List (Addr × Obj)} {σ : St} {H : Hp} {s : Shared} {R : It → Hp → Prop} {E : Value → Shared → Prop} {lo hi : Int} {t u v : Tok} {tk : Nat} (I : Inv X pins σ H s) (h1 : -(2 ^ 62) ≤ lo) (h2 : lo < 2 ^ 62) (h3 : -(2 ^ 62) ≤ hi) (h4 : hi < 2 ^ 62)
    (q : R (Itr lo (hi - lo).toNat) H) : wpAny (model X.prog X.w) X.A (pyIter (.ref s.heap.objs.size)) (PIE X pins σ tg R) E { s with heap := s.heap.push { cls := .type "range", data := .fields #[.int lo t, .int hi u, .int 1 v] }, toks := tk } := by
  refine wpAny_pyIter_range (IsRange.new ..) (small_one h1 h2 h3 h4) ?_
  have I1 : Inv X pins σ H { s with heap := s.heap.push { cls := .type "range", data := .fields #[.int lo t, .int hi u, .int 1 v] }, toks := tk } := I.kept fun b o e => Heap.get?_push_of_some _ e
  refine ⟨(s.heap.push { cls := .type "range", data := .fields #[.int lo t, .int hi u, .int 1 v] }).objs.size, [(s.heap.push { cls := .type "range", data := .fields #[.int lo t, .int hi u, .int 1 v] }).objs.size], _, _, H, rfl,
    I1.kept (t' := tk) fun b o e => Heap.get?_push_of_some _ e, turn_range _ lo (hi - lo).toNat, ?_, fun b hb => ?_, q⟩
  · have e1 : lo + ((0 : Nat) : Int) * 1 = lo := by simp
    have e2 : (((hi - lo).toNat : Nat) : Int) - ((0 : Nat) : Int) = Builtin.Range.rangeSize lo hi 1 := by rw [rangeSize_one]; split <;> omega
    show IsRangeIter _ _ (lo + ((0 : Nat) : Int) * 1) ((((hi - lo).toNat : Nat) : Int) - ((0 : Nat) : Int)) 1
    rw [e1, e2]
    exact Heap.get?_push_size _ rfl
  · have e : b = (s.heap.push { cls := .type "range", data := .fields #[.int lo t, .int hi u, .int 1 v] }).objs.size := by simpa using hb
    subst e
    exact I1.fpOk (Nat.le_refl _) (I1.hok.fresh (Nat.le_refl _))
def iRng1 (ta : TA) : TI := fun σ H R => ta σ H fun vs H1 => ∃ j : Int, vs = [.int j] ∧ -(2 ^ 62) ≤ j ∧ j < 2 ^ 62 ∧ R (Itr 0 j.toNat) H1
theorem pi_range1 {a : Expr} {ta : TA} {p pos : Pos} (hg : Gl X "range") (hm : X.mg "range" = none) (ha : PA X [a] ta) (hs : starEach [a] X.env = [(false, eval a X.env)] := by rfl) : PI X tg (.Call (.Name "range" p) [a] [] pos) (iRng1 ta) := by
  intro pins s σ H R I h
  refine Call_ (ld_blt I hg hm boot_range (PyProof.Rows.callWith_type1 (thn (ha pos pins s σ H _ I h) fun us s1 ⟨vs, H1, I1, r1, q1⟩ => ?_) hs rfl))
  obtain ⟨j, e, q1, q2, q⟩ := q1
  subst e
  cases r1 with
  | cons r rr =>
    cases rr
    obtain ⟨t, rfl⟩ := r
    exact call_range_1 (range_it I1 (by omega) (by omega) q1 q2 (by simpa using q))
/-! ### for -/
/-- W: the invariant by the turn and a measure; N: what the body is to reach -/
def tFor (wi : TI) (g : TG) (tb : TS) : TS := fun D σ H => wi σ H fun J H1 => ∃ W : Nat → Nat → St → Hp → Prop, (∃ m, W 0 m σ H1) ∧ ∀ i m σ H, W i m σ H →
  (J.stop i H ∧ D.nx σ H) ∨ (J.go i H ∧ ∃ N : St → Hp → Prop, (∀ σ' H', N σ' H' → ∃ m', m' < m ∧ W (i + 1) m' σ' H') ∧ ∀ x H', J.yld i H x H' → g x σ H' fun σ2 H2 => tb { D with nx := N, ct := N, bk := D.nx } σ2 H2)
/-- the records at fp as they stand -/
def pinsAt (fp : List Addr) (h : Heap) : List (Addr × Obj) := fp.filterMap fun b => (h.get? b).map fun o => (b, o)
theorem mem_pinsAt {fp : List Addr} {h : Heap} {b : Addr} {o : Obj} (hb : b ∈ fp) (e : h.get? b = some o) : (b, o) ∈ pinsAt fp h := List.mem_filterMap.mpr ⟨b, hb, by rw [e]; rfl⟩
theorem of_pinsAt {fp : List Addr} {h : Heap} {p : Addr × Obj} (hp : p ∈ pinsAt fp h) : p.1 ∈ fp ∧ h.get? p.1 = some p.2 := by
  obtain ⟨b, hb, e⟩ := List.mem_filterMap.mp hp
  cases q : h.get? b with
  | none => rw [q] at e; cases e
  | some o =>
    rw [q] at e
    have e' : (b, o) = p := Option.some.inj e
    subst e'
    exact ⟨hb, q⟩
theorem Inv.pinned {pins : List (Addr × Obj)} {σ : St} {H : Hp} {s : Shared} {fp : List Addr} (I : Inv X pins σ H s) (hf : ∀ b ∈ fp, FpOk X pins H b) (ho : ∀ b ∈ fp, ∃ o, s.heap.get? b = some o ∧ ∀ v, o.data ≠ .cell v) : Inv X (pins ++ pinsAt fp s.heap) σ H s :=
  I.pins_of fun p hp => (List.mem_append.mp hp).elim (fun z => I.pin p (List.mem_append_right _ z)) fun z => by
    obtain ⟨hb, e⟩ := of_pinsAt z
    obtain ⟨f0, f1, f2, _⟩ := hf p.1 hb
    obtain ⟨o, e', d⟩ := ho p.1 hb
    rw [e] at e'; cases e'
    exact ⟨e, f0, f1, f2, d⟩
theorem Inv.unpinned {pins pl : List (Addr × Obj)} {σ : St} {H : Hp} {s : Shared} (I : Inv X (pins ++ pl) σ H s) : Inv X pins σ H s := I.pins_of fun p hp => I.pin p (List.mem_append_right _ (List.mem_append_left _ hp))
theorem ps_for {iter : Expr} {body : List Stmt} {wi : TI} {g : TG} {tb : TS} {pos : Pos} (hp : PassesOwn (model X.prog X.w) X.A X.env X.xe) (hc : X.calm = true) (hi : PI X tg iter wi) (hg : PG X tg g) (hb : PSs X body tb)
    (hs : ∀ x, foldedSetIterable iter X.env x = pure x := by intro _; rfl) : PS X (.For tg iter body [] pos) (tFor wi g tb) := by
  intro pins s σ H D I h
  refine wpAny_For (thn (hi pins s σ H _ I h) fun v s1 h1 => thn h1 fun itv s2 h2 => ?_) hs
  obtain ⟨it, fp, tn, J, H2, e, I2, T, st2, f2, W, ⟨m0, w0⟩, turn⟩ := h2
  subst e
  -- what stays true of the iterator's objects through the loop
  have stat : ∀ {H' : Hp}, (∀ b ∈ fp, H' b = none) → ∀ b ∈ fp, FpOk X pins H' b := fun hn b hb => ⟨hn b hb, (f2 b hb).2⟩
  refine codeAny_forLoop_any (fun n s' => ∃ i σ' H', Inv X pins σ' H' s' ∧ tn i s'.heap ∧ (∀ b ∈ fp, H' b = none) ∧ W i n σ' H') ?_ m0 ⟨0, σ, H2, I2, st2, fun b hb => (f2 b hb).1, w0⟩
  rintro n s3 ⟨i, σ3, H3, I3, st3, fr3, w3⟩
  rcases turn i n σ3 H3 w3 with ⟨stop, qn⟩ | ⟨go, N, hN, step⟩
  · refine wpAny_passesOwn hp (thn (T.done X rfl rfl rfl hc i pins s3 σ3 H3 X.xe I3 (stat fr3) st3 stop) fun r s4 ⟨hr, I4⟩ => ?_)
    subst hr
    exact wpAny_execs_nil ⟨σ3, H3, I4, qn⟩
  · refine wpAny_passesOwn hp (thn (T.item X rfl rfl rfl hc i pins s3 σ3 H3 X.xe I3 (stat fr3) st3 go) fun r s4 ⟨u, hr, h4⟩ => ?_)
    subst hr
    refine wpAny_passesOwn hp (thn h4 fun _ s5 ⟨x, H5, I5, r5, y5, st5, fr5⟩ => ?_)
    have I5' := I5.pinned (stat fr5) (T.obj _ _ st5)
    refine wpAny_passesOwn hp (thn (hg _ s5 σ3 H5 x u _ I5' r5 (step x H5 y5)) fun _ s6 ⟨σ6, H6, I6, q6⟩ => ?_)
    refine wpAny_passesOwn hp (thn (hb _ s6 σ6 H6 _ I6 q6) fun f s7 q7 => ?_)
    have again : ∀ {σ7 : St} {H7 : Hp}, Inv X (pins ++ pinsAt fp s5.heap) σ7 H7 s7 → N σ7 H7 → ∃ m, m < n ∧ ∃ i σ' H', Inv X pins σ' H' s7 ∧ tn i s7.heap ∧ (∀ b ∈ fp, H' b = none) ∧ W i m σ' H' := fun {σ7 H7} I7 n7 => by
      obtain ⟨m', hm, w7⟩ := hN σ7 H7 n7
      refine ⟨m', hm, i + 1, σ7, H7, I7.unpinned, T.keep _ _ _ st5 fun b hb o e => (I7.pin (b, o) (List.mem_append_right _ (List.mem_append_right _ (mem_pinsAt hb e)))).1, fun b hb => ?_, w7⟩
      obtain ⟨o, e, d⟩ := T.obj _ _ st5 b hb
      exact (I7.pin (b, o) (List.mem_append_right _ (List.mem_append_right _ (mem_pinsAt hb e)))).2.1
    cases f with
    | next => obtain ⟨σ7, H7, I7, n7⟩ := q7; exact again I7 n7
    | cont => obtain ⟨σ7, H7, I7, n7⟩ := q7; exact again I7 n7
    | brk => obtain ⟨σ7, H7, I7, q7⟩ := q7; exact ⟨σ7, H7, I7.unpinned, q7⟩
    | ret v => obtain ⟨x7, σ7, H7, I7, r7, q7⟩ := q7; exact ⟨x7, σ7, H7, I7.unpinned, r7, q7⟩
end

/-! ### the forms one uses -/
end L2

namespace L2
open PySem PySem.Spec PyProof.Rows

abbrev R2 := V → V → Hp → VK → Prop
/-- a two-place operation on values: f is binaryOp op, inplaceOp op or compareOp op -/
def OpR (X : Cx) (f : Value → Value → Sem Value) (r : R2) : Prop :=
  ∀ (pins : List (Addr × Obj)) (s : Shared) (σ : St) (H : Hp) (x y : V) (v u : Value) (Q : VK), Inv X pins σ H s → RelV x v → RelV y u → r x y H Q →
    wpAny (model X.prog X.w) X.A (f v u) (EP X pins σ Q) X.xe s
/-- a one-place operation -/
def UnR (X : Cx) (f : Value → Sem Value) (r : V → Hp → VK → Prop) : Prop :=
  ∀ (pins : List (Addr × Obj)) (s : Shared) (σ : St) (H : Hp) (x : V) (v : Value) (Q : VK), Inv X pins σ H s → RelV x v → r x H Q →
    wpAny (model X.prog X.w) X.A (f v) (EP X pins σ Q) X.xe s
/-- a call of a value that is known (a builtin, a type) with values -/
def CallR (X : Cx) (f : Value) (r : List V → Hp → VK → Prop) : Prop :=
  ∀ (pins : List (Addr × Obj)) (s : Shared) (σ : St) (H : Hp) (xs : List V) (us : List Value) (Q : VK), Inv X pins σ H s → Vals xs us → r xs H Q →
    wpAny (model X.prog X.w) X.A (call f us) (EP X pins σ Q) X.xe s
def tOp (r : R2) (ta tb : TE) : TE := fun σ H Q => ta σ H fun x H1 => tb σ H1 fun y H2 => r x y H2 Q
def tUn (r : V → Hp → VK → Prop) (ta : TE) : TE := fun σ H Q => ta σ H fun x H1 => r x H1 Q
/-- ints in, under C, and a value out -/
def rI (C : Int → Int → Prop) (g : Int → Int → V) : R2 := fun x y H Q => ∃ i j, x = .int i ∧ y = .int j ∧ C i j ∧ Q (g i j) H
def rI0 (g : Int → Int → V) : R2 := fun x y H Q => ∃ i j, x = .int i ∧ y = .int j ∧ Q (g i j) H
def rU (g : Int → V) : V → Hp → VK → Prop := fun x H Q => ∃ i, x = .int i ∧ Q (g i) H

section
variable {X : Cx} {a b c : Expr} {ta tb tc : TE} {pos : Pos}

theorem binT (ha : PE X a ta) (hb : PE X b tb) {pins : List (Addr × Obj)} {s : Shared} {σ : St} {H : Hp} {R : V → V → Hp → Prop} (I : Inv X pins σ H s)
    (h : ta σ H fun x H1 => tb σ H1 fun y H2 => R x y H2) {Q : Value → Shared → Prop} {f : Value → Value → Sem Value}
    (hf : ∀ v u s2 x y H2, Inv X pins σ H2 s2 → RelV x v → RelV y u → R x y H2 → wpAny (model X.prog X.w) X.A (f v u) Q X.xe s2) :
    wpAny (model X.prog X.w) X.A (eval a X.env) (fun v s₁ => wpAny (model X.prog X.w) X.A (eval b X.env) (fun u s₂ => wpAny (model X.prog X.w) X.A (f v u) Q X.xe s₂) X.xe s₁) X.xe s := by
  refine thn (ha pins s σ H _ I h) fun v s1 ⟨x, H1, I1, r1, q1⟩ => ?_
  refine thn (hb pins s1 σ H1 _ I1 q1) fun u s2 ⟨y, H2, I2, r2, q2⟩ => ?_
  exact hf v u s2 x y H2 I2 r1 r2 q2

theorem pe_op {op : Operator} {r : R2} (ho : OpR X (binaryOp op) r) (ha : PE X a ta) (hb : PE X b tb) : PE X (.BinOp a op b pos) (tOp r ta tb) := by
  intro pins s σ H Q I h
  exact wpAny_BinOp (binT ha hb I h fun v u s2 x y H2 I2 rx ry q => ho pins s2 σ H2 x y v u Q I2 rx ry q)
theorem pe_un {op : UnaryOp} {r : V → Hp → VK → Prop} (ho : UnR X (unaryOp op) r) (ha : PE X a ta) : PE X (.UnaryOp op a pos) (tUn r ta) := by
  intro pins s σ H Q I h
  exact UnaryOp_ (thn (ha pins s σ H _ I h) fun v s1 ⟨x, H1, I1, r1, q1⟩ => ho pins s1 σ H1 x v Q I1 r1 q1)
/-! ### ints -/
theorem opI {f : Value → Value → Sem Value} {C : Int → Int → Prop} {g : Int → Int → Int}
    (rule : ∀ (i j : Int) (t u : Tok) (s : Shared) (Q : Value → Shared → Prop) (E : Value → Shared → Prop), C i j → Q (.int (g i j) s.toks) { s with toks := s.toks + 1 } → wpAny (model X.prog X.w) X.A (f (.int i t) (.int j u)) Q E s) :
    OpR X f (rI C fun i j => .int (g i j)) := by
  intro pins s σ H x y v u Q I rx ry h
  obtain ⟨i, j, rfl, rfl, hc, q⟩ := h
  obtain ⟨t, rfl⟩ := rx
  obtain ⟨t', rfl⟩ := ry
  exact rule i j t t' s _ _ hc ⟨.int (g i j), H, I.tok _, ⟨_, rfl⟩, q⟩
theorem opI0 {f : Value → Value → Sem Value} {g : Int → Int → Int}
    (rule : ∀ (i j : Int) (t u : Tok) (s : Shared) (Q : Value → Shared → Prop) (E : Value → Shared → Prop), Q (.int (g i j) s.toks) { s with toks := s.toks + 1 } → wpAny (model X.prog X.w) X.A (f (.int i t) (.int j u)) Q E s) :
    OpR X f (rI0 fun i j => .int (g i j)) := by
  intro pins s σ H x y v u Q I rx ry h
  obtain ⟨i, j, rfl, rfl, q⟩ := h
  obtain ⟨t, rfl⟩ := rx
  obtain ⟨t', rfl⟩ := ry
  exact rule i j t t' s _ _ ⟨.int (g i j), H, I.tok _, ⟨_, rfl⟩, q⟩
theorem opB0 {f : Value → Value → Sem Value} {g : Int → Int → Bool}
    (rule : ∀ (i j : Int) (t u : Tok) (s : Shared) (Q : Value → Shared → Prop) (E : Value → Shared → Prop), Q (.bool (g i j)) s → wpAny (model X.prog X.w) X.A (f (.int i t) (.int j u)) Q E s) :
    OpR X f (rI0 fun i j => .bl (g i j)) := by
  intro pins s σ H x y v u Q I rx ry h
  obtain ⟨i, j, rfl, rfl, q⟩ := h
  obtain ⟨t, rfl⟩ := rx
  obtain ⟨t', rfl⟩ := ry
  exact rule i j t t' s _ _ ⟨.bl (g i j), H, I, rfl, q⟩

def CPow (i j : Int) : Prop := 0 ≤ j ∧ j ≤ 1000000 ∧ i.natAbs < 2 ^ 64
def CMul (i j : Int) : Prop := (-(2 ^ 64) < i ∧ i < 2 ^ 64) ∨ (-(2 ^ 64) < j ∧ j < 2 ^ 64)
theorem CMul.ok {i j : Int} (h : CMul i j) : IntMulOk i j := by
  rcases h with ⟨h1, h2⟩ | ⟨h1, h2⟩
  · exact .of_left (intBits_le_64 h1 h2)
  · exact .of_right (intBits_le_64 h1 h2)
theorem op_add : OpR X (binaryOp .Add) (rI0 fun i j => .int (i + j)) := opI0 fun _ _ _ _ _ _ _ q => add_int q
theorem op_sub : OpR X (binaryOp .Sub) (rI0 fun i j => .int (i - j)) := opI0 fun _ _ _ _ _ _ _ q => sub_int q
theorem op_mul : OpR X (binaryOp .Mult) (rI CMul fun i j => .int (i * j)) := opI fun _ _ _ _ _ _ _ hc q => mul_int q hc.ok
/-- % by a positive divisor of any size -/
theorem op_mod : OpR X (binaryOp .Mod) (rI (fun _ j => 0 < j) fun i j => .int (i % j)) := opI fun i j _ _ _ _ _ hc q => by
  have h1 : (0 : Int) < j := hc
  exact mod_int' (by omega) (by rw [Int.fmod_eq_emod_of_nonneg i (by omega)]; exact q)
theorem op_pow : OpR X (binaryOp .Pow) (rI CPow fun i j => .int (i ^ j.toNat)) := opI fun _ _ _ _ _ _ _ hc q => pow_int_small hc.1 hc.2.1 hc.2.2 q
theorem unI {f : Value → Sem Value} {g : Int → Int}
    (rule : ∀ (i : Int) (t : Tok) (s : Shared) (Q : Value → Shared → Prop) (E : Value → Shared → Prop), Q (.int (g i) s.toks) { s with toks := s.toks + 1 } → wpAny (model X.prog X.w) X.A (f (.int i t)) Q E s) :
    UnR X f (rU fun i => .int (g i)) := by
  intro pins s σ H x v Q I rx h
  obtain ⟨i, rfl, q⟩ := h
  obtain ⟨t, rfl⟩ := rx
  exact rule i t s _ _ ⟨.int (g i), H, I.tok _, ⟨_, rfl⟩, q⟩
theorem un_neg : UnR X (unaryOp .USub) (rU fun i => .int (-i)) := unI fun _ _ _ _ _ q => neg_int q
/-! ### bools among ints: n += (a < b) -/
end

/-! ### comparisons -/
/-- the scalars that == tells apart as data does -/
def scal : V → V → Bool
  | .non, .non => true | .non, .int _ => true | .int _, .non => true | .non, .bl _ => true | .bl _, .non => true | .non, .str _ => true | .str _, .non => true
  | .int _, .int _ => true | .bl _, .bl _ => true | .str _, .str _ => true | .byt _, .byt _ => true
  | .int _, .str _ => true | .str _, .int _ => true | .bl _, .str _ => true | .str _, .bl _ => true
  | _, _ => false
def rEq : R2 := fun x y H Q => scal x y = true ∧ Q (.bl (decide (x = y))) H
def rNe : R2 := fun x y H Q => scal x y = true ∧ Q (.bl (!decide (x = y))) H

theorem dec_int {i j : Int} : decide (V.int i = V.int j) = (i == j) := by
  rw [Bool.eq_iff_iff]
  simp
theorem dec_bl {i j : Bool} : decide (V.bl i = V.bl j) = (i == j) := by
  rw [Bool.eq_iff_iff]
  simp
theorem dec_str {i j : Str} : decide (V.str i = V.str j) = (i == j) := by
  rw [Bool.eq_iff_iff]
  simp
theorem dec_byt {i j : Array UInt8} : decide (V.byt i = V.byt j) = (i.toList == j.toList) := by
  rw [Bool.eq_iff_iff]
  cases i
  cases j
  simp

section
variable {X : Cx} {a b c : Expr} {ta tb tc : TE} {pos : Pos}
theorem fin_bl {pins : List (Addr × Obj)} {σ : St} {H : Hp} {s : Shared} {Q : VK} {k k' : Bool} (I : Inv X pins σ H s) (q : Q (.bl k) H) (e : k = k') : EP X pins σ Q (.bool k') s := by
  subst e
  exact ⟨.bl k, H, I, rfl, q⟩
theorem op_eq : OpR X (compareOp .Eq) rEq := by
  intro pins s σ H x y v u Q I rx ry h
  obtain ⟨hs, q⟩ := h
  cases x with
  | non =>
    cases rx
    cases y with
    | non => cases ry; exact PySem.EqNone.eq_none_none (fin_bl I q (by simp))
    | bl j => cases ry; exact PySem.EqNone.eq_none_bool (fin_bl I q (by simp))
    | int j => obtain ⟨t', rfl⟩ := ry; exact PySem.EqNone.eq_none_int (fin_bl I q (by simp))
    | str j => obtain ⟨t', rfl⟩ := ry; exact PySem.EqNone.eq_none_str (fin_bl I q (by simp))
    | _ => exact absurd (show false = true from hs) Bool.false_ne_true
  | bl i =>
    cases rx
    cases y with
    | non => cases ry; exact PySem.EqNone.eq_bool_none (fin_bl I q (by simp))
    | bl j => cases ry; exact eq_bool (fin_bl I q dec_bl)
    | str j => obtain ⟨t', rfl⟩ := ry; exact PySem.EqMixed.eq_bool_str (fin_bl I q (by simp))
    | _ => exact absurd (show false = true from hs) Bool.false_ne_true
  | int i =>
    obtain ⟨t, rfl⟩ := rx
    cases y with
    | non => cases ry; exact PySem.EqNone.eq_int_none (fin_bl I q (by simp))
    | int j => obtain ⟨t', rfl⟩ := ry; exact eq_int (fin_bl I q dec_int)
    | str j => obtain ⟨t', rfl⟩ := ry; exact PySem.EqMixed.eq_int_str (fin_bl I q (by simp))
    | _ => exact absurd (show false = true from hs) Bool.false_ne_true
  | str i =>
    obtain ⟨t, rfl⟩ := rx
    cases y with
    | non => cases ry; exact PySem.EqNone.eq_str_none (fin_bl I q (by simp))
    | bl j => cases ry; exact PySem.EqMixed.eq_str_bool (fin_bl I q (by simp))
    | int j => obtain ⟨t', rfl⟩ := ry; exact PySem.EqMixed.eq_str_int (fin_bl I q (by simp))
    | str j => obtain ⟨t', rfl⟩ := ry; exact eq_str (fin_bl I q dec_str)
    | _ => exact absurd (show false = true from hs) Bool.false_ne_true
  | byt i =>
    obtain ⟨t, rfl⟩ := rx
    cases y with
    | byt j => obtain ⟨t', rfl⟩ := ry; exact PySem.W.eq_bytes (fin_bl I q dec_byt)
    | _ => exact absurd (show false = true from hs) Bool.false_ne_true
  | _ => cases y <;> exact absurd (show false = true from hs) Bool.false_ne_true
theorem op_ne : OpR X (compareOp .NotEq) rNe := by
  intro pins s σ H x y v u Q I rx ry h
  obtain ⟨hs, q⟩ := h
  cases x with
  | non =>
    cases rx
    cases y with
    | non => cases ry; exact PySem.EqNone.ne_none_none (fin_bl I q (by simp))
    | bl j => cases ry; exact PySem.EqNone.ne_none_bool (fin_bl I q (by simp))
    | int j => obtain ⟨t', rfl⟩ := ry; exact PySem.EqNone.ne_none_int (fin_bl I q (by simp))
    | str j => obtain ⟨t', rfl⟩ := ry; exact PySem.EqNone.ne_none_str (fin_bl I q (by simp))
    | _ => exact absurd (show false = true from hs) Bool.false_ne_true
  | bl i =>
    cases rx
    cases y with
    | non => cases ry; exact PySem.EqNone.ne_bool_none (fin_bl I q (by simp))
    | bl j => cases ry; exact ne_bool (fin_bl I q (congrArg not dec_bl))
    | str j => obtain ⟨t', rfl⟩ := ry; exact PySem.EqMixed.ne_bool_str (fin_bl I q (by simp))
    | _ => exact absurd (show false = true from hs) Bool.false_ne_true
  | int i =>
    obtain ⟨t, rfl⟩ := rx
    cases y with
    | non => cases ry; exact PySem.EqNone.ne_int_none (fin_bl I q (by simp))
    | int j => obtain ⟨t', rfl⟩ := ry; exact ne_int (fin_bl I q (congrArg not dec_int))
    | str j => obtain ⟨t', rfl⟩ := ry; exact PySem.EqMixed.ne_int_str (fin_bl I q (by simp))
    | _ => exact absurd (show false = true from hs) Bool.false_ne_true
  | str i =>
    obtain ⟨t, rfl⟩ := rx
    cases y with
    | non => cases ry; exact PySem.EqNone.ne_str_none (fin_bl I q (by simp))
    | bl j => cases ry; exact PySem.EqMixed.ne_str_bool (fin_bl I q (by simp))
    | int j => obtain ⟨t', rfl⟩ := ry; exact PySem.EqMixed.ne_str_int (fin_bl I q (by simp))
    | str j => obtain ⟨t', rfl⟩ := ry; exact ne_str (fin_bl I q (congrArg not dec_str))
    | _ => exact absurd (show false = true from hs) Bool.false_ne_true
  | byt i =>
    obtain ⟨t, rfl⟩ := rx
    cases y with
    | byt j => obtain ⟨t', rfl⟩ := ry; exact PySem.W.ne_bytes (fin_bl I q (congrArg not dec_byt))
    | _ => exact absurd (show false = true from hs) Bool.false_ne_true
  | _ => cases y <;> exact absurd (show false = true from hs) Bool.false_ne_true

theorem op_lt : OpR X (compareOp .Lt) (rI0 fun i j => .bl (decide (i < j))) := opB0 fun _ _ _ _ _ _ _ q => lt_int q
theorem op_le : OpR X (compareOp .LtE) (rI0 fun i j => .bl (decide (i ≤ j))) := opB0 fun _ _ _ _ _ _ _ q => le_int q
theorem op_gt : OpR X (compareOp .Gt) (rI0 fun i j => .bl (decide (j < i))) := opB0 fun _ _ _ _ _ _ _ q => gt_int q
theorem op_notN : OpR X (compareOp .IsNot) (fun x y H Q => y = .non ∧ Q (.bl (!decide (x = .non))) H) := by
  intro pins s σ H x y v u Q I rx ry h
  obtain ⟨rfl, q⟩ := h
  cases ry
  refine isnot_none_gen (fin_bl I q ?_)
  cases x <;> first
    | (cases rx; rfl)
    | (obtain ⟨t, rfl⟩ := rx; rfl)

/-- two rules for one operation: by cases -/
theorem OpR.or {f : Value → Value → Sem Value} {r r' : R2} (h : OpR X f r) (h' : OpR X f r') : OpR X f (fun x y H Q => r x y H Q ∨ r' x y H Q) := by
  intro pins s σ H x y v u Q I rx ry q
  rcases q with q | q
  · exact h pins s σ H x y v u Q I rx ry q
  · exact h' pins s σ H x y v u Q I rx ry q

theorem nomark (b : Expr) {op : CmpOp} (h : op ≠ .In := by decide) (h2 : op ≠ .NotIn := by decide) : behindInMarks op b = false := by
  have e1 : (op == CmpOp.In) = false := by cases op <;> first | rfl | exact absurd rfl h
  have e2 : (op == CmpOp.NotIn) = false := by cases op <;> first | rfl | exact absurd rfl h2
  cases b <;> simp [behindInMarks, e1, e2]
/-- a comparison as a value; hm: nomark b, or (for in, not in) by with_unfolding_all rfl -/
theorem pe_cmpR {op : CmpOp} {r : R2} (ho : OpR X (compareOp op) r) (ha : PE X a ta) (hb : PE X b tb) (hm : behindInMarks op b = false) : PE X (.Compare a [op] [b] pos) (tOp r ta tb) := by
  intro pins s σ H Q I h
  exact wpAny_Compare1 (binT ha hb I h fun v u s2 x y H2 I2 rx ry q => ho pins s2 σ H2 x y v u Q I2 rx ry q) hm
/-- a reading of a value as a test -/
def tTest (t : TE) : TT := fun σ H Q => t σ H fun x H' => ∃ k, x = .bl k ∧ Q k H'
theorem pt_cmpR {op : CmpOp} {r : R2} (ho : OpR X (compareOp op) r) (ha : PE X a ta) (hb : PE X b tb) (hm : behindInMarks op b = false) : PT X (.Compare a [op] [b] pos) (tTest (tOp r ta tb)) := by
  intro pins s σ H Q I h
  refine wpAny_isTrue_Compare1 (thn (ha pins s σ H _ I h) fun v s1 ⟨x, H1, I1, r1, q1⟩ => thn (hb pins s1 σ H1 _ I1 q1) fun u s2 ⟨y, H2, I2, r2, q2⟩ =>
    thn (ho pins s2 σ H2 x y v u _ I2 r1 r2 q2) fun c s3 ⟨z, H3, I3, r3, k, e, q3⟩ => ?_) hm
  subst e
  cases r3
  exact wpAny_truthy_bool ⟨H3, I3, q3⟩
/-- a op1 b op2 c -/
def tChain (r r' : R2) (ta tb tc : TE) : TE := fun σ H Q => ta σ H fun x H1 => tb σ H1 fun y H2 => r x y H2 fun z H3 => ∃ k, z = .bl k ∧
  (if k = true then tc σ H3 fun w' H4 => r' y w' H4 Q else Q (.bl false) H3)
theorem pt_chain {op op' : CmpOp} {r r' : R2} (ho : OpR X (compareOp op) r) (ho' : OpR X (compareOp op') r') (ha : PE X a ta) (hb : PE X b tb) (hc : PE X c tc)
    (hm : lastMarks [op, op'] [b, c] = false := by with_unfolding_all rfl) : PT X (.Compare a [op, op'] [b, c] pos) (tTest (tChain r r' ta tb tc)) := by
  intro pins s σ H Q I h
  refine isTrue_chain (thn (ha pins s σ H _ I h) fun v s1 ⟨x, H1, I1, r1, q1⟩ => test_link (thn (hb pins s1 σ H1 _ I1 q1) fun u s2 ⟨y, H2, I2, r2, q2⟩ =>
    thn (ho pins s2 σ H2 x y v u _ I2 r1 r2 q2) fun d s3 ⟨z, H3, I3, r3, k, e, q3⟩ => ?_)) hm
  subst e
  cases r3
  refine wpAny_truthy_bool ?_
  cases k with
  | false =>
    obtain ⟨k', e', q'⟩ := q3
    cases e'
    exact ite_ff ⟨H3, I3, q'⟩
  | true =>
    refine ite_tt (test_last (thn (hc pins s3 σ H3 _ I3 q3) fun w' s4 ⟨z', H4, I4, r4, q4⟩ => thn (ho' pins s4 σ H4 y z' u w' _ I4 r2 r4 q4) fun d' s5 ⟨z2, H5, I5, r5, k2, e2, q5⟩ => ?_))
    subst e2
    cases r5
    exact wpAny_truthy_bool ⟨H5, I5, q5⟩

/-! ### truth -/
theorem line63 : (sizeLine : Nat) < 2 ^ 63 := by rw [sizeLine_eq]; decide
/-! ### strs and bytes -/
/-! ### scalar builtins, by CallR -/
theorem vals1 {x : V} {us : List Value} (r : Vals [x] us) : ∃ u, us = [u] ∧ RelV x u := by
  cases r with
  | cons r1 r2 => cases r2; exact ⟨_, rfl, r1⟩
end
end L2

namespace L2
open PySem PySem.Spec PyProof.Rows

/-! ### an instance, its attributes a map -/
structure ObjM (h : Heap) (x dx C : Addr) (mA : Str → Option Value) : Prop where
  obj : h.get? x = some (PySem.W.instObj C dx)
  ns : h.Ns1 dx mA
  ne : dx ≠ x

theorem lookIn_ns {h : Heap} {dx : Addr} {mA : Str → Option Value} (n : h.Ns1 dx mA) : ∃ od, h.get? dx = some od ∧ ∀ name, PySem.W.lookIn name od = some (mA name) := by
  obtain ⟨o, es, ep, ho, hd, hk, _, hm⟩ := n
  refine ⟨o, ho, fun name => ?_⟩
  have e := hm name
  unfold nsFind findBy at e
  rw [← Array.find?_toList] at e
  unfold PySem.W.lookIn
  rw [hd]
  dsimp only
  split
  · rename_i y q
    rw [q] at e
    exact congrArg some e
  · rename_i q
    rw [q] at e
    have a : es.toList.any (·.refKey) = false := by
      rw [List.any_eq_false]
      intro y hy
      obtain ⟨z, t, hkey⟩ := hk y (Array.mem_toList_iff.mp hy)
      simp [DictEntry.refKey, hkey]
    have a' : ¬ es.toList.any (·.refKey) = true := by rw [a]; exact Bool.false_ne_true
    rw [if_neg a']
    exact congrArg some e

theorem ObjM.look {h : Heap} {x dx C : Addr} {mA : Str → Option Value} (I : ObjM h x dx C mA) : ∃ od, PySem.W.InstAt h x (PySem.W.instObj C dx) C (some od) ∧ ∀ name, PySem.W.lookIn name od = some (mA name) :=
  let ⟨od, ho, hl⟩ := lookIn_ns I.ns
  ⟨od, ⟨I.obj, rfl, rfl, ho⟩, hl⟩

section
variable {prog : Program} {w : World} {A : Around} {E : Value → Shared → Prop} {s : Shared} {K : PySem.W.Frag} {x dx C f : Addr} {mA : Str → Option Value} {name : Str} {v : Value}

end

/-! ### the attributes as a list of pairs -/
theorem RelO.some_of {v : V} {o : Option Value} (r : RelO (some v) o) : ∃ u, o = some u ∧ RelV v u := by
  cases o with
  | none => exact (show False from r).elim
  | some u => exact ⟨u, rfl, r⟩
section
variable {P : Program} {w : World} {H H' : Hp} {h h' : Heap} {a C dx : Addr} {fs fs' : List (Str × V)}
theorem ins_get (hok : HOk P w H h) (e : H a = some (.ins C dx fs)) : ∃ mA, ObjM h a dx C mA ∧ (∀ f, RelO (fs.lookup f) (mA f)) ∧ PySem.Within mA (fs.map (·.1)) ∧ fs.length ≤ 1000 ∧ H dx = some (.own a) := by
  obtain ⟨d, z, ne, ob, mA, n, r, q⟩ := (show ObjOk P w H h a (.ins C dx fs) from hok a _ e)
  exact ⟨mA, ⟨ob, n, ne⟩, r, q, z, d⟩
end

/-! ### what of the text a class must have -/
structure Cls (K : PySem.W.Frag) (C : Addr) : Prop where
  pg : PySem.W.plainGet K C Str.empty = true
  hd : PySem.W.hasDictIn K C = true
  po : PySem.W.plainOver K C = true
  sa : PySem.W.findIn K (.ref C) "__setattr__" = some (some (.builtin "object.__setattr__"))
theorem Cls.get {K : PySem.W.Frag} {C : Addr} (c : Cls K C) (f : Str) : PySem.W.plainGet K C f = true := c.pg
section
variable {X : Cx} {pins : List (Addr × Obj)} {σ : St} {H : Hp} {s : Shared} {a C dx : Addr} {fs : List (Str × V)} {f : Str} {v : V} {A : Around} {E : Value → Shared → Prop}

/-- a new instance, tracked, without attributes -/
theorem Inv.made (I : Inv X pins σ H s) : Inv X pins σ (upd (upd H s.heap.objs.size (.own (s.heap.objs.size + 1))) (s.heap.objs.size + 1) (.ins C s.heap.objs.size []))
    { s with heap := (s.heap.push PySem.W.emptyDict).push (PySem.W.instObj C s.heap.objs.size) } := by
  have e1 : (s.heap.push PySem.W.emptyDict).get? s.heap.objs.size = some PySem.W.emptyDict := Heap.get?_push_size s.heap rfl
  have e2 : ((s.heap.push PySem.W.emptyDict).push (PySem.W.instObj C s.heap.objs.size)).get? (s.heap.objs.size + 1) = some (PySem.W.instObj C s.heap.objs.size) := by
    have := Heap.get?_push_size (s.heap.push PySem.W.emptyDict) (o := PySem.W.instObj C s.heap.objs.size) rfl
    rwa [Heap.size_push] at this
  have e3 : (s.heap.push PySem.W.emptyDict).Ns s.heap.objs.size (fun _ => none) := ⟨PySem.W.emptyDict, #[], _, e1, rfl, (fun e he => absurd he (by simp)), fun _ => rfl⟩
  have I1 := I.laid (a := s.heap.objs.size) (o := .own (s.heap.objs.size + 1)) (h' := s.heap.push PySem.W.emptyDict) (t' := s.toks) (fun b u q => Heap.get?_push_of_some _ q) (Nat.le_refl _) ⟨_, e1⟩
  refine I1.laid (a := s.heap.objs.size + 1) (o := .ins C s.heap.objs.size []) (t' := s.toks) (fun b u q => Heap.get?_push_of_some _ q) (Nat.le_of_eq (Heap.size_push _ _)) ?_
  have ne : s.heap.objs.size ≠ s.heap.objs.size + 1 := Nat.ne_of_lt (Nat.lt_succ_self _)
  refine ⟨by rw [upd_ne ne, upd_same], Nat.zero_le _, ne, e2, fun _ => none, (Heap.Ns1.of_empty e3).at fun o q => Heap.get?_push_of_some _ q, fun _ => True.intro, fun y hy => absurd rfl hy⟩

end

/-! ### readings and rules -/
section
variable {X : Cx} {o e value : Expr} {f : Str} {pos pos' tpos : Pos} {ta tv : TE}
end

/-! ### isinstance -/
section
variable {X : Cx} {pins : List (Addr × Obj)} {σ : St} {H : Hp} {s : Shared} {A : Around} {E : Value → Shared → Prop} {Q : Value → Shared → Prop} {c : Value} {b : Bool}
/-- the type of a value, as the fragment's deciders take it; for an instance its class -/
inductive TyOf (K : PySem.W.Frag) (H : Hp) : V → Value → Prop where
  | non : TyOf K H .non (.type "NoneType")
  | bl (x : Bool) : TyOf K H (.bl x) (.type "bool")
  | int (i : Int) : TyOf K H (.int i) (.type "int")
  | str (x : Str) : TyOf K H (.str x) (.type "str")
  | flt (x : UInt64) : TyOf K H (.flt x) (.type "float")
  | lst {a : Addr} {xs : List V} (e : H a = some (.lst xs)) : TyOf K H (.ref a) (.type "list")
  | frz {a : Addr} {o : Obj} {xs : List V} (e : H a = some (.frz o (.lst xs))) : TyOf K H (.ref a) (.type "list")
  | tup {a : Addr} {xs : List V} (e : H a = some (.tup xs)) : TyOf K H (.ref a) (.type "tuple")
  | dK {a : Addr} {kvs : List (Key × V)} (e : H a = some (.dK kvs)) : TyOf K H (.ref a) (.type "dict")
  | dT {a : Addr} {kvs : List (List Key × V)} (e : H a = some (.dT kvs)) : TyOf K H (.ref a) (.type "dict")
  | ins {a C dx : Addr} {fs : List (Str × V)} (e : H a = some (.ins C dx fs)) (cl : Cls K C) (ha : PySem.W.findIn K (.ref C) "__class__" = some (some (.builtin "object.__class__")))
      (hn : PySem.W.specialIn K (.builtin "object.__class__") "__get__" = some (some (.builtin "getset_descriptor.__get__"))) (htk : PySem.W.takesIn K (.builtin "object.__class__") = some true)
      (hm : PySem.W.mroIn K C (.type "object") = some true) : TyOf K H (.ref a) (.ref C)
/-- isinstance(x, c) for one class c, a built-in or an own one: kitOne's answer -/
theorem isinst_ok {x : V} {u t : Value} (I : Inv X pins σ H s) (rx : RelV x u) (ty : TyOf X.K H x t) (e : PySem.W.kitOne X.K t c = some b) (h : ∀ tk, Q (.bool b) { s with toks := tk }) :
    wpAny (model X.prog X.w) A (call (.builtin "isinstance") [u, c]) Q E s := by
  cases ty with
  | non => cases (show u = Value.none from rx); exact PySem.W.kia_one PySem.W.kitx_none I.kIn True.intro e (fun z => nomatch z) h
  | bl y => cases (show u = Value.bool y from rx); exact PySem.W.kia_one PySem.W.kitx_bool I.kIn True.intro e (fun z => nomatch z) h
  | int i => obtain ⟨t, q⟩ := (show ∃ t, u = Value.int i t from rx); cases q; exact PySem.W.kia_one PySem.W.kitx_int I.kIn True.intro e (fun z => nomatch z) h
  | str y => obtain ⟨t, q⟩ := (show ∃ t, u = Value.str y t from rx); cases q; exact PySem.W.kia_one PySem.W.kitx_str I.kIn True.intro e (fun z => nomatch z) h
  | flt y => obtain ⟨t, q⟩ := (show ∃ t, u = Value.float y t from rx); cases q; exact PySem.W.kia_one PySem.W.kitx_float I.kIn True.intro e (fun z => nomatch z) h
  | @lst a xs ea =>
    cases (show u = Value.ref a from rx)
    obtain ⟨_, _, n, _, h1⟩ := (show ObjOk X.prog X.w H s.heap a (.lst xs) from I.hok a _ ea)
    exact PySem.W.kia_one PySem.W.kitx_list I.kIn ⟨_, h1, rfl⟩ e (fun z => nomatch z) h
  | @frz a ob xs ea =>
    cases (show u = Value.ref a from rx)
    obtain ⟨_, _, _, n, _, h1⟩ := (show ObjOk X.prog X.w H s.heap a (.frz ob (.lst xs)) from I.hok a _ ea)
    exact PySem.W.kia_one PySem.W.kitx_list I.kIn ⟨_, h1, rfl⟩ e (fun z => nomatch z) h
  | @tup a xs ea =>
    cases (show u = Value.ref a from rx)
    obtain ⟨_, _, _, p⟩ := (show ObjOk X.prog X.w H s.heap a (.tup xs) from I.hok a _ ea)
    obtain ⟨o, h1, h2, _⟩ := p
    exact PySem.W.kia_one PySem.W.kitx_tuple I.kIn ⟨o, h1, h2⟩ e (fun z => nomatch z) h
  | @dK a kvs ea =>
    cases (show u = Value.ref a from rx)
    obtain ⟨_, _, vs, _, p⟩ := (show ObjOk X.prog X.w H s.heap a (.dK kvs) from I.hok a _ ea)
    obtain ⟨o, es, ep, h1, h2, _⟩ := p
    exact PySem.W.kia_one PySem.W.kitx_dict I.kIn ⟨o, h1, h2.1⟩ e (fun z => nomatch z) h
  | @dT a kvs ea =>
    cases (show u = Value.ref a from rx)
    obtain ⟨_, _, xs, _, o, es, ep, h1, h2, _⟩ := (show ObjOk X.prog X.w H s.heap a (.dT kvs) from I.hok a _ ea)
    exact PySem.W.kia_one PySem.W.kitx_dict I.kIn ⟨o, h1, h2.1⟩ e (fun z => nomatch z) h
  | @ins a C dx fs ea cl ha hn htk hm =>
    cases (show u = Value.ref a from rx)
    obtain ⟨mA, O, _⟩ := ins_get I.hok ea
    obtain ⟨od, J, _⟩ := O.look
    exact PySem.W.kia_one (PySem.W.kitx_own (cl.get _) cl.hd ha hn htk hm) I.kIn J e (fun z => nomatch z) h
end
end L2

namespace L2
open PySem PySem.Spec PyProof.Rows

/-! ### room -/
structure Room (k : Nat) (A : Around) : Prop where
  hd : A.handled = none
  dp : A.depth + 3 * k + 5 < recursionLimit
  un : A.units + 16 * k + 200 < cLine
theorem Room.mono {j k : Nat} {A : Around} (r : Room k A) (h : j ≤ k) : Room j A := ⟨r.hd, by have := r.dp; omega, by have := r.un; omega⟩
theorem Room.deeper {k : Nat} {A : Around} (r : Room (k + 1) A) (env : Env) : Room k (A.deeper env) :=
  ⟨r.hd, by have := r.dp; show A.depth + 1 + 3 * k + 5 < _; omega, by have := r.un; show A.units + 3 + 16 * k + 200 < _; omega⟩
theorem Room.in1 {k : Nat} {A : Around} (r : Room (k + 1) A) : Room k A.in1 :=
  ⟨r.hd, by have := r.dp; show A.depth + 3 * k + 5 < _; omega, by have := r.un; show A.units + 1 + 16 * k + 200 < _; omega⟩
theorem Room.depth {k : Nat} {A : Around} (r : Room k A) : A.depth < recursionLimit := by have := r.dp; omega
theorem Room.units {k : Nat} {A : Around} (r : Room k A) : A.units + 64 < cLine := by have := r.un; omega
/-! ### argument lists and displays -/
def tNil : TA := fun _ H Q => Q [] H
def tCons (ta : TE) (tr : TA) : TA := fun σ H Q => ta σ H fun x H1 => tr σ H1 fun xs H2 => Q (x :: xs) H2
section
variable {X : Cx} {e : Expr} {es : List Expr} {te : TE} {t : TA} {pos : Pos}
theorem pa_nil : PA X [] tNil := fun _ _ _ _ H Q I h => Calls.spliced_nil ⟨[], H, I, .nil, h⟩
theorem pa_cons (ha : PE X e te) (hr : PA X es t) (hs : starEach (e :: es) X.env = (false, eval e X.env) :: starEach es X.env := by rfl) : PA X (e :: es) (tCons te t) := by
  intro pos pins s σ H Q I h
  rw [hs]
  show wpAny _ _ (spliced ((false, eval e X.env) :: backTo pos (starEach es X.env))) _ _ s
  refine Calls.spliced_cons (thn (ha pins s σ H _ I h) fun u s1 ⟨x, H1, I1, r1, q1⟩ => ?_)
  exact thn (hr pos pins s1 σ H1 _ I1 q1) fun us s2 ⟨xs, H2, I2, r2, q2⟩ => ⟨x :: xs, H2, I2, .cons r1 r2, q2⟩

/-- a tuple, a list of written items -/
def tTup (t : TA) : TE := fun σ H Q => t σ H fun xs H1 => xs.length ≤ sizeLine ∧ ∀ p, H1 p = none → Q (.ref p) (upd H1 p (.tup xs))
def tLst (t : TA) : TE := fun σ H Q => t σ H fun xs H1 => xs.length ≤ sizeLine ∧ ∀ p, H1 p = none → Q (.ref p) (upd H1 p (.lst xs))
theorem pe_tup {x1} (h : PA X es t) : PE X (.Tuple es x1 pos) (tTup t) := by
  intro pins s σ H Q I hq
  refine wpAny_Tuple_spliced (thn (h pos pins s σ H _ I hq) fun us s1 ⟨xs, H1, I1, r, z, q⟩ => ⟨by rw [← r.length]; exact z, ?_⟩)
  have hf : H1 s1.heap.objs.size = none := I1.hok.fresh (Nat.le_refl _)
  refine ⟨.ref s1.heap.objs.size, upd H1 s1.heap.objs.size (.tup xs), I1.laid (t' := s1.toks) (fun b u e => Heap.get?_push_of_some _ e) (Nat.le_refl _) ?_, rfl, q _ hf⟩
  exact ⟨z, us, r, ⟨_, Heap.get?_push_size _ rfl, rfl, _, rfl⟩⟩
theorem pe_lst (h : PA X es t) : PE X (.List es pos) (tLst t) := by
  intro pins s σ H Q I hq
  refine wpAny_List_spliced (thn (h pos pins s σ H _ I hq) fun us s1 ⟨xs, H1, I1, r, z, q⟩ => ⟨by rw [← r.length]; exact z, ?_⟩)
  have hf : H1 s1.heap.objs.size = none := I1.hok.fresh (Nat.le_refl _)
  refine ⟨.ref s1.heap.objs.size, upd H1 s1.heap.objs.size (.lst xs), I1.laid (t' := s1.toks) (fun b u e => Heap.get?_push_of_some _ e) (Nat.le_refl _) ?_, rfl, q _ hf⟩
  exact ⟨z, us, 0, r, Heap.get?_push_size _ rfl⟩
end

/-! ### what a def promises -/
/-- a def's promise: the bound arguments in the parameters' order, the heap, the wanted end, the wanted exception -/
abbrev Sp := List V → Hp → VK → XK → Prop
/-- how an exception lies behind a call (file 08 gives it): the callers' frames, abstract heap and state ahead of the call, the wish, the exception, the state -/
abbrev CXT := List Env → Hp → Shared → XK → Value → Shared → Prop

/-- the state at a call -/
structure Env0 (P : Program) (w : World) (K : PySem.W.Frag) (mg : Str → Option Value) (base : Heap) (A : Around) (outer : List Env) (s : Shared) (H : Hp) : Prop where
  frames : A.frames = some outer
  mod : Mod K mg base
  bs : ∀ b o, base.get? b = some o → s.heap.get? b = some o ∧ H b = none
  bsz : base.objs.size ≤ s.heap.objs.size
  funs : s.heap.FunFrames base outer
  frf : ∀ b ∈ frs outer, H b = none
  hok : HOk P w H s.heap
  bare : AllBare s.gens
/-- a call's end -/
def CE (outer : List Env) (P : Program) (w : World) (H : Hp) (s : Shared) (Q : VK) (u : Value) (s' : Shared) : Prop :=
  ∃ v H', s'.os = s.os ∧ AllBare s'.gens ∧ Un (frs outer) [] H H' s.heap s'.heap ∧ HOk P w H' s'.heap ∧ RelV v u ∧ Q v H'
def CR (CX : CXT) (outer : List Env) (P : Program) (w : World) (H : Hp) (s : Shared) (Q : VK) (E : XK) (r : Result) (s' : Shared) : Prop :=
  match r with
  | .ok (.ret u) => CE outer P w H s Q u s'
  | .ok _ => False
  | .error e => CX outer H s E e s'
structure FnOk (P : Program) (w : World) (K : PySem.W.Frag) (mg : Str → Option Value) (base : Heap) (CX : CXT) (k : Nat) (f : Addr) (fd : FuncData) (ps : List Str) (sp : Sp) : Prop where
  len : ∀ vs H Q E, sp vs H Q E → vs.length = ps.length
  run : ∀ (A : Around) (outer : List Env) (s : Shared) (H : Hp) (args : Args) (us : List Value) (vs : List V) (Q : VK) (E : XK), Room k A → Env0 P w K mg base A outer s H → BindsTo s fd args (ps.zip us) → Vals vs us → sp vs H Q E →
    codeAny (model P w) A (.call (.ref f) args) (CR CX outer P w H s Q E) s
theorem FnOk.mono {P : Program} {w : World} {K : PySem.W.Frag} {mg : Str → Option Value} {base : Heap} {CX : CXT} {j k : Nat} {f : Addr} {fd : FuncData} {ps : List Str} {sp : Sp} (F : FnOk P w K mg base CX j f fd ps sp) (h : j ≤ k) :
    FnOk P w K mg base CX k f fd ps sp := ⟨F.len, fun A outer s H args us vs Q E hr => F.run A outer s H args us vs Q E (hr.mono h)⟩
/-- a weaker promise -/
theorem FnOk.imp {P : Program} {w : World} {K : PySem.W.Frag} {mg : Str → Option Value} {base : Heap} {CX : CXT} {k : Nat} {f : Addr} {fd : FuncData} {ps : List Str} {sp sp' : Sp} (F : FnOk P w K mg base CX k f fd ps sp)
    (h : ∀ vs H Q E, sp' vs H Q E → sp vs H Q E) : FnOk P w K mg base CX k f fd ps sp' :=
  ⟨fun vs H Q E q => F.len vs H Q E (h _ _ _ _ q), fun A outer s H args us vs Q E hr he hb hv hs => F.run A outer s H args us vs Q E hr he hb hv (h _ _ _ _ hs)⟩

theorem Env0.in1 {P : Program} {w : World} {K : PySem.W.Frag} {mg : Str → Option Value} {base : Heap} {A : Around} {outer : List Env} {s : Shared} {H : Hp} (e : Env0 P w K mg base A outer s H) :
    Env0 P w K mg base A.in1 outer s H := ⟨e.frames, e.mod, e.bs, e.bsz, e.funs, e.frf, e.hok, e.bare⟩

section
variable {X : Cx} {pins : List (Addr × Obj)} {σ : St} {H : Hp} {s s' : Shared}
/-- from a body: what a callee wants -/
theorem Inv.env0 (I : Inv X pins σ H s) : Env0 X.prog X.w X.K X.mg X.base X.A X.stack s H :=
  ⟨I.ok.frames, I.ok.mod, I.bs, Nat.le_trans I.ok.bsz I.sz, I.stack, I.stkFree, I.hok, I.bare⟩
/-- behind a call -/
theorem Inv.after {Q : VK} {u : Value} (I : Inv X pins σ H s) (h : CE X.stack X.prog X.w H s Q u s') : EP X pins σ Q u s' := by
  obtain ⟨v, H', os, bare, un, hok, r, q⟩ := h
  obtain ⟨hh, g, d, t, os'⟩ := s'
  obtain rfl : os' = s.os := os
  exact ⟨v, H', I.call (h' := hh) (g' := g) (d' := d) (t' := t) (ch := []) un hok bare (fun b z => absurd z (by simp)), r, q⟩
end

/-! ### calls -/
/-- f(..): the written arguments, then the defaults dvs; E: what is wanted of an exception -/
def tCall (sp : Sp) (dvs : List V) (E : XK) (t : TA) : TE := fun σ H Q => t σ H fun vs H1 => sp (vs ++ dvs) H1 Q E
/-- how the parameters are bound: us the positional arguments, kw the keywords' values by name, ds the defaults that fill up -/
def Binds (K : PySem.W.Frag) (fd : FuncData) (ps : List Str) (ds : List Value) : Prop :=
  ∀ (s : Shared) (us : List Value), K.In s.heap → (us ++ ds).length = ps.length → BindsTo s fd ⟨us, []⟩ (ps.zip (us ++ ds))
/-- every parameter is given -/
theorem Binds.all {K : PySem.W.Frag} {fd : FuncData} {ps : List Str} (h : ∀ us : List Value, us.length = ps.length → bindArgs fd ⟨us, []⟩ = pure (ps.zip us)) : Binds K fd ps [] := fun s us _ hl => by
  rw [List.append_nil] at hl ⊢
  exact .of_eq (h us hl)

/-- an exception of a callee reaches what this body wants of exceptions -/
def Passes (CX : CXT) (X : Cx) (E : XK) : Prop := ∀ (pins : List (Addr × Obj)) (σ : St) (H : Hp) (s : Shared) (e : Value) (s' : Shared), Inv X pins σ H s → CX X.stack H s E e s' → X.xe e s'

section
variable {X : Cx} {CX : CXT} {k : Nat} {f C : Addr} {fd : FuncData} {ps : List Str} {sp : Sp} {dvs : List V} {ds : List Value} {E : XK} {x m : Str} {p pos apos : Pos} {e o : Expr} {es : List Expr} {ta : TE} {t : TA}

/-- the callee runs -/
theorem run_fn {pins : List (Addr × Obj)} {σ : St} {H : Hp} {s : Shared} {Q : VK} {us : List Value} {vs : List V} (F : FnOk X.prog X.w X.K X.mg X.base CX k f fd ps sp) (hr : Room k X.A) (hb : Binds X.K fd ps ds) (hd : Vals dvs ds) (hx : Passes CX X E)
    (I : Inv X pins σ H s) (r : Vals vs us) (h : sp (vs ++ dvs) H Q E) : wpAny (model X.prog X.w) X.A (call (.ref f) us) (EP X pins σ Q) X.xe s := by
  have r2 : Vals (vs ++ dvs) (us ++ ds) := r.append hd
  have hl : (us ++ ds).length = ps.length := by rw [← r2.length]; exact F.len _ _ _ _ h
  refine wpAny_call (codeAny_mono (F.run X.A X.stack s H ⟨us, []⟩ (us ++ ds) (vs ++ dvs) Q E hr I.env0 (hb s us I.kIn hl) r2 h) fun r s' hq => ?_)
  cases r with
  | error e => exact hx pins σ H s e s' I hq
  | ok fl =>
    cases fl with
    | ret u => exact I.after hq
    | next => exact False.elim hq
    | brk => exact False.elim hq
    | cont => exact False.elim hq

theorem pe_call (F : FnOk X.prog X.w X.K X.mg X.base CX k f fd ps sp) (hr : Room k X.A) (hg : Gl X x) (hm : X.mg x = some (.ref f)) (hk : PySem.W.keepIn X.K (.ref f) = true) (hb : Binds X.K fd ps ds) (hd : Vals dvs ds) (hx : Passes CX X E)
    (ha : PA X (e :: es) t) (hdb : (x == ("__debug__" : Str)) = false := by decide) (he : starEach (e :: es) X.env = (false, eval e X.env) :: starEach es X.env := by rfl) (hpl : (backTo pos (starEach es X.env)).any (·.1) = false := by rfl) :
    PE X (.Call (.Name x p) (e :: es) [] pos) (tCall sp dvs E t) := by
  intro pins s σ H Q I h
  refine wpAny_Call_Name_kw (ld_glob I hg hm ?_ hdb)
  refine PySem.W.callWith_K (h₀ := X.base) I.ok.mod.kin hk (thn (ha pos pins s σ H _ I h) fun us s1 ⟨vs, H1, I1, r, q⟩ => ⟨I1.kIn, ?_⟩) he hpl
  exact run_fn F hr hb hd hx I1 r q
end

/-! ### keywords -/
section
variable {X : Cx} {CX : CXT} {k : Nat} {f C : Addr} {fd : FuncData} {ps ks : List Str} {sp : Sp} {E : XK} {x m : Str} {p pos apos kpos : Pos} {e o : Expr} {es : List Expr} {kws : List Keyword} {te ta : TE} {t tk : TA} {nm : Option Str}
variable {g : List Value → List Value → List Value} {gV : List V → List V → List V}
end

/-! ### a def's body keeps its promise -/
/-- names: the parameters first -/
structure FnScope (N P : List Str) (sc : Scope) : Prop where
  kind : sc.kind = .function
  co : sc.isCoroutine = false
  gen : sc.isGenerator = false
  nd : N.Nodup
  pre : N.take P.length = P
  par : ∀ x ∈ P, sc.names.lookup x = some .local ∨ sc.names.lookup x = some .cell
  nofree : ∀ y ∈ sc.names, y.2 ≠ .free

theorem bindL_out {kindOf : Str → Option NameKind} {x : Str} : ∀ {binds : List (Str × Value)} {m : Str → Option Value}, (∀ v, (x, v) ∉ binds) → bindL kindOf binds m x = m x
  | [], _, _ => rfl
  | (n, v) :: r, m, h => by
    unfold bindL
    rw [bindL_out fun w hw => h w (List.mem_cons_of_mem _ hw)]
    split
    · have : x ≠ n := by rintro rfl; exact h v List.mem_cons_self
      simp [this]
    · rfl
theorem bindC_out {kindOf : Str → Option NameKind} {x : Str} : ∀ {binds : List (Str × Value)} {m : Str → Option Value}, (∀ v, (x, v) ∉ binds) → bindC kindOf binds m x = m x
  | [], _, _ => rfl
  | (n, v) :: r, m, h => by
    unfold bindC
    rw [bindC_out fun w hw => h w (List.mem_cons_of_mem _ hw)]
    split
    · rfl
    · have : x ≠ n := by rintro rfl; exact h v List.mem_cons_self
      simp [this]
theorem bindL_get {kindOf : Str → Option NameKind} {x : Str} {v : Value} : ∀ {P : List Str} {vs : List Value} {i : Nat} {m : Str → Option Value}, P.Nodup → P[i]? = some x → vs[i]? = some v → kindOf x = some .local →
    bindL kindOf (P.zip vs) m x = some v
  | [], _, _, _, _, h, _, _ => by simp at h
  | _ :: _, [], _, _, _, _, h, _ => by simp at h
  | p :: P, w :: vs, 0, m, nd, h1, h2, hk => by
    simp at h1 h2; subst h1; subst h2
    show bindL kindOf ((p, w) :: P.zip vs) m p = _
    unfold bindL
    rw [bindL_out fun v hv => (List.nodup_cons.mp nd).1 (List.of_mem_zip hv).1, if_pos hk]
    simp
  | p :: P, w :: vs, i + 1, m, nd, h1, h2, hk => by
    show bindL kindOf ((p, w) :: P.zip vs) m x = _
    unfold bindL
    exact bindL_get (i := i) (List.nodup_cons.mp nd).2 (by simpa using h1) (by simpa using h2) hk
theorem bindC_get {kindOf : Str → Option NameKind} {x : Str} {v : Value} : ∀ {P : List Str} {vs : List Value} {i : Nat} {m : Str → Option Value}, P.Nodup → P[i]? = some x → vs[i]? = some v → kindOf x ≠ some .local →
    bindC kindOf (P.zip vs) m x = some v
  | [], _, _, _, _, h, _, _ => by simp at h
  | _ :: _, [], _, _, _, _, h, _ => by simp at h
  | p :: P, w :: vs, 0, m, nd, h1, h2, hk => by
    simp at h1 h2; subst h1; subst h2
    show bindC kindOf ((p, w) :: P.zip vs) m p = _
    unfold bindC
    rw [bindC_out fun v hv => (List.nodup_cons.mp nd).1 (List.of_mem_zip hv).1, if_neg hk]
    simp
  | p :: P, w :: vs, i + 1, m, nd, h1, h2, hk => by
    show bindC kindOf ((p, w) :: P.zip vs) m x = _
    unfold bindC
    exact bindC_get (i := i) (List.nodup_cons.mp nd).2 (by simpa using h1) (by simpa using h2) hk

/-- the names' values at the entry -/
def start (N : List Str) (vs : List V) : St := vs.map some ++ List.replicate (N.length - vs.length) none

/-- the context of a def's body, at its entry; an exception leaves the frame, then lies as CX says -/
def cxOf (CX : CXT) (P : Program) (w : World) (K : PySem.W.Frag) (mg : Str → Option Value) (base : Heap) (N : List Str) (qual : Str) (scope : Scope) (f : Addr) (cd : Value) (A : Around) (outer : List Env) (s : Shared) (H : Hp) (E : XK) : Cx where
  prog := P
  w := w
  K := K
  mg := mg
  base := base
  A := A.deeper (envOfC qual scope s.heap.objs.size f cd)
  N := N
  s₀ := s
  H₀ := H
  env := envOfC qual scope s.heap.objs.size f cd
  outer := outer
  stack := envOfC qual scope s.heap.objs.size f cd :: outer
  ex := []
  calm := true
  fn := fun _ => true
  pn := []
  xe := fun e s' => wpAny (model P w) (A.deeper (envOfC qual scope s.heap.objs.size f cd)) (leaving (envOfC qual scope s.heap.objs.size f cd) e) (fun _ s'' => CX outer H s E e s'') (fun e' s'' => CX outer H s E e' s'') s'

theorem cell_has {sc : Scope} {n : Nat} {x : Str} (h : sc.names.lookup x = some .cell) : ∃ c, (cellsFrom n sc.names []).lookup x = some c := by
  have q := PySem.W.cellsFrom_some sc.names n [] (.inl h)
  exact Option.isSome_iff_exists.mp q

theorem inv_start {CX : CXT} {P : Program} {w : World} {K : PySem.W.Frag} {mg : Str → Option Value} {base : Heap} {N ps : List Str} {qual : Str} {scope : Scope} {f : Addr} {cd : Value} {A : Around} {outer : List Env} {s s1 : Shared} {H : Hp} {E : XK} {us : List Value} {vs : List V}
    (S : FnScope N ps scope) (hd : A.handled = none) (e0 : Env0 P w K mg base A outer s H) (hl : vs.length = ps.length) (r : Vals vs us)
    (x : InCallC s s.heap.objs.size (bindL (envOfC qual scope s.heap.objs.size f cd).kindOf (ps.zip us) fun _ => none) (cellsFrom (s.heap.objs.size + 1) scope.names []) (bindC (envOfC qual scope s.heap.objs.size f cd).kindOf (ps.zip us) fun _ => none) s1) :
    Inv (cxOf CX P w K mg base N qual scope f cd A outer s H E) [] (start N vs) H s1 := by
  have hpl : ps.length ≤ N.length := by have := congrArg List.length S.pre; rw [List.length_take] at this; omega
  obtain ⟨h1, tk, rfl, hk⟩ := x.done
  have noA : ∀ b : Addr, b ∉ (cxOf CX P w K mg base N qual scope f cd A outer s H E).ex := fun b z => absurd (show b ∈ ([] : List Addr) from z) (by simp)
  refine ⟨⟨e0.mod, S.kind, rfl, rfl, Nat.le_refl _, fun y z c h1 h2 => ?_, fun y hy => ?_, fun y c _ h => ?_, fun _ => hd, Around.frames_deeper e0.frames, .inr ⟨rfl, rfl⟩, fun b z => absurd z (noA b), e0.bs, e0.bsz, fun b _ _ => noA b, fun b z => absurd z (noA b), e0.funs, e0.frf⟩,
    rfl, e0.bare, Un.kept hk, ⟨_, x.toInCall.ns, fun i y v h1 h2 h3 => ?_⟩, fun y c h => ⟨_, x.cell y c h⟩, e0.hok.fresh (Nat.le_refl _), fun y c h => ?_, fun p hp => absurd (show p ∈ ([] : List (Addr × Obj)) from hp) (by simp), e0.hok.kept hk, ?_⟩
  · exact name_of_addr x.apart (PySem.mem_of_lookup h1) (PySem.mem_of_lookup h2)
  · have hy : scope.names.lookup y = some .cell ∨ scope.names.lookup y = some .free := hy
    rcases hy with hy | hy
    · exact cell_has hy
    · exact absurd rfl (S.nofree _ (PySem.mem_of_lookup hy))
  · exact Nat.le_of_lt (x.above y c (PySem.mem_of_lookup h))
  · have hi : i < vs.length := by
      unfold start at h2
      by_cases hi : i < vs.length
      · exact hi
      · rw [List.getElem?_append_right (by simpa using hi)] at h2
        rw [List.getElem?_replicate] at h2
        split at h2 <;> cases h2
    have ha : vs[i]? = some v := by
      unfold start at h2
      rw [List.getElem?_append_left (by simpa using hi), List.getElem?_map] at h2
      cases e : vs[i]? with
      | none => rw [e] at h2; cases h2
      | some a => rw [e] at h2; cases h2; rfl
    obtain ⟨u, hu, rv⟩ := r.get ha
    have hp : ps[i]? = some y := by
      rw [← S.pre, List.getElem?_take_of_lt (by omega)]; exact h1
    have ndP : ps.Nodup := by rw [← S.pre]; exact S.nd.sublist (List.take_sublist _ _)
    refine ⟨u, rv, ?_⟩
    rcases S.par y (List.mem_of_getElem? hp) with k | k
    · exact .inl ⟨k, bindL_get ndP hp hu k⟩
    · obtain ⟨c, e⟩ := cell_has (n := s.heap.objs.size + 1) k
      refine .inr ⟨.inl k, c, e, ?_⟩
      have q := x.cell y c e
      rw [bindC_get ndP hp hu (by show scope.names.lookup y ≠ _; rw [k]; decide)] at q
      exact q
  · exact e0.hok.fresh (Nat.le_of_lt (x.above y c (PySem.mem_of_lookup h)))
  · unfold start
    show _ = N.length
    rw [List.length_append, List.length_map, List.length_replicate]
    omega

/-- THE RULE: a def (or a method) of the text, by its body. The body's reading t is chosen for each entry; it is run at the parameters' values -/
theorem fn_of {CX : CXT} {P : Program} {w : World} {K : PySem.W.Frag} {mg : Str → Option Value} {base : Heap} {k : Nat} {f : Addr} {name qual : Str} {params : Arguments} {body : List Stmt} {scope : Scope} {dV kV doc pm cdv ct oc : Value} {an od : Option Addr}
    {osl : Array (Option Value)} {N ps : List Str} {sp : Sp} (lk : K.lookup f = some ⟨oc, od, .func (PySem.W.fnOf name qual params body scope dV kV doc pm an cdv ct), osl⟩) (hcd : PySem.W.codeIn K cdv qual = true) (S : FnScope N ps scope)
    (len : ∀ vs H Q E, sp vs H Q E → vs.length = ps.length)
    (hbody : ∀ (A : Around) (outer : List Env) (s : Shared) (H : Hp) (vs : List V) (Q : VK) (E : XK), Room k (A.deeper (envOfC qual scope s.heap.objs.size f cdv)) → sp vs H Q E →
      ∃ t, PSs (cxOf CX P w K mg base N qual scope f cdv A outer s H E) body t ∧ t { nx := fun _ H' => Q .non H', rt := Q } (start N vs) H) :
    FnOk P w K mg base CX (k + 1) f (PySem.W.fnOf name qual params body scope dV kV doc pm an cdv ct) ps sp := by
  refine ⟨len, fun A outer s H args us vs Q E hr e0 hb r hsp => ?_⟩
  have hl := len _ _ _ _ hsp
  have KX : K.In s.heap := e0.mod.kin.keeps fun b o e => (e0.bs b o e).1
  have lim : s.heap.NoLimit := e0.mod.nolimit.keeps fun b o e => (e0.bs b o e).1
  have hkind : ∀ y ∈ ps.zip us, scope.names.lookup y.1 = some .local ∨ (scope.names.lookup y.1 = some .cell ∧ ((cellsFrom (s.heap.objs.size + 1) scope.names []).lookup y.1).isSome = true) := fun ⟨n, v⟩ hy => by
    rcases S.par n (List.of_mem_zip hy).1 with q | q
    · exact .inl q
    · exact .inr ⟨q, PySem.W.cellsFrom_some _ _ _ (.inl q)⟩
  refine codeAny_call_function hr.depth (KX _ _ lk) rfl S.co S.gen rfl (PySem.W.codeRec_of KX hcd) (hb _ _ _ _ ?_)
  refine wpAny_newFunctionEnv_cells S.kind hkind fun env he s1 x => ?_
  subst he
  refine ⟨lim.keeps x.toInCall.keep, codeAny_func ?_⟩
  obtain ⟨t, ht, hq⟩ := hbody A outer s H vs Q E (hr.deeper _) hsp
  have I : Inv (cxOf CX P w K mg base N qual scope f cdv A outer s H E) [] (start N vs) H s1 := inv_start S hr.hd e0 hl r x
  refine wpAny_mono (ht [] s1 (start N vs) H _ I hq) (fun fl s' hs => ?_) fun e s' hs => hs
  have fin : ∀ {σ' : St} {H' : Hp} {v : V} {u : Value}, Inv (cxOf CX P w K mg base N qual scope f cdv A outer s H E) [] σ' H' s' → RelV v u → Q v H' → CE outer P w H s Q u s' :=
    fun {σ' H' v u} J rv q => ⟨v, H', J.os, J.bare, J.base, J.hok, rv, q⟩
  cases fl with
  | ret u =>
    obtain ⟨v, σ', H', J, rv, q⟩ := hs
    exact fin J rv q
  | next =>
    obtain ⟨σ', H', J, q⟩ := hs
    exact fin (v := V.non) (u := Value.none) J rfl q
  | brk =>
    obtain ⟨_, _, _, q⟩ := hs
    exact False.elim q
  | cont =>
    obtain ⟨_, _, _, q⟩ := hs
    exact False.elim q
end L2

namespace L2
open PySem PySem.Spec PyProof.Rows
section
variable {X : Cx} {x : Str} {p pos : Pos} {e : Expr} {es : List Expr} {t : TA} {id T : String} {r : List V → Hp → VK → Prop}

def tCB (r : List V → Hp → VK → Prop) (t : TA) : TE := fun σ H Q => t σ H fun vs H1 => r vs H1 Q
/-- f(e, ..), f a built-in function -/
theorem pe_callB (hc : CallR X (.builtin id) r) (hg : Gl X x) (hm : X.mg x = none) (hv : bootBuiltins x = some (.builtin id)) (ha : PA X (e :: es) t) (hn : x ≠ "__name__" := by decide) (hdb : (x == ("__debug__" : Str)) = false := by decide)
    (he : starEach (e :: es) X.env = (false, eval e X.env) :: starEach es X.env := by rfl) (hpl : (backTo pos (starEach es X.env)).any (·.1) = false := by rfl) : PE X (.Call (.Name x p) (e :: es) [] pos) (tCB r t) := by
  intro pins s σ H Q I h
  refine wpAny_Call_Name_kw (ld_blt I hg hm hv ?_ hn hdb)
  exact PyProof.Rows.callWith_builtin1 (thn (ha pos pins s σ H _ I h) fun us s1 ⟨vs, H1, I1, r1, q1⟩ => hc pins s1 σ H1 vs us Q I1 r1 q1) he hpl
/-- T(e, ..), T a built-in type -/
theorem pe_callTy (hc : CallR X (.type T) r) (hg : Gl X x) (hm : X.mg x = none) (hv : bootBuiltins x = some (.type T)) (ha : PA X (e :: es) t) (hn : x ≠ "__name__" := by decide) (hdb : (x == ("__debug__" : Str)) = false := by decide)
    (he : starEach (e :: es) X.env = (false, eval e X.env) :: starEach es X.env := by rfl) (hpl : (backTo pos (starEach es X.env)).any (·.1) = false := by rfl) : PE X (.Call (.Name x p) (e :: es) [] pos) (tCB r t) := by
  intro pins s σ H Q I h
  refine wpAny_Call_Name_kw (ld_blt I hg hm hv ?_ hn hdb)
  exact PyProof.Rows.callWith_type1 (thn (ha pos pins s σ H _ I h) fun us s1 ⟨vs, H1, I1, r1, q1⟩ => hc pins s1 σ H1 vs us Q I1 r1 q1) he hpl
end
end L2

namespace HT
open PySem PyProof.Rows

section
open PySem.SeqAt
open PySem.AutoSeq1 (wpAny_loadPart')
open PySem.MeetsSeq PySem.MeetsSeq2 PySem.MeetsSeq3

end

section
variable {prog : Program} {w : World} {A : Around} {E : Value → Shared → Prop} {s : Shared}

/-! ### t[a:b], not the whole -/
/-- a slice's bound as a place among n (d where it is left out) -/
def sIx (n d : Nat) : Option Int → Nat
  | none => d
  | some v => if v < 0 then (v + (n : Int)).toNat else min v.toNat n
end
end HT

namespace L2
open PySem PySem.Spec PyProof.Rows

/-! ### the parts of a slice -/
abbrev TO := St → Hp → (Option Int → Hp → Prop) → Prop
/-- a slice's part (left out, or an int) -/
def PO (X : Cx) (e : Option Expr) (t : TO) : Prop :=
  ∀ (pins : List (Addr × Obj)) (s : Shared) (σ : St) (H : Hp) (Q : Option Int → Hp → Prop), Inv X pins σ H s → t σ H Q →
    wpAny (model X.prog X.w) X.A (evalPart e X.env) (fun u s' => ∃ o H', Inv X pins σ H' s' ∧ IsPart u o ∧ Q o H') X.xe s
def tNoPart : TO := fun _ H Q => Q none H
def tPart (t : TE) : TO := fun σ H Q => t σ H fun x H1 => ∃ i, x = .int i ∧ Q (some i) H1

section
variable {X : Cx} {e : Expr} {te : TE} {lo hi : Option Expr} {tl th : TO} {pos p2 : Pos}

theorem po_none : PO X none tNoPart := by
  intro pins s σ H Q I h
  rw [evalPart_none]
  exact wpAny_pure ⟨none, H, I, .none, h⟩
theorem po_some (h : PE X e te) : PO X (some e) (tPart te) := by
  intro pins s σ H Q I hw
  rw [evalPart_some]
  refine thn (h pins s σ H _ I hw) fun u s1 ⟨x, H1, I1, r1, q1⟩ => ?_
  obtain ⟨i, rfl, q⟩ := q1
  obtain ⟨t, rfl⟩ := r1
  exact ⟨some i, H1, I1, .int i t, q⟩

/-- what a slice of a value is, by values: the slice object stands at sl -/
def SlR (X : Cx) (r : V → Option Int → Option Int → Hp → VK → Prop) : Prop :=
  ∀ (pins : List (Addr × Obj)) (s : Shared) (σ : St) (H : Hp) (x : V) (v vl vu : Value) (lo hi : Option Int) (sl : Addr) (Q : VK), Inv X pins σ H s → RelV x v → s.heap.IsSliceOf sl vl vu .none → IsPart vl lo → IsPart vu hi → r x lo hi H Q →
    ∃ T id, typeLookup (.type T) "__getitem__" = pure (some (.builtin id)) ∧ s.TypeIs v T ∧ wpAny (model X.prog X.w) X.A (getItem v (.ref sl)) (EP X pins σ Q) X.xe s
theorem SlR.or {r r' : V → Option Int → Option Int → Hp → VK → Prop} (h : SlR X r) (h' : SlR X r') : SlR X (fun x lo hi H Q => r x lo hi H Q ∨ r' x lo hi H Q) := by
  intro pins s σ H x v vl vu lo hi sl Q I rx hs pl pu q
  rcases q with q | q
  · exact h pins s σ H x v vl vu lo hi sl Q I rx hs pl pu q
  · exact h' pins s σ H x v vl vu lo hi sl Q I rx hs pl pu q
def tSl (r : V → Option Int → Option Int → Hp → VK → Prop) (te : TE) (tl th : TO) : TE := fun σ H Q => te σ H fun x H1 => tl σ H1 fun l H2 => th σ H2 fun u H3 => r x l u H3 Q
/-- a[lo:hi], any a -/
theorem pe_slice {r : V → Option Int → Option Int → Hp → VK → Prop} (hr : SlR X r) (he : PE X e te) (hl : PO X lo tl) (hu : PO X hi th) : PE X (.Subscript e (.Slice lo hi none p2) pos) (tSl r te tl th) := by
  intro pins s σ H Q I h
  refine Subscript_ (thn (he pins s σ H _ I h) fun v s1 ⟨x, H1, I1, r1, q1⟩ => ?_)
  refine wpAny_Slice (thn (hl pins s1 σ H1 _ I1 q1) fun vl s2 ⟨l, H2, I2, pl, q2⟩ => thn (hu pins s2 σ H2 _ I2 q2) fun vu s3 ⟨u, H3, I3, pu, q3⟩ => ?_)
  rw [evalPart_none]
  refine wpAny_pure ?_
  have I4 : Inv X pins σ H3 { s3 with heap := s3.heap.push { cls := .type "slice", data := .fields #[vl, vu, .none] } } := I3.kept (t' := s3.toks) fun b ob q => Heap.get?_push_of_some _ q
  obtain ⟨T, id, hT, ht, hg⟩ := hr pins { s3 with heap := s3.heap.push { cls := .type "slice", data := .fields #[vl, vu, .none] } } σ H3 x v vl vu l u s3.heap.objs.size Q I4 r1 (Heap.IsSliceOf.new ..) pl pu q3
  show wpAny (model X.prog X.w) X.A (subscriptTail e (.Slice lo hi none p2) v (.ref s3.heap.objs.size)) (EP X pins σ Q) X.xe { s3 with heap := s3.heap.push { cls := .type "slice", data := .fields #[vl, vu, .none] } }
  exact tail_any (ops := [.ref s3.heap.objs.size, v]) ht hT hg (by with_unfolding_all rfl)

/-- the items of xs[lo:hi] -/
def cutV (xs : List V) (lo hi : Option Int) : List V := (xs.drop (HT.sIx xs.length 0 lo)).take (HT.sIx xs.length xs.length hi - HT.sIx xs.length 0 lo)
theorem cutV_length (xs : List V) (lo hi : Option Int) : (cutV xs lo hi).length ≤ xs.length := by
  unfold cutV
  rw [List.length_take, List.length_drop]
  omega
/-! ### t < u, t + u -/
end
end L2

namespace L2
open PySem PySem.Spec PyProof.Rows

/-! ### places -/
/-- the place that an index of any sign means -/
def ixN (n : Nat) (i : Int) : Option Nat := if 0 ≤ i then (if i < n then some i.toNat else none) else if -(n : Int) ≤ i then some (i + n).toNat else none
def atI {α : Type} (xs : List α) (i : Int) : Option α := (ixN xs.length i).bind fun j => xs[j]?
theorem ixN_seq {n : Nat} {i : Int} {j : Nat} (h : ixN n i = some j) : seqIndex? i n = some j ∧ j < n ∧ -(n : Int) ≤ i ∧ i < n := by
  unfold ixN at h
  by_cases h0 : 0 ≤ i
  · rw [if_pos h0] at h
    by_cases h1 : i < n
    · rw [if_pos h1] at h
      have e : i.toNat = j := Option.some.inj h
      exact ⟨by rw [seqIndex_of h0 h1, e], by omega, by omega, h1⟩
    · rw [if_neg h1] at h; cases h
  · rw [if_neg h0] at h
    by_cases h1 : -(n : Int) ≤ i
    · rw [if_pos h1] at h
      have e : (i + n).toNat = j := Option.some.inj h
      exact ⟨by rw [seqIndex_neg (by omega) h1, e], by omega, h1, by omega⟩
    · rw [if_neg h1] at h; cases h
theorem atI_get {α : Type} {xs : List α} {i : Int} {v : α} (h : atI xs i = some v) : ∃ j, seqIndex? i xs.length = some j ∧ xs[j]? = some v ∧ j < xs.length ∧ -(xs.length : Int) ≤ i ∧ i < xs.length := by
  unfold atI at h
  cases e : ixN xs.length i with
  | none => rw [e] at h; cases h
  | some j =>
    rw [e] at h
    obtain ⟨h1, h2, h3, h4⟩ := ixN_seq e
    exact ⟨j, h1, h, h2, h3, h4⟩
/-! ### what may be subscripted -/
/-- what stands as an index of a plain subscript -/
def PlainIx (b : Expr) : Prop := ∀ o i, subscripted b false o i = operate [o, i] (getItem o i)
/-- a subscript by values -/
def IxR (X : Cx) (r : R2) : Prop :=
  ∀ (value slice : Expr) (pins : List (Addr × Obj)) (s : Shared) (σ : St) (H : Hp) (x y : V) (v u : Value) (Q : VK), Inv X pins σ H s → RelV x v → RelV y u → r x y H Q →
    subscripted slice false v u = operate [v, u] (getItem v u) → wpAny (model X.prog X.w) X.A (subscriptTail value slice v u) (EP X pins σ Q) X.xe s
/-- a call of a builtin's method by values: the receiver, the arguments -/
def MtR (X : Cx) (id : String) (r : V → List V → Hp → VK → Prop) : Prop :=
  ∀ (pins : List (Addr × Obj)) (s : Shared) (σ : St) (H : Hp) (x : V) (xs : List V) (v : Value) (us : List Value) (Q : VK), Inv X pins σ H s → RelV x v → Vals xs us → r x xs H Q →
    wpAny (model X.prog X.w) X.A (call (.builtin id) (v :: us)) (EP X pins σ Q) X.xe s
section
variable {X : Cx} {a b : Expr} {ta tb : TE} {pos : Pos}
theorem IxR.or {r r' : R2} (h : IxR X r) (h' : IxR X r') : IxR X (fun x y H Q => r x y H Q ∨ r' x y H Q) := by
  intro value slice pins s σ H x y v u Q I rx ry q hs
  rcases q with q | q
  · exact h value slice pins s σ H x y v u Q I rx ry q hs
  · exact h' value slice pins s σ H x y v u Q I rx ry q hs
theorem MtR.or {id : String} {r r' : V → List V → Hp → VK → Prop} (h : MtR X id r) (h' : MtR X id r') : MtR X id (fun x xs H Q => r x xs H Q ∨ r' x xs H Q) := by
  intro pins s σ H x xs v us Q I rx rs q
  rcases q with q | q
  · exact h pins s σ H x xs v us Q I rx rs q
  · exact h' pins s σ H x xs v us Q I rx rs q
/-- a[b] -/
theorem pe_ix {r : R2} (hr : IxR X r) (ha : PE X a ta) (hb : PE X b tb) (hs : PlainIx b) : PE X (.Subscript a b pos) (tOp r ta tb) := by
  intro pins s σ H Q I h
  exact Subscript_ (binT ha hb I h fun v u s2 x y H2 I2 rx ry q => hr a b pins s2 σ H2 x y v u Q I2 rx ry q (hs _ _))

def rIxL (K : PySem.W.Frag) : R2 := fun x y H Q => ∃ p xs i v, x = .ref p ∧ y = .int i ∧ SqL K H p xs ∧ atI xs i = some v ∧ Q v H
theorem ix_list : IxR X (rIxL X.K) := by
  intro value slice pins s σ H x y v u Q I rx ry h hs
  obtain ⟨p, xs, i, z, rfl, rfl, hq, he, q⟩ := h
  cases rx
  obtain ⟨t, rfl⟩ := ry
  obtain ⟨its, r, pl, hz⟩ := I.list hq
  obtain ⟨j, h1, h2, h3, h4, h5⟩ := atI_get he
  obtain ⟨w, ew, rw'⟩ := r.get h2
  have hl := r.length
  have hn := line63
  have fin : EP X pins σ Q w s := ⟨z, H, I, rw', q⟩
  by_cases h0 : 0 ≤ i
  · have hj : i.toNat = j := by
      rw [seqIndex_of h0 h5] at h1
      exact Option.some.inj h1
    exact item_listR pl.isList h0 (by omega) (by rw [hj]; simpa using ew) fin hs
  · have hj : (i + (its.toArray.size : Int)).toNat = j := by
      rw [seqIndex_neg (by omega) h4] at h1
      rw [List.size_toArray, ← hl]
      exact Option.some.inj h1
    exact subscriptTail_builtinR (x := w) pl.isList.typeIs slot_list_getitem.lookup
      (wpAny_getItem_list_neg (Q := fun r s' => r = w ∧ EP X pins σ Q r s') pl.isList (by omega) (by rw [List.size_toArray] <;> omega) (by omega) (by rw [hj]; simpa using ew) ⟨rfl, fin⟩) hs
/-! ### xs[i] = v, any sign -/
theorem Inv.lst {pins : List (Addr × Obj)} {σ : St} {H : Hp} {s : Shared} {p : Addr} {xs : List V} (I : Inv X pins σ H s) (h : H p = some (.lst xs)) :
    ∃ (its : List Value) (n : Nat), Vals xs its ∧ s.heap.get? p = some { cls := .type "list", data := .seq its.toArray n } ∧ xs.length ≤ sizeLine := by
  obtain ⟨z, its, n, r, e⟩ := I.hok p _ h
  exact ⟨its, n, r, e, z⟩
/-! ### slices -/
theorem slice_bounds (lo hi : Option Int) (n : Nat) : (sliceBounds lo hi none n).1 = ((HT.sIx n 0 lo : Nat) : Int) ∧ (sliceBounds lo hi none n).2.1 = ((HT.sIx n n hi : Nat) : Int) ∧ (sliceBounds lo hi none n).2.2 = 1 := by
  refine ⟨?_, ?_, rfl⟩
  · cases lo with
    | none => simp [sliceBounds, HT.sIx]
    | some i =>
      simp only [sliceBounds, HT.sIx, Option.getD_none, show (1 : Int) > 0 by decide, if_true]
      by_cases h : i < 0
      · simp only [h, if_true] <;> omega
      · simp only [h, if_false] <;> omega
  · cases hi with
    | none => simp [sliceBounds, HT.sIx]
    | some i =>
      simp only [sliceBounds, HT.sIx, Option.getD_none, show (1 : Int) > 0 by decide, if_true]
      by_cases h : i < 0
      · simp only [h, if_true] <;> omega
      · simp only [h, if_false] <;> omega
theorem slicePick_cut (its : List Value) (lo hi : Option Int) : slicePick its.toArray lo hi none = ((its.drop (HT.sIx its.length 0 lo)).take (HT.sIx its.length its.length hi - HT.sIx its.length 0 lo)).toArray := by
  obtain ⟨h1, h2, h3⟩ := slice_bounds lo hi its.toArray.size
  unfold slicePick
  rw [h1, h2, h3]
  simp only [sliceRange_one, pick_run, List.size_toArray] <;> rfl
/-- xs[lo:hi] of a list: a new list -/
def rSlL (K : PySem.W.Frag) : V → Option Int → Option Int → Hp → VK → Prop := fun x lo hi H Q => ∃ a xs, x = .ref a ∧ SqL K H a xs ∧ ∀ p, H p = none → Q (.ref p) (upd H p (.lst (cutV xs lo hi)))
theorem sl_list : SlR X (rSlL X.K) := by
  intro pins s σ H x v vl vu lo hi sl Q I rx hs pl pu h
  obtain ⟨a, xs, rfl, hx, q⟩ := h
  cases rx
  obtain ⟨its, r, ht, hz⟩ := I.list hx
  have hlen := r.length
  refine ⟨"list", _, slot_list_getitem.lookup, ht.isList.typeIs, ?_⟩
  refine wpAny_getItem_list_slice ht.isList hs pl pu .none (by simp) ?_ (by rw [List.size_toArray] <;> omega)
  rw [slicePick_cut, ← hlen]
  refine ⟨.ref s.heap.objs.size, _, I.laid (t' := s.toks) (o := .lst (cutV xs lo hi)) (fun b ob q => Heap.get?_push_of_some _ q) (Nat.le_refl _) ?_, rfl, q _ (I.hok.fresh (Nat.le_refl _))⟩
  exact ⟨Nat.le_trans (cutV_length xs lo hi) hz, _, 0, (r.drop (HT.sIx xs.length 0 lo)).take (HT.sIx xs.length xs.length hi - HT.sIx xs.length 0 lo), Heap.get?_push_size _ rfl⟩

/-! ### in, not in: flat items -/
def flatV : V → Bool
  | .non => true
  | .bl _ => true
  | .int _ => true
  | .str _ => true
  | _ => false
/-- == of flat values -/
def eqV : V → V → Bool
  | .non, .non => true
  | .bl a, .bl b => a == b
  | .bl a, .int b => (if a then 1 else 0) == b
  | .int a, .bl b => a == (if b then 1 else 0)
  | .int a, .int b => a == b
  | .str a, .str b => a == b
  | _, _ => false
theorem eqAt_V {A : Around} {s : Shared} {y x : V} {u v : Value} (ry : RelV y u) (rx : RelV x v) (fy : flatV y = true) (fx : flatV x = true) : SeqAt.EqAt A s u v (eqV y x) := by
  cases y with
  | non =>
    cases ry
    cases x with
    | non => cases rx; exact SeqAt.EqAt.same _
    | bl b => cases rx; exact SeqAt.EqAt.none_bool b
    | int b => obtain ⟨t, rfl⟩ := rx; exact SeqAt.EqAt.none_int b t
    | str b => obtain ⟨t, rfl⟩ := rx; exact SeqAt.EqAt.none_str b t
    | _ => exact absurd (show false = true from fx) Bool.false_ne_true
  | bl a =>
    cases ry
    cases x with
    | non => cases rx; exact SeqAt.EqAt.bool_none a
    | bl b => cases rx; exact SeqAt.EqAt.bool_bool a b
    | int b => obtain ⟨t, rfl⟩ := rx; exact SeqAt.EqAt.bool_int a b t
    | str b => obtain ⟨t, rfl⟩ := rx; exact SeqAt.EqAt.bool_str a b t
    | _ => exact absurd (show false = true from fx) Bool.false_ne_true
  | int a =>
    obtain ⟨t', rfl⟩ := ry
    cases x with
    | non => cases rx; exact SeqAt.EqAt.int_none a t'
    | bl b => cases rx; exact SeqAt.EqAt.int_bool a t' b
    | int b => obtain ⟨t, rfl⟩ := rx; exact SeqAt.EqAt.int_int a t' b t
    | str b => obtain ⟨t, rfl⟩ := rx; exact SeqAt.EqAt.int_str a t' b t
    | _ => exact absurd (show false = true from fx) Bool.false_ne_true
  | str a =>
    obtain ⟨t', rfl⟩ := ry
    cases x with
    | non => cases rx; exact SeqAt.EqAt.str_none a t'
    | bl b => cases rx; exact SeqAt.EqAt.str_bool a t' b
    | int b => obtain ⟨t, rfl⟩ := rx; exact SeqAt.EqAt.str_int a t' b t
    | str b => obtain ⟨t, rfl⟩ := rx; exact SeqAt.EqAt.str_str a t' b t
    | _ => exact absurd (show false = true from fx) Bool.false_ne_true
  | _ => exact absurd (show false = true from fy) Bool.false_ne_true
/-- the items' answers, read off the values (a value's own answer does not lean on its token) -/
def eqU (x : V) (u : Value) : Bool := match u with
  | .none => eqV .non x
  | .bool b => eqV (.bl b) x
  | .int i _ => eqV (.int i) x
  | .str z _ => eqV (.str z) x
  | _ => false
theorem eqU_of {x y : V} {u : Value} (r : RelV y u) (f : flatV y = true) : eqU x u = eqV y x := by
  cases y with
  | non => cases r; rfl
  | bl b => cases r; rfl
  | int i => obtain ⟨t, rfl⟩ := r; rfl
  | str z => obtain ⟨t, rfl⟩ := r; rfl
  | _ => exact absurd (show false = true from f) Bool.false_ne_true
theorem any_eqU {x : V} : ∀ {xs : List V} {us : List Value}, Vals xs us → xs.all flatV = true → us.any (eqU x) = xs.any fun y => eqV y x
  | _, _, .nil, _ => rfl
  | y :: xs, u :: us, .cons r t, f => by
    rw [List.all_cons, Bool.and_eq_true] at f
    rw [List.any_cons, List.any_cons, eqU_of r f.1, any_eqU t f.2]
theorem mem_eqAt {A : Around} {s : Shared} {x : V} {v : Value} (rx : RelV x v) (fx : flatV x = true) : ∀ {xs : List V} {us : List Value}, Vals xs us → xs.all flatV = true → ∀ u ∈ us, SeqAt.EqAt A s u v (eqU x u)
  | _, _, .nil, _ => fun u hu => by cases hu
  | y :: xs, u :: us, .cons r t, f => fun u' hu => by
    rw [List.all_cons, Bool.and_eq_true] at f
    rcases List.mem_cons.mp hu with rfl | hu
    · rw [eqU_of r f.1]; exact eqAt_V r rx f.1 fx
    · exact mem_eqAt rx fx t f.2 u' hu
def inV (x : V) (xs : List V) : Bool := xs.any fun y => eqV y x
/-- x in a list or tuple of flat items -/
def rIn (K : PySem.W.Frag) (neg : Bool) : R2 := fun x y H Q => ∃ p xs, y = .ref p ∧ (SqL K H p xs ∨ SqT K H p xs) ∧ flatV x = true ∧ xs.all flatV = true ∧ Q (.bl (if neg then !inV x xs else inV x xs)) H
theorem op_notIn_seq : OpR X (compareOp .NotIn) (rIn X.K true) := by
  intro pins s σ H x y v u Q I rx ry h
  obtain ⟨p, xs, rfl, hq, fx, fs, q⟩ := h
  cases ry
  rcases hq with hq | hq
  · obtain ⟨its, r, pl, hz⟩ := I.list hq
    refine SeqAt.notIn_listAt (eqU x) pl.isList (fun w hw => mem_eqAt rx fx r fs w (by simpa using hw)) ⟨.bl _, H, I, rfl, ?_⟩
    rw [show its.toArray.any (eqU x) = its.any (eqU x) by simp, any_eqU r fs]
    exact q
  · obtain ⟨its, r, pl, hz⟩ := I.tuple hq
    refine SeqAt.notIn_tupleAt (eqU x) pl (fun w hw => mem_eqAt rx fx r fs w (by simpa using hw)) ⟨.bl _, H, I, rfl, ?_⟩
    rw [show its.toArray.any (eqU x) = its.any (eqU x) by simp, any_eqU r fs]
    exact q
/-! ### len, list(x), tuple(x) of any list or tuple that is read -/
theorem call_len_seq : CallR X (.builtin "len") (fun xs H Q => ∃ p ys, xs = [.ref p] ∧ (SqL X.K H p ys ∨ SqT X.K H p ys) ∧ Q (.int ys.length) H) := by
  intro pins s σ H xs us Q I r h
  obtain ⟨p, ys, rfl, hq, q⟩ := h
  obtain ⟨u, rfl, rx⟩ := vals1 r
  cases rx
  have hn := line63
  rcases hq with hq | hq
  · obtain ⟨its, r', pl, hz⟩ := I.list hq
    have hlen := r'.length
    exact Calls.call_len_list pl.isList (by simp only [List.size_toArray] <;> omega) ⟨.int ys.length, H, I.tok _, ⟨s.toks + 1, by rw [List.size_toArray, hlen]⟩, q⟩
  · obtain ⟨its, r', pl, hz⟩ := I.tuple hq
    have hlen := r'.length
    exact len_tuple pl (by simp only [List.size_toArray] <;> omega) ⟨.int ys.length, H, I.tok _, ⟨s.toks + 1, by rw [List.size_toArray, hlen]⟩, q⟩
theorem CallR.or {f : Value} {r r' : List V → Hp → VK → Prop} (h : CallR X f r) (h' : CallR X f r') : CallR X f (fun xs H Q => r xs H Q ∨ r' xs H Q) := by
  intro pins s σ H xs us Q I rs q
  rcases q with q | q
  · exact h pins s σ H xs us Q I rs q
  · exact h' pins s σ H xs us Q I rs q
/-! ### the call of a builtin's method: o.m(..) -/
/-- the value is of that builtin type -/
def tyV (K : PySem.W.Frag) (T : String) (x : V) (H : Hp) : Prop := match x with
  | .str _ => T = "str"
  | .int _ => T = "int"
  | .ref p => (T = "list" ∧ ∃ xs, SqL K H p xs) ∨ (T = "tuple" ∧ ∃ o, K.lookup p = some o ∧ o.cls = .type "tuple" ∧ o.dict = none) ∨
      (T = "dict" ∧ ((∃ kvs, H p = some (.dK kvs)) ∨ ∃ kvs, H p = some (.dT kvs))) ∨ (T = "set" ∧ ∃ S n, H p = some (.set S n))
  | _ => False
theorem tyV_is {pins : List (Addr × Obj)} {σ : St} {H : Hp} {s : Shared} {T : String} {x : V} {v : Value} (I : Inv X pins σ H s) (r : RelV x v) (ty : tyV X.K T x H) :
    s.TypeIs v T ∧ ∀ a, v = .ref a → ∃ ob, s.heap.get? a = some ob ∧ ob.dict = none := by
  cases x with
  | str z =>
    obtain ⟨t, rfl⟩ := r
    cases (show T = "str" from ty)
    exact ⟨typeIs_str s z t, fun _ e => nomatch e⟩
  | int i =>
    obtain ⟨t, rfl⟩ := r
    cases (show T = "int" from ty)
    exact ⟨typeIs_int s i t, fun _ e => nomatch e⟩
  | ref p =>
    cases r
    rcases ty with ⟨rfl, xs, hq⟩ | ⟨rfl, o, hk, hc, hd⟩ | ⟨rfl, hk⟩ | ⟨rfl, S, n, hk⟩
    · obtain ⟨its, _, pl, _⟩ := I.list hq
      refine ⟨pl.isList.typeIs, fun a e => ?_⟩
      cases e
      obtain ⟨o, n, e, c, hd, _⟩ := pl
      exact ⟨o, e, hd⟩
    · refine ⟨⟨o, I.kIn p o hk, hc⟩, fun a e => ?_⟩
      cases e
      exact ⟨o, I.kIn _ o hk, hd⟩
    · have z : ∃ o, s.heap.get? p = some o ∧ o.ExactDict := by
        rcases hk with ⟨kvs, hk⟩ | ⟨kvs, hk⟩
        · obtain ⟨_, _, _, _, o, _, _, e, ex, _⟩ := I.hok p _ hk
          exact ⟨o, e, ex⟩
        · obtain ⟨_, _, _, _, o, _, _, e, ex, _⟩ := I.hok p _ hk
          exact ⟨o, e, ex⟩
      obtain ⟨o, e, ex⟩ := z
      refine ⟨⟨o, e, ex.1⟩, fun a e2 => ?_⟩
      cases e2
      exact ⟨o, e, ex.2.1⟩
    · obtain ⟨o, _, _, _, e, ex, _⟩ := I.hok p _ hk
      refine ⟨⟨o, e, ex.1⟩, fun a e2 => ?_⟩
      cases e2
      exact ⟨o, e, ex.2.1⟩
  | _ => exact False.elim ty
def tBM (K : PySem.W.Frag) (T : String) (r : V → List V → Hp → VK → Prop) (to : TE) (t : TA) : TE := fun σ H Q => to σ H fun x H1 => tyV K T x H1 ∧ t σ H1 fun xs H2 => r x xs H2 Q
variable {o e : Expr} {es : List Expr} {to : TE} {t : TA} {name : Str} {apos cpos : Pos} {T id : String} {r : V → List V → Hp → VK → Prop}
theorem pe_bm (pa : PlainAttrs T) (slot : Slot T name id) (hty : typeOf (.builtin id) = pure (.type "method_descriptor")) (hm : MtR X id r) (ho : PE X o to) (ha : PA X (e :: es) t)
    (hbase : attributeBase o name X.env (eval o X.env) = eval o X.env := by rfl)
    (hfew : ((backTo cpos (starEach (e :: es) X.env)).all (fun x => !x.1) && (backToKw cpos (keywordEach [] X.env)).all (fun x => x.1.isSome)
      && decide ((e :: es).length + ([] : List Keyword).length + (if ([] : List Keyword).isEmpty then 0 else 1) < 30)) = true := by rfl)
    (hline : (apos.endLine == cpos.line) = true := by rfl) (hs : starEach (e :: es) X.env = (false, eval e X.env) :: starEach es X.env := by rfl) (hplain : (backTo cpos (starEach es X.env)).any (·.1) = false := by rfl) :
    PE X (.Call (.Attribute o name apos) (e :: es) [] cpos) (tBM X.K T r to t) := by
  intro pins s σ H Q I h
  refine wpAny_Call_method_late hbase hfew hline rfl (thn (ho pins s σ H _ I h) fun v s1 ⟨x, H1, I1, r1, ty, q1⟩ => ?_)
  obtain ⟨h1, h2⟩ := tyV_is I1 r1 ty
  refine ⟨T, id, pa, slot, hty, h1, h2, ?_⟩
  have hA := ha cpos pins s1 σ H1 _ I1 q1
  rw [hs] at hA ⊢
  refine Calls.callWith_builtin (by show (false || (backTo cpos (starEach es X.env)).any (·.1)) = false; rw [hplain] <;> rfl) (Calls.evalArgs_plain ?_)
  exact thn hA fun us s2 ⟨vs, H2, I2, r2, q2⟩ => hm pins s2 σ H2 x vs v us Q I2 r1 r2 q2
/- xs.append(e), list.index on a module's tuple .. are MtR facts of 06m -/
end
end L2

namespace L2
open PySem PySem.Spec PyProof.Rows

def MtM (X : Cx) (id : String) (r : V → List V → Hp → VK → Prop) : Prop :=
  ∀ (pins : List (Addr × Obj)) (s : Shared) (σ : St) (H : Hp) (x : V) (xs : List V) (v : Value) (us : List Value) (Q : VK), Inv X pins σ H s → RelV x v → Vals xs us → r x xs H Q →
    wpAny (model X.prog X.w) X.A (call (.builtin id) (v :: us)) (EP X pins σ Q) X.xe s

/-! ### lists of values -/
theorem Vals.one : ∀ {x : V} {us : List Value}, Vals [x] us → ∃ u, us = [u] ∧ RelV x u
  | _, _, .cons r .nil => ⟨_, rfl, r⟩
theorem Vals.two : ∀ {x y : V} {us : List Value}, Vals [x, y] us → ∃ u v, us = [u, v] ∧ RelV x u ∧ RelV y v
  | _, _, _, .cons r (.cons q .nil) => ⟨_, _, rfl, r, q⟩
theorem Vals.zero : ∀ {us : List Value}, Vals [] us → us = []
  | _, .nil => rfl
theorem Vals.eraseIdx : ∀ {xs : List V} {us : List Value} (i : Nat), Vals xs us → Vals (xs.eraseIdx i) (us.eraseIdx i)
  | _, _, _, .nil => .nil
  | _, _, 0, .cons _ t => t
  | _, _, i + 1, .cons r t => .cons r (Vals.eraseIdx i t)
theorem Vals.rep {xs : List V} {us : List Value} (h : Vals xs us) : ∀ k : Nat, Vals (List.replicate k xs).flatten (List.replicate k us).flatten
  | 0 => .nil
  | k + 1 => by
    rw [List.replicate_succ, List.replicate_succ, List.flatten_cons, List.flatten_cons]
    exact Vals.append h (Vals.rep h k)
theorem foldl_rep (its : List Value) : ∀ (k : Nat) (acc : List Value),
    List.foldl (fun x1 x2 => x1 ++ x2) acc.toArray (List.replicate k its.toArray) = (acc ++ (List.replicate k its).flatten).toArray
  | 0, acc => by simp
  | k + 1, acc => by
    have e : acc.toArray ++ its.toArray = (acc ++ its).toArray := by simp
    have e2 : (acc ++ its) ++ (List.replicate k its).flatten = acc ++ (List.replicate (k + 1) its).flatten := by
      rw [List.replicate_succ, List.flatten_cons, List.append_assoc]
    rw [← e2, ← foldl_rep its k (acc ++ its), ← e, List.replicate_succ, List.foldl_cons]

section
variable {X : Cx} {pins : List (Addr × Obj)} {σ : St} {H : Hp} {s : Shared} {l b : Addr} {xs ys zs : List V}

/-! ### the two steps: a tracked list is rewritten, a new list is laid -/
theorem Inv.lset {its its' : List Value} {n : Nat} {f : Array Value → Array Value} {t' : Nat} (I : Inv X pins σ H s) (hH : H l = some (.lst xs))
    (e : s.heap.get? l = some { cls := .type "list", data := .seq its.toArray n }) (hf : f its.toArray = its'.toArray) (hv : Vals ys its') (hz : ys.length ≤ sizeLine) :
    Inv X pins σ (upd H l (.lst ys)) { s with heap := s.heap.update l (Obj.mapSeq f), toks := t' } := by
  have q := PySem.IsL.update e f
  rw [hf] at q
  refine I.write (x := l) (e := l) (by rw [hH]; exact trivial) (.inl rfl) (fun b' u hb hu => (Heap.get?_update_other s.heap (Obj.mapSeq f) (Ne.symm hb)).trans hu) ⟨_, q⟩ ?_
  exact ⟨hz, its', _, hv, q⟩
theorem Inv.lnew {its : List Value} {t' : Nat} (I : Inv X pins σ H s) (hv : Vals ys its) (hz : ys.length ≤ sizeLine) :
    Inv X pins σ (upd H s.heap.objs.size (.lst ys)) { s with heap := s.heap.push { cls := .type "list", data := .seq its.toArray }, toks := t' } :=
  I.laid (fun _ _ q => Heap.get?_push_of_some _ q) (Nat.le_refl _) ⟨hz, its, 0, hv, Heap.get?_push_size _ rfl⟩
theorem Inv.fresh (I : Inv X pins σ H s) : H s.heap.objs.size = none := I.hok.fresh (Nat.le_refl _)
theorem Inv.lstM (I : Inv X pins σ H s) (hH : H l = some (.lst xs)) : xs.length ≤ sizeLine ∧ ∃ (its : List Value) (n : Nat), Vals xs its ∧ xs.length = its.length ∧ s.heap.get? l = some { cls := .type "list", data := .seq its.toArray n } := by
  obtain ⟨z, its, n, r, e⟩ := I.hok l _ hH
  exact ⟨z, its, n, r, r.length, e⟩

theorem notLongL {n : Nat} (h : n ≤ sizeLine) : Builtin.List.listTooLong n = false := by
  unfold Builtin.List.listTooLong
  exact decide_eq_false (by omega)
end

section
variable {X : Cx}

/-! ### methods -/
def rAppend : V → List V → Hp → VK → Prop := fun x vs H Q => ∃ l xs y, x = .ref l ∧ vs = [y] ∧ H l = some (.lst xs) ∧ xs.length < sizeLine ∧ Q .non (upd H l (.lst (xs ++ [y])))
theorem mt_append : MtM X "list.append" rAppend := by
  intro pins s σ H x vs v us Q I rx rv h
  obtain ⟨l, xs, y, rfl, rfl, hH, hz, q⟩ := h
  cases rx
  obtain ⟨u, rfl, ru⟩ := rv.one
  obtain ⟨z, its, n, r, hl, e⟩ := I.lstM hH
  refine call_meets F.slot_list_append ⟨_, e, rfl⟩ F.entry_list_append (F.args_list_append_2 _ _) (PySem.list_append l its.toArray n u (by rw [List.size_toArray]; omega)) ⟨e, ?_⟩
  refine ⟨.non, _, I.lset (its' := its ++ [u]) hH e (by simp) (r.append (.cons ru .nil)) ?_, rfl, q⟩
  rw [List.length_append, List.length_singleton]
  omega

def rExtend : V → List V → Hp → VK → Prop := fun x vs H Q => ∃ l b xs zs, x = .ref l ∧ vs = [.ref b] ∧ H l = some (.lst xs) ∧ H b = some (.lst zs) ∧ xs.length + zs.length ≤ sizeLine ∧ Q .non (upd H l (.lst (xs ++ zs)))
theorem mt_extend : MtM X "list.extend" rExtend := by
  intro pins s σ H x vs v us Q I rx rv h
  obtain ⟨l, b, xs, zs, rfl, rfl, hH, hB, hz, q⟩ := h
  cases rx
  obtain ⟨u, rfl, ru⟩ := rv.one
  cases ru
  obtain ⟨z, its, n, r, hl, e⟩ := I.lstM hH
  obtain ⟨z2, its2, n2, r2, hl2, e2⟩ := I.lstM hB
  have hsz : its.toArray.size + its2.toArray.size ≤ sizeLine := by rw [List.size_toArray, List.size_toArray]; omega
  have hlong : ¬ (!its.toArray.isEmpty && Builtin.List.listTooLong (its.toArray.size + its2.toArray.size)) = true := by
    rw [notLongL hsz, Bool.and_false]
    exact Bool.false_ne_true
  refine call_meets F.slot_list_extend ⟨_, e, rfl⟩ F.entry_list_extend (F.args_list_extend_2 _ _)
    (AutoSeq1.list_extend_list_list_0 l its.toArray n b its2.toArray n2 hlong (by rw [List.size_toArray]; omega) (by omega)) ⟨e, e2, ?_⟩
  refine ⟨.non, _, I.lset (its' := its ++ its2) hH e (by simp) (r.append r2) ?_, rfl, q⟩
  rw [List.length_append]
  omega

/-! ### list + list, list += list, list * int -/
def rCat : R2 := fun x y H Q => ∃ l b xs zs, x = .ref l ∧ y = .ref b ∧ H l = some (.lst xs) ∧ H b = some (.lst zs) ∧ xs.length + zs.length ≤ sizeLine ∧ ∀ p, H p = none → Q (.ref p) (upd H p (.lst (xs ++ zs)))
theorem op_cat : OpR X (binaryOp .Add) rCat := by
  intro pins s σ H x y v u Q I rx ry h
  obtain ⟨l, b, xs, zs, rfl, rfl, hH, hB, hz, q⟩ := h
  cases rx
  cases ry
  obtain ⟨z, its, n, r, hl, e⟩ := I.lstM hH
  obtain ⟨z2, its2, n2, r2, hl2, e2⟩ := I.lstM hB
  refine PySem.P.add_list e e2 ?_ (by rw [List.size_toArray, List.size_toArray]; omega)
  have ea : its.toArray ++ its2.toArray = (its ++ its2).toArray := by simp
  rw [ea]
  exact ⟨.ref _, _, I.lnew (t' := s.toks) (r.append r2) (by rw [List.length_append]; omega), rfl, q _ I.fresh⟩
/-- a list times an int (a negative one is nothing) -/
def rRep : R2 := fun x y H Q => ∃ l k xs, x = .ref l ∧ y = .int k ∧ H l = some (.lst xs) ∧ -(2 ^ 63) ≤ k ∧ k < 2 ^ 63 ∧ xs.length * k.toNat ≤ sizeLine ∧
  ∀ p, H p = none → Q (.ref p) (upd H p (.lst (List.replicate k.toNat xs).flatten))
theorem len_rep {α : Type} (xs : List α) (k : Nat) : (List.replicate k xs).flatten.length = k * xs.length := by
  induction k with
  | zero => simp
  | succ k ih => rw [List.replicate_succ, List.flatten_cons, List.length_append, ih, Nat.succ_mul, Nat.add_comm]
theorem op_rep : OpR X (binaryOp .Mult) rRep := by
  intro pins s σ H x y v u Q I rx ry h
  obtain ⟨l, k, xs, rfl, rfl, hH, h1, h2, hz, q⟩ := h
  cases rx
  obtain ⟨t, rfl⟩ := ry
  obtain ⟨z, its, n, r, hl, e⟩ := I.lstM hH
  have hlen : its.toArray.size * k.toNat ≤ sizeLine := by rw [List.size_toArray, ← hl]; exact hz
  have hcap : ¬ its.toArray.size * k.toNat > (2 ^ 63 - 1) / 8 := by
    have : (sizeLine : Nat) ≤ (2 ^ 63 - 1) / 8 := by decide
    omega
  have hfit : ¬ (!Builtin.List.listFitsIndex k) = true := by
    rw [fitsIndex_both h1 h2]
    exact Bool.false_ne_true
  have hlong : ¬ Builtin.List.listTooLong (its.toArray.size * k.toNat) = true := by
    rw [notLongL hlen]
    exact Bool.false_ne_true
  have hnew : List.foldl (fun x1 x2 => x1 ++ x2) #[] (List.replicate (if its.toArray.isEmpty = true then 0 else k.toNat) its.toArray) = (List.replicate k.toNat its).flatten.toArray := by
    have f0 : ∀ m : Nat, List.foldl (fun x1 x2 => x1 ++ x2) #[] (List.replicate m its.toArray) = (List.replicate m its).flatten.toArray := fun m => by
      have := foldl_rep its m []
      rw [List.nil_append] at this
      exact this
    rw [f0]
    cases its with
    | nil => simp
    | cons a r' => rw [if_neg (by simp)]
  refine wpAny_binaryOp_repeat_ref (T := "list") (U := "int") (by decide) ⟨_, e, rfl⟩ (fun s' => typeIs_int s' k t) noFill_list_mul F.fills_int_mul F.slot_int_rmul repeat_list F.slot_int_index.lookup
    (call_meets F.slot_int_rmul (typeIs_int s k t) F.entry_int_rmul (F.args_int_rmul_2 _ _) (int___rmul___int_list k t l its.toArray n)
      ⟨e, rfl, ⟨_, e, rfl⟩, call_meets F.slot_list_mul ⟨_, e, rfl⟩ F.entry_list_mul (F.args_list_mul_2 _ _) (AutoListH.list___mul___list_int_3 l its.toArray n k t hfit hcap hlong) ⟨e, ?_⟩⟩)
  rw [hnew]
  exact ⟨.ref _, _, I.lnew (t' := s.toks) (r.rep k.toNat) (by rw [len_rep, Nat.mul_comm]; exact hz), rfl, q _ I.fresh⟩

/-! ### del xs[i] -/
end

/-! ### xs[a:b] = ys -/
section
variable {prog : Program} {w : World} {A : Around} {E : Value → Shared → Prop} {s : Shared}
end

section
variable {X : Cx}
end
end L2

namespace Att
open PySem PySem.W PySem.Calls PyProof.Rows

/-! ### the script -/
theorem ints_of_wellAll {P : Params} {h : Heap} : ∀ (ns : List Int) (vs : List Value), WellAll P h vs (ns.map WData.int) → IntsAre vs ns := by
  intro ns
  induction ns with
  | nil =>
    intro vs w
    rw [List.map_nil] at w
    cases w
    exact .nil
  | cons n ns ih =>
    intro vs w
    rw [List.map_cons] at w
    cases w with
    | cons a b =>
      cases a
      exact .cons _ _ (ih _ b)

theorem script_of {l : OpenLaw} {n : Nat} (hn : l.most = some n) {P : Params} {h : Heap} {args : List WData} {vals : List Value}
    (hpre : l.row.toRowW.claim.pre args = true) (hwl : WellAll P h vals args) :
    ∃ a vs ns, vals = [Value.ref a] ∧ args = [WData.list (ns.map WData.int)] ∧ h.get? a = some { cls := .type "list", data := .seq vs.toArray } ∧ IntsAre vs ns ∧ ns.length ≤ n := by
  have hsh : WShape.hasAll [] args [.list .int] = true := (pre_splitW hpre).1
  have hc : l.pre.holds [] { args := args } = true := (pre_splitW hpre).2
  obtain ⟨d, r, rfl, h1, h2⟩ := hasAllW_cons hsh
  obtain rfl := hasAllW_nil h2
  obtain ⟨xs, rfl, h3⟩ := hasW_list h1
  obtain ⟨ns, rfl⟩ := items_int h3
  have hlen : ns.length ≤ n := by
    unfold OpenLaw.pre at hc
    have h4 : (WTm.not (.lt (.lit (.int (n : Int))) (.len (.arg 0)))).holds [] { args := [.list (ns.map .int)] } = true := by
      have h4 := (holds_andW hc).1
      rw [hn] at h4
      exact h4
    have h5 := condW_of h4 (w_not (w_lt w_lit (w_len_list (w_arg rfl))))
    rw [List.length_map] at h5
    refine Nat.le_of_not_lt fun q => ?_
    have q' : (n : Int) < ((ns.length : Nat) : Int) := by omega
    first
      | (rw [decide_eq_true q'] at h5; exact absurd h5 (by decide))
      | (simp at h5; omega)
  cases hwl with
  | cons w1 w2 =>
    cases w2
    cases w1 with
    | list ho hall => exact ⟨_, _, ns, rfl, rfl, ho, ints_of_wellAll ns _ hall, hlen⟩

theorem post_true (l : OpenLaw) (args : List WData) : l.row.toRowW.claim.post args (.bool true) args = true :=
  postW_of (r := l.row.toRowW) (X := (true == true))
    (show WShape.has [] (.bool true) .bool = true by first | rfl | decide | simp [WShape.has, WShape.arms, WShape.armsAll])
    (show (WTm.eq .res (.lit (.bool true))).value [] { args := args, res := some (.bool true), after := args } = some (.bool (true == true)) from w_eq_bool (w_res rfl) w_lit) rfl

/-! ### the attachment: holds_open's last premise (the goal 'hc' behind k_head) from a wpAny of the law's body -/
/-- the same from a codeAny of the CALL (for a layer whose function contracts speak of calls) -/
theorem attach_call {l : OpenLaw} {n : Nat} {q : Program} {loose : List Str} {XP : (Str → Option Value) → Heap → Prop} {YP : World → Heap → Prop} {d : DefRec}
    (hn : l.most = some n) (hdf : d.params.defaults = [])
    (call : ∀ (w : World) (s₀ s₁ : Shared) (mg mb : Str → Option Value) (fa : Addr) (o : Obj) (pm cd doc : Value) (a : Addr) (vs : List Value) (ns : List Int),
      Ground q loose [] XP w s₀ mg mb s₁.heap → YP w s₁.heap →
      s₁.heap.get? fa = some o → o.data = .func (docDef d.name d.params d.body d.scope pm cd doc) → s₁.heap.CodeRec cd d.name → mg d.name = some (.ref fa) →
      s₁.heap.get? a = some { cls := .type "list", data := .seq vs.toArray } → IntsAre vs ns → ns.length ≤ n → s₁.gens = #[] →
      codeAny (model l.prog w) callerA (.call (.ref fa) ⟨[.ref a], []⟩) (fun r s' => r = .ok (.ret (.bool true)) ∧ OldK s₁.heap s'.heap ∧ s'.os = s₁.os ∧ AllBare s'.gens) s₁) :
    WalkO q loose XP YP l.row.toRowW d [] (fun f vs => PySem.call f vs) := by
  intro w s₀ s₁ mg mb G Y fa o pm cd doc dV kV ho hd hcd hD hmg hg args vals as hpre hlay hrd hwl hlo
  obtain rfl : dV = .none := Dflts.none hD hdf
  obtain rfl : kV = .none := Dflts.noKw hD
  obtain ⟨a, vs, ns, rfl, rfl, hobj, hints, hlen⟩ := script_of hn hpre hwl
  refine enter_call (codeAny_mono (call w s₀ s₁ mg mb fa o pm cd doc a vs ns G Y ho (fd_plain hd) hcd hmg hobj hints hlen hg) fun r s' hq => ?_)
  obtain ⟨rfl, h2, h3, h4⟩ := hq
  exact ⟨.inl ⟨.bool true, .bool true, [], rfl, fun _ => rfl, .bool true, post_true l _, fun _ => ⟨List.Pairwise.nil, fun _ hm => (nomatch hm)⟩⟩, h2, h3, h4⟩

/-! ### rules over ANY heap (no ledger) from facts about the written part K: the library's own take a ledger (News) for what they write -/
section
variable {prog : Program} {w : World} {A : Around} {E : Value → Shared → Prop} {s : Shared} {K : Frag}

/-! the whole heap as the ledger: makes every rule that writes through a ledger a rule over any heap -/
def ledger (h : Heap) (L d : Addr) : List (Addr × Obj) := (List.range h.objs.size).filterMap fun a => if a = L ∨ a = d then none else (h.get? a).map fun o => (a, o)
end
end Att

namespace L2
open PySem PySem.Spec PyProof.Rows

theorem vals_ints : ∀ {vs : List Value} {ns : List Int}, IntsAre vs ns → Vals (ns.map V.int) vs
  | _, _, .nil => .nil
  | _, _, .cons n t h => .cons ⟨t, rfl⟩ (vals_ints h)

/-- nothing is tracked but the script, known to the object (or it is an object of the module) -/
def Only (H : Hp) : Prop := ∀ b, H b = none ∨ ∃ o xs, H b = some (.frz o (.lst xs))

/-- THE HEAD: the law's promise, at the heap behind the top. F, the promise of the law's def, may use that base is part of the heap (so K.In base, base.Ns mainGlobals mg stand in Mod) -/
theorem law_call {P : Program} {w : World} {K : PySem.W.Frag} {mg mb : Str → Option Value} {CX : CXT} {k : Nat} {fa a : Addr} {fd : FuncData} {x : Str} {sp : Sp} {s₁ : Shared} {vs : List Value} {ns : List Int}
    (KX : K.In s₁.heap) (hns : s₁.heap.Ns mainGlobals mg) (hb : s₁.heap.Ns builtinsNs mb) (hbb : ∀ x : Str, x ≠ "__name__" → mb x = bootBuiltins x) (hlim : s₁.heap.NoLimit) (hg : s₁.gens = #[])
    (ha : s₁.heap.get? a = some { cls := .type "list", data := .seq vs.toArray }) (hi : IntsAre vs ns) (hl : ns.length ≤ sizeLine) (hr : Room k callerA)
    (F : ∀ base : Heap, K.In base → base.Ns mainGlobals mg → FnOk P w K mg base CX k fa fd [x] sp) (hbind : ∀ (s : Shared) (u : Value), BindsTo s fd ⟨[u], []⟩ [(x, u)])
    (hsp : ∀ H : Hp, Only H → SqL K H a (ns.map V.int) → sp [.ref a] H (fun v _ => v = .bl true) fun _ _ _ => False)
    (hCX : ∀ H e s', CX [] H s₁ (fun _ _ _ => False) e s' → False) :
    codeAny (model P w) callerA (.call (.ref fa) ⟨[.ref a], []⟩) (fun r s' => r = .ok (.ret (.bool true)) ∧ OldK s₁.heap s'.heap ∧ s'.os = s₁.os ∧ AllBare s'.gens) s₁ := by
  have rv := vals_ints hi
  have lenV := hi.length
  -- from an abstract heap in which nothing but the script may be tracked
  have core : ∀ H : Hp, Only H → SqL K H a (ns.map V.int) → HOk P w H s₁.heap → (∀ b, H b ≠ none → b = a) → (H a ≠ none → K.lookup a = none) →
      codeAny (model P w) callerA (.call (.ref fa) ⟨[.ref a], []⟩) (fun r s' => r = .ok (.ret (.bool true)) ∧ OldK s₁.heap s'.heap ∧ s'.os = s₁.os ∧ AllBare s'.gens) s₁ := by
    intro H hO hS hok hA hK
    have base_of : ∀ {b : Addr} {o : Obj}, s₁.heap.get? b = some o → H b = none → (hidT s₁.heap H).get? b = some o := fun e n => hidT_get e n
    have noA : ∀ {b : Addr} {o : Obj} {es : Array DictEntry} {ep : Nat}, s₁.heap.get? b = some o → o.data = .dict es ep → H b = none := fun {b o es ep} e d => by
      cases q : H b with
      | none => rfl
      | some u =>
        have e' : b = a := hA b (by rw [q]; simp)
        subst e'
        rw [ha] at e; cases e
        have d' : Data.seq vs.toArray _ = Data.dict es ep := d
        cases d'
    have nsK : ∀ {b : Addr} {m : Str → Option Value}, s₁.heap.Ns b m → (hidT s₁.heap H).Ns b m := fun {b m} ⟨o, es, ep, e, d, r⟩ => ⟨o, es, ep, base_of e (noA e d), d, r⟩
    have hKb : K.In (hidT s₁.heap H) := fun b o e => base_of (KX b o e) (by
      cases q : H b with
      | none => rfl
      | some u =>
        have e' : b = a := hA b (by rw [q]; simp)
        subst e'
        rw [hK (by rw [q]; simp)] at e; cases e)
    have hM : Mod K mg (hidT s₁.heap H) := ⟨hKb, nsK hns, ⟨mb, nsK hb, hbb⟩, let ⟨mc, h1, h2⟩ := hlim; ⟨mc, nsK h1, h2⟩⟩
    have e0 : Env0 P w K mg (hidT s₁.heap H) callerA [] s₁ H := ⟨rfl, hM, fun b o e => of_hidT e, Nat.le_of_eq (hidT_size _ _), trivial, fun b hb => absurd (show b ∈ ([] : List Addr) from hb) (by simp), hok, .of_eq hg⟩
    refine codeAny_mono ((F _ hKb (nsK hns)).run callerA [] s₁ H ⟨[.ref a], []⟩ [.ref a] [.ref a] _ _ hr e0 (hbind s₁ (.ref a)) (.cons rfl .nil) (hsp H hO hS)) fun r s' h => ?_
    cases r with
    | error e => exact (hCX H e s' h).elim
    | ok fl =>
      cases fl with
      | next => exact False.elim h
      | brk => exact False.elim h
      | cont => exact False.elim h
      | ret u =>
        obtain ⟨v, H', os, bare, un, hok', r', q⟩ := h
        have q' : v = .bl true := q
        subst q'
        obtain rfl : u = Value.bool true := r'
        refine ⟨rfl, OldK.of_keep fun b o e => ?_, os, bare⟩
        cases q : H b with
        | none => exact un.keep b o e q (by intro z; exact absurd (show b ∈ ([] : List Addr) from z) (by simp)) (by simp)
        | some u =>
          rcases hO b with z | ⟨ob, xs, z⟩
          · rw [q] at z; cases z
          · have z2 := un.frzs b ob _ z
            obtain ⟨e1, _⟩ := hok b _ z
            obtain ⟨e2, _⟩ := hok' b _ z2
            rw [e] at e1; cases e1
            exact e2
  cases hk : K.lookup a with
  | some o =>
    -- the script is one of the module's own objects
    have e := KX a o hk
    rw [ha] at e
    cases e
    refine core (fun _ => none) (fun _ => .inl rfl) (.inr ⟨_, vs.toArray, _, hk, rfl, rfl, rfl, by rw [List.size_toArray, lenV]; exact hl, by simpa using rv⟩) (fun b u z => by have z' : (none : Option HO) = some u := z; cases z') (fun b z => absurd rfl z) fun z => absurd rfl z
  | none =>
    refine core (fun b => if b = a then some (.frz { cls := .type "list", data := .seq vs.toArray } (.lst (ns.map V.int))) else none) (fun b => ?_) (.inl (.inr ⟨{ cls := .type "list", data := .seq vs.toArray }, if_pos rfl⟩)) (fun b u z => ?_) (fun b z => ?_) fun _ => hk
    · by_cases hb : b = a
      · exact .inr ⟨_, _, if_pos hb⟩
      · exact .inl (if_neg hb)
    · by_cases hb : b = a
      · have z' := (if_pos hb).symm.trans z
        cases z'
        subst hb
        exact ⟨ha, by rw [List.length_map]; exact hl, vs, _, rv, ha⟩
      · have z' := (if_neg hb).symm.trans z
        cases z'
    · by_cases hb : b = a
      · exact hb
      · exact absurd (if_neg hb) z
end L2

namespace L2
open PySem PySem.Spec PyProof.Rows

/-- the goal that k_head leaves (case hc), from the law's promise. F gives the function object fd (K's own) once, then the promise over every base -/
theorem walk_of {l : PySem.W.OpenLaw} {n k : Nat} {q : Program} {loose : List Str} {XP : (Str → Option Value) → Heap → Prop} {YP : World → Heap → Prop} {d : DefRec} {K : Params → PySem.W.Frag} {CX : World → CXT} {sp : World → Sp} {x : Str}
    (hn : l.most = some n) (hn2 : n ≤ sizeLine) (hdf : d.params.defaults = []) (hr : Room k callerA)
    (hY : ∀ (w : World) (h : Heap), YP w h → (K w.params).In h)
    (F : ∀ (w : World) (mg : Str → Option Value) (fa : Addr) (h : Heap), (K w.params).In h → h.Ns mainGlobals mg → mg d.name = some (.ref fa) →
      ∃ fd : FuncData, (∀ (s : Shared) (u : Value), BindsTo s fd ⟨[u], []⟩ [(x, u)]) ∧
        ∀ base : Heap, (K w.params).In base → base.Ns mainGlobals mg → FnOk l.prog w (K w.params) mg base (CX w) k fa fd [x] (sp w))
    (hsp : ∀ (w : World) (H : Hp) (a : Addr) (ns : List Int), ns.length ≤ n → Only H → SqL (K w.params) H a (ns.map V.int) → sp w [.ref a] H (fun v _ => v = .bl true) fun _ _ _ => False)
    (hCX : ∀ (w : World) (H : Hp) (s : Shared) (e : Value) (s' : Shared), CX w [] H s (fun _ _ _ => False) e s' → False) :
    PySem.W.WalkO q loose XP YP l.row.toRowW d [] (fun f vs => PySem.call f vs) := by
  refine Att.attach_call hn hdf fun w s₀ s₁ mg mb fa o pm cd doc a vs ns G Y ho hd hcd hmg hobj hints hlen hg => ?_
  have KX := hY w _ Y
  obtain ⟨fd, hb, hF⟩ := F w mg fa _ KX G.T.g hmg
  exact law_call KX G.T.g G.T.b G.T.builtins G.T.nolimit hg hobj hints (Nat.le_trans hlen hn2) hr hF hb (fun H hO hS => hsp w H a ns hlen hO hS) fun H e s' => hCX w H s₁ e s'
end L2

/-! SHORT WORDS over the layer: a def of the text, its body, what a loop and a test want. -/
namespace L2
open PySem PySem.Spec PyProof.Rows

/-! ### the text by places -/
def defArgs (s : Stmt) : Arguments := match s with
  | .FunctionDef _ a _ _ _ _ _ _ _ _ => a
  | _ => { posonlyargs := [], args := [], vararg := none, kwonlyargs := [], kw_defaults := [], kwarg := none, defaults := [] }
def defBody (s : Stmt) : List Stmt := match s with
  | .FunctionDef _ _ b _ _ _ _ _ _ _ => b
  | _ => []
def defScope (s : Stmt) : Scope := match s with
  | .FunctionDef _ _ _ _ _ _ sc _ _ _ => sc
  | _ => { kind := .function, names := [], isGenerator := false, isCoroutine := false }

/-! ### no exception leaves a def -/
abbrev CX0 : CXT := fun _ _ _ _ _ _ => False
abbrev E0 : XK := fun _ _ _ => False
theorem pass0 {X : Cx} : Passes CX0 X E0 := fun _ _ _ _ _ _ _ h => h.elim

/-! ### a def (or method) of the text as it stands behind the top -/
structure Fun (K : PySem.W.Frag) (x qual : Str) (st : Stmt) (f : Addr) (fd : FuncData) : Prop where
  ex : ∃ (oc : Value) (od : Option Addr) (kV doc pm : Value) (an : Option Addr) (cdv ct : Value) (osl : Array (Option Value)),
    fd = PySem.W.fnOf x qual (defArgs st) (defBody st) (defScope st) .none kV doc pm an cdv ct ∧ K.lookup f = some ⟨oc, od, .func fd, osl⟩ ∧ PySem.W.codeIn K cdv qual = true
  kp : PySem.W.keepIn K (.ref f) = true
section
variable {P : Program} {w : World} {K : PySem.W.Frag} {mg : Str → Option Value} {base : Heap}
/-- THE RULE for a def: its body as a term of rules, and the reading of that term -/
theorem Fun.ok {x qual : Str} {st : Stmt} {f : Addr} {fd : FuncData} {N ps : List Str} {k : Nat} {sp : Sp} (F : Fun K x qual st f fd) (S : FnScope N ps (defScope st)) (len : ∀ vs H Q E, sp vs H Q E → vs.length = ps.length)
    (hbody : ∀ (cdv : Value) (A : Around) (outer : List Env) (s : Shared) (H : Hp) (vs : List V) (Q : VK) (E : XK), Room k (A.deeper (envOfC qual (defScope st) s.heap.objs.size f cdv)) → sp vs H Q E →
      ∃ t, PSs (cxOf CX0 P w K mg base N qual (defScope st) f cdv A outer s H E).nox (defBody st) t ∧ t { nx := fun _ H' => Q .non H', rt := Q } (start N vs) H) : FnOk P w K mg base CX0 (k + 1) f fd ps sp := by
  obtain ⟨oc, od, kV, doc, pm, an, cdv, ct, osl, rfl, lk, hcd⟩ := F.ex
  refine fn_of lk hcd S len fun A outer s H vs Q E hr hsp => ?_
  obtain ⟨t, h, q⟩ := hbody cdv A outer s H vs Q E hr hsp
  exact ⟨t, h.nox, q⟩
/-- how its arguments bind (no defaults): h is «fun _ _ _ _ _ _ us hl => match us, hl with | [_, _], _ => rfl», one _ a parameter -/
theorem Fun.binds {x qual : Str} {st : Stmt} {f : Addr} {fd : FuncData} {ps : List Str} (F : Fun K x qual st f fd)
    (h : ∀ (kV doc pm : Value) (an : Option Addr) (cdv ct : Value) (us : List Value), us.length = ps.length → bindArgs (PySem.W.fnOf x qual (defArgs st) (defBody st) (defScope st) .none kV doc pm an cdv ct) ⟨us, []⟩ = pure (ps.zip us)) : Binds K fd ps [] := by
  obtain ⟨oc, od, kV, doc, pm, an, cdv, ct, osl, rfl, lk, hcd⟩ := F.ex
  exact .all (h kV doc pm an cdv ct)
theorem fun_mk {x qual : Str} {st : Stmt} {f : Addr} {oc : Value} {od an : Option Addr} {osl : Array (Option Value)} {kV doc pm cdv ct : Value} (l : K.lookup f = some ⟨oc, od, .func (PySem.W.fnOf x qual (defArgs st) (defBody st) (defScope st) .none kV doc pm an cdv ct), osl⟩)
    (c : PySem.W.codeIn K cdv qual = true) (k : PySem.W.keepIn K (.ref f) = true) : Fun K x qual st f (PySem.W.fnOf x qual (defArgs st) (defBody st) (defScope st) .none kV doc pm an cdv ct) := ⟨⟨oc, od, kV, doc, pm, an, cdv, ct, osl, rfl, l, c⟩, k⟩
end
theorem hu_of {A : Around} {k : Nat} (hr : Room k A) : A.units + 1 < cLine := Nat.lt_of_le_of_lt (Nat.add_le_add_left (by decide : 1 ≤ 64) _) hr.units
theorem small1000 {n : Nat} (h : n ≤ 1000) : n < sizeLine := Nat.lt_of_le_of_lt h (by decide)

/-! ### expressions in short: the name that stands in the i-th slot -/
section
variable {X : Cx}
theorem pv (i : Nat) {x : Str} {pos : Pos} (hN : X.N[i]? = some x := by rfl) (hv : Vis X.env.scope x := by first | exact Or.inl rfl | exact Or.inr (Or.inl rfl) | exact Or.inr (Or.inr rfl)) (hd : (x == ("__debug__" : Str)) = false := by decide)
    (hcd : (x == ("__classdict__" : Str)) = false := by decide) : PE X (.Name x pos) (tVar i) := pe_var hN hv hd hcd
end

/-! ### tests -/
/-! ### heaps -/
/-- all that was tracked is as it was -/
def Same (H H' : Hp) : Prop := ∀ b o, H b = some o → H' b = some o
theorem Same.refl (H : Hp) : Same H H := fun _ _ h => h
theorem Same.trans {H H1 H2 : Hp} (a : Same H H1) (b : Same H1 H2) : Same H H2 := fun c o h => b c o (a c o h)
theorem Same.free {H H' : Hp} (e : Same H H') {l : Addr} (h : H' l = Option.none) : H l = Option.none := by
  cases q : H l with
  | none => rfl
  | some o =>
    rw [e l o q] at h
    cases h
theorem Same.seq {K : PySem.W.Frag} {H H' : Hp} {a : Addr} {xs : List V} (e : Same H H') (h : SqL K H a xs) : SqL K H' a xs := by
  rcases h with (h | ⟨o, h⟩) | h
  · exact .inl (.inl (e _ _ h))
  · exact .inl (.inr ⟨o, e _ _ h⟩)
  · exact .inr h

end L2

namespace L2
open PySem PySem.Spec PyProof.Rows

/-! ### lists of pairs as tables -/
section
variable {κ : Type} [DecidableEq κ]
def valV (kvs : List (κ × V)) (k : κ) : Option V := (kvs.find? fun kv => decide (kv.1 = k)).map (·.2)
/-- in its place, or at the end -/
def putK (kvs : List (κ × V)) (k : κ) (v : V) : List (κ × V) :=
  if (kvs.any fun kv => decide (kv.1 = k)) = true then kvs.map (fun kv => if kv.1 = k then (kv.1, v) else kv) else kvs ++ [(k, v)]
def dropK (kvs : List (κ × V)) (k : κ) : List (κ × V) := kvs.filter fun kv => decide (kv.1 ≠ k)

theorem valV_pos {p : κ × V} {r : List (κ × V)} {k : κ} (e : p.1 = k) : valV (p :: r) k = some p.2 := by simp [valV, List.find?_cons, e]
theorem valV_neg {p : κ × V} {r : List (κ × V)} {k : κ} (e : ¬ p.1 = k) : valV (p :: r) k = valV r k := by simp [valV, List.find?_cons, e]
theorem valV_any (k : κ) : ∀ kvs : List (κ × V), (kvs.any fun kv => decide (kv.1 = k)) = (valV kvs k).isSome
  | [] => rfl
  | p :: r => by
    rw [List.any_cons]
    by_cases e : p.1 = k
    · simp only [valV_pos e, decide_eq_true e, Bool.true_or, Option.isSome_some]
    · rw [valV_neg e, decide_eq_false e, Bool.false_or]; exact valV_any k r
theorem RelO.isSome_eq {o : Option V} {u : Option Value} (r : RelO o u) : o.isSome = u.isSome := by
  cases o with
  | none => cases u with
    | none => rfl
    | some _ => exact (show False from r).elim
  | some _ => cases u with
    | none => exact (show False from r).elim
    | some _ => rfl
theorem RelO.getD {o : Option V} {u : Option Value} {d : V} {d' : Value} (r : RelO o u) (rd : RelV d d') : RelV (o.getD d) (u.getD d') := by
  cases o with
  | none => cases u with
    | none => exact rd
    | some _ => exact (show False from r).elim
  | some _ => cases u with
    | none => exact (show False from r).elim
    | some _ => exact r

/-- raw tables of the same keys -/
theorem KV.val {kvs : List (κ × V)} {vs : List (κ × Value)} (r : KV kvs vs) (k : κ) : RelO (valV kvs k) (valueAt vs k) := by
  unfold KV at r
  induction r with
  | nil => exact True.intro
  | @cons p q ps qs h t ih =>
    obtain ⟨h1, h2⟩ := h
    by_cases e : p.1 = k
    · have e' : q.1 = k := h1.symm.trans e
      have b : valueAt (q :: qs) k = some q.2 := by simp [valueAt, List.find?_cons, e']
      rw [valV_pos e, b]; exact h2
    · have e' : ¬ q.1 = k := fun z => e (h1.trans z)
      have b : valueAt (q :: qs) k = valueAt qs k := by simp [valueAt, List.find?_cons, e']
      rw [valV_neg e, b]; exact ih
theorem KV.any {kvs : List (κ × V)} {vs : List (κ × Value)} (r : KV kvs vs) (k : κ) : (kvs.any fun kv => decide (kv.1 = k)) = vs.any fun kv => decide (kv.1 = k) := by
  unfold KV at r
  induction r with
  | nil => rfl
  | cons h t ih => rw [List.any_cons, List.any_cons, ih, h.1]
theorem KV.repl {kvs : List (κ × V)} {vs : List (κ × Value)} (r : KV kvs vs) (k : κ) {y : V} {u : Value} (ry : RelV y u) :
    KV (kvs.map fun kv => if kv.1 = k then (kv.1, y) else kv) (vs.map fun kv => if kv.1 = k then (kv.1, u) else kv) := by
  unfold KV at r ⊢
  induction r with
  | nil => exact .nil
  | @cons p q ps qs h t ih =>
    rw [List.map_cons, List.map_cons]
    refine .cons ?_ ih
    obtain ⟨h1, h2⟩ := h
    by_cases e : p.1 = k
    · rw [if_pos e, if_pos (h1.symm.trans e)]; exact ⟨h1, ry⟩
    · rw [if_neg e, if_neg (fun z => e (h1.trans z))]; exact ⟨h1, h2⟩
theorem KV.put {kvs : List (κ × V)} {vs : List (κ × Value)} (r : KV kvs vs) (k : κ) {y : V} {u : Value} (ry : RelV y u) : KV (putK kvs k y) (stored vs k u) := by
  unfold putK stored
  rw [r.any k]
  by_cases e : (vs.any fun kv => decide (kv.1 = k)) = true
  · rw [if_pos e, if_pos e]; exact r.repl k ry
  · rw [if_neg e, if_neg e]; exact Paired.snoc r ⟨rfl, ry⟩
theorem KV.drop {kvs : List (κ × V)} {vs : List (κ × Value)} (r : KV kvs vs) (k : κ) : KV (dropK kvs k) (without vs k) := by
  unfold KV at r ⊢
  unfold dropK without
  induction r with
  | nil => exact .nil
  | @cons p q ps qs h t ih =>
    obtain ⟨h1, h2⟩ := h
    rw [List.filter_cons, List.filter_cons]
    by_cases e : p.1 = k
    · have a : ¬ decide (p.1 ≠ k) = true := by simp [e]
      have b : ¬ decide (q.1 ≠ k) = true := by simp [h1.symm.trans e]
      rw [if_neg a, if_neg b]; exact ih
    · have e' : ¬ q.1 = k := fun z => e (h1.trans z)
      have a : decide (p.1 ≠ k) = true := by simp [e]
      have b : decide (q.1 ≠ k) = true := by simp [e']
      rw [if_pos a, if_pos b]; exact .cons ⟨h1, h2⟩ ih
theorem KV.keys {kvs : List (κ × V)} {vs : List (κ × Value)} (r : KV kvs vs) : kvs.map (·.1) = vs.map (·.1) := by
  unfold KV at r
  induction r with
  | nil => rfl
  | cons h t ih => rw [List.map_cons, List.map_cons, ih, h.1]
theorem KV.length {kvs : List (κ × V)} {vs : List (κ × Value)} (r : KV kvs vs) : kvs.length = vs.length := Paired.length r
end


/-! ### a tracked dict, its keys ints and texts or tuples of these -/
theorem kV_is {P : Program} {w : World} {k : Key} {u : Value} (r : RelV (kV k) u) : (mixKind P w).is k u = true := by
  cases k with
  | inl i => obtain ⟨t, e⟩ := (show ∃ t, u = Value.int i t from r); subst e; exact mixKind_int P w i t
  | inr x => obtain ⟨t, e⟩ := (show ∃ t, u = Value.str x t from r); subst e; exact mixKind_str P w x t
theorem items_are {P : Program} {w : World} : ∀ {ks : List Key} {us : List Value}, Vals (ks.map kV) us → ItemsAre (mixKind P w) ks us
  | [], _, r => by rw [List.map_nil] at r; cases r; exact .nil
  | k :: ks, _, r => by
    rw [List.map_cons] at r
    cases r with
    | cons h t => exact .cons (kV_is h) (items_are t)

/-- raw entries of a dict with tuple keys -/
abbrev KT (H : Hp) : List (List Key × V) → List (List Key × Addr × Value) → Prop := Paired fun p q => p.1 = q.1 ∧ H q.2.1 = some (.tup (p.1.map kV)) ∧ RelV p.2 q.2.2
theorem KT.val {H : Hp} {kvs : List (List Key × V)} {xs : List (List Key × Addr × Value)} (r : KT H kvs xs) (k : List Key) : RelO (valV kvs k) ((atKey xs k).map (·.2)) := by
  induction r with
  | nil => exact True.intro
  | @cons p q ps qs h t ih =>
    obtain ⟨h1, _, h2⟩ := h
    by_cases e : p.1 = k
    · have e' : q.1 = k := h1.symm.trans e
      have b : atKey (q :: qs) k = some q.2 := by simp [atKey, List.find?_cons, e']
      rw [valV_pos e, b]; exact h2
    · have e' : ¬ q.1 = k := fun z => e (h1.trans z)
      have b : atKey (q :: qs) k = atKey qs k := by simp [atKey, List.find?_cons, e']
      rw [valV_neg e, b]; exact ih
theorem KT.repl {H : Hp} {kvs : List (List Key × V)} {xs : List (List Key × Addr × Value)} (r : KT H kvs xs) (k : List Key) {y : V} {u : Value} (ry : RelV y u) :
    KT H (kvs.map fun kv => if kv.1 = k then (kv.1, y) else kv) (xs.map (putAt k u)) := by
  induction r with
  | nil => exact .nil
  | @cons p q ps qs h t ih =>
    rw [List.map_cons, List.map_cons]
    refine .cons ?_ ih
    obtain ⟨h1, h2, h3⟩ := h
    unfold putAt
    by_cases e : p.1 = k
    · rw [if_pos e, if_pos (h1.symm.trans e)]; exact ⟨h1, h2, ry⟩
    · rw [if_neg e, if_neg (fun z => e (h1.trans z))]; exact ⟨h1, h2, h3⟩
theorem KT.put {H : Hp} {kvs : List (List Key × V)} {xs : List (List Key × Addr × Value)} (r : KT H kvs xs) (k : List Key) {b : Addr} {y : V} {u : Value} (hb : H b = some (.tup (k.map kV))) (ry : RelV y u) :
    KT H (putK kvs k y) (storedH xs k b u) := by
  have e : (kvs.any fun kv => decide (kv.1 = k)) = (atKey xs k).isSome := by
    rw [valV_any, (r.val k).isSome_eq, Option.isSome_map]
  unfold putK storedH
  rw [e]
  by_cases q : (atKey xs k).isSome = true
  · rw [if_pos q, if_pos q]; exact r.repl k ry
  · rw [if_neg q, if_neg q]; exact Paired.snoc r ⟨rfl, hb, ry⟩
theorem KT.keeps {H H' : Hp} {kvs : List (List Key × V)} {xs : List (List Key × Addr × Value)} (r : KT H kvs xs) (ht : ∀ b ys, H b = some (.tup ys) → H' b = some (.tup ys)) : KT H' kvs xs :=
  Paired.mapP r fun _ _ z => ⟨z.1, ht _ _ z.2.1, z.2.2⟩

section
variable {P : Program} {w : World} {H : Hp} {h : Heap} {a : Addr}
theorem rd_of {u : HO} (ok : HOk P w H h) (e : Rd H a u) : ObjOk P w H h a u := e.ok ok
theorem dk_rd {kvs : List (Key × V)} (ok : HOk P w H h) (e : Rd H a (.dK kvs)) : kvs.length ≤ sizeLine ∧ (a == sysModules) = false ∧ ∃ vs, KV kvs vs ∧ h.DictOf (mixKind P w) a vs :=
  show ObjOk P w H h a (.dK kvs) from rd_of ok e
/-- a tracked tuple of ints and texts is a key -/
theorem key_of {ks : List Key} (ok : HOk P w H h) (e : H a = some (.tup (ks.map kV))) : (tupleKind (mixKind P w)).is h ks a := by
  obtain ⟨_, its, r, o, h1, h2, n, h3⟩ := (show ObjOk P w H h a (.tup (ks.map kV)) from ok a _ e)
  exact ⟨o, its.toArray, n, h1, h2, h3, by simpa using items_are r⟩
theorem dt_rd {kvs : List (List Key × V)} (ok : HOk P w H h) (e : Rd H a (.dT kvs)) : kvs.length ≤ sizeLine ∧ (a == sysModules) = false ∧
    ∃ xs, KT H kvs xs ∧ h.DictOfH (tupleKind (mixKind P w)) a xs := by
  obtain ⟨z, y, xs, r, o, es, ep, h1, h2, h3, h4, h5⟩ := (show ObjOk P w H h a (.dT kvs) from rd_of ok e)
  refine ⟨z, y, xs, r, o, es, ep, h1, h2, h3, h4, fun x hx => ?_, h5⟩
  have all : ∀ {l : List (List Key × V)} {m : List (List Key × Addr × Value)}, KT H l m → ∀ x ∈ m, (tupleKind (mixKind P w)).is h x.1 x.2.1 := by
    intro l m q
    induction q with
    | nil => intro x hx; exact nomatch hx
    | @cons p q ps qs hq t ih =>
      intro x hx
      rcases List.mem_cons.mp hx with e | hx
      · subst e
        exact key_of ok (by rw [← hq.1]; exact hq.2.1)
      · exact ih x hx
  exact all r x hx
end

/-- what the dict at a holds at the key y -/
def DGet (H : Hp) (a : Addr) (y : V) (r : Option V) : Prop :=
  (∃ kvs k, Rd H a (.dK kvs) ∧ y = kV k ∧ r = valV kvs k) ∨ ∃ kvs k b, Rd H a (.dT kvs) ∧ y = .ref b ∧ H b = some (.tup (k.map kV)) ∧ r = valV kvs k
/-- the heap behind a[y] = v -/
def DPut (H : Hp) (a : Addr) (y v : V) (H' : Hp) : Prop :=
  (∃ kvs k, H a = some (.dK kvs) ∧ y = kV k ∧ kvs.length < sizeLine ∧ H' = upd H a (.dK (putK kvs k v))) ∨
  ∃ kvs k b, H a = some (.dT kvs) ∧ y = .ref b ∧ H b = some (.tup (k.map kV)) ∧ kvs.length < sizeLine ∧ H' = upd H a (.dT (putK kvs k v))
theorem DGet.k {H : Hp} {a : Addr} {kvs : List (Key × V)} {k : Key} (e : H a = some (.dK kvs)) : DGet H a (kV k) (valV kvs k) := .inl ⟨kvs, k, .inl e, rfl, rfl⟩
theorem DGet.t {H : Hp} {a b : Addr} {kvs : List (List Key × V)} {k : List Key} (e : H a = some (.dT kvs)) (eb : H b = some (.tup (k.map kV))) : DGet H a (.ref b) (valV kvs k) := .inr ⟨kvs, k, b, .inl e, rfl, eb, rfl⟩
theorem DPut.k {H : Hp} {a : Addr} {kvs : List (Key × V)} {k : Key} {v : V} (e : H a = some (.dK kvs)) (hl : kvs.length < sizeLine) : DPut H a (kV k) v (upd H a (.dK (putK kvs k v))) := .inl ⟨kvs, k, e, rfl, hl, rfl⟩
theorem DPut.t {H : Hp} {a b : Addr} {kvs : List (List Key × V)} {k : List Key} {v : V} (e : H a = some (.dT kvs)) (eb : H b = some (.tup (k.map kV))) (hl : kvs.length < sizeLine) :
    DPut H a (.ref b) v (upd H a (.dT (putK kvs k v))) := .inr ⟨kvs, k, b, e, rfl, eb, hl, rfl⟩


section
variable {X : Cx} {pins : List (Addr × Obj)} {σ : St} {H : Hp} {s : Shared} {a : Addr} {y v : V} {u r : Value} {o : Option V} {A : Around} {E : Value → Shared → Prop}

theorem Inv.big (I : Inv X pins σ H s) : sysModules < s.heap.objs.size := by
  have h : mainGlobals < s.heap.objs.size := (I.mod.glob.keeps I.bk).lt
  exact Nat.lt_trans (by decide) h

/-- d[y], there -/
theorem d_getItem {Q : Value → Shared → Prop} (hu : A.units + 1 < cLine) (I : Inv X pins σ H s) (g : DGet H a y (some v)) (ry : RelV y u) (h : ∀ w' s', Inv X pins σ H s' → RelV v w' → Q w' s') :
    wpAny (model X.prog X.w) A (getItem (.ref a) u) Q E s := by
  rcases g with ⟨kvs, k, e, ey, l⟩ | ⟨kvs, k, b, e, ey, eb, l⟩
  · subst ey
    obtain ⟨z, hd, vs, rel, dd⟩ := dk_rd I.hok e
    obtain ⟨w', hw, rw'⟩ := RelO.some_of (v := v) (o := valueAt vs k) (by rw [l]; exact rel.val k)
    exact wpAny_getItem_of (kV_is ry) dd.mapOf hw (h w' _ (I.tok _) rw')
  · subst ey
    cases (show u = Value.ref b from ry)
    obtain ⟨z, hd, xs, rel, dd⟩ := dt_rd I.hok e
    obtain ⟨w', hw, rw'⟩ := RelO.some_of (v := v) (o := (atKey xs k).map (·.2)) (by rw [l]; exact rel.val k)
    obtain ⟨p, hp, hp2⟩ := Option.map_eq_some_iff.mp hw
    refine wpAny_getItem_heap (tupleKind_room_in1 hu) (key_of I.hok eb) dd hp ?_
    rw [hp2]
    exact h w' _ (I.tok _) rw'
theorem d_notIn {Q : Value → Shared → Prop} (hu : A.units + 1 < cLine) (I : Inv X pins σ H s) (g : DGet H a y o) (ry : RelV y u) (h : ∀ s', Inv X pins σ H s' → Q (.bool (!o.isSome)) s') :
    wpAny (model X.prog X.w) A (compareOp .NotIn u (.ref a)) Q E s := by
  rcases g with ⟨kvs, k, e, ey, l⟩ | ⟨kvs, k, b, e, ey, eb, l⟩
  · subst ey
    obtain ⟨z, hd, vs, rel, dd⟩ := dk_rd I.hok e
    refine wpAny_notIn_of (kV_is ry) hd dd.mapOf ?_
    rw [← (rel.val k).isSome_eq, ← l]
    exact h _ (I.tok _)
  · subst ey
    cases (show u = Value.ref b from ry)
    obtain ⟨z, hd, xs, rel, dd⟩ := dt_rd I.hok e
    refine wpAny_notIn_heap (tupleKind_room_in1 hu) (key_of I.hok eb) hd dd ?_
    have q := (rel.val k).isSome_eq
    rw [Option.isSome_map] at q
    rw [← q, ← l]
    exact h _ (I.tok _)
end

section
variable {X : Cx} {pins : List (Addr × Obj)} {σ : St} {H : Hp} {s : Shared} {a : Addr} {kvs : List (Key × V)} {k : Key} {u : Value} {A : Around} {E : Value → Shared → Prop}
end


/-! ### readings and rules -/
/-- the element of a subscription, not a slice -/
def NoSl (i : Expr) : Prop := ∀ ov iv, subscripted i false ov iv = operate [ov, iv] (getItem ov iv)
theorem subD_of {prog : Program} {w : World} {A : Around} {E : Value → Shared → Prop} {s : Shared} {env : Env} {value slice : Expr} {pos : Pos} {T id : String} {Q : Value → Shared → Prop}
    (hl : typeLookup (.type T) "__getitem__" = pure (some (.builtin id))) (hs : NoSl slice)
    (h : wpAny (model prog w) A (eval value env) (fun o s₁ => wpAny (model prog w) A (eval slice env) (fun i s₂ => s₂.TypeIs o T ∧ wpAny (model prog w) A (getItem o i) Q E s₂) E s₁) E s) :
    wpAny (model prog w) A (eval (.Subscript value slice pos) env) Q E s := by
  refine Subscript_ (wpAny_mono h (fun o s₁ h₁ => wpAny_mono h₁ (fun i s₂ h₂ => ?_) fun _ _ x => x) fun _ _ x => x)
  obtain ⟨hT, h₂⟩ := h₂
  unfold subscriptTail
  refine wpAny_bind ?_
  rw [getitemInPython_of_ne hT.not_modules]
  refine wpAny_bind (wpAny_specialOf hT hl ?_)
  have fin : wpAny (model prog w) A (subscripted slice false o i) (fun r s₃ => wpAny (model prog w) A (letTemporaryGo value o r >>= fun _ => pure r) Q E s₃) E s₂ := by
    rw [hs o i]
    exact wpAny_operating (wpAny_mono h₂ (fun r s₃ h₃ => wpAny_bind (wpAny_letTemporaryGo (wpAny_pure h₃))) fun _ _ x => x)
  first
    | exact wpAny_pure (wpAny_bind fin)
    | exact wpAny_bind (wpAny_pure (wpAny_bind fin))
    | exact wpAny_bind fin

theorem dict_typeIs {X : Cx} {pins : List (Addr × Obj)} {σ : St} {H : Hp} {s : Shared} {a : Addr} {y : V} {o : Option V} (I : Inv X pins σ H s) (g : DGet H a y o) : s.TypeIs (.ref a) "dict" := by
  rcases g with ⟨kvs, k, e, _, _⟩ | ⟨kvs, k, b, e, _, _, _⟩
  · obtain ⟨_, _, vs, _, dd⟩ := dk_rd I.hok e
    exact dd.typeIs
  · obtain ⟨_, _, xs, _, dd⟩ := dt_rd I.hok e
    exact dd.typeIs
/-- d[y] -/
def tDGet (td ty : TE) : TE := fun σ H Q => td σ H fun x H1 => ty σ H1 fun y H2 => ∃ a v, x = .ref a ∧ DGet H2 a y (some v) ∧ Q v H2
def tDNotIn (ty td : TE) : TE := fun σ H Q => ty σ H fun y H1 => td σ H1 fun x H2 => ∃ a o, x = .ref a ∧ DGet H2 a y o ∧ Q (.bl (!o.isSome)) H2
section
variable {X : Cx} {o i e value : Expr} {pos pos' tpos : Pos} {td ty tv : TE}
theorem pe_dget (hu : X.A.units + 1 < cLine) (ho : PE X o td) (hi : PE X i ty) (hs : NoSl i) : PE X (.Subscript o i pos) (tDGet td ty) := by
  intro pins s σ H Q I h
  refine subD_of PySem.F.slot_dict_getitem.lookup hs (thn (ho pins s σ H _ I h) fun u s1 ⟨x, H1, I1, rx, q1⟩ => thn (hi pins s1 σ H1 _ I1 q1) fun iv s2 ⟨y, H2, I2, ry, a, v, ex, g, q2⟩ => ?_)
  subst ex
  obtain rfl : u = Value.ref a := rx
  exact ⟨dict_typeIs I2 g, d_getItem hu I2 g ry fun w' s3 I3 rw' => ⟨v, H2, I3, rw', q2⟩⟩
theorem pc_dnotin (hu : X.A.units + 1 < cLine) (hi : PE X i ty) (ho : PE X o td) : PC X .NotIn i o (tDNotIn ty td) := by
  intro pins s σ H Q I h
  refine thn (hi pins s σ H _ I h) fun iv s1 ⟨y, H1, I1, ry, q1⟩ => thn (ho pins s1 σ H1 _ I1 q1) fun u s2 ⟨x, H2, I2, rx, a, ov, ex, g, q2⟩ => ?_
  subst ex
  obtain rfl : u = Value.ref a := rx
  exact d_notIn hu I2 g ry fun s3 I3 => ⟨.bl (!ov.isSome), H2, I3, rfl, q2⟩
end


/-! ### displays -/
section
variable {X : Cx} {pos : Pos}
end

/-! ### methods -/
section
variable {X : Cx} {pins : List (Addr × Obj)} {σ : St} {H : Hp} {s : Shared} {a : Addr} {y d : V} {u r : Value} {o : Option V} {A : Around} {E : Value → Shared → Prop}
end

section
variable {X : Cx} {o e f : Expr} {apos cpos : Pos} {td ty tx : TE}
end

/-! ### dict(d): a copy -/
section
variable {X : Cx} {pins : List (Addr × Obj)} {σ : St} {H : Hp} {s : Shared} {a : Addr} {kvs : List (Key × V)} {A : Around} {E : Value → Shared → Prop}
end


section
variable {X : Cx} {pins : List (Addr × Obj)} {σ : St} {H : Hp} {s : Shared} {a : Addr} {y : V} {u : Value} {A : Around} {E : Value → Shared → Prop}
end
end L2
namespace L2
open PySem PySem.Spec PyProof.Rows
section
variable {X : Cx}
end
/-! ### a dict's pairs: keys that differ -/
section
variable {κ : Type} [DecidableEq κ]
end
end L2


/-! ### list comprehensions over the layer -/
namespace L2
open PySem PySem.Spec PyProof.Rows

theorem closGo {env : Env} : ∀ (names : List (Str × NameKind)), (∀ x ∈ names, x.2 = NameKind.free → ∃ c, env.cells.lookup x.1 = some c) →
    ∀ cs : List (Str × Addr), (∀ x c, cs.lookup x = some c → env.cells.lookup x = some c) →
    ∃ cl : List (Str × Addr), (forIn names cs (fun (x : Str × NameKind) (r : List (Str × Addr)) => (if (x.2 == NameKind.free) = true then do let a ← cellOf env x.1; pure (ForInStep.yield ((x.1, a) :: r)) else pure (ForInStep.yield r) : Sem (ForInStep (List (Str × Addr)))))) = (pure cl : Sem (List (Str × Addr))) ∧
      (∀ x c, cl.lookup x = some c → env.cells.lookup x = some c) ∧ (∀ x, ((x, NameKind.free) ∈ names ∨ ∃ c, cs.lookup x = some c) → ∃ c, cl.lookup x = some c)
  | [], _, cs, hs => ⟨cs, by rw [List.forIn_nil], hs, fun x h => h.elim (fun z => nomatch z) id⟩
  | (n, k) :: r, hf, cs, hs => by
    have hr : ∀ x ∈ r, x.2 = NameKind.free → ∃ c, env.cells.lookup x.1 = some c := fun x hx => hf x (List.mem_cons_of_mem _ hx)
    by_cases hk : k = NameKind.free
    · subst hk
      obtain ⟨a, ha⟩ := hf (n, NameKind.free) List.mem_cons_self rfl
      have hs' : ∀ x c, ((n, a) :: cs).lookup x = some c → env.cells.lookup x = some c := fun x c h => by
        rw [List.lookup_cons] at h
        by_cases hx : x = n
        · subst hx
          simp only [beq_self_eq_true] at h
          rw [← h]; exact ha
        · have : (x == n) = false := beq_eq_false_iff_ne.mpr hx
          rw [this] at h
          exact hs x c h
      obtain ⟨cl, e, h1, h2⟩ := closGo r hr ((n, a) :: cs) hs'
      refine ⟨cl, ?_, h1, fun x h => h2 x ?_⟩
      · rw [List.forIn_cons]
        have e1 : cellOf env n = pure a := by unfold cellOf; rw [show env.cells.lookup n = some a from ha]
        simp only [beq_self_eq_true, if_true, e1]
        exact e
      · rcases h with h | ⟨c, h⟩
        · rcases List.mem_cons.mp h with h | h
          · have : x = n := congrArg Prod.fst h
            subst this
            exact .inr ⟨a, by rw [List.lookup_cons]; simp⟩
          · exact .inl h
        · by_cases hx : x = n
          · subst hx; exact .inr ⟨a, by rw [List.lookup_cons]; simp⟩
          · exact .inr ⟨c, by rw [List.lookup_cons, beq_eq_false_iff_ne.mpr hx]; exact h⟩
    · obtain ⟨cl, e, h1, h2⟩ := closGo r hr cs hs
      refine ⟨cl, ?_, h1, fun x h => h2 x ?_⟩
      · rw [List.forIn_cons]
        have hb : (k == NameKind.free) = false := by simpa using hk
        simp only [hb, Bool.false_eq_true, if_false]
        exact e
      · rcases h with h | h
        · rcases List.mem_cons.mp h with h | h
          · exact absurd (congrArg Prod.snd h).symm hk
          · exact .inl h
        · exact .inr h
theorem clos_of {scope : Scope} {env : Env} (hf : ∀ x ∈ scope.names, x.2 = NameKind.free → ∃ c, env.cells.lookup x.1 = some c) :
    ∃ cl : List (Str × Addr), closureFor scope env = pure cl ∧ (∀ x c, cl.lookup x = some c → env.cells.lookup x = some c) ∧ (∀ x, (x, NameKind.free) ∈ scope.names → ∃ c, cl.lookup x = some c) := by
  obtain ⟨cl, e, h1, h2⟩ := closGo scope.names hf [] (fun x c h => by simp at h)
  refine ⟨cl, ?_, h1, fun x h => h2 x (.inl h)⟩
  unfold closureFor
  show ((forIn scope.names [] (fun (x : Str × NameKind) (r : List (Str × Addr)) => (if (x.2 == NameKind.free) = true then do let a ← cellOf env x.1; pure (ForInStep.yield ((x.1, a) :: r)) else pure (ForInStep.yield r) : Sem (ForInStep (List (Str × Addr)))))) >>= fun s => pure s) = pure cl
  rw [e]
  rfl

/-- names behind relabel -/
theorem relabel_out {env : Env} : ∀ {names : List (Str × NameKind)} {x : Str} {k : NameKind}, (∀ y ∈ names, y.2 ≠ NameKind.cell) →
    (names.map fun (n, k) => if (k == NameKind.free && env.scope.kind == .function && env.kindOf n == some .cell) then (n, NameKind.cell) else (n, k)).lookup x = some k → (k = .cell ∨ k = .free) → (x, NameKind.free) ∈ names
  | [], _, _, _, h, _ => by simp at h
  | (n, kk) :: r, x, k, hc, h, hk => by
    have ih := @relabel_out env r x k (fun y hy => hc y (List.mem_cons_of_mem _ hy))
    have hh := hc (n, kk) List.mem_cons_self
    simp only [List.map_cons] at h
    by_cases hcond : (kk == NameKind.free && env.scope.kind == .function && env.kindOf n == some .cell) = true
    · rw [if_pos hcond, List.lookup_cons] at h
      have hfree : kk = NameKind.free := by
        rw [Bool.and_eq_true, Bool.and_eq_true] at hcond
        simpa using hcond.1.1
      cases hx : x == n with
      | true =>
        have : x = n := by simpa using hx
        subst this; subst hfree
        exact List.mem_cons_self
      | false => rw [hx] at h; exact List.mem_cons_of_mem _ (ih h hk)
    · rw [if_neg hcond, List.lookup_cons] at h
      cases hx : x == n with
      | true =>
        rw [hx] at h
        have hkk : kk = k := Option.some.inj h
        have : x = n := by simpa using hx
        subst this; subst hkk
        rcases hk with z | z
        · exact absurd z hh
        · subst z; exact List.mem_cons_self
      | false => rw [hx] at h; exact List.mem_cons_of_mem _ (ih h hk)
theorem relabel_free {env : Env} : ∀ {names : List (Str × NameKind)} {x : Str}, names.lookup x = some .free →
    let l := (names.map fun (n, k) => if (k == NameKind.free && env.scope.kind == .function && env.kindOf n == some .cell) then (n, NameKind.cell) else (n, k))
    l.lookup x = some .cell ∨ l.lookup x = some .free
  | [], _, h => by simp at h
  | (n, kk) :: r, x, h => by
    have ih := @relabel_free env r x
    simp only [List.map_cons]
    rw [List.lookup_cons] at h
    by_cases hcond : (kk == NameKind.free && env.scope.kind == .function && env.kindOf n == some .cell) = true
    · rw [if_pos hcond, List.lookup_cons]
      cases hx : x == n with
      | true => exact .inl rfl
      | false => rw [hx] at h; exact ih h
    · rw [if_neg hcond, List.lookup_cons]
      cases hx : x == n with
      | true => rw [hx] at h; exact .inr h
      | false => rw [hx] at h; exact ih h

/-- the block's context: names N, the iterator's records at ex -/
abbrev Cx.comp (X : Cx) (N : List Str) (scope : Scope) (cl : List (Str × Addr)) (C : Addr) (s : Shared) (H : Hp) (ex : List Addr) (E : Value → Shared → Prop) : Cx :=
  { X with N := N, s₀ := s, H₀ := H, env := compEnvC scope cl C X.env, outer := X.stack, ex := ex, fn := fun _ => false, pn := [], xe := E }

/-- the tests of a comprehension -/
def PTs (X : Cx) (ifs : List Expr) (t : TT) : Prop :=
  ∀ (pins : List (Addr × Obj)) (s : Shared) (σ : St) (H : Hp) (Q : Bool → Hp → Prop), Inv X pins σ H s → t σ H Q →
    wpAny (model X.prog X.w) X.A (forIn ifs true fun c r => if r = true then do let ok ← isTrue c X.env (eval c X.env); pure (ForInStep.yield ok) else pure (ForInStep.yield r)) (TP X pins σ Q) X.xe s
def tTests0 : TT := fun _ H Q => Q true H
theorem tests0 {σ : St} {H : Hp} {A B : Hp → Prop} (h : A H) : tTests0 σ H fun c H5 => if c = true then A H5 else B H5 := by
  show if true = true then A H else B H
  rw [if_pos rfl]
  exact h
theorem pts_nil {X : Cx} : PTs X [] tTests0 := fun _ _ _ H _ I h => wpAny_tests_nil ⟨H, I, h⟩
/-- the target writes below n alone -/
def GKeep (n : Nat) (g : TG) : Prop := ∀ x σ H Q, g x σ H Q → g x σ H fun σ2 H2 => Q σ2 H2 ∧ σ2.length = σ.length ∧ ∀ i, n ≤ i → σ2[i]? = σ[i]?
theorem gk_name {n i : Nat} (h : i < n) : GKeep n (gName i) := fun x σ H Q q => ⟨q, by simp, fun j hj => by rw [List.getElem?_set_ne (by lia)]⟩
theorem gk_tup2 {K : PySem.W.Frag} {n i j : Nat} (hi : i < n) (hj : j < n) : GKeep n (gTup K 2 (gCons (gName i) (gCons (gName j) gNil))) := fun x σ H Q q => by
  obtain ⟨a, xs, e1, hq, hl, v, r, e2, w, r2, e3, e4, q⟩ := q
  exact ⟨a, xs, e1, hq, hl, v, r, e2, w, r2, e3, e4, q, by simp, fun k hk => by rw [List.getElem?_set_ne (by lia), List.getElem?_set_ne (by lia)]⟩

/-- the block's names at the entry: the targets without a value, then what is taken from around -/
def compSt (n : Nat) (caps : List (Nat × Str)) (σ : St) : St := List.replicate n none ++ caps.map fun p => (σ[p.1]?).join
/-- what a block's turns keep -/
def CStep (g : TG) (tt : TT) (te : TE) (σ : St) (Q : VK) (J : It) (W : Nat → Nat → List V → Hp → Prop) : Prop :=
  ∀ i m ys H2, W i m ys H2 → ys.length ≤ sizeLine ∧
    ((J.stop i H2 ∧ ∀ p, H2 p = none → Q (.ref p) (upd H2 p (.lst ys))) ∨
    (J.go i H2 ∧ ∃ N : List V → Hp → Prop, (∀ ys' H', N ys' H' → ∃ m', m' < m ∧ W (i + 1) m' ys' H') ∧ ∀ x H3, J.yld i H2 x H3 → g x σ H3 fun σ4 H4 => tt σ4 H4 fun c H5 =>
      if c = true then te σ4 H5 fun v H6 => N (ys ++ [v]) H6 else N ys H5))

/-- the block's turns over the iterator J, from the heap H1; Q of the new list -/
def CompGo (n : Nat) (caps : List (Nat × Str)) (g : TG) (tt : TT) (te : TE) (σ : St) (Q : VK) (J : It) (H1 : Hp) : Prop :=
  ∃ W : Nat → Nat → List V → Hp → Prop, (∃ m, W 0 m [] H1) ∧ CStep g tt te (compSt n caps σ) Q J W
def tComp (n : Nat) (caps : List (Nat × Str)) (wi : TI) (g : TG) (tt : TT) (te : TE) : TE := fun σ H Q => wi σ H fun J H1 => CompGo n caps g tt te σ Q J H1

/-- what the scopes must say: of the def (or block) around, of the block -/
def compOk (sc scope : Scope) (N0 tns : List Str) (caps : List (Nat × Str)) : Bool :=
  scope.kind == .function && scope.names.all (fun y => !(y.2 == .cell)) && scope.names.all (fun y => !(y.2 == .local) || scope.names.lookup y.1 == some .local) &&
  scope.names.all (fun y => !(y.2 == .free) || sc.names.lookup y.1 == some .cell) && caps.all (fun p => N0[p.1]? == some p.2 && sc.names.lookup p.2 == some .cell && scope.names.lookup p.2 == some .free)

theorem no_mem {α : Type} {p : α} {P : Prop} (h : p ∈ ([] : List α)) : P := nomatch h
/-- what follows once an item has come: the target, the tests, the element, the list -/
def CTail (M : Model) (A : Around) (elt tg : Expr) (ifs : List Expr) (acc : Value) (env : Env) (E : Value → Shared → Prop) (K : Shared → Prop) (v : Value) (s : Shared) : Prop :=
  wpAny M A (assign tg env v) (fun _ s₂ => wpAny M A (forIn ifs true fun c r => if r = true then do let ok ← isTrue c env (eval c env); pure (ForInStep.yield ok) else pure (ForInStep.yield r)) (fun ok s₃ =>
    if ok = true then wpAny M A (eval elt env) (fun x s₄ => wpAny M A (call (.builtin "list.append") [acc, x]) (fun _ s₅ => K s₅) E s₄) E s₃ else K s₃) E s₂) E s
/-- a block's turn -/
def CTurn (M : Model) (A : Around) (elt tg : Expr) (ifs : List Expr) (it acc : Value) (env : Env) (E : Value → Shared → Prop) (Rn K : Shared → Prop) (s : Shared) : Prop :=
  wpAny M A (pyNext it) (fun r s₁ => r = none ∧ Rn s₁ ∨ ∃ v, r = some v ∧ wpAny M A (letOwnedTupleGo tg it v) (fun _ s₁ => CTail M A elt tg ifs acc env E K v s₁) E s₁) E s
section
variable {prog : Program} {w : World} {A : Around} {R : Result → Shared → Prop} {s : Shared}
theorem compLoop_gen {elt target iter : Expr} {ifs : List Expr} {scope : Scope} {pos : Pos} {it acc : Value} {env : Env} {E : Value → Shared → Prop} (I : Nat → Shared → Prop) (hE : (notedBy (model prog w) A env fun e s' => R (.error e) s') = E)
    (turn : ∀ n s, I n s → CTurn (model prog w) A elt target ifs it acc env E (fun s => R (.ok .next) s) (fun s => ∃ m, m < n ∧ I m s) s) (n : Nat) (h : I n s) :
    codeAny (model prog w) A (.compLoop (.ListComp elt [⟨target, iter, ifs, 0⟩] scope pos) 0 it acc env) R s := by
  subst hE
  refine codeAny_loop rfl I (fun n s hI => ?_) n h
  show wpAny _ A ((compTurn (.ListComp elt [⟨target, iter, ifs, 0⟩] scope pos) 0 it acc env).onRaise (fun x => do noteFrame x env; theTreesLotGoes x)) _ _ s
  refine wpAny_noted ?_
  rw [compTurn_list]
  refine wpAny_bind (wpAny_standAt (wpAny_bind (thn (turn n s hI) fun r s₁ h₁ => ?_)))
  rcases h₁ with ⟨rfl, h₁⟩ | ⟨v, rfl, h₁⟩
  · exact wpAny_pure h₁
  · refine wpAny_bind (thn h₁ fun _ s₁' h₁' => wpAny_bind (thn h₁' fun _ s₂ h₂ => wpAny_bind (thn h₂ fun ok s₃ h₃ => ?_)))
    cases ok with
    | false => exact wpAny_pure ⟨rfl, h₃⟩
    | true => exact wpAny_bind (wpAny_bind (thn h₃ fun x s₄ h₄ => wpAny_bind (thn h₄ fun _ s₅ h₅ => wpAny_pure (wpAny_pure ⟨rfl, h₅⟩))))
end

/-- a list as it lies there -/
def lob (its : List Value) (k : Nat) : Obj := { cls := .type "list", data := .seq (List.toArray its) k }
/-- between two turns: the list under way at D -/
structure CIn (Y : Cx) (tn : Nat → Heap → Prop) (fp : List Addr) (D : Addr) (σ : St) (i : Nat) (H : Hp) (o : Obj) (s : Shared) : Prop where
  I : Inv Y [] σ H s
  t : tn i s.heap
  f : ∀ b ∈ fp, H b = none
  l : s.heap.get? D = some o
  n : H D = none
inductive CI (Y : Cx) (tn : Nat → Heap → Prop) (fp : List Addr) (D : Addr) (σ : St) (W : Nat → Nat → List V → Hp → Prop) (m : Nat) (s : Shared) : Prop
  | mk (i : Nat) (H : Hp) (ys : List V) (its : List Value) (k : Nat) (c : CIn Y tn fp D σ i H (lob its k) s) (r : Vals ys its) (w : W i m ys H)
/-- the block's place: what its context says of D and of the iterator's records -/
structure CAt (Y : Cx) (fp : List Addr) (D : Addr) : Prop where
  calm : Y.calm = true
  pn : Y.pn = []
  ne : D ≠ Y.env.locals
  fs : D ∉ Y.fs
  sz : Y.s₀.heap.objs.size ≤ D
  cl : ∀ x c, Y.env.cells.lookup x = some c → c ≠ D
  fpn : ∀ b ∈ fp, b ≠ D
  ok : ∀ b ∈ fp, ∀ H : Hp, H b = none → FpOk Y [] H b
section
variable {Y : Cx} {tn : Nat → Heap → Prop} {fp : List Addr} {D it : Addr} {σ : St} {tg elt iter : Expr} {ifs : List Expr} {J : It} {g : TG} {tt : TT} {te : TE} {n i : Nat} {H : Hp} {s : Shared} {o : Obj} {Kn : Shared → Prop}
theorem CAt.pins (c : CAt Y fp D) (hn : ∀ b ∈ fp, H b = none) : ∀ b ∈ fp, FpOk Y [(D, o)] H b := fun b hb =>
  have z := c.ok b hb H (hn b hb)
  ⟨z.1, z.2.1, z.2.2.1, z.2.2.2.1, z.2.2.2.2.1, fun p hp e => by
    rw [c.pn] at hp
    cases List.mem_singleton.mp hp
    exact c.fpn b hb e.symm⟩
theorem pins_out (T : Turn Y.prog Y.w Y.K tg J fp it tn) {h5 : Heap} (t : tn i h5) (I : Inv Y ([(D, o)] ++ pinsAt fp h5) σ H s) : CIn Y tn fp D σ i H o s :=
  have p := I.pin (D, o) (List.mem_append_right _ (.head _))
  have q : ∀ b ∈ fp, ∀ o', h5.get? b = some o' → s.heap.get? b = some o' ∧ H b = none := fun b hb o' e => have z := I.pin (b, o') (List.mem_append_right _ (.tail _ (mem_pinsAt hb e))); ⟨z.1, z.2.1⟩
  ⟨I.pins_of (pins' := []) fun _ h => no_mem h, T.keep _ _ _ t fun b hb o' e => (q b hb o' e).1, fun b hb => (T.obj _ _ t b hb).elim fun o' e => (q b hb o' e.1).2, p.1, p.2.1⟩
theorem lapp (T : Turn Y.prog Y.w Y.K tg J fp it tn) (a : CAt Y fp D) {its : List Value} {k : Nat} {v : Value} {E : Value → Shared → Prop} (c : CIn Y tn fp D σ i H (lob its k) s) (hz : its.length ≤ sizeLine)
    (hQ : ∀ k' s', CIn Y tn fp D σ i H (lob (its ++ [v]) k') s' → Kn s') : wpAny (model Y.prog Y.w) Y.A (call (.builtin "list.append") [.ref D, v]) (fun _ s => Kn s) E s := by
  refine call_meets F.slot_list_append ⟨_, c.l, rfl⟩ F.entry_list_append (F.args_list_append_2 _ _) (PySem.list_append D (List.toArray its) k v hz) ⟨c.l, ?_⟩
  have q : ∃ k', PySem.IsL (s.heap.update D (Obj.mapSeq (·.push v))) D ((List.toArray its).push v) k' := ⟨_, PySem.IsL.update c.l (·.push v)⟩
  rw [List.push_toArray] at q
  obtain ⟨k', q⟩ := q
  exact hQ k' _ ⟨c.I.turned (t' := s.toks) (h' := s.heap.update D (Obj.mapSeq (·.push v))) (it := D) (fun b o hb' e => (Heap.get?_update_other s.heap _ (Ne.symm hb')).trans e) c.n a.ne (.inr a.sz) a.cl (fun p hp => by rw [a.pn] at hp; exact no_mem hp),
    T.keep _ _ _ c.t fun b hb o e => (Heap.get?_update_other s.heap _ (Ne.symm (a.fpn b hb))).trans e, c.f, q, c.n⟩
theorem ctail_of {acc : Value} {pins : List (Addr × Obj)} {N : List V → Hp → Prop} {ys : List V} {x : V} {u : Value} (hg : PG Y tg g) (ht : PTs Y ifs tt) (he : PE Y elt te) (hG : GKeep n g) (h0 : ∀ (j : Nat) v, σ[j]? = some (some v) → n ≤ j)
    (I : Inv Y pins σ H s) (r : RelV x u) (st : g x σ H fun σ4 H4 => tt σ4 H4 fun c H5 => if c = true then te σ4 H5 fun v H6 => N (ys ++ [v]) H6 else N ys H5)
    (hF : ∀ H7 s7, Inv Y pins σ H7 s7 → N ys H7 → Kn s7) (hT : ∀ H8 s8 y v, Inv Y pins σ H8 s8 → RelV y v → N (ys ++ [y]) H8 → wpAny (model Y.prog Y.w) Y.A (call (.builtin "list.append") [acc, v]) (fun _ s => Kn s) Y.xe s8) :
    CTail (model Y.prog Y.w) Y.A elt tg ifs acc Y.env Y.xe Kn u s := by
  refine thn (hg _ s _ H x u _ I r (hG _ _ _ _ st)) fun _ s6 ⟨σ6, H6, I6, q6, l6, k6⟩ => ?_
  have wk : ∀ (j : Nat) v, σ[j]? = some (some v) → σ6[j]? = some (some v) := fun j v e => (k6 j (h0 j v e)).trans e
  refine thn (ht _ s6 σ6 H6 _ I6 q6) fun c s7 ⟨H7, I7, q7⟩ => ?_
  cases c with
  | false => exact hF _ _ (I7.weak l6.symm wk) q7
  | true => exact thn (he _ s7 σ6 H7 _ I7 q7) fun v8 s8 ⟨y8, H8, I8, r8, n8⟩ => hT _ _ _ _ (I8.weak l6.symm wk) r8 n8
theorem comp_turns {scope : Scope} {pos : Pos} {Q : V → Hp → Prop} {R : Result → Shared → Prop} (hE : (notedBy (model Y.prog Y.w) Y.A Y.env fun e s' => R (.error e) s') = Y.xe)
    (T : Turn Y.prog Y.w Y.K tg J fp it tn) (hG : GKeep n g) (hg : PG Y tg g) (ht : PTs Y ifs tt) (he : PE Y elt te) (a : CAt Y fp D) (h0 : ∀ (j : Nat) v, σ[j]? = some (some v) → n ≤ j)
    {W : Nat → Nat → List V → Hp → Prop} (turn : CStep g tt te σ Q J W)
    (hEnd : ∀ ys its k H3 s4, Inv Y [(D, lob its k)] σ H3 s4 → Vals ys its → ys.length ≤ sizeLine → Q (.ref D) (upd H3 D (.lst ys)) → R (.ok .next) s4) {m0 : Nat} (hi : CI Y tn fp D σ W m0 s) :
    codeAny (model Y.prog Y.w) Y.A (.compLoop (.ListComp elt [⟨tg, iter, ifs, 0⟩] scope pos) 0 (.ref it) (.ref D) Y.env) R s := by
  refine compLoop_gen (CI Y tn fp D σ W) hE (fun m s3 c => ?_) m0 hi
  cases c with
  | mk i H3 ys its k c rv w3 =>
  have I3 : Inv Y [(D, lob its k)] σ H3 s3 := c.I.pins_of fun p hp => List.mem_singleton.mp hp ▸ ⟨c.l, c.n, a.ne, a.fs, fun _ z => by cases z⟩
  have t := turn i m ys H3 w3
  refine t.2.elim (fun q => ?_) fun q => ?_
  · exact thn (T.done Y rfl rfl rfl a.calm i _ s3 _ H3 Y.xe I3 (a.pins c.f) c.t q.1) fun r s4 h => .inl ⟨h.1, hEnd ys its k H3 s4 h.2 rv t.1 (q.2 D c.n)⟩
  · refine q.2.elim fun NN h => ?_
    refine thn (T.item Y rfl rfl rfl a.calm i _ s3 _ H3 Y.xe I3 (a.pins c.f) c.t q.1) fun r s4 h4 => .inr (h4.elim fun u h4 => ⟨u, h4.1, thn h4.2 fun _ s5 h5 => h5.elim fun x h5 => h5.elim fun H5 h5 => ?_⟩)
    exact ctail_of hg ht he hG h0 (h5.1.pinned (a.pins h5.2.2.2.2) (T.obj _ _ h5.2.2.2.1)) h5.2.1 (h.2 x H5 h5.2.2.1)
      (fun H7 s7 I7 q7 => (h.1 _ _ q7).elim fun m' z => ⟨m', z.1, .mk (i + 1) H7 ys its k (pins_out T h5.2.2.2.1 I7) rv z.2⟩)
      fun H8 s8 y v I8 r8 q8 => (h.1 _ _ q8).elim fun m' z => lapp T a (pins_out T h5.2.2.2.1 I8) (rv.length ▸ t.1) fun k' s' c' => ⟨m', z.1, .mk (i + 1) H8 (ys ++ [y]) (its ++ [v]) k' c' (rv.append (.cons r8 .nil)) z.2⟩
end

section
variable {X : Cx} {elt tg iter : Expr} {ifs : List Expr} {scope sc : Scope} {pos : Pos} {n : Nat} {tns : List Str} {caps : List (Nat × Str)} {wi : TI} {g : TG} {tt : TT} {te : TE}

/-- what holds behind the block, over the context around: the new list at D, the block's frame at C -/
structure CompEnd (X : Cx) (pins : List (Addr × Obj)) (σ : St) (H3 : Hp) (D C : Addr) (ys : List V) (s' : Shared) : Prop where
  inv : Inv X pins σ (upd H3 D (.lst ys)) s'
  fresh : H3 D = none
  fp : FpOk X pins (upd H3 D (.lst ys)) C
  ns : ∃ m, s'.heap.Ns C m
theorem comp_end {pins : List (Addr × Obj)} {σ σ' : St} {H H3 : Hp} {s s4 : Shared} {D C : Addr} {fp : List Addr} {its : List Value} {k : Nat} {ys : List V} {Y : Cx} (I : Inv X pins σ H s) (hf : ∀ b ∈ fp, FpOk X pins H b) (hD : s.heap.objs.size ≤ D) (hDlt : D < C)
    (I4 : Inv Y [(D, lob its k)] σ' H3 s4) (hos : s4.os = s.os) (u : Un (frs X.stack) fp H H3 s.heap s4.heap) (hok : HOk X.prog X.w H3 s4.heap) (hC : Y.env.locals = C) (rv : Vals ys its) (hz : ys.length ≤ sizeLine) : CompEnd X pins σ H3 D C ys s4 := by
  subst hC
  have p := I4.pin (D, lob its k) (List.mem_append_right _ (.head _))
  have hDn : H3 D = none := p.2.1
  have up : ∀ {b : Addr} {o : HO}, H3 b = some o → upd H3 D (.lst ys) b = some o := fun e => (upd_ne (ne_of_none e hDn)).trans e
  refine ⟨I.call' (ch := fp) hos ⟨u.keep, u.slot, fun b o e nn hx => (upd_ne (Nat.ne_of_lt (Nat.lt_of_lt_of_le (Heap.lt_size e) hD))).trans (u.free b o e nn hx), u.there, fun b xs e => up (u.tups b xs e), fun b o xs e => up (u.frzs b o xs e), fun b ps e => (u.tbls b ps e).elim fun more z => ⟨more, up z⟩⟩ (fun a o e => ?_) I4.bare fun b hb => have z := hf b hb; ⟨z.2.2.2.1, z.2.1, z.2.2.2.2.1, z.2.2.2.2.2⟩, hDn, I.fpOk (Nat.le_trans hD (Nat.le_of_lt hDlt)) ((upd_ne (Nat.ne_of_gt hDlt)).trans I4.free), I4.loc.elim fun m z => ⟨m, z.1⟩⟩
  by_cases ha : a = D
  · subst ha
    rw [upd_same] at e; cases e
    exact ⟨hz, its, k, rv, p.1⟩
  · rw [upd_ne ha] at e
    exact (hok a o e).stay (fun b u _ q => q) (fun b q => up q) fun b xs q => up q

/-- where a block begins: the new list, the block's names -/
def CBlk (X : Cx) (elt tg iter : Expr) (ifs : List Expr) (scope : Scope) (pos : Pos) (it : Value) (cl : List (Str × Addr)) (RR : Value → Addr → Result → Shared → Prop) (E : Value → Shared → Prop) (s : Shared) : Prop :=
  wpAny (model X.prog X.w) X.A (newList []) (fun acc s₃ => wpAny (model X.prog X.w) X.A (newFunctionEnv scope X.env.globals cl [] X.env.qual none .none (some X.env)) (fun cenv s₄ =>
      codeAny (model X.prog X.w) X.A (.compStart (.ListComp elt [⟨tg, iter, ifs, 0⟩] scope pos) 0 it acc { cenv with scope := relabel scope X.env }) (RR acc cenv.locals) s₄) E s₃) E s

theorem compSt_at {σ : St} {i : Nat} {v : V} (e : (compSt n caps σ)[i]? = some (some v)) : n ≤ i ∧ ∃ p, caps[i - n]? = some p ∧ σ[p.1]? = some (some v) := by
  unfold compSt at e
  by_cases h : i < n
  · rw [List.getElem?_append_left (by simpa using h), List.getElem?_replicate, if_pos h] at e
    cases e
  · have hi := Nat.le_of_not_lt h
    rw [List.getElem?_append_right (by simpa using hi), List.length_replicate, List.getElem?_map] at e
    refine ⟨hi, ?_⟩
    cases hcp : caps[i - n]? with
    | none => rw [hcp] at e; cases e
    | some p =>
      rw [hcp] at e
      exact ⟨p, rfl, Option.join_eq_some_iff.mp (Option.some.inj e)⟩
/-- what the scopes say -/
structure COk (X : Cx) (scope : Scope) (caps : List (Nat × Str)) : Prop where
  kind : scope.kind = .function
  cell : ∀ y ∈ scope.names, y.2 ≠ NameKind.cell
  loc : ∀ y ∈ scope.names, y.2 = .local → scope.names.lookup y.1 = some .local
  free : ∀ y ∈ scope.names, y.2 = .free → X.env.scope.names.lookup y.1 = some .cell
  caps : ∀ p ∈ caps, (X.N[p.1]? = some p.2 ∧ X.env.scope.names.lookup p.2 = some .cell) ∧ scope.names.lookup p.2 = some .free
theorem COk.of {N0 : List Str} (hsc : X.env.scope = sc) (hN0 : X.N = N0) (ok : compOk sc scope N0 tns caps = true) : COk X scope caps := by
  subst hsc
  subst hN0
  unfold compOk at ok
  simp only [Bool.and_eq_true, List.all_eq_true, beq_iff_eq, Bool.or_eq_true, Bool.not_eq_true', beq_eq_false_iff_ne] at ok
  exact ⟨ok.1.1.1.1, ok.1.1.1.2, fun y hy e => (ok.1.1.2 y hy).resolve_left (absurd e), fun y hy e => (ok.1.2 y hy).resolve_left (absurd e), ok.2⟩
section
variable {pins : List (Addr × Obj)} {σ : St} {H : Hp} {s : Shared} {fp : List Addr} {cl : List (Str × Addr)} {C : Addr} {E : Value → Shared → Prop} {N : List Str} {h₁ : Heap}
theorem comp_cx (ok : COk X scope caps) (I : Inv X pins σ H s) (hf : ∀ b ∈ fp, FpOk X pins H b) (hlt : ∀ b ∈ fp, b < s.heap.objs.size)
    (hsub : ∀ x c, cl.lookup x = some c → X.env.cells.lookup x = some c) (hall : ∀ x, (x, NameKind.free) ∈ scope.names → ∃ c, cl.lookup x = some c) (hC : s.heap.objs.size < C) : (X.comp N scope cl C s H fp E).Ok :=
  ⟨I.ok.mod, ok.kind, I.ok.glob, I.ok.blt, Nat.le_of_lt hC, fun x y c h1 h2 => I.ok.inj x y c (hsub x c h1) (hsub y c h2), fun x hx => hall x (hx.elim (fun z => relabel_out ok.cell z (.inl rfl)) fun z => relabel_out ok.cell z (.inr rfl)), (fun x c hx => by cases hx), I.ok.hd, I.ok.frames, .inl rfl,
    fun b hb => ⟨Nat.ne_of_lt (Nat.lt_trans (hlt b hb) hC), fun x c e => (hf b hb).2.2.2.2.1 x c (hsub x c e)⟩, I.bs, Nat.le_trans I.ok.bsz I.sz, fun b o e hb => (hf b hb).2.2.2.1.elim (I.ok.noex b o e) fun z => absurd (Nat.lt_of_lt_of_le (Heap.lt_size e) (Nat.le_trans I.ok.bsz z)) (Nat.lt_irrefl _),
    fun b hb hz => (List.mem_cons.mp (I.stkSub b hz)).elim (hf b hb).2.1 (hf b hb).2.2.1, I.stack, I.stkFree⟩
theorem comp_inv (okc : COk X scope caps) (hn : tns.length = n) (ok : (X.comp (tns ++ caps.map (·.2)) scope cl C s H fp E).Ok) (I : Inv X pins σ H s)
    (hsub : ∀ x c, cl.lookup x = some c → X.env.cells.lookup x = some c) (hall : ∀ x, (x, NameKind.free) ∈ scope.names → ∃ c, cl.lookup x = some c) (hC : s.heap.objs.size < C) (hns : h₁.Ns C fun _ => none) (old : ∀ b o, s.heap.get? b = some o → h₁.get? b = some o) {tk : Nat} :
    Inv (X.comp (tns ++ caps.map (·.2)) scope cl C s H fp E) [] (compSt n caps σ) H { s with heap := h₁, toks := tk } := by
  refine ⟨ok, rfl, I.bare, Un.kept old, ⟨_, hns, fun i x v e1 e2 _ => ?_⟩, fun x c e => (I.cell x c (hsub x c e)).elim fun v z => z.elim fun o z => ⟨v, o, old _ _ z.1, z.2⟩, I.hok.fresh (Nat.le_of_lt hC), fun x c e => I.freeC x c (hsub x c e), fun p hp => no_mem (α := Addr × Obj) hp, I.hok.kept old, by simp [compSt, hn]⟩
  obtain ⟨hi, p, hp, hσ⟩ := compSt_at e2
  have e1' : (tns ++ caps.map (·.2))[i]? = some x := e1
  rw [List.getElem?_append_right (hn ▸ hi), hn, List.getElem?_map, hp] at e1'
  cases Option.some.inj e1'
  have p5 := okc.caps p (List.mem_of_getElem? hp)
  obtain ⟨m, hm, hl⟩ := I.loc
  obtain ⟨u, r, l⟩ := hl p.1 p.2 v p5.1.1 hσ (.inr (.inl p5.1.2))
  refine ⟨u, r, .inr ?_⟩
  rcases l with ⟨k, _⟩ | ⟨k, c, e, z⟩
  · cases p5.1.2.symm.trans k
  · obtain ⟨c', e'⟩ := hall p.2 (PySem.mem_of_lookup p5.2)
    cases e.symm.trans (hsub _ _ e')
    exact ⟨relabel_free (env := X.env) p5.2, c, e', z.elim fun o z => ⟨o, old _ _ z.1, z.2⟩⟩
variable {J : It} {it : Addr} {tn : Nat → Heap → Prop} {Q : V → Hp → Prop} {RR : Value → Addr → Result → Shared → Prop} {W : Nat → Nat → List V → Hp → Prop} {m0 : Nat}
theorem comp_go (ok : COk X scope caps) (hc : X.calm = true) (hn : tns.length = n) (hG : GKeep n g)
    (hb : ∀ cl C s H ex E, PG (X.comp (tns ++ caps.map (·.2)) scope cl C s H ex E) tg g ∧ PTs (X.comp (tns ++ caps.map (·.2)) scope cl C s H ex E) ifs tt ∧ PE (X.comp (tns ++ caps.map (·.2)) scope cl C s H ex E) elt te)
    (I : Inv X pins σ H s) (T : Turn X.prog X.w X.K tg J fp it tn) (t0 : tn 0 s.heap) (hf : ∀ b ∈ fp, FpOk X pins H b)
    (hsub : ∀ x c, cl.lookup x = some c → X.env.cells.lookup x = some c) (hall : ∀ x, (x, NameKind.free) ∈ scope.names → ∃ c, cl.lookup x = some c)
    (w0 : W 0 m0 [] H) (turn : CStep g tt te (compSt n caps σ) Q J W)
    (hRR : ∀ D C ys H3 s', CompEnd X pins σ H3 D C ys s' → Q (.ref D) (upd H3 D (.lst ys)) → RR (.ref D) C (.ok .next) s')
    (hC : s.heap.objs.size < C) (hns : h₁.Ns C fun _ => none) (old : ∀ b o, s.heap.get? b = some o → h₁.get? b = some o) (hacc : h₁.get? s.heap.objs.size = some (lob [] 0)) {tk : Nat} :
    codeAny (model X.prog X.w) X.A (.compStart (.ListComp elt [⟨tg, iter, ifs, 0⟩] scope pos) 0 (.ref it) (.ref s.heap.objs.size) (compEnvC scope cl C X.env)) (RR (.ref s.heap.objs.size) C) { s with heap := h₁, toks := tk } := by
  have hlt : ∀ b ∈ fp, b < s.heap.objs.size := fun b hb => (T.obj _ _ t0 b hb).elim fun o e => Heap.lt_size e.1
  have okY : ∀ E, (X.comp (tns ++ caps.map (·.2)) scope cl C s H fp E).Ok := fun E => comp_cx ok I hf hlt hsub hall hC
  have t1 : tn 0 h₁ := T.keep _ _ _ t0 fun b _ o e => old b o e
  have loop : ∀ tk, codeAny (model X.prog X.w) X.A (.compLoop (.ListComp elt [⟨tg, iter, ifs, 0⟩] scope pos) 0 (.ref it) (.ref s.heap.objs.size) (compEnvC scope cl C X.env)) (RR (.ref s.heap.objs.size) C) { s with heap := h₁, toks := tk } := fun tk =>
    have z := hb cl C s H fp (notedBy (model X.prog X.w) X.A (compEnvC scope cl C X.env) fun e s' => RR (.ref s.heap.objs.size) C (.error e) s')
    comp_turns (Y := X.comp (tns ++ caps.map (·.2)) scope cl C s H fp _) rfl T hG z.1 z.2.1 z.2.2
      ⟨hc, rfl, Nat.ne_of_lt hC, fun hz => (I.stack.mem hz).2.elim fun o ho => absurd (Heap.lt_size ho.1) (Nat.lt_irrefl _), Nat.le_refl _, fun x c e => (I.cell x c (hsub x c e)).elim fun v z => Nat.ne_of_lt z.lt, fun b hb => Nat.ne_of_lt (hlt b hb),
        fun b hb H' h' => ⟨h', Nat.ne_of_lt (Nat.lt_trans (hlt b hb) hC), (okY fun _ _ => True).exfs b hb, .inl hb, fun x c e => (hf b hb).2.2.2.2.1 x c (hsub x c e), fun p hp => no_mem (α := Addr × Obj) hp⟩⟩
      (fun j v e => (compSt_at e).1) turn (fun ys its k H3 s4 I4 rv hz q => hRR _ C ys H3 s4 (comp_end I hf (Nat.le_refl _) hC I4 I4.os I4.base I4.hok rfl rv hz) q)
      (.mk 0 H [] [] 0 ⟨comp_inv ok hn (okY _) I hsub hall hC hns old, t1, fun b hb => (hf b hb).1, hacc, I.hok.fresh (Nat.le_refl _)⟩ .nil w0)
  exact codeAny_compStart_list (loop _) (T.self _ 0 _ _ _ t1 (loop _))
theorem comp_block (ok : COk X scope caps) (hc : X.calm = true) (hn : tns.length = n) (hG : GKeep n g)
    (hb : ∀ cl C s H ex E, PG (X.comp (tns ++ caps.map (·.2)) scope cl C s H ex E) tg g ∧ PTs (X.comp (tns ++ caps.map (·.2)) scope cl C s H ex E) ifs tt ∧ PE (X.comp (tns ++ caps.map (·.2)) scope cl C s H ex E) elt te)
    {itv : Value} (h : PIE X pins σ tg (fun J H1 => CompGo n caps g tt te σ Q J H1) itv s)
    (hsub : ∀ x c, cl.lookup x = some c → X.env.cells.lookup x = some c) (hall : ∀ x, (x, NameKind.free) ∈ scope.names → ∃ c, cl.lookup x = some c)
    (hRR : ∀ D C ys H3 s', CompEnd X pins σ H3 D C ys s' → Q (.ref D) (upd H3 D (.lst ys)) → RR (.ref D) C (.ok .next) s') :
    CBlk X elt tg iter ifs scope pos itv cl RR E s := by
  obtain ⟨it, fp, tn, J, H', rfl, I, T, t0, hf, W, ⟨m0, w0⟩, turn⟩ := h
  refine wpAny_newObj_type (wpAny_newFunctionEnv ok.cell (by intro y hy; simp at hy) (fun h₁ hns₁ hsb₁ => ?_) ok.kind)
  have hs : ∀ o, (s.heap.push o).objs.size = s.heap.objs.size + 1 := fun o => Heap.size_push ..
  exact comp_go ok hc hn hG hb I T t0 hf hsub hall w0 turn hRR (Nat.lt_of_lt_of_eq (Nat.lt_succ_self _) (hs _).symm) hns₁
    (fun b o e => hsb₁.extBut b o (Nat.ne_of_lt (Nat.lt_trans (Heap.lt_size e) (Nat.lt_of_lt_of_eq (Nat.lt_succ_self _) (hs _).symm))) (Heap.get?_push_of_some _ (Heap.get?_push_of_some _ e)))
    (hsb₁.extBut _ _ (Nat.ne_of_lt (Nat.lt_of_lt_of_eq (Nat.lt_succ_self _) (hs _).symm)) (Heap.get?_push_of_some _ (Heap.get?_push_size _ rfl)))
end

/-- [e for t in i if c] -/
theorem pe_comp (sc : Scope) (N0 : List Str) (tns : List Str) (caps : List (Nat × Str)) (hc : X.calm = true) (hi : PI X tg iter wi) (hG : GKeep tns.length g)
    (hb : ∀ cl C s H ex E, PG (X.comp (tns ++ caps.map (·.2)) scope cl C s H ex E) tg g ∧ PTs (X.comp (tns ++ caps.map (·.2)) scope cl C s H ex E) ifs tt ∧ PE (X.comp (tns ++ caps.map (·.2)) scope cl C s H ex E) elt te)
    (hsc : X.env.scope = sc := by rfl) (hN0 : X.N = N0 := by rfl) (ok : compOk sc scope N0 tns caps = true := by decide +kernel)
    (hs : ∀ x, foldedSetIterable iter X.env x = pure x := by intro _; rfl) :
    PE X (.ListComp elt [⟨tg, iter, ifs, 0⟩] scope pos) (tComp tns.length caps wi g tt te) := by
  intro pins s σ H Q I h
  have okc := COk.of hsc hN0 ok
  obtain ⟨cl, ecl, hsub, hall⟩ := clos_of (scope := scope) (env := X.env) fun x hx hfr => I.ok.has x.1 (.inl (okc.free x hx hfr))
  rw [eval_ListComp]
  exact wpAny_comprehension_free (use := none) rfl hs ecl okc.kind okc.loc (thn (hi pins s σ H _ I h) fun xv s₁ h₁ => thn h₁ fun itv s₂ h₂ =>
    comp_block (RR := fun acc C => compPost (model X.prog X.w) X.A X.xe none (EP X pins σ Q) acc C) okc hc rfl hG hb h₂ hsub hall fun D C ys H3 s' ce q => ce.ns.elim fun mm hns =>
      ⟨mm, hns, fun h' hs' => ⟨.ref D, _, ce.inv.turned (t' := s'.toks) (fun b o hb' e => (hs'.extBut b o hb' e)) ce.fp.1 ce.fp.2.1 ce.fp.2.2.2.1 ce.fp.2.2.2.2.1 ce.fp.2.2.2.2.2, rfl, q⟩⟩)

end

/-! ### the forms one uses -/
section
variable {K : PySem.W.Frag} {a : Addr} {xs : List V} {n : Nat} {caps : List (Nat × Str)} {g : TG} {tt : TT} {te : TE} {σ : St} {H : Hp} {Q : V → Hp → Prop}
end

/-! ### rules whose reading names the written part: for use within a block -/
section
variable {X : Cx} {pos : Pos}
def rLenOf (K : PySem.W.Frag) : List V → Hp → VK → Prop := fun xs H Q => ∃ p ys, xs = [.ref p] ∧ (SqL K H p ys ∨ SqT K H p ys) ∧ Q (.int ys.length) H
theorem call_len_seqK (K : PySem.W.Frag) (h : X.K = K) : CallR X (.builtin "len") (rLenOf K) := by subst h; exact call_len_seq
theorem ix_listK (K : PySem.W.Frag) (h : X.K = K) : IxR X (rIxL K) := by subst h; exact ix_list
theorem sl_listK (K : PySem.W.Frag) (h : X.K = K) : SlR X (rSlL K) := by subst h; exact sl_list
theorem pg_tupK (K : PySem.W.Frag) (h : X.K = K) {es : List Expr} {k : Nat} {t : TGs} {n : Nat} (hc : X.calm = true) (hh : PGs X es t)
    (hn : (assignEach es X.env).length = n := by rfl) (hst : (assignEach es X.env).findIdx? (·.1) = none := by rfl) : PG X (.Tuple es k pos) (gTup K n t) := by subst h; exact pg_tup hc hh hn hst
end
end L2

/-! ### defs in a bundle, plain data at values, == and != of plain data -/
namespace L2
open PySem PySem.Spec PyProof.Rows

/-- a def that stands at a global name -/
structure Fn (P : Program) (w : World) (K : PySem.W.Frag) (mg : Str → Option Value) (base : Heap) (k : Nat) (x : Str) (ps : List Str) (sp : Sp) : Prop where
  ex : ∃ f fd, FnOk P w K mg base CX0 k f fd ps sp ∧ Binds K fd ps [] ∧ PySem.W.keepIn K (.ref f) = true ∧ mg x = some (.ref f)
section
variable {X : Cx} {k j : Nat} {x : Str} {ps : List Str} {sp : Sp} {e : Expr} {es : List Expr} {t : TA} {p pos : Pos}
theorem pe_fn (G : Fn X.prog X.w X.K X.mg X.base k x ps sp) (hr : Room j X.A) (hj : k ≤ j) (ha : PA X (e :: es) t) (hg : Gl X x := by rfl) (hdb : (x == ("__debug__" : Str)) = false := by decide)
    (he : starEach (e :: es) X.env = (false, eval e X.env) :: starEach es X.env := by rfl) (hpl : (backTo pos (starEach es X.env)).any (·.1) = false := by rfl) :
    PE X (.Call (.Name x p) (e :: es) [] pos) (tCall sp [] E0 t) := by
  obtain ⟨f, fd, F, b, kp, m⟩ := G.ex
  exact pe_call F (hr.mono hj) hg m kp b .nil pass0 ha hdb he hpl
end

/-- a def of the text as it stands behind the top, at its name -/
def Def (K : PySem.W.Frag) (mg : Str → Option Value) (x : Str) (st : Stmt) (ps : List Str) : Prop := ∃ f fd, Fun K x x st f fd ∧ Binds K fd ps [] ∧ mg x = some (.ref f)
theorem fn_mk {P : Program} {w : World} {K : PySem.W.Frag} {mg : Str → Option Value} {base : Heap} {x : Str} {st : Stmt} {N ps : List Str} {k : Nat} {sp : Sp} (D : Def K mg x st ps) (S : FnScope N ps (defScope st)) (len : ∀ vs H Q E, sp vs H Q E → vs.length = ps.length)
    (hbody : ∀ (f : Addr) (cdv : Value) (A : Around) (outer : List Env) (s : Shared) (H : Hp) (vs : List V) (Q : VK) (E : XK), Room k (A.deeper (envOfC x (defScope st) s.heap.objs.size f cdv)) → sp vs H Q E →
      ∃ t, PSs (cxOf CX0 P w K mg base N x (defScope st) f cdv A outer s H E).nox (defBody st) t ∧ t { nx := fun _ H' => Q .non H', rt := Q } (start N vs) H) : Fn P w K mg base (k + 1) x ps sp := by
  obtain ⟨f, fd, F, b, m⟩ := D
  exact ⟨f, fd, F.ok S len (hbody f), b, F.kp, m⟩
theorem le_hu {a d c : Nat} (h : d ≤ 8) (hu : a + 8 < c) : a + d < c := by omega

theorem same_new {H : Hp} {p : Addr} (h : H p = none) (o : HO) : Same H (upd H p o) := fun b u q => by rw [upd_ne (ne_of_none q h)]; exact q
theorem Same.own {H H2 : Hp} {p : Addr} (s : Same H H2) (h : H p = none) (o : HO) : Same H (upd H2 p o) := fun b u q => by rw [upd_ne (ne_of_none q h)]; exact s b u q
theorem Same.new {H H2 : Hp} {p : Addr} (s : Same H H2) (h : H2 p = none) (o : HO) : Same H (upd H2 p o) := s.trans (same_new h o)
theorem hu8 {A : Around} {k : Nat} (hr : Room k A) : A.units + 8 < cLine := Nat.lt_of_le_of_lt (Nat.add_le_add_left (by decide : 8 ≤ 64) _) hr.units

/-! plain data at a value -/
abbrev Enc (α : Type) := PySem.W.Frag → Hp → V → α → Prop
def rInt : Enc Int := fun _ _ v i => v = .int i
def rL {α : Type} (r : Enc α) : Enc (List α) := fun K H v as => ∃ a xs, v = .ref a ∧ SqL K H a xs ∧ Paired (r K H) xs as
theorem Paired.getL {α β : Type} {F : α → β → Prop} : ∀ {l : List α} {m : List β} {i : Nat} {a : α}, Paired F l m → l[i]? = some a → ∃ b, m[i]? = some b ∧ F a b
  | _, _, _, _, .nil, e => by simp at e
  | _, _, 0, _, .cons r _, e => by simp at e; subst e; exact ⟨_, rfl, r⟩
  | _, _, i + 1, a, .cons _ t, e => by
    obtain ⟨b, h1, h2⟩ := Paired.getL (i := i) (a := a) t (by simpa using e)
    exact ⟨b, by simpa using h1, h2⟩
theorem Paired.getR {α β : Type} {F : α → β → Prop} : ∀ {l : List α} {m : List β} {i : Nat} {b : β}, Paired F l m → m[i]? = some b → ∃ a, l[i]? = some a ∧ F a b
  | _, _, _, _, .nil, e => by simp at e
  | _, _, 0, _, .cons r _, e => by simp at e; subst e; exact ⟨_, rfl, r⟩
  | _, _, i + 1, b, .cons _ t, e => by
    obtain ⟨a, h1, h2⟩ := Paired.getR (i := i) (b := b) t (by simpa using e)
    exact ⟨a, by simpa using h1, h2⟩
theorem Paired.len {α β : Type} {F : α → β → Prop} {l : List α} {m : List β} (h : Paired F l m) : l.length = m.length := Paired.length h
theorem Paired.app {α β : Type} {F : α → β → Prop} : ∀ {l l' : List α} {m m' : List β}, Paired F l m → Paired F l' m' → Paired F (l ++ l') (m ++ m')
  | _, _, _, _, .nil, h => h
  | _, _, _, _, .cons r t, h => .cons r (Paired.app t h)
theorem paired_ints (ns : List Int) : ∀ {K : PySem.W.Frag} {H : Hp}, Paired (rInt K H) (ns.map V.int) ns := by
  intro K H
  induction ns with
  | nil => exact .nil
  | cons n r ih => exact .cons rfl ih
/-- == is equality of the data; d: how deep it goes -/
structure EqOk {α : Type} [DecidableEq α] (r : Enc α) (d : Nat) : Prop where
  uniq : ∀ {X : Cx} {pins : List (Addr × Obj)} {σ : St} {H : Hp} {s : Shared} {x : V} {a b : α}, Inv X pins σ H s → r X.K H x a → r X.K H x b → a = b
  eq : ∀ {X : Cx} {pins : List (Addr × Obj)} {σ : St} {H : Hp} {s : Shared} {x y : V} {v u : Value} {a b : α} {A : Around}, Inv X pins σ H s → RelV x v → RelV y u → r X.K H x a → r X.K H y b → A.units + d < cLine → SeqAt.EqAt A s v u (decide (a = b))
  rc : ∀ {X : Cx} {pins : List (Addr × Obj)} {σ : St} {H : Hp} {s : Shared} {x y : V} {v u : Value} {a b : α} {A : Around}, Inv X pins σ H s → RelV x v → RelV y u → r X.K H x a → r X.K H y b → A.units + d < cLine → SeqAt.RcAt A s v u (decide (a = b))
  ne : ∀ {X : Cx} {pins : List (Addr × Obj)} {σ : St} {H : Hp} {s : Shared} {x y : V} {v u : Value} {a b : α} {A : Around}, Inv X pins σ H s → RelV x v → RelV y u → r X.K H x a → r X.K H y b → A.units + d < cLine → SeqAt.RcNeAt A s v u (!decide (a = b))
  keep : ∀ {K : PySem.W.Frag} {H H' : Hp} {x : V} {a : α}, Same H H' → r K H x a → r K H' x a

theorem EqOk.up {α : Type} [DecidableEq α] {r : Enc α} {d e : Nat} (E : EqOk r d) (h : d ≤ e) : EqOk r e :=
  ⟨E.uniq, fun I rx ry h1 h2 hu => E.eq I rx ry h1 h2 (by omega), fun I rx ry h1 h2 hu => E.rc I rx ry h1 h2 (by omega), fun I rx ry h1 h2 hu => E.ne I rx ry h1 h2 (by omega), E.keep⟩
theorem in1_units (A : Around) : A.in1.units = A.units + 1 := rfl
theorem dec_i {a b : Int} : (a == b) = decide (a = b) := by rw [Bool.eq_iff_iff]; simp
theorem eq_int : EqOk rInt 0 where
  uniq := fun _ h1 h2 => by
    have h1' : _ = V.int _ := h1
    have h2' : _ = V.int _ := h2
    rw [h1'] at h2'; injection h2'
  eq := fun {X pins σ H s x y v u a b A} I rx ry h1 h2 _ => by
    have h1' : x = V.int a := h1
    have h2' : y = V.int b := h2
    subst h1' h2'
    obtain ⟨t, rfl⟩ := rx
    obtain ⟨t', rfl⟩ := ry
    rw [← dec_i]; exact SeqAt.EqAt.int_int a t b t'
  rc := fun {X pins σ H s x y v u a b A} I rx ry h1 h2 _ => by
    have h1' : x = V.int a := h1
    have h2' : y = V.int b := h2
    subst h1' h2'
    obtain ⟨t, rfl⟩ := rx
    obtain ⟨t', rfl⟩ := ry
    rw [← dec_i]; exact SeqAt.RcAt.int_int a t b t'
  ne := fun {X pins σ H s x y v u a b A} I rx ry h1 h2 _ => by
    have h1' : x = V.int a := h1
    have h2' : y = V.int b := h2
    subst h1' h2'
    obtain ⟨t, rfl⟩ := rx
    obtain ⟨t', rfl⟩ := ry
    rw [← dec_i]; exact SeqAt.RcNeAt.int_int a t b t'
  keep := fun _ h => h

theorem all_dec {α : Type} [DecidableEq α] {as bs : List α} (h : as.length = bs.length) : (List.range as.length).all (fun j => decide (as[j]? = bs[j]?)) = decide (as = bs) := by
  rw [Bool.eq_iff_iff]
  simp only [List.all_eq_true, List.mem_range, decide_eq_true_eq]
  constructor
  · intro hh
    apply List.ext_getElem?
    intro i
    by_cases hi : i < as.length
    · exact hh i hi
    · rw [List.getElem?_eq_none (by omega), List.getElem?_eq_none (by omega)]
  · rintro rfl; intros; rfl

theorem Paired.uniq {α β : Type} {F : α → β → Prop} (hu : ∀ a b c, F a b → F a c → b = c) : ∀ {l : List α} {m m' : List β}, Paired F l m → Paired F l m' → m = m'
  | _, _, _, .nil, .nil => rfl
  | _, _, _, .cons r t, .cons r' t' => by rw [hu _ _ _ r r', Paired.uniq hu t t']
theorem Paired.imp2 {α β : Type} {F G : α → β → Prop} (h : ∀ a b, F a b → G a b) : ∀ {l : List α} {m : List β}, Paired F l m → Paired G l m
  | _, _, .nil => .nil
  | _, _, .cons r t => .cons (h _ _ r) (Paired.imp2 h t)

section
variable {α : Type} [DecidableEq α] {r : Enc α} {d : Nat}
theorem list_items (E : EqOk r d) {X : Cx} {pins : List (Addr × Obj)} {σ : St} {H : Hp} {s : Shared} {A : Around} (I : Inv X pins σ H s) (hu : A.units + (d + 1) < cLine) {xs ys : List V} {as bs : List α} {its its2 : List Value}
    (r1 : Vals xs its) (r2 : Vals ys its2) (p1 : Paired (r X.K H) xs as) (p2 : Paired (r X.K H) ys bs) :
    ∀ j (h1 : j < its.toArray.size) (h2 : j < its2.toArray.size), SeqAt.EqAt A.in1 s its.toArray[j] its2.toArray[j] (decide (as[j]? = bs[j]?)) := by
  intro j h1 h2
  have h1' : j < its.length := by simpa using h1
  have h2' : j < its2.length := by simpa using h2
  obtain ⟨x, ex, rx⟩ := Paired.getR (i := j) (b := its[j]) r1 (by simp [h1'])
  obtain ⟨y, ey, ry⟩ := Paired.getR (i := j) (b := its2[j]) r2 (by simp [h2'])
  obtain ⟨a, ea, ra⟩ := Paired.getL p1 ex
  obtain ⟨b, eb, rb⟩ := Paired.getL p2 ey
  have := E.eq (A := A.in1) I rx ry ra rb (by rw [in1_units]; omega)
  rw [ea, eb]
  simpa using this
theorem eq_list (E : EqOk r d) : EqOk (rL r) (d + 1) := by
  have un : ∀ {X : Cx} {pins : List (Addr × Obj)} {σ : St} {H : Hp} {s : Shared} {x : V} {a b : List α}, Inv X pins σ H s → rL r X.K H x a → rL r X.K H x b → a = b := by
    intro X pins σ H s x as bs I h1 h2
    obtain ⟨a, xs, rfl, q1, p1⟩ := h1
    obtain ⟨b, ys, e, q2, p2⟩ := h2
    cases e
    cases I.list_inj q1 q2
    exact Paired.uniq (F := r X.K H) (fun _ _ _ z z' => E.uniq I z z') p1 p2
  have rc : ∀ {X : Cx} {pins : List (Addr × Obj)} {σ : St} {H : Hp} {s : Shared} {x y : V} {v u : Value} {a b : List α} {A : Around}, Inv X pins σ H s → RelV x v → RelV y u → rL r X.K H x a → rL r X.K H y b → A.units + (d + 1) < cLine → SeqAt.RcAt A s v u (decide (a = b)) := by
    intro X pins σ H s x y v u as bs A I rx ry h1 h2 hu
    obtain ⟨a, xs, rfl, q1, p1⟩ := h1
    obtain ⟨b, ys, rfl, q2, p2⟩ := h2
    cases rx; cases ry
    obtain ⟨its, r1, l1, _⟩ := I.list q1
    obtain ⟨its2, r2, l2, _⟩ := I.list q2
    have n1 := r1.length
    have n2 := r2.length
    have m1 := Paired.len p1
    have m2 := Paired.len p2
    by_cases hl : as.length = bs.length
    · have := SeqAt.RcAt.lists (A := A) (e := fun j => decide (as[j]? = bs[j]?)) l1.isList l2.isList (by simp only [List.size_toArray]; omega) (by omega) (list_items E I hu r1 r2 p1 p2)
      rw [show its.toArray.size = as.length by simp only [List.size_toArray]; omega, all_dec hl] at this
      exact this
    · rw [decide_eq_false (fun e => hl (congrArg List.length e))]
      exact SeqAt.RcAt.lists_lengths l1.isList l2.isList (by simp only [List.size_toArray, bne_iff_ne]; omega) (by omega)
  refine ⟨un, ?_, rc, ?_, ?_⟩
  · intro X pins σ H s x y v u as bs A I rx ry h1 h2 hu
    obtain ⟨a, xs, rfl, q1, p1⟩ := id h1
    obtain ⟨b, ys, rfl, q2, p2⟩ := id h2
    have R := rc (A := A) I rx ry h1 h2 hu
    cases rx; cases ry
    by_cases e : a = b
    · subst e
      rw [decide_eq_true (un I h1 h2)]
      exact SeqAt.EqAt.same _
    · exact SeqAt.EqAt.of_refs e R
  · intro X pins σ H s x y v u as bs A I rx ry h1 h2 hu
    obtain ⟨a, xs, rfl, q1, p1⟩ := h1
    obtain ⟨b, ys, rfl, q2, p2⟩ := h2
    cases rx; cases ry
    obtain ⟨its, r1, l1, _⟩ := I.list q1
    obtain ⟨its2, r2, l2, _⟩ := I.list q2
    have n1 := r1.length
    have n2 := r2.length
    have m1 := Paired.len p1
    have m2 := Paired.len p2
    by_cases hl : as.length = bs.length
    · have := SeqAt.RcNeAt.lists (A := A) (e := fun j => decide (as[j]? = bs[j]?)) l1.isList l2.isList (by simp only [List.size_toArray]; omega) (by omega) (list_items E I hu r1 r2 p1 p2)
      rw [show its.toArray.size = as.length by simp only [List.size_toArray]; omega, all_dec hl] at this
      exact this
    · rw [decide_eq_false (fun e => hl (congrArg List.length e))]
      exact SeqAt.RcNeAt.lists_lengths l1.isList l2.isList (by simp only [List.size_toArray, bne_iff_ne]; omega) (by omega)
  · intro K H H' x as e h
    obtain ⟨a, xs, rfl, q1, p1⟩ := h
    exact ⟨a, xs, rfl, e.seq q1, Paired.imp2 (fun _ _ z => E.keep e z) p1⟩
end

section
variable {α β : Type} [DecidableEq α] [DecidableEq β] {r : Enc α} {q : Enc β} {d : Nat}
end

section
variable {X : Cx} {α : Type} [DecidableEq α] {r : Enc α} {d : Nat}
def rEqE (K : PySem.W.Frag) (r : Enc α) : R2 := fun x y H Q => ∃ a b, r K H x a ∧ r K H y b ∧ Q (.bl (decide (a = b))) H
def rNeE (K : PySem.W.Frag) (r : Enc α) : R2 := fun x y H Q => ∃ a b, r K H x a ∧ r K H y b ∧ Q (.bl (!decide (a = b))) H
theorem op_eqE (E : EqOk r d) (hu : X.A.units + d < cLine) : OpR X (compareOp .Eq) (rEqE X.K r) := by
  intro pins s σ H x y v u Q I rx ry h
  obtain ⟨a, b, h1, h2, q⟩ := h
  exact E.rc (A := X.A) I rx ry h1 h2 hu _ _ _ _ ⟨.bl _, H, I, rfl, q⟩
theorem op_neE (E : EqOk r d) (hu : X.A.units + d < cLine) : OpR X (compareOp .NotEq) (rNeE X.K r) := by
  intro pins s σ H x y v u Q I rx ry h
  obtain ⟨a, b, h1, h2, q⟩ := h
  exact E.ne (A := X.A) I rx ry h1 h2 hu _ _ _ _ ⟨.bl _, H, I, rfl, q⟩
/-- isinstance(x, T), T a built-in type -/
theorem call_isinst : CallR X (.builtin "isinstance") (fun xs H Q => ∃ x n t b, xs = [x, .ty n] ∧ TyOf X.K H x t ∧ PySem.W.kitOne X.K t (.type n) = some b ∧ Q (.bl b) H) := by
  intro pins s σ H xs us Q I r h
  obtain ⟨x, n, t, b, rfl, ty, e, q⟩ := h
  obtain ⟨u, v, rfl, ru, rv⟩ := Vals.two r
  cases (show v = Value.type n from rv)
  exact isinst_ok I ru ty e fun tk => ⟨.bl b, H, I.tok tk, rfl, q⟩
/-- // by a number of many figures -/
theorem op_fdivB : OpR X (binaryOp .FloorDiv) (rI (fun _ j => 0 < j ∧ j.natAbs.log2 < 9000) fun i j => .int (i / j)) := opI fun i j _ _ _ _ _ hc q => by
  refine floordiv_int (by omega) ?_ (.inl (PyProof.noPylong_of_log2 hc.2))
  rw [Int.fdiv_eq_ediv_of_nonneg i (by omega)]
  exact q
end
end L2

/-! ### list(reversed(xs)), xs[::-1], sum(xs) -/
namespace PySem
open Sem (wp)
section
variable {prog : Program} {w : World} {A : Around} {E : Value → Shared → Prop} {s : Shared}
end
end PySem
namespace L2
open PySem PySem.Spec PyProof.Rows
section
variable {X : Cx} {e : Expr} {te : TE}
end
end L2

/-! ### enumerate, xs.index(x), tuples of many items of one kind -/
namespace L2
open PySem PySem.Spec PyProof.Rows
section
variable {X : Cx} {pins : List (Addr × Obj)} {σ : St} {H : Hp} {s : Shared} {h' : Heap}
/-- an iterator's objects turned, and a new object laid -/
theorem Inv.turnLay {t' : Nat} {ch : List Addr} {T : Addr} {u : HO} (I : Inv X pins σ H s) (k : ∀ b o, b ∉ ch → s.heap.get? b = some o → h'.get? b = some o) (hf : ∀ b ∈ ch, FpOk X pins H b)
    (hp : s.heap.objs.size ≤ T) (new : ObjOk X.prog X.w (upd H T u) h' T u) : Inv X pins σ (upd H T u) { s with heap := h', toks := t' } := by
  have hn : H T = none := I.hok.fresh hp
  have nit : ∀ b o, H b = some o → b ∉ ch := fun b o e z => by rw [(hf b z).1] at e; cases e
  refine I.step (g' := s.gens) (d' := s.drawn) (ch := ch) (fun b hb => ?_) (fun b o _ _ hc e _ => k b o hc e) (fun b o _ _ hc e _ => ⟨o.slots, k b o hc e⟩)
    (fun b o _ e n => by rw [upd_ne (Nat.ne_of_lt (Nat.lt_of_lt_of_le (Heap.lt_size e) hp))]; exact n)
    (fun b o hc e => ⟨o, k b o hc e⟩) (fun b xs e => by rw [upd_ne (ne_of_none e hn)]; exact e) (fun b o xs e => by rw [upd_ne (ne_of_none e hn)]; exact e) (fun b ps e => ⟨#[], by rw [upd_ne (ne_of_none e hn), e]; simp⟩) (fun m hm => ?_) (fun b v e => ?_) I.bare
  · obtain ⟨f0, f1, f2, f3, f4, f5⟩ := hf b hb
    exact ⟨f3, f1, f4, f5⟩
  · obtain ⟨o, es, ep, ho, r⟩ := hm
    exact ⟨o, es, ep, k _ o (fun z => (hf _ z).2.1 rfl) ho, r⟩
  · by_cases hb : b = T
    · subst hb; rw [upd_same] at e; cases e; exact new
    · rw [upd_ne hb] at e
      refine (I.hok b v e).stay (fun c o hc q => k c o ?_ q) (fun c q => by rw [upd_ne (ne_of_none q hn)]; exact q) fun c xs q => by rw [upd_ne (ne_of_none q hn)]; exact q
      rcases hc with z | z
      · rw [z]; exact nit b v e
      · exact nit c _ z
end
/-- the list at a with its places, a new pair a turn -/
def Ite (K : PySem.W.Frag) (a : Addr) : It :=
  ⟨fun i H => ∃ xs x, SqL K H a xs ∧ xs[i]? = some x, fun i H y H' => ∃ p x, y = .ref p ∧ H p = none ∧ H' = upd H p (.tup [.int (i : Int), x]) ∧ ∀ xs, SqL K H a xs → xs[i]? = some x, fun i H => ∃ xs, SqL K H a xs ∧ xs.length ≤ i⟩
theorem turn_enum {P : Program} {w : World} {K : PySem.W.Frag} {elts : List Expr} {k : Nat} {pos : Pos} (a e it : Addr) (h1 : e ≠ it) (h2 : a ≠ e) (h3 : a ≠ it) :
    Turn P w K (.Tuple elts k pos) (Ite K a) [e, it] e (fun i h => (∃ old, IsEnum h e it (i : Int) old) ∧ h.IsListIter it a i) where
  mem := by simp
  obj := fun i h st b hb => by
    obtain ⟨⟨old, eo⟩, o, io, c, d⟩ := st
    rcases List.mem_cons.mp hb with z | z
    · subst z
      exact ⟨_, eo, fun v z => by cases z⟩
    · have z := List.mem_singleton.mp z
      subst z
      exact ⟨o, io, fun v z => by rw [d] at z; cases z⟩
  keep := fun i h h' st k => ⟨let ⟨old, eo⟩ := st.1; ⟨old, k e (by simp) _ eo⟩, st.2.at fun o q => k it (by simp) o q⟩
  item := by
    intro X hP hw hK hc i pins s σ H E I hf st hg
    subst hP hw hK
    obtain ⟨xs, x, hq, hx⟩ := hg
    obtain ⟨its, rv, p, hz⟩ := I.list hq
    obtain ⟨u, hu, ru⟩ := rv.get hx
    obtain ⟨⟨old, eo⟩, io⟩ := id st
    have hu' : its.toArray[i]? = some u := by simpa using hu
    have W := WalksT.enumerate (prog := X.prog) (w := X.w) (A := X.A) (I.ok.hd hc) e it a h1 h2 h3 its.toArray
    refine wpAny_pyNext_enum_item eo io p.isList hu' h1 fun h' eo' io' tup sz kk => ?_
    have hT : ∀ b o, s.heap.get? b = some o → s.heap.objs.size ≠ b := fun b o q z => absurd (Heap.lt_size q) (by rw [← z]; exact Nat.lt_irrefl _)
    have hTe := hT e _ eo
    have hTi : s.heap.objs.size ≠ it := by obtain ⟨o, q, _⟩ := io; exact hT it o q
    have ha' : h'.IsList a its.toArray := p.isList.at fun o q => kk a o h2 h3 q
    refine ⟨_, rfl, W.go elts k pos i s.heap.objs.size _ _ _ ⟨⟨_, eo'⟩, io', ha', hTe, hTi⟩ fun h'' st' kk' => ?_⟩
    obtain ⟨st2, io2, _⟩ := st'
    have tup2 := kk' _ _ (by simp [hTe, hTi]) tup
    have k2 : ∀ b o, b ∉ [e, it] → s.heap.get? b = some o → h''.get? b = some o := fun b o q1 q => kk' b o q1 (kk b o (fun z => q1 (by simp [z])) (fun z => q1 (by simp [z])) q)
    refine ⟨.ref s.heap.objs.size, upd H s.heap.objs.size (.tup [.int (i : Int), x]), I.turnLay (h' := h'') (t' := s.toks + 1) k2 hf (Nat.le_refl _) ⟨by show 2 ≤ sizeLine; decide, [.int (i : Int) s.toks, u], .cons ⟨_, rfl⟩ (.cons ru .nil), ⟨_, tup2, rfl, _, rfl⟩⟩, rfl,
      ⟨_, x, rfl, I.hok.fresh (Nat.le_refl _), rfl, fun ys hy => by rw [I.list_inj hy hq]; exact hx⟩, ⟨by simpa using st2, io2⟩, fun b hb => ?_⟩
    rcases List.mem_cons.mp hb with z | z
    · rw [z, upd_ne hTe.symm]; exact (hf e (by simp)).1
    · rw [List.mem_singleton.mp z, upd_ne hTi.symm]; exact (hf it (by simp)).1
  done := by
    intro X hP hw hK hc i pins s σ H E I hf st hg
    subst hP hw hK
    obtain ⟨xs, hq, hx⟩ := hg
    obtain ⟨its, rv, p, hz⟩ := I.list hq
    obtain ⟨⟨old, eo⟩, io⟩ := id st
    obtain ⟨f0, f1, f2, f3, f4, f5⟩ := hf it (by simp)
    have hl := rv.length
    exact wpAny_pyNext_enum_end (I.ok.hd hc) eo io p.isList (by simp; omega) fun h' eb => ⟨rfl, I.turned (t' := s.toks) (fun b o hb q => eb b o hb q) f0 f1 f3 f4 f5⟩
  self := by
    intro A i s Q E st h
    obtain ⟨⟨old, eo⟩, io⟩ := st
    exact wpAny_pyIter_enum eo h
section
variable {X : Cx} {elts : List Expr} {k : Nat} {pos0 : Pos}
def iEnum (K : PySem.W.Frag) (tl : TE) : TI := fun σ H R => tl σ H fun x H1 => ∃ a, x = .ref a ∧ (∃ xs, SqL K H1 a xs) ∧ R (Ite K a) H1
theorem pi_enum {l : Expr} {tl : TE} {p pos : Pos} (hg : Gl X "enumerate") (hm : X.mg "enumerate" = none) (hl : PE X l tl) (hs : starEach [l] X.env = [(false, eval l X.env)] := by rfl) :
    PI X (.Tuple elts k pos0) (.Call (.Name "enumerate" p) [l] [] pos) (iEnum X.K tl) := by
  intro pins s σ H R I h
  refine wpAny_Call_Name_kw (ld_blt I hg hm boot_enumerate ?_)
  refine PyProof.Rows.callWith_type1 ?_ hs rfl
  rw [hs]
  show wpAny _ _ (spliced ((false, eval l X.env) :: backTo pos [])) _ _ s
  refine Calls.spliced_cons (thn (hl pins s σ H _ I h) fun v s1 ⟨x, H1, I1, r1, a, ex, ⟨xs, hq⟩, q⟩ => ?_)
  subst ex
  cases r1
  obtain ⟨its, rv, pl, hz⟩ := I1.list hq
  refine Calls.spliced_nil ?_
  have hlt : a < s1.heap.objs.size := by obtain ⟨o, n, ho, _⟩ := pl; exact Heap.lt_size ho
  refine call_enumerate_list pl.isList fun h' en io sz kk => ?_
  refine wpAny_pyIter_enum en ?_
  refine ⟨_, [s1.heap.objs.size + 1, s1.heap.objs.size], _, _, H1, rfl, I1.kept (t' := s1.toks) kk, turn_enum a _ _ (Nat.ne_of_gt (Nat.lt_succ_self _)) (Nat.ne_of_lt (Nat.lt_succ_of_lt hlt)) (Nat.ne_of_lt hlt), ⟨⟨_, en⟩, io⟩, fun b hb => ?_, q⟩
  have hb' : s1.heap.objs.size ≤ b := by
    rcases List.mem_cons.mp hb with z | z
    · rw [z]; exact Nat.le_succ _
    · rw [List.mem_singleton.mp z]; exact Nat.le_refl _
  exact I1.fpOk hb' (I1.hok.fresh hb')
end
/-- xs.index(y), y flat and among the flat items -/
def rIndex (K : PySem.W.Frag) : V → List V → Hp → VK → Prop := fun x vs H Q => ∃ l xs y, ∃ j : Nat, x = .ref l ∧ vs = [y] ∧ SqL K H l xs ∧ flatV y = true ∧ xs.all flatV = true ∧ (∃ z, xs[j]? = some z ∧ eqV z y = true) ∧ (∀ (m : Nat) z, m < j → xs[m]? = some z → eqV z y = false) ∧ Q (.int (j : Int)) H
section
variable {X : Cx}
theorem mt_index : MtR X "list.index" (rIndex X.K) := by
  intro pins s σ H x vs v us Q I rx rv h
  obtain ⟨l, xs, y, j, rfl, rfl, hq, fy, fs, ⟨z, hz, ez⟩, hm, q⟩ := h
  cases rx
  obtain ⟨u, rfl, ry⟩ := Vals.one rv
  obtain ⟨its, r, pl, hle⟩ := I.list hq
  have hl := r.length
  have hjl := (List.getElem?_eq_some_iff.mp hz).1
  have ge : ∀ (m : Nat) (w : V), xs[m]? = some w → ∀ hm : m < its.toArray.size, eqU y its.toArray[m] = eqV w y := fun m w hw hm => by
    obtain ⟨u', hu', ru'⟩ := r.get hw
    have e : its.toArray[m] = u' := by
      have := (List.getElem?_eq_some_iff.mp hu').2
      simpa using this
    rw [e]
    exact eqU_of ru' (List.all_eq_true.mp fs w (List.mem_of_getElem? hw))
  obtain ⟨o, n, ho, hc, hd, hs⟩ := id pl
  obtain ⟨cls, dict, data, slots⟩ := o
  cases hc; cases hd; cases hs
  refine call_meets F.slot_list_index ⟨_, ho, rfl⟩ F.entry_list_index (F.args_list_index_2 _ _) (SeqAt.list_indexAt l its.toArray n none slots u (eqU y) j (by rw [List.size_toArray]; omega) ?_ ?_ ?_) ⟨ho, fun w hw => mem_eqAt ry fy r fs w (by simpa using hw), ?_⟩
  · have : sizeLine < 2 ^ 63 - 1 := by decide
    omega
  · rw [ge j z hz]; exact ez
  · intro m hm' hlt
    rw [ge m xs[m] (List.getElem?_eq_getElem (by omega))]
    exact hm m _ hlt (List.getElem?_eq_getElem (by omega))
  · exact ⟨.int (j : Int), H, I.tok _, ⟨_, rfl⟩, q⟩
end
section
variable {α : Type} [DecidableEq α] {r : Enc α} {d : Nat}
end
end L2

/-! ### d.setdefault(k, x), keys flat -/
namespace L2
open PySem PySem.Spec PyProof.Rows
section
variable {X : Cx} {o e f : Expr} {td ty tx : TE} {apos cpos : Pos}
end
end L2

/-! ### list comprehensions within list comprehensions: a block whose targets are cells -/
namespace L2
open PySem PySem.Spec PyProof.Rows

theorem cellsFrom_other : ∀ (names : List (Str × NameKind)) (n : Nat) (acc : List (Str × Addr)) {x : Str}, (x, NameKind.cell) ∉ names → (cellsFrom n names acc).lookup x = acc.lookup x
  | [], _, _, _, _ => rfl
  | (y, k) :: r, n, acc, x, h => by
    have hr : (x, NameKind.cell) ∉ r := fun z => h (List.mem_cons_of_mem _ z)
    unfold cellsFrom
    split
    · rename_i hk
      have hk' : k = NameKind.cell := by simpa using hk
      rw [cellsFrom_other r _ _ hr, List.lookup_cons]
      have : (x == y) = false := beq_eq_false_iff_ne.mpr fun e => h (by rw [e, hk']; exact List.mem_cons_self)
      rw [this]
    · exact cellsFrom_other r _ _ hr
theorem cellsFrom_own : ∀ (names : List (Str × NameKind)) (n : Nat) (acc : List (Str × Addr)) {x : Str} {c : Addr}, (x, NameKind.cell) ∈ names → (cellsFrom n names acc).lookup x = some c → n ≤ c
  | [], _, _, _, _, h, _ => nomatch h
  | (y, k) :: r, n, acc, x, c, h, e => by
    unfold cellsFrom at e
    split at e
    · by_cases hr : (x, NameKind.cell) ∈ r
      · exact Nat.le_of_succ_le (cellsFrom_own r _ _ hr e)
      · rw [cellsFrom_other r _ _ hr, List.lookup_cons] at e
        rcases List.mem_cons.mp h with h | h
        · have hx : x = y := congrArg Prod.fst h
          rw [hx, beq_self_eq_true] at e
          exact Nat.le_of_eq (Option.some.inj e)
        · exact absurd h hr
    · rename_i hk
      rcases List.mem_cons.mp h with h | h
      · exact absurd (by simpa using (congrArg Prod.snd h).symm) hk
      · exact cellsFrom_own r _ _ h e
theorem cellsFrom_has : ∀ (names : List (Str × NameKind)) (n : Nat) (acc : List (Str × Addr)) {x : Str}, ((x, NameKind.cell) ∈ names ∨ ∃ c, acc.lookup x = some c) → ∃ c, (cellsFrom n names acc).lookup x = some c
  | [], _, _, _, h => h.elim (fun z => nomatch z) id
  | (y, k) :: r, n, acc, x, h => by
    unfold cellsFrom
    split
    · refine cellsFrom_has r _ _ ?_
      by_cases hx : x = y
      · subst hx; exact .inr ⟨n, by rw [List.lookup_cons]; simp⟩
      · rcases h with h | ⟨c, h⟩
        · rcases List.mem_cons.mp h with h | h
          · exact absurd (congrArg Prod.fst h) hx
          · exact .inl h
        · exact .inr ⟨c, by rw [List.lookup_cons, beq_eq_false_iff_ne.mpr hx]; exact h⟩
    · rename_i hk
      refine cellsFrom_has r _ _ ?_
      rcases h with h | h
      · rcases List.mem_cons.mp h with h | h
        · exact absurd (by simpa using (congrArg Prod.snd h).symm) hk
        · exact .inl h
      · exact .inr h
theorem cellsFrom_inj : ∀ (names : List (Str × NameKind)) (n : Nat) (acc : List (Str × Addr)), (∀ x y c, acc.lookup x = some c → acc.lookup y = some c → x = y) → (∀ x c, acc.lookup x = some c → c < n) →
    ∀ x y c, (cellsFrom n names acc).lookup x = some c → (cellsFrom n names acc).lookup y = some c → x = y
  | [], _, _, h, _ => h
  | (z, k) :: r, n, acc, h, hl => by
    unfold cellsFrom
    split
    · refine cellsFrom_inj r (n + 1) _ (fun x y c h1 h2 => ?_) fun x c h1 => ?_
      · rw [List.lookup_cons] at h1 h2
        cases hx : x == z <;> cases hy : y == z <;> rw [hx] at h1 <;> rw [hy] at h2 <;> simp only at h1 h2
        · exact h x y c h1 h2
        · cases h2; exact absurd (hl x n h1) (Nat.lt_irrefl _)
        · cases h1; exact absurd (hl y n h2) (Nat.lt_irrefl _)
        · rw [beq_iff_eq.mp hx, beq_iff_eq.mp hy]
      · rw [List.lookup_cons] at h1
        cases hx : x == z <;> rw [hx] at h1 <;> simp only at h1
        · exact Nat.lt_succ_of_lt (hl x c h1)
        · cases h1; exact Nat.lt_succ_self _
    · exact cellsFrom_inj r n acc h hl
theorem cellsFrom_cell : ∀ (names : List (Str × NameKind)) (h : Heap) (acc : List (Str × Addr)) {x : Str} {c : Addr}, (cellsFrom h.objs.size names acc).lookup x = some c → acc.lookup x = some c ∨ ((pushCells h names).IsCell c none ∧ h.objs.size ≤ c)
  | [], _, _, _, _, e => .inl e
  | (z, k) :: r, h, acc, x, c, e => by
    unfold cellsFrom at e
    unfold pushCells
    split at e
    · rename_i hk
      rw [if_pos hk]
      have e' : (cellsFrom (h.push { cls := .type "cell", data := .cell none }).objs.size r ((z, h.objs.size) :: acc)).lookup x = some c := by rw [Heap.size_push]; exact e
      rcases cellsFrom_cell r _ _ e' with q | ⟨q1, q2⟩
      · rw [List.lookup_cons] at q
        cases hx : x == z <;> rw [hx] at q <;> simp only at q
        · exact .inl q
        · cases q
          exact .inr ⟨⟨_, pushCells_keeps _ _ _ _ (Heap.get?_push_size _ rfl), rfl⟩, Nat.le_refl _⟩
      · exact .inr ⟨q1, by rw [Heap.size_push] at q2; omega⟩
    · rename_i hk
      rw [if_neg hk]
      exact cellsFrom_cell r h acc e
theorem nodup_kind : ∀ {l : List (Str × NameKind)} {x : Str} {j k : NameKind}, (l.map (·.1)).Nodup → (x, j) ∈ l → (x, k) ∈ l → j ≠ k → False
  | [], _, _, _, _, h, _, _ => nomatch h
  | (y, i) :: r, x, j, k, hn, h1, h2, ne => by
    rw [List.map_cons, List.nodup_cons] at hn
    rcases List.mem_cons.mp h1 with h1 | h1 <;> rcases List.mem_cons.mp h2 with h2 | h2
    · cases h1; cases h2; exact ne rfl
    · cases h1; exact hn.1 (List.mem_map.mpr ⟨_, h2, rfl⟩)
    · cases h2; exact hn.1 (List.mem_map.mpr ⟨_, h1, rfl⟩)
    · exact nodup_kind hn.2 h1 h2 ne
theorem relabel_outN {env : Env} : ∀ {names : List (Str × NameKind)} {x : Str} {k : NameKind},
    (names.map fun (n, k) => if (k == NameKind.free && env.scope.kind == .function && env.kindOf n == some .cell) then (n, NameKind.cell) else (n, k)).lookup x = some k → (k = .cell ∨ k = .free) → (x, NameKind.free) ∈ names ∨ (x, NameKind.cell) ∈ names
  | [], _, _, h, _ => by simp at h
  | (n, kk) :: r, x, k, h, hk => by
    have ih := @relabel_outN env r x k
    simp only [List.map_cons] at h
    have up : ((x, NameKind.free) ∈ r ∨ (x, NameKind.cell) ∈ r) → ((x, NameKind.free) ∈ (n, kk) :: r ∨ (x, NameKind.cell) ∈ (n, kk) :: r) := fun z => z.elim (fun z => .inl (List.mem_cons_of_mem _ z)) fun z => .inr (List.mem_cons_of_mem _ z)
    by_cases hcond : (kk == NameKind.free && env.scope.kind == .function && env.kindOf n == some .cell) = true
    · rw [if_pos hcond, List.lookup_cons] at h
      have hfree : kk = NameKind.free := by
        rw [Bool.and_eq_true, Bool.and_eq_true] at hcond
        simpa using hcond.1.1
      cases hx : x == n with
      | true =>
        have : x = n := by simpa using hx
        subst this; subst hfree
        exact .inl List.mem_cons_self
      | false => rw [hx] at h; exact up (ih h hk)
    · rw [if_neg hcond, List.lookup_cons] at h
      cases hx : x == n with
      | true =>
        rw [hx] at h
        have hkk : kk = k := Option.some.inj h
        have : x = n := by simpa using hx
        subst this; subst hkk
        rcases hk with z | z
        · subst z; exact .inr List.mem_cons_self
        · subst z; exact .inl List.mem_cons_self
      | false => rw [hx] at h; exact up (ih h hk)
theorem newCompEnv {M : Model} {A : Around} {E : Value → Shared → Prop} {s : Shared} {scope : Scope} {globals : Addr} {cl : List (Str × Addr)} {qual : Str} {outer : Env} {Q : Env → Shared → Prop}
    (hQ : ∀ h', h'.Ns s.heap.objs.size (fun _ => none) → (∀ b o, s.heap.get? b = some o → h'.get? b = some o) →
      (∀ x c, (cellsFrom (s.heap.objs.size + 1) scope.names cl).lookup x = some c → cl.lookup x = some c ∨ (h'.IsCell c none ∧ s.heap.objs.size + 1 ≤ c)) →
      Q (newEnv scope s.heap.objs.size globals (cellsFrom (s.heap.objs.size + 1) scope.names cl) qual none .none (some outer) builtinsNs) { s with heap := h' }) :
    wpAny M A (newFunctionEnv scope globals cl [] qual none .none (some outer)) Q E s := by
  simp only [newFunctionEnv, Option.isSome_some, if_true]
  refine wpAny_bind (wpAny_alloc ?_)
  refine wpAny_bind (wpAny_layCells _ (fun name kind cells => by cases hkc : kind == NameKind.cell <;> simp [hkc]) _ _ _ _ ?_)
  rw [show ({ s with heap := s.heap.push { cls := .type "dict", data := .dict #[] } } : Shared).heap.objs.size = s.heap.objs.size + 1 from Heap.size_push ..]
  rw [List.forIn_nil]
  refine wpAny_bind (wpAny_pure (wpAny_pure (hQ _ ((Heap.Ns.new s.heap (.type "dict")).keeps (pushCells_keeps _ _)) (fun b o e => pushCells_keeps _ _ b o (Heap.get?_push_of_some _ e)) fun x c e => ?_)))
  have e' : (cellsFrom (s.heap.push { cls := .type "dict", data := .dict #[] }).objs.size scope.names cl).lookup x = some c := by rw [Heap.size_push]; exact e
  rcases cellsFrom_cell scope.names _ cl e' with q | ⟨q1, q2⟩
  · exact .inl q
  · exact .inr ⟨q1, by rw [Heap.size_push] at q2; exact q2⟩

/-- what the scopes must say: of the def (or block) around, of the block, whose targets may be cells -/
def compOkN (sc scope : Scope) (N0 tns : List Str) (caps : List (Nat × Str)) : Bool :=
  scope.kind == .function && decide (scope.names.map (·.1)).Nodup && scope.names.all (fun y => !(y.2 == .local) || scope.names.lookup y.1 == some .local) &&
  scope.names.all (fun y => !(y.2 == .free) || (sc.names.lookup y.1 == some .cell || sc.names.lookup y.1 == some .free)) && caps.all (fun p => N0[p.1]? == some p.2 && (sc.names.lookup p.2 == some .cell || sc.names.lookup p.2 == some .free) && scope.names.lookup p.2 == some .free)
/-- the block's context where targets may be cells -/
abbrev Cx.compN (X : Cx) (N : List Str) (scope : Scope) (cl : List (Str × Addr)) (C : Addr) (s : Shared) (H : Hp) (ex : List Addr) (E : Value → Shared → Prop) : Cx :=
  { X.comp N scope cl C s H ex E with fn := fun x => scope.names.lookup x == some .cell }
/-- a block's names as its inside sees them -/
def relab (scope sc : Scope) : Scope :=
  { scope with names := scope.names.map fun (n, k) => if (k == .free && sc.kind == .function && sc.names.lookup n == some .cell) then (n, .cell) else (n, k) }

section
variable {X : Cx} {elt tg iter : Expr} {ifs : List Expr} {scope sc : Scope} {pos : Pos} {n : Nat} {tns : List Str} {caps : List (Nat × Str)} {wi : TI} {g : TG} {tt : TT} {te : TE}
theorem comp_blockN {N0 : List Str} (hc : X.calm = true) (hsc : X.env.scope = sc) (hN0 : X.N = N0) (ok : compOkN sc scope N0 tns caps = true) (hn : tns.length = n) (hG : GKeep n g)
    (hb : ∀ cl C s H ex E, PG (X.compN (tns ++ caps.map (·.2)) scope cl C s H ex E) tg g ∧ PTs (X.compN (tns ++ caps.map (·.2)) scope cl C s H ex E) ifs tt ∧ PE (X.compN (tns ++ caps.map (·.2)) scope cl C s H ex E) elt te)
    {pins : List (Addr × Obj)} {σ : St} {H : Hp} {s : Shared} {J : It} {fp : List Addr} {it : Addr} {tn : Nat → Heap → Prop} {cl : List (Str × Addr)} {Q : V → Hp → Prop} {RR : Value → Addr → Result → Shared → Prop}
    (I : Inv X pins σ H s) (T : Turn X.prog X.w X.K tg J fp it tn) (t0 : tn 0 s.heap) (hf : ∀ b ∈ fp, FpOk X pins H b)
    (hsub : ∀ x c, cl.lookup x = some c → X.env.cells.lookup x = some c) (hall : ∀ x, (x, NameKind.free) ∈ scope.names → ∃ c, cl.lookup x = some c)
    (W : Nat → Nat → List V → Hp → Prop) {m0 : Nat} (w0 : W 0 m0 [] H)
    (turn : CStep g tt te (compSt n caps σ) Q J W)
    (hRR : ∀ D C ys H3 s', CompEnd X pins σ H3 D C ys s' → Q (.ref D) (upd H3 D (.lst ys)) → RR (.ref D) C (.ok .next) s') {E : Value → Shared → Prop} :
    wpAny (model X.prog X.w) X.A (newList []) (fun acc s₃ => wpAny (model X.prog X.w) X.A (newFunctionEnv scope X.env.globals cl [] X.env.qual none .none (some X.env)) (fun cenv s₄ =>
      codeAny (model X.prog X.w) X.A (.compStart (.ListComp elt [⟨tg, iter, ifs, 0⟩] scope pos) 0 (.ref it) acc { cenv with scope := relabel scope X.env }) (RR acc cenv.locals) s₄) E s₃) E s := by
  subst hsc
  subst hN0
  unfold compOkN at ok
  simp only [Bool.and_eq_true, List.all_eq_true] at ok
  obtain ⟨⟨⟨⟨ok1, ok2⟩, ok3⟩, ok4⟩, ok5⟩ := ok
  have hkind : scope.kind = .function := by simpa using ok1
  have hnd : (scope.names.map (·.1)).Nodup := by simpa using ok2
  refine wpAny_newObj_type (newCompEnv (fun h₁ hns₁ hsb₁ hc₁ => ?_))
  dsimp only at hns₁ hsb₁ hc₁ ⊢
  generalize hH2 : s.heap.push { cls := .type "list", dict := none, data := .seq ([] : List Value).toArray } = H2 at hns₁ hsb₁ hc₁ ⊢
  have hC : H2.objs.size = s.heap.objs.size + 1 := by rw [← hH2, Heap.size_push]
  have hDC : s.heap.objs.size ≠ H2.objs.size := by rw [hC]; exact Nat.ne_of_lt (Nat.lt_succ_self _)
  have hCle : s.heap.objs.size ≤ H2.objs.size := by rw [hC]; exact Nat.le_succ _
  have below : ∀ b, b < s.heap.objs.size → b ≠ H2.objs.size ∧ b ≠ s.heap.objs.size := fun b hb => ⟨by rw [hC]; exact Nat.ne_of_lt (Nat.lt_succ_of_lt hb), Nat.ne_of_lt hb⟩
  have old : ∀ b o, s.heap.get? b = some o → h₁.get? b = some o := fun b o e => hsb₁ b o (hH2 ▸ Heap.get?_push_of_some _ e)
  have hacc : h₁.get? s.heap.objs.size = some { cls := .type "list", data := .seq ([] : List Value).toArray 0 } := hsb₁ _ _ (hH2 ▸ Heap.get?_push_size _ rfl)
  have hst₁ : tn 0 h₁ := T.keep _ _ _ t0 fun b _ o e => old b o e
  have cf2 : ∀ x, (x, NameKind.free) ∈ scope.names → ∃ c, (cellsFrom (H2.objs.size + 1) scope.names cl).lookup x = some c ∧ cl.lookup x = some c := fun x hx => by
    obtain ⟨c, hc⟩ := hall x hx
    exact ⟨c, by rw [cellsFrom_other scope.names _ _ (fun hm => nodup_kind hnd hx hm (by decide))]; exact hc, hc⟩
  have cf3 : ∀ x, (x, NameKind.cell) ∈ scope.names → ∃ c, (cellsFrom (H2.objs.size + 1) scope.names cl).lookup x = some c := fun x hx => cellsFrom_has scope.names _ _ (.inl hx)
  have cf4 : ∀ x y c, (cellsFrom (H2.objs.size + 1) scope.names cl).lookup x = some c → (cellsFrom (H2.objs.size + 1) scope.names cl).lookup y = some c → x = y :=
    cellsFrom_inj scope.names _ _ (fun x y c h1 h2 => I.ok.inj x y c (hsub x c h1) (hsub y c h2)) (fun x c e => by
      obtain ⟨v, z⟩ := I.cell x c (hsub x c e)
      exact Nat.lt_of_lt_of_le z.lt (by rw [hC]; omega))
  have cf5 : ∀ x c, scope.names.lookup x = some NameKind.cell → (cellsFrom (H2.objs.size + 1) scope.names cl).lookup x = some c → H2.objs.size + 1 ≤ c := fun x c hx e => cellsFrom_own scope.names _ _ (PySem.mem_of_lookup hx) e
  generalize hcl : cellsFrom (H2.objs.size + 1) scope.names cl = cl' at *
  -- addresses
  generalize hD : s.heap.objs.size = D at *
  generalize hCe : H2.objs.size = C at *
  have fpLt : ∀ b ∈ fp, b < D := fun b hb => by
    obtain ⟨o, e, _⟩ := T.obj _ _ t0 b hb
    rw [← hD]; exact Heap.lt_size e
  have hDlt : D < C := by omega
  have cellNe : ∀ x c, cl'.lookup x = some c → c ≠ D := fun x c e => by
    rcases hc₁ x c e with q | ⟨_, q⟩
    · obtain ⟨v, z⟩ := I.cell x c (hsub x c q)
      rw [← hD]; exact Nat.ne_of_lt z.lt
    · exact Nat.ne_of_gt (Nat.lt_trans hDlt (Nat.lt_of_succ_le q))
  have fpNe : ∀ b ∈ fp, ∀ x c, cl'.lookup x = some c → c ≠ b := fun b hb x c e => by
    rcases hc₁ x c e with q | ⟨_, q⟩
    · exact (hf b hb).2.2.2.2.1 x c (hsub x c q)
    · exact Nat.ne_of_gt (Nat.lt_trans (fpLt b hb) (Nat.lt_trans hDlt (Nat.lt_of_succ_le q)))
  let X' : Cx := X.compN (tns ++ caps.map (·.2)) scope cl' C s H fp (notedBy (model X.prog X.w) X.A (compEnvC scope cl' C X.env) fun e s' => RR (.ref D) C (.error e) s')
  have okX : X'.Ok := by
    refine ⟨I.ok.mod, hkind, I.ok.glob, I.ok.blt, by show s.heap.objs.size ≤ C; omega, cf4, fun x hx => ?_, fun x c hx hcx => (by show s.heap.objs.size ≤ c; have := cf5 x c (by have hx2 : (scope.names.lookup x == some NameKind.cell) = true := hx; simpa using hx2) hcx; omega), I.ok.hd, I.ok.frames, .inl rfl, fun b hb => ?_, I.bs, Nat.le_trans I.ok.bsz I.sz, fun b o e hb => ?_, fun b hb hz => ?_, I.stack, I.stkFree⟩
    · have hx' : (relabel scope X.env).names.lookup x = some .cell ∨ (relabel scope X.env).names.lookup x = some .free := hx
      have hz : (x, NameKind.free) ∈ scope.names ∨ (x, NameKind.cell) ∈ scope.names := by
        rcases hx' with z | z
        · exact relabel_outN z (.inl rfl)
        · exact relabel_outN z (.inr rfl)
      rcases hz with z | z
      · obtain ⟨c, q, _⟩ := cf2 x z
        exact ⟨c, q⟩
      · exact cf3 x z
    · refine ⟨Nat.ne_of_lt (Nat.lt_trans (fpLt b hb) hDlt), fpNe b hb⟩
    · rcases (hf b hb).2.2.2.1 with z | z
      · exact I.ok.noex b o e z
      · exact absurd (Nat.lt_of_lt_of_le (Heap.lt_size e) (Nat.le_trans I.ok.bsz z)) (Nat.lt_irrefl _)
    · rcases List.mem_cons.mp (I.stkSub b hz) with z | z
      · exact (hf b hb).2.1 z
      · exact (hf b hb).2.2.1 z
  have lenc : (compSt n caps σ).length = (tns ++ caps.map (·.2)).length := by unfold compSt; simp [hn]
  have I1 : ∀ tk, Inv X' [] (compSt n caps σ) H { s with heap := h₁, toks := tk } := fun tk => by
    refine ⟨okX, rfl, I.bare, Un.kept old, ⟨_, hns₁, fun i x v e1 e2 e3 => ?_⟩, fun x c e => ?_, I.hok.fresh (by rw [hD]; exact Nat.le_of_lt hDlt), fun x c e => ?fc, fun p hp => absurd (show p ∈ ([] : List (Addr × Obj)) from hp) (by simp), I.hok.kept old, lenc⟩
    · have hi : n ≤ i := by
        by_cases h : n ≤ i
        · exact h
        · have e2' : (compSt n caps σ)[i]? = some (some v) := e2
          unfold compSt at e2'
          rw [List.getElem?_append_left (by simp; omega), List.getElem?_replicate] at e2'
          split at e2' <;> cases e2'
      have e2' : (compSt n caps σ)[i]? = some (some v) := e2
      unfold compSt at e2'
      rw [List.getElem?_append_right (by simpa using hi), List.length_replicate, List.getElem?_map] at e2'
      have e1' : (tns ++ caps.map (·.2))[i]? = some x := e1
      rw [List.getElem?_append_right (by rw [hn]; exact hi), hn, List.getElem?_map] at e1'
      cases hcp : caps[i - n]? with
      | none => rw [hcp] at e2'; cases e2'
      | some p =>
        rw [hcp] at e2' e1'
        simp only [Option.map_some, Option.some.injEq] at e2' e1'
        have hp5 := ok5 p (List.mem_of_getElem? hcp)
        simp only [beq_iff_eq, Bool.or_eq_true] at hp5
        obtain ⟨⟨p1, p2⟩, p3⟩ := hp5
        have hσ : σ[p.1]? = some (some v) := by
          cases hq : σ[p.1]? with
          | none => rw [hq] at e2'; cases e2'
          | some o => rw [hq] at e2'; simp at e2'; rw [e2']
        subst e1'
        obtain ⟨m, hm, hl⟩ := I.loc
        obtain ⟨u, r, l⟩ := hl p.1 p.2 v p1 hσ (.inr p2)
        refine ⟨u, r, .inr ?_⟩
        rcases l with ⟨k, _⟩ | ⟨k, c, e, z⟩
        · have k' : X.env.scope.names.lookup p.2 = some .local := k
          rcases p2 with p2 | p2 <;> (rw [p2] at k'; cases k')
        · obtain ⟨c', e', e''⟩ := cf2 p.2 (PySem.mem_of_lookup p3)
          have := hsub _ _ e''
          rw [e] at this; cases this
          obtain ⟨o, ho, hd⟩ := z
          exact ⟨relabel_free (env := X.env) p3, c, e', ⟨o, old _ _ ho, hd⟩⟩
    · rcases hc₁ x c e with q | ⟨q, _⟩
      · obtain ⟨v, o, ho, hd⟩ := I.cell x c (hsub x c q)
        exact ⟨v, o, old _ _ ho, hd⟩
      · exact ⟨_, q⟩
    case fc =>
      rcases hc₁ x c e with q | ⟨_, q⟩
      · exact I.freeC x c (hsub x c q)
      · exact I.hok.fresh (by rw [hD]; omega)
  obtain ⟨hg, ht, he⟩ := hb cl' C s H fp X'.xe
  have fsLt : ∀ b ∈ X'.fs, b < D := fun b hb => by
    obtain ⟨_, o, ho, _⟩ := I.stack.mem hb
    rw [← hD]; exact Heap.lt_size ho
  have aY : CAt X' fp D := ⟨hc, rfl, Nat.ne_of_lt hDlt, fun hz => absurd (fsLt _ hz) (Nat.lt_irrefl _), by show s.heap.objs.size ≤ D; omega, cellNe, fun b hb => Nat.ne_of_lt (fpLt b hb), fun b hb H' h' => ⟨h', Nat.ne_of_lt (Nat.lt_trans (fpLt b hb) hDlt), okX.exfs b hb, .inl hb, fpNe b hb, fun p hp => no_mem (α := Addr × Obj) hp⟩⟩
  have loop : ∀ s₃ : Shared, (∃ tk, s₃ = { s with heap := h₁, toks := tk }) →
      codeAny (model X.prog X.w) X.A (.compLoop (.ListComp elt [⟨tg, iter, ifs, 0⟩] scope pos) 0 (.ref it) (.ref D) (compEnvC scope cl' C X.env)) (RR (.ref D) C) s₃ := by
    rintro s₃ ⟨tk, rfl⟩
    exact comp_turns (Y := X') rfl T hG hg ht he aY (fun j v e => (compSt_at e).1) turn (fun ys its k H3 s4 I4 rv hz q => hRR _ C ys H3 s4 (comp_end I hf (Nat.le_of_eq hD) hDlt I4 I4.os I4.base I4.hok rfl rv hz) q)
      (.mk 0 H [] [] 0 ⟨I1 tk, hst₁, fun b hb => (hf b hb).1, hacc, I.hok.fresh (by rw [hD]; exact Nat.le_refl _)⟩ .nil w0)
  exact codeAny_compStart_list (loop _ ⟨_, rfl⟩) (T.self _ 0 _ _ _ hst₁ (loop _ ⟨_, rfl⟩))
/-- [e for t in i if c] -/
theorem pe_compN (sc : Scope) (N0 : List Str) (tns : List Str) (caps : List (Nat × Str)) (hc : X.calm = true) (hi : PI X tg iter wi) (hG : GKeep tns.length g)
    (hb : ∀ cl C s H ex E, PG (X.compN (tns ++ caps.map (·.2)) scope cl C s H ex E) tg g ∧ PTs (X.compN (tns ++ caps.map (·.2)) scope cl C s H ex E) ifs tt ∧ PE (X.compN (tns ++ caps.map (·.2)) scope cl C s H ex E) elt te)
    (hsc : X.env.scope = sc := by rfl) (hN0 : X.N = N0 := by rfl) (ok : compOkN sc scope N0 tns caps = true := by decide +kernel)
    (hs : ∀ x, foldedSetIterable iter X.env x = pure x := by intro _; rfl) :
    PE X (.ListComp elt [⟨tg, iter, ifs, 0⟩] scope pos) (tComp tns.length caps wi g tt te) := by
  intro pins s σ H Q I h
  have ok' := ok
  unfold compOkN at ok'
  simp only [Bool.and_eq_true, List.all_eq_true] at ok'
  obtain ⟨⟨⟨⟨ok1, ok2⟩, ok3⟩, ok4⟩, ok5⟩ := ok'
  obtain ⟨cl, ecl, hsub, hall⟩ := clos_of (scope := scope) (env := X.env) fun x hx hfr => by
    have := ok4 x hx
    rw [hfr] at this
    have z : sc.names.lookup x.1 = some .cell ∨ sc.names.lookup x.1 = some .free := by simpa using this
    exact I.ok.has x.1 (by show X.env.scope.names.lookup x.1 = _ ∨ X.env.scope.names.lookup x.1 = _; rw [hsc]; exact z)
  rw [eval_ListComp]
  refine wpAny_comprehension_free (use := none) rfl hs ecl (by simpa using ok1) (fun x hx hl => by have := ok3 x hx; rw [hl] at this; simpa using this) (thn (hi pins s σ H _ I h) fun xv s₁ h₁ => thn h₁ fun itv s₂ h₂ => ?_)
  obtain ⟨it, fp, tn, J, H', rfl, I2, T, st2, f2, W, ⟨m0, w0⟩, turn⟩ := h₂
  refine comp_blockN (RR := fun acc C => compPost (model X.prog X.w) X.A X.xe none (EP X pins σ Q) acc C) hc hsc hN0 ok rfl hG hb I2 T st2 f2 hsub hall W w0 turn ?_
  intro D C ys H3 s' ce q
  obtain ⟨mm, hns⟩ := ce.ns
  refine ⟨mm, hns, fun h' hs' => ⟨.ref D, _, ?_, rfl, q⟩⟩
  obtain ⟨c0, c1, c2, c3, c4, c5⟩ := ce.fp
  exact ce.inv.turned (t' := s'.toks) (fun b o hb' e => (hs'.extBut b o hb' e)) c0 c1 c3 c4 c5
end
end L2

/-! ### list(range(n)) -/
namespace L2
open PySem PySem.Spec PyProof.Rows
theorem vals_of_get : ∀ (xs : List V) (us : List Value), xs.length = us.length → (∀ (j : Nat) x u, xs[j]? = some x → us[j]? = some u → RelV x u) → Vals xs us
  | [], [], _, _ => .nil
  | [], _ :: _, h, _ => by simp at h
  | _ :: _, [], h, _ => by simp at h
  | x :: xs, u :: us, h, r => .cons (r 0 x u rfl rfl) (vals_of_get xs us (by simpa using h) fun j y v e1 e2 => r (j + 1) y v (by simpa using e1) (by simpa using e2))
def tListRng (ta : TA) : TE := fun σ H Q => ta σ H fun vs H1 => ∃ j : Int, vs = [.int j] ∧ 0 ≤ j ∧ j ≤ 1000 ∧ ∀ p, H1 p = none → Q (.ref p) (upd H1 p (.lst ((List.range j.toNat).map fun i => V.int ((i : Nat) : Int))))
variable {X : Cx}
theorem pe_listrange {e : Expr} {ta : TA} {p q q2 pos : Pos} (hc : X.calm = true) (hg : Gl X "list") (hg2 : Gl X "range") (hm : X.mg "list" = none) (hm2 : X.mg "range" = none) (ha : PA X [e] ta)
    (hs : starEach [.Call (.Name "range" q) [e] [] q2] X.env = [(false, eval (.Call (.Name "range" q) [e] [] q2) X.env)] := by rfl) (hs2 : starEach [e] X.env = [(false, eval e X.env)] := by rfl) :
    PE X (.Call (.Name "list" p) [.Call (.Name "range" q) [e] [] q2] [] pos) (tListRng ta) := by
  intro pins s σ H Q I h
  refine wpAny_Call_Name_kw (ld_blt I hg hm PyProof.Rows.boot_list ?_)
  refine PyProof.Rows.callWith_type1 ?_ hs rfl
  rw [hs]
  show wpAny _ _ (spliced ((false, eval (.Call (.Name "range" q) [e] [] q2) X.env) :: backTo pos [])) _ _ s
  refine Calls.spliced_cons ?_
  refine wpAny_Call_Name_kw (ld_blt I hg2 hm2 boot_range ?_)
  refine PyProof.Rows.callWith_type1 (thn (ha q2 pins s σ H _ I h) fun us s1 ⟨vs, H1, I1, r1, q1⟩ => ?_) hs2 rfl
  obtain ⟨j, e, h0, h1, k⟩ := q1
  subst e
  cases r1 with
  | cons r rr =>
    cases rr
    obtain ⟨t, rfl⟩ := r
    refine call_range_1 ?_
    refine Calls.spliced_nil ?_
    refine call_list_range (n := j.toNat) (I.ok.hd hc) (IsRange.new ..) (small_one (by omega) (by omega) (by omega) (by omega)) (by rw [rangeSize_one]; split <;> omega) (by omega) fun h' tk acc' c' hk hS hacc => ?_
    refine ⟨.ref _, _, I1.laid (h' := h') (t' := tk) (o := .lst ((List.range j.toNat).map fun i => V.int ((i : Nat) : Int))) (fun b o e => hk b o (Heap.get?_push_of_some _ e)) (by rw [Heap.size_push]; exact Nat.le_succ _) ?_, rfl, k _ (I1.hok.fresh (by rw [Heap.size_push]; exact Nat.le_succ _))⟩
    refine ⟨by rw [List.length_map, List.length_range]; exact Nat.le_of_lt (small1000 (by omega)), acc'.toList, c', vals_of_get _ _ (by simp [hacc.1]) fun i x u e1 e2 => ?_, hS⟩
    have e2' : acc'[i]? = some u := by simpa using e2
    obtain ⟨tk, rfl⟩ := hacc.2 i u e2'
    rw [List.getElem?_map] at e1
    cases e3 : (List.range j.toNat)[i]? with
    | none => rw [e3] at e1; cases e1
    | some z =>
      rw [e3] at e1
      have hz : z = i := by
        have hi : i < j.toNat := by have := (List.getElem?_eq_some_iff.mp e3).1; simpa using this
        rw [List.getElem?_range hi] at e3
        exact (Option.some.inj e3).symm
      subst hz
      have : x = V.int (z : Int) := (Option.some.inj e1).symm
      subst this
      exact ⟨tk, by simp⟩
end L2
namespace L2
open PySem PySem.Spec PyProof.Rows
theorem star_list {l : List Expr} {p : Pos} {es : List Expr} {env : Env} : starEach (.List l p :: es) env = (false, eval (.List l p) env) :: starEach es env := rfl
end L2
namespace L2
open PySem PySem.Spec PyProof.Rows
theorem mt_indexK {X : Cx} (K : PySem.W.Frag) (h : X.K = K) : MtR X "list.index" (rIndex K) := by subst h; exact mt_index
end L2
namespace L2
open PySem PySem.Spec PyProof.Rows
variable {X : Cx} {o e : Expr} {es : List Expr} {to : TE} {t : TA} {name : Str} {apos cpos : Pos} {T id : String} {r : V → List V → Hp → VK → Prop}
theorem pe_bmK (K : PySem.W.Frag) (hK : X.K = K) (pa : PlainAttrs T) (slot : Slot T name id) (hty : typeOf (.builtin id) = pure (.type "method_descriptor")) (hm : MtR X id r) (ho : PE X o to) (ha : PA X (e :: es) t)
    (hbase : attributeBase o name X.env (eval o X.env) = eval o X.env := by rfl)
    (hfew : ((backTo cpos (starEach (e :: es) X.env)).all (fun x => !x.1) && (backToKw cpos (keywordEach [] X.env)).all (fun x => x.1.isSome)
      && decide ((e :: es).length + ([] : List Keyword).length + (if ([] : List Keyword).isEmpty then 0 else 1) < 30)) = true := by rfl)
    (hline : (apos.endLine == cpos.line) = true := by rfl) (hs : starEach (e :: es) X.env = (false, eval e X.env) :: starEach es X.env := by rfl) (hplain : (backTo cpos (starEach es X.env)).any (·.1) = false := by rfl) :
    PE X (.Call (.Attribute o name apos) (e :: es) [] cpos) (tBM K T r to t) := by
  subst hK
  exact pe_bm pa slot hty hm ho ha hbase hfew hline hs hplain
end L2

/-! ### list.index with a first place -/
namespace PySem
open PySem.Spec
namespace SeqAt
open MeetsSeq
end SeqAt
end PySem
namespace L2
open PySem PySem.Spec PyProof.Rows
section
variable {X : Cx}
end
end L2

/-! ### all and any of a list of truths, is True, three names at once -/
namespace L2
open PySem PySem.Spec PyProof.Rows
section
variable {X : Cx}
end
end L2

/-! ### list.index of any items; list(range(a, b)) -/
namespace L2
open PySem PySem.Spec PyProof.Rows
def rIndexE {α : Type} [DecidableEq α] (K : PySem.W.Frag) (r : Enc α) : V → List V → Hp → VK → Prop := fun x vs H Q => ∃ l xs y, ∃ (as : List α) (a : α) (j : Nat), x = .ref l ∧ vs = [y] ∧ SqL K H l xs ∧ Paired (r K H) xs as ∧ r K H y a ∧ as[j]? = some a ∧ (∀ (m : Nat) b, m < j → as[m]? = some b → b ≠ a) ∧ Q (.int (j : Int)) H
section
variable {X : Cx} {α : Type} [DecidableEq α] {r : Enc α} {d : Nat}
open Classical in
theorem mt_indexE (K : PySem.W.Frag) (hK : X.K = K) (E : EqOk r d) (hd8 : d + 1 ≤ 8) (hu : X.A.units + 8 < cLine) : MtR X "list.index" (rIndexE K r) := by
  subst hK
  intro pins s σ H x vs v us Q I rx rv h
  obtain ⟨l, xs, y, as, a, j, rfl, rfl, hq, pr, hy, hj, hm, q⟩ := h
  cases rx
  obtain ⟨u, rfl, ry⟩ := Vals.one rv
  obtain ⟨its, rr, pl, hle⟩ := I.list hq
  have hl := rr.length
  have hpl := Paired.len pr
  have hjl : j < as.length := (List.getElem?_eq_some_iff.mp hj).1
  let e : Value → Bool := fun w => decide (∃ (i : Nat) (b : α), its[i]? = some w ∧ as[i]? = some b ∧ b = a)
  have he : ∀ (i : Nat) (w : Value) (b : α), its[i]? = some w → as[i]? = some b → e w = decide (b = a) := by
    intro i w b h1 h2
    rw [Bool.eq_iff_iff]
    simp only [e, decide_eq_true_eq]
    constructor
    · rintro ⟨i', b', h3, h4, rfl⟩
      obtain ⟨x1, hx1, rx1⟩ := Paired.getR rr h1
      obtain ⟨x2, hx2, rx2⟩ := Paired.getR rr h3
      obtain ⟨c1, hc1, rc1⟩ := Paired.getL pr hx1
      obtain ⟨c2, hc2, rc2⟩ := Paired.getL pr hx2
      rw [h2] at hc1; rw [h4] at hc2
      cases hc1; cases hc2
      have := RelV.inj rx1 rx2
      subst this
      exact E.uniq I rc1 rc2
    · rintro rfl; exact ⟨i, b, h1, h2, rfl⟩
  obtain ⟨o, n, ho, hc, hd, hs⟩ := id pl
  obtain ⟨cls, dict, data, slots⟩ := o
  cases hc; cases hd; cases hs
  refine call_meets F.slot_list_index ⟨_, ho, rfl⟩ F.entry_list_index (F.args_list_index_2 _ _) (SeqAt.list_indexAt l its.toArray n none slots u e j (by rw [List.size_toArray]; omega) ?_ ?_ ?_) ⟨ho, fun w hw => ?_, ?_⟩
  · have : sizeLine < 2 ^ 63 - 1 := by decide
    omega
  · rw [he j _ a (by simp) hj]; simp
  · intro m hm' hlt
    have hml : m < as.length := by omega
    rw [he m _ as[m] (by simp) (by simp [hml])]
    simpa using hm m _ hlt (by simp [hml])
  · have hw' : w ∈ its := by simpa using hw
    obtain ⟨i, hi⟩ := List.getElem?_of_mem hw'
    obtain ⟨x1, hx1, rx1⟩ := Paired.getR rr hi
    obtain ⟨c1, hc1, rc1⟩ := Paired.getL pr hx1
    rw [he i w c1 hi hc1]
    refine E.eq I rx1 ry rc1 hy ?_
    show X.A.units + 1 + d < cLine
    omega
  · exact ⟨.int (j : Int), H, I.tok _, ⟨_, rfl⟩, q⟩
end
section
variable {X : Cx}
end
section
variable {X : Cx}
variable {T : String} {name : Str} {id : String} {r : V → List V → Hp → VK → Prop} {o e : Expr} {es : List Expr} {to : TE} {t : TA} {apos cpos : Pos}
theorem pe_bmI {K : PySem.W.Frag} (hK : X.K = K) (pa : PlainAttrs T) (slot : Slot T name id) (hty : typeOf (.builtin id) = pure (.type "method_descriptor")) (hm : MtR X id r) (ho : PE X o to) (ha : PA X (e :: es) t)
    (hbase : attributeBase o name X.env (eval o X.env) = eval o X.env := by rfl)
    (hfew : ((backTo cpos (starEach (e :: es) X.env)).all (fun x => !x.1) && (backToKw cpos (keywordEach [] X.env)).all (fun x => x.1.isSome)
      && decide ((e :: es).length + ([] : List Keyword).length + (if ([] : List Keyword).isEmpty then 0 else 1) < 30)) = true := by rfl)
    (hline : (apos.endLine == cpos.line) = true := by rfl) (hs : starEach (e :: es) X.env = (false, eval e X.env) :: starEach es X.env := by rfl) (hplain : (backTo cpos (starEach es X.env)).any (·.1) = false := by rfl) :
    PE X (.Call (.Attribute o name apos) (e :: es) [] cpos) (tBM K T r to t) := pe_bmK K hK pa slot hty hm ho ha hbase hfew hline hs hplain
end
section
variable {X : Cx} {elt tg iter : Expr} {ifs : List Expr} {scope : Scope} {pos : Pos} {wi : TI} {g : TG} {tt : TT} {te : TE}
theorem pe_compJ {sc : Scope} {N0 : List Str} {tns : List Str} {caps : List (Nat × Str)} (hc : X.calm = true) (hi : PI X tg iter wi) (hG : GKeep tns.length g)
    (hb : ∀ cl C s H ex E, PG (X.compN (tns ++ caps.map (·.2)) scope cl C s H ex E) tg g ∧ PTs (X.compN (tns ++ caps.map (·.2)) scope cl C s H ex E) ifs tt ∧ PE (X.compN (tns ++ caps.map (·.2)) scope cl C s H ex E) elt te)
    (hsc : X.env.scope = sc := by rfl) (hN0 : X.N = N0 := by rfl) (ok : compOkN sc scope N0 tns caps = true := by decide +kernel)
    (hs : ∀ x, foldedSetIterable iter X.env x = pure x := by intro _; rfl) :
    PE X (.ListComp elt [⟨tg, iter, ifs, 0⟩] scope pos) (tComp tns.length caps wi g tt te) := pe_compN sc N0 tns caps hc hi hG hb hsc hN0 ok hs
theorem pe_compI {sc : Scope} {N0 : List Str} {tns : List Str} {caps : List (Nat × Str)} (hc : X.calm = true) (hi : PI X tg iter wi) (hG : GKeep tns.length g)
    (hb : ∀ cl C s H ex E, PG (X.comp (tns ++ caps.map (·.2)) scope cl C s H ex E) tg g ∧ PTs (X.comp (tns ++ caps.map (·.2)) scope cl C s H ex E) ifs tt ∧ PE (X.comp (tns ++ caps.map (·.2)) scope cl C s H ex E) elt te)
    (hsc : X.env.scope = sc := by rfl) (hN0 : X.N = N0 := by rfl) (ok : compOk sc scope N0 tns caps = true := by decide +kernel)
    (hs : ∀ x, foldedSetIterable iter X.env x = pure x := by intro _; rfl) :
    PE X (.ListComp elt [⟨tg, iter, ifs, 0⟩] scope pos) (tComp tns.length caps wi g tt te) := pe_comp sc N0 tns caps hc hi hG hb hsc hN0 ok hs
end
section
variable {X : Cx} {tg l : Expr} {tl : TE} {p pos : Pos} {K : PySem.W.Frag}
theorem pi_listK (h : X.K = K) (hl : PE X l tl) : PI X tg l (iList K tl) := by subst h; exact pi_list hl
end
end L2

/-! ### max, min of a list of ints -/
namespace L2
open PySem PySem.Spec PyProof.Rows
section
variable {X : Cx}
end
end L2

/-! ### mirrors: what a def is worth over plain data, and how it is read off the rules -/
namespace L2
open PySem PySem.Spec PyProof.Rows

inductive Pay where
  | non | int (i : Int) | tag (t : Str) (xs : List Int)
  deriving DecidableEq
structure Exc where
  cls : Str
  pay : Pay
inductive Res (α : Type) where
  | bad | err (x : Exc) | ok (a : α)
def Res.bind {α β : Type} : Res α → (α → Res β) → Res β
  | .bad, _ => .bad
  | .err x, _ => .err x
  | .ok a, f => f a
theorem Res.ok_bind {α β : Type} (a : α) (f : α → Res β) : (Res.ok a).bind f = f a := rfl
/-- a check ahead of a step -/
def chk {α : Type} (c : Prop) [Decidable c] (m : Res α) : Res α := if c then m else .bad
theorem chk_ok {α : Type} {c : Prop} [Decidable c] {m : Res α} (h : c) : chk c m = m := if_pos h

abbrev Cell := Addr × HO
def mutK : HO → Bool
  | .lst _ => true
  | .dK _ => true
  | .dT _ => true
  | _ => false
def fl (OO : List (List Cell)) : List Addr := OO.flatten.map (·.1)
open Classical in
noncomputable def hid (H : Hp) (OO : List (List Cell)) : Hp := fun b => if b ∈ fl OO then none else H b
structure W (OO : List (List Cell)) (H : Hp) : Prop where
  tr : ∀ c ∈ OO.flatten, H c.1 = some c.2
  nd : (fl OO).Nodup
  mu : ∀ c ∈ OO.flatten, mutK c.2 = true

theorem hid_some {H : Hp} {OO} {b : Addr} {o : HO} (h : hid H OO b = some o) : H b = some o ∧ b ∉ fl OO := by
  unfold hid at h
  split at h
  · cases h
  · exact ⟨h, by assumption⟩
theorem hid_of {H : Hp} {OO} {b : Addr} {o : HO} (h : H b = some o) (n : b ∉ fl OO) : hid H OO b = some o := by
  unfold hid; rw [if_neg n]; exact h
theorem hid_same {H : Hp} {OO} : Same (hid H OO) H := fun b o h => (hid_some h).1
theorem hid_mono {H H' : Hp} {OO} (s : Same H H') : Same (hid H OO) (hid H' OO) := fun b o h => hid_of (s _ _ (hid_some h).1) (hid_some h).2
theorem hid_sub {H H' : Hp} {OO OO'} (s : Same H H') (h : ∀ b, b ∈ fl OO' → b ∈ fl OO) : Same (hid H OO) (hid H' OO') := fun b o q => hid_of (s _ _ (hid_some q).1) fun z => (hid_some q).2 (h b z)
theorem fl_cons {C : List Cell} {OO} : fl (C :: OO) = C.map (·.1) ++ fl OO := by simp [fl]
theorem fl_nil {OO} : fl ([] :: OO) = fl OO := by simp [fl]
theorem hid_nil {H : Hp} {OO} : hid H ([] :: OO) = hid H OO := by unfold hid; rw [fl_nil]
theorem W.keep {OO} {H H' : Hp} (w : W OO H) (s : Same H H') : W OO H' := ⟨fun c hc => s _ _ (w.tr c hc), w.nd, w.mu⟩
theorem W.of {OO OO' : List (List Cell)} {H : Hp} (w : W OO H) (h : OO'.flatten.Perm OO.flatten) : W OO' H :=
  ⟨fun c hc => w.tr c (h.mem_iff.mp hc), (h.map _).nodup_iff.mpr w.nd, fun c hc => w.mu c (h.mem_iff.mp hc)⟩
theorem W.sub {OO OO' : List (List Cell)} {H : Hp} (w : W OO H) (h : OO'.flatten.Sublist OO.flatten) : W OO' H :=
  ⟨fun c hc => w.tr c (h.mem hc), (h.map _).nodup w.nd, fun c hc => w.mu c (h.mem hc)⟩
theorem W.tail {C OO} {H : Hp} (w : W (C :: OO) H) : W OO H := w.sub (by simp)
theorem W.nil {OO} {H : Hp} (w : W OO H) : W ([] :: OO) H := w.of (by simp)
theorem W.cell {C OO} {H : Hp} (w : W (C :: OO) H) : ∀ c ∈ C, H c.1 = some c.2 := fun c hc => w.tr c (by simp [hc])
theorem fl_mem {OO : List (List Cell)} {c : Cell} (h : c ∈ OO.flatten) : c.1 ∈ fl OO := List.mem_map.mpr ⟨c, h, rfl⟩
theorem fl_ex {OO : List (List Cell)} {b : Addr} (h : b ∈ fl OO) : ∃ o, (b, o) ∈ OO.flatten := by
  obtain ⟨⟨a, o⟩, hc, rfl⟩ := List.mem_map.mp h
  exact ⟨o, hc⟩
theorem W.fresh {OO} {H : Hp} (w : W OO H) {p : Addr} (h : H p = none) : p ∉ fl OO := fun z => by
  obtain ⟨o, ho⟩ := fl_ex z
  have := w.tr _ ho
  rw [h] at this; cases this
theorem W.new {OO} {H : Hp} (w : W OO H) {p : Addr} (h : H p = none) {o : HO} (m : mutK o = true) : W ([(p, o)] :: OO) (upd H p o) := by
  have hf := w.fresh h
  refine ⟨fun c hc => ?_, ?_, fun c hc => ?_⟩
  · simp only [List.flatten_cons, List.cons_append, List.nil_append, List.mem_cons] at hc
    rcases hc with rfl | hc
    · exact upd_same
    · rw [upd_ne (fun e => hf (by rw [← e]; exact fl_mem hc))]; exact w.tr c hc
  · rw [fl_cons]; simpa using ⟨hf, w.nd⟩
  · simp only [List.flatten_cons, List.cons_append, List.nil_append, List.mem_cons] at hc
    rcases hc with rfl | hc
    · exact m
    · exact w.mu c hc
theorem hid_new {OO} {H : Hp} {p : Addr} (h : H p = none) {o : HO} : Same (hid H OO) (hid (upd H p o) ([(p, o)] :: OO)) := fun b u q => by
  obtain ⟨q1, q2⟩ := hid_some q
  have hb : b ≠ p := ne_of_none q1 h
  refine hid_of (by rw [upd_ne hb]; exact q1) ?_
  rw [fl_cons]; simpa using ⟨hb, q2⟩
/-- new things that are no cells of ours -/
theorem hid_newS {OO} {H : Hp} (w : W OO H) {p : Addr} (h : H p = none) {o : HO} : hid (upd H p o) OO p = some o := hid_of upd_same (w.fresh h)

/-! encodings -/
class MonoE {α : Type} (r : Enc α) : Prop where
  mono : ∀ {K : PySem.W.Frag} {H H' : Hp} {v : V} {a : α}, Same H H' → r K H v a → r K H' v a
def immK : HO → Bool
  | .tup _ => true
  | .frz _ _ => true
  | _ => false
/-- what never changes stays -/
def SameI (H H' : Hp) : Prop := ∀ b o, H b = some o → immK o = true → H' b = some o
theorem Same.i {H H' : Hp} (s : Same H H') : SameI H H' := fun b o h _ => s b o h
theorem W.i {OO} {H : Hp} (w : W OO H) : SameI H (hid H OO) := fun b o h i => hid_of h fun z => by
  obtain ⟨u, hu⟩ := fl_ex z
  have h1 := w.tr _ hu
  have h2 := w.mu _ hu
  rw [h] at h1
  have e : o = u := Option.some.inj h1
  subst e
  revert i h2; cases o <;> simp [immK, mutK]
theorem SameI.trans {H H1 H2 : Hp} (a : SameI H H1) (b : SameI H1 H2) : SameI H H2 := fun c o h i => b c o (a c o h i) i
class FlatE {α : Type} (r : Enc α) : Prop where
  flat : ∀ {K : PySem.W.Frag} {H H' : Hp} {v : V} {a : α}, SameI H H' → r K H v a → r K H' v a
instance {α : Type} {r : Enc α} [f : FlatE r] : MonoE r := ⟨fun s h => f.flat s.i h⟩
def rBool : Enc Bool := fun _ _ v b => v = .bl b
def rOpt {α : Type} (r : Enc α) : Enc (Option α) := fun K H v a => match a with
  | none => v = .non
  | some a => v ≠ .non ∧ r K H v a
/-- a list, a tuple that is tracked -/
def rV {α : Type} (r : Enc α) : Enc (List α) := fun K H v as => ∃ a xs, v = .ref a ∧ H a = some (.lst xs) ∧ Paired (r K H) xs as
def rPL {α : Type} (r : Enc α) : Enc (List α) := fun K H v as => ∃ a xs, v = .ref a ∧ H a = some (.tup xs) ∧ Paired (r K H) xs as
def rP2 {α β : Type} (r : Enc α) (q : Enc β) : Enc (α × β) := fun K H v p => ∃ a x y, v = .ref a ∧ H a = some (.tup [x, y]) ∧ r K H x p.1 ∧ q K H y p.2
def rP3 {α β γ : Type} (r : Enc α) (q : Enc β) (t : Enc γ) : Enc (α × β × γ) := fun K H v p => ∃ a x y z, v = .ref a ∧ H a = some (.tup [x, y, z]) ∧ r K H x p.1 ∧ q K H y p.2.1 ∧ t K H z p.2.2
instance {α : Type} {r : Enc α} [m : MonoE r] : MonoE (rV r) := ⟨fun s ⟨a, xs, e, q, p⟩ => ⟨a, xs, e, s _ _ q, Paired.imp2 (fun _ _ z => m.mono s z) p⟩⟩
instance {α : Type} {r : Enc α} [m : MonoE r] : MonoE (rPL r) := ⟨fun s ⟨a, xs, e, q, p⟩ => ⟨a, xs, e, s _ _ q, Paired.imp2 (fun _ _ z => m.mono s z) p⟩⟩
instance {α : Type} {r : Enc α} [m : FlatE r] : FlatE (rPL r) := ⟨fun s ⟨a, xs, e, q, p⟩ => ⟨a, xs, e, s _ _ q rfl, Paired.imp2 (fun _ _ z => m.flat s z) p⟩⟩
instance {α β : Type} {r : Enc α} {q : Enc β} [m : MonoE r] [n : MonoE q] : MonoE (rP2 r q) := ⟨fun s ⟨a, x, y, e, h, p1, p2⟩ => ⟨a, x, y, e, s _ _ h, m.mono s p1, n.mono s p2⟩⟩
instance {α β : Type} {r : Enc α} {q : Enc β} [m : FlatE r] [n : FlatE q] : FlatE (rP2 r q) := ⟨fun s ⟨a, x, y, e, h, p1, p2⟩ => ⟨a, x, y, e, s _ _ h rfl, m.flat s p1, n.flat s p2⟩⟩
instance {α β γ : Type} {r : Enc α} {q : Enc β} {t : Enc γ} [m : MonoE r] [n : MonoE q] [k : MonoE t] : MonoE (rP3 r q t) := ⟨fun s ⟨a, x, y, z, e, h, p1, p2, p3⟩ => ⟨a, x, y, z, e, s _ _ h, m.mono s p1, n.mono s p2, k.mono s p3⟩⟩
instance {α β γ : Type} {r : Enc α} {q : Enc β} {t : Enc γ} [m : FlatE r] [n : FlatE q] [k : FlatE t] : FlatE (rP3 r q t) := ⟨fun s ⟨a, x, y, z, e, h, p1, p2, p3⟩ => ⟨a, x, y, z, e, s _ _ h rfl, m.flat s p1, n.flat s p2, k.flat s p3⟩⟩
instance : FlatE rInt := ⟨fun _ h => h⟩
instance : FlatE rBool := ⟨fun _ h => h⟩
instance {α : Type} {r : Enc α} [m : MonoE r] : MonoE (rL r) := ⟨fun s ⟨a, xs, e, q, p⟩ => ⟨a, xs, e, s.seq q, Paired.imp2 (fun _ _ z => m.mono s z) p⟩⟩
instance {α : Type} {r : Enc α} [m : MonoE r] : MonoE (rOpt r) := ⟨fun {K H H' v a} s h => by cases a with
  | none => exact h
  | some a => exact ⟨h.1, m.mono s h.2⟩⟩
instance {α : Type} {r : Enc α} [m : FlatE r] : FlatE (rOpt r) := ⟨fun {K H H' v a} s h => by cases a with
  | none => exact h
  | some a => exact ⟨h.1, m.flat s h.2⟩⟩

/-! things that are one's own: their cells -/
abbrev OE (α : Type) := PySem.W.Frag → Hp → V → α → List Cell → Prop
inductive P3 {α β γ : Type} (F : α → β → γ → Prop) : List α → List β → List γ → Prop where
  | nil : P3 F [] [] []
  | cons {a b c l m n} : F a b c → P3 F l m n → P3 F (a :: l) (b :: m) (c :: n)
def oF {α : Type} (r : Enc α) : OE α := fun K h v a C => C = [] ∧ r K h v a
def oL {α : Type} (o : OE α) : OE (List α) := fun K h v as C => ∃ p xs Cs, v = .ref p ∧ P3 (o K h) xs as Cs ∧ C = (p, .lst xs) :: Cs.flatten
def oT2 {α β : Type} (o : OE α) (q : OE β) : OE (α × β) := fun K h v a C => ∃ p x y C1 C2, v = .ref p ∧ h p = some (.tup [x, y]) ∧ o K h x a.1 C1 ∧ q K h y a.2 C2 ∧ C = C1 ++ C2
def oOpt {α : Type} (o : OE α) : OE (Option α) := fun K h v a C => match a with
  | none => v = .non ∧ C = []
  | some a => v ≠ .non ∧ o K h v a C
section
variable {α β γ δ : Type}
theorem P3.imp {F G : α → β → γ → Prop} (h : ∀ a b c, F a b c → G a b c) : ∀ {l m n}, P3 F l m n → P3 G l m n := fun p => by
  induction p with
  | nil => exact .nil
  | cons r _ ih => exact .cons (h _ _ _ r) ih
theorem P3.app {F : α → β → γ → Prop} : ∀ {l m n l' m' n'}, P3 F l m n → P3 F l' m' n' → P3 F (l ++ l') (m ++ m') (n ++ n') := fun p h => by
  induction p with
  | nil => exact h
  | cons r _ ih => exact .cons r ih
theorem P3.snoc {F : α → β → γ → Prop} {l m n a b c} (h : P3 F l m n) (r : F a b c) : P3 F (l ++ [a]) (m ++ [b]) (n ++ [c]) := h.app (.cons r .nil)
theorem P3.len {F : α → β → γ → Prop} : ∀ {l m n}, P3 F l m n → l.length = m.length ∧ n.length = m.length
  | _, _, _, .nil => ⟨rfl, rfl⟩
  | _, _, _, .cons _ t => by simp [(P3.len t).1, (P3.len t).2]
theorem P3.pair {F : α → β → γ → Prop} {G : α → β → Prop} : ∀ {l m n}, P3 F l m n → (∀ a b c, c ∈ n → F a b c → G a b) → Paired G l m := fun p h => by
  induction p with
  | nil => exact .nil
  | cons r _ ih => exact .cons (h _ _ _ List.mem_cons_self r) (ih fun a b c hc => h a b c (List.mem_cons_of_mem _ hc))
theorem P3.get {F : α → β → γ → Prop} : ∀ {l m n} {i : Nat} {b : β}, P3 F l m n → m[i]? = some b → ∃ a c, l[i]? = some a ∧ n[i]? = some c ∧ F a b c
  | _, _, _, _, _, .nil, e => by simp at e
  | _, _, _, 0, _, .cons r _, e => by simp at e; subst e; exact ⟨_, _, rfl, rfl, r⟩
  | _, _, _, i + 1, b, .cons _ t, e => by
    obtain ⟨a, c, h1, h2, h3⟩ := P3.get (i := i) (b := b) t (by simpa using e)
    exact ⟨a, c, by simpa using h1, by simpa using h2, h3⟩
theorem P3.set {F : α → β → γ → Prop} {a : α} {b : β} {c : γ} (r : F a b c) : ∀ {l m n} (i : Nat), P3 F l m n → P3 F (l.set i a) (m.set i b) (n.set i c)
  | _, _, _, _, .nil => .nil
  | _, _, _, 0, .cons _ t => .cons r t
  | _, _, _, i + 1, .cons q t => .cons q (P3.set r i t)
theorem P3.flat {F : α → β → Prop} : ∀ {l : List α} {m : List β} {n : List (List Cell)}, P3 (fun a b c => c = [] ∧ F a b) l m n → Paired F l m ∧ n.flatten = [] := fun p => by
  induction p with
  | nil => exact ⟨.nil, rfl⟩
  | cons r _ ih => exact ⟨.cons r.2 ih.1, by rw [List.flatten_cons, r.1, ih.2]; rfl⟩
theorem P3.of {F : α → β → Prop} : ∀ {l : List α} {m : List β}, Paired F l m → P3 (fun a b (c : List Cell) => c = [] ∧ F a b) l m (List.replicate m.length [])
  | _, _, .nil => .nil
  | _, _, .cons r t => .cons ⟨rfl, r⟩ (P3.of t)
theorem flat_nils : ∀ n : Nat, (List.replicate n ([] : List Cell)).flatten = []
  | 0 => rfl
  | n + 1 => by simp [List.replicate_succ, flat_nils n]
end
class MonoO {α : Type} (o : OE α) : Prop where
  mono : ∀ {K : PySem.W.Frag} {H H' : Hp} {v : V} {a : α} {C : List Cell}, Same H H' → o K H v a C → o K H' v a C
class FlatO {α : Type} (o : OE α) : Prop where
  flat : ∀ {K : PySem.W.Frag} {H H' : Hp} {v : V} {a : α} {C : List Cell}, SameI H H' → o K H v a C → o K H' v a C
class FrzC {α : Type} (o : OE α) (r : outParam (Enc α)) : Prop where
  frz : ∀ {K : PySem.W.Frag} {H H' : Hp} {v : V} {a : α} {C : List Cell}, o K H v a C → Same H H' → (∀ c ∈ C, H' c.1 = some c.2) → r K H' v a
instance {α : Type} {r : Enc α} [m : MonoE r] : MonoO (oF r) := ⟨fun s h => ⟨h.1, m.mono s h.2⟩⟩
instance {α : Type} {r : Enc α} [m : FlatE r] : FlatO (oF r) := ⟨fun s h => ⟨h.1, m.flat s h.2⟩⟩
instance {α : Type} {r : Enc α} [m : MonoE r] : FrzC (oF r) r := ⟨fun h s _ => m.mono s h.2⟩
instance {α : Type} {o : OE α} [m : MonoO o] : MonoO (oL o) := ⟨fun s ⟨p, xs, Cs, e, q, c⟩ => ⟨p, xs, Cs, e, q.imp fun _ _ _ z => m.mono s z, c⟩⟩
instance {α : Type} {o : OE α} [m : FlatO o] : FlatO (oL o) := ⟨fun s ⟨p, xs, Cs, e, q, c⟩ => ⟨p, xs, Cs, e, q.imp fun _ _ _ z => m.flat s z, c⟩⟩
instance {α : Type} {o : OE α} {r : Enc α} [m : FrzC o r] : FrzC (oL o) (rV r) := ⟨fun ⟨p, xs, Cs, e, q, c⟩ s hc => by
  subst c
  exact ⟨p, xs, e, hc _ List.mem_cons_self, q.pair fun a b c hm z => m.frz z s fun x hx => hc x (List.mem_cons_of_mem _ (List.mem_flatten.mpr ⟨c, hm, hx⟩))⟩⟩
instance {α β : Type} {o : OE α} {q : OE β} [m : MonoO o] [n : MonoO q] : MonoO (oT2 o q) := ⟨fun s ⟨p, x, y, C1, C2, e, h, h1, h2, c⟩ => ⟨p, x, y, C1, C2, e, s _ _ h, m.mono s h1, n.mono s h2, c⟩⟩
instance {α β : Type} {o : OE α} {q : OE β} [m : FlatO o] [n : FlatO q] : FlatO (oT2 o q) := ⟨fun s ⟨p, x, y, C1, C2, e, h, h1, h2, c⟩ => ⟨p, x, y, C1, C2, e, s _ _ h rfl, m.flat s h1, n.flat s h2, c⟩⟩
instance {α β : Type} {o : OE α} {q : OE β} {r : Enc α} {t : Enc β} [m : FrzC o r] [n : FrzC q t] : FrzC (oT2 o q) (rP2 r t) := ⟨fun ⟨p, x, y, C1, C2, e, h, h1, h2, c⟩ s hc => by
  subst c
  exact ⟨p, x, y, e, s _ _ h, m.frz h1 s fun c hm => hc c (by simp [hm]), n.frz h2 s fun c hm => hc c (by simp [hm])⟩⟩
instance {α : Type} {o : OE α} [m : MonoO o] : MonoO (oOpt o) := ⟨fun {K H H' v a C} s h => by cases a with
  | none => exact h
  | some a => exact ⟨h.1, m.mono s h.2⟩⟩
instance {α : Type} {o : OE α} [m : FlatO o] : FlatO (oOpt o) := ⟨fun {K H H' v a C} s h => by cases a with
  | none => exact h
  | some a => exact ⟨h.1, m.flat s h.2⟩⟩
instance {α : Type} {o : OE α} {r : Enc α} [m : FrzC o r] : FrzC (oOpt o) (rOpt r) := ⟨fun {K H H' v a C} h s hc => by cases a with
  | none => exact h.1
  | some a => exact ⟨h.1, m.frz h.2 s hc⟩⟩

/-! what is known of the names, at the heap without one's own cells -/
structure SC where
  p : Hp → Prop
  mono : ∀ h h', Same h h' → p h → p h'
def SC.nil : SC := ⟨fun _ => True, fun _ _ _ _ => True.intro⟩
def SC.and (S T : SC) : SC := ⟨fun h => S.p h ∧ T.p h, fun _ _ s q => ⟨S.mono _ _ s q.1, T.mono _ _ s q.2⟩⟩
def SC.one {α : Type} (K : PySem.W.Frag) (r : Enc α) [m : MonoE r] (v : V) (a : α) : SC := ⟨fun h => r K h v a, fun _ _ s q => m.mono s q⟩
def SC.oneO {α : Type} (K : PySem.W.Frag) (o : OE α) [m : MonoO o] (v : V) (a : α) (C : List Cell) : SC := ⟨fun h => o K h v a C, fun _ _ s q => m.mono s q⟩
abbrev SC.add {α : Type} (S : SC) (K : PySem.W.Frag) (r : Enc α) [m : MonoE r] (v : V) (a : α) : SC := S.and (SC.one K r v a)
abbrev SC.addO {α : Type} (S : SC) (K : PySem.W.Frag) (o : OE α) [m : MonoO o] (v : V) (a : α) (C : List Cell) : SC := S.and (SC.oneO K o v a C)
theorem SC.l {S T : SC} {h : Hp} (q : (S.and T).p h) : S.p h := q.1
theorem SC.r {S T : SC} {h : Hp} (q : (S.and T).p h) : T.p h := q.2
theorem SC.i {S T : SC} {h : Hp} (q : S.p h) (p : T.p h) : (S.and T).p h := ⟨q, p⟩
theorem SC.t {h : Hp} : SC.nil.p h := True.intro

/-! an end: what is wanted behind -/
def PZ {β : Type} (Er : Exc → Hp → Prop) (F : β → Hp → Prop) (H : Hp) (m : Res β) : Prop :=
  match m with
  | .bad => False
  | .err x => ∀ H', Same H H' → Er x H'
  | .ok b => F b H
section
variable (K : PySem.W.Frag) (Er : Exc → Hp → Prop) (S : SC) (OO OO' : List (List Cell)) (σ : St)
def FB {α : Type} (r : Enc α) (Q : VK) (a : α) (H : Hp) : Prop := ∀ v H', Same H H' → r K H' v a → Q v H'
def FO {α : Type} (o : OE α) (Q : VK) (a : α) (H : Hp) : Prop := ∀ v C H', Same H H' → W (C :: OO') H' → Same (hid H OO) (hid H' (C :: OO')) → o K (hid H' (C :: OO')) v a C → Q v H'
def FT (Q : Bool → Hp → Prop) (b : Bool) (H : Hp) : Prop := ∀ H', Same H H' → Q b H'
def EvB {α : Type} (te : TE) (r : Enc α) (m : Res α) : Prop := ∀ H Q, W OO H → S.p (hid H OO) → PZ Er (FB K r Q) H m → te σ H Q
def Ev {α : Type} (te : TE) (o : OE α) (m : Res α) : Prop := ∀ H Q, W OO H → S.p (hid H OO) → PZ Er (FO K OO OO' o Q) H m → te σ H Q
def EvT (tt : TT) (m : Res Bool) : Prop := ∀ H Q, W OO H → S.p (hid H OO) → PZ Er (FT Q) H m → tt σ H Q
end
section
variable {K : PySem.W.Frag} {Er : Exc → Hp → Prop} {S : SC} {OO OO' OO2 : List (List Cell)} {σ : St} {α β γ : Type}
theorem FB.tr {r : Enc α} {Q : VK} : ∀ a H H', Same H H' → FB K r Q a H → FB K r Q a H' := fun a H H' s h v H2 s2 q => h v H2 (s.trans s2) q
theorem FO.tr {o : OE α} {Q : VK} : ∀ a H H', Same H H' → FO K OO OO' o Q a H → FO K OO OO' o Q a H' := fun a H H' s h v C H2 s2 w m q => h v C H2 (s.trans s2) w ((hid_mono s).trans m) q
theorem FT.tr {Q : Bool → Hp → Prop} : ∀ b H H', Same H H' → FT Q b H → FT Q b H' := fun a H H' s h H2 s2 => h H2 (s.trans s2)
/-- one part read, then the rest -/
theorem EvB.run {te : TE} {r : Enc α} {m : Res α} (he : EvB K Er S OO σ te r m) {H : Hp} {Q : VK} (w : W OO H) (s : S.p (hid H OO)) {f : α → Res β} {F : β → Hp → Prop} (hF : ∀ b H H', Same H H' → F b H → F b H') (P : PZ Er F H (m.bind f))
    (hk : ∀ a v H', Same H H' → W OO H' → S.p (hid H' OO) → r K H' v a → PZ Er F H' (f a) → Q v H') : te σ H Q := by
  refine he H Q w s ?_
  cases m with
  | bad => exact P
  | err x => exact P
  | ok a =>
    intro v H' s' hr
    refine hk a v H' s' (w.keep s') (S.mono _ _ (hid_mono s') s) hr ?_
    have P' : PZ Er F H (f a) := P
    revert P'
    cases f a with
    | bad => exact fun z => z
    | err x => exact fun z H2 s2 => z H2 (s'.trans s2)
    | ok b => exact fun z => hF b H H' s' z
theorem Ev.run {te : TE} {o : OE α} {m : Res α} (he : Ev K Er S OO OO' σ te o m) {H : Hp} {Q : VK} (w : W OO H) (s : S.p (hid H OO)) {f : α → Res β} {F : β → Hp → Prop} (hF : ∀ b H H', Same H H' → F b H → F b H') (P : PZ Er F H (m.bind f))
    (hk : ∀ a v C H', Same H H' → W (C :: OO') H' → Same (hid H OO) (hid H' (C :: OO')) → S.p (hid H' (C :: OO')) → o K (hid H' (C :: OO')) v a C → PZ Er F H' (f a) → Q v H') : te σ H Q := by
  refine he H Q w s ?_
  cases m with
  | bad => exact P
  | err x => exact P
  | ok a =>
    intro v C H' s' w' m' ho
    refine hk a v C H' s' w' m' (S.mono _ _ m' s) ho ?_
    have P' : PZ Er F H (f a) := P
    revert P'
    cases f a with
    | bad => exact fun z => z
    | err x => exact fun z H2 s2 => z H2 (s'.trans s2)
    | ok b => exact fun z => hF b H H' s' z
theorem EvT.run {tt : TT} {m : Res Bool} (he : EvT Er S OO σ tt m) {H : Hp} {Q : Bool → Hp → Prop} (w : W OO H) (s : S.p (hid H OO)) {f : Bool → Res β} {F : β → Hp → Prop} (hF : ∀ b H H', Same H H' → F b H → F b H') (P : PZ Er F H (m.bind f))
    (hk : ∀ b H', Same H H' → W OO H' → S.p (hid H' OO) → PZ Er F H' (f b) → Q b H') : tt σ H Q := by
  refine he H Q w s ?_
  cases m with
  | bad => exact P
  | err x => exact P
  | ok a =>
    intro H' s'
    refine hk a H' s' (w.keep s') (S.mono _ _ (hid_mono s') s) ?_
    have P' : PZ Er F H (f a) := P
    revert P'
    cases f a with
    | bad => exact fun z => z
    | err x => exact fun z H2 s2 => z H2 (s'.trans s2)
    | ok b => exact fun z => hF b H H' s' z

/-! one way of reading made of another -/
theorem Ev.toB {te : TE} {o : OE α} {r : Enc α} [z : FrzC o r] {m : Res α} (he : Ev K Er S OO OO σ te o m) : EvB K Er S OO σ te r m := fun H Q w s P => by
  refine he H Q w s ?_
  cases m with
  | bad => exact P
  | err x => exact P
  | ok a => exact fun v C H' s' w' m' ho => P v H' s' (z.frz ho hid_same w'.cell)
theorem Ev.frz {te : TE} {o : OE α} {r : Enc α} [z : FrzC o r] {m : Res α} (he : Ev K Er S OO OO' σ te o m) : Ev K Er S OO OO' σ te (oF r) m := fun H Q w s P => by
  refine he H Q w s ?_
  cases m with
  | bad => exact P
  | err x => exact P
  | ok a =>
    intro v C H' s' w' m' ho
    have hs : Same (hid H' (C :: OO')) (hid H' ([] :: OO')) := hid_sub (Same.refl _) fun b hb => by rw [fl_nil] at hb; rw [fl_cons]; simp [hb]
    refine P v [] H' s' w'.tail.nil (m'.trans hs) ⟨rfl, z.frz ho hs fun c hc => hid_of (w'.cell c hc) ?_⟩
    rw [fl_nil]
    have := w'.nd
    rw [fl_cons] at this
    intro hb
    exact (List.nodup_append.mp this).2.2 c.1 (List.mem_map.mpr ⟨c, hc, rfl⟩) c.1 hb rfl
theorem EvB.flat {te : TE} {r : Enc α} [z : FlatE r] {m : Res α} (he : EvB K Er S OO σ te r m) : Ev K Er S OO OO σ te (oF r) m := fun H Q w s P => by
  refine he H Q w s ?_
  cases m with
  | bad => exact P
  | err x => exact P
  | ok a =>
    intro v H' s' hr
    have w' := w.keep s'
    exact P v [] H' s' w'.nil (by rw [hid_nil]; exact hid_mono s') ⟨rfl, by rw [hid_nil]; exact z.flat w'.i hr⟩
theorem evb_var {r : Enc α} [z : MonoE r] {v : V} {a : α} (i : Nat) (hσ : σ[i]? = some (some v)) (h : ∀ x, S.p x → r K x v a) : EvB K Er S OO σ (tVar i) r (.ok a) := fun H Q w s P =>
  ⟨v, hσ, P v H (Same.refl _) (z.mono hid_same (h _ s))⟩
theorem evb_own {o : OE α} {r : Enc α} [z : FrzC o r] {v : V} {a : α} {C : List Cell} (i k : Nat) (hσ : σ[i]? = some (some v)) (hk : OO[k]? = some C) (h : ∀ x, S.p x → o K x v a C) : EvB K Er S OO σ (tVar i) r (.ok a) := fun H Q w s P =>
  ⟨v, hσ, P v H (Same.refl _) (z.frz (h _ s) hid_same fun c hc => w.tr c (List.mem_flatten.mpr ⟨C, List.mem_of_getElem? hk, hc⟩))⟩
theorem set_flat : ∀ {OO : List (List Cell)} {k : Nat} {C : List Cell}, OO[k]? = some C → (C :: OO.set k []).flatten.Perm OO.flatten
  | [], _, _, h => by simp at h
  | D :: OO, 0, C, h => by simp at h; subst h; simp
  | D :: OO, k + 1, C, h => by
    have := set_flat (OO := OO) (k := k) (C := C) (by simpa using h)
    simp only [List.set_cons_succ, List.flatten_cons] at this ⊢
    refine List.Perm.trans ?_ (this.append_left D)
    rw [← List.append_assoc, ← List.append_assoc]
    exact List.perm_append_comm.append_right _
theorem fl_perm {OO OO' : List (List Cell)} (h : OO'.flatten.Perm OO.flatten) (b : Addr) : b ∈ fl OO' ↔ b ∈ fl OO := (h.map (·.1)).mem_iff
theorem hid_perm {H : Hp} {OO OO' : List (List Cell)} (h : OO'.flatten.Perm OO.flatten) : hid H OO' = hid H OO := by
  funext b; unfold hid
  by_cases hb : b ∈ fl OO
  · rw [if_pos hb, if_pos ((fl_perm h b).mpr hb)]
  · rw [if_neg hb, if_neg fun z => hb ((fl_perm h b).mp z)]
/-- a name whose cells are ours, given away -/
theorem ev_move {o : OE α} {v : V} {a : α} {C : List Cell} (i k : Nat) (hσ : σ[i]? = some (some v)) (hk : OO[k]? = some C) (h : ∀ x, S.p x → o K x v a C) : Ev K Er S OO (OO.set k []) σ (tVar i) o (.ok a) := fun H Q w s P => by
  have hp := set_flat hk
  exact ⟨v, hσ, P v C H (Same.refl _) (w.of hp) (by rw [hid_perm hp]; exact Same.refl _) (by rw [hid_perm hp]; exact h _ s)⟩

/-! numbers, truths, texts -/
theorem evb_int (n : Int) : EvB K Er S OO σ (tC (.int n)) rInt (.ok n) := fun H Q w s P => P _ H (Same.refl _) rfl
theorem evb_bl (b : Bool) : EvB K Er S OO σ (tC (.bl b)) rBool (.ok b) := fun H Q w s P => P _ H (Same.refl _) rfl
theorem evb_op0 {ta tb : TE} {g : Int → Int → V} {r : Enc β} {f : Int → Int → β} {ma mb : Res Int} (hg : ∀ K H i j, r K H (g i j) (f i j)) (ha : EvB K Er S OO σ ta rInt ma) (hb : EvB K Er S OO σ tb rInt mb) :
    EvB K Er S OO σ (tOp (rI0 g) ta tb) r (ma.bind fun a => mb.bind fun b => .ok (f a b)) := fun H Q w s P =>
  ha.run w s FB.tr P fun a x H1 s1 w1 q1 r1 P1 => hb.run w1 q1 FB.tr P1 fun b y H2 s2 w2 q2 r2 P2 => ⟨a, b, r1, r2, P2 _ H2 (Same.refl _) (hg K H2 a b)⟩
theorem evb_opC {ta tb : TE} {Cc : Int → Int → Prop} {g : Int → Int → V} {r : Enc β} {f : Int → Int → Res β} {ma mb : Res Int} (hg : ∀ K H i j c, f i j = .ok c → Cc i j ∧ r K H (g i j) c) (he : ∀ i j x, f i j ≠ .err x)
    (ha : EvB K Er S OO σ ta rInt ma) (hb : EvB K Er S OO σ tb rInt mb) :
    EvB K Er S OO σ (tOp (rI Cc g) ta tb) r (ma.bind fun a => mb.bind fun b => f a b) := fun H Q w s P =>
  ha.run w s FB.tr P fun a x H1 s1 w1 q1 r1 P1 => hb.run w1 q1 FB.tr P1 fun b y H2 s2 w2 q2 r2 P2 => by
    cases e : f a b with
    | bad => rw [e] at P2; exact P2.elim
    | err x => exact absurd e (he a b x)
    | ok c =>
      rw [e] at P2
      obtain ⟨h1, h2⟩ := hg K H2 a b c e
      exact ⟨a, b, r1, r2, h1, P2 _ H2 (Same.refl _) h2⟩
def mulR (a b : Int) : Res Int := chk ((-(2 ^ 64) < a ∧ a < 2 ^ 64) ∨ (-(2 ^ 64) < b ∧ b < 2 ^ 64)) (.ok (a * b))
def modR (a b : Int) : Res Int := chk (0 < b) (.ok (a % b))
def divR (a b : Int) : Res Int := chk (0 < b ∧ b.natAbs.log2 < 9000) (.ok (a / b))
def powR (a b : Int) : Res Int := chk (0 ≤ b ∧ b ≤ 1000000 ∧ a.natAbs < 2 ^ 64) (.ok (a ^ b.toNat))
theorem chk_inv {c : Prop} [Decidable c] {m : Res α} {a : α} (h : chk c m = .ok a) : c ∧ m = .ok a := by
  unfold chk at h; split at h
  · exact ⟨by assumption, h⟩
  · cases h
theorem chk_ne {c : Prop} [Decidable c] {a : α} {x : Exc} : chk c (Res.ok a) ≠ .err x := by
  unfold chk; split <;> exact fun z => nomatch z
theorem evb_mul {ta tb : TE} {ma mb : Res Int} (ha : EvB K Er S OO σ ta rInt ma) (hb : EvB K Er S OO σ tb rInt mb) : EvB K Er S OO σ (tOp (rI CMul fun i j => .int (i * j)) ta tb) rInt (ma.bind fun a => mb.bind fun b => mulR a b) :=
  evb_opC (fun K H i j c h => by obtain ⟨h1, h2⟩ := chk_inv h; cases h2; exact ⟨h1, rfl⟩) (fun i j x => chk_ne) ha hb
theorem evb_mod {ta tb : TE} {ma mb : Res Int} (ha : EvB K Er S OO σ ta rInt ma) (hb : EvB K Er S OO σ tb rInt mb) : EvB K Er S OO σ (tOp (rI (fun _ j => 0 < j) fun i j => .int (i % j)) ta tb) rInt (ma.bind fun a => mb.bind fun b => modR a b) :=
  evb_opC (fun K H i j c h => by obtain ⟨h1, h2⟩ := chk_inv h; cases h2; exact ⟨h1, rfl⟩) (fun i j x => chk_ne) ha hb
theorem evb_div {ta tb : TE} {ma mb : Res Int} (ha : EvB K Er S OO σ ta rInt ma) (hb : EvB K Er S OO σ tb rInt mb) : EvB K Er S OO σ (tOp (rI (fun _ j => 0 < j ∧ j.natAbs.log2 < 9000) fun i j => .int (i / j)) ta tb) rInt (ma.bind fun a => mb.bind fun b => divR a b) :=
  evb_opC (fun K H i j c h => by obtain ⟨h1, h2⟩ := chk_inv h; cases h2; exact ⟨h1, rfl⟩) (fun i j x => chk_ne) ha hb
theorem evb_pow {ta tb : TE} {ma mb : Res Int} (ha : EvB K Er S OO σ ta rInt ma) (hb : EvB K Er S OO σ tb rInt mb) : EvB K Er S OO σ (tOp (rI CPow fun i j => .int (i ^ j.toNat)) ta tb) rInt (ma.bind fun a => mb.bind fun b => powR a b) :=
  evb_opC (fun K H i j c h => by obtain ⟨h1, h2⟩ := chk_inv h; cases h2; exact ⟨h1, rfl⟩) (fun i j x => chk_ne) ha hb
theorem evb_add {ta tb : TE} {ma mb : Res Int} (ha : EvB K Er S OO σ ta rInt ma) (hb : EvB K Er S OO σ tb rInt mb) : EvB K Er S OO σ (tOp (rI0 fun i j => .int (i + j)) ta tb) rInt (ma.bind fun a => mb.bind fun b => .ok (a + b)) := evb_op0 (fun _ _ _ _ => rfl) ha hb
theorem evb_sub {ta tb : TE} {ma mb : Res Int} (ha : EvB K Er S OO σ ta rInt ma) (hb : EvB K Er S OO σ tb rInt mb) : EvB K Er S OO σ (tOp (rI0 fun i j => .int (i - j)) ta tb) rInt (ma.bind fun a => mb.bind fun b => .ok (a - b)) := evb_op0 (fun _ _ _ _ => rfl) ha hb
theorem evb_lt {ta tb : TE} {ma mb : Res Int} (ha : EvB K Er S OO σ ta rInt ma) (hb : EvB K Er S OO σ tb rInt mb) : EvB K Er S OO σ (tOp (rI0 fun i j => .bl (decide (i < j))) ta tb) rBool (ma.bind fun a => mb.bind fun b => .ok (decide (a < b))) := evb_op0 (fun _ _ _ _ => rfl) ha hb
theorem evb_gt {ta tb : TE} {ma mb : Res Int} (ha : EvB K Er S OO σ ta rInt ma) (hb : EvB K Er S OO σ tb rInt mb) : EvB K Er S OO σ (tOp (rI0 fun i j => .bl (decide (j < i))) ta tb) rBool (ma.bind fun a => mb.bind fun b => .ok (decide (b < a))) := evb_op0 (fun _ _ _ _ => rfl) ha hb
theorem evb_neg {ta : TE} {ma : Res Int} (ha : EvB K Er S OO σ ta rInt ma) : EvB K Er S OO σ (tUn (rU fun i => .int (-i)) ta) rInt (ma.bind fun a => .ok (-a)) := fun H Q w s P =>
  ha.run w s FB.tr P fun a x H1 s1 w1 q1 r1 P1 => ⟨a, r1, P1 _ H1 (Same.refl _) rfl⟩
/-- == and != of things without a heap -/
class Scal {α : Type} [DecidableEq α] (r : Enc α) : Prop where
  to : ∀ {K : PySem.W.Frag} {H H' : Hp} {x y : V} {a b : α}, r K H x a → r K H' y b → scal x y = true ∧ decide (x = y) = decide (a = b)
instance : Scal rInt := ⟨fun {K H H' x y a b} h1 h2 => by cases (show x = .int a from h1); cases (show y = .int b from h2); exact ⟨rfl, by simp⟩⟩
instance : Scal rBool := ⟨fun {K H H' x y a b} h1 h2 => by cases (show x = .bl a from h1); cases (show y = .bl b from h2); exact ⟨rfl, by simp⟩⟩
theorem evb_eq [DecidableEq α] {r : Enc α} [z : Scal r] [MonoE r] {ta tb : TE} {ma mb : Res α} (ha : EvB K Er S OO σ ta r ma) (hb : EvB K Er S OO σ tb r mb) : EvB K Er S OO σ (tOp rEq ta tb) rBool (ma.bind fun a => mb.bind fun b => .ok (decide (a = b))) := fun H Q w s P =>
  ha.run w s FB.tr P fun a x H1 s1 w1 q1 r1 P1 => hb.run w1 q1 FB.tr P1 fun b y H2 s2 w2 q2 r2 P2 => by
    obtain ⟨h1, h2⟩ := z.to r1 r2
    exact ⟨h1, P2 _ H2 (Same.refl _) (by rw [h2]; rfl)⟩
theorem evb_ne [DecidableEq α] {r : Enc α} [z : Scal r] [MonoE r] {ta tb : TE} {ma mb : Res α} (ha : EvB K Er S OO σ ta r ma) (hb : EvB K Er S OO σ tb r mb) : EvB K Er S OO σ (tOp rNe ta tb) rBool (ma.bind fun a => mb.bind fun b => .ok (!decide (a = b))) := fun H Q w s P =>
  ha.run w s FB.tr P fun a x H1 s1 w1 q1 r1 P1 => hb.run w1 q1 FB.tr P1 fun b y H2 s2 w2 q2 r2 P2 => by
    obtain ⟨h1, h2⟩ := z.to r1 r2
    exact ⟨h1, P2 _ H2 (Same.refl _) (by rw [h2]; rfl)⟩
theorem evb_eqE [DecidableEq α] {r : Enc α} [z : MonoE r] {ta tb : TE} {ma mb : Res α} (ha : EvB K Er S OO σ ta r ma) (hb : EvB K Er S OO σ tb r mb) : EvB K Er S OO σ (tOp (rEqE K r) ta tb) rBool (ma.bind fun a => mb.bind fun b => .ok (decide (a = b))) := fun H Q w s P =>
  ha.run w s FB.tr P fun a x H1 s1 w1 q1 r1 P1 => hb.run w1 q1 FB.tr P1 fun b y H2 s2 w2 q2 r2 P2 => ⟨a, b, z.mono s2 r1, r2, P2 _ H2 (Same.refl _) rfl⟩
theorem evb_neE [DecidableEq α] {r : Enc α} [z : MonoE r] {ta tb : TE} {ma mb : Res α} (ha : EvB K Er S OO σ ta r ma) (hb : EvB K Er S OO σ tb r mb) : EvB K Er S OO σ (tOp (rNeE K r) ta tb) rBool (ma.bind fun a => mb.bind fun b => .ok (!decide (a = b))) := fun H Q w s P =>
  ha.run w s FB.tr P fun a x H1 s1 w1 q1 r1 P1 => hb.run w1 q1 FB.tr P1 fun b y H2 s2 w2 q2 r2 P2 => ⟨a, b, z.mono s2 r1, r2, P2 _ H2 (Same.refl _) rfl⟩
/-- truths -/
theorem evt_B {te : TE} {m : Res Bool} (h : EvB K Er S OO σ te rBool m) : EvT Er S OO σ (tB te) m := fun H Q w s P => h H _ w s (by
  cases m with
  | bad => exact P
  | err x => exact P
  | ok a => exact fun v H' s' r => ⟨a, r, P H' s'⟩)
theorem evt_test {te : TE} {m : Res Bool} (h : EvB K Er S OO σ te rBool m) : EvT Er S OO σ (tTest te) m := evt_B h
theorem evt_not {t : TT} {m : Res Bool} (h : EvT Er S OO σ t m) : EvT Er S OO σ (tNot t) (m.bind fun b => .ok (!b)) := fun H Q w s P => h.run w s FT.tr P fun b H1 s1 w1 q1 P1 => P1 H1 (Same.refl _)
def andR (a b : Res Bool) : Res Bool := a.bind fun x => if x = true then b else .ok false
def orR (a b : Res Bool) : Res Bool := a.bind fun x => if x = true then .ok true else b
theorem evt_and {t u : TT} {m n : Res Bool} (h : EvT Er S OO σ t m) (k : EvT Er S OO σ u n) : EvT Er S OO σ (tAnd t u) (andR m n) := fun H Q w s P => h.run w s FT.tr P fun b H1 s1 w1 q1 P1 => by
  cases b with
  | true => rw [if_pos rfl] at P1 ⊢; exact k H1 Q w1 q1 P1
  | false => exact P1 H1 (Same.refl _)
theorem evt_or {t u : TT} {m n : Res Bool} (h : EvT Er S OO σ t m) (k : EvT Er S OO σ u n) : EvT Er S OO σ (tOr t u) (orR m n) := fun H Q w s P => h.run w s FT.tr P fun b H1 s1 w1 q1 P1 => by
  cases b with
  | true => exact P1 H1 (Same.refl _)
  | false => exact k H1 Q w1 q1 P1
end
end L2

/-! ### mirrors: lists, tuples, calls -/
namespace L2
open PySem PySem.Spec PyProof.Rows
section
variable (K : PySem.W.Frag) (Er : Exc → Hp → Prop) (S : SC) (OO : List (List Cell)) (σ : St)
def FS {α : Type} (r : Enc α) (Q : VK) (a : α) (H : Hp) : Prop := ∀ v H', Same H H' → r K (hid H' OO) v a → Q v H'
/-- shared -/
def EvS {α : Type} (te : TE) (r : Enc α) (m : Res α) : Prop := ∀ H Q, W OO H → S.p (hid H OO) → PZ Er (FS K OO r Q) H m → te σ H Q
/-- a list that is read; its items are shared -/
def rE {α : Type} (r : Enc α) (H : Hp) (v : V) (as : List α) : Prop := ∃ p xs, v = .ref p ∧ H p = some (.lst xs) ∧ Paired (r K (hid H OO)) xs as
def FL {α : Type} (r : Enc α) (Q : VK) (as : List α) (H : Hp) : Prop := ∀ v H', Same H H' → rE K OO r H' v as → Q v H'
def EvL {α : Type} (te : TE) (r : Enc α) (m : Res (List α)) : Prop := ∀ H Q, W OO H → S.p (hid H OO) → PZ Er (FL K OO r Q) H m → te σ H Q
end
section
variable {K : PySem.W.Frag} {Er : Exc → Hp → Prop} {S : SC} {OO OO' OO2 : List (List Cell)} {σ : St} {α β γ : Type}
theorem FS.tr {r : Enc α} {Q : VK} : ∀ a H H', Same H H' → FS K OO r Q a H → FS K OO r Q a H' := fun a H H' s h v H2 s2 q => h v H2 (s.trans s2) q
theorem FL.tr {r : Enc α} {Q : VK} : ∀ a H H', Same H H' → FL K OO r Q a H → FL K OO r Q a H' := fun a H H' s h v H2 s2 q => h v H2 (s.trans s2) q
theorem PZ.run {F : β → Hp → Prop} {f : α → Res β} {H H' : Hp} {a : α} {m : Res α} (hm : m = .ok a) (hF : ∀ b H H', Same H H' → F b H → F b H') (s : Same H H') (P : PZ Er F H (m.bind f)) : PZ Er F H' (f a) := by
  subst hm
  have P' : PZ Er F H (f a) := P
  revert P'
  cases f a with
  | bad => exact fun z => z
  | err x => exact fun z H2 s2 => z H2 (s.trans s2)
  | ok b => exact fun z => hF b H H' s z
theorem EvS.run {te : TE} {r : Enc α} {m : Res α} (he : EvS K Er S OO σ te r m) {H : Hp} {Q : VK} (w : W OO H) (s : S.p (hid H OO)) {f : α → Res β} {F : β → Hp → Prop} (hF : ∀ b H H', Same H H' → F b H → F b H') (P : PZ Er F H (m.bind f))
    (hk : ∀ a v H', Same H H' → W OO H' → S.p (hid H' OO) → r K (hid H' OO) v a → PZ Er F H' (f a) → Q v H') : te σ H Q := by
  refine he H Q w s ?_
  cases e : m with
  | bad => rw [e] at P; exact P
  | err x => rw [e] at P; exact P
  | ok a => exact fun v H' s' hr => hk a v H' s' (w.keep s') (S.mono _ _ (hid_mono s') s) hr (PZ.run e hF s' P)
theorem EvL.run {te : TE} {r : Enc α} {m : Res (List α)} (he : EvL K Er S OO σ te r m) {H : Hp} {Q : VK} (w : W OO H) (s : S.p (hid H OO)) {f : List α → Res β} {F : β → Hp → Prop} (hF : ∀ b H H', Same H H' → F b H → F b H') (P : PZ Er F H (m.bind f))
    (hk : ∀ a v H', Same H H' → W OO H' → S.p (hid H' OO) → rE K OO r H' v a → PZ Er F H' (f a) → Q v H') : te σ H Q := by
  refine he H Q w s ?_
  cases e : m with
  | bad => rw [e] at P; exact P
  | err x => rw [e] at P; exact P
  | ok a => exact fun v H' s' hr => hk a v H' s' (w.keep s') (S.mono _ _ (hid_mono s') s) hr (PZ.run e hF s' P)
theorem PZ.imp {F G : β → Hp → Prop} {H : Hp} {m : Res β} (P : PZ Er F H m) (h : ∀ b, m = .ok b → F b H → G b H) : PZ Er G H m := by
  cases m with
  | bad => exact P
  | err x => exact P
  | ok b => exact h b rfl P
/-! from one to another -/
theorem EvS.toB {te : TE} {r : Enc α} [z : MonoE r] {m : Res α} (he : EvS K Er S OO σ te r m) : EvB K Er S OO σ te r m := fun H Q w s P => he H Q w s (P.imp fun b _ h v H' s' q => h v H' s' (z.mono hid_same q))
theorem EvS.ev {te : TE} {r : Enc α} {m : Res α} (he : EvS K Er S OO σ te r m) : Ev K Er S OO OO σ te (oF r) m := fun H Q w s P => he H Q w s (P.imp fun b _ h v H' s' q =>
  h v [] H' s' (w.keep s').nil (by rw [hid_nil]; exact hid_mono s') ⟨rfl, by rw [hid_nil]; exact q⟩)
theorem EvB.sh {te : TE} {r : Enc α} [z : FlatE r] {m : Res α} (he : EvB K Er S OO σ te r m) : EvS K Er S OO σ te r m := fun H Q w s P => he H Q w s (P.imp fun b _ h v H' s' q => h v H' s' (z.flat (w.keep s').i q))
theorem Ev.sh {te : TE} {o : OE α} {r : Enc α} [z : FrzC o r] {m : Res α} (he : Ev K Er S OO OO σ te o m) : EvS K Er S OO σ te r m := fun H Q w s P => he.frz H Q w s (P.imp fun b _ h v C H' s' w' m' q => by
  obtain ⟨rfl, q⟩ := q
  rw [hid_nil] at q
  exact h v H' s' q)
theorem evs_var {r : Enc α} {v : V} {a : α} (i : Nat) (hσ : σ[i]? = some (some v)) (h : ∀ x, S.p x → r K x v a) : EvS K Er S OO σ (tVar i) r (.ok a) := fun H Q w s P => ⟨v, hσ, P v H (Same.refl _) (h _ s)⟩
theorem EvS.ls {te : TE} {r : Enc α} {m : Res (List α)} (he : EvS K Er S OO σ te (rV r) m) : EvL K Er S OO σ te r m := fun H Q w s P => he H Q w s (P.imp fun b _ h v H' s' ⟨p, xs, e, q, pr⟩ => h v H' s' ⟨p, xs, e, hid_same _ _ q, pr⟩)
theorem EvB.ls {te : TE} {r : Enc α} [z : FlatE r] {m : Res (List α)} (he : EvB K Er S OO σ te (rV r) m) : EvL K Er S OO σ te r m := fun H Q w s P => he H Q w s (P.imp fun b _ h v H' s' ⟨p, xs, e, q, pr⟩ => h v H' s' ⟨p, xs, e, q, Paired.imp2 (fun _ _ z' => z.flat (w.keep s').i z') pr⟩)
theorem Ev.ls {te : TE} {r : Enc α} [z : MonoE r] {m : Res (List α)} (he : Ev K Er S OO OO σ te (oL (oF r)) m) : EvL K Er S OO σ te r m := he.sh.ls
/-! items -/
def atR (as : List α) (i : Int) : Res α := match atI as i with
  | some a => .ok a
  | none => .bad
theorem atR_ok {as : List α} {i : Int} {a : α} (h : atR as i = .ok a) : atI as i = some a := by
  unfold atR at h; split at h
  · cases h; assumption
  · cases h
theorem atR_ne {as : List α} {i : Int} {x : Exc} : atR as i ≠ .err x := by unfold atR; split <;> exact fun z => nomatch z
theorem paired_atI {F : V → α → Prop} {xs : List V} {as : List α} {i : Int} {a : α} (p : Paired F xs as) (h : atI as i = some a) : ∃ x, atI xs i = some x ∧ F x a := by
  unfold atI at h ⊢
  rw [Paired.len p]
  cases e : ixN as.length i with
  | none => rw [e] at h; cases h
  | some j =>
    rw [e] at h
    obtain ⟨x, h1, h2⟩ := Paired.getR p h
    exact ⟨x, h1, h2⟩
/-- a step that cannot refuse -/
theorem PZ.okOf {F : β → Hp → Prop} {H : Hp} {m : Res β} (he : ∀ x, m ≠ .err x) (P : PZ Er F H m) : ∃ b, m = .ok b ∧ F b H := by
  cases m with
  | bad => exact P.elim
  | err x => exact absurd rfl (he x)
  | ok b => exact ⟨b, rfl, P⟩
theorem evb_ix {ta tb : TE} {r : Enc α} [z : MonoE r] {ma : Res (List α)} {mb : Res Int} (ha : EvB K Er S OO σ ta (rV r) ma) (hb : EvB K Er S OO σ tb rInt mb) : EvB K Er S OO σ (tOp (rIxL K) ta tb) r (ma.bind fun as => mb.bind fun i => atR as i) := fun H Q w s P =>
  ha.run w s FB.tr P fun a x H1 s1 w1 q1 ⟨p, xs, e, q, pr⟩ P1 => hb.run w1 q1 FB.tr P1 fun b y H2 s2 w2 q2 r2 P2 => by
    obtain ⟨c, hc, P3⟩ := P2.okOf fun x => atR_ne
    obtain ⟨u, h1, h2⟩ := paired_atI pr (atR_ok hc)
    exact ⟨p, xs, b, u, e, r2, SqL.of (s2 _ _ q), h1, P3 u H2 (Same.refl _) (z.mono s2 h2)⟩
/-! len -/
theorem evb_len {ta : TE} {r : Enc α} {m : Res (List α)} (ha : EvB K Er S OO σ ta (rV r) m) : EvB K Er S OO σ (tCB (rLenOf K) (tCons ta tNil)) rInt (m.bind fun as => .ok (as.length : Int)) := fun H Q w s P =>
  ha.run w s FB.tr P fun a x H1 s1 w1 q1 ⟨p, xs, e, q, pr⟩ P1 => ⟨p, xs, by rw [e], .inl (SqL.of q), P1 _ H1 (Same.refl _) (by rw [Paired.len pr]; rfl)⟩
/-! a new list: of shared items -/
theorem newL {r : Enc α} [z : MonoE r] {xs : List V} {as : List α} {H : Hp} {Q : VK} (w : W OO H) (pr : Paired (r K (hid H OO)) xs as) (P : FO K OO OO (oL (oF r)) Q as H) : ∀ p, H p = none → Q (.ref p) (upd H p (.lst xs)) := fun p hp => by
  have hn := hid_new (OO := OO) hp (o := .lst xs)
  refine P (.ref p) [(p, .lst xs)] _ (same_new hp _) (w.new hp rfl) hn ?_
  refine ⟨p, xs, List.replicate as.length [], rfl, (P3.of (Paired.imp2 (fun _ _ h => z.mono hn h) pr)).imp fun _ _ _ h => h, by rw [flat_nils]⟩
theorem Paired.take' {F : α → β → Prop} : ∀ {l : List α} {m : List β} (n : Nat), Paired F l m → Paired F (l.take n) (m.take n)
  | _, _, 0, _ => .nil
  | _, _, _ + 1, .nil => .nil
  | _, _, n + 1, .cons r t => .cons r (Paired.take' n t)
theorem Paired.drop' {F : α → β → Prop} : ∀ {l : List α} {m : List β} (n : Nat), Paired F l m → Paired F (l.drop n) (m.drop n)
  | _, _, 0, h => h
  | _, _, _ + 1, .nil => .nil
  | _, _, n + 1, .cons _ t => Paired.drop' n t
theorem Paired.rep' {F : α → β → Prop} {l : List α} {m : List β} (h : Paired F l m) : ∀ n : Nat, Paired F (List.replicate n l).flatten (List.replicate n m).flatten
  | 0 => .nil
  | n + 1 => by simp only [List.replicate_succ, List.flatten_cons]; exact Paired.app h (Paired.rep' h n)
def cutL (as : List α) (lo hi : Option Int) : List α := (as.drop (HT.sIx as.length 0 lo)).take (HT.sIx as.length as.length hi - HT.sIx as.length 0 lo)
theorem cut_paired {F : V → α → Prop} {xs : List V} {as : List α} (p : Paired F xs as) (lo hi : Option Int) : Paired F (cutV xs lo hi) (cutL as lo hi) := by
  unfold cutV cutL; rw [Paired.len p]; exact Paired.take' _ (Paired.drop' _ p)
def FP (Q : Option Int → Hp → Prop) (a : Option Int) (H : Hp) : Prop := ∀ H', Same H H' → Q a H'
def EvP (Er : Exc → Hp → Prop) (S : SC) (OO : List (List Cell)) (σ : St) (t : TO) (m : Res (Option Int)) : Prop := ∀ H Q, W OO H → S.p (hid H OO) → PZ Er (FP Q) H m → t σ H Q
theorem EvP.run {t : TO} {m : Res (Option Int)} (he : EvP Er S OO σ t m) {H : Hp} {Q : Option Int → Hp → Prop} (w : W OO H) (s : S.p (hid H OO)) {f : Option Int → Res β} {F : β → Hp → Prop} (hF : ∀ b H H', Same H H' → F b H → F b H') (P : PZ Er F H (m.bind f))
    (hk : ∀ a H', Same H H' → W OO H' → S.p (hid H' OO) → PZ Er F H' (f a) → Q a H') : t σ H Q := by
  refine he H Q w s ?_
  cases e : m with
  | bad => rw [e] at P; exact P
  | err x => rw [e] at P; exact P
  | ok a => exact fun H' s' => hk a H' s' (w.keep s') (S.mono _ _ (hid_mono s') s) (PZ.run e hF s' P)
theorem evp_none : EvP Er S OO σ tNoPart (.ok none) := fun H Q w s P => P H (Same.refl _)
theorem evp_some {te : TE} {m : Res Int} (h : EvB K Er S OO σ te rInt m) : EvP Er S OO σ (tPart te) (m.bind fun i => .ok (some i)) := fun H Q w s P =>
  h.run w s (fun _ _ _ s h H2 s2 => h H2 (s.trans s2)) P fun a v H1 s1 w1 q1 r1 P1 => ⟨a, r1, P1 H1 (Same.refl _)⟩
/-- the script -/
theorem evb_lenS {ta : TE} {r : Enc α} {m : Res (List α)} (ha : EvB K Er S OO σ ta (rL r) m) : EvB K Er S OO σ (tCB (rLenOf K) (tCons ta tNil)) rInt (m.bind fun as => .ok (as.length : Int)) := fun H Q w s P =>
  ha.run w s FB.tr P fun a x H1 s1 w1 q1 ⟨p, xs, e, q, pr⟩ P1 => ⟨p, xs, by rw [e], .inl q, P1 _ H1 (Same.refl _) (by rw [Paired.len pr]; rfl)⟩
theorem evb_ixS {ta tb : TE} {ma : Res (List Int)} {mb : Res Int} (ha : EvB K Er S OO σ ta (rL rInt) ma) (hb : EvB K Er S OO σ tb rInt mb) : EvB K Er S OO σ (tOp (rIxL K) ta tb) rInt (ma.bind fun as => mb.bind fun i => atR as i) := fun H Q w s P =>
  ha.run w s FB.tr P fun a x H1 s1 w1 q1 ⟨p, xs, e, q, pr⟩ P1 => hb.run w1 q1 FB.tr P1 fun b y H2 s2 w2 q2 r2 P2 => by
    obtain ⟨c, hc, P3⟩ := P2.okOf fun x => atR_ne
    obtain ⟨u, h1, h2⟩ := paired_atI pr (atR_ok hc)
    exact ⟨p, xs, b, u, e, r2, s2.seq q, h1, P3 u H2 (Same.refl _) h2⟩
theorem ev_sliceS {te : TE} {tl th : TO} {m : Res (List Int)} {ml mh : Res (Option Int)} (he : EvB K Er S OO σ te (rL rInt) m) (hl : EvP Er S OO σ tl ml) (hh : EvP Er S OO σ th mh) :
    Ev K Er S OO OO σ (tSl (rSlL K) te tl th) (oL (oF rInt)) (m.bind fun as => ml.bind fun lo => mh.bind fun hi => .ok (cutL as lo hi)) := fun H Q w s P =>
  he.run w s FO.tr P fun as x H1 s1 w1 q1 ⟨p, xs, e, q, pr⟩ P1 => hl.run w1 q1 FO.tr P1 fun lo H2 s2 w2 q2 P2 => hh.run w2 q2 FO.tr P2 fun hi H3 s3 w3 q3 P3' =>
    ⟨p, xs, e, s3.seq (s2.seq q), newL w3 (cut_paired (Paired.imp2 (fun _ _ h => h) pr) lo hi) P3'⟩
/-! concatenation, repetition, copies -/
def catR (as bs : List α) : Res (List α) := chk (as.length + bs.length ≤ sizeLine) (.ok (as ++ bs))
theorem ev_cat {ta tb : TE} {r : Enc α} [z : MonoE r] {ma mb : Res (List α)} (ha : EvL K Er S OO σ ta r ma) (hb : EvL K Er S OO σ tb r mb) : Ev K Er S OO OO σ (tOp rCat ta tb) (oL (oF r)) (ma.bind fun as => mb.bind fun bs => catR as bs) := fun H Q w s P =>
  ha.run w s FO.tr P fun as x H1 s1 w1 q1 ⟨p, xs, e, q, pr⟩ P1 => hb.run w1 q1 FO.tr P1 fun bs y H2 s2 w2 q2 ⟨p', ys, e', q', pr'⟩ P2 => by
    obtain ⟨c, hc, P3⟩ := P2.okOf fun x => chk_ne
    obtain ⟨h1, h2⟩ := chk_inv hc
    cases h2
    exact ⟨p, p', xs, ys, e, e', s2 _ _ q, q', by rw [Paired.len pr, Paired.len pr']; exact h1, newL w2 (Paired.app (Paired.imp2 (fun _ _ h => z.mono (hid_mono s2) h) pr) pr') P3⟩
def repR (as : List α) (n : Int) : Res (List α) := chk (-(2 ^ 63) ≤ n ∧ n < 2 ^ 63 ∧ as.length * n.toNat ≤ sizeLine) (.ok (List.replicate n.toNat as).flatten)
theorem ev_rep {ta tb : TE} {r : Enc α} [z : MonoE r] {ma : Res (List α)} {mb : Res Int} (ha : EvL K Er S OO σ ta r ma) (hb : EvB K Er S OO σ tb rInt mb) : Ev K Er S OO OO σ (tOp rRep ta tb) (oL (oF r)) (ma.bind fun as => mb.bind fun n => repR as n) := fun H Q w s P =>
  ha.run w s FO.tr P fun as x H1 s1 w1 q1 ⟨p, xs, e, q, pr⟩ P1 => hb.run w1 q1 FO.tr P1 fun n y H2 s2 w2 q2 r2 P2 => by
    obtain ⟨c, hc, P3⟩ := P2.okOf fun x => chk_ne
    obtain ⟨⟨h0, h1, h3⟩, h2⟩ := chk_inv hc
    cases h2
    exact ⟨p, n, xs, e, r2, s2 _ _ q, h0, h1, by rw [Paired.len pr]; exact h3, newL w2 (Paired.rep' (Paired.imp2 (fun _ _ h => z.mono (hid_mono s2) h) pr) _) P3⟩
def rangeI (lo hi : Int) : List Int := (List.range (hi - lo).toNat).map fun (i : Nat) => lo + (i : Int)
theorem ev_listrange {ta : TE} {ma : Res Int} (ha : EvB K Er S OO σ ta rInt ma) : Ev K Er S OO OO σ (tListRng (tCons ta tNil)) (oL (oF rInt)) (ma.bind fun n => chk (0 ≤ n ∧ n ≤ 1000) (.ok (rangeI 0 n))) := fun H Q w s P =>
  ha.run w s FO.tr P fun n x H1 s1 w1 q1 r1 P1 => by
    obtain ⟨c, hc, P3⟩ := P1.okOf fun x => chk_ne
    obtain ⟨⟨h0, h1⟩, h2⟩ := chk_inv hc
    cases h2
    refine ⟨n, by rw [show x = .int n from r1], h0, h1, newL w1 ?_ P3⟩
    unfold rangeI
    rw [Int.sub_zero]
    have : ∀ l : List Nat, Paired (rInt K (hid H1 OO)) (l.map fun (i : Nat) => V.int (i : Int)) (l.map fun (i : Nat) => (0 : Int) + (i : Int)) := fun l => by
      induction l with
      | nil => exact .nil
      | cons a l ih => exact .cons (by show V.int (a : Int) = V.int (0 + (a : Int)); rw [Int.zero_add]) ih
    exact this _
/-! displays of flat items -/
theorem ev_l0 {o : OE α} : Ev K Er S OO OO σ (tLst tNil) (oL o) (.ok []) := fun H Q w s P => ⟨Nat.zero_le _, fun p hp => P (.ref p) [(p, .lst [])] _ (same_new hp _) (w.new hp rfl) (hid_new hp) ⟨p, [], [], rfl, .nil, rfl⟩⟩
/-- items from the left: all shared -/
def FA {α : Type} (K : PySem.W.Frag) (OO : List (List Cell)) (r : Enc α) (Q : List V → Hp → Prop) (as : List α) (H : Hp) : Prop := ∀ vs H', Same H H' → Paired (r K (hid H' OO)) vs as → Q vs H'
def EvA {α : Type} (K : PySem.W.Frag) (Er : Exc → Hp → Prop) (S : SC) (OO : List (List Cell)) (σ : St) (t : TA) (r : Enc α) (m : Res (List α)) : Prop := ∀ H Q, W OO H → S.p (hid H OO) → PZ Er (FA K OO r Q) H m → t σ H Q
theorem eva_nil {r : Enc α} : EvA K Er S OO σ tNil r (.ok []) := fun H Q w s P => P [] H (Same.refl _) .nil
theorem eva_cons {te : TE} {t : TA} {r : Enc α} [z : MonoE r] {m : Res α} {n : Res (List α)} (he : EvS K Er S OO σ te r m) (ht : EvA K Er S OO σ t r n) : EvA K Er S OO σ (tCons te t) r (m.bind fun a => n.bind fun as => .ok (a :: as)) := fun H Q w s P =>
  he.run w s (fun b H H' s h vs H2 s2 p => h vs H2 (s.trans s2) p) P fun a x H1 s1 w1 q1 r1 P1 => by
    refine ht H1 _ w1 q1 ?_
    cases e : n with
    | bad => rw [e] at P1; exact P1
    | err x => rw [e] at P1; exact P1
    | ok as => rw [e] at P1; exact fun vs H2 s2 p => P1 (x :: vs) H2 s2 (.cons (z.mono (hid_mono s2) r1) p)
theorem ev_lst {t : TA} {r : Enc α} [z : MonoE r] {m : Res (List α)} (h : EvA K Er S OO σ t r m) : Ev K Er S OO OO σ (tLst t) (oL (oF r)) (m.bind fun as => chk (as.length ≤ sizeLine) (.ok as)) := fun H Q w s P => by
  refine h H _ w s ?_
  cases e : m with
  | bad => rw [e] at P; exact P
  | err x => rw [e] at P; exact P
  | ok as =>
    rw [e] at P
    intro vs H1 s1 p
    obtain ⟨c, hc, P3⟩ := PZ.okOf (fun x => chk_ne) (show PZ Er _ H (chk (as.length ≤ sizeLine) (.ok as)) from P)
    obtain ⟨h1, h2⟩ := chk_inv hc
    cases h2
    exact ⟨by rw [Paired.len p]; exact h1, newL (w.keep s1) p (FO.tr _ _ _ s1 P3)⟩
theorem evs_tup2 {ta tb : TE} {r : Enc α} {q : Enc β} [z : MonoE r] [y : MonoE q] {ma : Res α} {mb : Res β} (ha : EvS K Er S OO σ ta r ma) (hb : EvS K Er S OO σ tb q mb) : EvS K Er S OO σ (tTup (tCons ta (tCons tb tNil))) (rP2 r q) (ma.bind fun a => mb.bind fun b => .ok (a, b)) := fun H Q w s P =>
  ha.run w s FS.tr P fun a x H1 s1 w1 q1 r1 P1 => hb.run w1 q1 FS.tr P1 fun b y' H2 s2 w2 q2 r2 P2 =>
    ⟨by show 2 ≤ sizeLine; decide, fun p hp => P2 _ _ (same_new hp _) ⟨p, x, y', rfl, hid_newS w2 hp, z.mono ((hid_mono s2).trans (hid_mono (same_new hp _))) r1, y.mono (hid_mono (same_new hp _)) r2⟩⟩
theorem evs_tup3 {ta tb tc : TE} {r : Enc α} {q : Enc β} {t : Enc γ} [z : MonoE r] [y : MonoE q] [x : MonoE t] {ma : Res α} {mb : Res β} {mc : Res γ} (ha : EvS K Er S OO σ ta r ma) (hb : EvS K Er S OO σ tb q mb) (hc : EvS K Er S OO σ tc t mc) :
    EvS K Er S OO σ (tTup (tCons ta (tCons tb (tCons tc tNil)))) (rP3 r q t) (ma.bind fun a => mb.bind fun b => mc.bind fun c => .ok (a, b, c)) := fun H Q w s P =>
  ha.run w s FS.tr P fun a x' H1 s1 w1 q1 r1 P1 => hb.run w1 q1 FS.tr P1 fun b y' H2 s2 w2 q2 r2 P2 => hc.run w2 q2 FS.tr P2 fun c z' H3 s3 w3 q3 r3 P3 =>
    ⟨by show 3 ≤ sizeLine; decide, fun p hp => P3 _ _ (same_new hp _) ⟨p, x', y', z', rfl, hid_newS w3 hp, z.mono (((hid_mono s2).trans (hid_mono s3)).trans (hid_mono (same_new hp _))) r1, y.mono ((hid_mono s3).trans (hid_mono (same_new hp _))) r2, x.mono (hid_mono (same_new hp _)) r3⟩⟩
end
end L2

/-! ### mirrors: calls, statements, loops -/
namespace L2
open PySem PySem.Spec PyProof.Rows
section
variable {K : PySem.W.Frag} {Er : Exc → Hp → Prop} {S : SC} {OO OO' OO2 : List (List Cell)} {σ : St} {α β γ ρ ι : Type} {α1 α2 α3 α4 α5 α6 : Type}
def noE (m : Res α) : Res α := match m with
  | .ok a => .ok a
  | _ => .bad
theorem noE_ok {m : Res α} {a : α} (h : noE m = .ok a) : m = .ok a := by
  cases m with
  | ok b => exact h
  | bad => cases h
  | err x => cases h
theorem noE_ne {m : Res α} {x : Exc} : noE m ≠ .err x := by cases m <;> exact fun z => nomatch z
def FF (K : PySem.W.Frag) (o : OE α) (Q : VK) (a : α) (H : Hp) : Prop := ∀ v C H', W [C] H' → Same H (hid H' [C]) → o K (hid H' [C]) v a C → Q v H'
def sp1 (r1 : Enc α1) (o : OE ρ) (f : α1 → Res ρ) (K : PySem.W.Frag) : Sp := fun vs H Q _ => ∃ v1 a1 b, vs = [v1] ∧ r1 K H v1 a1 ∧ f a1 = .ok b ∧ FF K o Q b H
def sp2 (r1 : Enc α1) (r2 : Enc α2) (o : OE ρ) (f : α1 → α2 → Res ρ) (K : PySem.W.Frag) : Sp := fun vs H Q _ => ∃ v1 v2 a1 a2 b, vs = [v1, v2] ∧ r1 K H v1 a1 ∧ r2 K H v2 a2 ∧ f a1 a2 = .ok b ∧ FF K o Q b H
def sp3 (r1 : Enc α1) (r2 : Enc α2) (r3 : Enc α3) (o : OE ρ) (f : α1 → α2 → α3 → Res ρ) (K : PySem.W.Frag) : Sp := fun vs H Q _ => ∃ v1 v2 v3 a1 a2 a3 b, vs = [v1, v2, v3] ∧ r1 K H v1 a1 ∧ r2 K H v2 a2 ∧ r3 K H v3 a3 ∧ f a1 a2 a3 = .ok b ∧ FF K o Q b H
theorem callW {C : List Cell} {H H' : Hp} (w : W OO H) (w' : W [C] H') (m' : Same H (hid H' [C])) : W (C :: OO) H' ∧ Same (hid H OO) (hid H' (C :: OO)) ∧ SameI (hid H' [C]) (hid H' (C :: OO)) := by
  have s : Same H H' := m'.trans hid_same
  have f1 : fl [C] = C.map (·.1) := by simp [fl]
  have hd : ∀ b, b ∈ fl OO → b ∉ C.map (·.1) := fun b hb hc => by
    obtain ⟨u, hu⟩ := fl_ex hb
    exact (hid_some (m' _ _ (w.tr _ hu))).2 (by rw [f1]; exact hc)
  have w2 : W (C :: OO) H' := by
    refine ⟨fun c hc => ?_, ?_, fun c hc => ?_⟩
    · rw [List.flatten_cons, List.mem_append] at hc
      rcases hc with hc | hc
      · exact w'.tr c (by simp [hc])
      · exact s _ _ (w.tr c hc)
    · rw [fl_cons]
      refine List.nodup_append.mpr ⟨by rw [← f1]; exact w'.nd, w.nd, fun a ha b hb e => ?_⟩
      subst e; exact hd a hb ha
    · rw [List.flatten_cons, List.mem_append] at hc
      rcases hc with hc | hc
      · exact w'.mu c (by simp [hc])
      · exact w.mu c hc
  refine ⟨w2, fun b u q => ?_, fun b u q i => ?_⟩
  · obtain ⟨q1, q2⟩ := hid_some q
    obtain ⟨q3, q4⟩ := hid_some (m' _ _ q1)
    refine hid_of q3 ?_
    rw [fl_cons, List.mem_append]
    exact fun z => z.elim (fun z => q4 (by rw [f1]; exact z)) q2
  · exact w2.i b u (hid_some q).1 i
theorem callEnd {o : OE α} [z : FlatO o] {Q : VK} {b : α} {H : Hp} (w : W OO H) (P : FO K OO OO o Q b H) : FF K o Q b H := fun v C H' w' m' ho => by
  obtain ⟨w2, h2, h3⟩ := callW w w' m'
  exact P v C H' (m'.trans hid_same) w2 h2 (z.flat h3 ho)
theorem ev_call1 {ta : TE} {r1 : Enc α1} {o : OE ρ} [FlatO o] {f : α1 → Res ρ} {ma : Res α1} (ha : EvB K Er S OO σ ta r1 ma) : Ev K Er S OO OO σ (tCall (sp1 r1 o f K) [] E0 (tCons ta tNil)) o (ma.bind fun a => noE (f a)) := fun H Q w s P =>
  ha.run w s FO.tr P fun a x H1 s1 w1 q1 r1 P1 => by
    obtain ⟨b, hb, P2⟩ := P1.okOf fun x => noE_ne
    exact ⟨x, a, b, rfl, r1, noE_ok hb, callEnd w1 P2⟩
theorem ev_call2 {ta tb : TE} {r1 : Enc α1} {r2 : Enc α2} [z1 : MonoE r1] {o : OE ρ} [FlatO o] {f : α1 → α2 → Res ρ} {ma : Res α1} {mb : Res α2} (ha : EvB K Er S OO σ ta r1 ma) (hb : EvB K Er S OO σ tb r2 mb) :
    Ev K Er S OO OO σ (tCall (sp2 r1 r2 o f K) [] E0 (tCons ta (tCons tb tNil))) o (ma.bind fun a => mb.bind fun b => noE (f a b)) := fun H Q w s P =>
  ha.run w s FO.tr P fun a x H1 s1 w1 q1 r1 P1 => hb.run w1 q1 FO.tr P1 fun b y H2 s2 w2 q2 r2 P2 => by
    obtain ⟨c, hc, P3⟩ := P2.okOf fun x => noE_ne
    exact ⟨x, y, a, b, c, rfl, z1.mono s2 r1, r2, noE_ok hc, callEnd w2 P3⟩
theorem ev_call3 {ta tb tc : TE} {r1 : Enc α1} {r2 : Enc α2} {r3 : Enc α3} [z1 : MonoE r1] [z2 : MonoE r2] {o : OE ρ} [FlatO o] {f : α1 → α2 → α3 → Res ρ} {ma : Res α1} {mb : Res α2} {mc : Res α3} (ha : EvB K Er S OO σ ta r1 ma) (hb : EvB K Er S OO σ tb r2 mb) (hc : EvB K Er S OO σ tc r3 mc) :
    Ev K Er S OO OO σ (tCall (sp3 r1 r2 r3 o f K) [] E0 (tCons ta (tCons tb (tCons tc tNil)))) o (ma.bind fun a => mb.bind fun b => mc.bind fun c => noE (f a b c)) := fun H Q w s P =>
  ha.run w s FO.tr P fun a x H1 s1 w1 q1 r1 P1 => hb.run w1 q1 FO.tr P1 fun b y H2 s2 w2 q2 r2 P2 => hc.run w2 q2 FO.tr P2 fun c z H3 s3 w3 q3 r3 P3 => by
    obtain ⟨d, hd, P4⟩ := P3.okOf fun x => noE_ne
    exact ⟨x, y, z, a, b, c, d, rfl, z1.mono (s2.trans s3) r1, z2.mono s3 r2, r3, noE_ok hd, callEnd w3 P4⟩
/-! ends of statements -/
structure Jn (γ ι : Type) where
  oo : ι → List (List Cell)
  ss : ι → St
  sc : γ → ι → SC
inductive Ctl (ρ γ : Type) where
  | ret (r : ρ) | nx (g : γ)
def FTd (K : PySem.W.Frag) (o : OE ρ) (D : Ends) (r : ρ) (h : Hp) : Prop := ∀ v C OO' H', W (C :: OO') H' → Same h (hid H' (C :: OO')) → o K (hid H' (C :: OO')) v r C → D.rt v H'
def FNd (J : Jn γ ι) (D : Ends) (g : γ) (h : Hp) : Prop := ∀ x H', W (J.oo x) H' → Same h (hid H' (J.oo x)) → (J.sc g x).p (hid H' (J.oo x)) → D.nx (J.ss x) H'
def FCd (K : PySem.W.Frag) (o : OE ρ) (J : Jn γ ι) (D : Ends) (c : Ctl ρ γ) (h : Hp) : Prop := match c with
  | .ret r => FTd K o D r h
  | .nx g => FNd J D g h
class FdOk (Fd : Ends → β → Hp → Prop) : Prop where
  tr : ∀ D b h h', Same h h' → Fd D b h → Fd D b h'
instance {o : OE ρ} : FdOk (FTd K o) := ⟨fun D b h h' s q v C O H' w m x => q v C O H' w (s.trans m) x⟩
instance {J : Jn γ ι} : FdOk (FNd J) := ⟨fun D b h h' s q x H' w m y => q x H' w (s.trans m) y⟩
instance {o : OE ρ} {J : Jn γ ι} : FdOk (FCd K o J) := ⟨fun D b h h' s q => by
  cases b with
  | ret r => exact fun v C O H' w m x => q v C O H' w (s.trans m) x
  | nx g => exact fun x H' w m y => q x H' w (s.trans m) y⟩
theorem PZ.tr {F : β → Hp → Prop} (hF : ∀ b H H', Same H H' → F b H → F b H') {H H' : Hp} {m : Res β} (s : Same H H') (P : PZ Er F H m) : PZ Er F H' m := by
  cases m with
  | bad => exact P
  | err x => exact fun H2 s2 => P H2 (s.trans s2)
  | ok b => exact hF b H H' s P
/-- a block of statements -/
def Sv (Er : Exc → Hp → Prop) (S : SC) (OO : List (List Cell)) (σ : St) (t : TS) (Fd : Ends → β → Hp → Prop) (m : Res β) : Prop := ∀ H D, W OO H → S.p (hid H OO) → PZ Er (Fd D) (hid H OO) m → t D σ H
variable {Fd : Ends → β → Hp → Prop} [fd : FdOk Fd] {u : TS}
theorem Ev.st {te : TE} {o : OE α} {m : Res α} (he : Ev K Er S OO OO' σ te o m) {H : Hp} {D : Ends} {Q : VK} (w : W OO H) (s : S.p (hid H OO)) {f : α → Res β} (P : PZ Er (Fd D) (hid H OO) (m.bind f))
    (hk : ∀ a v C H', W (C :: OO') H' → S.p (hid H' (C :: OO')) → o K (hid H' (C :: OO')) v a C → PZ Er (Fd D) (hid H' (C :: OO')) (f a) → Q v H') : te σ H Q := by
  refine he H Q w s ?_
  cases m with
  | bad => exact P
  | err x => exact fun H' s' => P H' (hid_same.trans s')
  | ok a => exact fun v C H' s' w' m' ho => hk a v C H' w' (S.mono _ _ m' s) ho (PZ.tr (fd.tr D) m' P)
theorem EvB.st {te : TE} {r : Enc α} {m : Res α} (he : EvB K Er S OO σ te r m) {H : Hp} {D : Ends} {Q : VK} (w : W OO H) (s : S.p (hid H OO)) {f : α → Res β} (P : PZ Er (Fd D) (hid H OO) (m.bind f))
    (hk : ∀ a v H', Same H H' → W OO H' → S.p (hid H' OO) → r K H' v a → PZ Er (Fd D) (hid H' OO) (f a) → Q v H') : te σ H Q := by
  refine he H Q w s ?_
  cases m with
  | bad => exact P
  | err x => exact fun H' s' => P H' (hid_same.trans s')
  | ok a => exact fun v H' s' hr => hk a v H' s' (w.keep s') (S.mono _ _ (hid_mono s') s) hr (PZ.tr (fd.tr D) (hid_mono s') P)
theorem EvS.st {te : TE} {r : Enc α} {m : Res α} (he : EvS K Er S OO σ te r m) {H : Hp} {D : Ends} {Q : VK} (w : W OO H) (s : S.p (hid H OO)) {f : α → Res β} (P : PZ Er (Fd D) (hid H OO) (m.bind f))
    (hk : ∀ a v H', Same H H' → W OO H' → S.p (hid H' OO) → r K (hid H' OO) v a → PZ Er (Fd D) (hid H' OO) (f a) → Q v H') : te σ H Q := by
  refine he H Q w s ?_
  cases m with
  | bad => exact P
  | err x => exact fun H' s' => P H' (hid_same.trans s')
  | ok a => exact fun v H' s' hr => hk a v H' s' (w.keep s') (S.mono _ _ (hid_mono s') s) hr (PZ.tr (fd.tr D) (hid_mono s') P)
theorem EvT.st {tt : TT} {m : Res Bool} (he : EvT Er S OO σ tt m) {H : Hp} {D : Ends} {Q : Bool → Hp → Prop} (w : W OO H) (s : S.p (hid H OO)) {f : Bool → Res β} (P : PZ Er (Fd D) (hid H OO) (m.bind f))
    (hk : ∀ b H', W OO H' → S.p (hid H' OO) → PZ Er (Fd D) (hid H' OO) (f b) → Q b H') : tt σ H Q := by
  refine he H Q w s ?_
  cases m with
  | bad => exact P
  | err x => exact fun H' s' => P H' (hid_same.trans s')
  | ok a => exact fun H' s' => hk a H' (w.keep s') (S.mono _ _ (hid_mono s') s) (PZ.tr (fd.tr D) (hid_mono s') P)
theorem set_set {OO : List (List Cell)} {k : Nat} {C : List Cell} : (OO.set k C).set k [] = OO.set k [] := by simp
theorem setW {C : List Cell} {H : Hp} {k : Nat} (w : W (C :: OO) H) (hk : k < OO.length) : W (OO.set k C) H ∧ Same (hid H (C :: OO)) (hid H (OO.set k C)) := by
  have h1 := set_flat (OO := OO) (k := k) (C := OO[k]) (by simp [hk])
  have h2 := set_flat (OO := OO.set k C) (k := k) (C := C) (by simp [hk])
  rw [set_set] at h2
  have h3 : (OO.set k C).flatten.Perm (C ++ (OO.set k []).flatten) := by simpa using h2.symm
  have h4 : (C :: OO).flatten.Perm (C ++ (OO[k] ++ (OO.set k []).flatten)) := by
    rw [List.flatten_cons]; exact (by simpa using h1.symm : OO.flatten.Perm (OO[k] ++ (OO.set k []).flatten)).append_left C
  have h5 : (C ++ (OO.set k []).flatten).Sublist (C ++ (OO[k] ++ (OO.set k []).flatten)) := List.Sublist.append (List.Sublist.refl _) (List.sublist_append_right _ _)
  have w1 : W [C ++ (OO[k] ++ (OO.set k []).flatten)] H := w.of (by simpa using h4.symm)
  have w2 : W [C ++ (OO.set k []).flatten] H := w1.sub (by simpa using h5)
  refine ⟨w2.of (by simpa using h3), hid_sub (Same.refl _) fun b hb => ?_⟩
  obtain ⟨o, ho⟩ := fl_ex hb
  exact fl_mem (h4.mem_iff.mpr (h5.mem (h3.mem_iff.mp ho)))
/-- x = e, x ours -/
theorem sv_setO {te : TE} {o : OE α} [MonoO o] {m : Res α} {f : α → Res β} (i k : Nat) (he : Ev K Er S OO OO' σ te o m) (hk : k < OO'.length) (hr : ∀ a v C, Sv Er (S.addO K o v a C) (OO'.set k C) (σ.set i (some v)) u Fd (f a)) : Sv Er S OO σ (tSeq (tAsg te (gName i)) u) Fd (m.bind f) := fun H D w s P =>
  he.st w s P fun a v C H' w' s' ho P' => by
    obtain ⟨w2, h2⟩ := setW w' hk
    exact hr a v C H' D w2 ⟨S.mono _ _ h2 s', MonoO.mono h2 ho⟩ (PZ.tr (fd.tr D) h2 P')
theorem sv_set {te : TE} {r : Enc α} [MonoE r] {m : Res α} {f : α → Res β} (i : Nat) (he : EvS K Er S OO σ te r m) (hr : ∀ a v, Sv Er (S.add K r v a) OO (σ.set i (some v)) u Fd (f a)) : Sv Er S OO σ (tSeq (tAsg te (gName i)) u) Fd (m.bind f) := fun H D w s P =>
  he.st w s P fun a v H' s1 w' s' ho P' => hr a v H' D w' ⟨s', ho⟩ P'
theorem sv_ret {te : TE} {o : OE ρ} {m : Res ρ} (he : Ev K Er S OO OO' σ te o m) : Sv Er S OO σ (tSeq (tRet te) u) (FTd K o) m := fun H D w s P =>
  he H _ w s (by
    cases m with
    | bad => exact P
    | err x => exact fun H' s' => P H' (hid_same.trans s')
    | ok a => exact fun v C H' s' w' m' ho => P v C OO' H' w' m' ho)
theorem sv_nxC {J : Jn γ ι} {t : TS} {o : OE ρ} {m : Res γ} (h : Sv Er S OO σ t (FNd J) m) : Sv Er S OO σ t (FCd K o J) (m.bind fun r => .ok (.nx r)) := fun H D w s P => h H D w s (by
  cases m with
  | bad => exact P
  | err x => exact P
  | ok a => exact P)
theorem sv_end {J : Jn γ ι} (x : ι) (g : γ) (h1 : OO = J.oo x) (h2 : σ = J.ss x) (h3 : ∀ h, S.p h → (J.sc g x).p h) : Sv Er S OO σ tNext (FNd J) (.ok g) := fun H D w s P => by
  subst h1 h2
  exact P x H w (Same.refl _) (h3 _ s)
theorem sv_bad {t : TS} : Sv Er S OO σ t Fd .bad := fun H D w s P => P.elim
/-- if c: .. that leaves the def, then the rest -/
theorem sv_ifR {o : OE ρ} {c : TT} {t1 : TS} {mc : Res Bool} {m1 m2 : Res ρ} (hc : EvT Er S OO σ c mc) (h1 : Sv Er S OO σ t1 (FTd K o) m1) (h2 : Sv Er S OO σ u (FTd K o) m2) : Sv Er S OO σ (tSeq (tIfS c t1 tNext) u) (FTd K o) (mc.bind fun b => if b = true then m1 else m2) := fun H D w s P =>
  hc.st (Fd := FTd K o) w s P fun b H' w' s' P' => by
    cases b with
    | true => rw [if_pos rfl] at P' ⊢; exact h1 H' _ w' s' P'
    | false => exact h2 H' D w' s' P'
theorem sv_ifRC {o : OE ρ} {J : Jn γ ι} {c : TT} {t1 : TS} {mc : Res Bool} {m1 : Res ρ} {m2 : Res (Ctl ρ γ)} (hc : EvT Er S OO σ c mc) (h1 : Sv Er S OO σ t1 (FTd K o) m1) (h2 : Sv Er S OO σ u (FCd K o J) m2) : Sv Er S OO σ (tSeq (tIfS c t1 tNext) u) (FCd K o J) (mc.bind fun b => if b = true then m1.bind (fun r => .ok (.ret r)) else m2) := fun H D w s P =>
  hc.st (Fd := FCd K o J) w s P fun b H' w' s' P' => by
    cases b with
    | true =>
      rw [if_pos rfl] at P' ⊢
      refine h1 H' _ w' s' ?_
      cases m1 with
      | bad => exact P'
      | err x => exact P'
      | ok a => exact P'
    | false => exact h2 H' D w' s' P'
/-- if c: .. else: .., both the last of their block -/
theorem sv_if2 {c : TT} {t1 t2 : TS} {mc : Res Bool} {m1 m2 : Res β} (hc : EvT Er S OO σ c mc) (h1 : Sv Er S OO σ t1 Fd m1) (h2 : Sv Er S OO σ t2 Fd m2) : Sv Er S OO σ (tIfS c t1 t2) Fd (mc.bind fun b => if b = true then m1 else m2) := fun H D w s P =>
  hc.st w s P fun b H' w' s' P' => by
    cases b with
    | true => rw [if_pos rfl] at P' ⊢; exact h1 H' _ w' s' P'
    | false => exact h2 H' D w' s' P'
/-- a block, then the rest -/
theorem sv_seqN {J : Jn γ ι} {t : TS} {m : Res γ} {f : γ → Res β} (hb : Sv Er S OO σ t (FNd J) m) (hr : ∀ g x, Sv Er (J.sc g x) (J.oo x) (J.ss x) u Fd (f g)) : Sv Er S OO σ (tSeq t u) Fd (m.bind f) := fun H D w s P =>
  hb H _ w s (by
    cases m with
    | bad => exact P
    | err x => exact P
    | ok g => exact fun x H' w' m' q => hr g x H' D w' q (PZ.tr (fd.tr D) m' P))
def retOr (f : γ → Res ρ) : Ctl ρ γ → Res ρ
  | .ret r => .ok r
  | .nx g => f g
def retOrC {δ : Type} (f : γ → Res (Ctl ρ δ)) : Ctl ρ γ → Res (Ctl ρ δ)
  | .ret r => .ok (.ret r)
  | .nx g => f g
/-- what was known is put otherwise -/
theorem Sv.weak {S2 : SC} {t : TS} {m : Res β} (h : Sv Er S2 OO σ t Fd m) (hs : ∀ x, S.p x → S2.p x) : Sv Er S OO σ t Fd m := fun H D w s P => h H D w (hs _ s) P
/-! changes of what is ours -/
theorem chgW {C D C' : List Cell} {H : Hp} {k : Nat} {p : Addr} {o : HO} (w : W (D :: OO) H) (hk : OO[k]? = some C) (hp : p ∈ C.map (·.1)) (hC : (C'.map (·.1)).Perm ((C ++ D).map (·.1))) (ht : ∀ c ∈ C', upd H p o c.1 = some c.2) (hm : ∀ c ∈ C', mutK c.2 = true) :
    W (OO.set k C') (upd H p o) ∧ hid (upd H p o) (OO.set k C') = hid H (D :: OO) := by
  have hlt : k < OO.length := by
    rcases Nat.lt_or_ge k OO.length with h | h
    · exact h
    · rw [List.getElem?_eq_none h] at hk; cases hk
  have h1 := set_flat hk
  have h2 := set_flat (OO := OO.set k C') (k := k) (C := C') (by simp [hlt])
  rw [set_set] at h2
  have h3 : (OO.set k C').flatten.Perm (C' ++ (OO.set k []).flatten) := by simpa using h2.symm
  have h4 : (D :: OO).flatten.Perm (D ++ (C ++ (OO.set k []).flatten)) := by
    rw [List.flatten_cons]; exact (by simpa using h1.symm : OO.flatten.Perm (C ++ (OO.set k []).flatten)).append_left D
  have hfl : (fl (OO.set k C')).Perm (fl (D :: OO)) := by
    unfold fl
    refine (h3.map _).trans (List.Perm.trans ?_ (h4.map _).symm)
    simp only [List.map_append]
    refine (hC.append_right _).trans ?_
    simp only [List.map_append]
    rw [← List.append_assoc]
    exact List.perm_append_comm.append_right _
  have nd := w.nd
  refine ⟨⟨fun c hc => ?_, hfl.nodup_iff.mpr nd, fun c hc => ?_⟩, ?_⟩
  · rcases List.mem_append.mp (h3.mem_iff.mp hc) with hc | hc
    · exact ht c hc
    · have hne : c.1 ≠ p := fun e => by
        have nd2 : ((D ++ (C ++ (OO.set k []).flatten)).map (·.1)).Nodup := (h4.map _).nodup_iff.mp nd
        simp only [List.map_append] at nd2
        have nd3 := (List.nodup_append.mp nd2).2.1
        exact (List.nodup_append.mp nd3).2.2 p hp c.1 (List.mem_map.mpr ⟨c, hc, rfl⟩) e.symm
      rw [upd_ne hne]
      exact w.tr c (h4.mem_iff.mpr (by simp [hc]))
  · rcases List.mem_append.mp (h3.mem_iff.mp hc) with hc | hc
    · exact hm c hc
    · exact w.mu c (h4.mem_iff.mpr (by simp [hc]))
  · funext b
    unfold hid
    by_cases hb : b ∈ fl (D :: OO)
    · rw [if_pos hb, if_pos (hfl.mem_iff.mpr hb)]
    · rw [if_neg hb, if_neg fun z => hb (hfl.mem_iff.mp z)]
      refine upd_ne fun e => hb ?_
      rw [e]
      obtain ⟨c, hc, rfl⟩ := List.mem_map.mp hp
      exact fl_mem (h4.mem_iff.mpr (by simp [hc]))
theorem flat_snoc {Cs : List (List Cell)} {D : List Cell} : (Cs ++ [D]).flatten = Cs.flatten ++ D := by simp
/-- xs.append(e) -/
theorem sv_app {ta : TE} {o : OE α} [MonoO o] {m : Res α} {f : List α → Res β} {v : V} {as : List α} {C : List Cell} (i k : Nat) (hσ : σ[i]? = some (some v)) (hk : OO[k]? = some C) (hk' : OO'[k]? = some C) (h : ∀ x, S.p x → oL o K x v as C) (he : Ev K Er S OO OO' σ ta o m)
    (hr : ∀ a C', Sv Er (S.addO K (oL o) v (as ++ [a]) C') (OO'.set k C') σ u Fd (f (as ++ [a]))) : Sv Er S OO σ (tSeq (tDrop (tBM K "list" rAppend (tVar i) (tCons ta tNil))) u) Fd (m.bind fun a => chk (as.length < sizeLine) (f (as ++ [a]))) := fun H D w s P => by
  obtain ⟨p, xs, Cs, e, q, c⟩ := h _ s
  subst c
  have hH : H p = some (.lst xs) := w.tr (p, .lst xs) (List.mem_flatten.mpr ⟨_, List.mem_of_getElem? hk, List.mem_cons_self⟩)
  refine ⟨v, hσ, by rw [e]; exact .inl ⟨rfl, _, SqL.of hH⟩, he.st w s P fun a y D' H' w' s' ho P' => ?_⟩
  obtain ⟨p', xs', Cs', e2, q2, c2⟩ := h _ s'
  rw [e] at e2; cases e2
  have c3 : (p, HO.lst xs) = (p, HO.lst xs') ∧ Cs.flatten = Cs'.flatten := by
    injection c2 with h1 h2
    exact ⟨h1, h2⟩
  obtain ⟨c3, c4⟩ := c3
  cases c3
  have hH' : H' p = some (.lst xs) := w'.tr (p, .lst xs) (by rw [List.flatten_cons]; exact List.mem_append_right _ (List.mem_flatten.mpr ⟨_, List.mem_of_getElem? hk', List.mem_cons_self⟩))
  cases hlt : decide (as.length < sizeLine) with
  | false => rw [chk, if_neg (by simpa using hlt)] at P'; exact P'.elim
  | true =>
    have hlt' : as.length < sizeLine := by simpa using hlt
    rw [chk_ok hlt'] at P'
    have wnd := w'.nd
    have hcell : ∀ c ∈ (p, HO.lst (xs ++ [y])) :: (Cs' ++ [D']).flatten, upd H' p (.lst (xs ++ [y])) c.1 = some c.2 := fun c hc => by
      rcases List.mem_cons.mp hc with rfl | hc
      · exact upd_same
      · have hp1 := set_flat hk'
        have w3 : W [D' ++ (((p, HO.lst xs) :: Cs.flatten) ++ (OO'.set k []).flatten)] H' := w'.of (by
          simp only [List.flatten_cons, List.flatten_nil, List.append_nil]
          exact (by simpa using hp1 : (((p, HO.lst xs) :: Cs.flatten) ++ (OO'.set k []).flatten).Perm OO'.flatten).append_left D')
        have hin : c ∈ D' ++ (((p, HO.lst xs) :: Cs.flatten) ++ (OO'.set k []).flatten) := by
          rw [flat_snoc, List.mem_append] at hc
          rcases hc with hc | hc
          · rw [← c4] at hc; simp [hc]
          · simp [hc]
        have hne : c.1 ≠ p := fun ee => by
          have nd3 := w3.nd
          rw [flat_snoc, List.mem_append, ← c4] at hc
          simp only [fl, List.flatten_cons, List.flatten_nil, List.append_nil, List.map_append, List.cons_append, List.map_cons] at nd3
          rw [List.nodup_append] at nd3
          obtain ⟨_, n2, n3⟩ := nd3
          rcases hc with hc | hc
          · exact (List.nodup_cons.mp n2).1 (List.mem_append_left _ (List.mem_map.mpr ⟨c, hc, ee⟩))
          · exact n3 c.1 (List.mem_map.mpr ⟨c, hc, rfl⟩) p List.mem_cons_self ee
        rw [upd_ne hne]
        exact w3.tr c (by simpa using hin)
    obtain ⟨w4, h4⟩ := chgW (C' := (p, .lst (xs ++ [y])) :: (Cs' ++ [D']).flatten) w' hk' List.mem_cons_self (by simp [flat_snoc, c4]) hcell (fun c hc => by
      rcases List.mem_cons.mp hc with rfl | hc
      · rfl
      · rw [flat_snoc, List.mem_append, ← c4] at hc
        rcases hc with hc | hc
        · exact w'.mu c (by rw [List.flatten_cons]; exact List.mem_append_right _ (List.mem_flatten.mpr ⟨_, List.mem_of_getElem? hk', List.mem_cons_of_mem _ hc⟩))
        · exact w'.mu c (by rw [List.flatten_cons]; exact List.mem_append_left _ hc))
    refine ⟨p, xs, y, e, rfl, hH', by rw [(P3.len q).1]; exact hlt', ?_⟩
    refine hr a _ _ D w4 ?_ (by rw [h4]; exact P')
    rw [h4]
    exact ⟨s', ⟨p, xs ++ [y], Cs' ++ [D'], e, q2.snoc ho, rfl⟩⟩
end
end L2

/-! ### mirrors: loops, comprehensions, items changed -/
namespace L2
open PySem PySem.Spec PyProof.Rows
section
variable {K : PySem.W.Frag} {Er : Exc → Hp → Prop} {S : SC} {OO OO' OO2 : List (List Cell)} {σ : St} {α β γ ρ ι δ ε : Type}
variable {Fd : Ends → β → Hp → Prop} [fd : FdOk Fd] {u : TS}
def forN : List α → γ → (γ → α → Res γ) → Res γ
  | [], g, _ => .ok g
  | a :: as, g, f => (f g a).bind fun g' => forN as g' f
def forC : List α → γ → (γ → α → Res (Ctl ρ γ)) → Res (Ctl ρ γ)
  | [], g, _ => .ok (.nx g)
  | a :: as, g, f => (f g a).bind fun c => match c with
    | .ret r => .ok (.ret r)
    | .nx g' => forC as g' f
theorem bind_assoc {m : Res α} {f : α → Res β} {g : β → Res γ} : (m.bind f).bind g = m.bind fun a => (f a).bind g := by cases m <;> rfl
/-- a target: how a yielded thing is laid into the names -/
structure Tgt (K : PySem.W.Frag) (OO : List (List Cell)) (g : TG) (r : Enc α) (κ : Type) where
  set : κ → St → St
  sc : α → κ → SC → SC
  ok : ∀ {H : Hp} {v : V} {a : α} {σ : St} {S : SC} {Q : St → Hp → Prop}, r K (hid H OO) v a → S.p (hid H OO) → (∀ x, (sc a x S).p (hid H OO) → Q (set x σ) H) → g v σ H Q
def tg1 {r : Enc α} [MonoE r] (i : Nat) : Tgt K OO (gName i) r V where
  set := fun v σ => σ.set i (some v)
  sc := fun a v S => S.add K r v a
  ok := fun {H v a σ S Q} hr hs hq => hq v ⟨hs, hr⟩
def tg2 {r : Enc α} {q : Enc β} [MonoE r] [MonoE q] (i j : Nat) : Tgt K OO (gTup K 2 (gCons (gName i) (gCons (gName j) gNil))) (rP2 r q) (V × V) where
  set := fun v σ => (σ.set i (some v.1)).set j (some v.2)
  sc := fun a v S => (S.add K r v.1 a.1).add K q v.2 a.2
  ok := fun {H v a σ S Q} ⟨p, x, y, e, h, h1, h2⟩ hs hq => ⟨p, _, e, SqT.of (hid_same _ _ h), rfl, x, [y], rfl, y, [], rfl, rfl, hq (x, y) ⟨⟨hs, h1⟩, h2⟩⟩
/-- what is walked: the items as, one by one; the heap may grow by things of no one's -/
structure Walk (K : PySem.W.Frag) (Er : Exc → Hp → Prop) (S : SC) (OO : List (List Cell)) (σ : St) (wi : TI) (r : Enc α) (m : Res (List α)) : Prop where
  ok : ∀ {H : Hp} {R : It → Hp → Prop}, W OO H → S.p (hid H OO) → PZ Er (fun as H => ∀ J H', Same H H' →
      (∀ (i : Nat) a, as[i]? = some a → ∀ OO2 H2, W OO2 H2 → Same (hid H' OO) (hid H2 OO2) → J.go i H2 ∧ ∀ x H3, J.yld i H2 x H3 → Same H2 H3 ∧ r K (hid H3 OO2) x a) →
      (∀ OO2 H2, W OO2 H2 → Same (hid H' OO) (hid H2 OO2) → J.stop as.length H2) → R J H') H m → wi σ H R
theorem walk_list {te : TE} {r : Enc α} [z : MonoE r] {m : Res (List α)} (he : EvS K Er S OO σ te (rV r) m) : Walk K Er S OO σ (iList K te) r m := ⟨fun {H R} w s P => by
  refine he H _ w s (P.imp fun as _ h v H' s' ⟨p, xs, e, hp, pr⟩ => ⟨p, e, ⟨xs, SqL.of (hid_same _ _ hp)⟩, h _ H' s' ?_ ?_⟩)
  · intro i a ha OO2 H2 w2 m2
    obtain ⟨x, hx, rx⟩ := Paired.getR pr ha
    have hq : SqL K H2 p xs := SqL.of (hid_same _ _ (m2 _ _ hp))
    refine ⟨⟨xs, x, hq, hx⟩, fun y H3 ⟨e3, hy⟩ => ?_⟩
    subst e3
    refine ⟨Same.refl _, ?_⟩
    have := hy xs hq
    rw [hx] at this
    cases this
    exact z.mono m2 rx
  · intro OO2 H2 w2 m2
    exact ⟨xs, SqL.of (hid_same _ _ (m2 _ _ hp)), by rw [Paired.len pr]; exact Nat.le_refl _⟩⟩
/-- enumerate: pairs of the place and the item -/
def enumL (as : List α) : List (Int × α) := (List.range as.length).map (fun (i : Nat) => (i : Int)) |>.zip as
theorem enumL_get {as : List α} {i : Nat} {p : Int × α} (h : (enumL as)[i]? = some p) : p.1 = (i : Int) ∧ as[i]? = some p.2 := by
  unfold enumL at h
  rw [List.getElem?_zip_eq_some] at h
  obtain ⟨h1, h2⟩ := h
  rw [List.getElem?_map] at h1
  have hlt : i < as.length := by
    rcases Nat.lt_or_ge i as.length with q | q
    · exact q
    · rw [List.getElem?_eq_none q] at h2; cases h2
  rw [List.getElem?_range hlt] at h1
  exact ⟨(Option.some.inj h1).symm, h2⟩
theorem enumL_len {as : List α} : (enumL as).length = as.length := by simp [enumL]
theorem walk_enum {te : TE} {r : Enc α} [z : MonoE r] {m : Res (List α)} (he : EvS K Er S OO σ te (rV r) m) : Walk K Er S OO σ (iEnum K te) (rP2 rInt r) (m.bind fun as => .ok (enumL as)) := ⟨fun {H R} w s P => by
  refine he H _ w s ?_
  cases em : m with
  | bad => rw [em] at P; exact P
  | err x => rw [em] at P; exact P
  | ok as =>
    rw [em] at P
    intro v H' s' ⟨p, xs, e, hp, pr⟩
    refine ⟨p, e, ⟨xs, SqL.of (hid_same _ _ hp)⟩, P _ H' s' ?_ ?_⟩
    · intro i a ha OO2 H2 w2 m2
      obtain ⟨ha1, ha2⟩ := enumL_get ha
      obtain ⟨x, hx, rx⟩ := Paired.getR pr ha2
      have hq : SqL K H2 p xs := SqL.of (hid_same _ _ (m2 _ _ hp))
      refine ⟨⟨xs, x, hq, hx⟩, fun y H3 h3 => ?_⟩
      obtain ⟨b, x', rfl, hb, rfl, hy⟩ := h3
      have := hy xs hq
      rw [hx] at this
      cases this
      refine ⟨same_new hb _, ⟨b, .int i, x, rfl, hid_newS w2 hb, by show V.int _ = V.int _; rw [ha1], z.mono (m2.trans (hid_mono (same_new hb _))) rx⟩⟩
    · intro OO2 H2 w2 m2
      exact ⟨xs, SqL.of (hid_same _ _ (m2 _ _ hp)), by rw [enumL_len, Paired.len pr]; exact Nat.le_refl _⟩⟩
theorem rangeI_get {lo hi : Int} {i : Nat} {a : Int} (h : (rangeI lo hi)[i]? = some a) : a = lo + i ∧ i < (hi - lo).toNat := by
  unfold rangeI at h
  rw [List.getElem?_map] at h
  rcases Nat.lt_or_ge i (hi - lo).toNat with q | q
  · rw [List.getElem?_range q] at h; exact ⟨(Option.some.inj h).symm, q⟩
  · rw [List.getElem?_eq_none (by simpa using q)] at h; cases h
theorem rangeI_len {lo hi : Int} : (rangeI lo hi).length = (hi - lo).toNat := by simp [rangeI]
def rngR (lo hi : Int) : Res (List Int) := chk (-(2 ^ 62) ≤ lo ∧ lo < 2 ^ 62 ∧ -(2 ^ 62) ≤ hi ∧ hi < 2 ^ 62) (.ok (rangeI lo hi))
theorem walk_range1 {te : TE} {m : Res Int} (he : EvB K Er S OO σ te rInt m) : Walk K Er S OO σ (iRng1 (tCons te tNil)) rInt (m.bind fun n => rngR 0 n) := ⟨fun {H R} w s P =>
  he.run w s (fun as H H' s' h J H2 s2 => h J H2 (s'.trans s2)) P fun n v H1 s1 w1 q1 r1 P1 => by
    obtain ⟨c, hc, P2⟩ := P1.okOf fun x => chk_ne
    obtain ⟨⟨_, _, h1, h2⟩, h3⟩ := chk_inv hc
    cases h3
    refine ⟨n, by rw [show v = .int n from r1], h1, h2, P2 _ H1 (Same.refl _) (fun i a ha OO2 H2 w2 m2 => ?_) fun OO2 H2 w2 m2 => ?_⟩
    · obtain ⟨e1, e2⟩ := rangeI_get ha
      rw [Int.sub_zero] at e2
      refine ⟨e2, fun x H3 ⟨e3, e4⟩ => ?_⟩
      subst e3
      exact ⟨Same.refl _, by rw [e4, e1]; rfl⟩
    · show n.toNat ≤ _
      rw [rangeI_len, Int.sub_zero]; exact Nat.le_refl _⟩
/-- for, a body that goes on -/
theorem sv_for {wi : TI} {g : TG} {tb : TS} {r : Enc α} {κ : Type} {m : Res (List α)} {body : γ → α → Res γ} {f : γ → Res β} (J : Jn γ ι) (T : ∀ OO, Tgt K OO g r κ) (x0 : ι) (g0 : γ) (he : Walk K Er S OO σ wi r m) (h1 : OO = J.oo x0) (h2 : σ = J.ss x0) (h3 : ∀ h, S.p h → (J.sc g0 x0).p h)
    (hb : ∀ g x a v, Sv Er ((T (J.oo x)).sc a v (J.sc g x)) (J.oo x) ((T (J.oo x)).set v (J.ss x)) tb (FNd J) (body g a))
    (hr : ∀ g x, Sv Er (J.sc g x) (J.oo x) (J.ss x) u Fd (f g)) : Sv Er S OO σ (tSeq (tFor wi g tb) u) Fd (m.bind fun as => (forN as g0 body).bind f) := fun H D w s P => by
  refine he.ok w s ?_
  cases em : m with
  | bad => rw [em] at P; exact P
  | err x => rw [em] at P; exact fun H' s' => P H' (hid_same.trans s')
  | ok as =>
    rw [em] at P
    have P : PZ Er (Fd D) (hid H OO) ((forN as g0 body).bind f) := P
    intro It H' s' hgo hstop
    refine ⟨fun i mm σ' H2 => mm = as.length - i ∧ i ≤ as.length ∧ ∃ x gg, σ' = J.ss x ∧ W (J.oo x) H2 ∧ Same (hid H' OO) (hid H2 (J.oo x)) ∧ (J.sc gg x).p (hid H2 (J.oo x)) ∧ PZ Er (Fd D) (hid H2 (J.oo x)) ((forN (as.drop i) gg body).bind f), ⟨as.length, rfl, Nat.zero_le _, x0, g0, h2, ?_, ?_, ?_, ?_⟩, ?_⟩
    · rw [← h1]; exact w.keep s'
    · rw [← h1]; exact Same.refl _
    · rw [← h1]; exact h3 _ (S.mono _ _ (hid_mono s') s)
    · rw [← h1, List.drop_zero]; exact PZ.tr (fd.tr D) (hid_mono s') P
    · rintro i mm σ' H2 ⟨rfl, hi, x, gg, rfl, w2, m2, sc2, P2⟩
      by_cases hlt : i < as.length
      · right
        have ha : as[i]? = some as[i] := by simp [hlt]
        obtain ⟨h4, h5⟩ := hgo i _ ha (J.oo x) H2 w2 m2
        refine ⟨h4, fun σ3 H3 => ∃ x gg, σ3 = J.ss x ∧ W (J.oo x) H3 ∧ Same (hid H' OO) (hid H3 (J.oo x)) ∧ (J.sc gg x).p (hid H3 (J.oo x)) ∧ PZ Er (Fd D) (hid H3 (J.oo x)) ((forN (as.drop (i + 1)) gg body).bind f), fun σ3 H3 q => ⟨as.length - (i + 1), Nat.sub_lt_sub_left hlt (Nat.lt_succ_self i), rfl, hlt, q⟩, fun y H3 hy => ?_⟩
        obtain ⟨s3, r3⟩ := h5 y H3 hy
        have w3 := w2.keep s3
        have m3 := hid_mono (OO := J.oo x) s3
        refine (T (J.oo x)).ok r3 ((J.sc gg x).mono _ _ m3 sc2) fun v hv => hb gg x as[i] v H3 _ w3 hv ?_
        rw [List.drop_eq_getElem_cons hlt] at P2
        have P3 : PZ Er (Fd D) (hid H2 (J.oo x)) ((body gg as[i]).bind fun g' => (forN (as.drop (i + 1)) g' body).bind f) := by rw [← bind_assoc]; exact P2
        cases eb : body gg as[i] with
        | bad => rw [eb] at P3; exact P3
        | err x => rw [eb] at P3; exact fun H4 s4 => P3 H4 (m3.trans s4)
        | ok g' =>
          rw [eb] at P3
          exact fun x' H4 w4 m4 sc4 => ⟨x', g', rfl, w4, m2.trans (m3.trans m4), sc4, PZ.tr (fd.tr D) (m3.trans m4) P3⟩
      · left
        have e : i = as.length := Nat.le_antisymm hi (Nat.not_lt.mp hlt)
        subst e
        refine ⟨hstop (J.oo x) H2 w2 m2, hr gg x H2 D w2 sc2 ?_⟩
        rw [List.drop_length] at P2
        exact P2
theorem sv_forC {o : OE ρ} {wi : TI} {g : TG} {tb : TS} {r : Enc α} {κ : Type} {m : Res (List α)} {body : γ → α → Res (Ctl ρ γ)} {f : γ → Res ρ} (J : Jn γ ι) (T : ∀ OO, Tgt K OO g r κ) (x0 : ι) (g0 : γ) (he : Walk K Er S OO σ wi r m) (h1 : OO = J.oo x0) (h2 : σ = J.ss x0) (h3 : ∀ h, S.p h → (J.sc g0 x0).p h)
    (hb : ∀ g x a v, Sv Er ((T (J.oo x)).sc a v (J.sc g x)) (J.oo x) ((T (J.oo x)).set v (J.ss x)) tb (FCd K o J) (body g a))
    (hr : ∀ g x, Sv Er (J.sc g x) (J.oo x) (J.ss x) u (FTd K o) (f g)) : Sv Er S OO σ (tSeq (tFor wi g tb) u) (FTd K o) (m.bind fun as => (forC as g0 body).bind (retOr f)) := fun H D w s P => by
  refine he.ok w s ?_
  cases em : m with
  | bad => rw [em] at P; exact P
  | err x => rw [em] at P; exact fun H' s' => P H' (hid_same.trans s')
  | ok as =>
    rw [em] at P
    have P : PZ Er (FTd K o D) (hid H OO) ((forC as g0 body).bind (retOr f)) := P
    intro It H' s' hgo hstop
    refine ⟨fun i mm σ' H2 => mm = as.length - i ∧ i ≤ as.length ∧ ∃ x gg, σ' = J.ss x ∧ W (J.oo x) H2 ∧ Same (hid H' OO) (hid H2 (J.oo x)) ∧ (J.sc gg x).p (hid H2 (J.oo x)) ∧ PZ Er (FTd K o D) (hid H2 (J.oo x)) ((forC (as.drop i) gg body).bind (retOr f)), ⟨as.length, rfl, Nat.zero_le _, x0, g0, h2, ?_, ?_, ?_, ?_⟩, ?_⟩
    · rw [← h1]; exact w.keep s'
    · rw [← h1]; exact Same.refl _
    · rw [← h1]; exact h3 _ (S.mono _ _ (hid_mono s') s)
    · rw [← h1, List.drop_zero]; exact PZ.tr (FdOk.tr D) (hid_mono s') P
    · rintro i mm σ' H2 ⟨rfl, hi, x, gg, rfl, w2, m2, sc2, P2⟩
      by_cases hlt : i < as.length
      · right
        have ha : as[i]? = some as[i] := by simp [hlt]
        obtain ⟨h4, h5⟩ := hgo i _ ha (J.oo x) H2 w2 m2
        refine ⟨h4, fun σ3 H3 => ∃ x gg, σ3 = J.ss x ∧ W (J.oo x) H3 ∧ Same (hid H' OO) (hid H3 (J.oo x)) ∧ (J.sc gg x).p (hid H3 (J.oo x)) ∧ PZ Er (FTd K o D) (hid H3 (J.oo x)) ((forC (as.drop (i + 1)) gg body).bind (retOr f)), fun σ3 H3 q => ⟨as.length - (i + 1), Nat.sub_lt_sub_left hlt (Nat.lt_succ_self i), rfl, hlt, q⟩, fun y H3 hy => ?_⟩
        obtain ⟨s3, r3⟩ := h5 y H3 hy
        have w3 := w2.keep s3
        have m3 := hid_mono (OO := J.oo x) s3
        refine (T (J.oo x)).ok r3 ((J.sc gg x).mono _ _ m3 sc2) fun v hv => hb gg x as[i] v H3 _ w3 hv ?_
        rw [List.drop_eq_getElem_cons hlt] at P2
        have P3 : PZ Er (FTd K o D) (hid H2 (J.oo x)) ((body gg as[i]).bind fun c => (match c with
          | .ret r => Res.ok (Ctl.ret r)
          | .nx g' => forC (as.drop (i + 1)) g' body).bind (retOr f)) := by rw [← bind_assoc]; exact P2
        cases eb : body gg as[i] with
        | bad => rw [eb] at P3; exact P3
        | err x => rw [eb] at P3; exact fun H4 s4 => P3 H4 (m3.trans s4)
        | ok c =>
          rw [eb] at P3
          cases c with
          | ret r => exact FdOk.tr (Fd := FTd K o) D r _ _ m3 P3
          | nx g' => exact fun x' H4 w4 m4 sc4 => ⟨x', g', rfl, w4, m2.trans (m3.trans m4), sc4, PZ.tr (FdOk.tr D) (m3.trans m4) P3⟩
      · left
        have e : i = as.length := Nat.le_antisymm hi (Nat.not_lt.mp hlt)
        subst e
        refine ⟨hstop (J.oo x) H2 w2 m2, hr gg x H2 D w2 sc2 ?_⟩
        rw [List.drop_length] at P2
        exact P2
theorem sv_forCC {κ2 : Type} {o : OE ρ} {J2 : Jn δ κ2} {wi : TI} {g : TG} {tb : TS} {r : Enc α} {κ : Type} {m : Res (List α)} {body : γ → α → Res (Ctl ρ γ)} {f : γ → Res (Ctl ρ δ)} (J : Jn γ ι) (T : ∀ OO, Tgt K OO g r κ) (x0 : ι) (g0 : γ) (he : Walk K Er S OO σ wi r m) (h1 : OO = J.oo x0) (h2 : σ = J.ss x0) (h3 : ∀ h, S.p h → (J.sc g0 x0).p h)
    (hb : ∀ g x a v, Sv Er ((T (J.oo x)).sc a v (J.sc g x)) (J.oo x) ((T (J.oo x)).set v (J.ss x)) tb (FCd K o J) (body g a))
    (hr : ∀ g x, Sv Er (J.sc g x) (J.oo x) (J.ss x) u (FCd K o J2) (f g)) : Sv Er S OO σ (tSeq (tFor wi g tb) u) (FCd K o J2) (m.bind fun as => (forC as g0 body).bind (retOrC f)) := fun H D w s P => by
  refine he.ok w s ?_
  cases em : m with
  | bad => rw [em] at P; exact P
  | err x => rw [em] at P; exact fun H' s' => P H' (hid_same.trans s')
  | ok as =>
    rw [em] at P
    have P : PZ Er (FCd K o J2 D) (hid H OO) ((forC as g0 body).bind (retOrC f)) := P
    intro It H' s' hgo hstop
    refine ⟨fun i mm σ' H2 => mm = as.length - i ∧ i ≤ as.length ∧ ∃ x gg, σ' = J.ss x ∧ W (J.oo x) H2 ∧ Same (hid H' OO) (hid H2 (J.oo x)) ∧ (J.sc gg x).p (hid H2 (J.oo x)) ∧ PZ Er (FCd K o J2 D) (hid H2 (J.oo x)) ((forC (as.drop i) gg body).bind (retOrC f)), ⟨as.length, rfl, Nat.zero_le _, x0, g0, h2, ?_, ?_, ?_, ?_⟩, ?_⟩
    · rw [← h1]; exact w.keep s'
    · rw [← h1]; exact Same.refl _
    · rw [← h1]; exact h3 _ (S.mono _ _ (hid_mono s') s)
    · rw [← h1, List.drop_zero]; exact PZ.tr (FdOk.tr D) (hid_mono s') P
    · rintro i mm σ' H2 ⟨rfl, hi, x, gg, rfl, w2, m2, sc2, P2⟩
      by_cases hlt : i < as.length
      · right
        have ha : as[i]? = some as[i] := by simp [hlt]
        obtain ⟨h4, h5⟩ := hgo i _ ha (J.oo x) H2 w2 m2
        refine ⟨h4, fun σ3 H3 => ∃ x gg, σ3 = J.ss x ∧ W (J.oo x) H3 ∧ Same (hid H' OO) (hid H3 (J.oo x)) ∧ (J.sc gg x).p (hid H3 (J.oo x)) ∧ PZ Er (FCd K o J2 D) (hid H3 (J.oo x)) ((forC (as.drop (i + 1)) gg body).bind (retOrC f)), fun σ3 H3 q => ⟨as.length - (i + 1), Nat.sub_lt_sub_left hlt (Nat.lt_succ_self i), rfl, hlt, q⟩, fun y H3 hy => ?_⟩
        obtain ⟨s3, r3⟩ := h5 y H3 hy
        have w3 := w2.keep s3
        have m3 := hid_mono (OO := J.oo x) s3
        refine (T (J.oo x)).ok r3 ((J.sc gg x).mono _ _ m3 sc2) fun v hv => hb gg x as[i] v H3 _ w3 hv ?_
        rw [List.drop_eq_getElem_cons hlt] at P2
        have P3 : PZ Er (FCd K o J2 D) (hid H2 (J.oo x)) ((body gg as[i]).bind fun c => (match c with
          | .ret r => Res.ok (Ctl.ret r)
          | .nx g' => forC (as.drop (i + 1)) g' body).bind (retOrC f)) := by rw [← bind_assoc]; exact P2
        cases eb : body gg as[i] with
        | bad => rw [eb] at P3; exact P3
        | err x => rw [eb] at P3; exact fun H4 s4 => P3 H4 (m3.trans s4)
        | ok c =>
          rw [eb] at P3
          cases c with
          | ret r => exact FdOk.tr (Fd := FTd K o) D r _ _ m3 P3
          | nx g' => exact fun x' H4 w4 m4 sc4 => ⟨x', g', rfl, w4, m2.trans (m3.trans m4), sc4, PZ.tr (FdOk.tr D) (m3.trans m4) P3⟩
      · left
        have e : i = as.length := Nat.le_antisymm hi (Nat.not_lt.mp hlt)
        subst e
        refine ⟨hstop (J.oo x) H2 w2 m2, hr gg x H2 D w2 sc2 ?_⟩
        rw [List.drop_length] at P2
        exact P2
/-- while, by fuel -/
def whileN : Nat → γ → (γ → Res Bool) → (γ → Res γ) → Res γ
  | 0, _, _, _ => .bad
  | n + 1, g, c, f => (c g).bind fun b => if b = true then (f g).bind fun g' => whileN n g' c f else .ok g
theorem sv_while {c : TT} {tb : TS} {mc : γ → Res Bool} {body : γ → Res γ} {f : γ → Res β} (J : Jn γ ι) (n : Nat) (x0 : ι) (g0 : γ) (h1 : OO = J.oo x0) (h2 : σ = J.ss x0) (h3 : ∀ h, S.p h → (J.sc g0 x0).p h)
    (hc : ∀ g x, EvT Er (J.sc g x) (J.oo x) (J.ss x) c (mc g)) (hb : ∀ g x, Sv Er (J.sc g x) (J.oo x) (J.ss x) tb (FNd J) (body g))
    (hr : ∀ g x, Sv Er (J.sc g x) (J.oo x) (J.ss x) u Fd (f g)) : Sv Er S OO σ (tSeq (tWhile c tb) u) Fd ((whileN n g0 mc body).bind f) := fun H D w s P => by
  refine ⟨fun mm σ' H2 => ∃ x gg, σ' = J.ss x ∧ W (J.oo x) H2 ∧ (J.sc gg x).p (hid H2 (J.oo x)) ∧ PZ Er (Fd D) (hid H2 (J.oo x)) ((whileN mm gg mc body).bind f), ⟨n, x0, g0, h2, by rw [← h1]; exact w, by rw [← h1]; exact h3 _ s, by rw [← h1]; exact P⟩, ?_⟩
  rintro mm σ' H2 ⟨x, gg, rfl, w2, sc2, P2⟩
  cases mm with
  | zero => exact P2.elim
  | succ mm =>
    have P3 : PZ Er (Fd D) (hid H2 (J.oo x)) ((mc gg).bind fun b => (if b = true then (body gg).bind fun g' => whileN mm g' mc body else .ok gg).bind f) := by rw [← bind_assoc]; exact P2
    refine (hc gg x).st w2 sc2 P3 fun b H3 w3 sc3 P4 => ?_
    cases b with
    | false => exact hr gg x H3 D w3 sc3 P4
    | true =>
      rw [if_pos rfl] at P4 ⊢
      refine ⟨fun σ3 H4 => ∃ x gg, σ3 = J.ss x ∧ W (J.oo x) H4 ∧ (J.sc gg x).p (hid H4 (J.oo x)) ∧ PZ Er (Fd D) (hid H4 (J.oo x)) ((whileN mm gg mc body).bind f), fun σ3 H4 q => ⟨mm, Nat.lt_succ_self _, q⟩, hb gg x H3 _ w3 sc3 ?_⟩
      rw [bind_assoc] at P4
      cases eb : body gg with
      | bad => rw [eb] at P4; exact P4
      | err x => rw [eb] at P4; exact P4
      | ok g' =>
        rw [eb] at P4
        exact fun x' H5 w5 m5 sc5 => ⟨x', g', rfl, w5, sc5, PZ.tr (fd.tr D) m5 P4⟩
/-! comprehensions -/
def mapR (as : List α) (f : α → Res β) : Res (List β) := match as with
  | [] => .ok []
  | a :: as => (f a).bind fun b => (mapR as f).bind fun bs => .ok (b :: bs)
def mapC (as : List α) (f : α → Res β) : Res (List β) := chk (as.length ≤ sizeLine) (mapR as f)
theorem PZ.chk {F : β → Hp → Prop} {H : Hp} {c : Prop} [Decidable c] {m : Res β} (P : PZ Er F H (chk c m)) : c ∧ PZ Er F H m := by
  unfold L2.chk at P; split at P
  · exact ⟨by assumption, P⟩
  · exact P.elim
/-- the new list at the end -/
theorem newLO {o : OE α} [z : MonoO o] {xs : List V} {as : List α} {Cs : List (List Cell)} {H H0 : Hp} {Q : VK} (w : W (Cs.flatten :: OO) H) (m0 : Same (hid H0 OO) (hid H (Cs.flatten :: OO))) (s0 : Same H0 H) (pr : P3 (o K (hid H (Cs.flatten :: OO))) xs as Cs) (P : FO K OO OO (oL o) Q as H0) : ∀ p, H p = none → Q (.ref p) (upd H p (.lst xs)) := fun p hp => by
  have hn := hid_new (OO := Cs.flatten :: OO) hp (o := .lst xs)
  have wn := w.new hp (o := .lst xs) rfl
  have pe : (((p, HO.lst xs) :: Cs.flatten) :: OO).flatten.Perm ([(p, HO.lst xs)] :: Cs.flatten :: OO).flatten := by simp
  refine P (.ref p) ((p, .lst xs) :: Cs.flatten) _ (s0.trans (same_new hp _)) (wn.of pe) ?_ ?_
  · rw [hid_perm pe]; exact m0.trans hn
  · rw [hid_perm pe]
    exact ⟨p, xs, Cs, rfl, pr.imp fun _ _ _ h => z.mono hn h, rfl⟩
theorem ev_comp {o : OE β} [z : MonoO o] {wi : TI} {g : TG} {te : TE} {r : Enc α} {κ : Type} {m : Res (List α)} {f : α → Res β} {n : Nat} {caps : List (Nat × Str)} (T : ∀ OO, Tgt K OO g r κ) (he : Walk K Er S OO σ wi r m)
    (hb : ∀ C a v, Ev K Er ((T (C :: OO)).sc a v S) (C :: OO) (C :: OO) ((T (C :: OO)).set v (compSt n caps σ)) te o (f a)) : Ev K Er S OO OO σ (tComp n caps wi g tTests0 te) (oL o) (m.bind fun as => mapC as f) := fun H Q w s P => by
  refine he.ok w s ?_
  cases em : m with
  | bad => rw [em] at P; exact P
  | err x => rw [em] at P; exact P
  | ok as =>
    rw [em] at P
    obtain ⟨hsz, P⟩ := PZ.chk (show PZ Er _ H (chk (as.length ≤ sizeLine) (mapR as f)) from P)
    intro It H' s' hgo hstop
    -- what is left: the rest of the items, then all
    refine ⟨fun i mm ys H2 => mm = as.length - i ∧ i ≤ as.length ∧ ∃ bs Cs, Same H H2 ∧ W (Cs.flatten :: OO) H2 ∧ Same (hid H' OO) (hid H2 (Cs.flatten :: OO)) ∧ P3 (o K (hid H2 (Cs.flatten :: OO))) ys bs Cs ∧ bs.length = i ∧ PZ Er (FO K OO OO (oL o) Q) H ((mapR (as.drop i) f).bind fun rest => .ok (bs ++ rest)),
      ⟨as.length, rfl, Nat.zero_le _, [], [], s', (w.keep s').nil, by show Same _ (hid H' ([] :: OO)); rw [hid_nil]; exact Same.refl _, .nil, rfl, ?_⟩, ?_⟩
    · rw [List.drop_zero]
      revert P
      cases mapR as f <;> exact fun z => z
    · rintro i mm ys H2 ⟨rfl, hi, bs, Cs, s2, w2, m2, pr, hlen, P2⟩
      refine ⟨by rw [pr.len.1, hlen]; omega, ?_⟩
      by_cases hlt : i < as.length
      · right
        have ha : as[i]? = some as[i] := by simp [hlt]
        obtain ⟨h4, h5⟩ := hgo i _ ha (Cs.flatten :: OO) H2 w2 m2
        refine ⟨h4, fun ys' H3 => ∃ bs Cs, Same H H3 ∧ W (Cs.flatten :: OO) H3 ∧ Same (hid H' OO) (hid H3 (Cs.flatten :: OO)) ∧ P3 (o K (hid H3 (Cs.flatten :: OO))) ys' bs Cs ∧ bs.length = i + 1 ∧ PZ Er (FO K OO OO (oL o) Q) H ((mapR (as.drop (i + 1)) f).bind fun rest => .ok (bs ++ rest)), fun ys' H3 q => ⟨as.length - (i + 1), Nat.sub_lt_sub_left hlt (Nat.lt_succ_self i), rfl, hlt, q⟩, fun y H3 hy => ?_⟩
        obtain ⟨s3, r3⟩ := h5 y H3 hy
        have w3 := w2.keep s3
        have m3 := hid_mono (OO := Cs.flatten :: OO) s3
        have sS : S.p (hid H3 (Cs.flatten :: OO)) := S.mono _ _ ((hid_mono s').trans (m2.trans m3)) s
        refine (T (Cs.flatten :: OO)).ok r3 sS fun v hv => ?_
        show tTests0 _ _ _
        refine tests0 ?_
        rw [List.drop_eq_getElem_cons hlt] at P2
        have P3' : PZ Er (FO K OO OO (oL o) Q) H ((f as[i]).bind fun b => (mapR (as.drop (i + 1)) f).bind fun rest => .ok (bs ++ b :: rest)) := by
          have : ((f as[i]).bind fun b => (mapR (as.drop (i + 1)) f).bind fun rest => Res.ok (bs ++ b :: rest)) = (mapR (as[i] :: as.drop (i + 1)) f).bind fun rest => .ok (bs ++ rest) := by
            show _ = ((f as[i]).bind fun b => (mapR (as.drop (i + 1)) f).bind fun bs => Res.ok (b :: bs)).bind _
            rw [bind_assoc]; congr 1; funext b; rw [bind_assoc]; rfl
          rw [this]; exact P2
        refine hb Cs.flatten as[i] v H3 _ w3 hv ?_
        cases eb : f as[i] with
        | bad => rw [eb] at P3'; exact P3'
        | err x => rw [eb] at P3'; exact fun H4 s4 => P3' H4 (s2.trans (s3.trans s4))
        | ok b =>
          rw [eb] at P3'
          intro v' C' H4 s4 w4 m4 ho
          have pe : ((Cs ++ [C']).flatten :: OO).flatten.Perm (C' :: Cs.flatten :: OO).flatten := by
            simp only [flat_snoc, List.flatten_cons]
            rw [List.append_assoc, ← List.append_assoc, ← List.append_assoc]
            exact List.perm_append_comm.append_right _
          refine ⟨bs ++ [b], Cs ++ [C'], s2.trans (s3.trans s4), w4.of pe, ?_, ?_, by simp [hlen], ?_⟩
          · rw [hid_perm pe]; exact m2.trans (m3.trans m4)
          · rw [hid_perm pe]; exact P3.snoc (pr.imp fun _ _ _ h => z.mono (m3.trans m4) h) ho
          · have P4 : PZ Er (FO K OO OO (oL o) Q) H ((mapR (as.drop (i + 1)) f).bind fun rest => .ok (bs ++ b :: rest)) := P3'
            simpa using P4
      · left
        have e : i = as.length := Nat.le_antisymm hi (Nat.not_lt.mp hlt)
        subst e
        refine ⟨hstop (Cs.flatten :: OO) H2 w2 m2, ?_⟩
        rw [List.drop_length] at P2
        have P3' : FO K OO OO (oL o) Q (bs ++ []) H := P2
        rw [List.append_nil] at P3'
        exact newLO (H0 := H) w2 ((hid_mono s').trans m2) s2 pr P3'
/-! xs[i] = e -/
end
end L2

/-! ### mirrors: items changed, taken out; several names at once; built-ins -/
namespace L2
open PySem PySem.Spec PyProof.Rows
section
variable {K : PySem.W.Frag} {Er : Exc → Hp → Prop} {S : SC} {OO OO' OO2 : List (List Cell)} {σ : St} {α β γ ρ ι δ ε : Type}
variable {Fd : Ends → β → Hp → Prop} [fd : FdOk Fd] {u : TS}
theorem chgW' {C D C' : List Cell} {H : Hp} {k : Nat} {p : Addr} {o : HO} (w : W (D :: OO) H) (hk : OO[k]? = some C) (hp : p ∈ C.map (·.1)) (hp' : p ∈ C'.map (·.1)) (hnd : (C'.map (·.1)).Nodup) (hin : ∀ b ∈ C'.map (·.1), b ∈ (C ++ D).map (·.1)) (ht : ∀ c ∈ C', upd H p o c.1 = some c.2) (hm : ∀ c ∈ C', mutK c.2 = true) :
    W (OO.set k C') (upd H p o) ∧ Same (hid H (D :: OO)) (hid (upd H p o) (OO.set k C')) := by
  have hlt : k < OO.length := by
    rcases Nat.lt_or_ge k OO.length with h | h
    · exact h
    · rw [List.getElem?_eq_none h] at hk; cases hk
  have h1 := set_flat hk
  have h2 := set_flat (OO := OO.set k C') (k := k) (C := C') (by simp [hlt])
  rw [set_set] at h2
  have h3 : (OO.set k C').flatten.Perm (C' ++ (OO.set k []).flatten) := by simpa using h2.symm
  have h4 : (D :: OO).flatten.Perm ((C ++ D) ++ (OO.set k []).flatten) := by
    rw [List.flatten_cons]
    refine ((by simpa using h1.symm : OO.flatten.Perm (C ++ (OO.set k []).flatten)).append_left D).trans ?_
    rw [← List.append_assoc]
    exact List.perm_append_comm.append_right _
  have nd2 : (((C ++ D) ++ (OO.set k []).flatten).map (·.1)).Nodup := (h4.map _).nodup_iff.mp w.nd
  rw [List.map_append] at nd2
  obtain ⟨n1, n2, n3⟩ := List.nodup_append.mp nd2
  refine ⟨⟨fun c hc => ?_, ?_, fun c hc => ?_⟩, fun b v q => ?_⟩
  · rcases List.mem_append.mp (h3.mem_iff.mp hc) with hc | hc
    · exact ht c hc
    · have hne : c.1 ≠ p := fun e => n3 p (hin p hp') c.1 (List.mem_map.mpr ⟨c, hc, rfl⟩) e.symm
      rw [upd_ne hne]
      exact w.tr c (h4.mem_iff.mpr (by simp [hc]))
  · refine ((h3.map _).nodup_iff).mpr ?_
    rw [List.map_append]
    exact List.nodup_append.mpr ⟨hnd, n2, fun a ha b hb => n3 a (hin a ha) b hb⟩
  · rcases List.mem_append.mp (h3.mem_iff.mp hc) with hc | hc
    · exact hm c hc
    · exact w.mu c (h4.mem_iff.mpr (by simp [hc]))
  · obtain ⟨q1, q2⟩ := hid_some q
    have hbp : b ≠ p := fun e => q2 (by
      rw [e]
      obtain ⟨c, hc, rfl⟩ := List.mem_map.mp hp
      exact fl_mem (h4.mem_iff.mpr (by simp [hc])))
    refine hid_of (by rw [upd_ne hbp]; exact q1) fun z => q2 ?_
    obtain ⟨o', ho'⟩ := fl_ex z
    rcases List.mem_append.mp (h3.mem_iff.mp ho') with hc | hc
    · obtain ⟨c, hc2, e⟩ := List.mem_map.mp (hin b (List.mem_map.mpr ⟨_, hc, rfl⟩))
      rw [← e]
      exact fl_mem (h4.mem_iff.mpr (List.mem_append_left _ hc2))
    · exact fl_mem (c := (b, o')) (h4.mem_iff.mpr (by simp [hc]))
/-- the list at p gets other items; the cells of the items are old ones -/
theorem updL {D : List Cell} {Cs Cs' : List (List Cell)} {H : Hp} {k : Nat} {p : Addr} {xs xs' : List V} (w : W (D :: OO) H) (hk : OO[k]? = some ((p, .lst xs) :: Cs.flatten)) (hin : ∀ c ∈ Cs'.flatten, c ∈ Cs.flatten ++ D) (hnd : (Cs'.flatten.map (·.1)).Nodup) :
    W (OO.set k ((p, .lst xs') :: Cs'.flatten)) (upd H p (.lst xs')) ∧ Same (hid H (D :: OO)) (hid (upd H p (.lst xs')) (OO.set k ((p, .lst xs') :: Cs'.flatten))) := by
  have h1 := set_flat hk
  have w3 : W [((p, HO.lst xs) :: (Cs.flatten ++ D)) ++ (OO.set k []).flatten] H := w.of (by
    simp only [List.flatten_cons, List.flatten_nil, List.append_nil]
    refine List.Perm.trans ?_ ((by simpa using h1 : (((p, HO.lst xs) :: Cs.flatten) ++ (OO.set k []).flatten).Perm OO.flatten).append_left D)
    rw [← List.append_assoc]
    refine List.Perm.append_right _ ?_
    exact (List.perm_append_comm (l₁ := (p, HO.lst xs) :: Cs.flatten) (l₂ := D)))
  have nd := w3.nd
  simp only [fl, List.flatten_cons, List.flatten_nil, List.append_nil, List.map_append, List.cons_append, List.map_cons] at nd
  have hne : ∀ c ∈ Cs'.flatten, c.1 ≠ p := fun c hc e => by
    refine (List.nodup_cons.mp nd).1 ?_
    rw [← e]
    refine List.mem_append_left _ ?_
    rw [← List.map_append]
    exact List.mem_map.mpr ⟨c, hin c hc, rfl⟩
  refine chgW' w hk List.mem_cons_self List.mem_cons_self ?_ ?_ ?_ ?_
  · rw [List.map_cons, List.nodup_cons]
    refine ⟨fun z => ?_, hnd⟩
    obtain ⟨c, hc, e⟩ := List.mem_map.mp z
    exact hne c hc e
  · intro b hb
    rcases List.mem_cons.mp hb with rfl | hb
    · exact List.mem_cons_self
    · obtain ⟨c, hc, rfl⟩ := List.mem_map.mp hb
      rw [List.cons_append, List.map_cons]
      exact List.mem_cons_of_mem _ (List.mem_map.mpr ⟨c, hin c hc, rfl⟩)
  · intro c hc
    rcases List.mem_cons.mp hc with rfl | hc
    · exact upd_same
    · rw [upd_ne (hne c hc)]
      exact w3.tr c (by
        rw [List.flatten_cons, List.flatten_nil, List.append_nil]
        exact List.mem_append_left _ (List.mem_cons_of_mem _ (hin c hc)))
  · intro c hc
    rcases List.mem_cons.mp hc with rfl | hc
    · rfl
    · exact w3.mu c (by
        rw [List.flatten_cons, List.flatten_nil, List.append_nil]
        exact List.mem_append_left _ (List.mem_cons_of_mem _ (hin c hc)))
/-- two readings of one of our names have the same cells -/
theorem oL_cell {o : OE α} {h : Hp} {p : Addr} {xs : List V} {as : List α} {R : List Cell} (q : oL o K h (.ref p) as ((p, .lst xs) :: R)) : ∃ Cs, P3 (o K h) xs as Cs ∧ R = Cs.flatten := by
  obtain ⟨p', xs', Cs, e, q, c⟩ := q
  injection c with c1 c2
  injection c1 with c3 c4
  injection c4 with c5
  subst c5
  exact ⟨Cs, q, c2⟩
theorem cells_nodup {D : List Cell} {Cs : List (List Cell)} {H : Hp} {k : Nat} {p : Addr} {xs : List V} (w : W (D :: OO) H) (hk : OO[k]? = some ((p, .lst xs) :: Cs.flatten)) : ((Cs.flatten ++ D).map (·.1)).Nodup := by
  have h1 := set_flat hk
  have w3 : W [((p, HO.lst xs) :: (Cs.flatten ++ D)) ++ (OO.set k []).flatten] H := w.of (by
    simp only [List.flatten_cons, List.flatten_nil, List.append_nil]
    refine List.Perm.trans ?_ ((by simpa using h1 : (((p, HO.lst xs) :: Cs.flatten) ++ (OO.set k []).flatten).Perm OO.flatten).append_left D)
    rw [← List.append_assoc]
    refine List.Perm.append_right _ ?_
    exact (List.perm_append_comm (l₁ := (p, HO.lst xs) :: Cs.flatten) (l₂ := D)))
  have nd := w3.nd
  simp only [fl, List.flatten_cons, List.flatten_nil, List.append_nil, List.cons_append, List.map_cons] at nd
  have n2 := (List.nodup_cons.mp nd).2
  rw [List.map_append] at n2
  exact (List.nodup_append.mp n2).1
/-- xs.extend(ys): what ys holds is given away -/
theorem sv_ext {ta : TE} {o : OE α} [MonoO o] {m : Res (List α)} {f : List α → Res β} {v : V} {as : List α} {C : List Cell} (i k : Nat) (hσ : σ[i]? = some (some v)) (hk : OO[k]? = some C) (hk' : OO'[k]? = some C) (h : ∀ x, S.p x → oL o K x v as C) (he : Ev K Er S OO OO' σ ta (oL o) m)
    (hr : ∀ bs C', Sv Er (S.addO K (oL o) v (as ++ bs) C') (OO'.set k C') σ u Fd (f (as ++ bs))) : Sv Er S OO σ (tSeq (tDrop (tBM K "list" rExtend (tVar i) (tCons ta tNil))) u) Fd (m.bind fun bs => chk (as.length + bs.length ≤ sizeLine) (f (as ++ bs))) := fun H D w s P => by
  obtain ⟨p, xs, Cs, e, q, c⟩ := h _ s
  subst c
  have hH : H p = some (.lst xs) := w.tr (p, .lst xs) (List.mem_flatten.mpr ⟨_, List.mem_of_getElem? hk, List.mem_cons_self⟩)
  refine ⟨v, hσ, by rw [e]; exact .inl ⟨rfl, _, SqL.of hH⟩, he.st w s P fun bs y D' H' w' s' ho P' => ?_⟩
  obtain ⟨hsz, P'⟩ := PZ.chk P'
  subst e
  obtain ⟨Cs2, q2, c2⟩ := oL_cell (h _ s')
  obtain ⟨p', zs, Ds, e3, q3, c3⟩ := ho
  subst c3
  have hH' : H' p = some (.lst xs) := w'.tr (p, .lst xs) (by rw [List.flatten_cons]; exact List.mem_append_right _ (List.mem_flatten.mpr ⟨_, List.mem_of_getElem? hk', List.mem_cons_self⟩))
  have hH2 : H' p' = some (.lst zs) := w'.tr (p', .lst zs) (by rw [List.flatten_cons]; exact List.mem_append_left _ List.mem_cons_self)
  have cn := cells_nodup w' hk'
  obtain ⟨w3, m3⟩ := updL (xs' := xs ++ zs) (Cs' := Cs2 ++ Ds) w' hk' (fun c hc => by
      rw [List.flatten_append, List.mem_append] at hc
      rcases hc with hc | hc
      · rw [c2]; exact List.mem_append_left _ hc
      · exact List.mem_append_right _ (List.mem_cons_of_mem _ hc)) (by
      rw [List.flatten_append, ← c2]
      refine List.Nodup.sublist (List.Sublist.map _ ?_) cn
      exact List.Sublist.append (List.Sublist.refl _) (List.sublist_cons_self _ _))
  refine ⟨p, p', xs, zs, rfl, by rw [e3], hH', hH2, by rw [q2.len.1, q3.len.1]; exact hsz, ?_⟩
  exact hr bs _ _ D w3 ⟨S.mono _ _ m3 s', ⟨p, _, _, rfl, P3.imp (fun _ _ _ z => MonoO.mono m3 z) (q2.app q3), rfl⟩⟩ (PZ.tr (fd.tr D) m3 P')
/-! built-ins -/
/-- isinstance of things whose kind is known -/
class TyE {α : Type} (r : Enc α) (n : outParam String) : Prop where
  ty : ∀ {K : PySem.W.Frag} {H : Hp} {v : V} {a : α}, r K H v a → TyOf K H v (.type n)
instance : TyE rInt "int" := ⟨fun {K H v a} h => by cases (show v = .int a from h); exact .int a⟩
instance : TyE rBool "bool" := ⟨fun {K H v a} h => by cases (show v = .bl a from h); exact .bl a⟩
instance {r : Enc α} : TyE (rV r) "list" := ⟨fun ⟨p, xs, e, q, _⟩ => by subst e; exact .lst q⟩
instance {r : Enc α} : TyE (rPL r) "tuple" := ⟨fun ⟨p, xs, e, q, _⟩ => by subst e; exact .tup q⟩
instance {r : Enc α} {q : Enc γ} : TyE (rP2 r q) "tuple" := ⟨fun ⟨p, x, y, e, q, _⟩ => by subst e; exact .tup q⟩
instance {r : Enc α} {q : Enc γ} {t : Enc δ} : TyE (rP3 r q t) "tuple" := ⟨fun ⟨p, x, y, z, e, q, _⟩ => by subst e; exact .tup q⟩
theorem evb_isinst {te : TE} {r : Enc α} {n : String} [z : TyE r n] {m : Res α} (t : String) (b : Bool) (hk : PySem.W.kitOne K (.type n) (.type t) = some b) (he : EvB K Er S OO σ te r m) :
    EvB K Er S OO σ (tCB (fun xs H Q => ∃ x n t b, xs = [x, .ty n] ∧ TyOf K H x t ∧ PySem.W.kitOne K t (.type n) = some b ∧ Q (.bl b) H) (tCons te (tCons (tC (.ty t)) tNil))) rBool (m.bind fun _ => .ok b) := fun H Q w s P =>
  he.run w s FB.tr P fun a x H1 s1 w1 q1 r1 P1 => ⟨x, t, .type n, b, rfl, z.ty r1, hk, P1 _ H1 (Same.refl _) rfl⟩
end
end L2

/-! ### mirrors: the def as a whole, and more -/
namespace L2
open PySem PySem.Spec PyProof.Rows
section
variable {K : PySem.W.Frag} {Er : Exc → Hp → Prop} {S : SC} {OO OO' OO1 OO2 : List (List Cell)} {σ : St} {α β γ ρ ι δ ε : Type}
variable {Fd : Ends → β → Hp → Prop} [fd : FdOk Fd] {u : TS}
theorem nilsW (n : Nat) (H : Hp) : W (List.replicate n []) H := ⟨fun c hc => (by rw [flat_nils] at hc; cases hc), (by unfold fl; rw [flat_nils]; exact List.nodup_nil), fun c hc => (by rw [flat_nils] at hc; cases hc)⟩
theorem nilsH (n : Nat) (H : Hp) : hid H (List.replicate n []) = H := by funext b; unfold hid fl; rw [flat_nils]; simp
theorem retEnd {o : OE ρ} [z : MonoO o] {Q : VK} {b : ρ} {H : Hp} (q : FF K o Q b H) : ∀ v C OO' H', W (C :: OO') H' → Same H (hid H' (C :: OO')) → o K (hid H' (C :: OO')) v b C → Q v H' := fun v C OO' H' w m ho => by
  have hs : Same (hid H' (C :: OO')) (hid H' [C]) := hid_sub (Same.refl _) fun b hb => by
    rw [fl_cons]
    refine List.mem_append_left _ ?_
    simpa [fl] using hb
  exact q v C H' (w.sub (by simp)) (m.trans hs) (z.mono hs ho)
theorem top_T {o : OE ρ} [MonoO o] {t : TS} {m : Res ρ} {Q : VK} {b : ρ} {H : Hp} {D : Ends} (n : Nat) (h : Sv (fun _ _ => False) S (List.replicate n []) σ t (FTd K o) m) (hs : S.p H) (hm : m = .ok b) (q : FF K o Q b H) (hD : D.rt = Q) : t D σ H := by
  refine h H D (nilsW n H) (by rw [nilsH]; exact hs) ?_
  subst hm
  rw [nilsH]
  intro v C OO' H' w mm ho
  rw [hD]
  exact retEnd q v C OO' H' w mm ho
/-- nothing is given back -/
def oU : OE Unit := fun _ _ v _ C => v = .non ∧ C = []
instance : MonoO oU := ⟨fun _ h => h⟩
instance : FlatO oU := ⟨fun _ h => h⟩
def rU0 : Enc Unit := fun _ _ v _ => v = .non
instance : FlatE rU0 := ⟨fun _ h => h⟩
instance : FrzC oU rU0 := ⟨fun h _ _ => h.1⟩
theorem top_U {J : Jn Unit ι} {t : TS} {m : Res Unit} {Q : VK} {b : Unit} {H : Hp} {D : Ends} (n : Nat) (h : Sv (fun _ _ => False) S (List.replicate n []) σ t (FNd J) m) (hs : S.p H) (hm : m = .ok b) (q : FF K oU Q b H) (hD : ∀ σ H, D.nx σ H = Q .non H) : t D σ H := by
  refine h H D (nilsW n H) (by rw [nilsH]; exact hs) ?_
  subst hm
  rw [nilsH]
  intro x H' w mm ho
  rw [hD]
  have hs : Same (hid H' (J.oo x)) (hid H' [[]]) := hid_sub (Same.refl _) fun b hb => by simp [fl] at hb
  exact q .non [] H' ⟨fun c hc => by simp at hc, by simp [fl], fun c hc => by simp at hc⟩ (mm.trans hs) ⟨rfl, rfl⟩
theorem sv_expr {te : TE} {r : Enc α} {m : Res α} {f : Res β} (he : EvB K Er S OO σ te r m) (hr : Sv Er S OO σ u Fd f) : Sv Er S OO σ (tSeq (tDrop te) u) Fd (m.bind fun _ => f) := fun H D w s P =>
  he.st w s P fun a v H' s1 w' s' ho P' => hr H' D w' s' P'
/-! displays of things that are ours -/
def FAO {α : Type} (K : PySem.W.Frag) (OO OO' : List (List Cell)) (o : OE α) (Q : List V → Hp → Prop) (as : List α) (H : Hp) : Prop := ∀ vs Cs H', Same H H' → W (Cs.flatten :: OO') H' → Same (hid H OO) (hid H' (Cs.flatten :: OO')) → P3 (o K (hid H' (Cs.flatten :: OO'))) vs as Cs → Q vs H'
def EvAO {α : Type} (K : PySem.W.Frag) (Er : Exc → Hp → Prop) (S : SC) (OO OO' : List (List Cell)) (σ : St) (t : TA) (o : OE α) (m : Res (List α)) : Prop := ∀ H Q, W OO H → S.p (hid H OO) → PZ Er (FAO K OO OO' o Q) H m → t σ H Q
theorem evao_nil {o : OE α} : EvAO K Er S OO OO σ tNil o (.ok []) := fun H Q w s P => P [] [] H (Same.refl _) w.nil (by show Same _ (hid H ([] :: OO)); rw [hid_nil]; exact Same.refl _) .nil
theorem evao_cons {te : TE} {t : TA} {o : OE α} [z : MonoO o] {m : Res α} {n : Res (List α)} (he : Ev K Er S OO OO1 σ te o m) (ht : ∀ C, EvAO K Er S (C :: OO1) (C :: OO2) σ t o n) : EvAO K Er S OO OO2 σ (tCons te t) o (m.bind fun a => n.bind fun as => .ok (a :: as)) := fun H Q w s P => by
  refine he H _ w s ?_
  cases em : m with
  | bad => rw [em] at P; exact P
  | err x => rw [em] at P; exact P
  | ok a =>
    rw [em] at P
    intro v C H1 s1 w1 m1 ho
    refine ht C H1 _ w1 (S.mono _ _ m1 s) ?_
    have P1 : PZ Er (FAO K OO OO2 o Q) H (n.bind fun as => .ok (a :: as)) := P
    cases en : n with
    | bad => rw [en] at P1; exact P1
    | err x => rw [en] at P1; exact fun H2 s2 => P1 H2 (s1.trans s2)
    | ok as =>
      rw [en] at P1
      have P1 : FAO K OO OO2 o Q (a :: as) H := P1
      intro vs Cs H2 s2 w2 m2 pr
      have pe : ((C :: Cs).flatten :: OO2).flatten.Perm (Cs.flatten :: C :: OO2).flatten := by
        simp only [List.flatten_cons]
        rw [← List.append_assoc]
        exact List.perm_append_comm.append_right _
      refine P1 (v :: vs) (C :: Cs) H2 (s1.trans s2) (w2.of pe) ?_ ?_
      · rw [hid_perm pe]; exact m1.trans m2
      · rw [hid_perm pe]; exact .cons (z.mono m2 ho) pr
theorem ev_lstO {t : TA} {o : OE α} [z : MonoO o] {m : Res (List α)} (h : EvAO K Er S OO OO σ t o m) : Ev K Er S OO OO σ (tLst t) (oL o) (m.bind fun as => chk (as.length ≤ sizeLine) (.ok as)) := fun H Q w s P => by
  refine h H _ w s ?_
  cases e : m with
  | bad => rw [e] at P; exact P
  | err x => rw [e] at P; exact P
  | ok as =>
    rw [e] at P
    obtain ⟨hsz, P⟩ := PZ.chk (show PZ Er _ H (chk (as.length ≤ sizeLine) (.ok as)) from P)
    intro vs Cs H1 s1 w1 m1 p
    exact ⟨by rw [p.len.1]; exact hsz, newLO w1 m1 s1 p P⟩
/-! in -/
class InE {α : Type} [DecidableEq α] (r : Enc α) : Prop where
  fl : ∀ {K : PySem.W.Frag} {H : Hp} {x : V} {a : α}, r K H x a → flatV x = true
  eq : ∀ {K : PySem.W.Frag} {H H' : Hp} {x y : V} {a b : α}, r K H x a → r K H' y b → eqV x y = decide (a = b)
instance : InE rInt := ⟨fun {K H x a} h => by cases (show x = .int a from h); rfl, fun {K H H' x y a b} h h' => by
  cases (show x = .int a from h); cases (show y = .int b from h'); show (a == b) = _; rw [dec_i]⟩
theorem in_paired [DecidableEq α] {r : Enc α} [z : InE r] {H H' : Hp} {x : V} {a : α} (hx : r K H x a) : ∀ {xs : List V} {as : List α}, Paired (r K H') xs as → xs.all flatV = true ∧ inV x xs = decide (a ∈ as)
  | _, _, .nil => ⟨rfl, by simp [inV]⟩
  | _, _, .cons h t => by
    obtain ⟨h1, h2⟩ := in_paired hx t
    refine ⟨by rw [List.all_cons, h1, z.fl h]; rfl, ?_⟩
    unfold inV at h2 ⊢
    rw [List.any_cons, h2, z.eq h hx, Bool.eq_iff_iff, Bool.or_eq_true, decide_eq_true_eq, decide_eq_true_eq, decide_eq_true_eq, List.mem_cons]
    exact or_congr ⟨Eq.symm, Eq.symm⟩ Iff.rfl
theorem evb_nin [DecidableEq α] {ta tb : TE} {r : Enc α} [z : InE r] {ma : Res α} {mb : Res (List α)} (ha : EvB K Er S OO σ ta r ma) (hb : EvB K Er S OO σ tb (rV r) mb) : EvB K Er S OO σ (tOp (rIn K true) ta tb) rBool (ma.bind fun a => mb.bind fun as => .ok (!decide (a ∈ as))) := fun H Q w s P =>
  ha.run w s FB.tr P fun a x H1 s1 w1 q1 r1 P1 => hb.run w1 q1 FB.tr P1 fun b y H2 s2 w2 q2 ⟨p, xs, e, q, pr⟩ P2 => by
    obtain ⟨h1, h2⟩ := in_paired r1 pr
    exact ⟨p, xs, e, .inl (SqL.of q), z.fl r1, h1, P2 _ H2 (Same.refl _) (by rw [h2]; rfl)⟩
/-! the first place of an item -/
def idxR [DecidableEq α] (as : List α) (a : α) : Res Int := match as.findIdx? (fun b => decide (b = a)) with
  | some j => .ok (j : Int)
  | none => .bad
theorem idx_paired [DecidableEq α] {r : Enc α} [z : InE r] {H H' : Hp} {x : V} {a : α} (hx : r K H x a) {xs : List V} {as : List α} (p : Paired (r K H') xs as) {j : Nat} (hj : as.findIdx? (fun b => decide (b = a)) = some j) :
    (∃ y, xs[j]? = some y ∧ eqV y x = true) ∧ ∀ (m : Nat) y, m < j → xs[m]? = some y → eqV y x = false := by
  rw [List.findIdx?_eq_some_iff_getElem] at hj
  obtain ⟨h1, h2, h3⟩ := hj
  constructor
  · obtain ⟨y, hy, ry⟩ := Paired.getR p (i := j) (b := as[j]) (by simp [h1])
    exact ⟨y, hy, by rw [z.eq ry hx]; exact h2⟩
  · intro m y hm hy
    obtain ⟨b, hb, rb⟩ := Paired.getL p hy
    have hml : m < as.length := by omega
    have e : b = as[m] := by rw [List.getElem?_eq_getElem hml] at hb; exact (Option.some.inj hb).symm
    rw [z.eq rb hx, e]
    have := h3 m hm
    simpa using this
theorem idxR_ne [DecidableEq α] {as : List α} {a : α} {x : Exc} : idxR as a ≠ .err x := by unfold idxR; split <;> exact fun z => nomatch z
theorem idxR_ok [DecidableEq α] {as : List α} {a : α} {n : Int} (h : idxR as a = .ok n) : ∃ j : Nat, as.findIdx? (fun b => decide (b = a)) = some j ∧ n = j := by
  unfold idxR at h; split at h
  · cases h; exact ⟨_, by assumption, rfl⟩
  · cases h
theorem evb_index [DecidableEq α] {ta tb : TE} {r : Enc α} [z : InE r] [y : MonoE r] {ma : Res (List α)} {mb : Res α} (ha : EvB K Er S OO σ ta (rV r) ma) (hb : EvB K Er S OO σ tb r mb) : EvB K Er S OO σ (tBM K "list" (rIndex K) ta (tCons tb tNil)) rInt (ma.bind fun as => mb.bind fun a => idxR as a) := fun H Q w s P =>
  ha.run w s FB.tr P fun as x H1 s1 w1 q1 ⟨p, xs, e, q, pr⟩ P1 => ⟨by rw [e]; exact .inl ⟨rfl, _, SqL.of q⟩, hb.run w1 q1 FB.tr P1 fun b v H2 s2 w2 q2 r2 P2 => by
    obtain ⟨c, hc, P3⟩ := P2.okOf fun x => idxR_ne
    obtain ⟨j, hj, rfl⟩ := idxR_ok hc
    have pr2 := Paired.imp2 (G := r K H2) (fun _ _ h => y.mono s2 h) pr
    obtain ⟨h1, h2⟩ := idx_paired r2 pr2 hj
    exact ⟨p, xs, v, j, e, rfl, SqL.of (s2 _ _ q), z.fl r2, (in_paired r2 pr2).1, h1, h2, P3 _ H2 (Same.refl _) rfl⟩⟩
/-! None -/
theorem evb_notN {ta tb : TE} {r : Enc α} {m : Res (Option α)} (ha : EvB K Er S OO σ ta (rOpt r) m) : EvB K Er S OO σ (tOp (fun x y H Q => y = .non ∧ Q (.bl (!decide (x = .non))) H) ta (tC .non)) rBool (m.bind fun a => .ok a.isSome) := fun H Q w s P =>
  ha.run w s FB.tr P fun a x H1 s1 w1 q1 r1 P1 => ⟨rfl, P1 _ H1 (Same.refl _) (by
    cases a with
    | none => rw [show x = .non from r1]; rfl
    | some a => show V.bl _ = V.bl _; rw [decide_eq_false r1.1]; rfl)⟩
/-! a op b op c -/
theorem evb_chain {ta tb tc : TE} {p q : Int → Int → Bool} {ma mb mc : Res Int} (ha : EvB K Er S OO σ ta rInt ma) (hb : EvB K Er S OO σ tb rInt mb) (hc : EvB K Er S OO σ tc rInt mc) :
    EvB K Er S OO σ (tChain (rI0 fun i j => .bl (p i j)) (rI0 fun i j => .bl (q i j)) ta tb tc) rBool (ma.bind fun a => mb.bind fun b => if p a b = true then mc.bind fun c => .ok (q b c) else .ok false) := fun H Q w s P =>
  ha.run w s FB.tr P fun a x H1 s1 w1 q1 r1 P1 => hb.run w1 q1 FB.tr P1 fun b y H2 s2 w2 q2 r2 P2 => ⟨a, b, r1, r2, p a b, rfl, by
    cases h : p a b with
    | false => rw [h] at P2; exact P2 _ H2 (Same.refl _) rfl
    | true =>
      rw [h, if_pos rfl] at P2
      rw [if_pos rfl]
      exact hc.run w2 q2 FB.tr P2 fun c z H3 s3 w3 q3 r3 P3 => ⟨b, c, r2, r3, P3 _ H3 (Same.refl _) rfl⟩⟩
/-! == of tracked lists and tuples -/
theorem eqo_imp {α : Type} [DecidableEq α] {r r' : Enc α} {d : Nat} (E : EqOk r d) (h : ∀ {K : PySem.W.Frag} {H : Hp} {v : V} {a : α}, r' K H v a → r K H v a) (m : MonoE r') : EqOk r' d where
  uniq := fun I h1 h2 => E.uniq I (h h1) (h h2)
  eq := fun I rx ry h1 h2 hu => E.eq I rx ry (h h1) (h h2) hu
  rc := fun I rx ry h1 h2 hu => E.rc I rx ry (h h1) (h h2) hu
  ne := fun I rx ry h1 h2 hu => E.ne I rx ry (h h1) (h h2) hu
  keep := fun s q => m.mono s q
theorem eq_V {α : Type} [DecidableEq α] {r : Enc α} {d : Nat} [m : MonoE r] (E : EqOk r d) : EqOk (rV r) (d + 1) := eqo_imp (eq_list E) (fun ⟨a, xs, e, q, p⟩ => ⟨a, xs, e, SqL.of q, p⟩) inferInstance
end
end L2

/-! ### mirrors: more -/
namespace L2
open PySem PySem.Spec PyProof.Rows
section
variable {K : PySem.W.Frag} {Er : Exc → Hp → Prop} {S : SC} {OO OO' OO1 OO2 : List (List Cell)} {σ : St} {α β γ ρ ι δ ε : Type}
variable {Fd : Ends → β → Hp → Prop} [fd : FdOk Fd] {u : TS}
theorem sv_ifN {c : TT} {t1 : TS} {mc : Res Bool} {m2 : Res β} (hc : EvT Er S OO σ c mc) (h2 : Sv Er S OO σ u Fd m2) : Sv Er S OO σ (tSeq (tIfS c t1 tNext) u) Fd (mc.bind fun b => if b = true then .bad else m2) := fun H D w s P =>
  hc.st w s P fun b H' w' s' P' => by
    cases b with
    | true => rw [if_pos rfl] at P'; exact P'.elim
    | false => exact h2 H' D w' s' P'
/-! items of items changed -/
theorem kit_same (K : PySem.W.Frag) (T : String) : PySem.W.kitOne K (.type T) (.type T) = some true := by
  unfold PySem.W.kitOne
  rw [if_pos (beq_self_eq_true _)]
theorem kit_int_bool (K : PySem.W.Frag) : PySem.W.kitOne K (.type "int") (.type "bool") = some false := by
  first
    | rfl
    | decide +kernel
    | (unfold PySem.W.kitOne PySem.W.kitCls; rfl)
end
end L2

/-! ### mirrors: more built-ins -/
namespace L2
open PySem PySem.Spec PyProof.Rows
section
variable {K : PySem.W.Frag} {Er : Exc → Hp → Prop} {S : SC} {OO OO' OO1 OO2 : List (List Cell)} {σ : St} {α β γ ρ ι δ ε : Type}
variable {Fd : Ends → β → Hp → Prop} [fd : FdOk Fd] {u : TS}
theorem evb_indexE [DecidableEq α] {ta tb : TE} {r : Enc α} [y : MonoE r] {ma : Res (List α)} {mb : Res α} (ha : EvB K Er S OO σ ta (rV r) ma) (hb : EvB K Er S OO σ tb r mb) : EvB K Er S OO σ (tBM K "list" (rIndexE K r) ta (tCons tb tNil)) rInt (ma.bind fun as => mb.bind fun a => idxR as a) := fun H Q w s P =>
  ha.run w s FB.tr P fun as x H1 s1 w1 q1 ⟨p, xs, e, q, pr⟩ P1 => ⟨by rw [e]; exact .inl ⟨rfl, _, SqL.of q⟩, hb.run w1 q1 FB.tr P1 fun b v H2 s2 w2 q2 r2 P2 => by
    obtain ⟨c, hc, P3⟩ := P2.okOf fun x => idxR_ne
    obtain ⟨j, hj, rfl⟩ := idxR_ok hc
    have pr2 := Paired.imp2 (G := r K H2) (fun _ _ h => y.mono s2 h) pr
    rw [List.findIdx?_eq_some_iff_getElem] at hj
    obtain ⟨h1, h2, h3⟩ := hj
    refine ⟨p, xs, v, as, b, j, e, rfl, SqL.of (s2 _ _ q), pr2, r2, ?_, fun m c hm hc => ?_, P3 _ H2 (Same.refl _) rfl⟩
    · rw [List.getElem?_eq_getElem h1]
      have : as[j] = b := by simpa using h2
      rw [this]
    · have hml : m < as.length := by omega
      rw [List.getElem?_eq_getElem hml] at hc
      cases hc
      simpa using h3 m hm⟩
/-- what may be None, known not to be -/
def optR : Option α → Res α
  | some a => .ok a
  | none => .bad
theorem nn_P3 {r : Enc α} {q : Enc γ} {t : Enc δ} {K : PySem.W.Frag} {h : Hp} {v : V} {a : α × γ × δ} {C : List Cell} (q : oF (rP3 r q t) K h v a C) : v ≠ .non := by
  obtain ⟨_, p, x, y, z, e, _⟩ := q
  rw [e]; exact fun z => nomatch z
end
end L2

/-! ### mirrors: tuples of four and five, dicts of ints, max -/
namespace L2
open PySem PySem.Spec PyProof.Rows
section
variable {K : PySem.W.Frag} {Er : Exc → Hp → Prop} {S : SC} {OO OO' OO1 OO2 : List (List Cell)} {σ : St} {α β γ ρ ι δ ε : Type}
variable {α1 α2 α3 α4 α5 : Type}
def rP4 (r1 : Enc α1) (r2 : Enc α2) (r3 : Enc α3) (r4 : Enc α4) : Enc (α1 × α2 × α3 × α4) := fun K H v p => ∃ a x1 x2 x3 x4, v = .ref a ∧ H a = some (.tup [x1, x2, x3, x4]) ∧ r1 K H x1 p.1 ∧ r2 K H x2 p.2.1 ∧ r3 K H x3 p.2.2.1 ∧ r4 K H x4 p.2.2.2
instance {r1 : Enc α1} {r2 : Enc α2} {r3 : Enc α3} {r4 : Enc α4} [m1 : MonoE r1] [m2 : MonoE r2] [m3 : MonoE r3] [m4 : MonoE r4] : MonoE (rP4 r1 r2 r3 r4) := ⟨fun s ⟨a, x1, x2, x3, x4, e, h, p1, p2, p3, p4⟩ => ⟨a, x1, x2, x3, x4, e, s _ _ h, m1.mono s p1, m2.mono s p2, m3.mono s p3, m4.mono s p4⟩⟩
instance {r1 : Enc α1} {r2 : Enc α2} {r3 : Enc α3} {r4 : Enc α4} [m1 : FlatE r1] [m2 : FlatE r2] [m3 : FlatE r3] [m4 : FlatE r4] : FlatE (rP4 r1 r2 r3 r4) := ⟨fun s ⟨a, x1, x2, x3, x4, e, h, p1, p2, p3, p4⟩ => ⟨a, x1, x2, x3, x4, e, s _ _ h rfl, m1.flat s p1, m2.flat s p2, m3.flat s p3, m4.flat s p4⟩⟩
instance {r1 : Enc α1} {r2 : Enc α2} {r3 : Enc α3} {r4 : Enc α4} : TyE (rP4 r1 r2 r3 r4) "tuple" := ⟨fun ⟨p, x1, x2, x3, x4, e, q, _⟩ => by subst e; exact .tup q⟩
def rP5 (r1 : Enc α1) (r2 : Enc α2) (r3 : Enc α3) (r4 : Enc α4) (r5 : Enc α5) : Enc (α1 × α2 × α3 × α4 × α5) := fun K H v p => ∃ a x1 x2 x3 x4 x5, v = .ref a ∧ H a = some (.tup [x1, x2, x3, x4, x5]) ∧ r1 K H x1 p.1 ∧ r2 K H x2 p.2.1 ∧ r3 K H x3 p.2.2.1 ∧ r4 K H x4 p.2.2.2.1 ∧ r5 K H x5 p.2.2.2.2
instance {r1 : Enc α1} {r2 : Enc α2} {r3 : Enc α3} {r4 : Enc α4} {r5 : Enc α5} [m1 : MonoE r1] [m2 : MonoE r2] [m3 : MonoE r3] [m4 : MonoE r4] [m5 : MonoE r5] : MonoE (rP5 r1 r2 r3 r4 r5) := ⟨fun s ⟨a, x1, x2, x3, x4, x5, e, h, p1, p2, p3, p4, p5⟩ => ⟨a, x1, x2, x3, x4, x5, e, s _ _ h, m1.mono s p1, m2.mono s p2, m3.mono s p3, m4.mono s p4, m5.mono s p5⟩⟩
instance {r1 : Enc α1} {r2 : Enc α2} {r3 : Enc α3} {r4 : Enc α4} {r5 : Enc α5} [m1 : FlatE r1] [m2 : FlatE r2] [m3 : FlatE r3] [m4 : FlatE r4] [m5 : FlatE r5] : FlatE (rP5 r1 r2 r3 r4 r5) := ⟨fun s ⟨a, x1, x2, x3, x4, x5, e, h, p1, p2, p3, p4, p5⟩ => ⟨a, x1, x2, x3, x4, x5, e, s _ _ h rfl, m1.flat s p1, m2.flat s p2, m3.flat s p3, m4.flat s p4, m5.flat s p5⟩⟩
instance {r1 : Enc α1} {r2 : Enc α2} {r3 : Enc α3} {r4 : Enc α4} {r5 : Enc α5} : TyE (rP5 r1 r2 r3 r4 r5) "tuple" := ⟨fun ⟨p, x1, x2, x3, x4, x5, e, q, _⟩ => by subst e; exact .tup q⟩
/-! max, min -/
/-! dicts with ints as keys -/
def rDP {α : Type} (r : Enc α) (K : PySem.W.Frag) (H : Hp) (kv : Key × V) (kx : Int × α) : Prop := kv.1 = .inl kx.1 ∧ r K H kv.2 kx.2
def rD {α : Type} (r : Enc α) : Enc (List (Int × α)) := fun K H v d => ∃ p kvs, v = .ref p ∧ H p = some (.dK kvs) ∧ Paired (rDP r K H) kvs d
def oD {α : Type} (r : Enc α) : OE (List (Int × α)) := fun K h v d C => ∃ p kvs, v = .ref p ∧ Paired (rDP r K h) kvs d ∧ C = [(p, .dK kvs)]
instance {r : Enc α} [m : MonoE r] : MonoE (rD r) := ⟨fun s ⟨p, kvs, e, q, pr⟩ => ⟨p, kvs, e, s _ _ q, Paired.imp2 (fun _ _ z => ⟨z.1, m.mono s z.2⟩) pr⟩⟩
instance {r : Enc α} [m : MonoE r] : MonoO (oD r) := ⟨fun s ⟨p, kvs, e, pr, c⟩ => ⟨p, kvs, e, Paired.imp2 (fun _ _ z => ⟨z.1, m.mono s z.2⟩) pr, c⟩⟩
instance {r : Enc α} [m : FlatE r] : FlatO (oD r) := ⟨fun s ⟨p, kvs, e, pr, c⟩ => ⟨p, kvs, e, Paired.imp2 (fun _ _ z => ⟨z.1, m.flat s z.2⟩) pr, c⟩⟩
instance {r : Enc α} [m : MonoE r] : FrzC (oD r) (rD r) := ⟨fun ⟨p, kvs, e, pr, c⟩ s hc => ⟨p, kvs, e, hc (p, .dK kvs) (by rw [c]; simp), Paired.imp2 (fun _ _ z => ⟨z.1, m.mono s z.2⟩) pr⟩⟩
def dgetL (d : List (Int × α)) (k : Int) : Option α := (d.find? fun kv => decide (kv.1 = k)).map (·.2)
def dputL (d : List (Int × α)) (k : Int) (v : α) : List (Int × α) := if (d.any fun kv => decide (kv.1 = k)) = true then d.map (fun kv => if kv.1 = k then (kv.1, v) else kv) else d ++ [(k, v)]
def dgetR (d : List (Int × α)) (k : Int) : Res α := optR (dgetL d k)
theorem valV_paired {r : Enc α} {H : Hp} {k : Int} : ∀ {kvs : List (Key × V)} {d : List (Int × α)}, Paired (rDP r K H) kvs d → (∀ a, dgetL d k = some a → ∃ v, valV kvs (.inl k) = some v ∧ r K H v a) ∧ (valV kvs (.inl k)).isSome = (dgetL d k).isSome
  | _, _, .nil => ⟨fun a h => (by cases h), rfl⟩
  | kv :: kvs, kx :: d, .cons h t => by
    obtain ⟨h1, h2⟩ := valV_paired (k := k) t
    by_cases e : kx.1 = k
    · have e2 : kv.1 = .inl k := by rw [h.1, e]
      rw [valV_pos e2]
      have e3 : dgetL (kx :: d) k = some kx.2 := by simp [dgetL, List.find?_cons, e]
      rw [e3]
      exact ⟨fun a ha => by cases ha; exact ⟨_, rfl, h.2⟩, rfl⟩
    · have e2 : ¬ kv.1 = .inl k := by rw [h.1]; exact fun z => e (Sum.inl.inj z)
      rw [valV_neg e2]
      have e3 : dgetL (kx :: d) k = dgetL d k := by simp [dgetL, List.find?_cons, e]
      rw [e3]
      exact ⟨h1, h2⟩
theorem any_paired {r : Enc α} {H : Hp} {k : Int} : ∀ {kvs : List (Key × V)} {d : List (Int × α)}, Paired (rDP r K H) kvs d → (kvs.any fun kv => decide (kv.1 = .inl k)) = d.any fun kx => decide (kx.1 = k)
  | _, _, .nil => rfl
  | kv :: kvs, kx :: d, .cons h t => by
    rw [List.any_cons, List.any_cons, any_paired t, h.1]
    congr 1
    rw [Bool.eq_iff_iff]; simp
theorem putK_paired {r : Enc α} {H : Hp} {k : Int} {v : V} {a : α} (hv : r K H v a) {kvs : List (Key × V)} {d : List (Int × α)} (h : Paired (rDP r K H) kvs d) : Paired (rDP r K H) (putK kvs (.inl k) v) (dputL d k a) := by
  unfold putK dputL
  rw [any_paired h]
  by_cases e : (d.any fun kx => decide (kx.1 = k)) = true
  · rw [if_pos e, if_pos e]
    clear e
    induction h with
    | nil => exact .nil
    | @cons kv kx l m h t ih =>
      refine .cons ?_ ih
      show rDP r K H (if kv.1 = .inl k then (kv.1, v) else kv) (if kx.1 = k then (kx.1, a) else kx)
      by_cases e : kx.1 = k
      · rw [if_pos (show kv.1 = .inl k by rw [h.1, e]), if_pos e]; exact ⟨h.1, hv⟩
      · rw [if_neg (show ¬ kv.1 = .inl k by rw [h.1]; exact fun z => e (Sum.inl.inj z)), if_neg e]; exact h
  · rw [if_neg e, if_neg e]
    exact Paired.app h (.cons ⟨rfl, hv⟩ .nil)
theorem evb_dget {td ty : TE} {r : Enc α} [z : MonoE r] {md : Res (List (Int × α))} {mk : Res Int} (hd : EvB K Er S OO σ td (rD r) md) (hk : EvB K Er S OO σ ty rInt mk) : EvB K Er S OO σ (tDGet td ty) r (md.bind fun d => mk.bind fun k => dgetR d k) := fun H Q w s P =>
  hd.run w s FB.tr P fun d x H1 s1 w1 q1 ⟨p, kvs, e, q, pr⟩ P1 => hk.run w1 q1 FB.tr P1 fun k y H2 s2 w2 q2 r2 P2 => by
    cases eg : dgetL d k with
    | none => rw [dgetR, eg] at P2; exact P2.elim
    | some a =>
      rw [dgetR, eg] at P2
      obtain ⟨v, hv, rv⟩ := (valV_paired (k := k) pr).1 a eg
      exact ⟨p, v, e, .inl ⟨kvs, .inl k, .inl (s2 _ _ q), r2, hv.symm⟩, P2 _ H2 (Same.refl _) (z.mono s2 rv)⟩
variable {Fd : Ends → β → Hp → Prop} [fd : FdOk Fd] {u : TS}
/-! an item of what is ours, the rest let go -/
end
end L2

/-! ### errors: in flight, leaving a frame, passed on -/
namespace L2
open PySem PySem.Spec PyProof.Rows

theorem ObjOk.ex {P : Program} {w : World} {H : Hp} {h : Heap} {a : Addr} {o : HO} (x : ObjOk P w H h a o) : ∃ u, h.get? a = some u := by
  cases o with
  | lst xs => obtain ⟨_, _, _, _, e⟩ := x; exact ⟨_, e⟩
  | tup xs => obtain ⟨_, _, _, p⟩ := x; obtain ⟨o, e, _⟩ := p; exact ⟨_, e⟩
  | dK kvs => obtain ⟨_, _, _, _, o, _, _, e, _⟩ := x; exact ⟨_, e⟩
  | dT kvs => obtain ⟨_, _, _, _, o, _, _, e, _⟩ := x; exact ⟨_, e⟩
  | set S n => obtain ⟨o, _, _, _, e, _⟩ := x; exact ⟨_, e⟩
  | ins C dx fs => obtain ⟨_, _, _, e, _⟩ := x; exact ⟨_, e⟩
  | own y => exact x
  | xd fs => obtain ⟨_, ⟨_, _, _, e, _⟩, _⟩ := x; exact ⟨_, e⟩
  | rng lo hi => obtain ⟨_, _, _, e⟩ := x; exact ⟨_, e⟩
  | frz ob u => exact ⟨_, x.1⟩
  | tbl ps => exact ⟨_, x⟩
  | met f y => exact ⟨_, x⟩
  | ext φ => exact x.2.1
theorem HOk.un0 {P : Program} {w : World} {H : Hp} {h : Heap} {a : Addr} (x : HOk P w H h) (e : h.get? a = none) : H a = none := by
  cases q : H a with
  | none => rfl
  | some u => obtain ⟨v, hv⟩ := (x a u q).ex; rw [e] at hv; cases hv

/-- an error in flight: its object at a, its trace at T, both made since h0 -/
structure Fl (h0 h : Heap) (H : Hp) (a T : Addr) (cls : Value) : Prop where
  na : h0.get? a = none
  nT : h0.get? T = none
  fa : H a = none
  fT : H T = none
  ne : T ≠ a
  obj : ∃ oe vs oT ts a0, h.get? a = some oe ∧ oe.cls = cls ∧ vs[0]? = some a0 ∧ oe.data = .fields vs ∧ vs[1]? = some (.ref T) ∧ h.get? T = some oT ∧ oT.data = .fields ts ∧ ts[3]? = some Value.none

def hidF (h : Heap) (fs : List Addr) (a T : Addr) : Heap := hidT h (fun b => if b ∈ fs ∨ b = a ∨ b = T then some (.own 0) else none)
theorem hidF_get {h : Heap} {fs : List Addr} {a T b : Addr} {o : Obj} (e : h.get? b = some o) (n1 : b ∉ fs) (n2 : b ≠ a) (n3 : b ≠ T) : (hidF h fs a T).get? b = some o :=
  hidT_get e (if_neg fun z => z.elim n1 fun z => z.elim n2 n3)
section
variable {P : Program} {w : World} {h0 h h' base : Heap} {H : Hp} {a T : Addr} {cls a0 : Value} {l : List Env}
/-- what a trace entry changes: the error, its trace, the frames' slots -/
theorem Un.traced (hl : h.FunFrames base l) (keep : ∀ b o, b ∉ frs l → b ≠ a → b ≠ T → h.get? b = some o → h'.get? b = some o) (up : h.UpToSlots h') : Un (frs l) [a, T] H H h h' where
  keep := fun b o e _ hb hx => keep b o hb (fun z => hx (by simp [z])) (fun z => hx (by simp [z])) e
  slot := fun b o e _ hb _ => by
    obtain ⟨_, o2, ho2, hd2⟩ := hl.mem hb
    rw [e] at ho2; cases ho2
    exact up b o e hd2
  free := fun b o e n _ => n
  there := fun b o e hx => by
    by_cases hb : b ∈ frs l
    · obtain ⟨_, o2, ho2, hd2⟩ := hl.mem hb
      obtain ⟨sl, q⟩ := up b o2 ho2 hd2
      exact ⟨_, q⟩
    · exact ⟨o, keep b o hb (fun z => hx (by simp [z])) (fun z => hx (by simp [z])) e⟩
  tups := fun _ _ q => q
  frzs := fun _ _ _ q => q
  tbls := fun _ ps q => ⟨#[], by simpa using q⟩
theorem HOk.traced (hok : HOk P w H h) (hfn : ∀ b ∈ frs l, H b = none) (fa : H a = none) (fT : H T = none) (keep : ∀ b o, b ∉ frs l → b ≠ a → b ≠ T → h.get? b = some o → h'.get? b = some o) : HOk P w H h' := fun b o e => by
  refine (hok b o e).stay (fun c u hc q => ?_) (fun _ q => q) fun _ _ q => q
  have hn : H c ≠ none := by
    rcases hc with z | z
    · rw [z, e]; exact fun y => nomatch y
    · rw [z]; exact fun y => nomatch y
  exact keep c u (fun z => hn (hfn c z)) (fun z => hn (z ▸ fa)) (fun z => hn (z ▸ fT)) q
theorem Fl.after (x : Fl h0 h H a T cls) (hl : h.FunFrames base l) (hfn : ∀ b ∈ frs l, H b = none) (hok : HOk P w H h) (th : ∀ b o, h0.get? b = some o → ∃ o', h.get? b = some o')
    (st : (hidF h (frs l) a T).StaysIn h') (tr : h'.TracedW (hidF h (frs l) a T) a cls a0) (up : h.UpToSlots h') : ∃ T', Fl h0 h' H a T' cls ∧ HOk P w H h' ∧ Un (frs l) [a, T] H H h h' := by
  obtain ⟨oe, vs, T', oT, ts, ha, ⟨hc, h0'⟩, hd, h1, hnT, hne, hT, hdT, h3⟩ := tr
  have key : T' = T ∨ h.get? T' = none := by
    cases q : h.get? T' with
    | none => exact .inr rfl
    | some o =>
      by_cases hf : T' ∈ frs l
      · obtain ⟨_, o2, ho2, hd2⟩ := hl.mem hf
        obtain ⟨sl, e2⟩ := up T' o2 ho2 hd2
        rw [hT] at e2; cases e2
        exact absurd hdT (hd2 ts)
      · by_cases hz : T' = T
        · exact .inl hz
        · rw [hidF_get q hf hne hz] at hnT; cases hnT
  have keep : ∀ b o, b ∉ frs l → b ≠ a → b ≠ T → h.get? b = some o → h'.get? b = some o := fun b o n1 n2 n3 e => st b o (hidF_get e n1 n2 n3)
  refine ⟨T', ⟨x.na, ?_, x.fa, ?_, hne, oe, vs, oT, ts, a0, ha, hc, h0', hd, h1, hT, hdT, h3⟩, hok.traced hfn x.fa x.fT keep, Un.traced hl keep up⟩
  · rcases key with e | e
    · rw [e]; exact x.nT
    · cases q : h0.get? T' with
      | none => rfl
      | some o => obtain ⟨o', e'⟩ := th _ _ q; rw [e] at e'; cases e'
  · rcases key with e | e
    · rw [e]; exact x.fT
    · exact hok.un0 e
end

section
variable {fs fs2 ex ex2 : List Addr} {H0 H H' : Hp} {h0 h h' : Heap}
end

section
variable {P : Program} {w : World} {K : PySem.W.Frag} {mg : Str → Option Value} {base : Heap} {N : List Str} {qual : Str} {scope : Scope} {f : Addr} {cd : Value} {A : Around} {outer : List Env} {s0 : Shared} {H0 : Hp} {E : XK}
end

section
variable {X : Cx} {k j : Nat} {x : Str} {ps : List Str} {sp : Sp} {e : Expr} {es : List Expr} {t : TA} {p pos : Pos} {E : XK}
end
/-! the class of an error -/
section
variable {X : Cx} {E : XK} {C : Addr} {x : Str} {e : Expr} {es : List Expr} {t : TA} {np cpos pos : Pos}
end
end L2

/-! ### f-strings whose text is not asked for; try, caught by one own class, with a name -/
namespace L2
open PySem PySem.Spec PyProof.Rows

abbrev TJ := St → Hp → (Hp → Prop) → Prop
section
variable {X : Cx} {e : Expr} {es : List Expr} {te : TE} {t : TJ} {n : Nat} {pos p : Pos}
end

/-! try -/
abbrev Cx.held (X : Cx) (a : Addr) (pn : List (Addr × Obj)) : Cx := { X with A := X.A.mark (some (.ref a)), calm := false, pn := pn, xe := fun _ _ => False }
theorem Cx.Ok.held {X : Cx} (ok : X.Ok) (a : Addr) (pn : List (Addr × Obj)) : (X.held a pn).Ok :=
  ⟨ok.mod, ok.kind, ok.glob, ok.blt, ok.above, ok.inj, ok.has, ok.cab, (fun z => nomatch z), ok.frames, ok.stk, ok.exf, ok.bs, ok.bsz, ok.noex, ok.exfs, ok.funs, ok.frf⟩
section
variable {X : Cx} {pins : List (Addr × Obj)} {σ : St} {H : Hp} {s : Shared} {h' : Heap}
end
section
variable {X : Cx} {body suite : List Stmt} {b₀ : Stmt} {cn n : Str} {Ch : Addr} {i : Nat} {tb : XK → TS} {ts : Addr → Addr → TS} {np hpos pos : Pos}
end
end L2

/-! ### mirrors: errors -/
namespace L2
open PySem PySem.Spec PyProof.Rows
section
variable {K : PySem.W.Frag} {Er : Exc → Hp → Prop} {S : SC} {OO OO' OO2 : List (List Cell)} {σ : St} {α β γ ρ ι : Type} {α1 α2 α3 α4 α5 α6 : Type} {mg : Str → Option Value} {E : XK}
/-! what an error is told with: the text is not asked for -/
def FJ (Q : Hp → Prop) (_ : Unit) (H : Hp) : Prop := ∀ H', Same H H' → Q H'
theorem FJ.tr {Q : Hp → Prop} : ∀ (b : Unit) (H H' : Hp), Same H H' → FJ Q b H → FJ Q b H' := fun _ _ _ s h H2 s2 => h H2 (s.trans s2)
variable {Fd : Ends → β → Hp → Prop} [fd : FdOk Fd] {u : TS}
/-! the errors' classes -/
section
variable {te : XK → TE} {m : Res α} {ts : Addr → Addr → TS} {N i : Nat} {Ch : Addr} {o : OE ρ} {g : Exc → Res ρ} {ns : List Str} {d : Str}
end
end
end L2

/-! ### isinstance of an error that is held -/
namespace L2
open PySem PySem.Spec PyProof.Rows PySem.W PySem.Builtin PySem.Builtin.ObjectAttr PySem.Builtin.Getset_descriptor
section
variable {prog : Program} {w : World} {A : Around} {E : Value → Shared → Prop} {K : Frag} {x D : Addr} {s : Shared}
end
theorem pe_cst {X : Cx} {x : Str} {v : V} {pos : Pos} (h : ∃ u, X.mg x = some u ∧ RelV v u) (hg : Gl X x) (hd : (x == ("__debug__" : Str)) = false := by decide) : PE X (.Name x pos) (tC v) := by
  obtain ⟨u, hm, r⟩ := h
  exact pe_glob hg hm r hd
theorem PS.nox {X : Cx} {st : Stmt} {t : TS} (h : PS X.nox st t) : PS X st t := fun pins s σ H D I hw =>
  wpAny_mono (h pins s σ H D (I.wish _) hw) (fun _ _ q => q.unwish) fun _ _ z => False.elim z
/-! what k_is shows of the errors' classes, one by one -/
section
variable {K : PySem.W.Frag} {C D : Addr} {b : Bool}
end
end L2

/-! ### xs.pop() of an own list, as a statement -/
namespace L2
open PySem PySem.Spec PyProof.Rows
section
variable {α β : Type} {K : PySem.W.Frag} {Er : Exc → Hp → Prop} {S : SC} {OO : List (List Cell)} {σ : St} {Fd : Ends → β → Hp → Prop} [fd : FdOk Fd] {u : TS}
end
end L2

/-! ### values of two kinds -/
namespace L2
open PySem PySem.Spec PyProof.Rows
section
variable {α β γ δ ε : Type}
/-- never equal -/
structure Crs (r : Enc α) (q : Enc β) (d : Nat) : Prop where
  no : ∀ {X : Cx} {pins : List (Addr × Obj)} {σ : St} {H : Hp} {s : Shared} {x : V} {a : α} {b : β}, Inv X pins σ H s → r X.K H x a → q X.K H x b → False
  lr : ∀ {X : Cx} {pins : List (Addr × Obj)} {σ : St} {H : Hp} {s : Shared} {x y : V} {v u : Value} {a : α} {b : β} {A : Around}, Inv X pins σ H s → RelV x v → RelV y u → r X.K H x a → q X.K H y b → A.units + d < cLine → SeqAt.EqAt A s v u false ∧ SeqAt.RcAt A s v u false ∧ SeqAt.RcNeAt A s v u true
  rl : ∀ {X : Cx} {pins : List (Addr × Obj)} {σ : St} {H : Hp} {s : Shared} {x y : V} {v u : Value} {a : α} {b : β} {A : Around}, Inv X pins σ H s → RelV x v → RelV y u → q X.K H x b → r X.K H y a → A.units + d < cLine → SeqAt.EqAt A s v u false ∧ SeqAt.RcAt A s v u false ∧ SeqAt.RcNeAt A s v u true
theorem Crs.up {r : Enc α} {q : Enc β} {d e : Nat} (c : Crs r q d) (h : d ≤ e) : Crs r q e := ⟨c.no, fun I rx ry h1 h2 hu => c.lr I rx ry h1 h2 (by omega), fun I rx ry h1 h2 hu => c.rl I rx ry h1 h2 (by omega)⟩
end
end L2

/-! ### sums: the rules -/
namespace L2
open PySem PySem.Spec PyProof.Rows
section
variable {K : PySem.W.Frag} {Er : Exc → Hp → Prop} {S : SC} {OO OO' OO1 OO2 : List (List Cell)} {σ : St} {α β γ ρ ι δ ε ζ : Type}
variable {Fd : Ends → β → Hp → Prop} [fd : FdOk Fd] {u : TS}
def getL : α ⊕ γ → Res α
  | .inl a => .ok a
  | .inr _ => .bad
def getR : α ⊕ γ → Res γ
  | .inl _ => .bad
  | .inr b => .ok b
end
end L2
/-! ### lists of a known length -/
namespace L2
theorem lenL1 {α : Type} {us : List α} (h : us.length = 1) : ∃ a, us = [a] := List.length_eq_one_iff.mp h
theorem lenL2 {α : Type} {us : List α} (h : us.length = 2) : ∃ a0 a1, us = [a0, a1] := by
  cases us with
  | nil => cases h
  | cons a0 t =>
    obtain ⟨a1, rfl⟩ := lenL1 (Nat.succ.inj h)
    exact ⟨a0, a1, rfl⟩
theorem lenL3 {α : Type} {us : List α} (h : us.length = 3) : ∃ a0 a1 a2, us = [a0, a1, a2] := by
  cases us with
  | nil => cases h
  | cons a0 t =>
    obtain ⟨a1, a2, rfl⟩ := lenL2 (Nat.succ.inj h)
    exact ⟨a0, a1, a2, rfl⟩
end L2

/-! ### a list laid out upon names; what may be None, compared, asked for its kind -/
namespace L2
open PySem PySem.Spec PyProof.Rows
section
variable {prog : Program} {w : World} {A : Around} {E : Value → Shared → Prop}
end
section
variable {X : Cx} {pos : Pos}
end
section
variable {K : PySem.W.Frag} {Er : Exc → Hp → Prop} {S : SC} {OO OO' OO1 OO2 : List (List Cell)} {σ : St} {α β γ ρ ι δ ε ζ : Type}
variable {Fd : Ends → β → Hp → Prop} [fd : FdOk Fd] {u : TS}
theorem evf_non {r : Enc α} : Ev K Er S OO OO σ (tC .non) (oF (rOpt r)) (.ok none) := fun H Q w s P => P _ [] H (Same.refl _) w.nil (by rw [hid_nil]; exact Same.refl _) ⟨rfl, rfl⟩
theorem evf_some {te : TE} {r : Enc α} {m : Res α} (hn : ∀ {K h v a C}, oF r K h v a C → v ≠ .non) (he : Ev K Er S OO OO' σ te (oF r) m) : Ev K Er S OO OO' σ te (oF (rOpt r)) (m.bind fun a => .ok (some a)) := fun H Q w s P => by
  refine he H Q w s ?_
  cases m with
  | bad => exact P
  | err x => exact P
  | ok a => exact fun v C H' s' w' m' ho => P v C H' s' w' m' ⟨ho.1, hn ho, ho.2⟩
end
end L2

/-! ### x *= e -/
namespace L2
open PySem PySem.Spec PyProof.Rows
section
variable {X : Cx}
end
section
variable {K : PySem.W.Frag} {Er : Exc → Hp → Prop} {S : SC} {OO OO' OO1 OO2 : List (List Cell)} {σ : St} {α β γ ρ ι δ ε ζ : Type}
variable {Fd : Ends → β → Hp → Prop} [fd : FdOk Fd] {u : TS}
end
end L2

/-! ### dict(pairs) -/
namespace L2
open PySem PySem.Spec PyProof.Rows
set_option maxRecDepth 100000
section
variable {prog : Program} {w : World} {A : Around} {E : Value → Shared → Prop} {s : Shared}
theorem noKeys_list : typeLookup (.type "list") "keys" = pure none := by rw [typeLookup_type, builtinLookup_eq_fast]; kernel_rfl
theorem keysMiss {a : Addr} {o : Obj} {xs : Array Value} {k : Nat} {R : Option Value → Shared → Prop} (hx : s.heap.get? a = some o) (hc : o.cls = .type "list") (hdat : o.data = .seq xs k) (hd : o.dict = none) (hA : A.handled = none)
    (h : ∀ g tk, (∀ b u, s.heap.get? b = some u → g.get? b = some u) → R none { s with heap := g, toks := tk }) : wpAny (model prog w) A (getAttr? (.ref a) "keys") R E s := by
  obtain ⟨c, dct, dat, sl⟩ := o
  simp only at hc hdat hd
  subst hc hdat hd
  obtain ⟨hp, g, d, tk, os⟩ := s
  have hT : ∀ tk', (⟨hp, g, d, tk', os⟩ : Shared).TypeIs (.ref a) "list" := fun _ => ⟨_, hx, rfl⟩
  have f1 := sub_AttributeError
  have f3 := F.slot_list_getattribute.lookup
  have f4 := F.slot_list_getattribute.bind (.ref a)
  have f5 := am_list_getattr_none
  unfold getAttr? getAttrBy? getAttrBy
  repeat (any_goals (first
    | assumption
    | exact hT _
    | ((with_reducible show wpAny _ _ (call (Value.builtin "list.__getattribute__") _ _) _ _ _)
       refine call_meets F.slot_list_getattribute (hT _) am_entry_list_getattribute (F.args_list_getattribute_2 _ _) (meets_getattribute_miss_list a xs k sl "keys" _ noKeys_list (by decide +kernel)) ⟨hx, hA, fun h' tk' e hx' => ?_⟩)
    | wp_step))
  obtain ⟨t', u', he⟩ := hx'.there
  show wpAny _ _ (getattributeRaised _ _ _ _ _ _ _) _ _ _
  unfold getattributeRaised
  repeat (any_goals (first | wp_step | assumption))
  exact h _ _ hx'.keeps
theorem plain_dloop : plainId "dict.update.loop" = true := by decide +kernel
theorem entry_dloop : entryFor table "dict.update.loop" = some Builtin.«dict.update.loop» := entryFor_of_fast (by kernel_rfl)
end
section
variable {prog : Program} {w : World} {A : Around} {R : Result → Shared → Prop} {K : Type} [DecidableEq K] {knd : KeyKind prog w K}
/-- what stands in the list: pairs -/
def PrsAt (knd : KeyKind prog w K) (h : Heap) (its : Array Value) (kv : List (K × Value)) : Prop := its.size = kv.length ∧ ∀ (j : Nat) (x : Value) (p : K × Value), its[j]? = some x → kv[j]? = some p → ∃ t key, x = .ref t ∧ h.IsTuple t #[key, p.2] ∧ knd.is p.1 key = true
def storeAll (acc kv : List (K × Value)) : List (K × Value) := kv.foldl (fun a p => stored a p.1 p.2) acc
theorem stored_len (acc : List (K × Value)) (k : K) (v : Value) : (stored acc k v).length ≤ acc.length + 1 := by
  unfold stored
  split
  · simp
  · simp
theorem tupNeIter {h : Heap} {t I l : Addr} {i : Nat} {xs : Array Value} (ht : h.IsTuple t xs) (it : h.IsListIter I l i) : t ≠ I := fun e => by
  subst e
  obtain ⟨o, ho, hc, _⟩ := ht
  obtain ⟨o', ho', hc', _⟩ := it
  rw [ho] at ho'
  cases ho'
  rw [hc] at hc'
  exact absurd hc' (by decide)
theorem tupNeDict {h : Heap} {t d : Addr} {xs : Array Value} {acc : List (K × Value)} (ht : h.IsTuple t xs) (hd : h.DictOf knd d acc) : t ≠ d := fun e => by
  subst e
  obtain ⟨o, ho, hc, _⟩ := ht
  obtain ⟨o', _, _, ho', hc', _⟩ := hd
  rw [ho] at ho'
  cases ho'
  have := hc'.1
  rw [hc] at this
  exact absurd this (by decide)
theorem dloop (hh : A.in1.handled = none) {d I l : Addr} (hdI : d ≠ I) (hlI : l ≠ I) (hld : l ≠ d) {its : Array Value} {kv : List (K × Value)} :
    ∀ (k i : Nat) (s : Shared) (acc : List (K × Value)), its.size - i = k → i ≤ its.size → s.heap.IsListIter I l i → s.heap.IsList l its → PrsAt knd s.heap its kv → s.heap.DictOf knd d acc → acc.length + its.size ≤ sizeLine + i →
    (∀ g tk, g.DictOf knd d (storeAll acc (kv.drop i)) → (∀ b o, b ≠ I → b ≠ d → s.heap.get? b = some o → g.get? b = some o) → R (.ok (.ret .none)) { s with heap := g, toks := tk }) →
    codeAny (model prog w) A (.builtin "dict.update.loop" ⟨[.ref d, .ref I, rawInt i, .none], []⟩) R s := by
  intro k
  induction k with
  | zero =>
    intro i s acc hk hi it hl hp hd hz r
    refine codeAny_builtin entry_dloop ?_
    rw [Around.under_plainId plain_dloop _]
    show wpAny _ A.in1 (pyNext (.ref I) >>= _) _ _ s
    refine wpAny_bind (wpAny_pyNext_list_end hh it hl (by simp; omega) fun g hx => ?_)
    show wpAny _ _ (Builtin.Dict.addKeywords d [] >>= fun _ => ret Value.none) _ _ _
    refine wpAny_bind (wpAny_pure (wpAny_pure (r g s.toks ?_ fun b o hb _ e => hx b o hb e)))
    have e : kv.drop i = [] := List.drop_eq_nil_of_le (by have := hp.1; omega)
    rw [e]
    exact hd.extBut hx hdI
  | succ k ih =>
    intro i s acc hk hi it hl hp hd hz r
    have lt : i < its.size := by omega
    refine codeAny_builtin entry_dloop ?_
    rw [Around.under_plainId plain_dloop _]
    show wpAny _ A.in1 (pyNext (.ref I) >>= _) _ _ s
    refine wpAny_bind (wpAny_pyNext_list_item it hl (x := its[i]) (by simp [lt]) fun g it' hx => ?_)
    have lt2 : i < kv.length := by have := hp.1; omega
    obtain ⟨t, key, et, ht, hkey⟩ := hp.2 i its[i] kv[i] (by simp [lt]) (by simp [lt2])
    have htI : t ≠ I := tupNeIter ht it
    have ht1 : g.IsTuple t #[key, kv[i].2] := ht.extBut hx.extBut htI
    obtain ⟨o, ho, hc, n, hdt⟩ := id ht1
    rw [et]
    show wpAny _ _ (holding [Value.ref t] _ >>= fun _ => again (.builtin "dict.update.loop" ⟨[.ref d, .ref I, rawInt ((i : Int) + 1), .none], []⟩)) _ _ _
    refine wpAny_bind (wpAny_holding ?_)
    refine wpAny_bind (wpAny_tryCatch ?_)
    unfold Builtin.Dict.pairItems
    refine wpAny_bind (wpAny_typeOf (s := { s with heap := g }) ⟨o, ho, hc⟩ ?_)
    rw [if_pos (by decide)]
    refine wpAny_bind (wpAny_seqItems (s := { s with heap := g }) ho hdt (wpAny_pure ?_))
    show wpAny _ _ (holding [key, kv[i].2] (dictSet d key kv[i].2)) _ _ _
    refine wpAny_holding (wpAny_dictSet_pairs (s := { s with heap := g }) hkey (hd.extBut hx.extBut hdI) (fun g2 hd2 hx2 => ?_) (by omega))
    refine wpAny_pure ⟨plainId_quiet plain_dloop _, ?_⟩
    have hne : ∀ {b : Addr} {u : Obj}, s.heap.get? b = some u → b ≠ I → b ≠ d → g2.get? b = some u := fun {b u} e h1 h2 => (hx2.2 b h2).trans (hx.extBut b u h1 e)
    refine ih (i + 1) { s with heap := g2, toks := s.toks + 1 } (stored acc kv[i].1 kv[i].2) (by omega) (by omega) ?_ ?_ ?_ hd2 ?_ ?_
    · exact it'.extBut hx2.extBut (fun e => hdI e.symm)
    · exact (hl.extBut hx.extBut hlI).extBut hx2.extBut hld
    · refine ⟨hp.1, fun j x p h1 h2 => ?_⟩
      obtain ⟨t2, key2, e2, ht2, hk2⟩ := hp.2 j x p h1 h2
      exact ⟨t2, key2, e2, (ht2.extBut hx.extBut (tupNeIter ht2 it)).extBut hx2.extBut (tupNeDict ht2 hd), hk2⟩
    · have := stored_len acc kv[i].1 kv[i].2
      omega
    · intro g3 tk hd3 kp
      refine r g3 tk ?_ fun b o h1 h2 e => kp b o h1 h2 (hne e h1 h2)
      rw [List.drop_eq_getElem_cons lt2]
      exact hd3
theorem call_dictP (hh : A.handled = none) {E : Value → Shared → Prop} {s : Shared} {l : Addr} {o : Obj} {n : Nat} {its : Array Value} {kv : List (K × Value)} {Q : Value → Shared → Prop} (hx : s.heap.get? l = some o) (hc : o.cls = .type "list") (hdat : o.data = .seq its n) (hd : o.dict = none) (hp : PrsAt knd s.heap its kv) (hz : its.size ≤ sizeLine)
    (r : ∀ g tk, g.DictOf knd s.heap.objs.size (storeAll [] kv) → (∀ b u, s.heap.get? b = some u → g.get? b = some u) → Q (.ref s.heap.objs.size) { s with heap := g, toks := tk }) : wpAny (model prog w) A (call (.type "dict") [.ref l]) Q E s := by
  refine callType_codes (Q₁ := fun obj s₁ => obj = .ref s.heap.objs.size ∧ s₁ = { s with heap := s.heap.push { cls := .type "dict", data := .dict #[] } }) F.kt_called_dict (F.kt_typeCall_dict_1 _) F.entry_dict_init (kt_code_dict_new _ ⟨rfl, rfl⟩) ?_
  rintro obj s₁ ⟨rfl, rfl⟩
  have hnew : (s.heap.push { cls := .type "dict", data := .dict #[] }).DictOf knd s.heap.objs.size [] := Heap.DictOf.new s.heap
  have hx1 : (s.heap.push { cls := .type "dict", data := .dict #[] }).get? l = some o := Heap.get?_push_of_some _ hx
  refine ⟨hnew.typeIs, F.args_dict_init_2 _ _, ?_⟩
  unfold Builtin.«dict.__init__»
  refine wpAny_bind ?_
  unfold Builtin.Dict.selfAndRest
  refine wpAny_bind (wpAny_notOrdered_dict hnew.typeIs ?_)
  show wpAny _ _ (pure (s.heap.objs.size, [Value.ref l])) _ _ _
  refine wpAny_pure ?_
  show wpAny _ _ (Builtin.Dict.updateFrom "dict.__init__" s.heap.objs.size (.ref l) [] .none) _ _ _
  unfold Builtin.Dict.updateFrom
  refine wpAny_bind (wpAny_typeOf ⟨o, hx1, hc⟩ ?_)
  rw [if_pos (by decide)]
  refine wpAny_bind (keysMiss hx1 hc hdat hd hh fun g tk kp => ?_)
  rw [if_pos (show (none : Option Value).isNone = true from rfl)]
  refine wpAny_bind (wpAny_rule ?_)
  have hlg : g.IsList l its := ⟨o, kp _ _ hx1, hc, n, hdat⟩
  have hdg : g.DictOf knd s.heap.objs.size [] := by
    obtain ⟨o', es, ep, ho, q⟩ := hnew
    exact ⟨o', es, ep, kp _ _ ho, q⟩
  have hdlt : s.heap.objs.size < g.objs.size := by
    obtain ⟨o', es, ep, ho, q⟩ := hdg
    exact Heap.lt_size ho
  have hllt : l < s.heap.objs.size := Heap.lt_size hx
  refine wpAny_bind (wpAny_pyIter_list (s := { s with heap := g, toks := tk }) hlg ?_)
  refine wpAny_pure ⟨plainId_quiet plain_dloop _, ?_⟩
  refine dloop (A := A.in1) (show A.in1.in1.handled = none from hh) (d := s.heap.objs.size) (I := g.objs.size) (l := l) (its := its) (kv := kv) (Nat.ne_of_lt hdlt) (Nat.ne_of_lt (Nat.lt_trans hllt hdlt)) (Nat.ne_of_lt hllt) its.size 0 _ [] rfl (Nat.zero_le _) ⟨_, Heap.get?_push_size _ rfl, rfl, rfl⟩ (hlg.push _) ?_ (hdg.push _) (by simpa using hz) ?_
  · refine ⟨hp.1, fun j x p h1 h2 => ?_⟩
    obtain ⟨t2, key2, e2, ⟨ot, hot, q⟩, hk2⟩ := hp.2 j x p h1 h2
    exact ⟨t2, key2, e2, ⟨ot, Heap.get?_push_of_some _ (kp _ _ (Heap.get?_push_of_some _ hot)), q⟩, hk2⟩
  · intro g2 tk2 hd2 kp2
    refine ⟨rfl, r g2 tk2 hd2 fun b u e => ?_⟩
    have hb := Heap.lt_size e
    exact kp2 b u (Nat.ne_of_lt (Nat.lt_trans hb hdlt)) (Nat.ne_of_lt hb) (Heap.get?_push_of_some _ (kp _ _ (Heap.get?_push_of_some _ e)))
end
end L2

/-! ### dict(pairs), sorted(xs): as calls -/
namespace L2
open PySem PySem.Spec PyProof.Rows
section
variable {X : Cx}
def putAll (acc kvs : List (Key × V)) : List (Key × V) := kvs.foldl (fun a p => putK a p.1 p.2) acc
theorem putK_len (kvs : List (Key × V)) (k : Key) (v : V) : (putK kvs k v).length ≤ kvs.length + 1 := by
  unfold putK
  split <;> simp
theorem putAll_len : ∀ (kvs acc : List (Key × V)), (putAll acc kvs).length ≤ acc.length + kvs.length
  | [], acc => by simp [putAll]
  | p :: kvs, acc => by
    have h1 := putAll_len kvs (putK acc p.1 p.2)
    have h2 := putK_len acc p.1 p.2
    show (putAll (putK acc p.1 p.2) kvs).length ≤ _
    rw [List.length_cons]
    omega
theorem KV.all {kvs : List (Key × V)} {vs : List (Key × Value)} (t : KV kvs vs) : ∀ {acc : List (Key × V)} {acc' : List (Key × Value)}, KV acc acc' → KV (putAll acc kvs) (storeAll acc' vs) := by
  induction t with
  | nil => intro acc acc' h; exact h
  | @cons p q kvs vs r _ ih =>
    intro acc acc' h
    have h2 := h.put p.1 r.2
    have e : stored acc' p.1 q.2 = stored acc' q.1 q.2 := by rw [r.1]
    rw [e] at h2
    exact ih h2
def rDictP (K : PySem.W.Frag) : List V → Hp → VK → Prop := fun xs H Q => ∃ l ps kvs, xs = [.ref l] ∧ SqL K H l ps ∧ Paired (fun p (kv : Key × V) => ∃ t, p = .ref t ∧ SqT K H t [kV kv.1, kv.2]) ps kvs ∧ ∀ d, H d = none → Q (.ref d) (upd H d (.dK (putAll [] kvs)))
theorem prs_of {pins : List (Addr × Obj)} {σ : St} {H : Hp} {s : Shared} (I : Inv X pins σ H s) : ∀ {ps : List V} {kvs : List (Key × V)} {its : List Value}, Paired (fun p (kv : Key × V) => ∃ t, p = .ref t ∧ SqT X.K H t [kV kv.1, kv.2]) ps kvs → Vals ps its → ∃ kv, KV kvs kv ∧ PrsAt (mixKind X.prog X.w) s.heap its.toArray kv := fun {ps kvs its} p => by
  induction p generalizing its with
  | nil =>
    intro v
    cases v
    exact ⟨[], .nil, rfl, fun j x p h => by simp at h⟩
  | @cons _ b _ _ r _ ih =>
    intro v
    cases v with
    | cons rv v =>
      obtain ⟨kv, h1, h2, h3⟩ := ih v
      obtain ⟨t, rfl, ht⟩ := r
      cases rv
      obtain ⟨i2, v2, tp, _⟩ := I.tuple ht
      obtain ⟨key, val, rfl, e1, e2⟩ := Vals.two v2
      refine ⟨(b.1, val) :: kv, .cons ⟨rfl, e2⟩ h1, by simpa using h2, fun j x p hj hp => ?_⟩
      cases j with
      | zero =>
        simp at hj hp
        subst hj hp
        exact ⟨t, key, rfl, tp, kV_is e1⟩
      | succ j => exact h3 j x p (by simpa using hj) (by simpa using hp)
theorem call_dict_of (K : PySem.W.Frag) (hK : X.K = K) (hc : X.calm = true) : CallR X (.type "dict") (rDictP K) := by
  subst hK
  intro pins s σ H xs us Q I r h
  obtain ⟨l, ps, kvs, rfl, hq, hp, q⟩ := h
  obtain ⟨u, rfl, ru⟩ := vals1 r
  cases ru
  obtain ⟨its, rv, ⟨o, n, ho, hcl, hdn, hdat⟩, hz⟩ := I.list hq
  obtain ⟨kv, h1, h2⟩ := prs_of I hp rv
  have hlen := rv.length
  have hl2 := Paired.len hp
  refine call_dictP (knd := mixKind X.prog X.w) (I.ok.hd hc) ho hcl hdat hdn h2 (by simpa [← hlen] using hz) fun g tk hd kp => ?_
  refine ⟨.ref s.heap.objs.size, _, I.laid (t' := tk) kp (Nat.le_refl _) (show ObjOk X.prog X.w _ g _ (.dK (putAll [] kvs)) from ⟨Nat.le_trans (putAll_len kvs []) (by simp; omega), beq_eq_false_iff_ne.mpr (Ne.symm (Nat.ne_of_lt I.big)), _, KV.all h1 .nil, hd⟩), rfl, q _ (I.hok.fresh (Nat.le_refl _))⟩
/-- the numbers, rising -/
def sortI (ns : List Int) : List Int := ns.mergeSort fun a b => decide (a ≤ b)
theorem sortI_perm (ns : List Int) : (sortI ns).Perm ns := List.mergeSort_perm ns _
theorem sortI_rise (ns : List Int) : (sortI ns).Pairwise (· ≤ ·) := by
  have h := List.pairwise_mergeSort (le := fun a b : Int => decide (a ≤ b)) (fun a b c h1 h2 => by rw [decide_eq_true_eq] at h1 h2 ⊢; omega) (fun a b => by rw [Bool.or_eq_true, decide_eq_true_eq, decide_eq_true_eq]; omega) ns
  exact h.imp fun h => by simpa using h
theorem sortI_of {a b : List Int} (h : a.Perm b) (r : a.Pairwise (· ≤ ·)) : a = sortI b := List.Perm.eq_of_pairwise (le := (· ≤ ·)) (fun _ _ _ _ h1 h2 => Int.le_antisymm h1 h2) r (sortI_rise b) (h.trans (sortI_perm b).symm)
theorem ints_are : ∀ {ns : List Int} {vs : List Value}, Vals (ns.map V.int) vs → IntsAre vs ns := fun {ns} => by
  induction ns with
  | nil => intro vs h; cases h; exact .nil
  | cons n ns ih =>
    intro vs h
    cases h with
    | cons r t =>
      obtain ⟨k, rfl⟩ := r
      exact .cons n k (ih t)
def rSortL (K : PySem.W.Frag) : List V → Hp → VK → Prop := fun xs H Q => ∃ l ns, xs = [.ref l] ∧ SqL K H l (ns.map V.int) ∧ ns.length < 64 ∧ ∀ p, H p = none → Q (.ref p) (upd H p (.lst ((sortI ns).map V.int)))
theorem call_sorted_of (K : PySem.W.Frag) (hK : X.K = K) : CallR X (.builtin "sorted") (rSortL K) := by
  subst hK
  intro pins s σ H xs us Q I r h
  obtain ⟨l, ns, rfl, hq, h64, q⟩ := h
  obtain ⟨u, rfl, ru⟩ := vals1 r
  cases ru
  obtain ⟨its, rv, pl, hz⟩ := I.list hq
  have hlen := rv.length
  rw [List.length_map] at hlen
  refine sorted_ints pl.isList (ints_are rv) (by omega) fun out ns' a1 a2 a3 => ?_
  obtain ⟨e, he⟩ := sortedAll_at s.heap its out
  have en : ns' = sortI ns := sortI_of a2 a3
  have v := vals_ints a1
  rw [en] at v
  have hfr : H (s.heap.objs.size + 1) = none := I.hok.fresh (Nat.le_succ _)
  refine ⟨.ref (s.heap.objs.size + 1), _, I.laid (t' := s.toks) (fun b o e => sortedAll_old e) (Nat.le_succ _) (show ObjOk X.prog X.w _ _ _ (.lst ((sortI ns).map V.int)) from ⟨?_, out.toList, e, v, he⟩), rfl, q _ hfr⟩
  rw [List.length_map, (sortI_perm ns).length_eq]
  rw [List.length_map] at hz
  exact hz
end
end L2

/-! ### a dict walked: known to its object meanwhile -/
namespace L2
open PySem PySem.Spec PyProof.Rows
section
variable {X : Cx} {pins : List (Addr × Obj)} {σ : St} {H : Hp} {s : Shared} {d : Addr} {o : Obj} {kvs : List (Key × V)}
theorem keyIs_rel {k : Key} {u : Value} (h : keyIs k u = true) : RelV (kV k) u := by
  cases k with
  | inl n =>
    cases u <;> simp [keyIs, Value.isInt] at h
    subst h
    exact ⟨_, rfl⟩
  | inr x =>
    cases u <;> simp [keyIs, Value.isStrOf] at h
    subst h
    exact ⟨_, rfl⟩
theorem Inv.freeze (I : Inv X pins σ H s) (e : H d = some (.dK kvs)) (ho : s.heap.get? d = some o) : Inv X pins σ (upd H d (.frz o (.dK kvs))) s := by
  have x := (show ObjOk X.prog X.w H s.heap d (.dK kvs) from I.hok d _ e)
  exact I.write (t' := s.toks) (x := d) (e := d) (h' := s.heap) (by rw [e]; exact True.intro) (.inl rfl) (fun b u _ q => q) ⟨o, ho⟩ ⟨ho, x⟩
theorem Inv.thaw (I : Inv X pins σ H s) (e : H d = some (.frz o (.dK kvs))) (n : ∀ o u, X.H₀ d ≠ some (.frz o u)) : Inv X pins σ (upd H d (.dK kvs)) s := by
  have ne : ∀ {b : Addr}, H b = none → b ≠ d := fun {b} h z => by rw [z, e] at h; cases h
  refine ⟨I.ok, I.os, I.bare, ⟨I.base.keep, I.base.slot, fun b ob q nn hx => ?_, I.base.there, fun b xs q => ?_, fun b ob u q => ?_, fun b ps q => ?_⟩, I.loc, I.cell, ?_, fun x c h => ?_, fun p hp => ?_, fun b u q => ?_, I.len⟩
  · have h := I.base.free b ob q nn hx
    rw [upd_ne (ne h)]; exact h
  · have h := I.base.tups b xs q
    rw [upd_ne (ne_of h e (fun z => nomatch z))]; exact h
  · have h := I.base.frzs b ob u q
    by_cases z : b = d
    · subst z; exact absurd q (n ob u)
    · rw [upd_ne z]; exact h
  · obtain ⟨more, h⟩ := I.base.tbls b ps q
    exact ⟨more, by rw [upd_ne (ne_of h e (fun z => nomatch z))]; exact h⟩
  · rw [upd_ne (ne I.free)]; exact I.free
  · rw [upd_ne (ne (I.freeC x c h))]; exact I.freeC x c h
  · obtain ⟨h1, h2, h3⟩ := I.pin p hp
    exact ⟨h1, by rw [upd_ne (ne h2)]; exact h2, h3⟩
  · by_cases z : b = d
    · subst z
      rw [upd_same] at q
      cases q
      obtain ⟨_, h⟩ := (show ObjOk X.prog X.w H s.heap b (.frz o (.dK kvs)) from I.hok b _ e)
      exact h
    · rw [upd_ne z] at q
      exact (I.hok b u q).stay (fun _ _ _ r => r) (fun c r => by rw [upd_ne (ne_of r e (fun z => nomatch z))]; exact r) fun c xs r => by rw [upd_ne (ne_of r e (fun z => nomatch z))]; exact r
/-- the dict at the name i is known while t is read -/
def tFz (i : Nat) (t : TE) : TE := fun σ H Q => ∃ d kvs, σ[i]? = some (some (.ref d)) ∧ H d = some (.dK kvs) ∧ ∀ o, t σ (upd H d (.frz o (.dK kvs))) fun v H' => H' d = some (.frz o (.dK kvs)) ∧ Q v (upd H' d (.dK kvs))
theorem pe_fz {x : Expr} {t : TE} (i : Nat) (h : PE X x t) : PE X x (tFz i t) := by
  intro pins s σ H Q I ⟨d, kvs, _, e, q⟩
  obtain ⟨_, _, vs, _, o, es, ep, ho, _⟩ := (show ObjOk X.prog X.w H s.heap d (.dK kvs) from I.hok d _ e)
  refine thn (h pins s σ _ _ (I.freeze e ho) (q o)) fun v s1 ⟨y, H1, I1, r1, e1, q1⟩ => ⟨y, _, I1.thaw e1 (fun o u z => ?_), r1, q1⟩
  have := I.base.frzs d o u z
  rw [e] at this
  cases this
/-- the keys of a known dict -/
def Itd (d : Addr) (o : Obj) (kvs : List (Key × V)) : It :=
  ⟨fun i H => H d = some (.frz o (.dK kvs)) ∧ i < kvs.length, fun i H x H' => H' = H ∧ ∃ kv, kvs[i]? = some kv ∧ x = kV kv.1, fun i H => H d = some (.frz o (.dK kvs)) ∧ kvs.length ≤ i⟩
theorem Inv.dictAt (I : Inv X pins σ H s) (e : H d = some (.frz o (.dK kvs))) {es : Array DictEntry} {ep : Nat} (hd : o.data = .dict es ep) : (d == sysModules) = false ∧ ∃ vs, KV kvs vs ∧ Heap.DictAt (mixKind X.prog X.w) s.heap d vs ep := by
  obtain ⟨h1, _, hs, vs, rel, o', es', ep', g1, g2, g3, g4⟩ := (show ObjOk X.prog X.w H s.heap d (.frz o (.dK kvs)) from I.hok d _ e)
  rw [h1] at g1
  cases g1
  rw [hd] at g3
  cases g3
  exact ⟨hs, vs, rel, o, es, h1, g2, hd, g4⟩
theorem KV.key {kvs : List (Key × V)} {vs : List (Key × Value)} (h : KV kvs vs) : ∀ {i : Nat} (h1 : i < kvs.length) (h2 : i < vs.length), (kvs[i]).1 = (vs[i]).1 := by
  induction h with
  | nil => intro i h1; exact absurd h1 (Nat.not_lt_zero _)
  | cons r _ ih =>
    intro i h1 h2
    cases i with
    | zero => exact r.1
    | succ i => exact ih (Nat.lt_of_succ_lt_succ h1) (Nat.lt_of_succ_lt_succ h2)
theorem turn_dict {P : Program} {w : World} {K : PySem.W.Frag} {tg : Expr} {es : Array DictEntry} {ep : Nat} (d it : Addr) (o : Obj) (kvs : List (Key × V)) (hd : o.data = .dict es ep) : Turn P w K tg (Itd d o kvs) [it] it (fun i h => h.IsKeyIter it d i kvs.length ep) where
  mem := .head _
  obj := fun i h st b hb => by
    have e : b = it := List.mem_singleton.mp hb
    subst e
    obtain ⟨o, e, c, d⟩ := st
    exact ⟨o, e, fun v z => by rw [d] at z; cases z⟩
  keep := fun i h h' st k => st.at fun o e => k it (.head _) o e
  item := by
    intro X hP hw hK hc i pins s σ H E I hf st hg
    subst hP hw hK
    obtain ⟨he, hlt⟩ := hg
    obtain ⟨_, vs, rel, da⟩ := I.dictAt he hd
    have hl := rel.length
    rw [hl] at st
    obtain ⟨f0, f1, f2, f3, f4, f5⟩ := hf it (.head _)
    have hv : vs[i]? = some (vs[i].1, vs[i].2) := by simp [show i < vs.length by omega]
    refine wpAny_pyNext_dict_item st da hv fun key h' hk st' sb => ?_
    have I1 : Inv X pins σ H { s with heap := h' } := I.turned (t' := s.toks) (fun b o hb e => (sb.2 b hb).trans e) f0 f1 f3 f4 f5
    obtain ⟨ob, e, c, dd⟩ := id st'
    have hkv : (kvs[i]).1 = (vs[i]).1 := KV.key rel (show i < kvs.length from hlt) (by omega)
    refine ⟨key, rfl, go_of (s := { s with heap := h' }) e c dd (by decide) ⟨kV (kvs[i]).1, H, I1, by rw [hkv]; exact keyIs_rel hk, ⟨rfl, kvs[i], by simp [hlt], rfl⟩, ?_, fun b hb => (hf b hb).1⟩⟩
    rw [hl]; exact st'
  done := by
    intro X hP hw hK hc i pins s σ H E I hf st hg
    subst hP hw hK
    obtain ⟨he, hlt⟩ := hg
    obtain ⟨_, vs, rel, da⟩ := I.dictAt he hd
    have hl := rel.length
    rw [hl] at st
    obtain ⟨f0, f1, f2, f3, f4, f5⟩ := hf it (.head _)
    exact wpAny_pyNext_dict_end (I.ok.hd hc) st da (List.getElem?_eq_none (by omega)) fun h' eb => ⟨rfl, I.turned (t' := s.toks) (fun b o hb e => eb b o hb e) f0 f1 f3 f4 f5⟩
  self := fun _ _ _ _ _ st h => wpAny_pyIter_keyiter st h
def iDict (tl : TE) : TI := fun σ H R => tl σ H fun x H1 => ∃ a o kvs, x = .ref a ∧ H1 a = some (.frz o (.dK kvs)) ∧ R (Itd a o kvs) H1
theorem pi_dict {tg l : Expr} {tl : TE} (hl : PE X l tl) : PI X tg l (iDict tl) := by
  intro pins s σ H R I h
  refine thn (hl pins s σ H _ I h) fun v s1 ⟨x, H1, I1, r1, q1⟩ => ?_
  obtain ⟨a, o, kvs, e, he, q⟩ := q1
  subst e
  cases r1
  obtain ⟨h1, _, hs, vs, rel, o', es, ep, g1, g2, g3, g4⟩ := (show ObjOk X.prog X.w H1 s1.heap a (.frz o (.dK kvs)) from I1.hok a _ he)
  rw [h1] at g1
  cases g1
  refine wpAny_pyIter_dict (knd := mixKind X.prog X.w) (kvs := vs) (ep := ep) hs ⟨o, es, h1, g2, g3, g4⟩ ?_
  rw [← rel.length]
  refine ⟨s1.heap.objs.size, [s1.heap.objs.size], _, _, H1, rfl, I1.kept (t' := s1.toks) fun b o e => Heap.get?_push_of_some _ e, turn_dict a _ o kvs g3, ⟨_, Heap.get?_push_size _ rfl, rfl, rfl⟩, fun b hb => ?_, q⟩
  have e : b = s1.heap.objs.size := by simpa using hb
  subst e
  exact I1.fpOk (Nat.le_refl _) (I1.hok.fresh (Nat.le_refl _))
end
section
variable {X : Cx}
theorem sortedHeap_old {h : Heap} {a b : Addr} {vs : List Value} {out : Array Value} {o : Obj} (hb : b ≠ a) (e : h.get? b = some o) : (sortedHeap h a vs out).get? b = some o :=
  Heap.get?_update_of_ne _ hb.symm (Heap.get?_push_of_some _ (Heap.get?_push_of_some _ (Heap.get?_update_of_ne _ hb.symm e)))
end
end L2

/-! ### a dict walked, dict(pairs), sorted -/
namespace L2
open PySem PySem.Spec PyProof.Rows
section
variable {K : PySem.W.Frag} {Er : Exc → Hp → Prop} {S : SC} {OO OO' OO2 : List (List Cell)} {σ : St} {α β γ ρ ι δ ε : Type}
variable {Fd : Ends → β → Hp → Prop} [fd : FdOk Fd] {u : TS}
/-- a known dict: read only -/
def rDf {α : Type} (r : Enc α) : Enc (List (Int × α)) := fun K H v d => ∃ p o kvs, v = .ref p ∧ H p = some (.frz o (.dK kvs)) ∧ Paired (rDP r K H) kvs d
instance {r : Enc α} [m : MonoE r] : MonoE (rDf r) := ⟨fun s ⟨p, o, kvs, e, q, pr⟩ => ⟨p, o, kvs, e, s _ _ q, Paired.imp2 (fun _ _ z => ⟨z.1, m.mono s z.2⟩) pr⟩⟩
theorem evb_dninF {td ty : TE} {r : Enc α} {md : Res (List (Int × α))} {mk : Res Int} (hk : EvB K Er S OO σ ty rInt mk) (hd : EvB K Er S OO σ td (rDf r) md) : EvB K Er S OO σ (tDNotIn ty td) rBool (mk.bind fun k => md.bind fun d => .ok (!(dgetL d k).isSome)) := fun H Q w s P =>
  hk.run w s FB.tr P fun k y H1 s1 w1 q1 r1 P1 => hd.run w1 q1 FB.tr P1 fun d x H2 s2 w2 q2 ⟨p, o, kvs, e, q, pr⟩ P2 => ⟨p, valV kvs (.inl k), e, .inl ⟨kvs, .inl k, .inr ⟨o, q⟩, r1, rfl⟩, P2 _ H2 (Same.refl _) (by rw [(valV_paired (k := k) pr).2]; rfl)⟩
theorem walk_dictF {te : TE} {r : Enc α} [z : MonoE r] {m : Res (List (Int × α))} (he : EvS K Er S OO σ te (rDf r) m) : Walk K Er S OO σ (iDict te) rInt (m.bind fun d => .ok (d.map (·.1))) := ⟨fun {H R} w s P => by
  refine he H _ w s ?_
  cases em : m with
  | bad => rw [em] at P; exact P
  | err x => rw [em] at P; exact P
  | ok d =>
    rw [em] at P
    intro v H' s' ⟨p, o, kvs, e, hp, pr⟩
    refine ⟨p, o, kvs, e, hid_same _ _ hp, P _ H' s' ?_ ?_⟩
    · intro i a ha OO2 H2 w2 m2
      rw [List.getElem?_map] at ha
      obtain ⟨kx, h1, h2⟩ := Option.map_eq_some_iff.mp ha
      obtain ⟨kv, hkv, rk⟩ := Paired.getR pr h1
      have hl : i < kvs.length := (List.getElem?_eq_some_iff.mp hkv).1
      refine ⟨⟨hid_same _ _ (m2 _ _ hp), hl⟩, fun y H3 ⟨e3, kv', hy, ey⟩ => ?_⟩
      subst e3
      rw [hkv] at hy
      cases hy
      refine ⟨Same.refl _, ?_⟩
      show y = .int a
      rw [ey, rk.1, ← h2]
      rfl
    · intro OO2 H2 w2 m2
      exact ⟨hid_same _ _ (m2 _ _ hp), by rw [List.length_map, Paired.len pr]; exact Nat.le_refl _⟩⟩
/-- what leans on tuples alone -/
class FlatTE {α : Type} (r : Enc α) : Prop where
  flat : ∀ {K : PySem.W.Frag} {H H' : Hp} {v : V} {a : α}, (∀ b xs, H b = some (.tup xs) → H' b = some (.tup xs)) → r K H v a → r K H' v a
class FlatT {α : Type} (o : OE α) : Prop where
  flat : ∀ {K : PySem.W.Frag} {H H' : Hp} {v : V} {a : α} {C : List Cell}, (∀ b xs, H b = some (.tup xs) → H' b = some (.tup xs)) → o K H v a C → o K H' v a C
instance : FlatTE rInt := ⟨fun _ h => h⟩
instance : FlatTE rBool := ⟨fun _ h => h⟩
instance {r : Enc α} {q : Enc β} {t : Enc γ} [m : FlatTE r] [n : FlatTE q] [k : FlatTE t] : FlatTE (rP3 r q t) := ⟨fun s ⟨a, x, y, z, e, h, p1, p2, p3⟩ => ⟨a, x, y, z, e, s _ _ h, m.flat s p1, n.flat s p2, k.flat s p3⟩⟩
instance {r : Enc α} {q : Enc β} [m : FlatTE r] [n : FlatTE q] : FlatTE (rP2 r q) := ⟨fun s ⟨a, x, y, e, h, p1, p2⟩ => ⟨a, x, y, e, s _ _ h, m.flat s p1, n.flat s p2⟩⟩
instance {r : Enc α} [m : FlatTE r] : FlatTE (rOpt r) := ⟨fun {K H H' v a} s h => by cases a with
  | none => exact h
  | some a => exact ⟨h.1, m.flat s h.2⟩⟩
instance {r : Enc α} [m : FlatTE r] : FlatT (oF r) := ⟨fun s h => ⟨h.1, m.flat s h.2⟩⟩
/-- a dict of ours is lent, known meanwhile -/
theorem ev_lendF {te : TE} {o : OE α} [y : FlatT o] {r : Enc γ} [z : MonoE r] {m : Res α} {v : V} {a : List (Int × γ)} {C : List Cell} (i k : Nat) (hσ : σ[i]? = some (some v)) (hk : OO[k]? = some C) (h : ∀ x, S.p x → oD r K x v a C) (hm : ∀ x, m ≠ .err x)
    (he : Ev K Er (S.add K (rDf r) v a) (OO.set k []) (OO.set k []) σ te o m) : Ev K Er S OO OO σ (tFz i te) o m := fun H Q w s P => by
  obtain ⟨d, kvs, e, pr, c⟩ := h _ s
  subst c e
  have hp := set_flat hk
  have wk : W ([(d, .dK kvs)] :: OO.set k []) H := w.of hp
  have hH : H d = some (.dK kvs) := wk.cell (d, .dK kvs) (by simp)
  have hnd : d ∉ fl (OO.set k []) := by
    have := wk.nd
    rw [fl_cons] at this
    exact fun hb => (List.nodup_append.mp this).2.2 d (by simp) d hb rfl
  have hin : ∀ {b : Addr}, b ∈ fl OO ↔ b = d ∨ b ∈ fl (OO.set k []) := fun {b} => by
    rw [← fl_perm hp b, fl_cons]; simp
  refine ⟨d, kvs, hσ, hH, fun ob => ?_⟩
  have hne : ∀ {b : Addr} {x : HO}, b ∈ fl (OO.set k []) → upd H d x b = H b := fun {b x} hb => upd_ne fun q => hnd (q ▸ hb)
  have wf : W (OO.set k []) (upd H d (.frz ob (.dK kvs))) := ⟨fun c hc => by rw [hne (fl_mem hc)]; exact wk.tail.tr c hc, wk.tail.nd, wk.tail.mu⟩
  have hs : Same (hid H OO) (hid (upd H d (.frz ob (.dK kvs))) (OO.set k [])) := fun b x q => by
    obtain ⟨q1, q2⟩ := hid_some q
    have hb : b ≠ d := fun e => q2 (hin.mpr (.inl e))
    exact hid_of (by rw [upd_ne hb]; exact q1) fun e => q2 (hin.mpr (.inr e))
  have hf : hid (upd H d (.frz ob (.dK kvs))) (OO.set k []) d = some (.frz ob (.dK kvs)) := hid_of upd_same hnd
  refine he _ _ wf ⟨S.mono _ _ hs s, d, ob, kvs, rfl, hf, Paired.imp2 (fun _ _ q => ⟨q.1, z.mono hs q.2⟩) pr⟩ ?_
  cases em : m with
  | bad => rw [em] at P; exact P
  | err x => exact absurd em (hm x)
  | ok b =>
    rw [em] at P
    intro v' D H' s' w' m' ho
    obtain ⟨hd1, hd2⟩ := hid_some (m' _ _ hf)
    have hne2 : ∀ {b : Addr} {x : HO}, b ∈ fl (D :: OO.set k []) → upd H' d x b = H' b := fun {b x} hb => upd_ne fun q => hd2 (q ▸ hb)
    have w2 : W ([(d, .dK kvs)] :: D :: OO.set k []) (upd H' d (.dK kvs)) := by
      refine ⟨fun c hc => ?_, ?_, fun c hc => ?_⟩
      · rw [List.flatten_cons, List.mem_append] at hc
        rcases hc with hc | hc
        · have : c = (d, .dK kvs) := by simpa using hc
          rw [this]; exact upd_same
        · rw [hne2 (fl_mem hc)]; exact w'.tr c hc
      · rw [fl_cons]
        refine List.nodup_append.mpr ⟨by simp, w'.nd, fun a ha b hb e => ?_⟩
        have : a = d := by simpa using ha
        exact hd2 (this ▸ e ▸ hb)
      · rw [List.flatten_cons, List.mem_append] at hc
        rcases hc with hc | hc
        · have : c = (d, .dK kvs) := by simpa using hc
          rw [this]; rfl
        · exact w'.mu c hc
    have pe : (D :: OO).flatten.Perm ([(d, .dK kvs)] :: D :: OO.set k []).flatten := by
      simp only [List.flatten_cons]
      refine List.Perm.trans (List.Perm.append_left D (by simpa using hp.symm : OO.flatten.Perm ([(d, .dK kvs)] ++ (OO.set k []).flatten))) ?_
      rw [← List.append_assoc, ← List.append_assoc]
      exact List.perm_append_comm.append_right _
    have hin2 : ∀ {b : Addr}, b ∈ fl (D :: OO) ↔ b = d ∨ b ∈ fl (D :: OO.set k []) := fun {b} => by
      rw [fl_perm pe b, fl_cons]; simp
    refine ⟨hd1, P v' D _ (fun b x q => ?_) (w2.of pe) (fun b x q => ?_) (y.flat (fun b xs q => ?_) ho)⟩
    · by_cases hb : b = d
      · subst hb; rw [hH] at q; rw [upd_same]; exact q
      · rw [upd_ne hb]; exact s' b x (by rw [upd_ne hb]; exact q)
    · obtain ⟨q1, q2⟩ := hid_some (m' _ _ (hs b x q))
      have hb : b ≠ d := fun e => (hid_some q).2 (hin.mpr (.inl e))
      exact hid_of (by rw [upd_ne hb]; exact q1) fun e => (hin2.mp e).elim hb q2
    · obtain ⟨q1, q2⟩ := hid_some q
      have hb : b ≠ d := fun e => by rw [e, hd1] at q1; cases q1
      exact hid_of (by rw [upd_ne hb]; exact q1) fun e => (hin2.mp e).elim hb q2
/-! sorted -/
theorem ints_map {H : Hp} {xs : List V} {ns : List Int} (h : Paired (rInt K H) xs ns) : xs = ns.map V.int := by
  induction h with
  | nil => rfl
  | cons r _ ih => rw [List.map_cons, ih, show _ = V.int _ from r]
theorem map_ints {H : Hp} (ns : List Int) : Paired (rInt K H) (ns.map V.int) ns := by
  induction ns with
  | nil => exact .nil
  | cons n ns ih => exact .cons rfl ih
theorem ev_sortL {ta : TE} {ma : Res (List Int)} (ha : EvL K Er S OO σ ta rInt ma) : Ev K Er S OO OO σ (tCB (rSortL K) (tCons ta tNil)) (oL (oF rInt)) (ma.bind fun as => chk (as.length < 64) (.ok (sortI as))) := fun H Q w s P =>
  ha.run w s FO.tr P fun as x H1 s1 w1 q1 ⟨p, xs, e, q, pr⟩ P1 => by
    obtain ⟨hl, P2⟩ := PZ.chk P1
    exact ⟨p, as, by rw [e], SqL.of (by rw [← ints_map pr]; exact q), hl, newL w1 (map_ints _) P2⟩
/-! dict(pairs) -/
def dputs (d ps : List (Int × α)) : List (Int × α) := ps.foldl (fun d p => dputL d p.1 p.2) d
theorem dputs_paired {r : Enc α} {H : Hp} {kvs : List (Key × V)} {ps : List (Int × α)} (h : Paired (rDP r K H) kvs ps) : ∀ {acc : List (Key × V)} {d : List (Int × α)}, Paired (rDP r K H) acc d → Paired (rDP r K H) (putAll acc kvs) (dputs d ps) := by
  induction h with
  | nil => intro acc d h; exact h
  | @cons kv kx _ _ r _ ih =>
    intro acc d h
    have := putK_paired (k := kx.1) r.2 h
    rw [← r.1] at this
    exact ih this
theorem prs_split {r : Enc α} {h H : Hp} (hs : Same h H) {xs : List V} {ps : List (Int × α)} (p : Paired (rP2 rInt r K h) xs ps) : ∃ kvs, Paired (fun p (kv : Key × V) => ∃ t, p = .ref t ∧ SqT K H t [kV kv.1, kv.2]) xs kvs ∧ Paired (rDP r K h) kvs ps := by
  induction p with
  | nil => exact ⟨[], .nil, .nil⟩
  | @cons x pr _ _ q _ ih =>
    obtain ⟨kvs, h1, h2⟩ := ih
    obtain ⟨t, a, b, e, ht, e1, e2⟩ := q
    have e1 : a = .int pr.1 := e1
    subst e1
    exact ⟨(.inl pr.1, b) :: kvs, .cons ⟨t, e, SqT.of (hs _ _ ht)⟩ h1, .cons ⟨rfl, e2⟩ h2⟩
theorem ev_dictP {ta : TE} {r : Enc α} [z : MonoE r] {ma : Res (List (Int × α))} (ha : EvL K Er S OO σ ta (rP2 rInt r) ma) : Ev K Er S OO OO σ (tCB (rDictP K) (tCons ta tNil)) (oD r) (ma.bind fun ps => .ok (dputs [] ps)) := fun H Q w s P =>
  ha.run w s FO.tr P fun ps x H1 s1 w1 q1 ⟨p, xs, e, q, pr⟩ P1 => by
    obtain ⟨kvs, h1, h2⟩ := prs_split (hid_same (H := H1) (OO := OO)) pr
    refine ⟨p, xs, kvs, by rw [e], SqL.of q, h1, fun d hd => ?_⟩
    have hn := hid_new (OO := OO) hd (o := .dK (putAll [] kvs))
    exact P1 (.ref d) [(d, .dK (putAll [] kvs))] _ (same_new hd _) (w1.new hd rfl) hn ⟨d, _, rfl, Paired.imp2 (fun _ _ h => ⟨h.1, z.mono hn h.2⟩) (dputs_paired h2 .nil), rfl⟩
end
end L2

/-! ### max(xs, default=d) -/
namespace L2
open PySem PySem.Spec PyProof.Rows
section
variable {prog : Program} {w : World} {A : Around}
end
section
variable {X : Cx}
end
end L2

/-! ### max with a default, lists of lists +, a pair of ours opened in place -/
namespace L2
open PySem PySem.Spec PyProof.Rows
section
variable {K : PySem.W.Frag} {Er : Exc → Hp → Prop} {S : SC} {OO OO' OO1 OO2 : List (List Cell)} {σ : St} {α β γ ρ ι δ ε : Type}
variable {Fd : Ends → β → Hp → Prop} [fd : FdOk Fd] {u : TS}
end
end L2

/-! ### xs < ys, lists of ints -/
namespace L2
open PySem PySem.Spec PyProof.Rows
theorem int_at {ns : List Int} {xs : Array Value} (hx : Vals (ns.map V.int) xs.toList) (i : Nat) : (ns[i]? = none ∧ xs[i]? = none) ∨ ∃ a t, ns[i]? = some a ∧ xs[i]? = some (.int a t) := by
  have hl : ns.length = xs.size := by have := hx.length; simpa using this
  rcases Nat.lt_or_ge i ns.length with h | h
  · obtain ⟨u, hu, ru⟩ := hx.get (i := i) (x := .int ns[i]) (by simp [h])
    obtain ⟨t, rfl⟩ := ru
    exact .inr ⟨ns[i], t, by simp [h], by simpa using hu⟩
  · exact .inl ⟨List.getElem?_eq_none h, by simp; omega⟩
section
variable {X : Cx}
end
end L2

/-! ### list.index(x, k); lists of ints compared -/
namespace L2
open PySem PySem.Spec PyProof.Rows
section
variable {K : PySem.W.Frag} {Er : Exc → Hp → Prop} {S : SC} {OO OO' OO1 OO2 : List (List Cell)} {σ : St} {α β γ ρ ι δ ε : Type}
end
end L2

/-! ### tuple(xs); dicts with tuples of ints as keys -/
namespace L2
open PySem PySem.Spec PyProof.Rows
section
variable {K : PySem.W.Frag} {Er : Exc → Hp → Prop} {S : SC} {OO OO' OO1 OO2 : List (List Cell)} {σ : St} {α β γ ρ ι δ ε : Type}
def tk (k : List Int) : List Key := k.map Sum.inl
variable {Fd : Ends → β → Hp → Prop} [fd : FdOk Fd] {u : TS}
end
end L2

/-! ### x in xs, things of any kind -/
namespace L2
open PySem PySem.Spec PyProof.Rows
section
variable {X : Cx} {α : Type} [DecidableEq α] {r : Enc α} {d : Nat}
end
section
variable {K : PySem.W.Frag} {Er : Exc → Hp → Prop} {S : SC} {OO OO' OO1 OO2 : List (List Cell)} {σ : St} {α β γ ρ ι δ ε : Type}
end
end L2

/-! ### zip of two lists -/
namespace L2
open PySem PySem.Spec PyProof.Rows
section
variable {X : Cx} {pins : List (Addr × Obj)} {σ : St} {H : Hp} {s : Shared} {h' : Heap}
/-- an iterator's objects turned -/
theorem Inv.turns {t' : Nat} {ch : List Addr} (I : Inv X pins σ H s) (k : ∀ b o, b ∉ ch → s.heap.get? b = some o → h'.get? b = some o) (hf : ∀ b ∈ ch, FpOk X pins H b) : Inv X pins σ H { s with heap := h', toks := t' } := by
  have nit : ∀ b o, H b = some o → b ∉ ch := fun b o e z => by rw [(hf b z).1] at e; cases e
  refine I.step (g' := s.gens) (d' := s.drawn) (ch := ch) (fun b hb => ?_) (fun b o _ _ hc e _ => k b o hc e) (fun b o _ _ hc e _ => ⟨o.slots, k b o hc e⟩)
    (fun b o _ e n => n) (fun b o hc e => ⟨o, k b o hc e⟩) (fun b xs e => e) (fun b o xs e => e) (fun b ps e => ⟨#[], by rw [e]; simp⟩) (fun m hm => ?_) (fun b v e => ?_) I.bare
  · obtain ⟨f0, f1, f2, f3, f4, f5⟩ := hf b hb
    exact ⟨f3, f1, f4, f5⟩
  · obtain ⟨o, es, ep, ho, r⟩ := hm
    exact ⟨o, es, ep, k _ o (fun z => (hf _ z).2.1 rfl) ho, r⟩
  · refine (I.hok b v e).stay (fun c o hc q => k c o ?_ q) (fun c q => q) fun c xs q => q
    rcases hc with z | z
    · rw [z]; exact nit b v e
    · exact nit c _ z
end
section
variable {X : Cx} {elts : List Expr} {k : Nat} {pos0 : Pos}
end
end L2

/-! ### zip -/
namespace L2
open PySem PySem.Spec PyProof.Rows
section
variable {K : PySem.W.Frag} {Er : Exc → Hp → Prop} {S : SC} {OO OO' OO1 OO2 : List (List Cell)} {σ : St} {α β γ ρ ι δ ε : Type}
end
end L2

/-! ### xs[i] += e -/
namespace L2
open PySem PySem.Spec PyProof.Rows
section
variable {X : Cx}
end
section
variable {K : PySem.W.Frag} {Er : Exc → Hp → Prop} {S : SC} {OO OO' OO1 OO2 : List (List Cell)} {σ : St} {α β γ ρ ι δ ε : Type}
variable {Fd : Ends → β → Hp → Prop} [fd : FdOk Fd] {u : TS}
end
end L2

/-! ### while, a body that may return -/
namespace L2
open PySem PySem.Spec PyProof.Rows
section
variable {K : PySem.W.Frag} {Er : Exc → Hp → Prop} {S : SC} {OO OO' OO1 OO2 : List (List Cell)} {σ : St} {α β γ ρ ι δ ε : Type} {u : TS}
end
end L2

/-! ### x is True, x is not True -/
namespace L2
open PySem PySem.Spec PyProof.Rows
section
variable {X : Cx}
end
section
variable {K : PySem.W.Frag} {Er : Exc → Hp → Prop} {S : SC} {OO : List (List Cell)} {σ : St}
end
end L2

/-! ### the pairs of a known dict: d.items() -/
namespace L2
open PySem PySem.Spec PyProof.Rows
section
variable {X : Cx} {pins : List (Addr × Obj)} {σ : St} {H : Hp} {s : Shared} {d : Addr} {o : Obj} {kvs : List (Key × V)}
end
end L2

/-! ### d.items(), x //= e, three things of ours in a tuple -/
namespace L2
open PySem PySem.Spec PyProof.Rows
section
variable {X : Cx}
end
section
variable {K : PySem.W.Frag} {Er : Exc → Hp → Prop} {S : SC} {OO OO' OO1 OO2 OO3 : List (List Cell)} {σ : St} {α β γ ρ ι δ ε ζ : Type}
variable {Fd : Ends → β → Hp → Prop} [fd : FdOk Fd] {u : TS}
instance {o : OE α} [m : FlatT o] : FlatT (oL o) := ⟨fun s ⟨p, xs, Cs, e, q, c⟩ => ⟨p, xs, Cs, e, q.imp fun _ _ _ z => m.flat s z, c⟩⟩
/-! three things -/
def oT3 (o : OE α) (q : OE β) (t : OE γ) : OE (α × β × γ) := fun K h v a C => ∃ p x y z C1 C2 C3, v = .ref p ∧ h p = some (.tup [x, y, z]) ∧ o K h x a.1 C1 ∧ q K h y a.2.1 C2 ∧ t K h z a.2.2 C3 ∧ C = C1 ++ (C2 ++ C3)
instance {o : OE α} {q : OE β} {t : OE γ} [m : MonoO o] [n : MonoO q] [k : MonoO t] : MonoO (oT3 o q t) := ⟨fun s ⟨p, x, y, z, C1, C2, C3, e, h, h1, h2, h3, c⟩ => ⟨p, x, y, z, C1, C2, C3, e, s _ _ h, m.mono s h1, n.mono s h2, k.mono s h3, c⟩⟩
instance {o : OE α} {q : OE β} {t : OE γ} [m : FlatO o] [n : FlatO q] [k : FlatO t] : FlatO (oT3 o q t) := ⟨fun s ⟨p, x, y, z, C1, C2, C3, e, h, h1, h2, h3, c⟩ => ⟨p, x, y, z, C1, C2, C3, e, s _ _ h rfl, m.flat s h1, n.flat s h2, k.flat s h3, c⟩⟩
instance {o : OE α} {q : OE β} {t : OE γ} {ro : Enc α} {rq : Enc β} {rt : Enc γ} [m : FrzC o ro] [n : FrzC q rq] [k : FrzC t rt] : FrzC (oT3 o q t) (rP3 ro rq rt) := ⟨fun ⟨p, x, y, z, C1, C2, C3, e, h, h1, h2, h3, c⟩ s hc => by
  subst c
  exact ⟨p, x, y, z, e, s _ _ h, m.frz h1 s fun c hm => hc c (by simp [hm]), n.frz h2 s fun c hm => hc c (by simp [hm]), k.frz h3 s fun c hm => hc c (by simp [hm])⟩⟩
end
end L2

/-! ### a triple of ours opened, every item cleared, int(b) -/
namespace L2
open PySem PySem.Spec PyProof.Rows
section
variable {K : PySem.W.Frag} {Er : Exc → Hp → Prop} {S : SC} {OO OO' OO1 OO2 : List (List Cell)} {σ : St} {α β γ ρ ι δ ε ζ : Type}
variable {Fd : Ends → β → Hp → Prop} [fd : FdOk Fd] {u : TS}
end
end L2

/-! ### if d.setdefault(k, x) != y: raise .. -/
namespace L2
open PySem PySem.Spec PyProof.Rows
section
variable {K : PySem.W.Frag} {Er : Exc → Hp → Prop} {S : SC} {OO OO' OO1 OO2 : List (List Cell)} {σ : St} {α β γ ρ ι δ ε ζ : Type}
variable {Fd : Ends → β → Hp → Prop} [fd : FdOk Fd] {u : TS}
end
end L2

/-! ### a def that changes its second argument, of four -/
namespace L2
open PySem PySem.Spec PyProof.Rows
section
variable {K : PySem.W.Frag} {Er : Exc → Hp → Prop} {S : SC} {OO OO' OO1 OO2 : List (List Cell)} {σ : St} {α β γ ρ ι δ ε ζ α1 α3 α4 : Type}
variable {Fd : Ends → β → Hp → Prop} [fd : FdOk Fd] {u : TS}
end
end L2

/-! ### sets of ints: the table's places rise, so a walk meets every item once -/
namespace L2
open PySem

def Inc (xs : Array Nat) : Prop := xs.toList.Pairwise (· < ·)
theorem Inc.lt {xs : Array Nat} (h : Inc xs) {i j v u : Nat} (hij : i < j) (hi : xs[i]? = some v) (hj : xs[j]? = some u) : v < u := by
  rw [← Array.getElem?_toList] at hi hj
  obtain ⟨a, rfl⟩ := List.getElem?_eq_some_iff.mp hi
  obtain ⟨b, rfl⟩ := List.getElem?_eq_some_iff.mp hj
  exact List.pairwise_iff_getElem.mp h i j a b hij
theorem Inc.le {xs : Array Nat} (h : Inc xs) {i j v u : Nat} (hij : i ≤ j) (hi : xs[i]? = some v) (hj : xs[j]? = some u) : v ≤ u := by
  rcases Nat.lt_or_eq_of_le hij with z | z
  · exact Nat.le_of_lt (h.lt z hi hj)
  · subst z; rw [hi] at hj; cases hj; exact Nat.le_refl _
theorem below_go {xs : Array Nat} (hx : Inc xs) (j : Nat) : ∀ (fuel lo hi : Nat), hi - lo ≤ fuel → lo ≤ hi → hi ≤ xs.size → (∀ i v, i < lo → xs[i]? = some v → v < j) → (∀ i v, hi ≤ i → xs[i]? = some v → j ≤ v) →
    SetTable.below.go xs j fuel lo hi ≤ hi ∧ (∀ i v, i < SetTable.below.go xs j fuel lo hi → xs[i]? = some v → v < j) ∧ (∀ i v, SetTable.below.go xs j fuel lo hi ≤ i → xs[i]? = some v → j ≤ v)
  | 0, lo, hi, h, h1, h2, a, b => by
    have e : lo = hi := by omega
    subst e
    exact ⟨Nat.le_refl _, a, b⟩
  | fuel + 1, lo, hi, h, h1, h2, a, b => by
    unfold SetTable.below.go
    by_cases hlt : lo < hi
    · have hm : (lo + hi) / 2 < xs.size := by omega
      have hg : xs[(lo + hi) / 2]? = some (xs.getD ((lo + hi) / 2) j) := by simp [hm]
      simp only [if_pos hlt]
      by_cases hc : xs.getD ((lo + hi) / 2) j < j
      · rw [if_pos hc]
        exact below_go hx j fuel _ hi (by omega) (by omega) h2 (fun i v hi' e => Nat.lt_of_le_of_lt (hx.le (by omega) e hg) hc) b
      · rw [if_neg hc]
        obtain ⟨p, q, r⟩ := below_go hx j fuel lo ((lo + hi) / 2) (by omega) (by omega) (by omega) a (fun i v hi' e => Nat.le_trans (Nat.le_of_not_lt hc) (hx.le hi' hg e))
        exact ⟨by omega, q, r⟩
    · simp only [if_neg hlt]
      have e : lo = hi := by omega
      subst e
      exact ⟨Nat.le_refl _, a, b⟩
theorem below_spec {xs : Array Nat} (hx : Inc xs) (j : Nat) : SetTable.below xs j ≤ xs.size ∧ (∀ i v, i < SetTable.below xs j → xs[i]? = some v → v < j) ∧ (∀ i v, SetTable.below xs j ≤ i → xs[i]? = some v → j ≤ v) :=
  below_go hx j xs.size 0 xs.size (by omega) (Nat.zero_le _) (Nat.le_refl _) (fun i v h => absurd h (Nat.not_lt_zero _)) fun i v h e => by
    rw [Array.getElem?_eq_none h] at e; cases e
theorem below_zero {xs : Array Nat} (hx : Inc xs) : SetTable.below xs 0 = 0 := by
  obtain ⟨a, b, c⟩ := below_spec hx 0
  rcases Nat.eq_zero_or_pos (SetTable.below xs 0) with h | h
  · exact h
  · have hs : 0 < xs.size := by omega
    exact absurd (b 0 xs[0] h (by simp [hs])) (Nat.not_lt_zero _)
theorem below_next {xs : Array Nat} (hx : Inc xs) {i v : Nat} (e : xs[i]? = some v) : SetTable.below xs (v + 1) = i + 1 := by
  obtain ⟨a, b, c⟩ := below_spec hx (v + 1)
  have h1 : i < SetTable.below xs (v + 1) := by
    rcases Nat.lt_or_ge i (SetTable.below xs (v + 1)) with h | h
    · exact h
    · exact absurd (c i v h e) (by omega)
  rcases Nat.lt_or_ge (i + 1) (SetTable.below xs (v + 1)) with h | h
  · have hs : i + 1 < xs.size := by omega
    have g : xs[i + 1]? = some xs[i + 1] := by simp [hs]
    have := b (i + 1) _ h g
    have := hx.lt (Nat.lt_succ_self i) e g
    omega
  · omega
theorem inc_insert {xs : Array Nat} (hx : Inc xs) {j : Nat} (hn : xs[SetTable.below xs j]? ≠ some j) : Inc (SetTable.insertAt xs (SetTable.below xs j) j) := by
  obtain ⟨a, b, c⟩ := below_spec hx j
  generalize SetTable.below xs j = p at *
  unfold Inc
  rw [SetTable.toList_insertAt, List.pairwise_append, List.pairwise_cons]
  have hd : ∀ u ∈ xs.toList.drop p, j < u := fun u hu => by
    obtain ⟨k, e⟩ := List.getElem?_of_mem hu
    rw [List.getElem?_drop, Array.getElem?_toList] at e
    have h1 := c (p + k) u (Nat.le_add_right _ _) e
    rcases Nat.lt_or_eq_of_le h1 with z | z
    · exact z
    · subst z
      rcases Nat.eq_zero_or_pos k with z | z
      · subst z; exact absurd e hn
      · have hs : p < xs.size := by
          have := (Array.getElem?_eq_some_iff.mp e).1
          omega
        have g : xs[p]? = some xs[p] := by simp [hs]
        have h2 := c p _ (Nat.le_refl _) g
        have h3 := hx.lt (show p < p + k by omega) g e
        omega
  have ht : ∀ u ∈ xs.toList.take p, u < j := fun u hu => by
    obtain ⟨k, e⟩ := List.getElem?_of_mem hu
    rw [List.getElem?_take] at e
    split at e
    · rename_i hk
      rw [Array.getElem?_toList] at e
      exact b k u hk e
    · cases e
  refine ⟨List.Pairwise.sublist (List.take_sublist _ _) hx, ⟨hd, List.Pairwise.sublist (List.drop_sublist _ _) hx⟩, fun u hu y hy => ?_⟩
  rcases List.mem_cons.mp hy with z | z
  · rw [z]; exact ht u hu
  · exact Nat.lt_trans (ht u hu) (hd y z)

/-- a table in order -/
structure TOk (t : SetTable) (led : Bool) : Prop where
  inc : Inc t.place
  dum : t.dummies = #[]
  led : t.led = led
theorem TOk.fresh (f m : Nat) (led : Bool) : TOk (.fresh f m led) led := ⟨List.Pairwise.nil, rfl, rfl⟩
theorem TOk.standIn {t : SetTable} {led : Bool} (h : TOk t led) (n : Nat) : TOk (t.standIn n) led := ⟨by unfold Inc SetTable.standIn; simpa using List.pairwise_lt_range, rfl, h.led⟩
theorem slot_none {t : SetTable} (hd : t.dummies = #[]) (j : Nat) : (t.slot j = .empty → t.place[SetTable.below t.place j]? ≠ some j) ∧ t.slot j ≠ .dummy := by
  unfold SetTable.slot
  have hh : SetTable.has t.dummies j = false := by rw [hd]; simp [SetTable.has]
  simp only [hh]
  by_cases h : t.place[SetTable.below t.place j]? = some j
  · simp [h]
  · simp [h]
theorem probe_empty {t : SetTable} (hd : t.dummies = #[]) {f : Nat → Int} {h : Int} {j : Nat} {d : Option Nat} : ∀ (fuel : Nat) (p : SetTable.Probe), p.dummy = none → SetTable.probe.go t f h fuel p = some (.empty j d) → d = none ∧ t.slot j = .empty
  | 0, p, _, e => by cases e
  | fuel + 1, p, hp, e => by
    unfold SetTable.probe.go at e
    have adv : (t.advance p).dummy = none := by unfold SetTable.advance; split <;> exact hp
    cases hs : t.slot p.j with
    | empty => rw [hs] at e; cases e; exact ⟨hp, hs⟩
    | dummy => exact absurd hs (slot_none hd _).2
    | live i =>
      rw [hs] at e
      dsimp only at e
      split at e
      · cases e
      · exact probe_empty hd fuel _ adv e
theorem layNew_ok {t : SetTable} {led : Bool} (h : TOk t led) (es : Array (Int × Value)) (k : Int) (x : Value) : TOk (layNew t es k x).2.1 led := by
  unfold layNew
  cases hf : t.freeSlot k with
  | none => exact h.standIn _
  | some q =>
    obtain ⟨sl, wd⟩ := q
    dsimp only
    have hk : TOk (t.put sl).1 led := by
      unfold SetTable.freeSlot at hf
      cases hp : t.probe (fun _ => k + 1) k (t.probeStart k) with
      | none => rw [hp] at hf; cases hf
      | some m =>
        rw [hp] at hf
        cases m with
        | candidate => cases hf
        | empty j d =>
          obtain ⟨rfl, hs⟩ := probe_empty h.dum _ _ rfl hp
          cases hf
          have hh : SetTable.has t.dummies j = false := by rw [h.dum]; simp [SetTable.has]
          refine ⟨inc_insert h.inc ((slot_none h.dum j).1 hs), ?_, h.led⟩
          show (if SetTable.has t.dummies j then _ else t.dummies) = #[]
          rw [hh]; exact h.dum
    unfold SetTable.orStandIn
    split
    · exact hk
    · exact hk.standIn _
theorem relayAll_ok {t : SetTable} {led : Bool} (h : TOk t led) (es : Array (Int × Value)) (k : Nat) : TOk (relayAll t es k).2.1 led := by
  unfold relayAll
  cases hr : t.relaid (es.map (·.1)) k with
  | none => exact h.standIn _
  | some q =>
    obtain ⟨t', ord⟩ := q
    dsimp only
    split
    · unfold SetTable.relaid SetTable.laid at hr
      cases ho : SetTable.layClean (SetTable.sizeAbove k - 1) (es.map (·.1)) with
      | none => rw [ho] at hr; cases hr
      | some ow =>
        rw [ho] at hr
        cases hr
        refine ⟨?_, rfl, h.led⟩
        unfold Inc
        show List.Pairwise (· < ·) (List.map (·.1) ((List.range _).filterMap fun j => (ow.getD j none).map (j, ·)))
        rw [List.map_filterMap]
        have e : (fun j => Option.map (fun x : Nat × Nat => x.1) ((ow.getD j none).map (j, ·))) = fun j => if (ow.getD j none).isSome then some j else none := by
          funext j
          cases ow.getD j none <;> rfl
        rw [e]
        refine List.Pairwise.filterMap _ (fun a a' hlt b hb b' hb' => ?_) List.pairwise_lt_range
        split at hb
        · split at hb'
          · cases hb; cases hb'; exact hlt
          · cases hb'
        · cases hb
    · exact h.standIn _
end L2
/-! ### sets of ints on the heap -/
namespace L2
open PySem PySem.Spec PyProof.Rows
theorem ints_mem {vs : List Value} {ms : List Int} (h : IntsAre vs ms) (k : Int) : (∃ v ∈ vs, Value.isInt k v = true) ↔ k ∈ ms := by
  induction h with
  | nil => simp
  | cons n t _ ih =>
    rw [List.mem_cons, ← ih]
    constructor
    · rintro ⟨v, hv, e⟩
      rcases List.mem_cons.mp hv with z | z
      · subst z; obtain ⟨t', e'⟩ := Value.isInt_shape e; cases e'; exact .inl rfl
      · exact .inr ⟨v, z, e⟩
    · rintro (z | ⟨v, hv, e⟩)
      · subst z; exact ⟨_, .head _, beq_self_eq_true _⟩
      · exact ⟨v, .tail _ hv, e⟩
theorem ints_perm {vs vs' : List Value} (p : vs'.Perm vs) : ∀ {ms : List Int}, IntsAre vs ms → ∃ ms', IntsAre vs' ms' ∧ ms'.Perm ms := by
  induction p with
  | nil => intro ms h; exact ⟨ms, h, .refl _⟩
  | cons x _ ih =>
    intro ms h
    cases h with
    | cons n t h => obtain ⟨m, a, b⟩ := ih h; exact ⟨n :: m, .cons n t a, b.cons _⟩
  | swap x y l =>
    intro ms h
    cases h with
    | cons n t h => cases h with
      | cons m u h => exact ⟨_, .cons m u (.cons n t h), .swap ..⟩
  | trans _ _ ih1 ih2 =>
    intro ms h
    obtain ⟨m, a, b⟩ := ih2 h
    obtain ⟨m', a', b'⟩ := ih1 a
    exact ⟨m', a', b'.trans b⟩
theorem ints_snoc {vs : List Value} {ms : List Int} (h : IntsAre vs ms) (k : Int) (t : Tok) : IntsAre (vs ++ [.int k t]) (ms ++ [k]) := by
  induction h with
  | nil => exact .cons k t .nil
  | cons n u _ ih => exact .cons n u ih
/-- without what was met before -/
def dd (l : List Int) : List Int := l.foldl step_dedup []
/-- a set's entries and its table: the items are ns -/
structure SCore (prog : Program) (w : World) (es : Array (Int × Value)) (t : SetTable) (ns : List Int) : Prop where
  el : ElemsOf (intKind prog w) es.toList
  pm : ∃ ms, IntsAre (es.toList.map (·.2)) ms ∧ ms.Perm ns
  sz : es.size < scanBound
  fit : t.fits es.size = true
  tok : TOk t (!w.params.followText "set-order")
def SetI (prog : Program) (w : World) (h : Heap) (a : Addr) (ns : List Int) : Prop :=
  ∃ o es ep t, h.get? a = some o ∧ o.ExactSet ∧ o.data = .set es ep t ∧ SCore prog w es t ns
section
variable {prog : Program} {w : World} {A : Around} {E : Value → Shared → Prop} {s : Shared} {a : Addr} {ns : List Int}
theorem SCore.len {es : Array (Int × Value)} {t : SetTable} (c : SCore prog w es t ns) : es.size = ns.length := by
  obtain ⟨ms, a, b⟩ := c.pm
  rw [← b.length_eq, ← IntsAre.length a, List.length_map, Array.length_toList]
theorem SCore.mem {es : Array (Int × Value)} {t : SetTable} (c : SCore prog w es t ns) (k : Int) : (∃ e ∈ es.toList, Value.isInt k e.2 = true) ↔ k ∈ ns := by
  obtain ⟨ms, a, b⟩ := c.pm
  rw [← b.mem_iff, ← ints_mem a k]
  constructor
  · rintro ⟨e, h, z⟩; exact ⟨e.2, List.mem_map_of_mem h, z⟩
  · rintro ⟨v, h, z⟩
    obtain ⟨e, h1, rfl⟩ := List.mem_map.mp h
    exact ⟨e, h1, z⟩
theorem SCore.perm {es es' : Array (Int × Value)} {t t' : SetTable} (c : SCore prog w es t ns) (p : es'.toList.Perm es.toList) (f : t'.fits es'.size = true) (k : TOk t' (!w.params.followText "set-order")) : SCore prog w es' t' ns := by
  obtain ⟨ms, a, b⟩ := c.pm
  obtain ⟨m, a', b'⟩ := ints_perm (p.map (·.2)) a
  have e : es'.size = es.size := by rw [← Array.length_toList, p.length_eq, Array.length_toList]
  exact ⟨c.el.perm p, ⟨m, a', b'.trans b⟩, by rw [e]; exact c.sz, f, k⟩
theorem SetI.put {h : Heap} {o : Obj} {es es' : Array (Int × Value)} {ep : Nat} {t t' : SetTable} (ho : h.get? a = some o) (hx : o.ExactSet) (hd : o.data = .set es ep t) :
    (h.update a (Obj.putSet es' t')).get? a = some { o with data := .set es' (ep + 1) t' } ∧ (SCore prog w es' t' ns → SetI prog w (h.update a (Obj.putSet es' t')) a ns) := by
  have g := Heap.get?_update_self (Obj.putSet es' t') ho (by rw [putSet_of es' t' hd]; rfl)
  rw [putSet_of es' t' hd] at g
  exact ⟨g, fun c => ⟨_, _, _, _, g, hx, rfl, c⟩⟩
/-- one more item is put in -/
theorem setAddI {k : Int} {tk : Tok} {Q : Bool → Shared → Prop} (hS : SetI prog w s.heap a ns) (hr : ns.length + 1 < scanBound)
    (h : ∀ b h', Heap.SameBut a s.heap h' → SetI prog w h' a (step_dedup ns k) → Q b { s with heap := h' }) : wpAny (model prog w) A (setAddHashed a (.int k tk) ((intKind prog w).hash k)) Q E s := by
  obtain ⟨o, es, ep, t, ho, hx, hd, c⟩ := id hS
  have hk : (intKind prog w).is k (.int k tk) = true := intKind_is _ _ _ _
  unfold setAddHashed setAddHashedIn
  refine wpAny_holding (wpAny_bind (wpAny_setState_of ho hd c.fit ?_))
  dsimp only
  rw [byScan_of (knd := intKind prog w) rfl c.sz c.el]
  simp only [↓reduceIte]
  unfold setAddByScan
  refine wpAny_bind (wpAny_bind (wpAny_rule (wpAny_bind (wpAny_setScan_of hk ho hd c.fit c.el ?_))))
  cases hf : List.findIdx? (fun e => (intKind prog w).is k e.2) es.toList with
  | some j =>
    obtain ⟨hj, hp, _⟩ := List.findIdx?_eq_some_iff_getElem.mp hf
    have hm : k ∈ ns := (c.mem k).mp ⟨_, List.getElem_mem hj, hp⟩
    have e : step_dedup ns k = ns := if_pos (List.any_eq_true.mpr ⟨k, hm, by simp⟩)
    exact wpAny_pure (wpAny_pure (h _ s.heap (Heap.SameBut.refl a s.heap) (by rw [e]; exact hS)))
  | none =>
    have hm : k ∉ ns := fun hm => by
      obtain ⟨e, he, hp⟩ := (c.mem k).mpr hm
      have := List.findIdx?_eq_none_iff.mp hf e he
      rw [show (intKind prog w).is k e.2 = true from hp] at this
      cases this
    have e : step_dedup ns k = ns ++ [k] := if_neg (fun z => by
      obtain ⟨x, hx, ex⟩ := List.any_eq_true.mp z
      rw [beq_iff_eq] at ex; subst ex; exact hm hx)
    rw [e] at h
    dsimp only
    have hg : ∀ (b : Bool) {s₁ : Shared} {Q' : Unit → Shared → Prop}, Q' () s₁ → wpAny (model prog w) A (match b with | true => rule "set.scan.the-table-gave-way" | false => pure ()) Q' E s₁ :=
      fun b s₁ Q' q => by cases b <;> first | exact wpAny_pure q | exact wpAny_rule q
    have hp := layNew_perm t es ((intKind prog w).hash k) (.int k tk)
    have hfit := layNew_fits t es ((intKind prog w).hash k) (.int k tk)
    have ht := layNew_ok c.tok es ((intKind prog w).hash k) (.int k tk)
    generalize layNew t es ((intKind prog w).hash k) (.int k tk) = L at hp hfit ht ⊢
    obtain ⟨es1, t1, wd, gv⟩ := L
    dsimp only at hp hfit ht ⊢
    have hsz : es1.size = es.size + 1 := by rw [← Array.length_toList, hp.length_eq]; simp
    have c1 : SCore prog w es1 t1 (ns ++ [k]) := by
      obtain ⟨ms, i1, i2⟩ := c.pm
      rw [Array.toList_push] at hp
      have hp2 := hp.map (·.2)
      rw [List.map_append] at hp2
      obtain ⟨m, j1, j2⟩ := ints_perm hp2 (ints_snoc i1 k tk)
      exact ⟨(c.el.push hk rfl).perm hp, ⟨m, j1, j2.trans (i2.append_right _)⟩, by rw [hsz, c.len]; exact hr, hfit, ht⟩
    refine wpAny_bind (hg gv ?_)
    have tail : ∀ {Q1 : Option Bool → Shared → Prop}, (∀ h', Heap.SameBut a s.heap h' → SetI prog w h' a (ns ++ [k]) → Q1 (some true) { s with heap := h' }) → wpAny (model prog w) A (do
        storeSet a es1 t1
        if (!wd && t1.tooFull) = true then do
            (match (relayAll t1 es1 (SetTable.grown es1.size)).2.2 with | true => rule "set.scan.the-table-gave-way" | false => pure ())
            storeSet a (relayAll t1 es1 (SetTable.grown es1.size)).1 (relayAll t1 es1 (SetTable.grown es1.size)).2.1
            pure (some true)
          else pure (some true)) Q1 E s := fun {Q1} q => by
      obtain ⟨g1, s1⟩ := SetI.put (prog := prog) (w := w) (ns := ns ++ [k]) (es' := es1) (t' := t1) ho hx hd
      refine wpAny_bind (wpAny_storeSet_of ho hd ?_ (fits_of_scanBound c1.sz))
      split
      · refine wpAny_bind (hg _ ?_)
        have p2 := relayAll_perm t1 es1 (SetTable.grown es1.size)
        have f2 := relayAll_fits t1 es1 (SetTable.grown es1.size)
        have k2 := relayAll_ok ht es1 (SetTable.grown es1.size)
        generalize relayAll t1 es1 (SetTable.grown es1.size) = Z at p2 f2 k2 ⊢
        obtain ⟨es2, t2, gv2⟩ := Z
        have c2 := c1.perm p2 f2 k2
        refine wpAny_bind (wpAny_storeSet_of g1 rfl ?_ (fits_of_scanBound c2.sz))
        exact wpAny_pure (q _ ((Heap.SameBut.update s.heap a _).trans (Heap.SameBut.update _ a _)) ((SetI.put g1 hx rfl).2 c2))
      · exact wpAny_pure (q _ (Heap.SameBut.update s.heap a _) (s1 c1))
    have fin : ∀ h', Heap.SameBut a s.heap h' → SetI prog w h' a (ns ++ [k]) → Q true { s with heap := h' } := fun h' sb z => h true h' sb z
    split
    · refine wpAny_bind ?_
      rw [hashByValue_scannable 8 (x := .int k tk) rfl]
      refine wpAny_pure ?_
      exact tail fun h' sb z => wpAny_pure (fin h' sb z)
    · refine wpAny_bind (wpAny_pure ?_)
      exact tail fun h' sb z => wpAny_pure (fin h' sb z)
end
end L2
/-! ### set(xs) -/
namespace L2
open PySem PySem.Spec PyProof.Rows
section
variable {prog : Program} {w : World} {A : Around} {E : Value → Shared → Prop} {s : Shared}
theorem SetI.at {h h' : Heap} {a : Addr} {ns : List Int} (x : SetI prog w h a ns) (k : ∀ o, h.get? a = some o → h'.get? a = some o) : SetI prog w h' a ns :=
  let ⟨o, es, ep, t, ho, r⟩ := x; ⟨o, es, ep, t, k o ho, r⟩
theorem dd_snoc (l : List Int) (k : Int) : dd (l ++ [k]) = step_dedup (dd l) k := by unfold dd; rw [List.foldl_append]; rfl
theorem dd_length (l : List Int) : (dd l).length ≤ l.length := by
  suffices h : ∀ (l a : List Int), (l.foldl step_dedup a).length ≤ a.length + l.length by unfold dd; simpa using h l []
  intro l
  induction l with
  | nil => intro a; exact Nat.le_refl _
  | cons x l ih =>
    intro a
    refine Nat.le_trans (ih _) ?_
    rw [step_length, List.length_cons]
    split <;> omega
theorem setLoop {R : Result → Shared → Prop} {I l S : Addr} {items : List Value} {ns : List Int} (hh : A.in1.handled = none) (hi : IntsAre items ns) (hb : ns.length + 1 < scanBound) (h1 : S ≠ I) (h2 : S ≠ l) (h3 : l ≠ I) :
    ∀ (k i : Nat) (s : Shared), items.length - i = k → i ≤ items.length → s.heap.IsListIter I l i → s.heap.IsList l items.toArray → SetI prog w s.heap S (dd (ns.take i)) →
      (∀ h' tk, SetI prog w h' S (dd ns) → (∀ b o, b ≠ S → b ≠ I → s.heap.get? b = some o → h'.get? b = some o) → R (.ok (.ret .none)) { s with heap := h', toks := tk }) →
      codeAny (model prog w) A (.builtin "set.update.loop" ⟨[.ref S, .ref I], []⟩) R s := by
  have hln := IntsAre.length hi
  intro k
  induction k with
  | zero =>
    intro i s hk hle hit hl hS hR
    have e : i = items.length := by omega
    subst e
    refine codeAny_builtin PyProof.Rows.F.entry_set_update_loop ?_
    rw [Around.under_plainId PyProof.Rows.F.plain_set_update_loop _]
    show wpAny _ A.in1 (pyNext (.ref I) >>= _) _ _ s
    refine wpAny_bind (wpAny_pyNext_list_end hh hit hl (by simp) fun h' ext => ?_)
    show wpAny _ A.in1 (ret Value.none) _ _ _
    rw [List.take_of_length_le (by omega)] at hS
    exact wpAny_pure (hR h' _ (hS.at fun o ho => ext S o h1 ho) fun b o _ hbI e => ext b o hbI e)
  | succ k ih =>
    intro i s hk hle hit hl hS hR
    have hlt : i < items.length := by omega
    obtain ⟨tk, ev⟩ := IntsAre.int_at hi i items[i] (List.getElem?_eq_getElem hlt)
    have hi2 : i < ns.length := by omega
    have eg : ns.getD i 0 = ns[i] := by simp [hi2]
    rw [eg] at ev
    refine codeAny_builtin PyProof.Rows.F.entry_set_update_loop ?_
    rw [Around.under_plainId PyProof.Rows.F.plain_set_update_loop _]
    show wpAny _ A.in1 (pyNext (.ref I) >>= _) _ _ s
    refine wpAny_bind (wpAny_pyNext_list_item hit hl (x := items[i]) (by simp [hlt]) fun h' hit' sb => ?_)
    rw [ev]
    show wpAny _ A.in1 (holding [Value.int ns[i] tk] (setAdd S (.int ns[i] tk)) >>= _) _ _ _
    refine wpAny_bind (wpAny_holding ?_)
    unfold setAdd
    refine wpAny_holding (wpAny_bind ((intKind prog w).pyHash (k := ns[i]) (intKind_is _ _ _ _) ?_))
    have hS' : SetI prog w h' S (dd (ns.take i)) := hS.at fun o ho => (sb.2 S h1).trans ho
    refine setAddI (s := { s with heap := h', toks := s.toks + 1 }) hS' (by have := dd_length (ns.take i); rw [List.length_take] at this; omega) fun b h2' sb2 hS2 => ?_
    rw [← dd_snoc, ← List.take_succ_eq_append_getElem hi2] at hS2
    refine wpAny_pure ⟨plainId_quiet PyProof.Rows.F.plain_set_update_loop _, ih (i + 1) _ (by omega) hlt (hit'.at fun o ho => (sb2.2 I (Ne.symm h1)).trans ho) (hl.at fun o ho => (sb2.2 l (Ne.symm h2)).trans ((sb.2 l h3).trans ho)) hS2 fun h3' tk' hS3 keep => ?_⟩
    exact hR h3' tk' hS3 fun b o hbS hbI e => keep b o hbS hbI ((sb2.2 b hbS).trans ((sb.2 b hbI).trans e))
theorem new_setI (v : Value) {Q : Value → Shared → Prop}
    (h : Q (.ref s.heap.objs.size) { s with heap := s.heap.push { cls := .type "set", dict := none, data := .set #[] 0 (.fresh 0 0 (!w.params.followText "set-order")) } }) :
    codeAny (model prog w) A (.call (.builtin "set.__new__") ⟨[.type "set", v], []⟩) (wants Q E) s := by
  refine codeAny_of_tree ?_
  show wpAny _ A.in1 (do checkBuiltinCall "set.__new__" ⟨[.type "set", v], []⟩; again (.builtin "set.__new__" ⟨[.type "set", v], []⟩)) _ _ s
  refine wpAny_bind (wpAny_of_eq (F.newCall_set_1 v) (wpAny_pure ⟨plainId_quiet F.plain_set_new _, codeAny_builtin F.entry_set_new ?_⟩))
  rw [Around.under_plainId F.plain_set_new _]
  unfold Builtin.«set.__new__» Builtin.Frozenset.newClass
  have hsub := sub_set_self
  obtain ⟨hp, g, d, tk, os⟩ := s
  dsimp only
  wp_walk
  refine wpAny_askSetting (wpAny_pure ?_)
  dsimp only
  simp only [newObj]
  refine wpAny_bind (wpAny_alloc (wpAny_pure ?_))
  exact wpAny_pure h
set_option maxHeartbeats 3200000 in
theorem call_setI {l : Addr} {items : List Value} {ns : List Int} {Q : Value → Shared → Prop} (hh : A.handled = none) (hl : s.heap.IsList l items.toArray) (hi : IntsAre items ns) (hb : ns.length + 1 < scanBound)
    (h : ∀ h' tk, SetI prog w h' s.heap.objs.size (dd ns) → (∀ b o, s.heap.get? b = some o → h'.get? b = some o) → Q (.ref s.heap.objs.size) { s with heap := h', toks := tk }) :
    wpAny (model prog w) A (call (.type "set") [.ref l]) Q E s := by
  obtain ⟨c, tl, hmro⟩ := F.called_set.mro
  have hmade := F.called_set.made
  have hsub := F.called_set.sub
  refine wpAny_call (codeAny_of_tree ?_)
  show wpAny _ _ (callAny (.type "set") _) _ _ _
  refine wpAny_pure ⟨Code.quiet_builtin _ (by decide +kernel), codeAny_builtin F.entry_type_call ?_⟩
  rw [Around.under_plain (weight_type_call_type "set" [.ref l] []) rfl]
  have h1 := F.called_set.notType
  have h2 := F.called_set.canCreate
  have hct := F.typeCall_set_1 (.ref l)
  repeat (any_goals (first | assumption | wp_step))
  generalize hob : ({ cls := .type "set", dict := none, data := .set #[] 0 (.fresh 0 0 (!w.params.followText "set-order")) } : Obj) = ob
  refine codeAny_mono (new_setI (.ref l) (E := E) (Q := fun obj s₁ => obj = .ref s.heap.objs.size ∧ s₁ = { s with heap := s.heap.push ob }) ⟨rfl, by rw [hob]⟩) fun r s₁ hr => ?_
  cases r with
  | error e => exact hr
  | ok fl =>
    cases fl with
    | ret obj =>
      obtain ⟨rfl, rfl⟩ := hr
      have hS : (s.heap.push ob).get? s.heap.objs.size = some ob := Heap.get?_push_size _ (by rw [← hob]; rfl)
      have hT : Shared.TypeIs { s with heap := s.heap.push ob } (.ref s.heap.objs.size) "set" := ⟨_, hS, by rw [← hob]⟩
      have hli := F.called_set.init.lookup
      have hbi := F.called_set.init.bind (.ref s.heap.objs.size)
      repeat (any_goals (first | assumption | wp_step))
      refine codeAny_mono (codeAny_call_builtin (R := wants (fun r s₂ => r = .none ∧ ∃ h' tk, s₂ = { s with heap := h', toks := tk } ∧ SetI prog w h' s.heap.objs.size (dd ns) ∧ (∀ b o, s.heap.get? b = some o → h'.get? b = some o)) E) F.called_set.init.plain F.entry_set_init (check_set_init_1 hT ?_)) fun r₂ s₂ hr₂ => ?_
      · have hS0 : SetI prog w (s.heap.push ob) s.heap.objs.size [] := ⟨_, #[], 0, _, hS, by rw [← hob]; exact ⟨rfl, rfl, rfl⟩, by rw [← hob], ⟨fun e he => by simp at he, ⟨[], .nil, .refl _⟩, by decide, by rfl, .fresh ..⟩⟩
        obtain ⟨ol, hol, hcl, nl, hdl⟩ := hl
        obtain ⟨ocls, odict, odata, oslots⟩ := ol
        simp only at hcl hdl
        subst hcl; subst hdl
        have hol' : (s.heap.push ob).get? l = some { cls := .type "list", dict := odict, data := .seq items.toArray nl, slots := oslots } := Heap.get?_push_of_some _ hol
        have hsls := F.sub_list_set
        have hslf := F.sub_list_frozenset
        have hne : (Value.type "list" == Value.type "dict") = false := by decide
        have hl1 : (s.heap.push ob).IsList l items.toArray := ⟨_, hol', rfl, nl, rfl⟩
        subst hob
        unfold Builtin.«set.__init__» noKeywords Builtin.Frozenset.updateFrom
        generalize hPI : pyIter = PI
        wp_walk
        subst hPI
        refine wpAny_pyIter_list hl1 ?_
        refine wpAny_bind (wpAny_runValue ?_)
        have hlS : l < s.heap.objs.size := Heap.lt_size hol
        generalize hob : ({ cls := .type "set", dict := none, data := .set #[] 0 (.fresh 0 0 (!w.params.followText "set-order")) } : Obj) = ob at *
        have hI : (s.heap.push ob).objs.size = s.heap.objs.size + 1 := Heap.size_push ..
        refine setLoop (ns := ns) (l := l) (by simp [hh]) hi hb (by rw [hI]; exact Nat.ne_of_lt (Nat.lt_succ_self _)) (Nat.ne_of_gt hlS) (by rw [hI]; exact Nat.ne_of_lt (Nat.lt_succ_of_lt hlS)) (items.length - 0) 0 _ rfl (Nat.zero_le _)
          ⟨_, Heap.get?_push_size _ rfl, rfl, rfl⟩ (hl1.push _) (hS0.at fun o ho => Heap.get?_push_of_some _ ho) fun h' tk hS' keep => ?_
        show wpAny _ _ _ _ _ _
        refine wpAny_pure ?_
        show wpAny _ _ (ret Value.none) _ _ _
        exact wpAny_pure ⟨rfl, h', tk, rfl, hS', fun b o e => keep b o (Nat.ne_of_lt (Heap.lt_size e)) (by rw [hI]; exact Nat.ne_of_lt (Nat.lt_succ_of_lt (Heap.lt_size e))) (Heap.get?_push_of_some _ (Heap.get?_push_of_some _ e))⟩
      · cases r₂ with
        | error e => exact hr₂
        | ok fl₂ =>
          cases fl₂ with
          | ret r =>
            obtain ⟨rfl, h', tk, rfl, hS', hk'⟩ := hr₂
            repeat (any_goals (first | assumption | wp_step))
            exact h _ _ hS' hk'
          | _ => exact hr₂.elim
    | _ => exact hr.elim
end
end L2
/-! ### a set is walked -/
namespace L2
open PySem PySem.Spec PyProof.Rows
theorem slot_setiter_next : Slot "set_iterator" "__next__" "set_iterator.__next__" :=
  .of (owner := "set_iterator") (n := "__next__") (by rw [typeLookup_type, builtinLookup_eq_fast]; kernel_rfl) (by decide +kernel) (by decide +kernel) (by decide +kernel)
    (by first | exact .inl (by decide +kernel) | exact .inr (by decide +kernel)) (by rw [isSubtype_type]; kernel_rfl)
theorem entry_setiter_next : entryFor table "set_iterator.__next__" = some Builtin.«set_iterator.__next__» := entryFor_of_fast (by kernel_rfl)
theorem args_setiter_next (a : Value) : argsOk "set_iterator.__next__" ⟨[a], []⟩ := by unfold argsOk; kernel_rfl
theorem slot_setiter_iter : Slot "set_iterator" "__iter__" "set_iterator.__iter__" :=
  .of (owner := "set_iterator") (n := "__iter__") (by rw [typeLookup_type, builtinLookup_eq_fast]; kernel_rfl) (by decide +kernel) (by decide +kernel) (by decide +kernel)
    (by first | exact .inl (by decide +kernel) | exact .inr (by decide +kernel)) (by rw [isSubtype_type]; kernel_rfl)
theorem args_setiter_iter (a : Value) : argsOk "set_iterator.__iter__" ⟨[a], []⟩ := by unfold argsOk; kernel_rfl
theorem slot_set_iter' : Slot "set" "__iter__" "set.__iter__" :=
  .of (owner := "set") (n := "__iter__") (by rw [typeLookup_type, builtinLookup_eq_fast]; kernel_rfl) (by decide +kernel) (by decide +kernel) (by decide +kernel)
    (by first | exact .inl (by decide +kernel) | exact .inr (by decide +kernel)) (by rw [isSubtype_type]; kernel_rfl)
theorem entry_set_iter' : entryFor table "set.__iter__" = some Builtin.«frozenset.__iter__» :=
  entryFor_alias (id' := "frozenset.__iter__") (by kernel_rfl) rfl (by decide +kernel) (by kernel_rfl)
theorem entry_setiter_iter : entryFor table "set_iterator.__iter__" = some Builtin.«dict_keyiterator.__iter__» :=
  entryFor_alias (id' := "dict_keyiterator.__iter__") (by kernel_rfl) rfl (by decide +kernel) (by kernel_rfl)
theorem args_set_iter' (a : Value) : argsOk "set.__iter__" ⟨[a], []⟩ := by unfold argsOk; kernel_rfl
theorem slot_set_len' : Slot "set" "__len__" "set.__len__" :=
  .of (owner := "set") (n := "__len__") (by rw [typeLookup_type, builtinLookup_eq_fast]; kernel_rfl) (by decide +kernel) (by decide +kernel) (by decide +kernel)
    (by first | exact .inl (by decide +kernel) | exact .inr (by decide +kernel)) (by rw [isSubtype_type]; kernel_rfl)

theorem cons_erase {α : Type} : ∀ {l : List α} {i : Nat} (h : i < l.length), (l[i] :: l.eraseIdx i).Perm l
  | x :: l, 0, _ => .refl _
  | x :: l, i + 1, h => (List.Perm.swap x (l[i]'(Nat.lt_of_succ_lt_succ h)) (l.eraseIdx i)).trans ((cons_erase (Nat.lt_of_succ_lt_succ h)).cons x)
theorem pick_go {α : Type} (next : Nat → Nat) : ∀ (left : List α) (k : Nat) (out : Array α), (pickOrder.go next left.length k left out).toList.Perm (out.toList ++ left) := by
  intro left
  generalize hn : left.length = n
  induction n generalizing left with
  | zero => intro k out; cases left with
    | nil => simp [pickOrder.go]
    | cons => cases hn
  | succ n ih =>
    intro k out
    have hlt : next k % left.length < left.length := Nat.mod_lt _ (by omega)
    unfold pickOrder.go
    rw [List.getElem?_eq_getElem hlt]
    dsimp only
    have hp : (left[next k % left.length] :: left.eraseIdx (next k % left.length)).Perm left := cons_erase hlt
    refine (ih (left.eraseIdx (next k % left.length)) (by rw [List.length_eraseIdx]; simp [hlt]; omega) (k + 1) _).trans ?_
    rw [Array.toList_push, List.append_assoc]
    exact hp.append_left _
theorem pick_perm {α : Type} (next : Nat → Nat) (xs : Array α) : (pickOrder next xs).toList.Perm xs.toList := by
  have := pick_go next xs.toList 0 #[]
  rw [Array.length_toList] at this
  simpa [pickOrder] using this
section
variable {M : Model} {A : Around} {E : Value → Shared → Prop} {s : Shared}
theorem wpAny_choose {src : Source} {n : Nat} {Q : Nat → Shared → Prop} (hn : n ≠ 0) (h : ∀ i d, i < n → Q i { s with drawn := d }) : wpAny M A (choose src n) Q E s := fun Γ p hΓ => by
  unfold choose
  rw [Sem.wp_choose]
  refine ⟨hn, ?_⟩
  rw [Sem.wp_pure]
  exact h _ _ (Nat.mod_lt _ (Nat.pos_of_ne_zero hn))
theorem drawOrder_ok {α : Type} : ∀ (n : Nat) (xs : List α) (s : Shared) {Q : List α → Shared → Prop}, xs.length = n → (∀ ys d, ys.Perm xs → Q ys { s with drawn := d }) → wpAny M A (drawOrder n xs) Q E s
  | 0, xs, s, Q, hn, h => by
    cases xs with
    | nil => exact wpAny_pure (h [] s.drawn (.refl _))
    | cons => cases hn
  | n + 1, xs, s, Q, hn, h => by
    cases xs with
    | nil => cases hn
    | cons x xs =>
      unfold drawOrder
      refine wpAny_bind (wpAny_choose (by simp) fun i d hi => ?_)
      rw [List.getElem?_eq_getElem hi]
      dsimp only
      refine wpAny_bind (drawOrder_ok n _ _ (by have h1 : i < xs.length + 1 := hi; rw [List.length_eraseIdx, List.length_cons, if_pos h1]; simpa using hn) fun ys d' hp => ?_)
      exact wpAny_pure (h _ d' ((hp.cons _).trans (cons_erase hi)))
end
section
variable {prog : Program} {w : World} {A : Around} {E : Value → Shared → Prop} {s : Shared} {a : Addr} {o : Obj} {es : Array (Int × Value)} {ep : Nat} {t : SetTable}
theorem byText_ok {Q : Bool → Shared → Prop} (h : Q (w.params.followText "set-order") s) : wpAny (model prog w) A setsByText Q E s := by
  unfold setsByText
  exact wpAny_bind (wpAny_askSetting (wpAny_pure h))
theorem setNext_text {sl i : Nat} {Q : Option (Value × Nat) → Shared → Prop} (ho : s.heap.get? a = some o) (hd : o.data = .set es ep t) (hf : t.fits es.size = true) (hT : w.params.followText "set-order" = true)
    (h : Q (((pickOrder (w.params.setOrder a ep) es)[i]?).map fun e => (e.2, sl)) s) : wpAny (model prog w) A (setNext a sl i ep) Q E s := by
  unfold setNext
  refine wpAny_bind (wpAny_setState_of ho hd hf ?_)
  refine wpAny_bind (byText_ok ?_)
  rw [hT]
  simp only [if_true, bne_self_eq_false, Bool.false_eq_true, if_false]
  unfold setWalk
  refine wpAny_bind (wpAny_bind (wpAny_setState_of ho hd hf ?_))
  refine wpAny_bind (byText_ok ?_)
  rw [hT]
  simp only [if_true]
  exact wpAny_bind (wpAny_askSetting (wpAny_pure (wpAny_pure h)))
theorem setNext_plain {sl i : Nat} {Q : Option (Value × Nat) → Shared → Prop} (ho : s.heap.get? a = some o) (hd : o.data = .set es ep t) (hf : t.fits es.size = true) (hT : w.params.followText "set-order" = false) (hp : (!t.plain && decide (es.size > 1)) = false) (hl : t.led = true)
    (h : Q (match es[SetTable.below t.place sl]?, t.place[SetTable.below t.place sl]? with | some (_, x), some j => some (x, j + 1) | _, _ => none) s) : wpAny (model prog w) A (setNext a sl i ep) Q E s := by
  unfold setNext
  refine wpAny_bind (wpAny_setState_of ho hd hf ?_)
  refine wpAny_bind (byText_ok ?_)
  rw [hT]
  show wpAny _ _ (if (!t.plain && decide (es.size > 1)) = true then _ else _) _ _ _
  rw [hp]
  simp only [Bool.false_eq_true, if_false]
  refine wpAny_bind ?_
  show wpAny _ _ (if (!t.led && !es.isEmpty) = true then _ else _) _ _ _
  rw [hl]
  simp only [Bool.not_true, Bool.false_and, Bool.false_eq_true, if_false]
  exact wpAny_pure (wpAny_pure h)
theorem setNext_drawn {pl : Nat} {x : Int × Value} {Q : Value → Shared → Prop} (ho : s.heap.get? a = some o) (hd : o.data = .set es ep t) (hf : t.fits es.size = true) (hx : es[pl]? = some x) (h : Q x.2 s) : wpAny (model prog w) A (setNextDrawn a pl ep) Q E s := by
  unfold setNextDrawn
  refine wpAny_bind (wpAny_setState_of ho hd hf ?_)
  dsimp only
  rw [if_neg (by simp), hx]
  exact wpAny_pure h
end
end L2
/-! ### the iterator of a set -/
namespace L2
open PySem PySem.Spec PyProof.Rows
section
variable {prog : Program} {w : World} {A : Around} {E : Value → Shared → Prop} {s : Shared} {a I tp : Addr} {o : Obj} {es : Array (Int × Value)} {ep : Nat} {t : SetTable} {L : List (Int × Value)}
/-- how a walk goes on: the entries in the order L -/
inductive SMode (w : World) (a : Addr) (es : Array (Int × Value)) (ep : Nat) (t : SetTable) (tp : Addr) (L : List (Int × Value)) (h : Heap) (i : Nat) : Value → Prop
  | text (sl : Nat) (hT : w.params.followText "set-order" = true) (hL : L = (pickOrder (w.params.setOrder a ep) es).toList) : SMode w a es ep t tp L h i (.int sl 0)
  | plain (sl : Nat) (hT : w.params.followText "set-order" = false) (hp : (!t.plain && decide (es.size > 1)) = false) (hL : L = es.toList) (hb : SetTable.below t.place sl = i) : SMode w a es ep t tp L h i (.int sl 0)
  | drawn (ps : List Nat) (hg : h.get? tp = some { cls := .type "tuple", data := .seq (ps.map fun i => Value.int (i : Nat) 0).toArray }) (hn : ps.length = L.length) (hL : ∀ (i : Nat) pl, ps[i]? = some pl → L[i]? = es[pl]?) : SMode w a es ep t tp L h i (.ref tp)
structure SIt (w : World) (I a : Addr) (es : Array (Int × Value)) (ep : Nat) (t : SetTable) (tp : Addr) (L : List (Int × Value)) (o : Obj) (i : Nat) (h : Heap) : Prop where
  it : ∃ ob first, h.get? I = some ob ∧ ob.cls = .type "set_iterator" ∧ ob.data = .fields #[first, .int i 0, .ref a, .int es.size 0, .int ep 0] ∧ SMode w a es ep t tp L h i first
  st : h.get? a = some o
theorem SMode.at {h h' : Heap} {i : Nat} {v : Value} (m : SMode w a es ep t tp L h i v) (k : ∀ o, h.get? tp = some o → h'.get? tp = some o) : SMode w a es ep t tp L h' i v := by
  cases m with
  | text sl hT hL => exact .text sl hT hL
  | plain sl hT hp hL hb => exact .plain sl hT hp hL hb
  | drawn ps hg hn hL => exact .drawn ps (k _ hg) hn hL
theorem fields5 {h : Heap} {ob : Obj} {v0 v1 v2 v3 v4 x : Value} (j : Nat) (hI : h.get? I = some ob) (hc : ob.cls = .type "set_iterator") (hd : ob.data = .fields #[v0, v1, v2, v3, v4]) :
    ∃ ob', (h.update I (Obj.mapFields (·.setIfInBounds j x))).get? I = some ob' ∧ ob'.cls = .type "set_iterator" ∧ ob'.data = .fields (#[v0, v1, v2, v3, v4].setIfInBounds j x) :=
  ⟨_, Heap.get?_update_self _ hI (Obj.isFreed_of_fields (Obj.data_mapFields hd _)), (Obj.cls_mapFields ..).trans hc, by rw [Obj.data_mapFields hd]⟩
theorem setIt_item (hd : o.data = .set es ep t) (hf : t.fits es.size = true) (hk : TOk t (!w.params.followText "set-order")) (hn : L.length = es.size) (hIa : a ≠ I) (hIt : tp ≠ I) {i : Nat} {e : Int × Value} {Q : Option Value → Shared → Prop}
    (st : SIt w I a es ep t tp L o i s.heap) (he : L[i]? = some e) (hQ : ∀ h', SIt w I a es ep t tp L o (i + 1) h' → Heap.SameBut I s.heap h' → Q (some e.2) { s with heap := h' }) : wpAny (model prog w) A (pyNext (.ref I)) Q E s := by
  obtain ⟨⟨ob, first, hI, hc, hdI, hm⟩, ha⟩ := st
  unfold pyNext
  refine wpAny_bind (wpAny_attempt (wpAny_callSpecial?_slot (name := Str.ofString "__next__") ⟨_, hI, hc⟩ slot_setiter_next
    (wpAny_call_entry slot_setiter_next ⟨_, hI, hc⟩ entry_setiter_next ?_ (args_setiter_next _))))
  unfold Builtin.«set_iterator.__next__»
  refine wpAny_bind (wpAny_pure ?_)
  refine wpAny_bind (wpAny_fieldsOf hI hdI ?_)
  dsimp only
  refine wpAny_bind (wpAny_setEntries_of ha hd hf ?_)
  rw [if_neg (by simp)]
  have stp : ∀ {v h'} , SMode w a es ep t tp L s.heap (i + 1) v → Heap.SameBut I s.heap h' → (∃ ob', h'.get? I = some ob' ∧ ob'.cls = .type "set_iterator" ∧ ob'.data = .fields #[v, .int ((i + 1 : Nat) : Int) 0, .ref a, .int es.size 0, .int ep 0]) → SIt w I a es ep t tp L o (i + 1) h' := fun m sb ⟨ob', g1, g2, g3⟩ =>
    ⟨⟨ob', _, g1, g2, g3, m.at fun o' e => (sb.2 tp hIt).trans e⟩, (sb.2 a hIa).trans ha⟩
  cases hm with
  | text sl hT hL =>
    dsimp only
    refine wpAny_bind (setNext_text ha hd hf hT ?_)
    have e1 : (pickOrder (w.params.setOrder a ep) es)[i]? = some e := by rw [← Array.getElem?_toList, ← hL]; exact he
    simp only [Int.toNat_natCast, e1, Option.map_some]
    obtain ⟨ob1, g1, g2, g3⟩ := fields5 (x := rawInt (sl : Nat)) 0 hI hc hdI
    obtain ⟨ob2, k1, k2, k3⟩ := fields5 (x := rawInt ((i : Int) + 1)) 1 g1 g2 g3
    refine wpAny_bind (wpAny_setField hI hdI (by simp) (wpAny_bind (wpAny_setField g1 g3 (by simp) (wpAny_pure ⟨_, rfl, wpAny_pure (hQ _ (stp (.text sl hT hL) ?_ ⟨ob2, k1, k2, k3⟩) ?_)⟩))))
    all_goals exact (Heap.SameBut.update ..).trans (Heap.SameBut.update ..)
  | plain sl hT hp hL hb =>
    dsimp only
    have hlt : i < es.size := by rw [← hn]; exact (List.getElem?_eq_some_iff.mp he).1
    have hps : t.place.size = es.size := by simp only [SetTable.fits, Bool.and_eq_true, beq_iff_eq] at hf; exact hf.1
    have e1 : es[i]? = some e := by rw [← Array.getElem?_toList, ← hL]; exact he
    have e2 : t.place[i]? = some (t.place[i]'(by omega)) := Array.getElem?_eq_getElem _
    refine wpAny_bind (setNext_plain ha hd hf hT hp (by rw [hk.led, hT]; rfl) ?_)
    simp only [Int.toNat_natCast, hb, e1, e2]
    obtain ⟨ob1, g1, g2, g3⟩ := fields5 (x := rawInt ((t.place[i]'(by omega) + 1 : Nat) : Nat)) 0 hI hc hdI
    obtain ⟨ob2, k1, k2, k3⟩ := fields5 (x := rawInt ((i : Int) + 1)) 1 g1 g2 g3
    refine wpAny_bind (wpAny_setField hI hdI (by simp) (wpAny_bind (wpAny_setField g1 g3 (by simp) (wpAny_pure ⟨_, rfl, wpAny_pure (hQ _ (stp (.plain _ hT hp hL (below_next hk.inc e2)) ?_ ⟨ob2, k1, k2, k3⟩) ?_)⟩))))
    all_goals exact (Heap.SameBut.update ..).trans (Heap.SameBut.update ..)
  | drawn ps hg hl hL =>
    dsimp only
    have hi : i < ps.length := by rw [hl]; exact (List.getElem?_eq_some_iff.mp he).1
    refine wpAny_bind (wpAny_seqItems hg rfl ?_)
    simp only [Int.toNat_natCast, List.getElem?_toArray, List.getElem?_map, List.getElem?_eq_getElem hi, Option.map_some]
    refine wpAny_bind (setNext_drawn ha hd hf (x := e) (by rw [← hL i _ (List.getElem?_eq_getElem hi)]; exact he) ?_)
    obtain ⟨ob2, k1, k2, k3⟩ := fields5 (x := rawInt ((i : Int) + 1)) 1 hI hc hdI
    exact wpAny_bind (wpAny_setField hI hdI (by simp) (wpAny_pure ⟨_, rfl, wpAny_pure (hQ _ (stp (.drawn ps hg hl hL) (Heap.SameBut.update ..) ⟨ob2, k1, k2, k3⟩) (Heap.SameBut.update ..))⟩))
theorem setIt_done (hh : A.handled = none) (hd : o.data = .set es ep t) (hf : t.fits es.size = true) (hk : TOk t (!w.params.followText "set-order")) (hn : L.length = es.size) {Q : Option Value → Shared → Prop}
    (st : SIt w I a es ep t tp L o L.length s.heap) (hQ : ∀ h', Heap.ExtBut I s.heap h' → Q none { s with heap := h' }) : wpAny (model prog w) A (pyNext (.ref I)) Q E s := by
  obtain ⟨⟨ob, first, hI, hc, hdI, hm⟩, ha⟩ := st
  unfold pyNext
  refine wpAny_bind (wpAny_attempt (wpAny_callSpecial?_slot (name := Str.ofString "__next__") ⟨_, hI, hc⟩ slot_setiter_next
    (wpAny_call_entry slot_setiter_next ⟨_, hI, hc⟩ entry_setiter_next ?_ (args_setiter_next _))))
  unfold Builtin.«set_iterator.__next__»
  refine wpAny_bind (wpAny_pure ?_)
  refine wpAny_bind (wpAny_fieldsOf hI hdI ?_)
  dsimp only
  refine wpAny_bind (wpAny_setEntries_of ha hd hf ?_)
  rw [if_neg (by simp)]
  cases hm with
  | text sl hT hL =>
    dsimp only
    refine wpAny_bind (setNext_text ha hd hf hT ?_)
    have e1 : (pickOrder (w.params.setOrder a ep) es)[L.length]? = none := by rw [← Array.getElem?_toList, ← hL]; exact List.getElem?_eq_none (Nat.le_refl _)
    simp only [Int.toNat_natCast, e1, Option.map_none]
    refine wpAny_bind (wpAny_setField hI hdI (by simp) ?_)
    refine wpAny_bind ?_
    simp only [newExc, newTuple]
    refine wpAny_bind (wpAny_newObj_type ?_ (by size_fits))
    refine wpAny_bind (m := firstArgMember _ _) (wpAny_of_eq (a := Value.none) (by first | rfl | (simp only [firstArgMember]; rfl)) ?_)
    refine wpAny_newObj_type ?_ (by size_fits)
    simp only [raiseNew]
    refine wpAny_bind (wpAny_handled ?_)
    rw [show A.in1.handled = none from hh]
    refine wpAny_bind (wpAny_pure (wpAny_throw ?_))
    refine wpAny_bind (wpAny_isInstance (T := "StopIteration") (b := true) ⟨_, Heap.get?_push_size _ rfl, rfl⟩ isSubtype_stop ?_)
    exact wpAny_pure (hQ _ (((Heap.SameBut.update ..).extBut.push _).push _))
  | plain sl hT hp hL hb =>
    dsimp only
    have e1 : es[L.length]? = none := Array.getElem?_eq_none (by omega)
    refine wpAny_bind (setNext_plain ha hd hf hT hp (by rw [hk.led, hT]; rfl) ?_)
    simp only [Int.toNat_natCast, hb, e1]
    refine wpAny_bind (wpAny_setField hI hdI (by simp) ?_)
    refine wpAny_bind ?_
    simp only [newExc, newTuple]
    refine wpAny_bind (wpAny_newObj_type ?_ (by size_fits))
    refine wpAny_bind (m := firstArgMember _ _) (wpAny_of_eq (a := Value.none) (by first | rfl | (simp only [firstArgMember]; rfl)) ?_)
    refine wpAny_newObj_type ?_ (by size_fits)
    simp only [raiseNew]
    refine wpAny_bind (wpAny_handled ?_)
    rw [show A.in1.handled = none from hh]
    refine wpAny_bind (wpAny_pure (wpAny_throw ?_))
    refine wpAny_bind (wpAny_isInstance (T := "StopIteration") (b := true) ⟨_, Heap.get?_push_size _ rfl, rfl⟩ isSubtype_stop ?_)
    exact wpAny_pure (hQ _ (((Heap.SameBut.update ..).extBut.push _).push _))
  | drawn ps hg hl hL =>
    dsimp only
    refine wpAny_bind (wpAny_seqItems hg rfl ?_)
    simp only [Int.toNat_natCast, List.getElem?_toArray, List.getElem?_map, List.getElem?_eq_none (show ps.length ≤ L.length by omega), Option.map_none]
    obtain ⟨ob1, g1, g2, g3⟩ := fields5 (x := rawInt 0) 0 hI hc hdI
    refine wpAny_bind (wpAny_setField hI hdI (by simp) (wpAny_bind (wpAny_setField g1 g3 (by simp) ?_)))
    refine wpAny_bind ?_
    simp only [newExc, newTuple]
    refine wpAny_bind (wpAny_newObj_type ?_ (by size_fits))
    refine wpAny_bind (m := firstArgMember _ _) (wpAny_of_eq (a := Value.none) (by first | rfl | (simp only [firstArgMember]; rfl)) ?_)
    refine wpAny_newObj_type ?_ (by size_fits)
    simp only [raiseNew]
    refine wpAny_bind (wpAny_handled ?_)
    rw [show A.in1.handled = none from hh]
    refine wpAny_bind (wpAny_pure (wpAny_throw ?_))
    refine wpAny_bind (wpAny_isInstance (T := "StopIteration") (b := true) ⟨_, Heap.get?_push_size _ rfl, rfl⟩ isSubtype_stop ?_)
    exact wpAny_pure (hQ _ ((((Heap.SameBut.update ..).trans (Heap.SameBut.update ..)).extBut.push _).push _))
end
end L2
/-! ### sorted(set(xs)) -/
namespace L2
open PySem PySem.Spec PyProof.Rows
section
variable {prog : Program} {w : World} {A : Around} {E : Value → Shared → Prop} {s : Shared} {a I tp : Addr} {o : Obj} {es : Array (Int × Value)} {ep : Nat} {t : SetTable} {L : List (Int × Value)} {ns : List Int}
theorem SIt.frame {i : Nat} {h h' : Heap} (x : SIt w I a es ep t tp L o i h) (k : ∀ b ∈ [I, a, tp], ∀ o, h.get? b = some o → h'.get? b = some o) : SIt w I a es ep t tp L o i h' := by
  obtain ⟨⟨ob, f, h1, h2, h3, m⟩, h4⟩ := x
  exact ⟨⟨ob, f, k I (by simp) _ h1, h2, h3, m.at fun o e => k tp (by simp) o e⟩, k a (by simp) _ h4⟩
theorem setWalks (hh : A.handled = none) (hd : o.data = .set es ep t) (hf : t.fits es.size = true) (hk : TOk t (!w.params.followText "set-order")) (hn : L.length = es.size) (hIa : a ≠ I) (hIt : tp ≠ I) :
    WalksS prog w A I [I, a, tp] [I] (fun a b => a = b) L.length (fun i v => ∃ e, L[i]? = some e ∧ v = e.2) (fun i s => SIt w I a es ep t tp L o i s.heap) where
  sub := by simp
  grefl := fun _ => rfl
  gtrans := fun _ _ _ => Eq.trans
  frame := fun i s h' tk st _ k => st.frame k
  item := fun i s Q E hi st q => setIt_item hd hf hk hn hIa hIt st (List.getElem?_eq_getElem hi) fun h' st' sb => q _ _ ⟨_, List.getElem?_eq_getElem hi, rfl⟩ st' ⟨fun b o hb e => (sb.2 b (by simpa using hb)).trans e, rfl, rfl, rfl, Nat.le_refl _⟩
  done := fun s Q E st q => setIt_done hh hd hf hk hn st fun h' eb => q _ ⟨fun b o hb e => eb b o (by simpa using hb) e, rfl, rfl, rfl, Nat.le_refl _⟩
  self := fun i s Q E st h => by
    obtain ⟨⟨ob, f, h1, h2, h3, m⟩, h4⟩ := st
    refine wpAny_pyIter_slot ⟨_, h1, h2⟩ slot_setiter_iter (wpAny_call_entry slot_setiter_iter ⟨_, h1, h2⟩ entry_setiter_iter ?_ (args_setiter_iter _))
    show wpAny _ _ (ret (.ref I)) _ _ s
    exact wpAny_pure ⟨_, rfl, "set_iterator", _, ⟨_, h1, h2⟩, slot_setiter_next.lookup, h⟩
theorem range_map {α : Type} (xs : Array α) (d : α) : (List.range xs.size).map (fun p => xs.getD p d) = xs.toList := by
  apply List.ext_getElem
  · simp
  · intro i h1 h2
    simp at h2 ⊢
    simp [h2]
/-- a set's iterator -/
theorem pyIter_set {Q : Value → Shared → Prop} (ho : s.heap.get? a = some o) (hx : o.ExactSet) (hd : o.data = .set es ep t) (c : SCore prog w es t ns)
    (h : ∀ h' d L tp I, L.Perm es.toList → SIt w I a es ep t tp L o 0 h' → (∀ b u, s.heap.get? b = some u → h'.get? b = some u) → s.heap.objs.size ≤ I → tp ≠ I → (tp = a ∨ s.heap.objs.size ≤ tp) → Q (.ref I) { s with heap := h', drawn := d }) :
    wpAny (model prog w) A (pyIter (.ref a)) Q E s := by
  have hT : s.TypeIs (.ref a) "set" := ⟨o, ho, hx.1⟩
  refine wpAny_pyIter_slot hT slot_set_iter' (wpAny_call_entry slot_set_iter' hT entry_set_iter' ?_ (args_set_iter' _))
  unfold Builtin.«frozenset.__iter__»
  have hlt : a < s.heap.objs.size := Heap.lt_size ho
  show wpAny _ _ (pure a >>= _) _ _ s
  refine wpAny_bind (wpAny_pure ?_)
  unfold Builtin.Frozenset.sizeOf
  refine wpAny_bind (wpAny_bind (wpAny_setEntries_of ho hd c.fit (wpAny_pure ?_)))
  unfold setDrawn
  refine wpAny_bind (wpAny_bind (wpAny_setState_of ho hd c.fit ?_))
  refine wpAny_bind (byText_ok ?_)
  show wpAny _ _ (pure (!w.params.followText "set-order" && (!t.plain && decide (es.size > 1)))) _ _ s
  refine wpAny_pure ?_
  cases hT2 : w.params.followText "set-order" with
  | true =>
    simp only [Bool.not_true, Bool.false_and, Bool.false_eq_true, if_false]
    refine wpAny_bind (wpAny_pure ?_)
    refine wpAny_bind (wpAny_setEpoch_of ho hd c.fit ?_)
    refine wpAny_bind (wpAny_newObj_type (wpAny_pure ⟨_, rfl, "set_iterator", _, ⟨_, Heap.get?_push_size _ rfl, rfl⟩, slot_setiter_next.lookup, ?_⟩))
    exact h _ s.drawn _ a s.heap.objs.size (pick_perm ..) ⟨⟨_, _, Heap.get?_push_size _ rfl, rfl, rfl, .text 0 hT2 rfl⟩, Heap.get?_push_of_some _ ho⟩ (fun b u e => Heap.get?_push_of_some _ e) (Nat.le_refl _) (Nat.ne_of_lt hlt) (.inl rfl)
  | false =>
    cases hp : (!t.plain && decide (es.size > 1)) with
    | false =>
      simp only [Bool.not_false, Bool.true_and, Bool.false_eq_true, if_false]
      refine wpAny_bind (wpAny_pure ?_)
      refine wpAny_bind (wpAny_setEpoch_of ho hd c.fit ?_)
      refine wpAny_bind (wpAny_newObj_type (wpAny_pure ⟨_, rfl, "set_iterator", _, ⟨_, Heap.get?_push_size _ rfl, rfl⟩, slot_setiter_next.lookup, ?_⟩))
      exact h _ s.drawn _ a s.heap.objs.size (.refl _) ⟨⟨_, _, Heap.get?_push_size _ rfl, rfl, rfl, .plain 0 hT2 hp rfl (below_zero c.tok.inc)⟩, Heap.get?_push_of_some _ ho⟩ (fun b u e => Heap.get?_push_of_some _ e) (Nat.le_refl _) (Nat.ne_of_lt hlt) (.inl rfl)
    | true =>
      simp only [Bool.not_false, Bool.true_and, if_true]
      refine wpAny_bind (drawOrder_ok _ _ _ List.length_range fun ps d hps => ?_)
      simp only [newTuple]
      have hsz : ps.length = es.size := by rw [hps.length_eq, List.length_range]
      refine wpAny_bind (wpAny_newObj_type ?_ (by
        have := fits_of_scanBound c.sz
        show (List.map (fun i => rawInt (i : Nat)) ps).toArray.size ≤ sizeLine
        simpa [hsz] using this))
      have ho1 := Heap.get?_push_of_some ({ cls := .type "tuple", data := .seq (ps.map fun i => rawInt (i : Nat)).toArray } : Obj) ho
      have hpl : ∀ pl ∈ ps, pl < es.size := fun pl hm => List.mem_range.mp (hps.mem_iff.mp hm)
      refine wpAny_bind (wpAny_setEpoch_of ho1 hd c.fit ?_)
      refine wpAny_bind (wpAny_newObj_type (wpAny_pure ⟨_, rfl, "set_iterator", _, ⟨_, Heap.get?_push_size _ rfl, rfl⟩, slot_setiter_next.lookup, ?_⟩))
      refine h _ d (ps.map fun p => es.getD p (0, .none)) s.heap.objs.size _ ?_ ⟨⟨_, _, Heap.get?_push_size _ rfl, rfl, rfl, .drawn ps (Heap.get?_push_of_some _ (Heap.get?_push_size _ rfl)) (by simp) fun i pl e => ?_⟩, Heap.get?_push_of_some _ ho1⟩ (fun b u e => Heap.get?_push_of_some _ (Heap.get?_push_of_some _ e)) ?_ ?_ (.inr (Nat.le_refl _))
      · rw [← range_map es (0, .none)]
        exact hps.map _
      · rw [List.getElem?_map, e]
        have := hpl pl (List.mem_of_getElem? e)
        simp [this]
      · rw [Heap.size_push]; exact Nat.le_succ _
      · rw [Heap.size_push]; exact Nat.ne_of_lt (Nat.lt_succ_self _)
theorem collect_setI {Q : List Value → Shared → Prop} (hh : A.in1.in1.handled = none) (hS : SetI prog w s.heap a ns)
    (r : ∀ g tk d vs ms, IntsAre vs ms → ms.Perm ns → (∀ b u, s.heap.get? b = some u → g.get? b = some u) → Q vs { s with heap := g, toks := tk, drawn := d }) : wpAny (model prog w) A (collect (.ref a)) Q E s := by
  obtain ⟨o, es, ep, t, ho, hx, hd, c⟩ := hS
  unfold collect
  refine wpAny_bind (wpAny_runValue (codeAny_builtin F.entry_proto_collect ?_))
  rw [Around.under_plainId F.plain_proto_collect]
  show wpAny _ A.in1 (newList [] >>= fun l => again (Code.builtin "list.__iadd__" { pos := [l, .ref a] })) _ _ _
  refine wpAny_bind (wpAny_newList ?_)
  refine wpAny_pure ⟨by first | rfl | exact plainId_quiet (by decide +kernel) _, ?_⟩
  refine codeAny_builtin F.entry_list_iadd ?_
  rw [Around.under_plainId (show plainId "list.__iadd__" = true by decide +kernel)]
  generalize hS : s.heap.objs.size = S
  have hdl : a < S := by rw [← hS]; exact Heap.lt_size ho
  show wpAny _ A.in1 (slotArgs "__iadd__" 1 { pos := [.ref S, .ref a] } >>= _) _ _ _
  refine wpAny_bind (wpAny_pure ?_)
  show wpAny _ A.in1 (Builtin.List.listExtendWith (.ref S) (.ref a) (.ref S)) _ _ _
  unfold Builtin.List.listExtendWith
  generalize hs1 : s.heap.push { cls := Value.type "list", data := Data.seq [].toArray } = h1
  have ho1 : h1.get? a = some o := by rw [← hs1]; exact Heap.get?_push_of_some _ ho
  have h1s : h1.objs.size = S + 1 := by rw [← hs1, ← hS, Heap.size_push]
  refine wpAny_bind (wpAny_typeOf (T := "set") ⟨o, ho1, hx.1⟩ ?_)
  rw [if_neg (by
    have : (S == a) = false := by rw [beq_eq_false_iff_ne]; exact (Nat.ne_of_lt hdl).symm
    simp [Builtin.List.listSameRef, this])]
  refine wpAny_bind (pyIter_set (ns := ns) (s := ⟨h1, s.gens, s.drawn, s.toks, s.os⟩) ho1 hx hd c fun h2 d L tp I hp st old hI hti htp => ?_)
  have hI : S + 1 ≤ I := by rw [← h1s]; exact hI
  have ho2 := old a o ho1
  have hty : (⟨h2, s.gens, d, s.toks, s.os⟩ : Shared).TypeIs (.ref a) "set" := ⟨o, ho2, hx.1⟩
  refine wpAny_bind (wpAny_holding ?_)
  unfold Builtin.List.listLengthHint
  refine wpAny_bind (wpAny_specialOf hty slot_set_len'.lookup ?_)
  have hsp : splitId "set.__len__" = some ("set", "__len__") := by decide +kernel
  dsimp only
  rw [hsp]
  dsimp only
  refine wpAny_bind (wpAny_isInstance hty (by first | rfl | kernel_rfl) ?_)
  rw [if_neg (by decide)]
  show wpAny _ _ (if _ then _ else _) _ _ _
  rw [if_pos (by first | rfl | decide +kernel)]
  refine wpAny_bind (wpAny_typeOf hty ?_)
  refine wpAny_pure ?_
  rw [if_pos (by decide +kernel)]
  have hSs : h1.get? S = some { cls := Value.type "list", data := Data.seq #[] 0 } := by rw [← hs1, ← hS]; exact Heap.get?_push_size _ rfl
  have hSs2 := old S _ hSs
  refine wpAny_bind (wpAny_rule ?_)
  refine wpAny_bind ?_
  unfold Builtin.List.listTouch
  refine wpAny_bind ?_
  refine wpAny_updateSeq (o := { cls := Value.type "list", data := Data.seq #[] 0 }) hSs2 rfl ?_ (by decide) (by decide)
  have g1 := Heap.get?_update_self (h := h2) (Obj.mapSeq fun x => x.push Value.none) hSs2 rfl
  refine wpAny_updateSeq (o := (Obj.mapSeq (fun x => x.push Value.none) { cls := Value.type "list", data := Data.seq #[] 0 })) g1 rfl ?_ (by decide) (by decide)
  have g2 := Heap.get?_update_self (h := h2.update S (Obj.mapSeq fun x => x.push Value.none)) (Obj.mapSeq fun x => x.pop) g1 rfl
  have g3 : ∀ b, b ≠ S → ((h2.update S (Obj.mapSeq fun x => x.push Value.none)).update S (Obj.mapSeq fun x => x.pop)).get? b = h2.get? b := fun b hb => by
    rw [Heap.get?_update_ne _ _ _ _ hb, Heap.get?_update_ne _ _ _ _ hb]
  refine wpAny_pure ⟨by first | rfl | exact plainId_quiet (by decide +kernel) _, ?_⟩
  have hSI : S < I := hI
  have hdS : a ≠ S := Nat.ne_of_lt hdl
  have htS : tp ≠ S := by
    rcases htp with z | z
    · rw [z]; exact hdS
    · have z2 : S + 1 ≤ tp := by rw [← h1s]; exact z
      exact Nat.ne_of_gt z2
  have hLn : L.length = es.size := by rw [hp.length_eq, Array.length_toList]
  refine codeAny_extend_loopS (setWalks (A := A.in1) (L := L) (tp := tp) (I := I) hh hd c.fit c.tok hLn (Nat.ne_of_lt (Nat.lt_trans hdl hSI)) hti) (by rw [hLn]; exact fits_of_scanBound c.sz) S (by simp; exact ⟨Nat.ne_of_lt hSI, hdS.symm, htS.symm⟩) (.ref S) L.length 0 _ #[] _ rfl (Nat.zero_le _) ?_ g2 ⟨rfl, fun j v h => by simp at h⟩ fun s' acc cc m hS' hit => ?_
  · exact st.frame fun b hb o e => (g3 b (by
      rcases List.mem_cons.mp hb with z | z
      · rw [z]; exact Nat.ne_of_gt hSI
      · rcases List.mem_cons.mp z with z | z
        · rw [z]; exact hdS
        · rw [List.mem_singleton.mp z]; exact htS)).trans e
  · refine wpAny_bind (wpAny_load hS' ?_)
    refine wpAny_pure ?_
    obtain ⟨hpp, g, dr, tk, os⟩ := s'
    have m1 := m.heap
    obtain rfl : s.gens = g := m.gens
    obtain rfl : dr = d := m.drawn
    obtain rfl : os = s.os := m.os
    have ea : acc.toList = L.map (·.2) := by
      apply List.ext_getElem?
      intro j
      rw [List.getElem?_map]
      cases hj : acc.toList[j]? with
      | none =>
        have h1 := List.getElem?_eq_none_iff.mp hj
        have h2 : acc.size = L.length := hit.1
        rw [List.getElem?_eq_none (by rw [Array.length_toList] at h1; omega)]; rfl
      | some v =>
        obtain ⟨e, h1, h2⟩ := hit.2 j v (by rw [← Array.getElem?_toList]; exact hj)
        rw [h1, h2]; rfl
    obtain ⟨ms, i1, i2⟩ := c.pm
    obtain ⟨ms', j1, j2⟩ := ints_perm (hp.map (·.2)) i1
    refine r hpp tk dr acc.toList ms' (by rw [ea]; exact j1) (j2.trans i2) fun b u hb => ?_
    have lb : b < S := by rw [← hS]; exact Heap.lt_size hb
    refine m1 b u (by simp; exact ⟨Nat.ne_of_lt lb, Nat.ne_of_lt (Nat.lt_trans lb hSI)⟩) ?_
    exact (g3 b (Nat.ne_of_lt lb)).trans (old b u (by rw [← hs1]; exact Heap.get?_push_of_some _ hb))
end
section
variable {X : Cx}
/-- the set is there -/
def oSet (P : Program) (w : World) (p : Addr) (ns : List Int) : HO := .ext fun h => SetI P w h p ns
def rSetOf (K : PySem.W.Frag) (P : Program) (w : World) : List V → Hp → VK → Prop := fun xs H Q => ∃ l ns, xs = [.ref l] ∧ SqL K H l (ns.map V.int) ∧ ns.length < 64 ∧ ∀ p, H p = none → Q (.ref p) (upd H p (oSet P w p (dd ns)))
def rSortS (P : Program) (w : World) : List V → Hp → VK → Prop := fun xs H Q => ∃ l ns, xs = [.ref l] ∧ H l = some (oSet P w l ns) ∧ ns.length < 64 ∧ ∀ p, H p = none → Q (.ref p) (upd H p (.lst ((sortI ns).map V.int)))
theorem call_set_of (K : PySem.W.Frag) (hK : X.K = K) (hc : X.calm = true) : CallR X (.type "set") (rSetOf K X.prog X.w) := by
  subst hK
  intro pins s σ H xs us Q I r h
  obtain ⟨l, ns, rfl, hq, h64, q⟩ := h
  obtain ⟨u, rfl, ru⟩ := vals1 r
  cases ru
  obtain ⟨its, rv, pl, hz⟩ := I.list hq
  refine call_setI (I.ok.hd hc) pl.isList (ints_are rv) (by have : scanBound = 4096 := rfl; omega) fun h' tk hS old => ?_
  have hfr : H s.heap.objs.size = none := I.hok.fresh (Nat.le_refl _)
  refine ⟨.ref s.heap.objs.size, _, I.laid (t' := tk) old (Nat.le_refl _) (show ObjOk X.prog X.w _ _ _ (oSet X.prog X.w s.heap.objs.size (dd ns)) from ⟨hS, ?_, fun h1 h2 x k => x.at k⟩), rfl, q _ hfr⟩
  obtain ⟨o, _, _, _, ho, _⟩ := hS
  exact ⟨o, ho⟩
theorem call_sortedS_of (hc : X.calm = true) : CallR X (.builtin "sorted") (rSortS X.prog X.w) := by
  intro pins s σ H xs us Q I r h
  obtain ⟨l, ns, rfl, he, h64, q⟩ := h
  obtain ⟨u, rfl, ru⟩ := vals1 r
  cases ru
  have hS : SetI X.prog X.w s.heap l ns := (show ObjOk X.prog X.w H s.heap l (oSet X.prog X.w l ns) from I.hok l _ he).1
  refine Calls.call_function_entry kind_sorted plain_sorted entry_sorted (args_sorted1 _) ?_
  show wpAny _ _ (checkCount "sorted" 1 1 1 >>= fun _ => collect (.ref l) >>= fun xs => newList xs >>= fun l => holding [l] (call (.builtin "list.sort") [l] []) >>= fun _ => ret l) _ _ _
  refine wpAny_bind (wpAny_pure ?_)
  refine wpAny_bind (collect_setI (I.ok.hd hc) hS fun g tk d ws ms iw hpm old => ?_)
  have hml : ws.length < 64 := by rw [IntsAre.length iw, hpm.length_eq]; exact h64
  refine wpAny_bind (wpAny_newList ?_ (by have := sizeLine_eq; omega))
  have gl : (g.push { cls := Value.type "list", data := Data.seq ws.toArray }).get? g.objs.size = some (seqObj "list" ws.toArray 0) := Heap.get?_push_size _ rfl
  refine wpAny_bind (wpAny_holding (wpAny_call_entry slot_list_sort ⟨_, gl, rfl⟩ entry_list_sort (list_sort_tree gl iw (by omega) fun out ns' a1 a2 a3 => ⟨_, rfl, ?_⟩) (args_list_sort _)))
  refine wpAny_pure ⟨_, rfl, ?_⟩
  obtain ⟨e, hat⟩ := sortedHeap_at (out := out) gl
  have en : ns' = sortI ns := sortI_of (a2.trans hpm) a3
  have v := vals_ints a1
  rw [en] at v
  have I0 : Inv X pins σ H { s with drawn := d } := ⟨I.ok, I.os, I.bare, I.base, I.loc, I.cell, I.free, I.freeC, I.pin, I.hok, I.len⟩
  have I1 : Inv X pins σ H { s with heap := g, toks := tk, drawn := d } := I0.kept (t' := tk) old
  have hfr : H g.objs.size = none := I1.hok.fresh (Nat.le_refl _)
  refine ⟨.ref g.objs.size, _, I1.laid (t' := tk) (fun b o e => sortedHeap_old (Nat.ne_of_lt (Heap.lt_size e)) (Heap.get?_push_of_some _ e)) (Nat.le_refl _) (show ObjOk X.prog X.w _ _ _ (.lst ((sortI ns).map V.int)) from ⟨?_, out.toList, e, v, hat⟩), rfl, q _ hfr⟩
  rw [List.length_map, (sortI_perm ns).length_eq]
  have := sizeLine_eq
  omega
end
end L2

/-! ### sorted(set(xs)) -/
namespace L2
open PySem PySem.Spec PyProof.Rows
section
variable {K : PySem.W.Frag} {Er : Exc → Hp → Prop} {S : SC} {OO : List (List Cell)} {σ : St}
theorem ev_sortS {P : Program} {w0 : World} {ta : TE} {ma : Res (List Int)} (ha : EvL K Er S OO σ ta rInt ma) : Ev K Er S OO OO σ (tCB (rSortS P w0) (tCons (tCB (rSetOf K P w0) (tCons ta tNil)) tNil)) (oL (oF rInt)) (ma.bind fun as => chk (as.length < 64) (.ok (sortI (dd as)))) := fun H Q w s Pz =>
  ha.run w s FO.tr Pz fun as x H1 s1 w1 q1 ⟨p, xs, e, q, pr⟩ P1 => by
    obtain ⟨hl, P2⟩ := PZ.chk P1
    have P3 : FO K OO OO (oL (oF rInt)) Q (sortI (dd as)) H1 := P2
    refine ⟨p, as, by rw [e], SqL.of (by rw [← ints_map pr]; exact q), hl, fun S hS => ?_⟩
    exact ⟨S, dd as, rfl, upd_same, Nat.lt_of_le_of_lt (dd_length as) hl, newL (w1.keep (same_new hS _)) (map_ints _) (FO.tr _ _ _ (same_new hS _) P3)⟩
variable {u : TS} {α γ ρ ι : Type}
end
end L2

namespace My
open PySem L2
def m_refuse_above (a_0 : Int) (a_1 : Int) : Res Unit := (Res.bind (Res.bind (Res.ok a_1) fun x5 => (Res.bind (Res.ok a_0) fun x6 => (Res.ok (decide (x6 < x5))))) fun x7 => (if x7 = true then Res.bad else (Res.ok ())))
def m_longer_by_one (a_0 : (List (List Int))) (a_1 : Int) : Res (List (List Int)) := (Res.bind (Res.ok []) fun a1 => (Res.bind (Res.ok a_0) fun x37 => (Res.bind (forN x37 (a1) (fun g6 a8 => (Res.bind (Res.bind (Res.ok a_1) fun x10 => (rngR 0 x10)) fun x34 => (Res.bind (forN x34 (g6) (fun g13 a15 => (Res.bind (Res.bind (Res.bind (Res.ok a15) fun x17 => (Res.bind (Res.ok a8) fun x18 => (Res.ok (!(decide (x17 ∈ x18)))))) fun x19 => (if x19 = true then (Res.bind (Res.bind (Res.ok a8) fun x22 => (Res.bind (Res.bind (Res.bind (Res.ok a15) fun x25 => (Res.bind (Res.ok []) fun x26 => (Res.ok (x25 :: x26)))) fun x24 => (chk (x24.length ≤ sizeLine) (Res.ok x24))) fun x23 => (catR x22 x23))) fun a27 => (chk (g13.length < sizeLine) ((fun a29 => (Res.ok (a29))) (g13 ++ [a27])))) else (Res.ok (g13)))) fun g31 => (Res.ok (g31))))) fun g32 => (Res.ok (g32)))))) fun g35 => (Res.ok g35))))
def m_each_once (a_0 : Int) : Res (List (List Int)) := (Res.bind (Res.bind (Res.bind (Res.ok []) fun x5 => (Res.bind (Res.ok []) fun x6 => (Res.ok (x5 :: x6)))) fun x4 => (chk (x4.length ≤ sizeLine) (Res.ok x4))) fun a1 => (Res.bind (Res.bind (Res.ok a_0) fun x7 => (rngR 0 x7)) fun x22 => (Res.bind (forN x22 (a1) (fun g10 a12 => (Res.bind (Res.bind (Res.ok g10) fun x18 => (Res.bind (Res.ok a_0) fun x19 => (noE (m_longer_by_one x18 x19)))) fun a14 => (Res.ok (a14))))) fun g20 => (Res.ok g20))))
def m_paired_row (a_0 : (List Int)) (a_1 : (List Int)) : Res (List Int) := (Res.bind (Res.ok []) fun a1 => (Res.bind (Res.ok a_0) fun x24 => (Res.bind (forN x24 (a1) (fun g6 a8 => (Res.bind (Res.bind (Res.ok a_1) fun x13 => (mapC x13 (fun a11 => (Res.bind (Res.bind (Res.ok a8) fun x15 => (Res.bind (Res.bind (Res.ok a_1) fun x14 => (Res.ok (x14.length : Int))) fun x16 => (mulR x15 x16))) fun x17 => (Res.bind (Res.ok a11) fun x18 => (Res.ok (x17 + x18))))))) fun a19 => (chk (g6.length + a19.length ≤ sizeLine) ((fun a21 => (Res.ok (a21))) (g6 ++ a19)))))) fun g22 => (Res.ok g22))))
def m_paired (a_0 : (List (List Int))) (a_1 : (List (List Int))) : Res (List (List Int)) := (Res.bind (Res.bind (Res.ok (24 : Int)) fun x6 => (Res.bind (Res.bind (Res.bind (Res.ok a_0) fun x2 => (Res.ok (x2.length : Int))) fun x4 => (Res.bind (Res.bind (Res.ok a_1) fun x3 => (Res.ok (x3.length : Int))) fun x5 => (mulR x4 x5))) fun x7 => (noE (m_refuse_above x6 x7)))) fun x8 => (Res.bind (Res.ok []) fun a9 => (Res.bind (Res.ok a_0) fun x35 => (Res.bind (forN x35 (a9) (fun g14 a16 => (Res.bind (Res.ok a_1) fun x32 => (Res.bind (forN x32 (g14) (fun g20 a22 => (Res.bind (Res.bind (Res.ok a16) fun x25 => (Res.bind (Res.ok a22) fun x26 => (noE (m_paired_row x25 x26)))) fun a27 => (chk (g20.length < sizeLine) ((fun a29 => (Res.ok (a29))) (g20 ++ [a27])))))) fun g30 => (Res.ok (g30)))))) fun g33 => (Res.ok g33)))))
def m_cycle (a_0 : Int) : Res (List (List Int)) := (Res.bind (Res.bind (Res.ok (24 : Int)) fun x2 => (Res.bind (Res.ok a_0) fun x3 => (noE (m_refuse_above x2 x3)))) fun x4 => (Res.bind (Res.bind (Res.ok a_0) fun x5 => (rngR 0 x5)) fun x9 => (mapC x9 (fun a7 => (Res.bind (Res.bind (Res.ok a_0) fun x10 => (rngR 0 x10)) fun x14 => (mapC x14 (fun a12 => (Res.bind (Res.bind (Res.ok a7) fun x15 => (Res.bind (Res.ok a12) fun x16 => (Res.ok (x15 + x16)))) fun x17 => (Res.bind (Res.ok a_0) fun x18 => (modR x17 x18))))))))))
def m_product (a_0 : (List Int)) (a_1 : (List Int)) : Res (List Int) := (Res.bind (Res.ok a_0) fun x4 => (mapC x4 (fun a2 => (Res.bind (Res.ok a_1) fun x5 => (Res.bind (Res.ok a2) fun x6 => (atR x5 x6))))))
def m_orders (a_0 : Int) : Res (List (List Int)) := (Res.bind (Res.bind (Res.ok (4 : Int)) fun x2 => (Res.bind (Res.ok a_0) fun x3 => (noE (m_refuse_above x2 x3)))) fun x4 => (Res.bind (Res.bind (Res.ok a_0) fun x8 => (noE (m_each_once x8))) fun a5 => (Res.bind (Res.ok a5) fun x12 => (mapC x12 (fun a10 => (Res.bind (Res.ok a5) fun x16 => (mapC x16 (fun a14 => (Res.bind (Res.ok a5) fun x20 => (Res.bind (Res.bind (Res.ok a10) fun x18 => (Res.bind (Res.ok a14) fun x19 => (noE (m_product x18 x19)))) fun x21 => (idxR x20 x21)))))))))))
def m_both (a_0 : (List (List Int))) (a_1 : (List (List Int))) : Res (List (List Int)) := (Res.bind (Res.ok a_0) fun x2 => (Res.bind (Res.ok a_1) fun x3 => (noE (m_paired x2 x3))))
def m_inverse (a_0 : (List (List Int))) (a_1 : Int) : Res Int := (Res.bind (Res.bind (Res.ok a_0) fun x1 => (Res.bind (Res.ok a_1) fun x2 => (atR x1 x2))) fun x3 => (Res.bind (Res.ok (0 : Int)) fun x4 => (idxR x3 x4)))
def m_step_beyond (a_0 : (List (List Int))) (a_1 : (List (Int × Int))) : Res (Option (Int × Int × Int)) := (Res.bind (Res.bind (Res.ok a_1) fun x1 => (Res.ok (x1.map fun kx => kx.1))) fun x38 => (Res.bind (forC x38 () (fun g4 a6 => (Res.bind (Res.bind (Res.ok a_1) fun x8 => (Res.ok (x8.map fun kx => kx.1))) fun x35 => (Res.bind (forC x35 () (fun g11 a13 => (Res.bind (Res.bind (Res.bind (Res.bind (Res.ok a_0) fun x15 => (Res.bind (Res.ok a6) fun x16 => (atR x15 x16))) fun x17 => (Res.bind (Res.ok a13) fun x18 => (atR x17 x18))) fun x19 => (Res.bind (Res.ok a_1) fun x20 => (Res.ok (!(dgetL x20 x19).isSome)))) fun x21 => (if x21 = true then (Res.bind (Res.bind (Res.bind (Res.bind (Res.bind (Res.ok a_0) fun x22 => (Res.bind (Res.ok a6) fun x23 => (atR x22 x23))) fun x24 => (Res.bind (Res.ok a13) fun x25 => (atR x24 x25))) fun x26 => (Res.bind (Res.ok a6) fun x27 => (Res.bind (Res.ok a13) fun x28 => (Res.ok (x26, x27, x28))))) fun x29 => (Res.ok (some x29))) fun x31 => (Res.ok (Ctl.ret x31))) else (Res.bind (Res.ok ()) fun x30 => (Res.ok (Ctl.nx x30))))))) (retOrC fun g32 => (Res.bind (Res.ok ()) fun x34 => (Res.ok (Ctl.nx x34)))))))) (retOr fun g36 => (Res.ok none))))
def m_part (a_0 : (List (List Int))) (a_1 : (List Int)) : Res (List (List Int)) := (Res.bind (Res.bind (Res.bind (Res.bind (Res.ok a_1) fun x5 => (Res.ok (enumL x5))) fun x9 => (mapC x9 (fun a7 => (Res.bind (Res.ok a7.2) fun x10 => (Res.bind (Res.ok a7.1) fun x11 => (Res.ok (x10, x11))))))) fun x4 => (Res.ok (dputs [] x4))) fun a1 => (Res.bind (orR (Res.bind (Res.bind (Res.ok a_1) fun x12 => (Res.ok (x12.length : Int))) fun x13 => (Res.bind (Res.ok (0 : Int)) fun x14 => (Res.ok (decide (x13 = x14))))) (Res.bind (Res.bind (Res.ok a_0) fun x17 => (Res.bind (Res.ok a1) fun x18 => (noE (m_step_beyond x17 x18)))) fun x19 => (Res.ok x19.isSome))) fun x20 => (if x20 = true then Res.bad else (Res.bind (Res.ok a_1) fun x24 => (mapC x24 (fun a22 => (Res.bind (Res.ok a_1) fun x28 => (mapC x28 (fun a26 => (Res.bind (Res.ok a1) fun x33 => (Res.bind (Res.bind (Res.bind (Res.ok a_0) fun x29 => (Res.bind (Res.ok a22) fun x30 => (atR x29 x30))) fun x31 => (Res.bind (Res.ok a26) fun x32 => (atR x31 x32))) fun x34 => (dgetR x33 x34))))))))))))
def m_conjugate (a_0 : (List (List Int))) (a_1 : Int) (a_2 : Int) : Res Int := (Res.bind (Res.bind (Res.ok a_0) fun x8 => (Res.bind (Res.bind (Res.bind (Res.ok a_0) fun x4 => (Res.bind (Res.bind (Res.ok a_0) fun x2 => (Res.bind (Res.ok a_2) fun x3 => (noE (m_inverse x2 x3)))) fun x5 => (atR x4 x5))) fun x6 => (Res.bind (Res.ok a_1) fun x7 => (atR x6 x7))) fun x9 => (atR x8 x9))) fun x10 => (Res.bind (Res.ok a_2) fun x11 => (atR x10 x11)))
def m_conjugates (a_0 : (List (List Int))) : Res (List (List Int)) := (Res.bind (Res.bind (Res.ok a_0) fun x3 => (Res.ok (x3.length : Int))) fun a1 => (Res.bind (Res.bind (Res.ok a1) fun x4 => (rngR 0 x4)) fun x8 => (mapC x8 (fun a6 => (Res.bind (Res.bind (Res.ok a1) fun x9 => (rngR 0 x9)) fun x13 => (mapC x13 (fun a11 => (Res.bind (Res.ok a_0) fun x15 => (Res.bind (Res.ok a6) fun x16 => (Res.bind (Res.ok a11) fun x17 => (noE (m_conjugate x15 x16 x17))))))))))))
def m_core (a_0 : (List (List Int))) (a_1 : Int) (a_2 : Int) : Res Int := (Res.bind (Res.bind (Res.ok a_0) fun x8 => (Res.bind (Res.bind (Res.bind (Res.ok a_0) fun x1 => (Res.bind (Res.ok a_2) fun x2 => (atR x1 x2))) fun x6 => (Res.bind (Res.bind (Res.ok a_0) fun x4 => (Res.bind (Res.ok a_1) fun x5 => (noE (m_inverse x4 x5)))) fun x7 => (atR x6 x7))) fun x9 => (atR x8 x9))) fun x10 => (Res.bind (Res.ok a_2) fun x11 => (atR x10 x11)))
def m_cores (a_0 : (List (List Int))) : Res (List (List Int)) := (Res.bind (Res.bind (Res.ok a_0) fun x3 => (Res.ok (x3.length : Int))) fun a1 => (Res.bind (Res.bind (Res.ok a1) fun x4 => (rngR 0 x4)) fun x8 => (mapC x8 (fun a6 => (Res.bind (Res.bind (Res.ok a1) fun x9 => (rngR 0 x9)) fun x13 => (mapC x13 (fun a11 => (Res.bind (Res.ok a_0) fun x15 => (Res.bind (Res.ok a6) fun x16 => (Res.bind (Res.ok a11) fun x17 => (noE (m_core x15 x16 x17))))))))))))
def m_class_of (a_0 : (List (List Int))) (a_1 : Int) : Res (List Int) := (Res.bind (Res.bind (Res.bind (Res.bind (Res.ok a_0) fun x2 => (Res.ok (x2.length : Int))) fun x3 => (rngR 0 x3)) fun x7 => (mapC x7 (fun a5 => (Res.bind (Res.ok a_0) fun x9 => (Res.bind (Res.ok a_1) fun x10 => (Res.bind (Res.ok a5) fun x11 => (noE (m_conjugate x9 x10 x11)))))))) fun x1 => (chk (x1.length < 64) (Res.ok (sortI (dd x1)))))
def m_class_table (a_0 : (List (List Int))) (a_1 : Int) : Res (List (List Int)) := (Res.bind (Res.bind (Res.ok a_0) fun x3 => (noE (m_conjugates x3))) fun x7 => (Res.bind (Res.bind (Res.ok a_0) fun x5 => (Res.bind (Res.ok a_1) fun x6 => (noE (m_class_of x5 x6)))) fun x8 => (noE (m_part x7 x8))))
def m_common_divisor (a_0 : Int) (a_1 : Int) : Res Int := (Res.bind (Res.ok a_1) fun a1 => (Res.bind (Res.bind (Res.ok a_0) fun x5 => (Res.bind (Res.ok a_1) fun x6 => (modR x5 x6))) fun a3 => (Res.bind (whileN (a_1.natAbs + 2) (a1, a3) (fun g9 => (Res.bind (Res.ok g9.2) fun x11 => (Res.bind (Res.ok (0 : Int)) fun x12 => (Res.ok (!(decide (x11 = x12))))))) (fun g9 => (Res.bind (Res.bind (Res.ok g9.1) fun x15 => (Res.bind (Res.ok g9.2) fun x16 => (modR x15 x16))) fun a13 => (Res.bind (Res.ok g9.2) fun a17 => (Res.bind (Res.ok a13) fun a19 => (Res.ok (a17, a19))))))) fun g21 => (Res.ok g21.1))))
def m_scaled (a_0 : Int) (a_1 : Int) : Res (List (List Int)) := (Res.bind (Res.bind (Res.ok (24 : Int)) fun x2 => (Res.bind (Res.ok a_0) fun x3 => (noE (m_refuse_above x2 x3)))) fun x4 => (Res.bind (Res.bind (Res.bind (Res.ok a_1) fun x6 => (Res.bind (Res.ok a_0) fun x7 => (noE (m_common_divisor x6 x7)))) fun x8 => (Res.bind (Res.ok (1 : Int)) fun x9 => (Res.ok (decide (x9 < x8))))) fun x10 => (if x10 = true then Res.bad else (Res.bind (Res.bind (Res.ok a_0) fun x11 => (rngR 0 x11)) fun x15 => (mapC x15 (fun a13 => (Res.bind (Res.bind (Res.ok a_0) fun x16 => (rngR 0 x16)) fun x20 => (mapC x20 (fun a18 => (Res.bind (Res.bind (Res.bind (Res.ok a_1) fun x21 => (Res.bind (Res.ok a13) fun x22 => (mulR x21 x22))) fun x27 => (Res.bind (Res.bind (Res.bind (Res.ok (1 : Int)) fun x23 => (Res.bind (Res.ok a_1) fun x24 => (Res.ok (x23 - x24)))) fun x25 => (Res.bind (Res.ok a18) fun x26 => (mulR x25 x26))) fun x28 => (Res.ok (x27 + x28)))) fun x29 => (Res.bind (Res.ok a_0) fun x30 => (modR x29 x30))))))))))))
def m_turns (a_0 : Int) : Res (List (List Int)) := (Res.bind (Res.ok a_0) fun x3 => (Res.bind (Res.bind (Res.ok (1 : Int)) fun x2 => (Res.ok (-x2))) fun x4 => (noE (m_scaled x3 x4))))
def m_cell (a_0 : (List Int)) (a_1 : Int) : Res Int := (Res.bind (Res.bind (Res.ok a_1) fun x2 => (Res.bind (Res.bind (Res.ok a_0) fun x1 => (Res.ok (x1.length : Int))) fun x3 => (Res.ok (decide (x2 < x3))))) fun x4 => (if x4 = true then (Res.bind (Res.ok a_0) fun x5 => (Res.bind (Res.ok a_1) fun x6 => (atR x5 x6))) else (Res.bind (Res.ok (5 : Int)) fun a7 => (Res.bind (Res.bind (Res.ok a_0) fun x10 => (Res.bind (Res.ok none) fun x11 => (Res.bind (Res.bind (Res.ok (63 : Int)) fun x9 => (Res.ok (some x9))) fun x12 => (Res.ok (cutL x10 x11 x12))))) fun x39 => (Res.bind (forN x39 (a7) (fun g15 a17 => (Res.bind (Res.bind (Res.bind (Res.bind (Res.bind (Res.ok g15) fun x21 => (Res.bind (Res.ok (48271 : Int)) fun x22 => (mulR x21 x22))) fun x25 => (Res.bind (Res.bind (Res.ok a17) fun x23 => (Res.bind (Res.ok (1000003 : Int)) fun x24 => (modR x23 x24))) fun x26 => (Res.ok (x25 + x26)))) fun x27 => (Res.bind (Res.ok (1 : Int)) fun x28 => (Res.ok (x27 + x28)))) fun x29 => (Res.bind (Res.ok (2147483647 : Int)) fun x30 => (modR x29 x30))) fun a19 => (Res.ok (a19))))) fun g31 => (Res.bind (Res.bind (Res.ok g31) fun x35 => (Res.bind (Res.bind (Res.ok (7919 : Int)) fun x33 => (Res.bind (Res.ok a_1) fun x34 => (mulR x33 x34))) fun x36 => (Res.ok (x35 + x36)))) fun x37 => (Res.bind (Res.ok (1000003 : Int)) fun x38 => (modR x37 x38))))))))
def m_mix (a_0 : Int) (a_1 : Int) : Res Int := (Res.bind (Res.bind (Res.bind (Res.bind (Res.bind (Res.bind (Res.ok a_0) fun x3 => (Res.bind (Res.ok (2147483629 : Int)) fun x4 => (modR x3 x4))) fun x7 => (Res.bind (Res.bind (Res.ok (1013 : Int)) fun x5 => (Res.bind (Res.ok a_1) fun x6 => (mulR x5 x6))) fun x8 => (Res.ok (x7 + x8)))) fun x9 => (Res.bind (Res.ok (7919 : Int)) fun x10 => (Res.ok (x9 + x10)))) fun x11 => (Res.bind (Res.ok (3 : Int)) fun x12 => (powR x11 x12))) fun x13 => (Res.bind (Res.ok (2147483647 : Int)) fun x14 => (modR x13 x14))) fun a1 => (Res.bind (Res.bind (Res.bind (Res.bind (Res.bind (Res.ok a1) fun x17 => (Res.bind (Res.ok (40699 : Int)) fun x18 => (mulR x17 x18))) fun x23 => (Res.bind (Res.bind (Res.bind (Res.ok (3793 : Int)) fun x19 => (Res.bind (Res.ok a_1) fun x20 => (mulR x19 x20))) fun x21 => (Res.bind (Res.ok a_1) fun x22 => (mulR x21 x22))) fun x24 => (Res.ok (x23 + x24)))) fun x25 => (Res.bind (Res.ok (11 : Int)) fun x26 => (Res.ok (x25 + x26)))) fun x27 => (Res.bind (Res.ok (2147483399 : Int)) fun x28 => (modR x27 x28))) fun a15 => (Res.bind (Res.ok a15) fun x29 => (Res.bind (Res.ok (101 : Int)) fun x30 => (divR x29 x30)))))
def m_row (a_0 : (List Int)) (a_1 : Int) (a_2 : (List Int)) : Res (List Int) := (Res.bind (Res.bind (Res.ok a_0) fun x4 => (Res.bind (Res.ok a_1) fun x5 => (noE (m_cell x4 x5)))) fun a1 => (Res.bind (Res.ok a1) fun a6 => (Res.bind (Res.ok []) fun a8 => (Res.bind (Res.bind (Res.bind (Res.ok a_2) fun x11 => (Res.ok (x11.length : Int))) fun x12 => (rngR 0 x12)) fun x81 => (Res.bind (forN x81 (a8, a6) (fun g15 a17 => (Res.bind (Res.bind (Res.bind (Res.ok a1) fun x21 => (Res.bind (Res.bind (Res.ok (10 : Int)) fun x19 => (Res.bind (Res.ok (18 : Int)) fun x20 => (powR x19 x20))) fun x22 => (Res.ok (decide (x21 < x22))))) fun x23 => (if x23 = true then (Res.bind (Res.bind (Res.bind (Res.ok a1) fun x27 => (Res.bind (Res.ok a17) fun x28 => (noE (m_mix x27 x28)))) fun x31 => (Res.bind (Res.bind (Res.ok a_2) fun x29 => (Res.bind (Res.ok a17) fun x30 => (atR x29 x30))) fun x32 => (modR x31 x32))) fun a33 => (chk (g15.1.length < sizeLine) ((fun a35 => (Res.ok (a35, g15.2))) (g15.1 ++ [a33])))) else (Res.bind (Res.bind (Res.bind (Res.ok g15.2) fun x36 => (Res.bind (Res.ok (0 : Int)) fun x37 => (Res.ok (decide (x37 < x36))))) fun x38 => (if x38 = true then (Res.bind (Res.bind (Res.ok g15.2) fun x43 => (Res.bind (Res.bind (Res.ok a_2) fun x41 => (Res.bind (Res.ok a17) fun x42 => (atR x41 x42))) fun x44 => (modR x43 x44))) fun a45 => (chk (g15.1.length < sizeLine) ((fun a47 => (Res.bind (Res.bind (Res.ok g15.2) fun x52 => (Res.bind (Res.bind (Res.ok a_2) fun x50 => (Res.bind (Res.ok a17) fun x51 => (atR x50 x51))) fun x53 => (divR x52 x53))) fun a48 => (Res.ok (a48, a47)))) (g15.1 ++ [a45])))) else (Res.bind (Res.bind (Res.ok a_0) fun x63 => (Res.bind (Res.bind (Res.bind (Res.bind (Res.ok a_1) fun x57 => (Res.bind (Res.ok (1 : Int)) fun x58 => (Res.ok (x57 + x58)))) fun x59 => (Res.bind (Res.ok a17) fun x60 => (Res.ok (x59 + x60)))) fun x61 => (Res.bind (Res.ok (63 : Int)) fun x62 => (modR x61 x62))) fun x64 => (noE (m_cell x63 x64)))) fun a54 => (Res.bind (Res.bind (Res.bind (Res.ok a54) fun x66 => (Res.bind (Res.ok a17) fun x67 => (noE (m_mix x66 x67)))) fun x70 => (Res.bind (Res.bind (Res.ok a_2) fun x68 => (Res.bind (Res.ok a17) fun x69 => (atR x68 x69))) fun x71 => (modR x70 x71))) fun a72 => (chk (g15.1.length < sizeLine) ((fun a74 => (Res.ok (g15.2, a74))) (g15.1 ++ [a72]))))))) fun g76 => (Res.ok (g76.2, g76.1))))) fun g78 => (Res.ok (g78.1, g78.2))))) fun g79 => (Res.ok g79.1))))))
def m_group_fine (a_0 : (List (List Int))) : Res Bool := (Res.bind (Res.bind (Res.ok a_0) fun x3 => (Res.ok (x3.length : Int))) fun a1 => (Res.bind (Res.bind (Res.ok a1) fun x4 => (rngR 0 x4)) fun x74 => (Res.bind (forC x74 () (fun g7 a9 => (Res.bind (orR (Res.bind (Res.bind (Res.bind (Res.ok a_0) fun x11 => (Res.bind (Res.ok (0 : Int)) fun x12 => (atR x11 x12))) fun x13 => (Res.bind (Res.ok a9) fun x14 => (atR x13 x14))) fun x15 => (Res.bind (Res.ok a9) fun x16 => (Res.ok (!(decide (x15 = x16)))))) (orR (Res.bind (Res.bind (Res.bind (Res.ok a_0) fun x17 => (Res.bind (Res.ok a9) fun x18 => (atR x17 x18))) fun x19 => (Res.bind (Res.ok (0 : Int)) fun x20 => (atR x19 x20))) fun x21 => (Res.bind (Res.ok a9) fun x22 => (Res.ok (!(decide (x21 = x22)))))) (Res.bind (Res.ok (0 : Int)) fun x25 => (Res.bind (Res.bind (Res.ok a_0) fun x23 => (Res.bind (Res.ok a9) fun x24 => (atR x23 x24))) fun x26 => (Res.ok (!(decide (x25 ∈ x26)))))))) fun x27 => (if x27 = true then (Res.bind (Res.ok false) fun x71 => (Res.ok (Ctl.ret x71))) else (Res.bind (Res.bind (Res.ok a1) fun x28 => (rngR 0 x28)) fun x70 => (Res.bind (forC x70 () (fun g31 a33 => (Res.bind (Res.bind (Res.ok a1) fun x35 => (rngR 0 x35)) fun x66 => (Res.bind (forC x66 () (fun g38 a40 => (Res.bind (Res.bind (Res.bind (Res.bind (Res.ok a_0) fun x46 => (Res.bind (Res.bind (Res.bind (Res.ok a_0) fun x42 => (Res.bind (Res.ok a9) fun x43 => (atR x42 x43))) fun x44 => (Res.bind (Res.ok a33) fun x45 => (atR x44 x45))) fun x47 => (atR x46 x47))) fun x48 => (Res.bind (Res.ok a40) fun x49 => (atR x48 x49))) fun x58 => (Res.bind (Res.bind (Res.bind (Res.ok a_0) fun x50 => (Res.bind (Res.ok a9) fun x51 => (atR x50 x51))) fun x56 => (Res.bind (Res.bind (Res.bind (Res.ok a_0) fun x52 => (Res.bind (Res.ok a33) fun x53 => (atR x52 x53))) fun x54 => (Res.bind (Res.ok a40) fun x55 => (atR x54 x55))) fun x57 => (atR x56 x57))) fun x59 => (Res.ok (!(decide (x58 = x59)))))) fun x60 => (if x60 = true then (Res.bind (Res.ok false) fun x62 => (Res.ok (Ctl.ret x62))) else (Res.bind (Res.ok ()) fun x61 => (Res.ok (Ctl.nx x61))))))) (retOrC fun g63 => (Res.bind (Res.ok ()) fun x65 => (Res.ok (Ctl.nx x65)))))))) (retOrC fun g67 => (Res.bind (Res.ok ()) fun x69 => (Res.ok (Ctl.nx x69)))))))))) (retOr fun g72 => (Res.ok true)))))
def m_table_fine (a_0 : (List (List Int))) : Res Bool := (Res.bind (Res.bind (Res.ok a_0) fun x3 => (Res.ok (x3.length : Int))) fun a1 => (Res.bind (Res.bind (Res.ok a1) fun x4 => (rngR 0 x4)) fun x80 => (Res.bind (forC x80 () (fun g7 a9 => (Res.bind (orR (Res.bind (Res.bind (Res.bind (Res.ok a_0) fun x11 => (Res.bind (Res.ok a9) fun x12 => (atR x11 x12))) fun x13 => (Res.bind (Res.ok a9) fun x14 => (atR x13 x14))) fun x15 => (Res.bind (Res.ok a9) fun x16 => (Res.ok (!(decide (x15 = x16)))))) (Res.bind (Res.bind (Res.bind (Res.ok a_0) fun x21 => (mapC x21 (fun a19 => (Res.bind (Res.ok a19) fun x22 => (Res.bind (Res.ok a9) fun x23 => (atR x22 x23)))))) fun x17 => (chk (x17.length < 64) (Res.ok (sortI x17)))) fun x25 => (Res.bind (Res.bind (Res.ok a1) fun x24 => (chk (0 ≤ x24 ∧ x24 ≤ 1000) (Res.ok (rangeI 0 x24)))) fun x26 => (Res.ok (!(decide (x25 = x26))))))) fun x27 => (if x27 = true then (Res.bind (Res.ok false) fun x77 => (Res.ok (Ctl.ret x77))) else (Res.bind (Res.bind (Res.ok a1) fun x28 => (rngR 0 x28)) fun x76 => (Res.bind (forC x76 () (fun g31 a33 => (Res.bind (Res.bind (Res.ok a1) fun x35 => (rngR 0 x35)) fun x72 => (Res.bind (forC x72 () (fun g38 a40 => (Res.bind (Res.bind (Res.bind (Res.ok a_0) fun x48 => (Res.bind (Res.bind (Res.bind (Res.ok a_0) fun x44 => (Res.bind (Res.ok a33) fun x45 => (atR x44 x45))) fun x46 => (Res.bind (Res.ok a9) fun x47 => (atR x46 x47))) fun x49 => (atR x48 x49))) fun x50 => (Res.bind (Res.ok a40) fun x51 => (atR x50 x51))) fun a42 => (Res.bind (Res.bind (Res.ok a42) fun x64 => (Res.bind (Res.bind (Res.bind (Res.ok a_0) fun x56 => (Res.bind (Res.bind (Res.bind (Res.ok a_0) fun x52 => (Res.bind (Res.ok a33) fun x53 => (atR x52 x53))) fun x54 => (Res.bind (Res.ok a40) fun x55 => (atR x54 x55))) fun x57 => (atR x56 x57))) fun x62 => (Res.bind (Res.bind (Res.bind (Res.ok a_0) fun x58 => (Res.bind (Res.ok a9) fun x59 => (atR x58 x59))) fun x60 => (Res.bind (Res.ok a40) fun x61 => (atR x60 x61))) fun x63 => (atR x62 x63))) fun x65 => (Res.ok (!(decide (x64 = x65)))))) fun x66 => (if x66 = true then (Res.bind (Res.ok false) fun x68 => (Res.ok (Ctl.ret x68))) else (Res.bind (Res.ok ()) fun x67 => (Res.ok (Ctl.nx x67)))))))) (retOrC fun g69 => (Res.bind (Res.ok ()) fun x71 => (Res.ok (Ctl.nx x71)))))))) (retOrC fun g73 => (Res.bind (Res.ok ()) fun x75 => (Res.ok (Ctl.nx x75)))))))))) (retOr fun g78 => (Res.ok true)))))
def m_asked (a_0 : (List Int)) : Res (List (List Int)) := (Res.bind (Res.bind (Res.bind (Res.ok a_0) fun x1 => (Res.bind (Res.ok (0 : Int)) fun x2 => (atR x1 x2))) fun x3 => (Res.bind (Res.ok (0 : Int)) fun x4 => (Res.ok (decide (x3 = x4))))) fun x5 => (if x5 = true then (Res.bind (Res.bind (Res.ok (1 : Int)) fun x9 => (Res.bind (Res.bind (Res.ok a_0) fun x7 => (Res.bind (Res.ok (1 : Int)) fun x8 => (atR x7 x8))) fun x10 => (Res.ok (x9 + x10)))) fun x11 => (noE (m_cycle x11))) else (Res.bind (andR (Res.bind (Res.bind (Res.ok a_0) fun x12 => (Res.bind (Res.ok (0 : Int)) fun x13 => (atR x12 x13))) fun x14 => (Res.bind (Res.ok (1 : Int)) fun x15 => (Res.ok (decide (x14 = x15))))) (Res.bind (Res.bind (Res.ok a_0) fun x16 => (Res.bind (Res.ok (2 : Int)) fun x17 => (atR x16 x17))) fun x18 => (Res.bind (Res.ok (0 : Int)) fun x19 => (Res.ok (decide (x18 = x19)))))) fun x20 => (if x20 = true then (Res.bind (Res.ok (4 : Int)) fun x22 => (noE (m_orders x22))) else (Res.bind (Res.bind (Res.bind (Res.ok a_0) fun x23 => (Res.bind (Res.ok (0 : Int)) fun x24 => (atR x23 x24))) fun x25 => (Res.bind (Res.ok (1 : Int)) fun x26 => (Res.ok (decide (x25 = x26))))) fun x27 => (if x27 = true then (Res.bind (Res.bind (Res.ok (1 : Int)) fun x33 => (Res.bind (Res.bind (Res.bind (Res.ok a_0) fun x29 => (Res.bind (Res.ok (1 : Int)) fun x30 => (atR x29 x30))) fun x31 => (Res.bind (Res.ok (3 : Int)) fun x32 => (modR x31 x32))) fun x34 => (Res.ok (x33 + x34)))) fun x35 => (noE (m_orders x35))) else (Res.bind (Res.bind (Res.bind (Res.ok (1 : Int)) fun x43 => (Res.bind (Res.bind (Res.bind (Res.ok a_0) fun x39 => (Res.bind (Res.ok (1 : Int)) fun x40 => (atR x39 x40))) fun x41 => (Res.bind (Res.ok (4 : Int)) fun x42 => (modR x41 x42))) fun x44 => (Res.ok (x43 + x44)))) fun x45 => (noE (m_cycle x45))) fun a36 => (Res.bind (Res.bind (Res.bind (Res.bind (Res.ok a_0) fun x46 => (Res.bind (Res.ok (2 : Int)) fun x47 => (atR x46 x47))) fun x48 => (Res.bind (Res.ok (2 : Int)) fun x49 => (modR x48 x49))) fun x50 => (Res.bind (Res.ok (0 : Int)) fun x51 => (Res.ok (decide (x50 = x51))))) fun x52 => (if x52 = true then (Res.bind (Res.ok a36) fun x62 => (Res.bind (Res.bind (Res.bind (Res.ok (1 : Int)) fun x59 => (Res.bind (Res.bind (Res.bind (Res.ok a_0) fun x55 => (Res.bind (Res.ok (3 : Int)) fun x56 => (atR x55 x56))) fun x57 => (Res.bind (Res.ok (3 : Int)) fun x58 => (modR x57 x58))) fun x60 => (Res.ok (x59 + x60)))) fun x61 => (noE (m_orders x61))) fun x63 => (noE (m_both x62 x63)))) else (Res.bind (Res.bind (Res.bind (Res.ok (1 : Int)) fun x70 => (Res.bind (Res.bind (Res.bind (Res.ok a_0) fun x66 => (Res.bind (Res.ok (3 : Int)) fun x67 => (atR x66 x67))) fun x68 => (Res.bind (Res.ok (3 : Int)) fun x69 => (modR x68 x69))) fun x71 => (Res.ok (x70 + x71)))) fun x72 => (noE (m_orders x72))) fun x73 => (Res.bind (Res.ok a36) fun x74 => (noE (m_both x73 x74)))))))))))))
def m_square (a_0 : (List (List Int))) : Res Bool := (Res.bind (orR (Res.bind (Res.bind (Res.ok a_0) fun x1 => (Res.ok true)) fun x2 => (Res.ok (!x2))) (Res.bind (Res.bind (Res.ok a_0) fun x3 => (Res.ok (x3.length : Int))) fun x4 => (Res.bind (Res.ok (24 : Int)) fun x5 => (Res.ok (decide (x5 < x4)))))) fun x6 => (if x6 = true then (Res.ok false) else (Res.bind (Res.ok a_0) fun x44 => (Res.bind (forC x44 () (fun g9 a11 => (Res.bind (orR (Res.bind (Res.bind (Res.ok a11) fun x13 => (Res.ok true)) fun x14 => (Res.ok (!x14))) (Res.bind (Res.bind (Res.ok a11) fun x15 => (Res.ok (x15.length : Int))) fun x17 => (Res.bind (Res.bind (Res.ok a_0) fun x16 => (Res.ok (x16.length : Int))) fun x18 => (Res.ok (!(decide (x17 = x18))))))) fun x19 => (if x19 = true then (Res.bind (Res.ok false) fun x41 => (Res.ok (Ctl.ret x41))) else (Res.bind (Res.ok a11) fun x40 => (Res.bind (forC x40 () (fun g22 a24 => (Res.bind (orR (Res.bind (Res.ok a24) fun x26 => (Res.ok false)) (orR (Res.bind (Res.bind (Res.ok a24) fun x27 => (Res.ok true)) fun x28 => (Res.ok (!x28))) (Res.bind (Res.bind (Res.ok (0 : Int)) fun x30 => (Res.bind (Res.ok a24) fun x31 => (if (decide (x30 ≤ x31)) = true then (Res.bind (Res.bind (Res.ok a_0) fun x29 => (Res.ok (x29.length : Int))) fun x32 => (Res.ok (decide (x31 < x32)))) else Res.ok false))) fun x33 => (Res.ok (!x33))))) fun x34 => (if x34 = true then (Res.bind (Res.ok false) fun x36 => (Res.ok (Ctl.ret x36))) else (Res.bind (Res.ok ()) fun x35 => (Res.ok (Ctl.nx x35))))))) (retOrC fun g37 => (Res.bind (Res.ok ()) fun x39 => (Res.ok (Ctl.nx x39)))))))))) (retOr fun g42 => (Res.ok true))))))
def m_law (a_0 : (List Int)) : Res Bool := (Res.bind (Res.bind (Res.ok a_0) fun x15 => (Res.bind (Res.ok (0 : Int)) fun x16 => (Res.bind (Res.bind (Res.bind (Res.ok (3 : Int)) fun x13 => (Res.bind (Res.bind (Res.ok (12 : Int)) fun x11 => (Res.bind (Res.bind (Res.ok (8 : Int)) fun x9 => (Res.bind (Res.bind (Res.ok (3 : Int)) fun x7 => (Res.bind (Res.bind (Res.ok (24 : Int)) fun x5 => (Res.bind (Res.ok []) fun x6 => (Res.ok (x5 :: x6)))) fun x8 => (Res.ok (x7 :: x8)))) fun x10 => (Res.ok (x9 :: x10)))) fun x12 => (Res.ok (x11 :: x12)))) fun x14 => (Res.ok (x13 :: x14)))) fun x4 => (chk (x4.length ≤ sizeLine) (Res.ok x4))) fun x17 => (noE (m_row x15 x16 x17))))) fun a1 => (Res.bind (Res.bind (Res.ok a1) fun x21 => (noE (m_asked x21))) fun a18 => (Res.bind (orR (Res.bind (Res.bind (Res.ok a18) fun x23 => (noE (m_square x23))) fun x24 => (Res.ok (!x24))) (Res.bind (Res.bind (Res.ok a18) fun x26 => (noE (m_group_fine x26))) fun x27 => (Res.ok (!x27)))) fun x28 => (if x28 = true then (Res.ok false) else (Res.bind (Res.bind (Res.bind (Res.bind (Res.ok a18) fun x33 => (noE (m_conjugates x33))) fun x48 => (Res.bind (Res.bind (Res.bind (Res.ok a18) fun x35 => (noE (m_cores x35))) fun x46 => (Res.bind (Res.bind (Res.bind (Res.ok a18) fun x42 => (Res.bind (Res.bind (Res.bind (Res.ok a1) fun x37 => (Res.bind (Res.ok (4 : Int)) fun x38 => (atR x37 x38))) fun x40 => (Res.bind (Res.bind (Res.ok a18) fun x39 => (Res.ok (x39.length : Int))) fun x41 => (modR x40 x41))) fun x43 => (noE (m_class_table x42 x43)))) fun x44 => (Res.bind (Res.ok []) fun x45 => (Res.ok (x44 :: x45)))) fun x47 => (Res.ok (x46 :: x47)))) fun x49 => (Res.ok (x48 :: x49)))) fun x31 => (chk (x31.length ≤ sizeLine) (Res.ok x31))) fun a29 => (Res.bind (Res.ok a29) fun x98 => (Res.bind (forC x98 () (fun g52 a54 => (Res.bind (orR (Res.bind (Res.bind (Res.ok a54) fun x57 => (noE (m_square x57))) fun x58 => (Res.ok (!x58))) (Res.bind (Res.bind (Res.ok a54) fun x60 => (noE (m_table_fine x60))) fun x61 => (Res.ok (!x61)))) fun x62 => (if x62 = true then (Res.bind (Res.ok false) fun x64 => (Res.ok (Ctl.ret x64))) else (Res.bind (Res.ok ()) fun x63 => (Res.ok (Ctl.nx x63))))))) (retOr fun g65 => (Res.bind (Res.bind (Res.ok (1 : Int)) fun x71 => (Res.bind (Res.bind (Res.ok a1) fun x69 => (Res.bind (Res.ok (1 : Int)) fun x70 => (atR x69 x70))) fun x72 => (Res.ok (x71 + x72)))) fun a67 => (Res.bind (Res.bind (Res.bind (Res.bind (Res.ok a67) fun x75 => (noE (m_cycle x75))) fun x76 => (noE (m_conjugates x76))) fun x87 => (Res.bind (Res.bind (Res.bind (Res.ok a67) fun x77 => (rngR 0 x77)) fun x81 => (mapC x81 (fun a79 => (Res.bind (Res.bind (Res.bind (Res.ok a79) fun x85 => (Res.bind (Res.ok []) fun x86 => (Res.ok (x85 :: x86)))) fun x84 => (chk (x84.length ≤ sizeLine) (Res.ok x84))) fun x82 => (Res.bind (Res.ok a67) fun x83 => (repR x82 x83)))))) fun x88 => (Res.ok (!(decide (x87 = x88)))))) fun x89 => (if x89 = true then (Res.ok false) else (Res.bind (Res.bind (Res.bind (Res.ok a67) fun x92 => (noE (m_cycle x92))) fun x93 => (noE (m_cores x93))) fun x96 => (Res.bind (Res.bind (Res.ok a67) fun x95 => (noE (m_turns x95))) fun x97 => (Res.ok (decide (x96 = x97))))))))))))))))
end My
/-! ### mirrors reckoned: loops and lists -/
namespace L2
open PySem
section
variable {α β γ ρ : Type}
theorem Res.okb (a : α) (f : α → Res β) : (Res.ok a).bind f = f a := (Eq.refl (f a)).symm.symm
theorem mapR_ok {f : α → Res β} {h : α → β} : ∀ {as : List α}, (∀ a ∈ as, f a = .ok (h a)) → mapR as f = .ok (as.map h)
  | [], _ => rfl
  | a :: as, hf => by
    show (f a).bind _ = _
    rw [hf a (by simp), Res.ok_bind, mapR_ok fun b hb => hf b (by simp [hb])]; rfl
theorem mapC_ok {f : α → Res β} {h : α → β} {as : List α} (hl : as.length ≤ sizeLine) (hf : ∀ a ∈ as, f a = .ok (h a)) : mapC as f = .ok (as.map h) := by
  unfold mapC; rw [chk_ok hl]; exact mapR_ok hf
theorem forN_inv' {f : γ → α → Res γ} (P : Nat → γ → Prop) : ∀ (as : List α) (k : Nat) (g : γ), P k g → (∀ i a g, as[i]? = some a → P (k + i) g → ∃ g', f g a = .ok g' ∧ P (k + i + 1) g') → ∃ g', forN as g f = .ok g' ∧ P (k + as.length) g'
  | [], k, g, h0, _ => ⟨g, rfl, h0⟩
  | a :: as, k, g, h0, hs => by
    obtain ⟨g1, e1, p1⟩ := hs 0 a g rfl h0
    obtain ⟨g2, e2, p2⟩ := forN_inv' P as (k + 1) g1 p1 fun i b g hb hp => by
      obtain ⟨g', e', p'⟩ := hs (i + 1) b g (by simpa using hb) (by rw [show k + (i + 1) = k + 1 + i by omega]; exact hp)
      exact ⟨g', e', by rw [show k + 1 + i + 1 = k + (i + 1) + 1 by omega]; exact p'⟩
    refine ⟨g2, ?_, by rw [List.length_cons, show k + (as.length + 1) = k + 1 + as.length by omega]; exact p2⟩
    show (f g a).bind _ = _
    rw [e1, Res.ok_bind]; exact e2
theorem forN_inv {f : γ → α → Res γ} (P : Nat → γ → Prop) {as : List α} {g : γ} (h0 : P 0 g) (hs : ∀ i a g, as[i]? = some a → P i g → ∃ g', f g a = .ok g' ∧ P (i + 1) g') : ∃ g', forN as g f = .ok g' ∧ P as.length g' := by
  have := forN_inv' P as 0 g h0 (by simpa using hs)
  simpa using this
/-- a loop that finds nothing -/
theorem forC_all {f : γ → α → Res (Ctl ρ γ)} : ∀ {as : List α} {g : γ}, (∀ a ∈ as, f g a = .ok (.nx g)) → forC as g f = .ok (.nx g)
  | [], _, _ => rfl
  | a :: as, g, hf => by
    show (f g a).bind _ = _
    rw [hf a (by simp), Res.ok_bind]
    exact forC_all fun b hb => hf b (by simp [hb])
theorem forC_inv' {f : γ → α → Res (Ctl ρ γ)} (P : Nat → γ → Prop) : ∀ (as : List α) (k : Nat) (g : γ), P k g → (∀ i a g, as[i]? = some a → P (k + i) g → ∃ g', f g a = .ok (.nx g') ∧ P (k + i + 1) g') → ∃ g', forC as g f = .ok (.nx g') ∧ P (k + as.length) g'
  | [], k, g, h0, _ => ⟨g, rfl, h0⟩
  | a :: as, k, g, h0, hs => by
    obtain ⟨g1, e1, p1⟩ := hs 0 a g rfl h0
    obtain ⟨g2, e2, p2⟩ := forC_inv' P as (k + 1) g1 p1 fun i b g hb hp => by
      obtain ⟨g', e', p'⟩ := hs (i + 1) b g (by simpa using hb) (by rw [show k + (i + 1) = k + 1 + i by omega]; exact hp)
      exact ⟨g', e', by rw [show k + 1 + i + 1 = k + (i + 1) + 1 by omega]; exact p'⟩
    refine ⟨g2, ?_, by rw [List.length_cons, show k + (as.length + 1) = k + 1 + as.length by omega]; exact p2⟩
    show (f g a).bind _ = _
    rw [e1, Res.ok_bind]; exact e2
theorem forC_inv {f : γ → α → Res (Ctl ρ γ)} (P : Nat → γ → Prop) {as : List α} {g : γ} (h0 : P 0 g) (hs : ∀ i a g, as[i]? = some a → P i g → ∃ g', f g a = .ok (.nx g') ∧ P (i + 1) g') : ∃ g', forC as g f = .ok (.nx g') ∧ P as.length g' := by
  have := forC_inv' P as 0 g h0 (by simpa using hs)
  simpa using this
theorem mod_ok {a b : Int} (h : 0 < b) : modR a b = .ok (a % b) := chk_ok h
theorem mul_okL {a b : Int} (h1 : -(2 ^ 64) < a) (h2 : a < 2 ^ 64) : mulR a b = .ok (a * b) := chk_ok (.inl ⟨h1, h2⟩)
theorem mul_okR {a b : Int} (h1 : -(2 ^ 64) < b) (h2 : b < 2 ^ 64) : mulR a b = .ok (a * b) := chk_ok (.inr ⟨h1, h2⟩)
theorem div_ok {a b : Int} (h : 0 < b) (h2 : b < 2 ^ 250) : divR a b = .ok (a / b) := chk_ok ⟨h, by
  have h3 : b.natAbs < 2 ^ 250 := by omega
  rcases Nat.eq_zero_or_pos b.natAbs with h0 | h0
  · omega
  · have := (Nat.log2_lt (by omega)).mpr h3
    omega⟩
theorem pow_ok {a b : Int} (h0 : 0 ≤ b) (h1 : b ≤ 1000000) (h2 : -(2 ^ 64) < a) (h3 : a < 2 ^ 64) : powR a b = .ok (a ^ b.toNat) := chk_ok ⟨h0, h1, by omega⟩
theorem at_nat {as : List α} {i : Nat} {a : α} (h : as[i]? = some a) : atR as (i : Int) = .ok a := by
  have hlt := (List.getElem?_eq_some_iff.mp h).1
  unfold atR atI ixN
  rw [if_pos (by omega), if_pos (by omega)]
  simp [h]
theorem at_int {as : List α} {i : Int} {a : α} (h0 : 0 ≤ i) (h : as[i.toNat]? = some a) : atR as i = .ok a := by
  have : i = (i.toNat : Int) := by omega
  rw [this]; exact at_nat h
theorem rng_ok {n : Nat} (h : n < 2 ^ 62) : rngR 0 (n : Int) = .ok ((List.range n).map fun (i : Nat) => (i : Int)) := by
  unfold rngR
  rw [chk_ok (by omega)]
  unfold rangeI
  congr 1
  rw [Int.sub_zero, Int.toNat_natCast]
  exact List.map_congr_left fun i _ => by omega
theorem range_get {n i : Nat} {a : Int} (h : ((List.range n).map fun (i : Nat) => (i : Int))[i]? = some a) : a = (i : Int) ∧ i < n := by
  have hlt := (List.getElem?_eq_some_iff.mp h).1
  simp only [List.length_map, List.length_range] at hlt
  rw [List.getElem?_map, List.getElem?_range hlt] at h
  exact ⟨(Option.some.inj h).symm, hlt⟩
theorem range_mem {n : Nat} {a : Int} (h : a ∈ (List.range n).map fun (i : Nat) => (i : Int)) : ∃ i : Nat, i < n ∧ a = (i : Int) := by
  obtain ⟨i, hi, rfl⟩ := List.mem_map.mp h
  exact ⟨i, List.mem_range.mp hi, rfl⟩
theorem range_len {n : Nat} : ((List.range n).map fun (i : Nat) => (i : Int)).length = n := by simp
theorem sz {n : Nat} (h : n ≤ 100000) : n ≤ sizeLine := Nat.le_trans h (by decide)
theorem szlt {n : Nat} (h : n ≤ 100000) : n < sizeLine := Nat.lt_of_le_of_lt h (by decide)
/-! what a mirror comes to -/
def Ok (m : Res β) (R : β → Prop) : Prop := ∃ r, m = .ok r ∧ R r
theorem Ok.pure {R : β → Prop} {a : β} (h : R a) : Ok (.ok a) R := ⟨a, rfl, h⟩
theorem Ok.bind {m : Res α} {f : α → Res β} {R : α → Prop} {T : β → Prop} (h : Ok m R) (hf : ∀ a, R a → Ok (f a) T) : Ok (m.bind f) T := by
  obtain ⟨a, e, ha⟩ := h
  rw [e]; exact hf a ha
theorem Ok.imp {m : Res α} {R T : α → Prop} (h : Ok m R) (hf : ∀ a, R a → T a) : Ok m T := by
  obtain ⟨a, e, ha⟩ := h
  exact ⟨a, e, hf a ha⟩
theorem Ok.noE {m : Res α} {R : α → Prop} (h : Ok m R) : Ok (noE m) R := by
  obtain ⟨a, e, ha⟩ := h
  rw [e]; exact ⟨a, rfl, ha⟩
theorem Ok.chk {c : Prop} [Decidable c] {m : Res α} {R : α → Prop} (hc : c) (h : Ok m R) : Ok (chk c m) R := by rw [chk_ok hc]; exact h
theorem Ok.forN {f : γ → α → Res γ} (P : Nat → γ → Prop) {as : List α} {g : γ} (h0 : P 0 g) (hs : ∀ i a g, as[i]? = some a → P i g → Ok (f g a) (P (i + 1))) : Ok (forN as g f) (P as.length) := forN_inv P h0 hs
theorem Ok.forC {f : γ → α → Res (Ctl ρ γ)} (P : Nat → γ → Prop) {as : List α} {g : γ} (h0 : P 0 g) (hs : ∀ i a g, as[i]? = some a → P i g → ∃ g', f g a = .ok (.nx g') ∧ P (i + 1) g') : Ok (forC as g f) (fun c => ∃ g', c = .nx g' ∧ P as.length g') := by
  obtain ⟨g', e, h⟩ := forC_inv P h0 hs
  exact ⟨_, e, g', rfl, h⟩
theorem retOr_nx {f : γ → Res ρ} (g : γ) : retOr f (.nx g) = f g := (Eq.refl (f g)).symm.symm
theorem Ok.of {m : Res α} {a : α} (h : m = .ok a) : Ok m (fun b => b = a) := ⟨a, h, rfl⟩
theorem Ok.eq {m : Res α} {a : α} (h : Ok m (fun b => b = a)) : m = .ok a := by
  obtain ⟨b, e, rfl⟩ := h
  exact e
theorem noE_of {m : Res α} {a : α} (h : m = .ok a) : noE m = .ok a := by rw [h]; rfl
end
end L2

/-! ### tables of colours, by themselves -/
namespace My
/-- row a of the table of the size n with the numbers f a b -/
def rowOf (n : Nat) (f : Nat → Nat → Nat) (a : Nat) : List Int := (List.range n).map fun b => (f a b : Int)
def tabOf (n : Nat) (f : Nat → Nat → Nat) : List (List Int) := (List.range n).map (rowOf n f)
theorem rowOf_length (n : Nat) (f : Nat → Nat → Nat) (a : Nat) : (rowOf n f a).length = n := by simp [rowOf]
theorem tabOf_length (n : Nat) (f : Nat → Nat → Nat) : (tabOf n f).length = n := by simp [tabOf]
theorem rowOf_get {n : Nat} {f : Nat → Nat → Nat} {a b : Nat} (h : b < n) : (rowOf n f a)[b]? = some (f a b : Int) := by
  unfold rowOf; rw [List.getElem?_map, List.getElem?_range h]; rfl
theorem tabOf_get {n : Nat} {f : Nat → Nat → Nat} {a : Nat} (h : a < n) : (tabOf n f)[a]? = some (rowOf n f a) := by
  unfold tabOf; rw [List.getElem?_map, List.getElem?_range h]; rfl
/-- the numbers are colours, and no column has one twice -/
structure Col (n : Nat) (f : Nat → Nat → Nat) : Prop where
  lt : ∀ a b, a < n → b < n → f a b < n
  r2 : ∀ x y b, x < n → y < n → b < n → f x b = f y b → x = y
/-- the three rules -/
structure GoodF (n : Nat) (f : Nat → Nat → Nat) : Prop extends Col n f where
  r1 : ∀ a, a < n → f a a = a
  r3 : ∀ a b c, a < n → b < n → c < n → f (f a b) c = f (f a c) (f b c)
theorem GoodF.congr {n : Nat} {f g : Nat → Nat → Nat} (h : GoodF n f) (e : ∀ a b, a < n → b < n → g a b = f a b) : GoodF n g where
  lt a b ha hb := by rw [e a b ha hb]; exact h.lt a b ha hb
  r2 x y b hx hy hb q := by rw [e x b hx hb, e y b hy hb] at q; exact h.r2 x y b hx hy hb q
  r1 a ha := by rw [e a a ha ha]; exact h.r1 a ha
  r3 a b c ha hb hc := by
    rw [e a b ha hb, e a c ha hc, e b c hb hc, e _ c (h.lt a b ha hb) hc, e _ _ (h.lt a c ha hc) (h.lt b c hb hc)]
    exact h.r3 a b c ha hb hc

/-! pigeonhole: one to one among n is onto -/
/-! the ways back -/
/-! called otherwise -/
structure PermN (n : Nat) (p q : Nat → Nat) : Prop where
  lt : ∀ a, a < n → p a < n
  qlt : ∀ a, a < n → q a < n
  pq : ∀ a, a < n → p (q a) = a
  qp : ∀ a, a < n → q (p a) = a
/-! the tables that are drawn -/
end My

/-! ### tables and orders of numbers, in mirrors -/
namespace My
open PySem L2
theorem tab_at {n : Nat} {f : Nat → Nat → Nat} {a : Nat} (h : a < n) : atR (tabOf n f) (a : Int) = .ok (rowOf n f a) := at_nat (tabOf_get h)
theorem row_at {n : Nat} {f : Nat → Nat → Nat} {a b : Nat} (h : b < n) : atR (rowOf n f a) (b : Int) = .ok (f a b : Int) := at_nat (rowOf_get h)
/-- an order of n things -/
def IsPerm (n : Nat) (sp : List Int) (p q : Nat → Nat) : Prop := PermN n p q ∧ sp = (List.range n).map fun i => ((p i : Nat) : Int)
theorem IsPerm.get {n : Nat} {sp : List Int} {p q : Nat → Nat} (h : IsPerm n sp p q) {i : Nat} (hi : i < n) : atR sp (i : Int) = .ok ((p i : Nat) : Int) := at_nat (by rw [h.2, List.getElem?_map, List.getElem?_range hi]; rfl)
end My

/-! ### groups, in mirrors -/
namespace My
open PySem L2
/-- the rules of a group -/
structure GrpF (n : Nat) (f : Nat → Nat → Nat) : Prop where
  pos : 0 < n
  lt : ∀ a b, a < n → b < n → f a b < n
  u1 : ∀ a, a < n → f 0 a = a
  u2 : ∀ a, a < n → f a 0 = a
  iv : ∀ a, a < n → ∃ b, b < n ∧ f a b = 0
  as : ∀ a b c, a < n → b < n → c < n → f (f a b) c = f a (f b c)
theorem GrpF.left {n : Nat} {f : Nat → Nat → Nat} (h : GrpF n f) {a b : Nat} (ha : a < n) (hb : b < n) (e : f a b = 0) : f b a = 0 := by
  obtain ⟨c, hc, ec⟩ := h.iv b hb
  have h1 : f (f a b) c = f a (f b c) := h.as a b c ha hb hc
  rw [e, ec, h.u1 c hc, h.u2 a ha] at h1
  rw [← h1]; exact ec
theorem GrpF.cancel {n : Nat} {f : Nat → Nat → Nat} (h : GrpF n f) {a b c : Nat} (ha : a < n) (hb : b < n) (hc : c < n) (e : f a b = f a c) : b = c := by
  obtain ⟨d, hd, ed⟩ := h.iv a ha
  have := h.left ha hd ed
  have h1 := h.as d a b hd ha hb
  have h2 := h.as d a c hd ha hc
  rw [this, h.u1 b hb] at h1
  rw [this, h.u1 c hc] at h2
  rw [h1, h2, e]
/-! a look that the kernel can do -/
def natRow (n : Nat) : List Int → Option (List Nat)
  | [] => some []
  | .ofNat k :: r => if k < n then (natRow n r).map (k :: ·) else none
  | .negSucc _ :: _ => none
def natTab (n : Nat) : List (List Int) → Option (List (List Nat))
  | [] => some []
  | r :: t => if r.length = n then match natRow n r, natTab n t with
    | some a, some b => some (a :: b)
    | _, _ => none
    else none
def at2 (T : List (List Nat)) (a b : Nat) : Nat := (T.getD a []).getD b 99
def okT (n : Nat) (T : List (List Nat)) : Bool :=
  (List.range n).all (fun a => at2 T 0 a == a && at2 T a 0 == a && (List.range n).any fun b => at2 T a b == 0) &&
  (List.range n).all fun a => let row := T.getD a []
    (List.range n).all fun b => T.getD (row.getD b 99) [] == (T.getD b []).map fun x => row.getD x 99
def okG (m : Res (List (List Int))) : Bool := match m with
  | .ok G => decide (0 < G.length) && decide (G.length ≤ 24) && match natTab G.length G with
    | some T => okT G.length T
    | none => false
  | _ => false
theorem natRow_spec : ∀ {n : Nat} {r : List Int} {l : List Nat}, natRow n r = some l → r = l.map (fun (k : Nat) => (k : Int)) ∧ ∀ x ∈ l, x < n
  | n, [], l, h => by cases h; exact ⟨rfl, fun x hx => by cases hx⟩
  | n, .ofNat k :: r, l, h => by
    unfold natRow at h
    split at h
    · cases e : natRow n r with
      | none => rw [e] at h; cases h
      | some l' =>
        rw [e] at h
        cases h
        obtain ⟨h1, h2⟩ := natRow_spec e
        refine ⟨by rw [List.map_cons, ← h1]; rfl, fun x hx => ?_⟩
        rcases List.mem_cons.mp hx with rfl | hx
        · assumption
        · exact h2 x hx
    · cases h
  | n, .negSucc k :: r, l, h => by cases h
theorem natTab_spec : ∀ {n : Nat} {G : List (List Int)} {T : List (List Nat)}, natTab n G = some T → G = T.map (fun row => row.map fun (k : Nat) => (k : Int)) ∧ ∀ row ∈ T, row.length = n ∧ ∀ x ∈ row, x < n
  | n, [], T, h => by cases h; exact ⟨rfl, fun x hx => by cases hx⟩
  | n, r :: G, T, h => by
    unfold natTab at h
    split at h
    · cases e1 : natRow n r with
      | none => rw [e1] at h; cases h
      | some l =>
        cases e2 : natTab n G with
        | none => rw [e1, e2] at h; cases h
        | some T' =>
          rw [e1, e2] at h
          cases h
          obtain ⟨h1, h2⟩ := natRow_spec e1
          obtain ⟨h3, h4⟩ := natTab_spec e2
          refine ⟨by rw [List.map_cons, ← h1, ← h3], fun row hrow => ?_⟩
          rcases List.mem_cons.mp hrow with rfl | hrow
          · have hl : r.length = n := by assumption
            rw [h1, List.length_map] at hl
            exact ⟨hl, h2⟩
          · exact h4 row hrow
    · cases h
theorem okG_spec {m : Res (List (List Int))} (h : okG m = true) : Ok m fun G => ∃ n f, GrpF n f ∧ n ≤ 24 ∧ G = tabOf n f := by
  cases m with
  | bad => cases h
  | err x => cases h
  | ok G =>
    unfold okG at h
    simp only [Bool.and_eq_true, decide_eq_true_eq] at h
    obtain ⟨⟨hp, h24⟩, h⟩ := h
    cases e : natTab G.length G with
    | none => rw [e] at h; cases h
    | some T =>
      rw [e] at h
      obtain ⟨h1, h2⟩ := natTab_spec e
      generalize hn : G.length = n at *
      have hTl : T.length = n := by rw [← hn, h1, List.length_map]
      have hrow : ∀ a, a < n → ∃ row, T.getD a [] = row ∧ T[a]? = some row ∧ row.length = n ∧ ∀ x ∈ row, x < n := fun a ha => by
        have hm : T[a]? = some (T[a]'(by omega)) := by rw [List.getElem?_eq_getElem (by omega)]
        exact ⟨T[a]'(by omega), by rw [List.getD_eq_getElem?_getD, hm]; rfl, hm, h2 _ (List.getElem_mem _)⟩
      have hat : ∀ a b, a < n → b < n → ∃ row, T[a]? = some row ∧ row[b]? = some (at2 T a b) ∧ at2 T a b < n := fun a b ha hb => by
        obtain ⟨row, r1, r2, r3, r4⟩ := hrow a ha
        have hm : row[b]? = some (row[b]'(by omega)) := by rw [List.getElem?_eq_getElem (by omega)]
        have e2 : at2 T a b = row[b]'(by omega) := by unfold at2; rw [r1, List.getD_eq_getElem?_getD, hm]; rfl
        rw [e2]
        exact ⟨row, r2, hm, r4 _ (List.getElem_mem _)⟩
      unfold okT at h
      simp only [Bool.and_eq_true, List.all_eq_true, List.mem_range, beq_iff_eq, List.any_eq_true] at h
      obtain ⟨k1, k2⟩ := h
      refine ⟨G, rfl, n, at2 T, ⟨by omega, fun a b ha hb => (hat a b ha hb).choose_spec.2.2, fun a ha => (k1 a ha).1.1, fun a ha => (k1 a ha).1.2, fun a ha => ?_, fun a b c ha hb hc => ?_⟩, h24, ?_⟩
      · obtain ⟨b, hb, e0⟩ := (k1 a ha).2
        exact ⟨b, hb, e0⟩
      · have k := k2 a ha b hb
        obtain ⟨ra, a1, a2, a3, a4⟩ := hrow a ha
        obtain ⟨rb, b1, b2, b3, b4⟩ := hrow b hb
        have eab : (T.getD a []).getD b 99 = at2 T a b := rfl
        rw [eab] at k
        have : at2 T (at2 T a b) c = at2 T a (at2 T b c) := by
          show (T.getD (at2 T a b) []).getD c 99 = (T.getD a []).getD ((T.getD b []).getD c 99) 99
          rw [k, b1, List.getD_eq_getElem?_getD, List.getElem?_map]
          have hm : rb[c]? = some (rb[c]'(by omega)) := by rw [List.getElem?_eq_getElem (by omega)]
          rw [hm, List.getD_eq_getElem?_getD (l := rb), hm]
          rfl
        exact this
      · rw [h1]
        apply List.ext_getElem?
        intro a
        by_cases ha : a < n
        · rw [tabOf_get ha]
          obtain ⟨row, r1, r2, r3, r4⟩ := hrow a ha
          rw [List.getElem?_map, r2]
          show some _ = some _
          congr 1
          apply List.ext_getElem?
          intro b
          by_cases hb : b < n
          · rw [rowOf_get hb]
            obtain ⟨row', q1, q2, q3⟩ := hat a b ha hb
            rw [r2] at q1
            cases q1
            rw [List.getElem?_map, q2]; rfl
          · rw [List.getElem?_eq_none (by simp; omega), List.getElem?_eq_none (by rw [rowOf_length]; omega)]
        · rw [List.getElem?_eq_none (by simp; omega), List.getElem?_eq_none (by rw [tabOf_length]; omega)]
theorem okG_noE {m : Res (List (List Int))} : okG (noE m) = okG m := by cases m <;> rfl
end My

/-! ### what the scripts draw: a row of numbers -/
namespace My
open PySem L2
theorem cell_ok (ns : List Int) {p : Int} (hp : 0 ≤ p) : ∃ c, m_cell ns p = .ok c := by
  unfold m_cell
  simp only [Res.okb]
  by_cases h : p < (ns.length : Int)
  · rw [decide_eq_true h, if_pos rfl]
    have hl : p.toNat < ns.length := by omega
    exact ⟨ns[p.toNat], at_int hp (by simp [hl])⟩
  · rw [decide_eq_false h, if_neg Bool.false_ne_true]
    obtain ⟨g, e, _⟩ := forN_inv (as := cutL ns none (some 63)) (g := (5 : Int)) (f := fun g15 a17 => (Res.bind (Res.bind (Res.bind (Res.bind (mulR g15 48271) fun x25 => (Res.bind (modR a17 1000003) fun x26 => (Res.ok (x25 + x26)))) fun x27 => Res.ok (x27 + 1)) fun x29 => modR x29 2147483647) fun a19 => (Res.ok (a19)))) (fun _ _ => True) True.intro fun i a g _ _ => by
      rw [mul_okR (by decide) (by decide), Res.ok_bind, mod_ok (by decide), Res.ok_bind, Res.ok_bind, Res.ok_bind, mod_ok (by decide), Res.ok_bind]
      exact ⟨_, rfl, True.intro⟩
    rw [e, Res.ok_bind, mul_okL (by decide) (by decide), Res.ok_bind, Res.ok_bind, mod_ok (by decide)]
    exact ⟨_, rfl⟩
theorem mix_ok (c : Int) {k : Int} (h0 : 0 ≤ k) (h1 : k ≤ 100000) : ∃ y, m_mix c k = .ok y ∧ 0 ≤ y := by
  unfold m_mix
  simp only [Res.okb]
  have hm : 0 ≤ c % 2147483629 ∧ c % 2147483629 < 2147483629 := ⟨Int.emod_nonneg _ (by decide), Int.emod_lt_of_pos _ (by decide)⟩
  rw [mod_ok (by decide), Res.ok_bind, mul_okL (by decide) (by decide), Res.ok_bind, Res.ok_bind, Res.ok_bind, pow_ok (by decide) (by decide) (by omega) (by omega), Res.ok_bind, mod_ok (by decide), Res.ok_bind]
  rw [mul_okR (by decide) (by decide), Res.ok_bind, mul_okL (by decide) (by decide), Res.ok_bind, mul_okR (by omega) (by omega), Res.ok_bind, Res.ok_bind, Res.ok_bind, mod_ok (by decide), Res.ok_bind, div_ok (by decide) (by decide)]
  exact ⟨_, rfl, Int.ediv_nonneg (Int.emod_nonneg _ (by decide)) (by decide)⟩
theorem row_ok (ns : List Int) {p : Int} (hp : 0 ≤ p) (sizes : List Int) (hl : sizes.length ≤ 100000) (hs : ∀ x ∈ sizes, 0 < x ∧ x < 2 ^ 250) :
    Ok (m_row ns p sizes) fun r => r.length = sizes.length ∧ ∀ (i : Nat) x s, r[i]? = some x → sizes[i]? = some s → 0 ≤ x ∧ x < s := by
  obtain ⟨c, ec⟩ := cell_ok ns hp
  unfold m_row
  simp only [Res.okb]
  rw [ec, show noE (Res.ok c) = .ok c from rfl, Res.ok_bind, rng_ok (by omega), Res.ok_bind, pow_ok (by decide) (by decide) (by decide) (by decide)]
  simp only [Res.okb]
  have key : ∀ (i : Nat) (a : Int) (g : List Int × Int), ((List.range sizes.length).map fun (i : Nat) => (i : Int))[i]? = some a → (g.1.length = i ∧ ∀ (j : Nat) x s, g.1[j]? = some x → sizes[j]? = some s → 0 ≤ x ∧ x < s) → ∀ y z : Int, ∀ s, sizes[i]? = some s → 0 ≤ y ∧ y < s → ((g.1 ++ [y], z).1.length = i + 1 ∧ ∀ (j : Nat) x s, (g.1 ++ [y], z).1[j]? = some x → sizes[j]? = some s → 0 ≤ x ∧ x < s) := by
    intro i a g ha ⟨hg, hq⟩ y z s hs1 hy
    refine ⟨by simp [hg], fun j x s' hx hs' => ?_⟩
    have hx : (g.1 ++ [y])[j]? = some x := hx
    rcases Nat.lt_trichotomy j i with hj | hj | hj
    · rw [List.getElem?_append_left (by omega)] at hx; exact hq j x s' hx hs'
    · subst hj
      rw [List.getElem?_append_right (by omega), hg, Nat.sub_self] at hx
      have : y = x := by simpa using hx
      rw [hs1] at hs'
      cases hs'
      rw [← this]; exact hy
    · rw [List.getElem?_eq_none (by simp; omega)] at hx; cases hx
  refine Ok.bind (Ok.forN (fun i (g : List Int × Int) => g.1.length = i ∧ ∀ (j : Nat) x s, g.1[j]? = some x → sizes[j]? = some s → 0 ≤ x ∧ x < s) ⟨rfl, fun j x s h _ => by simp at h⟩ fun i a g ha hg => ?_) (T := fun (r : List Int) => r.length = sizes.length ∧ ∀ (i : Nat) x s, r[i]? = some x → sizes[i]? = some s → 0 ≤ x ∧ x < s) fun g ⟨hg, hq⟩ => ?_
  · obtain ⟨rfl, hi⟩ := range_get ha
    have hsz : sizes[i]? = some sizes[i] := by simp [hi]
    have hsp := hs _ (List.getElem_mem hi)
    have hgl : g.1.length < sizeLine := szlt (by have := hg.1; omega)
    by_cases hc : c < 10 ^ (18 : Int).toNat
    · rw [decide_eq_true hc, if_pos rfl]
      obtain ⟨y, ey, hy⟩ := mix_ok c (k := (i : Int)) (by omega) (by omega)
      rw [ey, show noE (Res.ok y) = .ok y from rfl, Res.ok_bind, at_nat hsz, Res.ok_bind, mod_ok hsp.1, Res.ok_bind, chk_ok hgl]
      exact ⟨_, rfl, key i _ g ha hg _ _ _ hsz ⟨Int.emod_nonneg _ (by omega), Int.emod_lt_of_pos _ hsp.1⟩⟩
    · rw [decide_eq_false hc, if_neg Bool.false_ne_true]
      by_cases hq : 0 < g.2
      · rw [decide_eq_true hq, if_pos rfl, at_nat hsz, Res.ok_bind, mod_ok hsp.1, Res.ok_bind, chk_ok hgl]
        simp only [Res.okb]
        rw [div_ok hsp.1 hsp.2]
        exact ⟨_, rfl, key i _ g ha hg _ _ _ hsz ⟨Int.emod_nonneg _ (by omega), Int.emod_lt_of_pos _ hsp.1⟩⟩
      · rw [decide_eq_false hq, if_neg Bool.false_ne_true, mod_ok (by decide), Res.ok_bind]
        obtain ⟨c2, ec2⟩ := cell_ok ns (p := (p + 1 + (i : Int)) % 63) (Int.emod_nonneg _ (by decide))
        obtain ⟨y, ey, hy⟩ := mix_ok c2 (k := (i : Int)) (by omega) (by omega)
        rw [ec2, show noE (Res.ok c2) = .ok c2 from rfl, Res.ok_bind, ey, show noE (Res.ok y) = .ok y from rfl, Res.ok_bind, at_nat hsz, Res.ok_bind, mod_ok hsp.1, Res.ok_bind, chk_ok hgl]
        exact ⟨_, rfl, key i _ g ha hg _ _ _ hsz ⟨Int.emod_nonneg _ (by omega), Int.emod_lt_of_pos _ hsp.1⟩⟩
  · rw [range_len] at hg
    exact ⟨g.1, rfl, hg, hq⟩
end My

/-! ### part(table, members): the members' places -/
namespace My
open PySem L2
/-- the members with their places -/
def en : Nat → List Int → List (Int × Int)
  | _, [] => []
  | k, x :: r => (x, (k : Int)) :: en (k + 1) r
def ix (D : List Int) (v : Int) : Int := ((D.findIdx? fun b => decide (b = v)).getD 0 : Nat)
theorem en_keys : ∀ (k : Nat) (D : List Int), (en k D).map (fun kx => kx.1) = D
  | _, [] => rfl
  | k, x :: r => by rw [en, List.map_cons, en_keys (k + 1) r]
theorem en_enum : ∀ (D : List Int) (k : Nat), (((List.range D.length).map fun (i : Nat) => ((k + i : Nat) : Int)).zip D).map (fun a => (a.2, a.1)) = en k D
  | [], k => rfl
  | x :: r, k => by
    rw [List.length_cons, List.range_succ_eq_map, List.map_cons, List.map_map, List.zip_cons_cons, List.map_cons, en, ← en_enum r (k + 1)]
    have e : ((fun (i : Nat) => ((k + i : Nat) : Int)) ∘ Nat.succ) = fun (i : Nat) => ((k + 1 + i : Nat) : Int) := by
      funext i
      show ((k + (i + 1) : Nat) : Int) = _
      rw [Nat.add_assoc, Nat.add_comm 1 i]
    rw [e]
    rfl
theorem enumL_en (D : List Int) : (enumL D).map (fun a => (a.2, a.1)) = en 0 D := by
  rw [← en_enum D 0]
  unfold enumL
  have e : (fun (i : Nat) => (i : Int)) = fun (i : Nat) => ((0 + i : Nat) : Int) := by funext i; rw [Nat.zero_add]
  rw [e]
theorem en_get (x : Int) : ∀ (D : List Int) (k : Nat), dgetL (en k D) x = (D.findIdx? fun b => decide (b = x)).map fun i => ((k + i : Nat) : Int)
  | [], _ => rfl
  | y :: r, k => by
    have ih := en_get x r (k + 1)
    unfold dgetL at ih ⊢
    rw [en, List.find?_cons, List.findIdx?_cons]
    by_cases h : y = x
    · rw [decide_eq_true h]; rfl
    · rw [decide_eq_false h]
      dsimp only
      rw [if_neg Bool.false_ne_true, ih, Option.map_map]
      congr 1
      funext i
      show ((k + 1 + i : Nat) : Int) = ((k + (i + 1) : Nat) : Int)
      rw [Nat.add_assoc, Nat.add_comm 1 i]
theorem put_new {d : List (Int × Int)} {k v : Int} (h : k ∉ d.map fun kx => kx.1) : dputL d k v = d ++ [(k, v)] := by
  unfold dputL
  rw [if_neg]
  intro z
  obtain ⟨e, he, ek⟩ := List.any_eq_true.mp z
  exact h (List.mem_map.mpr ⟨e, he, of_decide_eq_true ek⟩)
theorem dputs_nodup : ∀ (ps d : List (Int × Int)), ((d ++ ps).map fun kx => kx.1).Nodup → dputs d ps = d ++ ps
  | [], d, _ => (List.append_nil d).symm
  | p :: ps, d, h => by
    have h' : ((d ++ [p] ++ ps).map fun kx => kx.1).Nodup := by rw [List.append_assoc]; exact h
    have e : dputL d p.1 p.2 = d ++ [p] := put_new fun hm => by
      rw [List.map_append, List.map_cons] at h
      exact (List.nodup_append.mp h).2.2 _ hm p.1 (.head _) rfl
    show dputs (dputL d p.1 p.2) ps = _
    rw [e, dputs_nodup ps _ h', List.append_assoc]
    rfl
theorem ix_get {D : List Int} {v : Int} (h : v ∈ D) : (D.findIdx? fun b => decide (b = v)) = some ((D.findIdx? fun b => decide (b = v)).getD 0) := by
  have hs : (D.findIdx? fun b => decide (b = v)).isSome = true := by
    rw [List.findIdx?_isSome, List.any_eq_true]
    exact ⟨v, h, decide_eq_true rfl⟩
  obtain ⟨j, hj⟩ := Option.isSome_iff_exists.mp hs
  rw [hj]; rfl
theorem dget_ix {D : List Int} {v : Int} (h : v ∈ D) : dgetL (en 0 D) v = some (ix D v) := by
  rw [en_get, ix_get h]
  unfold ix
  rw [ix_get h]
  show some (((0 + _ : Nat) : Int)) = _
  rw [Nat.zero_add]
/-- members of a table, closed under its product -/
structure Mem (n : Nat) (g : Nat → Nat → Nat) (D : List Int) : Prop where
  lt : ∀ x ∈ D, ∃ i : Nat, i < n ∧ x = i
  ne : D ≠ []
  nd : D.Nodup
  cl : ∀ i j : Nat, (i : Int) ∈ D → (j : Int) ∈ D → ((g i j : Nat) : Int) ∈ D
  sz : D.length ≤ 1000
/-- the table of the members -/
def ptab (g : Nat → Nat → Nat) (D : List Int) : List (List Int) := D.map fun x => D.map fun y => ix D (g x.toNat y.toNat : Nat)
section
variable {n : Nat} {g : Nat → Nat → Nat} {D : List Int}
theorem step_ok (m : Mem n g D) : m_step_beyond (tabOf n g) (en 0 D) = .ok none := by
  unfold m_step_beyond
  simp only [Res.okb]
  rw [en_keys, forC_all]
  · rfl
  intro x hx
  rw [forC_all]
  · rfl
  intro y hy
  obtain ⟨i, hi, rfl⟩ := m.lt x hx
  obtain ⟨j, hj, rfl⟩ := m.lt y hy
  rw [tab_at hi, Res.okb, row_at hj, Res.okb, dget_ix (m.cl i j hx hy)]
  rfl
theorem part_ok (m : Mem n g D) : m_part (tabOf n g) D = .ok (ptab g D) := by
  unfold m_part
  simp only [Res.okb]
  have e1 : mapC (enumL D) (fun a7 => Res.ok (a7.2, a7.1)) = .ok ((enumL D).map fun a => (a.2, a.1)) := mapC_ok (sz (by unfold enumL; simp; exact Nat.le_trans m.sz (by decide))) fun a _ => rfl
  rw [e1, Res.okb, Res.okb, enumL_en, dputs_nodup _ _ (by rw [List.nil_append, en_keys]; exact m.nd), List.nil_append]
  have hl : (D.length : Int) ≠ 0 := fun z => m.ne (List.length_eq_zero_iff.mp (by omega))
  rw [decide_eq_false hl, noE_of (step_ok m)]
  show Res.bind (Res.ok false) _ = _
  rw [Res.okb, if_neg Bool.false_ne_true]
  refine mapC_ok (sz (Nat.le_trans m.sz (by decide))) fun x hx => mapC_ok (sz (Nat.le_trans m.sz (by decide))) fun y hy => ?_
  obtain ⟨i, hi, rfl⟩ := m.lt x hx
  obtain ⟨j, hj, rfl⟩ := m.lt y hy
  rw [tab_at hi, Res.okb, row_at hj, Res.okb]
  unfold dgetR
  rw [dget_ix (m.cl i j hx hy)]
  rfl
end
end My

/-! ### the three rules of a table -/
namespace My
open PySem L2
/-- words in a group -/
structure Gp (α : Type) where
  m : α → α → α
  e : α
  i : α → α
  as : ∀ a b c, m (m a b) c = m a (m b c)
  u1 : ∀ a, m e a = a
  u2 : ∀ a, m a e = a
  l : ∀ a, m (i a) a = e
  r : ∀ a, m a (i a) = e
section
variable {α : Type} (G : Gp α)
theorem Gp.l2 (a b : α) : G.m (G.i a) (G.m a b) = b := by rw [← G.as, G.l, G.u1]
theorem Gp.r2 (a b : α) : G.m a (G.m (G.i a) b) = b := by rw [← G.as, G.r, G.u1]
theorem Gp.uniq {a b : α} (h : G.m a b = G.e) : b = G.i a := by rw [← G.l2 a b, h, G.u2]
theorem Gp.ii (a : α) : G.i (G.i a) = a := (G.uniq (G.l a)).symm
theorem Gp.im (a b : α) : G.i (G.m a b) = G.m (G.i b) (G.i a) := (G.uniq (by rw [G.as, G.r2, G.r])).symm
theorem Gp.cjd (a b c : α) : G.m (G.m (G.i c) (G.m (G.m (G.i b) a) b)) c = G.m (G.m (G.i (G.m (G.m (G.i c) b) c)) (G.m (G.m (G.i c) a) c)) (G.m (G.m (G.i c) b) c) := by
  simp only [G.as, G.im, G.ii, G.r2, G.l2]
theorem Gp.cji {a a' b : α} (h : G.m (G.m (G.i b) a) b = G.m (G.m (G.i b) a') b) : a = a' := by
  have := congrArg (fun x => G.m b (G.m x (G.i b))) h
  simpa only [G.as, G.r, G.r2, G.u2] using this
theorem Gp.cod (a b c : α) : G.m (G.m c (G.i (G.m (G.m b (G.i a)) b))) c = G.m (G.m (G.m (G.m c (G.i b)) c) (G.i (G.m (G.m c (G.i a)) c))) (G.m (G.m c (G.i b)) c) := by
  simp only [G.as, G.im, G.ii, G.r2, G.l2]
theorem Gp.coi {a a' b : α} (h : G.m (G.m b (G.i a)) b = G.m (G.m b (G.i a')) b) : a = a' := by
  have := congrArg (fun x => G.i (G.m (G.i b) (G.m x (G.i b)))) h
  simpa only [G.as, G.r, G.l2, G.u2, G.ii] using this
end
/-- the group that a table is -/
def gpOf {n : Nat} {f : Nat → Nat → Nat} {iv : Nat → Nat} (F : GrpF n f) (hv : ∀ a, a < n → iv a < n ∧ f a (iv a) = 0 ∧ f (iv a) a = 0) : Gp (Fin n) where
  m := fun a b => ⟨f a b, F.lt _ _ a.2 b.2⟩
  e := ⟨0, F.pos⟩
  i := fun a => ⟨iv a, (hv a a.2).1⟩
  as := fun a b c => Fin.ext (F.as a b c a.2 b.2 c.2)
  u1 := fun a => Fin.ext (F.u1 a a.2)
  u2 := fun a => Fin.ext (F.u2 a a.2)
  l := fun a => Fin.ext (hv a a.2).2.2
  r := fun a => Fin.ext (hv a a.2).2.1
structure TF (n : Nat) (g : Nat → Nat → Nat) : Prop where
  lt : ∀ a b, a < n → b < n → g a b < n
  id : ∀ b, b < n → g b b = b
  inj : ∀ a a' b, a < n → a' < n → b < n → g a b = g a' b → a = a'
  di : ∀ a b c, a < n → b < n → c < n → g (g a b) c = g (g a c) (g b c)
section
variable {n : Nat} {f g : Nat → Nat → Nat} {iv : Nat → Nat}
theorem conj_tf (F : GrpF n f) (hv : ∀ a, a < n → iv a < n ∧ f a (iv a) = 0 ∧ f (iv a) a = 0) : TF n fun a b => f (f (iv b) a) b where
  lt := fun a b ha hb => F.lt _ _ (F.lt _ _ (hv b hb).1 ha) hb
  id := fun b hb => by rw [(hv b hb).2.2, F.u1 b hb]
  inj := fun a a' b ha ha' hb h => Fin.mk.inj ((gpOf F hv).cji (a := ⟨a, ha⟩) (a' := ⟨a', ha'⟩) (b := ⟨b, hb⟩) (Fin.ext h))
  di := fun a b c ha hb hc => Fin.mk.inj ((gpOf F hv).cjd ⟨a, ha⟩ ⟨b, hb⟩ ⟨c, hc⟩)
theorem core_tf (F : GrpF n f) (hv : ∀ a, a < n → iv a < n ∧ f a (iv a) = 0 ∧ f (iv a) a = 0) : TF n fun a b => f (f b (iv a)) b where
  lt := fun a b ha hb => F.lt _ _ (F.lt _ _ hb (hv a ha).1) hb
  id := fun b hb => by rw [(hv b hb).2.1, F.u1 b hb]
  inj := fun a a' b ha ha' hb h => Fin.mk.inj ((gpOf F hv).coi (a := ⟨a, ha⟩) (a' := ⟨a', ha'⟩) (b := ⟨b, hb⟩) (Fin.ext h))
  di := fun a b c ha hb hc => Fin.mk.inj ((gpOf F hv).cod ⟨a, ha⟩ ⟨b, hb⟩ ⟨c, hc⟩)
theorem nodupMap {α β : Type} {f : α → β} : ∀ {l : List α}, (∀ a b, a ∈ l → b ∈ l → f a = f b → a = b) → l.Nodup → (l.map f).Nodup
  | [], _, _ => List.nodup_nil
  | x :: l, h, hn => by
    have h2 := List.nodup_cons.mp hn
    refine List.nodup_cons.mpr ⟨fun hm => ?_, nodupMap (fun a b ha hb => h a b (.tail _ ha) (.tail _ hb)) h2.2⟩
    obtain ⟨y, hy, e⟩ := List.mem_map.mp hm
    exact h2.1 ((h y x (.tail _ hy) (.head _) e) ▸ hy)
theorem sub_len {α : Type} [DecidableEq α] : ∀ {l m : List α}, l.Nodup → (∀ x ∈ l, x ∈ m) → l.length ≤ m.length
  | [], m, _, _ => Nat.zero_le _
  | x :: l, m, h, hs => by
    have hx := hs x (.head _)
    have h2 := List.nodup_cons.mp h
    have := sub_len (l := l) (m := m.erase x) h2.2 fun y hy => (List.mem_erase_of_ne fun e => h2.1 (by rw [← e]; exact hy)).mpr (hs y (.tail _ hy))
    rw [List.length_erase_of_mem hx] at this
    have := List.length_pos_of_mem hx
    rw [List.length_cons]
    omega
theorem perm_of_inj {l : List Int} (h : l.Nodup) (hl : l.length = n) (hr : ∀ x ∈ l, ∃ i : Nat, i < n ∧ x = i) : l.Perm ((List.range n).map fun (i : Nat) => (i : Int)) := by
  have hnd : ((List.range n).map fun (i : Nat) => (i : Int)).Nodup := List.Pairwise.map _ (fun a b h e => h (Int.ofNat.inj e)) List.nodup_range
  have hs : ∀ x ∈ l, x ∈ (List.range n).map fun (i : Nat) => (i : Int) := fun x hx => by
    obtain ⟨i, hi, rfl⟩ := hr x hx
    exact List.mem_map.mpr ⟨i, List.mem_range.mpr hi, rfl⟩
  refine (List.perm_ext_iff_of_nodup h hnd).mpr fun x => ⟨hs x, fun hx => ?_⟩
  by_cases hm : x ∈ l
  · exact hm
  · have := sub_len (l := x :: l) (m := (List.range n).map fun (i : Nat) => (i : Int)) (List.nodup_cons.mpr ⟨hm, h⟩) fun y hy => by
      rcases List.mem_cons.mp hy with z | z
      · rw [z]; exact hx
      · exact hs y z
    rw [List.length_cons, hl, List.length_map, List.length_range] at this
    exact absurd this (Nat.not_succ_le_self n)
theorem range_rise (n : Nat) : ((List.range n).map fun (i : Nat) => (i : Int)).Pairwise (· ≤ ·) := List.Pairwise.map _ (fun a b h => Int.ofNat_le.mpr (Nat.le_of_lt h)) List.pairwise_lt_range
theorem rangeI_nat (n : Nat) : rangeI 0 (n : Int) = (List.range n).map fun (i : Nat) => (i : Int) := by
  unfold rangeI
  rw [show ((n : Int) - 0).toNat = n by omega]
  exact List.map_congr_left fun i _ => Int.zero_add _
theorem tab_row {row : List Int} (h : row ∈ tabOf n g) : ∃ a, a < n ∧ row = rowOf n g a := by
  unfold tabOf at h
  obtain ⟨a, ha, rfl⟩ := List.mem_map.mp h
  exact ⟨a, List.mem_range.mp ha, rfl⟩
theorem row_in {a : Nat} {x : Int} (h : x ∈ rowOf n g a) : ∃ b, b < n ∧ x = (g a b : Nat) := by
  unfold rowOf at h
  obtain ⟨b, hb, rfl⟩ := List.mem_map.mp h
  exact ⟨b, List.mem_range.mp hb, rfl⟩
theorem square_ok (h24 : n ≤ 24) (hlt : ∀ a b, a < n → b < n → g a b < n) : m_square (tabOf n g) = .ok true := by
  unfold m_square
  simp only [Res.okb]
  rw [tabOf_length, decide_eq_false (show ¬ (24 : Int) < (n : Int) by omega), show orR (Res.ok (!true)) (Res.ok false) = .ok false from rfl, Res.okb, if_neg Bool.false_ne_true, forC_all]
  · rfl
  intro row hr
  obtain ⟨a, ha, rfl⟩ := tab_row hr
  rw [rowOf_length, decide_eq_true rfl, show orR (Res.ok (!true)) (Res.ok (!true)) = .ok false from rfl, Res.okb, if_neg Bool.false_ne_true, forC_all]
  · rfl
  intro x hx
  obtain ⟨b, hb, rfl⟩ := row_in hx
  rw [decide_eq_true (Int.natCast_nonneg _), if_pos rfl, decide_eq_true (Int.ofNat_lt.mpr (hlt a b ha hb))]
  rfl
theorem group_fine_ok (h24 : n ≤ 24) (F : GrpF n f) : m_group_fine (tabOf n f) = .ok true := by
  unfold m_group_fine
  simp only [Res.okb]
  rw [tabOf_length, rng_ok (by omega), Res.okb, forC_all]
  · rfl
  intro x hx
  obtain ⟨a, ha, rfl⟩ := range_mem hx
  have h0 : atR (tabOf n f) 0 = .ok (rowOf n f 0) := tab_at F.pos
  have h1 : atR (rowOf n f a) 0 = .ok ((f a 0 : Nat) : Int) := row_at F.pos
  have hm : (0 : Int) ∈ rowOf n f a := by
    obtain ⟨b, hb, e⟩ := F.iv a ha
    have := List.mem_of_getElem? (rowOf_get (f := f) (a := a) hb)
    rw [e] at this
    exact this
  rw [h0, Res.okb, row_at ha, Res.okb, F.u1 a ha, decide_eq_true rfl, tab_at ha, Res.okb, h1, Res.okb, F.u2 a ha, decide_eq_true rfl, Res.okb, decide_eq_true hm]
  rw [show orR (Res.ok (!true)) (orR (Res.ok (!true)) (Res.ok (!true))) = .ok false from rfl, Res.okb, if_neg Bool.false_ne_true, Res.okb, forC_all]
  · rfl
  intro y hy
  obtain ⟨b, hb, rfl⟩ := range_mem hy
  rw [Res.okb, forC_all]
  · rfl
  intro z hz
  obtain ⟨c, hc, rfl⟩ := range_mem hz
  simp only [Res.okb, row_at hb, tab_at (F.lt a b ha hb), row_at hc, tab_at hb, row_at (F.lt b c hb hc), F.as a b c ha hb hc]
  rfl
theorem table_fine_ok (h24 : n ≤ 24) (T : TF n g) : m_table_fine (tabOf n g) = .ok true := by
  unfold m_table_fine
  simp only [Res.okb]
  rw [tabOf_length, rng_ok (by omega), Res.okb, forC_all]
  · rfl
  intro x hx
  obtain ⟨b, hb, rfl⟩ := range_mem hx
  have ec : mapC (tabOf n g) (fun a19 => atR a19 (b : Int)) = .ok ((List.range n).map fun a => ((g a b : Nat) : Int)) := by
    unfold mapC
    rw [chk_ok (sz (by rw [tabOf_length]; omega))]
    unfold tabOf
    have : ∀ l : List Nat, mapR (l.map (rowOf n g)) (fun a19 => atR a19 (b : Int)) = .ok (l.map fun a => ((g a b : Nat) : Int)) := by
      intro l
      induction l with
      | nil => rfl
      | cons a l ih =>
        show (atR (rowOf n g a) (b : Int)).bind _ = _
        rw [row_at hb, Res.okb, ih]
        rfl
    exact this _
  have es : sortI ((List.range n).map fun a => ((g a b : Nat) : Int)) = rangeI 0 (n : Int) := by
    rw [rangeI_nat]
    refine (sortI_of (List.Perm.symm (perm_of_inj ?_ (by simp) fun x hx => ?_)) (range_rise n)).symm
    · refine nodupMap (fun a a' ha ha' e => ?_) List.nodup_range
      exact T.inj a a' b (List.mem_range.mp ha) (List.mem_range.mp ha') hb (Int.ofNat.inj e)
    · obtain ⟨a, ha, rfl⟩ := List.mem_map.mp hx
      exact ⟨_, T.lt a b (List.mem_range.mp ha) hb, rfl⟩
  rw [tab_at hb, Res.okb, row_at hb, Res.okb, T.id b hb, decide_eq_true rfl, ec, Res.okb, chk_ok (by simp; omega), Res.okb, es, chk_ok (by omega), Res.okb, decide_eq_true rfl]
  rw [show orR (Res.ok (!true)) (Res.ok (!true)) = .ok false from rfl, Res.okb, if_neg Bool.false_ne_true, Res.okb, forC_all]
  · rfl
  intro y hy
  obtain ⟨a, ha, rfl⟩ := range_mem hy
  rw [Res.okb, forC_all]
  · rfl
  intro z hz
  obtain ⟨c, hc, rfl⟩ := range_mem hz
  simp only [Res.okb, tab_at ha, row_at hb, tab_at (T.lt a b ha hb), row_at hc, tab_at (T.lt a c ha hc), row_at (T.lt b c hb hc), T.di a b c ha hb hc]
  rfl
/-- the members' table keeps the rules -/
theorem sub_tf (T : TF n g) {D : List Int} (m : Mem n g D) : ∃ h, ptab g D = tabOf D.length h ∧ TF D.length h := by
  let d : Nat → Nat := fun i => (D.getD i 0).toNat
  have hd : ∀ i, i < D.length → D[i]? = some ((d i : Nat) : Int) ∧ d i < n ∧ ((d i : Nat) : Int) ∈ D := fun i hi => by
    have h1 : D[i]? = some D[i] := List.getElem?_eq_getElem hi
    obtain ⟨k, hk, e⟩ := m.lt _ (List.getElem_mem hi)
    have e2 : d i = k := by show (D.getD i 0).toNat = k; rw [List.getD_eq_getElem?_getD, h1]; show (D[i]).toNat = k; rw [e]; rfl
    rw [e2]
    exact ⟨by rw [h1, e], hk, by rw [← e]; exact List.getElem_mem hi⟩
  have hinj : ∀ i j, i < D.length → j < D.length → d i = d j → i = j := fun i j hi hj e => by
    have h1 := (hd i hi).1
    have h2 := (hd j hj).1
    rw [← e, ← h1] at h2
    exact ((List.getElem?_inj hi m.nd).mp h2.symm)
  let h : Nat → Nat → Nat := fun i j => (D.findIdx? fun b => decide (b = ((g (d i) (d j) : Nat) : Int))).getD 0
  have hh : ∀ i j, i < D.length → j < D.length → h i j < D.length ∧ d (h i j) = g (d i) (d j) := fun i j hi hj => by
    have hm := m.cl (d i) (d j) (hd i hi).2.2 (hd j hj).2.2
    have e := ix_get hm
    obtain ⟨h1, h2, _⟩ := List.findIdx?_eq_some_iff_getElem.mp e
    refine ⟨h1, ?_⟩
    have h3 := (hd _ h1).1
    rw [List.getElem?_eq_getElem h1, of_decide_eq_true h2] at h3
    exact (Int.ofNat.inj (Option.some.inj h3)).symm
  refine ⟨h, ?_, ⟨fun a b ha hb => (hh a b ha hb).1, fun b hb => ?_, fun a a' b ha ha' hb e => ?_, fun a b c ha hb hc => ?_⟩⟩
  · unfold ptab
    apply List.ext_getElem?
    intro i
    by_cases hi : i < D.length
    · rw [tabOf_get hi, List.getElem?_map, (hd i hi).1]
      show some _ = some _
      congr 1
      apply List.ext_getElem?
      intro j
      by_cases hj : j < D.length
      · rw [rowOf_get hj, List.getElem?_map, (hd j hj).1]
        rfl
      · rw [List.getElem?_eq_none (by simp; omega), List.getElem?_eq_none (by rw [rowOf_length]; omega)]
    · rw [List.getElem?_eq_none (by simp; omega), List.getElem?_eq_none (by rw [tabOf_length]; omega)]
  · exact hinj _ _ (hh b b hb hb).1 hb (by rw [(hh b b hb hb).2, T.id _ (hd b hb).2.1])
  · refine hinj _ _ ha ha' (T.inj _ _ (d b) (hd a ha).2.1 (hd a' ha').2.1 (hd b hb).2.1 ?_)
    rw [← (hh a b ha hb).2, ← (hh a' b ha' hb).2, e]
  · have h1 := hh a b ha hb
    have h2 := hh a c ha hc
    have h3 := hh b c hb hc
    refine hinj _ _ (hh _ _ h1.1 hc).1 (hh _ _ h2.1 h3.1).1 ?_
    rw [(hh _ _ h1.1 hc).2, h1.2, (hh _ _ h2.1 h3.1).2, h2.2, h3.2]
    exact T.di _ _ _ (hd a ha).2.1 (hd b hb).2.1 (hd c hc).2.1
end
end My

/-! ### conjugates -/
namespace My
open PySem L2
theorem idx_row {n : Nat} {f : Nat → Nat → Nat} {a v : Nat} (h : ∃ b, b < n ∧ f a b = v) : ∃ j : Nat, j < n ∧ f a j = v ∧ idxR (rowOf n f a) (v : Int) = .ok (j : Int) := by
  obtain ⟨b, hb, e⟩ := h
  have hs : ((rowOf n f a).findIdx? fun x => decide (x = (v : Int))).isSome = true := by
    rw [List.findIdx?_isSome, List.any_eq_true]
    exact ⟨(f a b : Int), List.mem_of_getElem? (rowOf_get hb), by rw [e]; simp⟩
  obtain ⟨j, hj⟩ := Option.isSome_iff_exists.mp hs
  have hj' := hj
  rw [List.findIdx?_eq_some_iff_getElem] at hj
  obtain ⟨h1, h2, _⟩ := hj
  have hjn : j < n := by rwa [rowOf_length] at h1
  have h3 : (rowOf n f a)[j] = (v : Int) := by simpa using h2
  have h4 := rowOf_get (f := f) (a := a) hjn
  rw [List.getElem?_eq_getElem h1, h3] at h4
  have := Option.some.inj h4
  exact ⟨j, hjn, by omega, by unfold idxR; rw [hj']⟩
/-- the way back of each number -/
theorem back_ex {n : Nat} {f : Nat → Nat → Nat} (F : GrpF n f) : ∃ iv : Nat → Nat, ∀ a, a < n → iv a < n ∧ f a (iv a) = 0 ∧ f (iv a) a = 0 ∧ idxR (rowOf n f a) 0 = .ok (iv a : Int) := by
  refine ⟨fun a => if h : a < n then Classical.choose (idx_row (F.iv a h)) else 0, fun a ha => ?_⟩
  simp only [dif_pos ha]
  obtain ⟨h1, h2, h3⟩ := Classical.choose_spec (idx_row (F.iv a ha))
  exact ⟨h1, h2, F.left ha h1 h2, h3⟩
section
variable {n : Nat} {f : Nat → Nat → Nat} {iv : Nat → Nat}
theorem mapC_range {β : Type} {g : Int → Res β} {h : Nat → β} (hn : n ≤ 1000) (hg : ∀ i, i < n → g (i : Int) = .ok (h i)) : mapC ((List.range n).map fun (i : Nat) => (i : Int)) g = .ok ((List.range n).map h) := by
  rw [mapC_ok (h := fun x => h x.toNat) (sz (by simp; omega)) fun a ha => ?_]
  · rw [List.map_map]; rfl
  · obtain ⟨i, hi, rfl⟩ := range_mem ha
    exact hg i hi
theorem inverse_ok (F : GrpF n f) (hv : ∀ a, a < n → iv a < n ∧ f a (iv a) = 0 ∧ f (iv a) a = 0 ∧ idxR (rowOf n f a) 0 = .ok (iv a : Int)) {a : Nat} (ha : a < n) : m_inverse (tabOf n f) (a : Int) = .ok (iv a : Int) := by
  unfold m_inverse
  simp only [Res.okb]
  rw [tab_at ha, Res.okb]
  exact (hv a ha).2.2.2
theorem conjugate_ok (F : GrpF n f) (hv : ∀ a, a < n → iv a < n ∧ f a (iv a) = 0 ∧ f (iv a) a = 0 ∧ idxR (rowOf n f a) 0 = .ok (iv a : Int)) {a b : Nat} (ha : a < n) (hb : b < n) : m_conjugate (tabOf n f) (a : Int) (b : Int) = .ok ((f (f (iv b) a) b : Nat) : Int) := by
  unfold m_conjugate
  simp only [Res.okb]
  obtain ⟨h1, _⟩ := hv b hb
  rw [inverse_ok F hv hb, show noE (Res.ok (iv b : Int)) = .ok (iv b : Int) from rfl, Res.okb, tab_at h1, Res.okb, row_at ha, Res.okb, tab_at (F.lt _ _ h1 ha), Res.okb, row_at hb]
theorem conjugates_ok (h24 : n ≤ 24) (F : GrpF n f) (hv : ∀ a, a < n → iv a < n ∧ f a (iv a) = 0 ∧ f (iv a) a = 0 ∧ idxR (rowOf n f a) 0 = .ok (iv a : Int)) : m_conjugates (tabOf n f) = .ok (tabOf n fun a b => f (f (iv b) a) b) := by
  unfold m_conjugates
  simp only [Res.okb]
  rw [tabOf_length, rng_ok (by omega), Res.okb]
  refine mapC_range (by omega) fun a ha => ?_
  rw [Res.okb]
  exact mapC_range (by omega) fun b hb => noE_of (conjugate_ok F hv ha hb)
/-- what a's conjugates are -/
def cs (n : Nat) (f : Nat → Nat → Nat) (iv : Nat → Nat) (a : Nat) : List Int := (List.range n).map fun b => ((f (f (iv b) a) b : Nat) : Int)
theorem cs_length {a : Nat} : (cs n f iv a).length = n := by unfold cs; simp
theorem dd_mem (x : Int) : ∀ (l acc : List Int), x ∈ l.foldl PyProof.Rows.step_dedup acc ↔ x ∈ acc ∨ x ∈ l
  | [], acc => by simp
  | y :: l, acc => by
    rw [List.foldl_cons, dd_mem x l]
    unfold PyProof.Rows.step_dedup
    by_cases h : acc.any (· == y) = true
    · rw [if_pos h]
      obtain ⟨z, hz, e⟩ := List.any_eq_true.mp h
      rw [beq_iff_eq] at e
      subst e
      simp only [List.mem_cons]
      constructor
      · rintro (q | q)
        · exact .inl q
        · exact .inr (.inr q)
      · rintro (q | q | q)
        · exact .inl q
        · rw [q]; exact .inl hz
        · exact .inr q
    · rw [if_neg h]
      simp only [List.mem_append, List.mem_cons, List.not_mem_nil, or_false]
      constructor
      · rintro ((q | q) | q)
        · exact .inl q
        · exact .inr (.inl q)
        · exact .inr (.inr q)
      · rintro (q | q | q)
        · exact .inl (.inl q)
        · exact .inl (.inr q)
        · exact .inr q
theorem dd_nodup : ∀ (l acc : List Int), acc.Nodup → (l.foldl PyProof.Rows.step_dedup acc).Nodup
  | [], acc, h => h
  | y :: l, acc, h => by
    rw [List.foldl_cons]
    refine dd_nodup l _ ?_
    unfold PyProof.Rows.step_dedup
    by_cases z : acc.any (· == y) = true
    · rw [if_pos z]; exact h
    · rw [if_neg z]
      refine List.nodup_append.mpr ⟨h, by simp, fun u hu v hv e => z (List.any_eq_true.mpr ⟨u, hu, ?_⟩)⟩
      rw [e, List.mem_singleton.mp hv]; exact beq_self_eq_true y
theorem conj_conj (F : GrpF n f) (hv : ∀ a, a < n → iv a < n ∧ f a (iv a) = 0 ∧ f (iv a) a = 0 ∧ idxR (rowOf n f a) 0 = .ok (iv a : Int)) {a b j : Nat} (ha : a < n) (hb : b < n) (hj : j < n) : f (f (iv j) (f (f (iv b) a) b)) j = f (f (iv (f b j)) a) (f b j) := by
  obtain ⟨b1, b2, _⟩ := hv b hb
  obtain ⟨j1, j2, _⟩ := hv j hj
  have hbj := F.lt b j hb hj
  obtain ⟨c1, c2, _⟩ := hv _ hbj
  have h1 := F.lt _ _ j1 b1
  have e : iv (f b j) = f (iv j) (iv b) := by
    refine F.cancel hbj c1 h1 ?_
    rw [c2, F.as b j _ hb hj h1, ← F.as j (iv j) (iv b) hj j1 b1, j2, F.u1 _ b1, b2]
  have h2 := F.lt _ _ b1 ha
  rw [e, ← F.as _ b j (F.lt _ _ h1 ha) hb hj, F.as (iv j) (iv b) a j1 b1 ha, F.as (iv j) (f (iv b) a) b j1 h2 hb]
theorem class_mem (h24 : n ≤ 24) (F : GrpF n f) (hv : ∀ a, a < n → iv a < n ∧ f a (iv a) = 0 ∧ f (iv a) a = 0 ∧ idxR (rowOf n f a) 0 = .ok (iv a : Int)) {a : Nat} (ha : a < n) : Mem n (fun a b => f (f (iv b) a) b) (sortI (dd (cs n f iv a))) := by
  have hm : ∀ x, x ∈ sortI (dd (cs n f iv a)) ↔ ∃ b, b < n ∧ x = ((f (f (iv b) a) b : Nat) : Int) := fun x => by
    rw [(sortI_perm _).mem_iff]
    unfold dd
    rw [dd_mem]
    unfold cs
    simp only [List.not_mem_nil, false_or, List.mem_map, List.mem_range]
    exact ⟨fun ⟨b, h1, h2⟩ => ⟨b, h1, h2.symm⟩, fun ⟨b, h1, h2⟩ => ⟨b, h1, h2.symm⟩⟩
  refine ⟨fun x hx => ?_, fun z => ?_, (sortI_perm _).nodup_iff.mpr (dd_nodup _ _ List.nodup_nil), fun i j hi hj => ?_, ?_⟩
  · obtain ⟨b, hb, e⟩ := (hm x).mp hx
    exact ⟨_, F.lt _ _ (F.lt _ _ (hv b hb).1 ha) hb, e⟩
  · have := (hm _).mpr ⟨0, F.pos, rfl⟩
    rw [z] at this
    cases this
  · obtain ⟨b, hb, e⟩ := (hm _).mp hi
    obtain ⟨b', hb', e'⟩ := (hm _).mp hj
    have hj' : j < n := by
      have := F.lt _ _ (F.lt _ _ (hv b' hb').1 ha) hb'
      omega
    have e2 : i = f (f (iv b) a) b := by omega
    subst e2
    exact (hm _).mpr ⟨f b j, F.lt b j hb hj', by rw [conj_conj F hv ha hb hj']⟩
  · rw [(sortI_perm _).length_eq]
    refine Nat.le_trans (dd_length _) ?_
    rw [cs_length]; omega
theorem class_of_ok (h24 : n ≤ 24) (F : GrpF n f) (hv : ∀ a, a < n → iv a < n ∧ f a (iv a) = 0 ∧ f (iv a) a = 0 ∧ idxR (rowOf n f a) 0 = .ok (iv a : Int)) {a : Nat} (ha : a < n) : m_class_of (tabOf n f) (a : Int) = .ok (sortI (dd (cs n f iv a))) := by
  unfold m_class_of
  simp only [Res.okb]
  rw [tabOf_length, rng_ok (by omega), Res.okb, mapC_range (by omega) fun b hb => noE_of (conjugate_ok F hv ha hb), Res.okb]
  show chk ((cs n f iv a).length < 64) (Res.ok (sortI (dd (cs n f iv a)))) = _
  rw [cs_length, chk_ok (by omega)]
theorem class_table_ok (h24 : n ≤ 24) (F : GrpF n f) (hv : ∀ a, a < n → iv a < n ∧ f a (iv a) = 0 ∧ f (iv a) a = 0 ∧ idxR (rowOf n f a) 0 = .ok (iv a : Int)) {a : Nat} (ha : a < n) : m_class_table (tabOf n f) (a : Int) = .ok (ptab (fun a b => f (f (iv b) a) b) (sortI (dd (cs n f iv a)))) := by
  unfold m_class_table
  simp only [Res.okb]
  rw [noE_of (conjugates_ok h24 F hv), Res.okb, noE_of (class_of_ok h24 F hv ha), Res.okb]
  exact noE_of (part_ok (class_mem h24 F hv ha))
end
end My

/-! ### the groups that are asked for -/
namespace My
open PySem L2
set_option maxHeartbeats 0
def isT : Res Bool → Bool
  | .ok true => true
  | _ => false
theorem isT_ok {m : Res Bool} (h : isT m = true) : m = .ok true := by
  cases m with
  | ok b => cases b with
    | true => rfl
    | false => cases h
  | bad => cases h
  | err x => cases h
theorem g_cycle : ∀ a ∈ ([1, 2, 3, 4, 5, 6, 7, 8, 9, 10, 11, 12] : List Int), okG (m_cycle a) = true := by decide +kernel
theorem g_orders : ∀ a ∈ ([1, 2, 3, 4] : List Int), okG (m_orders a) = true := by decide +kernel
theorem g_both1 : ∀ a ∈ ([1, 2, 3, 4] : List Int), ∀ b ∈ ([1, 2, 3] : List Int), okG ((noE (m_cycle a)).bind fun x => (noE (m_orders b)).bind fun y => noE (m_both x y)) = true := by decide +kernel
theorem g_both2 : ∀ a ∈ ([1, 2, 3, 4] : List Int), ∀ b ∈ ([1, 2, 3] : List Int), okG ((noE (m_cycle a)).bind fun x => (noE (m_orders b)).bind fun y => noE (m_both y x)) = true := by decide +kernel
/-- what the law asks of the rests alone -/
def tail36 (a67 : Int) : Res Bool := (((noE (m_cycle a67)).bind fun x76 => noE (m_conjugates x76)).bind fun x87 => ((rngR 0 a67).bind fun x81 => mapC x81 fun a79 => (chk (([a79] : List Int).length ≤ sizeLine) (Res.ok [a79])).bind fun x82 => repR x82 a67).bind fun x88 => Res.ok !decide (x87 = x88)).bind fun x89 =>
  if x89 = true then Res.ok false else ((noE (m_cycle a67)).bind fun x93 => noE (m_cores x93)).bind fun x96 => (noE (m_turns a67)).bind fun x97 => Res.ok (decide (x96 = x97))
theorem g_tail : ∀ a ∈ ([1, 2, 3, 4, 5, 6, 7, 8, 9, 10, 11, 12] : List Int), isT (tail36 a) = true := by decide +kernel
section
variable {n : Nat} {f : Nat → Nat → Nat} {iv : Nat → Nat}
theorem cores_ok (h24 : n ≤ 24) (F : GrpF n f) (hv : ∀ a, a < n → iv a < n ∧ f a (iv a) = 0 ∧ f (iv a) a = 0 ∧ idxR (rowOf n f a) 0 = .ok (iv a : Int)) : m_cores (tabOf n f) = .ok (tabOf n fun a b => f (f b (iv a)) b) := by
  unfold m_cores
  simp only [Res.okb]
  rw [tabOf_length, rng_ok (by omega), Res.okb]
  refine mapC_range (by omega) fun a ha => ?_
  rw [Res.okb]
  refine mapC_range (by omega) fun b hb => noE_of ?_
  unfold m_core
  simp only [Res.okb]
  obtain ⟨h1, _⟩ := hv a ha
  rw [inverse_ok F hv ha, show noE (Res.ok (iv a : Int)) = .ok (iv a : Int) from rfl, tab_at hb, Res.okb, Res.okb, row_at h1, Res.okb, tab_at (F.lt _ _ hb h1), Res.okb, row_at hb]
end
theorem asked_ok {r : List Int} {s0 s1 s2 s3 : Int} (e0 : atR r 0 = .ok s0) (e1 : atR r 1 = .ok s1) (e2 : atR r 2 = .ok s2) (e3 : atR r 3 = .ok s3) (b0 : 0 ≤ s0 ∧ s0 < 3) (b1 : 0 ≤ s1 ∧ s1 < 12) (b2 : 0 ≤ s2 ∧ s2 < 8) (b3 : 0 ≤ s3 ∧ s3 < 3) : okG (m_asked r) = true := by
  unfold m_asked
  simp only [Res.okb, e0, e1, e2, e3]
  have m3 : modR s1 3 = .ok (s1 % 3) := mod_ok (by decide)
  have m4 : modR s1 4 = .ok (s1 % 4) := mod_ok (by decide)
  have m2 : modR s2 2 = .ok (s2 % 2) := mod_ok (by decide)
  have k3 : modR s3 3 = .ok (s3 % 3) := mod_ok (by decide)
  have t4 : 1 + s1 % 4 ∈ ([1, 2, 3, 4] : List Int) := by
    have : 1 + s1 % 4 = 1 ∨ 1 + s1 % 4 = 2 ∨ 1 + s1 % 4 = 3 ∨ 1 + s1 % 4 = 4 := by omega
    rcases this with h | h | h | h <;> rw [h] <;> simp
  have t3 : 1 + s3 % 3 ∈ ([1, 2, 3] : List Int) := by
    have : 1 + s3 % 3 = 1 ∨ 1 + s3 % 3 = 2 ∨ 1 + s3 % 3 = 3 := by omega
    rcases this with h | h | h <;> rw [h] <;> simp
  have u3 : 1 + s1 % 3 ∈ ([1, 2, 3, 4] : List Int) := by
    have : 1 + s1 % 3 = 1 ∨ 1 + s1 % 3 = 2 ∨ 1 + s1 % 3 = 3 := by omega
    rcases this with h | h | h <;> rw [h] <;> simp
  by_cases h0 : s0 = 0
  · rw [decide_eq_true h0, if_pos rfl, okG_noE]
    refine g_cycle _ ?_
    simp only [List.mem_cons, List.not_mem_nil, or_false]
    omega
  · rw [decide_eq_false h0, if_neg Bool.false_ne_true]
    by_cases h1 : s0 = 1
    · rw [decide_eq_true h1]
      by_cases h2 : s2 = 0
      · rw [decide_eq_true h2, show andR (Res.ok true) (Res.ok true) = .ok true from rfl, Res.okb, if_pos rfl, okG_noE]
        exact g_orders 4 (by simp)
      · rw [decide_eq_false h2, show andR (Res.ok true) (Res.ok false) = .ok false from rfl, Res.okb, if_neg Bool.false_ne_true, if_pos rfl, m3]
        simp only [Res.okb]
        rw [okG_noE]
        exact g_orders _ u3
    · rw [decide_eq_false h1, show ∀ b, andR (Res.ok false) b = .ok false from fun _ => rfl, Res.okb, if_neg Bool.false_ne_true, if_neg Bool.false_ne_true, m4]
      simp only [Res.okb, m2, k3]
      by_cases h2 : s2 % 2 = 0
      · rw [decide_eq_true h2]
        simp only [if_true]
        exact g_both1 _ t4 _ t3
      · rw [decide_eq_false h2]
        simp only [Bool.false_eq_true, if_false]
        exact g_both2 _ t4 _ t3
theorem law_true (ns : List Int) (_ : ns.length ≤ 63) : m_law ns = .ok true := by
  unfold m_law
  simp only [Res.okb]
  rw [chk_ok (sz (by simp)), Res.okb]
  apply Ok.eq
  refine Ok.bind (Ok.noE (row_ok ns (Int.le_refl 0) _ (by simp) fun x hx => ?_)) fun r hr => ?_
  · have : x = 3 ∨ x = 12 ∨ x = 8 ∨ x = 24 := by
      simp only [List.mem_cons, List.not_mem_nil, or_false] at hx
      omega
    rcases this with rfl | rfl | rfl | rfl <;> exact ⟨by decide, by decide⟩
  obtain ⟨hl, hq⟩ := hr
  have hl' : r.length = 5 := by rw [hl]; rfl
  have get : ∀ i, i < 5 → r[i]? = some (r[i]!) := fun i hi => by rw [List.getElem?_eq_getElem (by omega), getElem!_pos r i (by omega)]
  have s0 := hq 0 _ 3 (get 0 (by decide)) rfl
  have s1 := hq 1 _ 12 (get 1 (by decide)) rfl
  have s2 := hq 2 _ 8 (get 2 (by decide)) rfl
  have s3 := hq 3 _ 3 (get 3 (by decide)) rfl
  refine Ok.bind (Ok.noE (okG_spec (asked_ok (at_nat (get 0 (by decide))) (at_nat (get 1 (by decide))) (at_nat (get 2 (by decide))) (at_nat (get 3 (by decide))) s0 s1 s2 s3))) fun G hG => ?_
  obtain ⟨n, f, F, h24, rfl⟩ := hG
  obtain ⟨iv, hv⟩ := back_ex F
  have hv' : ∀ a, a < n → iv a < n ∧ f a (iv a) = 0 ∧ f (iv a) a = 0 := fun a ha => ⟨(hv a ha).1, (hv a ha).2.1, (hv a ha).2.2.1⟩
  have hn : (0 : Int) < (n : Int) := Int.natCast_pos.mpr F.pos
  have T1 := conj_tf F hv'
  have T2 := core_tf F hv'
  rw [noE_of (square_ok h24 F.lt), noE_of (group_fine_ok h24 F), show atR r 4 = .ok (r[4]!) from at_nat (get 4 (by decide)), show atR r 1 = .ok (r[1]!) from at_nat (get 1 (by decide))]
  refine Ok.of ?_
  rw [Res.okb, Res.okb, show orR (Res.ok !true) (Res.ok !true) = .ok false from rfl, Res.okb, if_neg Bool.false_ne_true, noE_of (conjugates_ok h24 F hv), Res.okb, noE_of (cores_ok h24 F hv), Res.okb, Res.okb, tabOf_length, mod_ok hn, Res.okb]
  obtain ⟨i, hi, ei⟩ : ∃ i : Nat, i < n ∧ r[4]! % (n : Int) = (i : Int) := ⟨(r[4]! % (n : Int)).toNat, by
    have := Int.emod_lt_of_pos r[4]! hn
    have := Int.emod_nonneg r[4]! (Int.ne_of_gt hn)
    omega, (Int.toNat_of_nonneg (Int.emod_nonneg _ (Int.ne_of_gt hn))).symm⟩
  have M := class_mem h24 F hv hi
  rw [ei, noE_of (class_table_ok h24 F hv hi)]
  generalize sortI (dd (cs n f iv i)) = D at *
  obtain ⟨h, eh, T3⟩ := sub_tf T1 M
  have hD : D.length ≤ 24 := by
    refine Nat.le_trans ?_ h24
    have := sub_len (l := D) (m := (List.range n).map fun (i : Nat) => (i : Int)) M.nd fun x hx => by
      obtain ⟨k, hk, rfl⟩ := M.lt x hx
      exact List.mem_map.mpr ⟨k, List.mem_range.mpr hk, rfl⟩
    simpa using this
  rw [eh]
  simp only [Res.okb]
  rw [chk_ok (sz (by simp)), Res.okb, forC_all]
  · rw [Res.okb, retOr_nx]
    have ht := isT_ok (g_tail (1 + r[1]!) (by simp only [List.mem_cons, List.not_mem_nil, or_false]; omega))
    exact ht
  · intro t ht
    have hs : ∃ k g, k ≤ 24 ∧ TF k g ∧ t = tabOf k g := by
      simp only [List.mem_cons, List.not_mem_nil, or_false] at ht
      rcases ht with z | z | z
      · exact ⟨_, _, h24, T1, z⟩
      · exact ⟨_, _, h24, T2, z⟩
      · exact ⟨_, _, hD, T3, z⟩
    obtain ⟨k, g, hk, T, rfl⟩ := hs
    rw [noE_of (square_ok hk T.lt), noE_of (table_fine_ok hk T)]
    rfl
end My

namespace My
open PySem L2
def top (i : Nat) : Stmt := PySem.Challenge.pw_plait_k36_whole_three_rules.main.body.getD i (.Pass ⟨0, 0, 0, 0⟩)
abbrev s_refuse_above : Stmt := top 7
abbrev s_each_once : Stmt := top 8
abbrev s_longer_by_one : Stmt := top 9
abbrev s_paired : Stmt := top 11
abbrev s_paired_row : Stmt := top 12
abbrev s_cycle : Stmt := top 15
abbrev s_orders : Stmt := top 16
abbrev s_product : Stmt := top 17
abbrev s_both : Stmt := top 18
abbrev s_inverse : Stmt := top 19
abbrev s_step_beyond : Stmt := top 21
abbrev s_part : Stmt := top 22
abbrev s_conjugates : Stmt := top 24
abbrev s_conjugate : Stmt := top 25
abbrev s_cores : Stmt := top 26
abbrev s_core : Stmt := top 27
abbrev s_class_of : Stmt := top 28
abbrev s_class_table : Stmt := top 29
abbrev s_turns : Stmt := top 31
abbrev s_scaled : Stmt := top 32
abbrev s_common_divisor : Stmt := top 33
abbrev s_cell : Stmt := top 35
abbrev s_mix : Stmt := top 36
abbrev s_row : Stmt := top 37
abbrev s_group_fine : Stmt := top 38
abbrev s_table_fine : Stmt := top 39
abbrev s_asked : Stmt := top 40
abbrev s_square : Stmt := top 41
abbrev s_law : Stmt := top 42
def cs_44_11 : Scope := { kind := PySem.ScopeKind.function, names := [ (PySem.Str.ofString ".0", PySem.NameKind.local), (PySem.Str.ofString "a", PySem.NameKind.cell), (PySem.Str.ofString "range", PySem.NameKind.globalImplicit), (PySem.Str.ofString "size", PySem.NameKind.free)], isGenerator := false, isCoroutine := false, more := [] : PySem.Scope }
def cs_48_11 : Scope := { kind := PySem.ScopeKind.function, names := [ (PySem.Str.ofString ".0", PySem.NameKind.local), (PySem.Str.ofString "a", PySem.NameKind.cell), (PySem.Str.ofString "lists", PySem.NameKind.free)], isGenerator := false, isCoroutine := false, more := [] : PySem.Scope }
def cs_66_11 : Scope := { kind := PySem.ScopeKind.function, names := [ (PySem.Str.ofString ".0", PySem.NameKind.local), (PySem.Str.ofString "a", PySem.NameKind.cell), (PySem.Str.ofString "members", PySem.NameKind.free), (PySem.Str.ofString "places", PySem.NameKind.free), (PySem.Str.ofString "table", PySem.NameKind.free)], isGenerator := false, isCoroutine := false, more := [] : PySem.Scope }
def cs_70_11 : Scope := { kind := PySem.ScopeKind.function, names := [ (PySem.Str.ofString ".0", PySem.NameKind.local), (PySem.Str.ofString "a", PySem.NameKind.cell), (PySem.Str.ofString "range", PySem.NameKind.globalImplicit), (PySem.Str.ofString "group", PySem.NameKind.free), (PySem.Str.ofString "size", PySem.NameKind.free)], isGenerator := false, isCoroutine := false, more := [] : PySem.Scope }
def cs_75_11 : Scope := { kind := PySem.ScopeKind.function, names := [ (PySem.Str.ofString ".0", PySem.NameKind.local), (PySem.Str.ofString "a", PySem.NameKind.cell), (PySem.Str.ofString "range", PySem.NameKind.globalImplicit), (PySem.Str.ofString "group", PySem.NameKind.free), (PySem.Str.ofString "size", PySem.NameKind.free)], isGenerator := false, isCoroutine := false, more := [] : PySem.Scope }
def cs_89_11 : Scope := { kind := PySem.ScopeKind.function, names := [ (PySem.Str.ofString ".0", PySem.NameKind.local), (PySem.Str.ofString "a", PySem.NameKind.cell), (PySem.Str.ofString "range", PySem.NameKind.globalImplicit), (PySem.Str.ofString "factor", PySem.NameKind.free), (PySem.Str.ofString "size", PySem.NameKind.free)], isGenerator := false, isCoroutine := false, more := [] : PySem.Scope }
structure Blt (mg : Str → Option Value) : Prop where
  b_bool : mg "bool" = none
  b_dict : mg "dict" = none
  b_enumerate : mg "enumerate" = none
  b_int : mg "int" = none
  b_isinstance : mg "isinstance" = none
  b_len : mg "len" = none
  b_list : mg "list" = none
  b_range : mg "range" = none
  b_set : mg "set" = none
  b_sorted : mg "sorted" = none
  c_MOST_COLOURS : ∃ u, mg "MOST_COLOURS" = some u ∧ RelV (.int 24) u
  c_MOST_THINGS : ∃ u, mg "MOST_THINGS" = some u ∧ RelV (.int 4) u
section
variable {P : Program} {w : World} {K : PySem.W.Frag} {mg : Str → Option Value} {base : Heap}
theorem sc_refuse_above : FnScope ["most", "size"] ["most", "size"] (defScope s_refuse_above) := ⟨rfl, rfl, rfl, by decide +kernel, rfl, by decide +kernel, by decide +kernel⟩
set_option maxHeartbeats 4000000 in
theorem ok_refuse_above (D : Def K mg "refuse_above" s_refuse_above ["most", "size"])  (Z : Blt mg) : Fn P w K mg base 1 "refuse_above" ["most", "size"] (sp2 rInt rInt oU m_refuse_above K) := by
  refine fn_mk D sc_refuse_above (fun vs H Q E h => ?_) (fun f cdv A outer s H vs Q E hr h => ?_)
  · obtain ⟨v_0, v_1, a_0, a_1, b, rfl, _⟩ := h; rfl
  obtain ⟨v_0, v_1, a_0, a_1, b, rfl, h_0, h_1, hm, q⟩ := h
  have hu := hu8 hr
  have hu1 := hu_of hr
  refine ⟨_, (pss_cons (ps_if (pt_cmpR op_gt (pv 1) (pv 0) (nomark _))
      (pss_cons ps_never
      pss_nil)
      pss_nil)
    pss_nil), ?_⟩
  refine top_U (J := ({ oo := fun x3 => [], ss := fun x3 => [some v_0, some v_1], sc := fun g4 x3 => (SC.add (SC.add SC.nil K rInt v_0 a_0) K rInt v_1 a_1) } : Jn (Unit) (Unit))) (K := K) (S := (SC.add (SC.add SC.nil K rInt v_0 a_0) K rInt v_1 a_1)) (σ := [some v_0, some v_1]) 0 ?_ (SC.i (SC.i SC.t h_0) h_1) hm q (fun _ _ => rfl)
  unfold m_refuse_above
  exact (sv_ifN (evt_test (K := K) (evb_gt (evb_var (r := rInt) 1 rfl (fun _ s => (SC.r s))) (evb_var (r := rInt) 0 rfl (fun _ s => (SC.r (SC.l s)))))) (sv_end (J := _) () () rfl rfl (fun _ s => (SC.i (SC.i SC.t (SC.r (SC.l s))) (SC.r s)))))
theorem sc_longer_by_one : FnScope ["lists", "count", "longer", "ahead", "number"] ["lists", "count"] (defScope s_longer_by_one) := ⟨rfl, rfl, rfl, by decide +kernel, rfl, by decide +kernel, by decide +kernel⟩
set_option maxHeartbeats 4000000 in
theorem ok_longer_by_one (D : Def K mg "longer_by_one" s_longer_by_one ["lists", "count"])  (Z : Blt mg) : Fn P w K mg base 1 "longer_by_one" ["lists", "count"] (sp2 (rV (rV rInt)) rInt (oL (oL (oF rInt))) m_longer_by_one K) := by
  refine fn_mk D sc_longer_by_one (fun vs H Q E h => ?_) (fun f cdv A outer s H vs Q E hr h => ?_)
  · obtain ⟨v_0, v_1, a_0, a_1, b, rfl, _⟩ := h; rfl
  obtain ⟨v_0, v_1, a_0, a_1, b, rfl, h_0, h_1, hm, q⟩ := h
  have hu := hu8 hr
  have hu1 := hu_of hr
  refine ⟨_, (pss_cons (ps_set (i := 2) sc_longer_by_one.nd rfl (Or.inl rfl) (pe_lst pa_nil))
    (pss_cons (ps_for PassesOwn.never rfl (pi_listK (K := K) rfl (pv 0)) (pg_name (i := 3) sc_longer_by_one.nd rfl (Or.inl rfl))
      (pss_cons (ps_for PassesOwn.never rfl (pi_range1 rfl Z.b_range (pa_cons (pv 1) pa_nil)) (pg_name (i := 4) sc_longer_by_one.nd rfl (Or.inl rfl))
        (pss_cons (ps_if (pt_cmpR op_notIn_seq (pv 4) (pv 3) rfl)
          (pss_cons (ps_expr (pe_bm PySem.F.plainAttrs_list PySem.F.slot_list_append PySem.F.type_list_append mt_append (pv 2) (pa_cons (pe_op op_cat (pv 3) (pe_lst (pa_cons (pv 4) pa_nil))) pa_nil)))
          pss_nil)
          pss_nil)
        pss_nil))
      pss_nil))
    (pss_cons (ps_ret (pv 2))
    pss_nil))), ?_⟩
  refine top_T (S := (SC.add (SC.add SC.nil K (rV (rV rInt)) v_0 a_0) K rInt v_1 a_1)) (σ := [some v_0, some v_1, none, none, none]) 1 ?_ (SC.i (SC.i SC.t h_0) h_1) hm q rfl
  unfold m_longer_by_one
  exact (sv_setO (K := K) (o := (oL (oL (oF rInt)))) 2 0 (ev_l0 (o := (oL (oF rInt)))) (Nat.le_of_ble_eq_true rfl) fun a1 v2 C3 => (sv_for (K := K) (J := ({ oo := fun x4 => [x4.2.2.2], ss := fun x4 => [some v_0, some v_1, some x4.2.2.1, x4.1, x4.2.1], sc := fun g5 x4 => (SC.addO (SC.add (SC.add SC.nil K (rV (rV rInt)) v_0 a_0) K rInt v_1 a_1) K (oL (oL (oF rInt))) x4.2.2.1 g5 x4.2.2.2) } : Jn ((List (List Int))) (Option V × Option V × V × List Cell))) (fun _ => tg1 3) ((none), (none), v2, C3) (a1) (walk_list (evs_var (r := (rV (rV rInt))) 0 rfl (fun _ s => (SC.r (SC.l (SC.l s)))))) rfl rfl (fun _ s => (SC.i (SC.i (SC.i SC.t (SC.r (SC.l (SC.l s)))) (SC.r (SC.l s))) (SC.r s))) (fun g6 x7 a8 v9 => (sv_for (K := K) (J := ({ oo := fun x11 => [x11.2.2], ss := fun x11 => [some v_0, some v_1, some x11.2.1, some v9, x11.1], sc := fun g12 x11 => (SC.addO (SC.add (SC.add (SC.add SC.nil K (rV (rV rInt)) v_0 a_0) K rInt v_1 a_1) K (rV rInt) v9 a8) K (oL (oL (oF rInt))) x11.2.1 g12 x11.2.2) } : Jn ((List (List Int))) (Option V × V × List Cell))) (fun _ => tg1 4) ((x7.2.1), x7.2.2.1, x7.2.2.2) (g6) (walk_range1 (evb_var (r := rInt) 1 rfl (fun _ s => (SC.r (SC.l (SC.l s)))))) rfl rfl (fun _ s => (SC.i (SC.i (SC.i (SC.i SC.t (SC.r (SC.l (SC.l (SC.l s))))) (SC.r (SC.l (SC.l s)))) (SC.r s)) (SC.r (SC.l s)))) (fun g13 x14 a15 v16 => (sv_seqN (J := ({ oo := fun x20 => [x20.2], ss := fun x20 => [some v_0, some v_1, some x20.1, some v9, some v16], sc := fun g21 x20 => (SC.addO (SC.add (SC.add (SC.add (SC.add SC.nil K (rV (rV rInt)) v_0 a_0) K rInt v_1 a_1) K (rV rInt) v9 a8) K rInt v16 a15) K (oL (oL (oF rInt))) x20.1 g21 x20.2) } : Jn ((List (List Int))) (V × List Cell))) (sv_if2 (Fd := FNd ({ oo := fun x20 => [x20.2], ss := fun x20 => [some v_0, some v_1, some x20.1, some v9, some v16], sc := fun g21 x20 => (SC.addO (SC.add (SC.add (SC.add (SC.add SC.nil K (rV (rV rInt)) v_0 a_0) K rInt v_1 a_1) K (rV rInt) v9 a8) K rInt v16 a15) K (oL (oL (oF rInt))) x20.1 g21 x20.2) } : Jn ((List (List Int))) (V × List Cell))) (evt_test (K := K) (evb_nin (evb_var (r := rInt) 4 rfl (fun _ s => (SC.r s))) (evb_var (r := (rV rInt)) 3 rfl (fun _ s => (SC.r (SC.l (SC.l s))))))) (sv_app (K := K) (o := (oL (oF rInt))) (f := fun a29 => (Res.ok (a29))) 2 0 rfl rfl rfl (fun _ s => (SC.r (SC.l s))) (ev_cat (EvS.ls (evs_var (r := (rV rInt)) 3 rfl (fun _ s => (SC.r (SC.l (SC.l s)))))) (Ev.ls (ev_lst (eva_cons (evs_var (r := rInt) 4 rfl (fun _ s => (SC.r s))) eva_nil)))) fun a27 C28 => (sv_end (J := _) (x14.2.1, C28) ((g13 ++ [a27])) rfl rfl (fun _ s => (SC.i (SC.i (SC.i (SC.i (SC.i SC.t (SC.r (SC.l (SC.l (SC.l (SC.l (SC.l s))))))) (SC.r (SC.l (SC.l (SC.l (SC.l s)))))) (SC.r (SC.l (SC.l (SC.l s))))) (SC.r (SC.l s))) (SC.r s))))) (sv_end (J := _) (x14.2.1, x14.2.2) (g13) rfl rfl (fun _ s => (SC.i (SC.i (SC.i (SC.i (SC.i SC.t (SC.r (SC.l (SC.l (SC.l (SC.l s)))))) (SC.r (SC.l (SC.l (SC.l s))))) (SC.r (SC.l (SC.l s)))) (SC.r s)) (SC.r (SC.l s)))))) fun g31 x30 => (sv_end (J := _) ((some v16), x30.1, x30.2) (g31) rfl rfl (fun _ s => (SC.i (SC.i (SC.i (SC.i SC.t (SC.r (SC.l (SC.l (SC.l (SC.l s)))))) (SC.r (SC.l (SC.l (SC.l s))))) (SC.r (SC.l (SC.l s)))) (SC.r s)))))) fun g32 x33 => (sv_end (J := _) ((some v9), (x33.1), x33.2.1, x33.2.2) (g32) rfl rfl (fun _ s => (SC.i (SC.i (SC.i SC.t (SC.r (SC.l (SC.l (SC.l s))))) (SC.r (SC.l (SC.l s)))) (SC.r s)))))) fun g35 x36 => (sv_ret (ev_move (o := (oL (oL (oF rInt)))) 2 0 rfl rfl (fun _ s => (SC.r s))))))
theorem sc_each_once : FnScope ["count", "told", "place"] ["count"] (defScope s_each_once) := ⟨rfl, rfl, rfl, by decide +kernel, rfl, by decide +kernel, by decide +kernel⟩
set_option maxHeartbeats 4000000 in
theorem ok_each_once (D : Def K mg "each_once" s_each_once ["count"]) (g_longer_by_one : Fn P w K mg base 1 "longer_by_one" ["lists", "count"] (sp2 (rV (rV rInt)) rInt (oL (oL (oF rInt))) m_longer_by_one K)) (Z : Blt mg) : Fn P w K mg base 2 "each_once" ["count"] (sp1 rInt (oL (oL (oF rInt))) m_each_once K) := by
  refine fn_mk D sc_each_once (fun vs H Q E h => ?_) (fun f cdv A outer s H vs Q E hr h => ?_)
  · obtain ⟨v_0, a_0, b, rfl, _⟩ := h; rfl
  obtain ⟨v_0, a_0, b, rfl, h_0, hm, q⟩ := h
  have hu := hu8 hr
  have hu1 := hu_of hr
  refine ⟨_, (pss_cons (ps_set (i := 1) sc_each_once.nd rfl (Or.inl rfl) (pe_lst (pa_cons (pe_lst pa_nil) pa_nil star_list)))
    (pss_cons (ps_for PassesOwn.never rfl (pi_range1 rfl Z.b_range (pa_cons (pv 0) pa_nil)) (pg_name (i := 2) sc_each_once.nd rfl (Or.inl rfl))
      (pss_cons (ps_set (i := 1) sc_each_once.nd rfl (Or.inl rfl) (pe_fn g_longer_by_one hr (by decide) (pa_cons (pv 1) (pa_cons (pv 0) pa_nil))))
      pss_nil))
    (pss_cons (ps_ret (pv 1))
    pss_nil))), ?_⟩
  refine top_T (S := (SC.add SC.nil K rInt v_0 a_0)) (σ := [some v_0, none, none]) 1 ?_ (SC.i SC.t h_0) hm q rfl
  unfold m_each_once
  exact (sv_setO (K := K) (o := (oL (oL (oF rInt)))) 1 0 (ev_lstO (evao_cons (ev_l0 (o := (oF rInt))) fun _ => evao_nil)) (Nat.le_of_ble_eq_true rfl) fun a1 v2 C3 => (sv_for (K := K) (J := ({ oo := fun x8 => [x8.2.2], ss := fun x8 => [some v_0, some x8.2.1, x8.1], sc := fun g9 x8 => (SC.addO (SC.add SC.nil K rInt v_0 a_0) K (oL (oL (oF rInt))) x8.2.1 g9 x8.2.2) } : Jn ((List (List Int))) (Option V × V × List Cell))) (fun _ => tg1 2) ((none), v2, C3) (a1) (walk_range1 (evb_var (r := rInt) 0 rfl (fun _ s => (SC.r (SC.l s))))) rfl rfl (fun _ s => (SC.i (SC.i SC.t (SC.r (SC.l s))) (SC.r s))) (fun g10 x11 a12 v13 => (sv_setO (K := K) (o := (oL (oL (oF rInt)))) 1 0 (ev_call2 (evb_own (o := (oL (oL (oF rInt)))) 1 0 rfl rfl (fun _ s => (SC.r (SC.l s)))) (evb_var (r := rInt) 0 rfl (fun _ s => (SC.r (SC.l (SC.l s)))))) (Nat.le_of_ble_eq_true rfl) fun a14 v15 C16 => (sv_end (J := _) ((some v13), v15, C16) (a14) rfl rfl (fun _ s => (SC.i (SC.i SC.t (SC.r (SC.l (SC.l (SC.l s))))) (SC.r s)))))) fun g20 x21 => (sv_ret (ev_move (o := (oL (oL (oF rInt)))) 1 0 rfl rfl (fun _ s => (SC.r s))))))
theorem sc_paired_row : FnScope ["above", "row", "told", "colour"] ["above", "row"] (defScope s_paired_row) := ⟨rfl, rfl, rfl, by decide +kernel, rfl, by decide +kernel, by decide +kernel⟩
set_option maxHeartbeats 4000000 in
theorem ok_paired_row (D : Def K mg "paired_row" s_paired_row ["above", "row"])  (Z : Blt mg) : Fn P w K mg base 1 "paired_row" ["above", "row"] (sp2 (rV rInt) (rV rInt) (oL (oF rInt)) m_paired_row K) := by
  refine fn_mk D sc_paired_row (fun vs H Q E h => ?_) (fun f cdv A outer s H vs Q E hr h => ?_)
  · obtain ⟨v_0, v_1, a_0, a_1, b, rfl, _⟩ := h; rfl
  obtain ⟨v_0, v_1, a_0, a_1, b, rfl, h_0, h_1, hm, q⟩ := h
  have hu := hu8 hr
  have hu1 := hu_of hr
  refine ⟨_, (pss_cons (ps_set (i := 2) sc_paired_row.nd rfl (Or.inl rfl) (pe_lst pa_nil))
    (pss_cons (ps_for PassesOwn.never rfl (pi_listK (K := K) rfl (pv 0)) (pg_name (i := 3) sc_paired_row.nd rfl (Or.inr rfl))
      (pss_cons (ps_expr (pe_bm PySem.F.plainAttrs_list PySem.F.slot_list_extend PySem.F.type_list_extend mt_extend (pv 2) (pa_cons (pe_compI (sc := (defScope s_paired_row)) (N0 := ["above", "row", "told", "colour"]) (tns := ["lower"]) (caps := [(3, "colour"), (1, "row")]) rfl (pi_listK (K := K) rfl (pv 1)) (gk_name (by decide)) (fun cl C s H ex E => ⟨pg_name (i := 0) (show List.Nodup (["lower", "colour", "row"] : List Str) by decide +kernel) rfl (Or.inl rfl), pts_nil, (pe_op op_add (pe_op op_mul (pv 1) (pe_callB (call_len_seqK K rfl) rfl Z.b_len PySem.boot_len (pa_cons (pv 2) pa_nil))) (pv 0))⟩)) pa_nil)))
      pss_nil))
    (pss_cons (ps_ret (pv 2))
    pss_nil))), ?_⟩
  refine top_T (S := (SC.add (SC.add SC.nil K (rV rInt) v_0 a_0) K (rV rInt) v_1 a_1)) (σ := [some v_0, some v_1, none, none]) 1 ?_ (SC.i (SC.i SC.t h_0) h_1) hm q rfl
  unfold m_paired_row
  exact (sv_setO (K := K) (o := (oL (oF rInt))) 2 0 (ev_l0 (o := (oF rInt))) (Nat.le_of_ble_eq_true rfl) fun a1 v2 C3 => (sv_for (K := K) (J := ({ oo := fun x4 => [x4.2.2], ss := fun x4 => [some v_0, some v_1, some x4.2.1, x4.1], sc := fun g5 x4 => (SC.addO (SC.add (SC.add SC.nil K (rV rInt) v_0 a_0) K (rV rInt) v_1 a_1) K (oL (oF rInt)) x4.2.1 g5 x4.2.2) } : Jn ((List Int)) (Option V × V × List Cell))) (fun _ => tg1 3) ((none), v2, C3) (a1) (walk_list (evs_var (r := (rV rInt)) 0 rfl (fun _ s => (SC.r (SC.l (SC.l s)))))) rfl rfl (fun _ s => (SC.i (SC.i (SC.i SC.t (SC.r (SC.l (SC.l s)))) (SC.r (SC.l s))) (SC.r s))) (fun g6 x7 a8 v9 => (sv_ext (K := K) (o := (oF rInt)) (f := fun a21 => (Res.ok (a21))) 2 0 rfl rfl rfl (fun _ s => (SC.r (SC.l s))) (ev_comp (fun _ => tg1 0) (walk_list (evs_var (r := (rV rInt)) 1 rfl (fun _ s => (SC.r (SC.l (SC.l s)))))) (fun C10 a11 v12 => (EvS.ev (EvB.sh (evb_add (evb_mul (evb_var (r := rInt) 1 rfl (fun _ s => (SC.r (SC.l s)))) (evb_len (evb_var (r := (rV rInt)) 2 rfl (fun _ s => (SC.r (SC.l (SC.l (SC.l s)))))))) (evb_var (r := rInt) 0 rfl (fun _ s => (SC.r s)))))))) fun a19 C20 => (sv_end (J := _) ((some v9), x7.2.1, C20) ((g6 ++ a19)) rfl rfl (fun _ s => (SC.i (SC.i (SC.i SC.t (SC.r (SC.l (SC.l (SC.l (SC.l s)))))) (SC.r (SC.l (SC.l (SC.l s))))) (SC.r s)))))) fun g22 x23 => (sv_ret (ev_move (o := (oL (oF rInt))) 2 0 rfl rfl (fun _ s => (SC.r s))))))
theorem sc_paired : FnScope ["one", "other", "told", "above", "row"] ["one", "other"] (defScope s_paired) := ⟨rfl, rfl, rfl, by decide +kernel, rfl, by decide +kernel, by decide +kernel⟩
set_option maxHeartbeats 4000000 in
theorem ok_paired (D : Def K mg "paired" s_paired ["one", "other"]) (g_refuse_above : Fn P w K mg base 1 "refuse_above" ["most", "size"] (sp2 rInt rInt oU m_refuse_above K)) (g_paired_row : Fn P w K mg base 1 "paired_row" ["above", "row"] (sp2 (rV rInt) (rV rInt) (oL (oF rInt)) m_paired_row K)) (Z : Blt mg) : Fn P w K mg base 2 "paired" ["one", "other"] (sp2 (rV (rV rInt)) (rV (rV rInt)) (oL (oL (oF rInt))) m_paired K) := by
  refine fn_mk D sc_paired (fun vs H Q E h => ?_) (fun f cdv A outer s H vs Q E hr h => ?_)
  · obtain ⟨v_0, v_1, a_0, a_1, b, rfl, _⟩ := h; rfl
  obtain ⟨v_0, v_1, a_0, a_1, b, rfl, h_0, h_1, hm, q⟩ := h
  have hu := hu8 hr
  have hu1 := hu_of hr
  refine ⟨_, (pss_cons (ps_expr (pe_fn g_refuse_above hr (by decide) (pa_cons (pe_cst Z.c_MOST_COLOURS rfl) (pa_cons (pe_op op_mul (pe_callB (call_len_seqK K rfl) rfl Z.b_len PySem.boot_len (pa_cons (pv 0) pa_nil)) (pe_callB (call_len_seqK K rfl) rfl Z.b_len PySem.boot_len (pa_cons (pv 1) pa_nil))) pa_nil))))
    (pss_cons (ps_set (i := 2) sc_paired.nd rfl (Or.inl rfl) (pe_lst pa_nil))
    (pss_cons (ps_for PassesOwn.never rfl (pi_listK (K := K) rfl (pv 0)) (pg_name (i := 3) sc_paired.nd rfl (Or.inl rfl))
      (pss_cons (ps_for PassesOwn.never rfl (pi_listK (K := K) rfl (pv 1)) (pg_name (i := 4) sc_paired.nd rfl (Or.inl rfl))
        (pss_cons (ps_expr (pe_bm PySem.F.plainAttrs_list PySem.F.slot_list_append PySem.F.type_list_append mt_append (pv 2) (pa_cons (pe_fn g_paired_row hr (by decide) (pa_cons (pv 3) (pa_cons (pv 4) pa_nil))) pa_nil)))
        pss_nil))
      pss_nil))
    (pss_cons (ps_ret (pv 2))
    pss_nil)))), ?_⟩
  refine top_T (S := (SC.add (SC.add SC.nil K (rV (rV rInt)) v_0 a_0) K (rV (rV rInt)) v_1 a_1)) (σ := [some v_0, some v_1, none, none, none]) 1 ?_ (SC.i (SC.i SC.t h_0) h_1) hm q rfl
  unfold m_paired
  exact (sv_expr (Ev.toB (ev_call2 (evb_int 24) (evb_mul (evb_len (evb_var (r := (rV (rV rInt))) 0 rfl (fun _ s => (SC.r (SC.l s))))) (evb_len (evb_var (r := (rV (rV rInt))) 1 rfl (fun _ s => (SC.r s))))))) (sv_setO (K := K) (o := (oL (oL (oF rInt)))) 2 0 (ev_l0 (o := (oL (oF rInt)))) (Nat.le_of_ble_eq_true rfl) fun a9 v10 C11 => (sv_for (K := K) (J := ({ oo := fun x12 => [x12.2.2.2], ss := fun x12 => [some v_0, some v_1, some x12.2.2.1, x12.1, x12.2.1], sc := fun g13 x12 => (SC.addO (SC.add (SC.add SC.nil K (rV (rV rInt)) v_0 a_0) K (rV (rV rInt)) v_1 a_1) K (oL (oL (oF rInt))) x12.2.2.1 g13 x12.2.2.2) } : Jn ((List (List Int))) (Option V × Option V × V × List Cell))) (fun _ => tg1 3) ((none), (none), v10, C11) (a9) (walk_list (evs_var (r := (rV (rV rInt))) 0 rfl (fun _ s => (SC.r (SC.l (SC.l s)))))) rfl rfl (fun _ s => (SC.i (SC.i (SC.i SC.t (SC.r (SC.l (SC.l s)))) (SC.r (SC.l s))) (SC.r s))) (fun g14 x15 a16 v17 => (sv_for (K := K) (J := ({ oo := fun x18 => [x18.2.2], ss := fun x18 => [some v_0, some v_1, some x18.2.1, some v17, x18.1], sc := fun g19 x18 => (SC.addO (SC.add (SC.add (SC.add SC.nil K (rV (rV rInt)) v_0 a_0) K (rV (rV rInt)) v_1 a_1) K (rV rInt) v17 a16) K (oL (oL (oF rInt))) x18.2.1 g19 x18.2.2) } : Jn ((List (List Int))) (Option V × V × List Cell))) (fun _ => tg1 4) ((x15.2.1), x15.2.2.1, x15.2.2.2) (g14) (walk_list (evs_var (r := (rV (rV rInt))) 1 rfl (fun _ s => (SC.r (SC.l (SC.l s)))))) rfl rfl (fun _ s => (SC.i (SC.i (SC.i (SC.i SC.t (SC.r (SC.l (SC.l (SC.l s))))) (SC.r (SC.l (SC.l s)))) (SC.r s)) (SC.r (SC.l s)))) (fun g20 x21 a22 v23 => (sv_app (K := K) (o := (oL (oF rInt))) (f := fun a29 => (Res.ok (a29))) 2 0 rfl rfl rfl (fun _ s => (SC.r (SC.l s))) (ev_call2 (evb_var (r := (rV rInt)) 3 rfl (fun _ s => (SC.r (SC.l (SC.l s))))) (evb_var (r := (rV rInt)) 4 rfl (fun _ s => (SC.r s)))) fun a27 C28 => (sv_end (J := _) ((some v23), x21.2.1, C28) ((g20 ++ [a27])) rfl rfl (fun _ s => (SC.i (SC.i (SC.i (SC.i SC.t (SC.r (SC.l (SC.l (SC.l (SC.l (SC.l s))))))) (SC.r (SC.l (SC.l (SC.l (SC.l s)))))) (SC.r (SC.l (SC.l (SC.l s))))) (SC.r s)))))) fun g30 x31 => (sv_end (J := _) ((some v17), (x31.1), x31.2.1, x31.2.2) (g30) rfl rfl (fun _ s => (SC.i (SC.i (SC.i SC.t (SC.r (SC.l (SC.l (SC.l s))))) (SC.r (SC.l (SC.l s)))) (SC.r s)))))) fun g33 x34 => (sv_ret (ev_move (o := (oL (oL (oF rInt)))) 2 0 rfl rfl (fun _ s => (SC.r s)))))))
theorem sc_cycle : FnScope ["size"] ["size"] (defScope s_cycle) := ⟨rfl, rfl, rfl, by decide +kernel, rfl, by decide +kernel, by decide +kernel⟩
set_option maxHeartbeats 4000000 in
theorem ok_cycle (D : Def K mg "cycle" s_cycle ["size"]) (g_refuse_above : Fn P w K mg base 1 "refuse_above" ["most", "size"] (sp2 rInt rInt oU m_refuse_above K)) (Z : Blt mg) : Fn P w K mg base 2 "cycle" ["size"] (sp1 rInt (oL (oL (oF rInt))) m_cycle K) := by
  refine fn_mk D sc_cycle (fun vs H Q E h => ?_) (fun f cdv A outer s H vs Q E hr h => ?_)
  · obtain ⟨v_0, a_0, b, rfl, _⟩ := h; rfl
  obtain ⟨v_0, a_0, b, rfl, h_0, hm, q⟩ := h
  have hu := hu8 hr
  have hu1 := hu_of hr
  refine ⟨_, (pss_cons (ps_expr (pe_fn g_refuse_above hr (by decide) (pa_cons (pe_cst Z.c_MOST_COLOURS rfl) (pa_cons (pv 0) pa_nil))))
    (pss_cons (ps_ret (pe_compJ (sc := (defScope s_cycle)) (N0 := ["size"]) (tns := ["a"]) (caps := [(0, "size")]) rfl (pi_range1 rfl Z.b_range (pa_cons (pv 0) pa_nil)) (gk_name (by decide)) (fun cl C s H ex E => ⟨pg_name (i := 0) (show List.Nodup (["a", "size"] : List Str) by decide +kernel) rfl (Or.inr rfl) (hf := Or.inl rfl), pts_nil, (pe_compJ (sc := (relab cs_44_11 (defScope s_cycle))) (N0 := ["a", "size"]) (tns := ["b"]) (caps := [(0, "a"), (1, "size")]) rfl (pi_range1 rfl Z.b_range (pa_cons (pv 1) pa_nil)) (gk_name (by decide)) (fun cl C s H ex E => ⟨pg_name (i := 0) (show List.Nodup (["b", "a", "size"] : List Str) by decide +kernel) rfl (Or.inl rfl), pts_nil, (pe_op op_mod (pe_op op_add (pv 1) (pv 0)) (pv 2))⟩))⟩)))
    pss_nil)), ?_⟩
  refine top_T (S := (SC.add SC.nil K rInt v_0 a_0)) (σ := [some v_0]) 0 ?_ (SC.i SC.t h_0) hm q rfl
  unfold m_cycle
  exact (sv_expr (Ev.toB (ev_call2 (evb_int 24) (evb_var (r := rInt) 0 rfl (fun _ s => (SC.r s))))) (sv_ret (ev_comp (fun _ => tg1 0) (walk_range1 (evb_var (r := rInt) 0 rfl (fun _ s => (SC.r s)))) (fun C6 a7 v8 => (ev_comp (fun _ => tg1 0) (walk_range1 (evb_var (r := rInt) 1 rfl (fun _ s => (SC.r (SC.l s))))) (fun C11 a12 v13 => (EvS.ev (EvB.sh (evb_mod (evb_add (evb_var (r := rInt) 1 rfl (fun _ s => (SC.r (SC.l s)))) (evb_var (r := rInt) 0 rfl (fun _ s => (SC.r s)))) (evb_var (r := rInt) 2 rfl (fun _ s => (SC.r (SC.l (SC.l s))))))))))))))
theorem sc_product : FnScope ["a", "b"] ["a", "b"] (defScope s_product) := ⟨rfl, rfl, rfl, by decide +kernel, rfl, by decide +kernel, by decide +kernel⟩
set_option maxHeartbeats 4000000 in
theorem ok_product (D : Def K mg "product" s_product ["a", "b"])  (Z : Blt mg) : Fn P w K mg base 1 "product" ["a", "b"] (sp2 (rV rInt) (rV rInt) (oL (oF rInt)) m_product K) := by
  refine fn_mk D sc_product (fun vs H Q E h => ?_) (fun f cdv A outer s H vs Q E hr h => ?_)
  · obtain ⟨v_0, v_1, a_0, a_1, b, rfl, _⟩ := h; rfl
  obtain ⟨v_0, v_1, a_0, a_1, b, rfl, h_0, h_1, hm, q⟩ := h
  have hu := hu8 hr
  have hu1 := hu_of hr
  refine ⟨_, (pss_cons (ps_ret (pe_compI (sc := (defScope s_product)) (N0 := ["a", "b"]) (tns := ["place"]) (caps := [(1, "b")]) rfl (pi_listK (K := K) rfl (pv 0)) (gk_name (by decide)) (fun cl C s H ex E => ⟨pg_name (i := 0) (show List.Nodup (["place", "b"] : List Str) by decide +kernel) rfl (Or.inl rfl), pts_nil, (pe_ix (ix_listK K rfl) (pv 1) (pv 0) (fun _ _ => rfl))⟩)))
    pss_nil), ?_⟩
  refine top_T (S := (SC.add (SC.add SC.nil K (rV rInt) v_0 a_0) K (rV rInt) v_1 a_1)) (σ := [some v_0, some v_1]) 0 ?_ (SC.i (SC.i SC.t h_0) h_1) hm q rfl
  unfold m_product
  exact (sv_ret (ev_comp (fun _ => tg1 0) (walk_list (evs_var (r := (rV rInt)) 0 rfl (fun _ s => (SC.r (SC.l s))))) (fun C1 a2 v3 => (EvS.ev (EvB.sh (evb_ix (evb_var (r := (rV rInt)) 1 rfl (fun _ s => (SC.r (SC.l s)))) (evb_var (r := rInt) 0 rfl (fun _ s => (SC.r s)))))))))
theorem sc_orders : FnScope ["count", "lists"] ["count"] (defScope s_orders) := ⟨rfl, rfl, rfl, by decide +kernel, rfl, by decide +kernel, by decide +kernel⟩
set_option maxHeartbeats 4000000 in
theorem ok_orders (D : Def K mg "orders" s_orders ["count"]) (g_refuse_above : Fn P w K mg base 1 "refuse_above" ["most", "size"] (sp2 rInt rInt oU m_refuse_above K)) (g_each_once : Fn P w K mg base 2 "each_once" ["count"] (sp1 rInt (oL (oL (oF rInt))) m_each_once K)) (g_product : Fn P w K mg base 1 "product" ["a", "b"] (sp2 (rV rInt) (rV rInt) (oL (oF rInt)) m_product K)) (Z : Blt mg) : Fn P w K mg base 3 "orders" ["count"] (sp1 rInt (oL (oL (oF rInt))) m_orders K) := by
  refine fn_mk D sc_orders (fun vs H Q E h => ?_) (fun f cdv A outer s H vs Q E hr h => ?_)
  · obtain ⟨v_0, a_0, b, rfl, _⟩ := h; rfl
  obtain ⟨v_0, a_0, b, rfl, h_0, hm, q⟩ := h
  have hu := hu8 hr
  have hu1 := hu_of hr
  refine ⟨_, (pss_cons (ps_expr (pe_fn g_refuse_above hr (by decide) (pa_cons (pe_cst Z.c_MOST_THINGS rfl) (pa_cons (pv 0) pa_nil))))
    (pss_cons (ps_set (i := 1) sc_orders.nd rfl (Or.inr rfl) (pe_fn g_each_once hr (by decide) (pa_cons (pv 0) pa_nil)))
    (pss_cons (ps_ret (pe_compJ (sc := (defScope s_orders)) (N0 := ["count", "lists"]) (tns := ["a"]) (caps := [(1, "lists")]) rfl (pi_listK (K := K) rfl (pv 1)) (gk_name (by decide)) (fun cl C s H ex E => ⟨pg_name (i := 0) (show List.Nodup (["a", "lists"] : List Str) by decide +kernel) rfl (Or.inr rfl) (hf := Or.inl rfl), pts_nil, (pe_compJ (sc := (relab cs_48_11 (defScope s_orders))) (N0 := ["a", "lists"]) (tns := ["b"]) (caps := [(1, "lists"), (0, "a")]) rfl (pi_listK (K := K) rfl (pv 1)) (gk_name (by decide)) (fun cl C s H ex E => ⟨pg_name (i := 0) (show List.Nodup (["b", "lists", "a"] : List Str) by decide +kernel) rfl (Or.inl rfl), pts_nil, (pe_bmI (K := K) rfl PySem.F.plainAttrs_list PySem.F.slot_list_index PySem.F.type_list_index (mt_indexE K rfl (eq_V eq_int) (by decide) hu) (pv 1) (pa_cons (pe_fn g_product hr (by decide) (pa_cons (pv 2) (pa_cons (pv 0) pa_nil))) pa_nil))⟩))⟩)))
    pss_nil))), ?_⟩
  refine top_T (S := (SC.add SC.nil K rInt v_0 a_0)) (σ := [some v_0, none]) 0 ?_ (SC.i SC.t h_0) hm q rfl
  unfold m_orders
  exact (sv_expr (Ev.toB (ev_call2 (evb_int 4) (evb_var (r := rInt) 0 rfl (fun _ s => (SC.r s))))) (sv_set (K := K) (r := (rV (rV rInt))) 1 (Ev.sh (ev_call1 (evb_var (r := rInt) 0 rfl (fun _ s => (SC.r s))))) fun a5 v6 => (sv_ret (ev_comp (fun _ => tg1 0) (walk_list (evs_var (r := (rV (rV rInt))) 1 rfl (fun _ s => (SC.r s)))) (fun C9 a10 v11 => (ev_comp (fun _ => tg1 0) (walk_list (evs_var (r := (rV (rV rInt))) 1 rfl (fun _ s => (SC.r (SC.l s))))) (fun C13 a14 v15 => (EvS.ev (EvB.sh (evb_indexE (evb_var (r := (rV (rV rInt))) 1 rfl (fun _ s => (SC.r (SC.l (SC.l s))))) (Ev.toB (ev_call2 (evb_var (r := (rV rInt)) 2 rfl (fun _ s => (SC.r (SC.l s)))) (evb_var (r := (rV rInt)) 0 rfl (fun _ s => (SC.r s)))))))))))))))
theorem sc_both : FnScope ["one", "other"] ["one", "other"] (defScope s_both) := ⟨rfl, rfl, rfl, by decide +kernel, rfl, by decide +kernel, by decide +kernel⟩
set_option maxHeartbeats 4000000 in
theorem ok_both (D : Def K mg "both" s_both ["one", "other"]) (g_paired : Fn P w K mg base 2 "paired" ["one", "other"] (sp2 (rV (rV rInt)) (rV (rV rInt)) (oL (oL (oF rInt))) m_paired K)) (Z : Blt mg) : Fn P w K mg base 3 "both" ["one", "other"] (sp2 (rV (rV rInt)) (rV (rV rInt)) (oL (oL (oF rInt))) m_both K) := by
  refine fn_mk D sc_both (fun vs H Q E h => ?_) (fun f cdv A outer s H vs Q E hr h => ?_)
  · obtain ⟨v_0, v_1, a_0, a_1, b, rfl, _⟩ := h; rfl
  obtain ⟨v_0, v_1, a_0, a_1, b, rfl, h_0, h_1, hm, q⟩ := h
  have hu := hu8 hr
  have hu1 := hu_of hr
  refine ⟨_, (pss_cons (ps_ret (pe_fn g_paired hr (by decide) (pa_cons (pv 0) (pa_cons (pv 1) pa_nil))))
    pss_nil), ?_⟩
  refine top_T (S := (SC.add (SC.add SC.nil K (rV (rV rInt)) v_0 a_0) K (rV (rV rInt)) v_1 a_1)) (σ := [some v_0, some v_1]) 0 ?_ (SC.i (SC.i SC.t h_0) h_1) hm q rfl
  unfold m_both
  exact (sv_ret (ev_call2 (evb_var (r := (rV (rV rInt))) 0 rfl (fun _ s => (SC.r (SC.l s)))) (evb_var (r := (rV (rV rInt))) 1 rfl (fun _ s => (SC.r s)))))
theorem sc_inverse : FnScope ["group", "a"] ["group", "a"] (defScope s_inverse) := ⟨rfl, rfl, rfl, by decide +kernel, rfl, by decide +kernel, by decide +kernel⟩
set_option maxHeartbeats 4000000 in
theorem ok_inverse (D : Def K mg "inverse" s_inverse ["group", "a"])  (Z : Blt mg) : Fn P w K mg base 1 "inverse" ["group", "a"] (sp2 (rV (rV rInt)) rInt (oF rInt) m_inverse K) := by
  refine fn_mk D sc_inverse (fun vs H Q E h => ?_) (fun f cdv A outer s H vs Q E hr h => ?_)
  · obtain ⟨v_0, v_1, a_0, a_1, b, rfl, _⟩ := h; rfl
  obtain ⟨v_0, v_1, a_0, a_1, b, rfl, h_0, h_1, hm, q⟩ := h
  have hu := hu8 hr
  have hu1 := hu_of hr
  refine ⟨_, (pss_cons (ps_ret (pe_bmI (K := K) rfl PySem.F.plainAttrs_list PySem.F.slot_list_index PySem.F.type_list_index (mt_indexK K rfl) (pe_ix (ix_listK K rfl) (pv 0) (pv 1) (fun _ _ => rfl)) (pa_cons pe_int pa_nil)))
    pss_nil), ?_⟩
  refine top_T (S := (SC.add (SC.add SC.nil K (rV (rV rInt)) v_0 a_0) K rInt v_1 a_1)) (σ := [some v_0, some v_1]) 0 ?_ (SC.i (SC.i SC.t h_0) h_1) hm q rfl
  unfold m_inverse
  exact (sv_ret (EvS.ev (EvB.sh (evb_index (evb_ix (evb_var (r := (rV (rV rInt))) 0 rfl (fun _ s => (SC.r (SC.l s)))) (evb_var (r := rInt) 1 rfl (fun _ s => (SC.r s)))) (evb_int 0)))))
theorem sc_step_beyond : FnScope ["table", "known", "a", "b"] ["table", "known"] (defScope s_step_beyond) := ⟨rfl, rfl, rfl, by decide +kernel, rfl, by decide +kernel, by decide +kernel⟩
set_option maxHeartbeats 4000000 in
theorem ok_step_beyond (D : Def K mg "step_beyond" s_step_beyond ["table", "known"])  (Z : Blt mg) : Fn P w K mg base 1 "step_beyond" ["table", "known"] (sp2 (rV (rV rInt)) (rDf rInt) (oF (rOpt (rP3 rInt rInt rInt))) m_step_beyond K) := by
  refine fn_mk D sc_step_beyond (fun vs H Q E h => ?_) (fun f cdv A outer s H vs Q E hr h => ?_)
  · obtain ⟨v_0, v_1, a_0, a_1, b, rfl, _⟩ := h; rfl
  obtain ⟨v_0, v_1, a_0, a_1, b, rfl, h_0, h_1, hm, q⟩ := h
  have hu := hu8 hr
  have hu1 := hu_of hr
  refine ⟨_, (pss_cons (ps_for PassesOwn.never rfl (pi_dict (pv 1)) (pg_name (i := 2) sc_step_beyond.nd rfl (Or.inl rfl))
      (pss_cons (ps_for PassesOwn.never rfl (pi_dict (pv 1)) (pg_name (i := 3) sc_step_beyond.nd rfl (Or.inl rfl))
        (pss_cons (ps_if (pt_cmp (pc_dnotin hu1 (pe_ix (ix_listK K rfl) (pe_ix (ix_listK K rfl) (pv 0) (pv 2) (fun _ _ => rfl)) (pv 3) (fun _ _ => rfl)) (pv 1)))
          (pss_cons (ps_ret (pe_tup (pa_cons (pe_ix (ix_listK K rfl) (pe_ix (ix_listK K rfl) (pv 0) (pv 2) (fun _ _ => rfl)) (pv 3) (fun _ _ => rfl)) (pa_cons (pv 2) (pa_cons (pv 3) pa_nil)))))
          pss_nil)
          pss_nil)
        pss_nil))
      pss_nil))
    (pss_cons (ps_ret pe_non)
    pss_nil)), ?_⟩
  refine top_T (S := (SC.add (SC.add SC.nil K (rV (rV rInt)) v_0 a_0) K (rDf rInt) v_1 a_1)) (σ := [some v_0, some v_1, none, none]) 0 ?_ (SC.i (SC.i SC.t h_0) h_1) hm q rfl
  unfold m_step_beyond
  exact (sv_forC (K := K) (J := ({ oo := fun x2 => [], ss := fun x2 => [some v_0, some v_1, x2.1, x2.2], sc := fun g3 x2 => (SC.add (SC.add SC.nil K (rV (rV rInt)) v_0 a_0) K (rDf rInt) v_1 a_1) } : Jn (Unit) (Option V × Option V))) (fun _ => tg1 2) ((none), (none)) () (walk_dictF (evs_var (r := (rDf rInt)) 1 rfl (fun _ s => (SC.r s)))) rfl rfl (fun _ s => (SC.i (SC.i SC.t (SC.r (SC.l s))) (SC.r s))) (fun g4 x5 a6 v7 => (sv_forCC (K := K) (J := ({ oo := fun x9 => [], ss := fun x9 => [some v_0, some v_1, some v7, x9], sc := fun g10 x9 => (SC.add (SC.add (SC.add SC.nil K (rV (rV rInt)) v_0 a_0) K (rDf rInt) v_1 a_1) K rInt v7 a6) } : Jn (Unit) (Option V))) (fun _ => tg1 3) ((x5.2)) () (walk_dictF (evs_var (r := (rDf rInt)) 1 rfl (fun _ s => (SC.r (SC.l s))))) rfl rfl (fun _ s => (SC.i (SC.i (SC.i SC.t (SC.r (SC.l (SC.l s)))) (SC.r (SC.l s))) (SC.r s))) (fun g11 x12 a13 v14 => (sv_ifRC (evt_B (K := K) (evb_dninF (evb_ix (evb_ix (evb_var (r := (rV (rV rInt))) 0 rfl (fun _ s => (SC.r (SC.l (SC.l (SC.l s)))))) (evb_var (r := rInt) 2 rfl (fun _ s => (SC.r (SC.l s))))) (evb_var (r := rInt) 3 rfl (fun _ s => (SC.r s)))) (evb_var (r := (rDf rInt)) 1 rfl (fun _ s => (SC.r (SC.l (SC.l s))))))) (sv_ret (evf_some nn_P3 (EvS.ev (evs_tup3 (EvB.sh (evb_ix (evb_ix (evb_var (r := (rV (rV rInt))) 0 rfl (fun _ s => (SC.r (SC.l (SC.l (SC.l s)))))) (evb_var (r := rInt) 2 rfl (fun _ s => (SC.r (SC.l s))))) (evb_var (r := rInt) 3 rfl (fun _ s => (SC.r s))))) (evs_var (r := rInt) 2 rfl (fun _ s => (SC.r (SC.l s)))) (evs_var (r := rInt) 3 rfl (fun _ s => (SC.r s))))))) (sv_nxC (sv_end (J := _) ((some v14)) () rfl rfl (fun _ s => (SC.i (SC.i (SC.i SC.t (SC.r (SC.l (SC.l (SC.l s))))) (SC.r (SC.l (SC.l s)))) (SC.r (SC.l s)))))))) fun g32 x33 => (sv_nxC (sv_end (J := _) ((some v7), (x33)) () rfl rfl (fun _ s => (SC.i (SC.i SC.t (SC.r (SC.l (SC.l s)))) (SC.r (SC.l s)))))))) fun g36 x37 => (sv_ret evf_non))
theorem sc_part : FnScope ["table", "members", "places"] ["table", "members"] (defScope s_part) := ⟨rfl, rfl, rfl, by decide +kernel, rfl, by decide +kernel, by decide +kernel⟩
set_option maxHeartbeats 4000000 in
theorem ok_part (D : Def K mg "part" s_part ["table", "members"]) (g_step_beyond : Fn P w K mg base 1 "step_beyond" ["table", "known"] (sp2 (rV (rV rInt)) (rDf rInt) (oF (rOpt (rP3 rInt rInt rInt))) m_step_beyond K)) (Z : Blt mg) : Fn P w K mg base 2 "part" ["table", "members"] (sp2 (rV (rV rInt)) (rV rInt) (oL (oL (oF rInt))) m_part K) := by
  refine fn_mk D sc_part (fun vs H Q E h => ?_) (fun f cdv A outer s H vs Q E hr h => ?_)
  · obtain ⟨v_0, v_1, a_0, a_1, b, rfl, _⟩ := h; rfl
  obtain ⟨v_0, v_1, a_0, a_1, b, rfl, h_0, h_1, hm, q⟩ := h
  have hu := hu8 hr
  have hu1 := hu_of hr
  refine ⟨_, (pss_cons (ps_set (i := 2) sc_part.nd rfl (Or.inr rfl) (pe_callTy (call_dict_of K rfl rfl) rfl Z.b_dict PyProof.Rows.boot_dict (pa_cons (pe_compI (sc := (defScope s_part)) (N0 := ["table", "members", "places"]) (tns := ["place", "member"]) (caps := []) rfl (pi_enum rfl Z.b_enumerate (pv 1)) (gk_tup2 (by decide) (by decide)) (fun cl C s H ex E => ⟨pg_tupK K rfl rfl (pgs_cons (pg_name (i := 0) (show List.Nodup (["place", "member"] : List Str) by decide +kernel) rfl (Or.inl rfl)) (pgs_cons (pg_name (i := 1) (show List.Nodup (["place", "member"] : List Str) by decide +kernel) rfl (Or.inl rfl)) pgs_nil)), pts_nil, (pe_tup (pa_cons (pv 1) (pa_cons (pv 0) pa_nil)))⟩)) pa_nil)))
    (pss_cons (ps_if (PW.pt (pw_or (pt_cmpR op_eq (pe_callB (call_len_seqK K rfl) rfl Z.b_len PySem.boot_len (pa_cons (pv 1) pa_nil)) pe_int (nomark _)) (pw_or1 (pt_cmpR op_notN (pe_fz 2 (pe_fn g_step_beyond hr (by decide) (pa_cons (pv 0) (pa_cons (pv 2) pa_nil)))) pe_non (nomark _)))))
      (pss_cons ps_never
      pss_nil)
      pss_nil)
    (pss_cons (ps_ret (pe_compJ (sc := (defScope s_part)) (N0 := ["table", "members", "places"]) (tns := ["a"]) (caps := [(2, "places"), (0, "table"), (1, "members")]) rfl (pi_listK (K := K) rfl (pv 1)) (gk_name (by decide)) (fun cl C s H ex E => ⟨pg_name (i := 0) (show List.Nodup (["a", "places", "table", "members"] : List Str) by decide +kernel) rfl (Or.inr rfl) (hf := Or.inl rfl), pts_nil, (pe_compJ (sc := (relab cs_66_11 (defScope s_part))) (N0 := ["a", "places", "table", "members"]) (tns := ["b"]) (caps := [(1, "places"), (2, "table"), (0, "a")]) rfl (pi_listK (K := K) rfl (pv 3)) (gk_name (by decide)) (fun cl C s H ex E => ⟨pg_name (i := 0) (show List.Nodup (["b", "places", "table", "a"] : List Str) by decide +kernel) rfl (Or.inl rfl), pts_nil, (pe_dget hu1 (pv 1) (pe_ix (ix_listK K rfl) (pe_ix (ix_listK K rfl) (pv 2) (pv 3) (fun _ _ => rfl)) (pv 0) (fun _ _ => rfl)) (fun _ _ => rfl))⟩))⟩)))
    pss_nil))), ?_⟩
  refine top_T (S := (SC.add (SC.add SC.nil K (rV (rV rInt)) v_0 a_0) K (rV rInt) v_1 a_1)) (σ := [some v_0, some v_1, none]) 1 ?_ (SC.i (SC.i SC.t h_0) h_1) hm q rfl
  unfold m_part
  exact (sv_setO (K := K) (o := (oD rInt)) 2 0 (ev_dictP (Ev.ls (ev_comp (fun _ => tg2 0 1) (walk_enum (evs_var (r := (rV rInt)) 1 rfl (fun _ s => (SC.r s)))) (fun C6 a7 v8 => (EvS.ev (evs_tup2 (evs_var (r := rInt) 1 rfl (fun _ s => (SC.r s))) (evs_var (r := rInt) 0 rfl (fun _ s => (SC.r (SC.l s)))))))))) (Nat.le_of_ble_eq_true rfl) fun a1 v2 C3 => (sv_ifR (evt_or (evt_test (K := K) (evb_eq (evb_len (evb_var (r := (rV rInt)) 1 rfl (fun _ s => (SC.r (SC.l s))))) (evb_int 0))) (evt_test (K := K) (evb_notN (tb := tC .non) (Ev.toB (ev_lendF (K := K) (r := rInt) 2 0 rfl rfl (fun _ s => (SC.r s)) (fun _ => noE_ne) (ev_call2 (evb_var (r := (rV (rV rInt))) 0 rfl (fun _ s => (SC.r (SC.l (SC.l (SC.l s)))))) (evb_var (r := (rDf rInt)) 2 rfl (fun _ s => (SC.r s))))))))) sv_bad (sv_ret (ev_comp (fun _ => tg1 0) (walk_list (evs_var (r := (rV rInt)) 1 rfl (fun _ s => (SC.r (SC.l s))))) (fun C21 a22 v23 => (ev_comp (fun _ => tg1 0) (walk_list (evs_var (r := (rV rInt)) 3 rfl (fun _ s => (SC.r (SC.l (SC.l s)))))) (fun C25 a26 v27 => (EvS.ev (EvB.sh (evb_dget (evb_own (o := (oD rInt)) 1 2 rfl rfl (fun _ s => (SC.r (SC.l (SC.l s))))) (evb_ix (evb_ix (evb_var (r := (rV (rV rInt))) 2 rfl (fun _ s => (SC.r (SC.l (SC.l (SC.l (SC.l s))))))) (evb_var (r := rInt) 3 rfl (fun _ s => (SC.r (SC.l s))))) (evb_var (r := rInt) 0 rfl (fun _ s => (SC.r s))))))))))))))
theorem sc_conjugate : FnScope ["group", "a", "b"] ["group", "a", "b"] (defScope s_conjugate) := ⟨rfl, rfl, rfl, by decide +kernel, rfl, by decide +kernel, by decide +kernel⟩
set_option maxHeartbeats 4000000 in
theorem ok_conjugate (D : Def K mg "conjugate" s_conjugate ["group", "a", "b"]) (g_inverse : Fn P w K mg base 1 "inverse" ["group", "a"] (sp2 (rV (rV rInt)) rInt (oF rInt) m_inverse K)) (Z : Blt mg) : Fn P w K mg base 2 "conjugate" ["group", "a", "b"] (sp3 (rV (rV rInt)) rInt rInt (oF rInt) m_conjugate K) := by
  refine fn_mk D sc_conjugate (fun vs H Q E h => ?_) (fun f cdv A outer s H vs Q E hr h => ?_)
  · obtain ⟨v_0, v_1, v_2, a_0, a_1, a_2, b, rfl, _⟩ := h; rfl
  obtain ⟨v_0, v_1, v_2, a_0, a_1, a_2, b, rfl, h_0, h_1, h_2, hm, q⟩ := h
  have hu := hu8 hr
  have hu1 := hu_of hr
  refine ⟨_, (pss_cons (ps_ret (pe_ix (ix_listK K rfl) (pe_ix (ix_listK K rfl) (pv 0) (pe_ix (ix_listK K rfl) (pe_ix (ix_listK K rfl) (pv 0) (pe_fn g_inverse hr (by decide) (pa_cons (pv 0) (pa_cons (pv 2) pa_nil))) (fun _ _ => rfl)) (pv 1) (fun _ _ => rfl)) (fun _ _ => rfl)) (pv 2) (fun _ _ => rfl)))
    pss_nil), ?_⟩
  refine top_T (S := (SC.add (SC.add (SC.add SC.nil K (rV (rV rInt)) v_0 a_0) K rInt v_1 a_1) K rInt v_2 a_2)) (σ := [some v_0, some v_1, some v_2]) 0 ?_ (SC.i (SC.i (SC.i SC.t h_0) h_1) h_2) hm q rfl
  unfold m_conjugate
  exact (sv_ret (EvS.ev (EvB.sh (evb_ix (evb_ix (evb_var (r := (rV (rV rInt))) 0 rfl (fun _ s => (SC.r (SC.l (SC.l s))))) (evb_ix (evb_ix (evb_var (r := (rV (rV rInt))) 0 rfl (fun _ s => (SC.r (SC.l (SC.l s))))) (Ev.toB (ev_call2 (evb_var (r := (rV (rV rInt))) 0 rfl (fun _ s => (SC.r (SC.l (SC.l s))))) (evb_var (r := rInt) 2 rfl (fun _ s => (SC.r s)))))) (evb_var (r := rInt) 1 rfl (fun _ s => (SC.r (SC.l s)))))) (evb_var (r := rInt) 2 rfl (fun _ s => (SC.r s)))))))
theorem sc_conjugates : FnScope ["group", "size"] ["group"] (defScope s_conjugates) := ⟨rfl, rfl, rfl, by decide +kernel, rfl, by decide +kernel, by decide +kernel⟩
set_option maxHeartbeats 4000000 in
theorem ok_conjugates (D : Def K mg "conjugates" s_conjugates ["group"]) (g_conjugate : Fn P w K mg base 2 "conjugate" ["group", "a", "b"] (sp3 (rV (rV rInt)) rInt rInt (oF rInt) m_conjugate K)) (Z : Blt mg) : Fn P w K mg base 3 "conjugates" ["group"] (sp1 (rV (rV rInt)) (oL (oL (oF rInt))) m_conjugates K) := by
  refine fn_mk D sc_conjugates (fun vs H Q E h => ?_) (fun f cdv A outer s H vs Q E hr h => ?_)
  · obtain ⟨v_0, a_0, b, rfl, _⟩ := h; rfl
  obtain ⟨v_0, a_0, b, rfl, h_0, hm, q⟩ := h
  have hu := hu8 hr
  have hu1 := hu_of hr
  refine ⟨_, (pss_cons (ps_set (i := 1) sc_conjugates.nd rfl (Or.inr rfl) (pe_callB (call_len_seqK K rfl) rfl Z.b_len PySem.boot_len (pa_cons (pv 0) pa_nil)))
    (pss_cons (ps_ret (pe_compJ (sc := (defScope s_conjugates)) (N0 := ["group", "size"]) (tns := ["a"]) (caps := [(0, "group"), (1, "size")]) rfl (pi_range1 rfl Z.b_range (pa_cons (pv 1) pa_nil)) (gk_name (by decide)) (fun cl C s H ex E => ⟨pg_name (i := 0) (show List.Nodup (["a", "group", "size"] : List Str) by decide +kernel) rfl (Or.inr rfl) (hf := Or.inl rfl), pts_nil, (pe_compJ (sc := (relab cs_70_11 (defScope s_conjugates))) (N0 := ["a", "group", "size"]) (tns := ["b"]) (caps := [(1, "group"), (0, "a")]) rfl (pi_range1 rfl Z.b_range (pa_cons (pv 2) pa_nil)) (gk_name (by decide)) (fun cl C s H ex E => ⟨pg_name (i := 0) (show List.Nodup (["b", "group", "a"] : List Str) by decide +kernel) rfl (Or.inl rfl), pts_nil, (pe_fn g_conjugate hr (by decide) (pa_cons (pv 1) (pa_cons (pv 2) (pa_cons (pv 0) pa_nil))))⟩))⟩)))
    pss_nil)), ?_⟩
  refine top_T (S := (SC.add SC.nil K (rV (rV rInt)) v_0 a_0)) (σ := [some v_0, none]) 0 ?_ (SC.i SC.t h_0) hm q rfl
  unfold m_conjugates
  exact (sv_set (K := K) (r := rInt) 1 (EvB.sh (evb_len (evb_var (r := (rV (rV rInt))) 0 rfl (fun _ s => (SC.r s))))) fun a1 v2 => (sv_ret (ev_comp (fun _ => tg1 0) (walk_range1 (evb_var (r := rInt) 1 rfl (fun _ s => (SC.r s)))) (fun C5 a6 v7 => (ev_comp (fun _ => tg1 0) (walk_range1 (evb_var (r := rInt) 2 rfl (fun _ s => (SC.r (SC.l s))))) (fun C10 a11 v12 => (ev_call3 (evb_var (r := (rV (rV rInt))) 1 rfl (fun _ s => (SC.r (SC.l (SC.l (SC.l s)))))) (evb_var (r := rInt) 2 rfl (fun _ s => (SC.r (SC.l s)))) (evb_var (r := rInt) 0 rfl (fun _ s => (SC.r s))))))))))
theorem sc_core : FnScope ["group", "a", "b"] ["group", "a", "b"] (defScope s_core) := ⟨rfl, rfl, rfl, by decide +kernel, rfl, by decide +kernel, by decide +kernel⟩
set_option maxHeartbeats 4000000 in
theorem ok_core (D : Def K mg "core" s_core ["group", "a", "b"]) (g_inverse : Fn P w K mg base 1 "inverse" ["group", "a"] (sp2 (rV (rV rInt)) rInt (oF rInt) m_inverse K)) (Z : Blt mg) : Fn P w K mg base 2 "core" ["group", "a", "b"] (sp3 (rV (rV rInt)) rInt rInt (oF rInt) m_core K) := by
  refine fn_mk D sc_core (fun vs H Q E h => ?_) (fun f cdv A outer s H vs Q E hr h => ?_)
  · obtain ⟨v_0, v_1, v_2, a_0, a_1, a_2, b, rfl, _⟩ := h; rfl
  obtain ⟨v_0, v_1, v_2, a_0, a_1, a_2, b, rfl, h_0, h_1, h_2, hm, q⟩ := h
  have hu := hu8 hr
  have hu1 := hu_of hr
  refine ⟨_, (pss_cons (ps_ret (pe_ix (ix_listK K rfl) (pe_ix (ix_listK K rfl) (pv 0) (pe_ix (ix_listK K rfl) (pe_ix (ix_listK K rfl) (pv 0) (pv 2) (fun _ _ => rfl)) (pe_fn g_inverse hr (by decide) (pa_cons (pv 0) (pa_cons (pv 1) pa_nil))) (fun _ _ => rfl)) (fun _ _ => rfl)) (pv 2) (fun _ _ => rfl)))
    pss_nil), ?_⟩
  refine top_T (S := (SC.add (SC.add (SC.add SC.nil K (rV (rV rInt)) v_0 a_0) K rInt v_1 a_1) K rInt v_2 a_2)) (σ := [some v_0, some v_1, some v_2]) 0 ?_ (SC.i (SC.i (SC.i SC.t h_0) h_1) h_2) hm q rfl
  unfold m_core
  exact (sv_ret (EvS.ev (EvB.sh (evb_ix (evb_ix (evb_var (r := (rV (rV rInt))) 0 rfl (fun _ s => (SC.r (SC.l (SC.l s))))) (evb_ix (evb_ix (evb_var (r := (rV (rV rInt))) 0 rfl (fun _ s => (SC.r (SC.l (SC.l s))))) (evb_var (r := rInt) 2 rfl (fun _ s => (SC.r s)))) (Ev.toB (ev_call2 (evb_var (r := (rV (rV rInt))) 0 rfl (fun _ s => (SC.r (SC.l (SC.l s))))) (evb_var (r := rInt) 1 rfl (fun _ s => (SC.r (SC.l s)))))))) (evb_var (r := rInt) 2 rfl (fun _ s => (SC.r s)))))))
theorem sc_cores : FnScope ["group", "size"] ["group"] (defScope s_cores) := ⟨rfl, rfl, rfl, by decide +kernel, rfl, by decide +kernel, by decide +kernel⟩
set_option maxHeartbeats 4000000 in
theorem ok_cores (D : Def K mg "cores" s_cores ["group"]) (g_core : Fn P w K mg base 2 "core" ["group", "a", "b"] (sp3 (rV (rV rInt)) rInt rInt (oF rInt) m_core K)) (Z : Blt mg) : Fn P w K mg base 3 "cores" ["group"] (sp1 (rV (rV rInt)) (oL (oL (oF rInt))) m_cores K) := by
  refine fn_mk D sc_cores (fun vs H Q E h => ?_) (fun f cdv A outer s H vs Q E hr h => ?_)
  · obtain ⟨v_0, a_0, b, rfl, _⟩ := h; rfl
  obtain ⟨v_0, a_0, b, rfl, h_0, hm, q⟩ := h
  have hu := hu8 hr
  have hu1 := hu_of hr
  refine ⟨_, (pss_cons (ps_set (i := 1) sc_cores.nd rfl (Or.inr rfl) (pe_callB (call_len_seqK K rfl) rfl Z.b_len PySem.boot_len (pa_cons (pv 0) pa_nil)))
    (pss_cons (ps_ret (pe_compJ (sc := (defScope s_cores)) (N0 := ["group", "size"]) (tns := ["a"]) (caps := [(0, "group"), (1, "size")]) rfl (pi_range1 rfl Z.b_range (pa_cons (pv 1) pa_nil)) (gk_name (by decide)) (fun cl C s H ex E => ⟨pg_name (i := 0) (show List.Nodup (["a", "group", "size"] : List Str) by decide +kernel) rfl (Or.inr rfl) (hf := Or.inl rfl), pts_nil, (pe_compJ (sc := (relab cs_75_11 (defScope s_cores))) (N0 := ["a", "group", "size"]) (tns := ["b"]) (caps := [(1, "group"), (0, "a")]) rfl (pi_range1 rfl Z.b_range (pa_cons (pv 2) pa_nil)) (gk_name (by decide)) (fun cl C s H ex E => ⟨pg_name (i := 0) (show List.Nodup (["b", "group", "a"] : List Str) by decide +kernel) rfl (Or.inl rfl), pts_nil, (pe_fn g_core hr (by decide) (pa_cons (pv 1) (pa_cons (pv 2) (pa_cons (pv 0) pa_nil))))⟩))⟩)))
    pss_nil)), ?_⟩
  refine top_T (S := (SC.add SC.nil K (rV (rV rInt)) v_0 a_0)) (σ := [some v_0, none]) 0 ?_ (SC.i SC.t h_0) hm q rfl
  unfold m_cores
  exact (sv_set (K := K) (r := rInt) 1 (EvB.sh (evb_len (evb_var (r := (rV (rV rInt))) 0 rfl (fun _ s => (SC.r s))))) fun a1 v2 => (sv_ret (ev_comp (fun _ => tg1 0) (walk_range1 (evb_var (r := rInt) 1 rfl (fun _ s => (SC.r s)))) (fun C5 a6 v7 => (ev_comp (fun _ => tg1 0) (walk_range1 (evb_var (r := rInt) 2 rfl (fun _ s => (SC.r (SC.l s))))) (fun C10 a11 v12 => (ev_call3 (evb_var (r := (rV (rV rInt))) 1 rfl (fun _ s => (SC.r (SC.l (SC.l (SC.l s)))))) (evb_var (r := rInt) 2 rfl (fun _ s => (SC.r (SC.l s)))) (evb_var (r := rInt) 0 rfl (fun _ s => (SC.r s))))))))))
theorem sc_class_of : FnScope ["group", "a"] ["group", "a"] (defScope s_class_of) := ⟨rfl, rfl, rfl, by decide +kernel, rfl, by decide +kernel, by decide +kernel⟩
set_option maxHeartbeats 4000000 in
theorem ok_class_of (D : Def K mg "class_of" s_class_of ["group", "a"]) (g_conjugate : Fn P w K mg base 2 "conjugate" ["group", "a", "b"] (sp3 (rV (rV rInt)) rInt rInt (oF rInt) m_conjugate K)) (Z : Blt mg) : Fn P w K mg base 3 "class_of" ["group", "a"] (sp2 (rV (rV rInt)) rInt (oL (oF rInt)) m_class_of K) := by
  refine fn_mk D sc_class_of (fun vs H Q E h => ?_) (fun f cdv A outer s H vs Q E hr h => ?_)
  · obtain ⟨v_0, v_1, a_0, a_1, b, rfl, _⟩ := h; rfl
  obtain ⟨v_0, v_1, a_0, a_1, b, rfl, h_0, h_1, hm, q⟩ := h
  have hu := hu8 hr
  have hu1 := hu_of hr
  refine ⟨_, (pss_cons (ps_ret (pe_callB (call_sortedS_of rfl) rfl Z.b_sorted PyProof.Rows.boot_sorted (pa_cons (pe_callTy (call_set_of K rfl rfl) rfl Z.b_set PySem.Pv.boot_set (pa_cons (pe_compI (sc := (defScope s_class_of)) (N0 := ["group", "a"]) (tns := ["b"]) (caps := [(0, "group"), (1, "a")]) rfl (pi_range1 rfl Z.b_range (pa_cons (pe_callB (call_len_seqK K rfl) rfl Z.b_len PySem.boot_len (pa_cons (pv 0) pa_nil)) pa_nil)) (gk_name (by decide)) (fun cl C s H ex E => ⟨pg_name (i := 0) (show List.Nodup (["b", "group", "a"] : List Str) by decide +kernel) rfl (Or.inl rfl), pts_nil, (pe_fn g_conjugate hr (by decide) (pa_cons (pv 1) (pa_cons (pv 2) (pa_cons (pv 0) pa_nil))))⟩)) pa_nil)) pa_nil)))
    pss_nil), ?_⟩
  refine top_T (S := (SC.add (SC.add SC.nil K (rV (rV rInt)) v_0 a_0) K rInt v_1 a_1)) (σ := [some v_0, some v_1]) 0 ?_ (SC.i (SC.i SC.t h_0) h_1) hm q rfl
  unfold m_class_of
  exact (sv_ret (ev_sortS (Ev.ls (ev_comp (fun _ => tg1 0) (walk_range1 (evb_len (evb_var (r := (rV (rV rInt))) 0 rfl (fun _ s => (SC.r (SC.l s)))))) (fun C4 a5 v6 => (ev_call3 (evb_var (r := (rV (rV rInt))) 1 rfl (fun _ s => (SC.r (SC.l (SC.l s))))) (evb_var (r := rInt) 2 rfl (fun _ s => (SC.r (SC.l s)))) (evb_var (r := rInt) 0 rfl (fun _ s => (SC.r s)))))))))
theorem sc_class_table : FnScope ["group", "a"] ["group", "a"] (defScope s_class_table) := ⟨rfl, rfl, rfl, by decide +kernel, rfl, by decide +kernel, by decide +kernel⟩
set_option maxHeartbeats 4000000 in
theorem ok_class_table (D : Def K mg "class_table" s_class_table ["group", "a"]) (g_part : Fn P w K mg base 2 "part" ["table", "members"] (sp2 (rV (rV rInt)) (rV rInt) (oL (oL (oF rInt))) m_part K)) (g_conjugates : Fn P w K mg base 3 "conjugates" ["group"] (sp1 (rV (rV rInt)) (oL (oL (oF rInt))) m_conjugates K)) (g_class_of : Fn P w K mg base 3 "class_of" ["group", "a"] (sp2 (rV (rV rInt)) rInt (oL (oF rInt)) m_class_of K)) (Z : Blt mg) : Fn P w K mg base 4 "class_table" ["group", "a"] (sp2 (rV (rV rInt)) rInt (oL (oL (oF rInt))) m_class_table K) := by
  refine fn_mk D sc_class_table (fun vs H Q E h => ?_) (fun f cdv A outer s H vs Q E hr h => ?_)
  · obtain ⟨v_0, v_1, a_0, a_1, b, rfl, _⟩ := h; rfl
  obtain ⟨v_0, v_1, a_0, a_1, b, rfl, h_0, h_1, hm, q⟩ := h
  have hu := hu8 hr
  have hu1 := hu_of hr
  refine ⟨_, (pss_cons (ps_ret (pe_fn g_part hr (by decide) (pa_cons (pe_fn g_conjugates hr (by decide) (pa_cons (pv 0) pa_nil)) (pa_cons (pe_fn g_class_of hr (by decide) (pa_cons (pv 0) (pa_cons (pv 1) pa_nil))) pa_nil))))
    pss_nil), ?_⟩
  refine top_T (S := (SC.add (SC.add SC.nil K (rV (rV rInt)) v_0 a_0) K rInt v_1 a_1)) (σ := [some v_0, some v_1]) 0 ?_ (SC.i (SC.i SC.t h_0) h_1) hm q rfl
  unfold m_class_table
  exact (sv_ret (ev_call2 (Ev.toB (ev_call1 (evb_var (r := (rV (rV rInt))) 0 rfl (fun _ s => (SC.r (SC.l s)))))) (Ev.toB (ev_call2 (evb_var (r := (rV (rV rInt))) 0 rfl (fun _ s => (SC.r (SC.l s)))) (evb_var (r := rInt) 1 rfl (fun _ s => (SC.r s)))))))
theorem sc_common_divisor : FnScope ["factor", "size", "divisor", "rest", "left"] ["factor", "size"] (defScope s_common_divisor) := ⟨rfl, rfl, rfl, by decide +kernel, rfl, by decide +kernel, by decide +kernel⟩
set_option maxHeartbeats 4000000 in
theorem ok_common_divisor (D : Def K mg "common_divisor" s_common_divisor ["factor", "size"])  (Z : Blt mg) : Fn P w K mg base 1 "common_divisor" ["factor", "size"] (sp2 rInt rInt (oF rInt) m_common_divisor K) := by
  refine fn_mk D sc_common_divisor (fun vs H Q E h => ?_) (fun f cdv A outer s H vs Q E hr h => ?_)
  · obtain ⟨v_0, v_1, a_0, a_1, b, rfl, _⟩ := h; rfl
  obtain ⟨v_0, v_1, a_0, a_1, b, rfl, h_0, h_1, hm, q⟩ := h
  have hu := hu8 hr
  have hu1 := hu_of hr
  refine ⟨_, (pss_cons (ps_set (i := 2) sc_common_divisor.nd rfl (Or.inl rfl) (pv 1))
    (pss_cons (ps_set (i := 3) sc_common_divisor.nd rfl (Or.inl rfl) (pe_op op_mod (pv 0) (pv 1)))
    (pss_cons (ps_while PassesOwn.never (pt_cmpR op_ne (pv 3) pe_int (nomark _))
      (pss_cons (ps_set (i := 4) sc_common_divisor.nd rfl (Or.inl rfl) (pe_op op_mod (pv 2) (pv 3)))
      (pss_cons (ps_set (i := 2) sc_common_divisor.nd rfl (Or.inl rfl) (pv 3))
      (pss_cons (ps_set (i := 3) sc_common_divisor.nd rfl (Or.inl rfl) (pv 4))
      pss_nil))))
    (pss_cons (ps_ret (pv 2))
    pss_nil)))), ?_⟩
  refine top_T (S := (SC.add (SC.add SC.nil K rInt v_0 a_0) K rInt v_1 a_1)) (σ := [some v_0, some v_1, none, none, none]) 0 ?_ (SC.i (SC.i SC.t h_0) h_1) hm q rfl
  unfold m_common_divisor
  exact (sv_set (K := K) (r := rInt) 2 (evs_var (r := rInt) 1 rfl (fun _ s => (SC.r s))) fun a1 v2 => (sv_set (K := K) (r := rInt) 3 (EvB.sh (evb_mod (evb_var (r := rInt) 0 rfl (fun _ s => (SC.r (SC.l (SC.l s))))) (evb_var (r := rInt) 1 rfl (fun _ s => (SC.r (SC.l s)))))) fun a3 v4 => (sv_while (J := ({ oo := fun x7 => [], ss := fun x7 => [some v_0, some v_1, some x7.2.1, some x7.2.2, x7.1], sc := fun g8 x7 => (SC.add (SC.add (SC.add (SC.add SC.nil K rInt v_0 a_0) K rInt v_1 a_1) K rInt x7.2.1 g8.1) K rInt x7.2.2 g8.2) } : Jn (Int × Int) (Option V × V × V))) (a_1.natAbs + 2) ((none), v2, v4) (a1, a3) rfl rfl (fun _ s => (SC.i (SC.i (SC.i (SC.i SC.t (SC.r (SC.l (SC.l (SC.l s))))) (SC.r (SC.l (SC.l s)))) (SC.r (SC.l s))) (SC.r s))) (fun g9 x10 => (evt_test (K := K) (evb_ne (evb_var (r := rInt) 3 rfl (fun _ s => (SC.r s))) (evb_int 0)))) (fun g9 x10 => (sv_set (K := K) (r := rInt) 4 (EvB.sh (evb_mod (evb_var (r := rInt) 2 rfl (fun _ s => (SC.r (SC.l s)))) (evb_var (r := rInt) 3 rfl (fun _ s => (SC.r s))))) fun a13 v14 => (sv_set (K := K) (r := rInt) 2 (evs_var (r := rInt) 3 rfl (fun _ s => (SC.r (SC.l s)))) fun a17 v18 => (sv_set (K := K) (r := rInt) 3 (evs_var (r := rInt) 4 rfl (fun _ s => (SC.r (SC.l s)))) fun a19 v20 => (sv_end (J := _) ((some v14), v18, v20) (a17, a19) rfl rfl (fun _ s => (SC.i (SC.i (SC.i (SC.i SC.t (SC.r (SC.l (SC.l (SC.l (SC.l (SC.l (SC.l s)))))))) (SC.r (SC.l (SC.l (SC.l (SC.l (SC.l s))))))) (SC.r (SC.l s))) (SC.r s)))))))) fun g21 x22 => (sv_ret (EvS.ev (evs_var (r := rInt) 2 rfl (fun _ s => (SC.r (SC.l s)))))))))
theorem sc_scaled : FnScope ["size", "factor"] ["size", "factor"] (defScope s_scaled) := ⟨rfl, rfl, rfl, by decide +kernel, rfl, by decide +kernel, by decide +kernel⟩
set_option maxHeartbeats 4000000 in
theorem ok_scaled (D : Def K mg "scaled" s_scaled ["size", "factor"]) (g_refuse_above : Fn P w K mg base 1 "refuse_above" ["most", "size"] (sp2 rInt rInt oU m_refuse_above K)) (g_common_divisor : Fn P w K mg base 1 "common_divisor" ["factor", "size"] (sp2 rInt rInt (oF rInt) m_common_divisor K)) (Z : Blt mg) : Fn P w K mg base 2 "scaled" ["size", "factor"] (sp2 rInt rInt (oL (oL (oF rInt))) m_scaled K) := by
  refine fn_mk D sc_scaled (fun vs H Q E h => ?_) (fun f cdv A outer s H vs Q E hr h => ?_)
  · obtain ⟨v_0, v_1, a_0, a_1, b, rfl, _⟩ := h; rfl
  obtain ⟨v_0, v_1, a_0, a_1, b, rfl, h_0, h_1, hm, q⟩ := h
  have hu := hu8 hr
  have hu1 := hu_of hr
  refine ⟨_, (pss_cons (ps_expr (pe_fn g_refuse_above hr (by decide) (pa_cons (pe_cst Z.c_MOST_COLOURS rfl) (pa_cons (pv 0) pa_nil))))
    (pss_cons (ps_if (pt_cmpR op_gt (pe_fn g_common_divisor hr (by decide) (pa_cons (pv 1) (pa_cons (pv 0) pa_nil))) pe_int (nomark _))
      (pss_cons ps_never
      pss_nil)
      pss_nil)
    (pss_cons (ps_ret (pe_compJ (sc := (defScope s_scaled)) (N0 := ["size", "factor"]) (tns := ["a"]) (caps := [(1, "factor"), (0, "size")]) rfl (pi_range1 rfl Z.b_range (pa_cons (pv 0) pa_nil)) (gk_name (by decide)) (fun cl C s H ex E => ⟨pg_name (i := 0) (show List.Nodup (["a", "factor", "size"] : List Str) by decide +kernel) rfl (Or.inr rfl) (hf := Or.inl rfl), pts_nil, (pe_compJ (sc := (relab cs_89_11 (defScope s_scaled))) (N0 := ["a", "factor", "size"]) (tns := ["b"]) (caps := [(1, "factor"), (0, "a"), (2, "size")]) rfl (pi_range1 rfl Z.b_range (pa_cons (pv 2) pa_nil)) (gk_name (by decide)) (fun cl C s H ex E => ⟨pg_name (i := 0) (show List.Nodup (["b", "factor", "a", "size"] : List Str) by decide +kernel) rfl (Or.inl rfl), pts_nil, (pe_op op_mod (pe_op op_add (pe_op op_mul (pv 1) (pv 2)) (pe_op op_mul (pe_op op_sub pe_int (pv 1)) (pv 0))) (pv 3))⟩))⟩)))
    pss_nil))), ?_⟩
  refine top_T (S := (SC.add (SC.add SC.nil K rInt v_0 a_0) K rInt v_1 a_1)) (σ := [some v_0, some v_1]) 0 ?_ (SC.i (SC.i SC.t h_0) h_1) hm q rfl
  unfold m_scaled
  exact (sv_expr (Ev.toB (ev_call2 (evb_int 24) (evb_var (r := rInt) 0 rfl (fun _ s => (SC.r (SC.l s)))))) (sv_ifR (evt_test (K := K) (evb_gt (Ev.toB (ev_call2 (evb_var (r := rInt) 1 rfl (fun _ s => (SC.r s))) (evb_var (r := rInt) 0 rfl (fun _ s => (SC.r (SC.l s)))))) (evb_int 1))) sv_bad (sv_ret (ev_comp (fun _ => tg1 0) (walk_range1 (evb_var (r := rInt) 0 rfl (fun _ s => (SC.r (SC.l s))))) (fun C12 a13 v14 => (ev_comp (fun _ => tg1 0) (walk_range1 (evb_var (r := rInt) 2 rfl (fun _ s => (SC.r (SC.l (SC.l s)))))) (fun C17 a18 v19 => (EvS.ev (EvB.sh (evb_mod (evb_add (evb_mul (evb_var (r := rInt) 1 rfl (fun _ s => (SC.r (SC.l (SC.l s))))) (evb_var (r := rInt) 2 rfl (fun _ s => (SC.r (SC.l s))))) (evb_mul (evb_sub (evb_int 1) (evb_var (r := rInt) 1 rfl (fun _ s => (SC.r (SC.l (SC.l s)))))) (evb_var (r := rInt) 0 rfl (fun _ s => (SC.r s))))) (evb_var (r := rInt) 3 rfl (fun _ s => (SC.r (SC.l (SC.l (SC.l s))))))))))))))))
theorem sc_turns : FnScope ["size"] ["size"] (defScope s_turns) := ⟨rfl, rfl, rfl, by decide +kernel, rfl, by decide +kernel, by decide +kernel⟩
set_option maxHeartbeats 4000000 in
theorem ok_turns (D : Def K mg "turns" s_turns ["size"]) (g_scaled : Fn P w K mg base 2 "scaled" ["size", "factor"] (sp2 rInt rInt (oL (oL (oF rInt))) m_scaled K)) (Z : Blt mg) : Fn P w K mg base 3 "turns" ["size"] (sp1 rInt (oL (oL (oF rInt))) m_turns K) := by
  refine fn_mk D sc_turns (fun vs H Q E h => ?_) (fun f cdv A outer s H vs Q E hr h => ?_)
  · obtain ⟨v_0, a_0, b, rfl, _⟩ := h; rfl
  obtain ⟨v_0, a_0, b, rfl, h_0, hm, q⟩ := h
  have hu := hu8 hr
  have hu1 := hu_of hr
  refine ⟨_, (pss_cons (ps_ret (pe_fn g_scaled hr (by decide) (pa_cons (pv 0) (pa_cons (pe_un un_neg pe_int) pa_nil))))
    pss_nil), ?_⟩
  refine top_T (S := (SC.add SC.nil K rInt v_0 a_0)) (σ := [some v_0]) 0 ?_ (SC.i SC.t h_0) hm q rfl
  unfold m_turns
  exact (sv_ret (ev_call2 (evb_var (r := rInt) 0 rfl (fun _ s => (SC.r s))) (evb_neg (evb_int 1))))
theorem sc_cell : FnScope ["_law_script", "_law_place", "_law_seed", "_law_cell_here"] ["_law_script", "_law_place"] (defScope s_cell) := ⟨rfl, rfl, rfl, by decide +kernel, rfl, by decide +kernel, by decide +kernel⟩
set_option maxHeartbeats 4000000 in
theorem ok_cell (D : Def K mg "_law_cell" s_cell ["_law_script", "_law_place"])  (Z : Blt mg) : Fn P w K mg base 1 "_law_cell" ["_law_script", "_law_place"] (sp2 (rL rInt) rInt (oF rInt) m_cell K) := by
  refine fn_mk D sc_cell (fun vs H Q E h => ?_) (fun f cdv A outer s H vs Q E hr h => ?_)
  · obtain ⟨v_0, v_1, a_0, a_1, b, rfl, _⟩ := h; rfl
  obtain ⟨v_0, v_1, a_0, a_1, b, rfl, h_0, h_1, hm, q⟩ := h
  have hu := hu8 hr
  have hu1 := hu_of hr
  refine ⟨_, (pss_cons (ps_if (pt_cmpR op_lt (pv 1) (pe_callB (call_len_seqK K rfl) rfl Z.b_len PySem.boot_len (pa_cons (pv 0) pa_nil)) (nomark _))
      (pss_cons (ps_ret (pe_ix (ix_listK K rfl) (pv 0) (pv 1) (fun _ _ => rfl)))
      pss_nil)
      pss_nil)
    (pss_cons (ps_set (i := 2) sc_cell.nd rfl (Or.inl rfl) pe_int)
    (pss_cons (ps_for PassesOwn.never rfl (pi_listK (K := K) rfl (pe_slice (sl_listK K rfl) (pv 0) po_none (po_some pe_int))) (pg_name (i := 3) sc_cell.nd rfl (Or.inl rfl))
      (pss_cons (ps_set (i := 2) sc_cell.nd rfl (Or.inl rfl) (pe_op op_mod (pe_op op_add (pe_op op_add (pe_op op_mul (pv 2) pe_int) (pe_op op_mod (pv 3) pe_int)) pe_int) pe_int))
      pss_nil))
    (pss_cons (ps_ret (pe_op op_mod (pe_op op_add (pv 2) (pe_op op_mul pe_int (pv 1))) pe_int))
    pss_nil)))), ?_⟩
  refine top_T (S := (SC.add (SC.add SC.nil K (rL rInt) v_0 a_0) K rInt v_1 a_1)) (σ := [some v_0, some v_1, none, none]) 0 ?_ (SC.i (SC.i SC.t h_0) h_1) hm q rfl
  unfold m_cell
  exact (sv_ifR (evt_test (K := K) (evb_lt (evb_var (r := rInt) 1 rfl (fun _ s => (SC.r s))) (evb_lenS (evb_var (r := (rL rInt)) 0 rfl (fun _ s => (SC.r (SC.l s))))))) (sv_ret (EvS.ev (EvB.sh (evb_ixS (evb_var (r := (rL rInt)) 0 rfl (fun _ s => (SC.r (SC.l s)))) (evb_var (r := rInt) 1 rfl (fun _ s => (SC.r s))))))) (sv_set (K := K) (r := rInt) 2 (EvB.sh (evb_int 5)) fun a7 v8 => (sv_for (K := K) (J := ({ oo := fun x13 => [], ss := fun x13 => [some v_0, some v_1, some x13.2, x13.1], sc := fun g14 x13 => (SC.add (SC.add (SC.add SC.nil K (rL rInt) v_0 a_0) K rInt v_1 a_1) K rInt x13.2 g14) } : Jn (Int) (Option V × V))) (fun _ => tg1 3) ((none), v8) (a7) (walk_list (Ev.sh (ev_sliceS (evb_var (r := (rL rInt)) 0 rfl (fun _ s => (SC.r (SC.l (SC.l s))))) evp_none (evp_some (K := K) (evb_int 63))))) rfl rfl (fun _ s => (SC.i (SC.i (SC.i SC.t (SC.r (SC.l (SC.l s)))) (SC.r (SC.l s))) (SC.r s))) (fun g15 x16 a17 v18 => (sv_set (K := K) (r := rInt) 2 (EvB.sh (evb_mod (evb_add (evb_add (evb_mul (evb_var (r := rInt) 2 rfl (fun _ s => (SC.r (SC.l s)))) (evb_int 48271)) (evb_mod (evb_var (r := rInt) 3 rfl (fun _ s => (SC.r s))) (evb_int 1000003))) (evb_int 1)) (evb_int 2147483647))) fun a19 v20 => (sv_end (J := _) ((some v18), v20) (a19) rfl rfl (fun _ s => (SC.i (SC.i (SC.i SC.t (SC.r (SC.l (SC.l (SC.l (SC.l s)))))) (SC.r (SC.l (SC.l (SC.l s))))) (SC.r s)))))) fun g31 x32 => (sv_ret (EvS.ev (EvB.sh (evb_mod (evb_add (evb_var (r := rInt) 2 rfl (fun _ s => (SC.r s))) (evb_mul (evb_int 7919) (evb_var (r := rInt) 1 rfl (fun _ s => (SC.r (SC.l s)))))) (evb_int 1000003))))))))
theorem sc_mix : FnScope ["_law_cell_here", "_law_k", "_law_one", "_law_two"] ["_law_cell_here", "_law_k"] (defScope s_mix) := ⟨rfl, rfl, rfl, by decide +kernel, rfl, by decide +kernel, by decide +kernel⟩
set_option maxHeartbeats 4000000 in
theorem ok_mix (D : Def K mg "_law_mix" s_mix ["_law_cell_here", "_law_k"])  (Z : Blt mg) : Fn P w K mg base 1 "_law_mix" ["_law_cell_here", "_law_k"] (sp2 rInt rInt (oF rInt) m_mix K) := by
  refine fn_mk D sc_mix (fun vs H Q E h => ?_) (fun f cdv A outer s H vs Q E hr h => ?_)
  · obtain ⟨v_0, v_1, a_0, a_1, b, rfl, _⟩ := h; rfl
  obtain ⟨v_0, v_1, a_0, a_1, b, rfl, h_0, h_1, hm, q⟩ := h
  have hu := hu8 hr
  have hu1 := hu_of hr
  refine ⟨_, (pss_cons (ps_set (i := 2) sc_mix.nd rfl (Or.inl rfl) (pe_op op_mod (pe_op op_pow (pe_op op_add (pe_op op_add (pe_op op_mod (pv 0) pe_int) (pe_op op_mul pe_int (pv 1))) pe_int) pe_int) pe_int))
    (pss_cons (ps_set (i := 3) sc_mix.nd rfl (Or.inl rfl) (pe_op op_mod (pe_op op_add (pe_op op_add (pe_op op_mul (pv 2) pe_int) (pe_op op_mul (pe_op op_mul pe_int (pv 1)) (pv 1))) pe_int) pe_int))
    (pss_cons (ps_ret (pe_op op_fdivB (pv 3) pe_int))
    pss_nil))), ?_⟩
  refine top_T (S := (SC.add (SC.add SC.nil K rInt v_0 a_0) K rInt v_1 a_1)) (σ := [some v_0, some v_1, none, none]) 0 ?_ (SC.i (SC.i SC.t h_0) h_1) hm q rfl
  unfold m_mix
  exact (sv_set (K := K) (r := rInt) 2 (EvB.sh (evb_mod (evb_pow (evb_add (evb_add (evb_mod (evb_var (r := rInt) 0 rfl (fun _ s => (SC.r (SC.l s)))) (evb_int 2147483629)) (evb_mul (evb_int 1013) (evb_var (r := rInt) 1 rfl (fun _ s => (SC.r s))))) (evb_int 7919)) (evb_int 3)) (evb_int 2147483647))) fun a1 v2 => (sv_set (K := K) (r := rInt) 3 (EvB.sh (evb_mod (evb_add (evb_add (evb_mul (evb_var (r := rInt) 2 rfl (fun _ s => (SC.r s))) (evb_int 40699)) (evb_mul (evb_mul (evb_int 3793) (evb_var (r := rInt) 1 rfl (fun _ s => (SC.r (SC.l s))))) (evb_var (r := rInt) 1 rfl (fun _ s => (SC.r (SC.l s)))))) (evb_int 11)) (evb_int 2147483399))) fun a15 v16 => (sv_ret (EvS.ev (EvB.sh (evb_div (evb_var (r := rInt) 3 rfl (fun _ s => (SC.r s))) (evb_int 101)))))))
theorem sc_row : FnScope ["_law_script", "_law_place", "_law_sizes", "_law_cell_here", "_law_left", "_law_some", "_law_k", "_law_other"] ["_law_script", "_law_place", "_law_sizes"] (defScope s_row) := ⟨rfl, rfl, rfl, by decide +kernel, rfl, by decide +kernel, by decide +kernel⟩
set_option maxHeartbeats 4000000 in
theorem ok_row (D : Def K mg "_law_row" s_row ["_law_script", "_law_place", "_law_sizes"]) (g_cell : Fn P w K mg base 1 "_law_cell" ["_law_script", "_law_place"] (sp2 (rL rInt) rInt (oF rInt) m_cell K)) (g_mix : Fn P w K mg base 1 "_law_mix" ["_law_cell_here", "_law_k"] (sp2 rInt rInt (oF rInt) m_mix K)) (Z : Blt mg) : Fn P w K mg base 2 "_law_row" ["_law_script", "_law_place", "_law_sizes"] (sp3 (rL rInt) rInt (rV rInt) (oL (oF rInt)) m_row K) := by
  refine fn_mk D sc_row (fun vs H Q E h => ?_) (fun f cdv A outer s H vs Q E hr h => ?_)
  · obtain ⟨v_0, v_1, v_2, a_0, a_1, a_2, b, rfl, _⟩ := h; rfl
  obtain ⟨v_0, v_1, v_2, a_0, a_1, a_2, b, rfl, h_0, h_1, h_2, hm, q⟩ := h
  have hu := hu8 hr
  have hu1 := hu_of hr
  refine ⟨_, (pss_cons (ps_set (i := 3) sc_row.nd rfl (Or.inl rfl) (pe_fn g_cell hr (by decide) (pa_cons (pv 0) (pa_cons (pv 1) pa_nil))))
    (pss_cons (ps_set (i := 4) sc_row.nd rfl (Or.inl rfl) (pv 3))
    (pss_cons (ps_set (i := 5) sc_row.nd rfl (Or.inl rfl) (pe_lst pa_nil))
    (pss_cons (ps_for PassesOwn.never rfl (pi_range1 rfl Z.b_range (pa_cons (pe_callB (call_len_seqK K rfl) rfl Z.b_len PySem.boot_len (pa_cons (pv 2) pa_nil)) pa_nil)) (pg_name (i := 6) sc_row.nd rfl (Or.inl rfl))
      (pss_cons (ps_if (pt_cmpR op_lt (pv 3) (pe_op op_pow pe_int pe_int) (nomark _))
        (pss_cons (ps_expr (pe_bm PySem.F.plainAttrs_list PySem.F.slot_list_append PySem.F.type_list_append mt_append (pv 5) (pa_cons (pe_op op_mod (pe_fn g_mix hr (by decide) (pa_cons (pv 3) (pa_cons (pv 6) pa_nil))) (pe_ix (ix_listK K rfl) (pv 2) (pv 6) (fun _ _ => rfl))) pa_nil)))
        pss_nil)
        (pss_cons (ps_if (pt_cmpR op_gt (pv 4) pe_int (nomark _))
          (pss_cons (ps_expr (pe_bm PySem.F.plainAttrs_list PySem.F.slot_list_append PySem.F.type_list_append mt_append (pv 5) (pa_cons (pe_op op_mod (pv 4) (pe_ix (ix_listK K rfl) (pv 2) (pv 6) (fun _ _ => rfl))) pa_nil)))
          (pss_cons (ps_set (i := 4) sc_row.nd rfl (Or.inl rfl) (pe_op op_fdivB (pv 4) (pe_ix (ix_listK K rfl) (pv 2) (pv 6) (fun _ _ => rfl))))
          pss_nil))
          (pss_cons (ps_set (i := 7) sc_row.nd rfl (Or.inl rfl) (pe_fn g_cell hr (by decide) (pa_cons (pv 0) (pa_cons (pe_op op_mod (pe_op op_add (pe_op op_add (pv 1) pe_int) (pv 6)) pe_int) pa_nil))))
          (pss_cons (ps_expr (pe_bm PySem.F.plainAttrs_list PySem.F.slot_list_append PySem.F.type_list_append mt_append (pv 5) (pa_cons (pe_op op_mod (pe_fn g_mix hr (by decide) (pa_cons (pv 7) (pa_cons (pv 6) pa_nil))) (pe_ix (ix_listK K rfl) (pv 2) (pv 6) (fun _ _ => rfl))) pa_nil)))
          pss_nil)))
        pss_nil))
      pss_nil))
    (pss_cons (ps_ret (pv 5))
    pss_nil))))), ?_⟩
  refine top_T (S := (SC.add (SC.add (SC.add SC.nil K (rL rInt) v_0 a_0) K rInt v_1 a_1) K (rV rInt) v_2 a_2)) (σ := [some v_0, some v_1, some v_2, none, none, none, none, none]) 1 ?_ (SC.i (SC.i (SC.i SC.t h_0) h_1) h_2) hm q rfl
  unfold m_row
  exact (sv_set (K := K) (r := rInt) 3 (EvB.sh (Ev.toB (ev_call2 (evb_var (r := (rL rInt)) 0 rfl (fun _ s => (SC.r (SC.l (SC.l s))))) (evb_var (r := rInt) 1 rfl (fun _ s => (SC.r (SC.l s))))))) fun a1 v2 => (sv_set (K := K) (r := rInt) 4 (evs_var (r := rInt) 3 rfl (fun _ s => (SC.r s))) fun a6 v7 => (sv_setO (K := K) (o := (oL (oF rInt))) 5 0 (ev_l0 (o := (oF rInt))) (Nat.le_of_ble_eq_true rfl) fun a8 v9 C10 => (sv_for (K := K) (J := ({ oo := fun x13 => [x13.2.2.2.2], ss := fun x13 => [some v_0, some v_1, some v_2, some v2, some x13.2.2.1, some x13.2.1, x13.1, x13.2.2.2.1], sc := fun g14 x13 => (SC.add (SC.addO (SC.add (SC.add (SC.add (SC.add SC.nil K (rL rInt) v_0 a_0) K rInt v_1 a_1) K (rV rInt) v_2 a_2) K rInt v2 a1) K (oL (oF rInt)) x13.2.1 g14.1 x13.2.2.2.2) K rInt x13.2.2.1 g14.2) } : Jn ((List Int) × Int) (Option V × V × V × Option V × List Cell))) (fun _ => tg1 6) ((none), v9, v7, (none), C10) (a8, a6) (walk_range1 (evb_len (evb_var (r := (rV rInt)) 2 rfl (fun _ s => (SC.r (SC.l (SC.l (SC.l s)))))))) rfl rfl (fun _ s => (SC.i (SC.i (SC.i (SC.i (SC.i (SC.i SC.t (SC.r (SC.l (SC.l (SC.l (SC.l (SC.l s))))))) (SC.r (SC.l (SC.l (SC.l (SC.l s)))))) (SC.r (SC.l (SC.l (SC.l s))))) (SC.r (SC.l (SC.l s)))) (SC.r s)) (SC.r (SC.l s)))) (fun g15 x16 a17 v18 => (sv_seqN (J := ({ oo := fun x24 => [x24.2.2.2], ss := fun x24 => [some v_0, some v_1, some v_2, some v2, some x24.2.1, some x24.1, some v18, x24.2.2.1], sc := fun g25 x24 => (SC.add (SC.addO (SC.add (SC.add (SC.add (SC.add (SC.add SC.nil K (rL rInt) v_0 a_0) K rInt v_1 a_1) K (rV rInt) v_2 a_2) K rInt v2 a1) K rInt v18 a17) K (oL (oF rInt)) x24.1 g25.1 x24.2.2.2) K rInt x24.2.1 g25.2) } : Jn ((List Int) × Int) (V × V × Option V × List Cell))) (sv_if2 (Fd := FNd ({ oo := fun x24 => [x24.2.2.2], ss := fun x24 => [some v_0, some v_1, some v_2, some v2, some x24.2.1, some x24.1, some v18, x24.2.2.1], sc := fun g25 x24 => (SC.add (SC.addO (SC.add (SC.add (SC.add (SC.add (SC.add SC.nil K (rL rInt) v_0 a_0) K rInt v_1 a_1) K (rV rInt) v_2 a_2) K rInt v2 a1) K rInt v18 a17) K (oL (oF rInt)) x24.1 g25.1 x24.2.2.2) K rInt x24.2.1 g25.2) } : Jn ((List Int) × Int) (V × V × Option V × List Cell))) (evt_test (K := K) (evb_lt (evb_var (r := rInt) 3 rfl (fun _ s => (SC.r (SC.l (SC.l (SC.l s)))))) (evb_pow (evb_int 10) (evb_int 18)))) (sv_app (K := K) (o := (oF rInt)) (f := fun a35 => (Res.ok (a35, g15.2))) 5 0 rfl rfl rfl (fun _ s => (SC.r (SC.l (SC.l s)))) (EvS.ev (EvB.sh (evb_mod (Ev.toB (ev_call2 (evb_var (r := rInt) 3 rfl (fun _ s => (SC.r (SC.l (SC.l (SC.l s)))))) (evb_var (r := rInt) 6 rfl (fun _ s => (SC.r s))))) (evb_ix (evb_var (r := (rV rInt)) 2 rfl (fun _ s => (SC.r (SC.l (SC.l (SC.l (SC.l s))))))) (evb_var (r := rInt) 6 rfl (fun _ s => (SC.r s))))))) fun a33 C34 => (sv_end (J := _) (x16.2.1, x16.2.2.1, (x16.2.2.2.1), C34) ((g15.1 ++ [a33]), g15.2) rfl rfl (fun _ s => (SC.i (SC.i (SC.i (SC.i (SC.i (SC.i (SC.i SC.t (SC.r (SC.l (SC.l (SC.l (SC.l (SC.l (SC.l (SC.l s))))))))) (SC.r (SC.l (SC.l (SC.l (SC.l (SC.l (SC.l s)))))))) (SC.r (SC.l (SC.l (SC.l (SC.l (SC.l s))))))) (SC.r (SC.l (SC.l (SC.l (SC.l s)))))) (SC.r (SC.l s))) (SC.r s)) (SC.r (SC.l (SC.l s))))))) (sv_seqN (J := ({ oo := fun x39 => [x39.2.2.2], ss := fun x39 => [some v_0, some v_1, some v_2, some v2, some x39.1, some x39.2.2.1, some v18, x39.2.1], sc := fun g40 x39 => (SC.addO (SC.add (SC.add (SC.add (SC.add (SC.add (SC.add SC.nil K (rL rInt) v_0 a_0) K rInt v_1 a_1) K (rV rInt) v_2 a_2) K rInt v2 a1) K rInt v18 a17) K rInt x39.1 g40.1) K (oL (oF rInt)) x39.2.2.1 g40.2 x39.2.2.2) } : Jn (Int × (List Int)) (V × Option V × V × List Cell))) (sv_if2 (Fd := FNd ({ oo := fun x39 => [x39.2.2.2], ss := fun x39 => [some v_0, some v_1, some v_2, some v2, some x39.1, some x39.2.2.1, some v18, x39.2.1], sc := fun g40 x39 => (SC.addO (SC.add (SC.add (SC.add (SC.add (SC.add (SC.add SC.nil K (rL rInt) v_0 a_0) K rInt v_1 a_1) K (rV rInt) v_2 a_2) K rInt v2 a1) K rInt v18 a17) K rInt x39.1 g40.1) K (oL (oF rInt)) x39.2.2.1 g40.2 x39.2.2.2) } : Jn (Int × (List Int)) (V × Option V × V × List Cell))) (evt_test (K := K) (evb_gt (evb_var (r := rInt) 4 rfl (fun _ s => (SC.r (SC.l s)))) (evb_int 0))) (sv_app (K := K) (o := (oF rInt)) (f := fun a47 => (Res.bind (Res.bind (Res.ok g15.2) fun x52 => (Res.bind (Res.bind (Res.ok a_2) fun x50 => (Res.bind (Res.ok a17) fun x51 => (atR x50 x51))) fun x53 => (divR x52 x53))) fun a48 => (Res.ok (a48, a47)))) 5 0 rfl rfl rfl (fun _ s => (SC.r (SC.l (SC.l s)))) (EvS.ev (EvB.sh (evb_mod (evb_var (r := rInt) 4 rfl (fun _ s => (SC.r (SC.l s)))) (evb_ix (evb_var (r := (rV rInt)) 2 rfl (fun _ s => (SC.r (SC.l (SC.l (SC.l (SC.l s))))))) (evb_var (r := rInt) 6 rfl (fun _ s => (SC.r s))))))) fun a45 C46 => (sv_set (K := K) (r := rInt) 4 (EvB.sh (evb_div (evb_var (r := rInt) 4 rfl (fun _ s => (SC.r (SC.l (SC.l s))))) (evb_ix (evb_var (r := (rV rInt)) 2 rfl (fun _ s => (SC.r (SC.l (SC.l (SC.l (SC.l (SC.l s)))))))) (evb_var (r := rInt) 6 rfl (fun _ s => (SC.r (SC.l s))))))) fun a48 v49 => (sv_end (J := _) (v49, (x16.2.2.2.1), x16.2.1, C46) (a48, (g15.1 ++ [a45])) rfl rfl (fun _ s => (SC.i (SC.i (SC.i (SC.i (SC.i (SC.i (SC.i SC.t (SC.r (SC.l (SC.l (SC.l (SC.l (SC.l (SC.l (SC.l (SC.l s)))))))))) (SC.r (SC.l (SC.l (SC.l (SC.l (SC.l (SC.l (SC.l s))))))))) (SC.r (SC.l (SC.l (SC.l (SC.l (SC.l (SC.l s)))))))) (SC.r (SC.l (SC.l (SC.l (SC.l (SC.l s))))))) (SC.r (SC.l (SC.l s)))) (SC.r s)) (SC.r (SC.l s))))))) (sv_set (K := K) (r := rInt) 7 (EvB.sh (Ev.toB (ev_call2 (evb_var (r := (rL rInt)) 0 rfl (fun _ s => (SC.r (SC.l (SC.l (SC.l (SC.l (SC.l (SC.l s))))))))) (evb_mod (evb_add (evb_add (evb_var (r := rInt) 1 rfl (fun _ s => (SC.r (SC.l (SC.l (SC.l (SC.l (SC.l s)))))))) (evb_int 1)) (evb_var (r := rInt) 6 rfl (fun _ s => (SC.r s)))) (evb_int 63))))) fun a54 v55 => (sv_app (K := K) (o := (oF rInt)) (f := fun a74 => (Res.ok (g15.2, a74))) 5 0 rfl rfl rfl (fun _ s => (SC.r (SC.l (SC.l (SC.l s))))) (EvS.ev (EvB.sh (evb_mod (Ev.toB (ev_call2 (evb_var (r := rInt) 7 rfl (fun _ s => (SC.r s))) (evb_var (r := rInt) 6 rfl (fun _ s => (SC.r (SC.l s)))))) (evb_ix (evb_var (r := (rV rInt)) 2 rfl (fun _ s => (SC.r (SC.l (SC.l (SC.l (SC.l (SC.l s)))))))) (evb_var (r := rInt) 6 rfl (fun _ s => (SC.r (SC.l s)))))))) fun a72 C73 => (sv_end (J := _) (x16.2.2.1, (some v55), x16.2.1, C73) (g15.2, (g15.1 ++ [a72])) rfl rfl (fun _ s => (SC.i (SC.i (SC.i (SC.i (SC.i (SC.i (SC.i SC.t (SC.r (SC.l (SC.l (SC.l (SC.l (SC.l (SC.l (SC.l (SC.l s)))))))))) (SC.r (SC.l (SC.l (SC.l (SC.l (SC.l (SC.l (SC.l s))))))))) (SC.r (SC.l (SC.l (SC.l (SC.l (SC.l (SC.l s)))))))) (SC.r (SC.l (SC.l (SC.l (SC.l (SC.l s))))))) (SC.r (SC.l (SC.l s)))) (SC.r (SC.l (SC.l (SC.l s))))) (SC.r s))))))) fun g76 x75 => (sv_end (J := _) (x75.2.2.1, x75.1, (x75.2.1), x75.2.2.2) (g76.2, g76.1) rfl rfl (fun _ s => (SC.i (SC.i (SC.i (SC.i (SC.i (SC.i (SC.i SC.t (SC.r (SC.l (SC.l (SC.l (SC.l (SC.l (SC.l s)))))))) (SC.r (SC.l (SC.l (SC.l (SC.l (SC.l s))))))) (SC.r (SC.l (SC.l (SC.l (SC.l s)))))) (SC.r (SC.l (SC.l (SC.l s))))) (SC.r (SC.l (SC.l s)))) (SC.r s)) (SC.r (SC.l s))))))) fun g78 x77 => (sv_end (J := _) ((some v18), x77.1, x77.2.1, (x77.2.2.1), x77.2.2.2) (g78.1, g78.2) rfl rfl (fun _ s => (SC.i (SC.i (SC.i (SC.i (SC.i (SC.i SC.t (SC.r (SC.l (SC.l (SC.l (SC.l (SC.l (SC.l s)))))))) (SC.r (SC.l (SC.l (SC.l (SC.l (SC.l s))))))) (SC.r (SC.l (SC.l (SC.l (SC.l s)))))) (SC.r (SC.l (SC.l (SC.l s))))) (SC.r (SC.l s))) (SC.r s)))))) fun g79 x80 => (sv_ret (ev_move (o := (oL (oF rInt))) 5 0 rfl rfl (fun _ s => (SC.r (SC.l s)))))))))
theorem sc_group_fine : FnScope ["_law_some", "_law_size", "_law_a", "_law_b", "_law_c"] ["_law_some"] (defScope s_group_fine) := ⟨rfl, rfl, rfl, by decide +kernel, rfl, by decide +kernel, by decide +kernel⟩
set_option maxHeartbeats 4000000 in
theorem ok_group_fine (D : Def K mg "_law_group_fine" s_group_fine ["_law_some"])  (Z : Blt mg) : Fn P w K mg base 1 "_law_group_fine" ["_law_some"] (sp1 (rV (rV rInt)) (oF rBool) m_group_fine K) := by
  refine fn_mk D sc_group_fine (fun vs H Q E h => ?_) (fun f cdv A outer s H vs Q E hr h => ?_)
  · obtain ⟨v_0, a_0, b, rfl, _⟩ := h; rfl
  obtain ⟨v_0, a_0, b, rfl, h_0, hm, q⟩ := h
  have hu := hu8 hr
  have hu1 := hu_of hr
  refine ⟨_, (pss_cons (ps_set (i := 1) sc_group_fine.nd rfl (Or.inl rfl) (pe_callB (call_len_seqK K rfl) rfl Z.b_len PySem.boot_len (pa_cons (pv 0) pa_nil)))
    (pss_cons (ps_for PassesOwn.never rfl (pi_range1 rfl Z.b_range (pa_cons (pv 1) pa_nil)) (pg_name (i := 2) sc_group_fine.nd rfl (Or.inl rfl))
      (pss_cons (ps_if (PW.pt (pw_or (pt_cmpR op_ne (pe_ix (ix_listK K rfl) (pe_ix (ix_listK K rfl) (pv 0) pe_int (fun _ _ => rfl)) (pv 2) (fun _ _ => rfl)) (pv 2) (nomark _)) (pw_or (pt_cmpR op_ne (pe_ix (ix_listK K rfl) (pe_ix (ix_listK K rfl) (pv 0) (pv 2) (fun _ _ => rfl)) pe_int (fun _ _ => rfl)) (pv 2) (nomark _)) (pw_or1 (pt_cmpR op_notIn_seq pe_int (pe_ix (ix_listK K rfl) (pv 0) (pv 2) (fun _ _ => rfl)) rfl)))))
        (pss_cons (ps_ret pe_bl)
        pss_nil)
        pss_nil)
      (pss_cons (ps_for PassesOwn.never rfl (pi_range1 rfl Z.b_range (pa_cons (pv 1) pa_nil)) (pg_name (i := 3) sc_group_fine.nd rfl (Or.inl rfl))
        (pss_cons (ps_for PassesOwn.never rfl (pi_range1 rfl Z.b_range (pa_cons (pv 1) pa_nil)) (pg_name (i := 4) sc_group_fine.nd rfl (Or.inl rfl))
          (pss_cons (ps_if (pt_cmpR op_ne (pe_ix (ix_listK K rfl) (pe_ix (ix_listK K rfl) (pv 0) (pe_ix (ix_listK K rfl) (pe_ix (ix_listK K rfl) (pv 0) (pv 2) (fun _ _ => rfl)) (pv 3) (fun _ _ => rfl)) (fun _ _ => rfl)) (pv 4) (fun _ _ => rfl)) (pe_ix (ix_listK K rfl) (pe_ix (ix_listK K rfl) (pv 0) (pv 2) (fun _ _ => rfl)) (pe_ix (ix_listK K rfl) (pe_ix (ix_listK K rfl) (pv 0) (pv 3) (fun _ _ => rfl)) (pv 4) (fun _ _ => rfl)) (fun _ _ => rfl)) (nomark _))
            (pss_cons (ps_ret pe_bl)
            pss_nil)
            pss_nil)
          pss_nil))
        pss_nil))
      pss_nil)))
    (pss_cons (ps_ret pe_bl)
    pss_nil))), ?_⟩
  refine top_T (S := (SC.add SC.nil K (rV (rV rInt)) v_0 a_0)) (σ := [some v_0, none, none, none, none]) 0 ?_ (SC.i SC.t h_0) hm q rfl
  unfold m_group_fine
  exact (sv_set (K := K) (r := rInt) 1 (EvB.sh (evb_len (evb_var (r := (rV (rV rInt))) 0 rfl (fun _ s => (SC.r s))))) fun a1 v2 => (sv_forC (K := K) (J := ({ oo := fun x5 => [], ss := fun x5 => [some v_0, some v2, x5.1, x5.2.1, x5.2.2], sc := fun g6 x5 => (SC.add (SC.add SC.nil K (rV (rV rInt)) v_0 a_0) K rInt v2 a1) } : Jn (Unit) (Option V × Option V × Option V))) (fun _ => tg1 2) ((none), (none), (none)) () (walk_range1 (evb_var (r := rInt) 1 rfl (fun _ s => (SC.r s)))) rfl rfl (fun _ s => (SC.i (SC.i SC.t (SC.r (SC.l s))) (SC.r s))) (fun g7 x8 a9 v10 => (sv_ifRC (evt_or (evt_test (K := K) (evb_ne (evb_ix (evb_ix (evb_var (r := (rV (rV rInt))) 0 rfl (fun _ s => (SC.r (SC.l (SC.l s))))) (evb_int 0)) (evb_var (r := rInt) 2 rfl (fun _ s => (SC.r s)))) (evb_var (r := rInt) 2 rfl (fun _ s => (SC.r s))))) (evt_or (evt_test (K := K) (evb_ne (evb_ix (evb_ix (evb_var (r := (rV (rV rInt))) 0 rfl (fun _ s => (SC.r (SC.l (SC.l s))))) (evb_var (r := rInt) 2 rfl (fun _ s => (SC.r s)))) (evb_int 0)) (evb_var (r := rInt) 2 rfl (fun _ s => (SC.r s))))) (evt_test (K := K) (evb_nin (evb_int 0) (evb_ix (evb_var (r := (rV (rV rInt))) 0 rfl (fun _ s => (SC.r (SC.l (SC.l s))))) (evb_var (r := rInt) 2 rfl (fun _ s => (SC.r s)))))))) (sv_ret (EvS.ev (EvB.sh (evb_bl false)))) (sv_forCC (K := K) (J := ({ oo := fun x29 => [], ss := fun x29 => [some v_0, some v2, some v10, x29.1, x29.2], sc := fun g30 x29 => (SC.add (SC.add (SC.add SC.nil K (rV (rV rInt)) v_0 a_0) K rInt v2 a1) K rInt v10 a9) } : Jn (Unit) (Option V × Option V))) (fun _ => tg1 3) ((x8.2.1), (x8.2.2)) () (walk_range1 (evb_var (r := rInt) 1 rfl (fun _ s => (SC.r (SC.l s))))) rfl rfl (fun _ s => (SC.i (SC.i (SC.i SC.t (SC.r (SC.l (SC.l s)))) (SC.r (SC.l s))) (SC.r s))) (fun g31 x32 a33 v34 => (sv_forCC (K := K) (J := ({ oo := fun x36 => [], ss := fun x36 => [some v_0, some v2, some v10, some v34, x36], sc := fun g37 x36 => (SC.add (SC.add (SC.add (SC.add SC.nil K (rV (rV rInt)) v_0 a_0) K rInt v2 a1) K rInt v10 a9) K rInt v34 a33) } : Jn (Unit) (Option V))) (fun _ => tg1 4) ((x32.2)) () (walk_range1 (evb_var (r := rInt) 1 rfl (fun _ s => (SC.r (SC.l (SC.l s)))))) rfl rfl (fun _ s => (SC.i (SC.i (SC.i (SC.i SC.t (SC.r (SC.l (SC.l (SC.l s))))) (SC.r (SC.l (SC.l s)))) (SC.r (SC.l s))) (SC.r s))) (fun g38 x39 a40 v41 => (sv_ifRC (evt_test (K := K) (evb_ne (evb_ix (evb_ix (evb_var (r := (rV (rV rInt))) 0 rfl (fun _ s => (SC.r (SC.l (SC.l (SC.l (SC.l s))))))) (evb_ix (evb_ix (evb_var (r := (rV (rV rInt))) 0 rfl (fun _ s => (SC.r (SC.l (SC.l (SC.l (SC.l s))))))) (evb_var (r := rInt) 2 rfl (fun _ s => (SC.r (SC.l (SC.l s)))))) (evb_var (r := rInt) 3 rfl (fun _ s => (SC.r (SC.l s)))))) (evb_var (r := rInt) 4 rfl (fun _ s => (SC.r s)))) (evb_ix (evb_ix (evb_var (r := (rV (rV rInt))) 0 rfl (fun _ s => (SC.r (SC.l (SC.l (SC.l (SC.l s))))))) (evb_var (r := rInt) 2 rfl (fun _ s => (SC.r (SC.l (SC.l s)))))) (evb_ix (evb_ix (evb_var (r := (rV (rV rInt))) 0 rfl (fun _ s => (SC.r (SC.l (SC.l (SC.l (SC.l s))))))) (evb_var (r := rInt) 3 rfl (fun _ s => (SC.r (SC.l s))))) (evb_var (r := rInt) 4 rfl (fun _ s => (SC.r s))))))) (sv_ret (EvS.ev (EvB.sh (evb_bl false)))) (sv_nxC (sv_end (J := _) ((some v41)) () rfl rfl (fun _ s => (SC.i (SC.i (SC.i (SC.i SC.t (SC.r (SC.l (SC.l (SC.l (SC.l s)))))) (SC.r (SC.l (SC.l (SC.l s))))) (SC.r (SC.l (SC.l s)))) (SC.r (SC.l s)))))))) fun g63 x64 => (sv_nxC (sv_end (J := _) ((some v34), (x64)) () rfl rfl (fun _ s => (SC.i (SC.i (SC.i SC.t (SC.r (SC.l (SC.l (SC.l s))))) (SC.r (SC.l (SC.l s)))) (SC.r (SC.l s)))))))) fun g67 x68 => (sv_nxC (sv_end (J := _) ((some v10), (x68.1), (x68.2)) () rfl rfl (fun _ s => (SC.i (SC.i SC.t (SC.r (SC.l (SC.l s)))) (SC.r (SC.l s))))))))) fun g72 x73 => (sv_ret (EvS.ev (EvB.sh (evb_bl true))))))
theorem sc_table_fine : FnScope ["_law_some", "_law_size", "_law_b", "_law_a", "_law_c", "_law_left"] ["_law_some"] (defScope s_table_fine) := ⟨rfl, rfl, rfl, by decide +kernel, rfl, by decide +kernel, by decide +kernel⟩
set_option maxHeartbeats 4000000 in
theorem ok_table_fine (D : Def K mg "_law_table_fine" s_table_fine ["_law_some"])  (Z : Blt mg) : Fn P w K mg base 1 "_law_table_fine" ["_law_some"] (sp1 (rV (rV rInt)) (oF rBool) m_table_fine K) := by
  refine fn_mk D sc_table_fine (fun vs H Q E h => ?_) (fun f cdv A outer s H vs Q E hr h => ?_)
  · obtain ⟨v_0, a_0, b, rfl, _⟩ := h; rfl
  obtain ⟨v_0, a_0, b, rfl, h_0, hm, q⟩ := h
  have hu := hu8 hr
  have hu1 := hu_of hr
  refine ⟨_, (pss_cons (ps_set (i := 1) sc_table_fine.nd rfl (Or.inl rfl) (pe_callB (call_len_seqK K rfl) rfl Z.b_len PySem.boot_len (pa_cons (pv 0) pa_nil)))
    (pss_cons (ps_for PassesOwn.never rfl (pi_range1 rfl Z.b_range (pa_cons (pv 1) pa_nil)) (pg_name (i := 2) sc_table_fine.nd rfl (Or.inr rfl))
      (pss_cons (ps_if (PW.pt (pw_or (pt_cmpR op_ne (pe_ix (ix_listK K rfl) (pe_ix (ix_listK K rfl) (pv 0) (pv 2) (fun _ _ => rfl)) (pv 2) (fun _ _ => rfl)) (pv 2) (nomark _)) (pw_or1 (pt_cmpR (op_neE (eq_V eq_int) (le_hu (by decide) hu)) (pe_callB (call_sorted_of K rfl) rfl Z.b_sorted PyProof.Rows.boot_sorted (pa_cons (pe_compI (sc := (defScope s_table_fine)) (N0 := ["_law_some", "_law_size", "_law_b", "_law_a", "_law_c", "_law_left"]) (tns := ["_law_line"]) (caps := [(2, "_law_b")]) rfl (pi_listK (K := K) rfl (pv 0)) (gk_name (by decide)) (fun cl C s H ex E => ⟨pg_name (i := 0) (show List.Nodup (["_law_line", "_law_b"] : List Str) by decide +kernel) rfl (Or.inl rfl), pts_nil, (pe_ix (ix_listK K rfl) (pv 0) (pv 1) (fun _ _ => rfl))⟩)) pa_nil)) (pe_listrange rfl rfl rfl Z.b_list Z.b_range (pa_cons (pv 1) pa_nil)) (nomark _)))))
        (pss_cons (ps_ret pe_bl)
        pss_nil)
        pss_nil)
      (pss_cons (ps_for PassesOwn.never rfl (pi_range1 rfl Z.b_range (pa_cons (pv 1) pa_nil)) (pg_name (i := 3) sc_table_fine.nd rfl (Or.inl rfl))
        (pss_cons (ps_for PassesOwn.never rfl (pi_range1 rfl Z.b_range (pa_cons (pv 1) pa_nil)) (pg_name (i := 4) sc_table_fine.nd rfl (Or.inl rfl))
          (pss_cons (ps_set (i := 5) sc_table_fine.nd rfl (Or.inl rfl) (pe_ix (ix_listK K rfl) (pe_ix (ix_listK K rfl) (pv 0) (pe_ix (ix_listK K rfl) (pe_ix (ix_listK K rfl) (pv 0) (pv 3) (fun _ _ => rfl)) (pv 2) (fun _ _ => rfl)) (fun _ _ => rfl)) (pv 4) (fun _ _ => rfl)))
          (pss_cons (ps_if (pt_cmpR op_ne (pv 5) (pe_ix (ix_listK K rfl) (pe_ix (ix_listK K rfl) (pv 0) (pe_ix (ix_listK K rfl) (pe_ix (ix_listK K rfl) (pv 0) (pv 3) (fun _ _ => rfl)) (pv 4) (fun _ _ => rfl)) (fun _ _ => rfl)) (pe_ix (ix_listK K rfl) (pe_ix (ix_listK K rfl) (pv 0) (pv 2) (fun _ _ => rfl)) (pv 4) (fun _ _ => rfl)) (fun _ _ => rfl)) (nomark _))
            (pss_cons (ps_ret pe_bl)
            pss_nil)
            pss_nil)
          pss_nil)))
        pss_nil))
      pss_nil)))
    (pss_cons (ps_ret pe_bl)
    pss_nil))), ?_⟩
  refine top_T (S := (SC.add SC.nil K (rV (rV rInt)) v_0 a_0)) (σ := [some v_0, none, none, none, none, none]) 0 ?_ (SC.i SC.t h_0) hm q rfl
  unfold m_table_fine
  exact (sv_set (K := K) (r := rInt) 1 (EvB.sh (evb_len (evb_var (r := (rV (rV rInt))) 0 rfl (fun _ s => (SC.r s))))) fun a1 v2 => (sv_forC (K := K) (J := ({ oo := fun x5 => [], ss := fun x5 => [some v_0, some v2, x5.1, x5.2.1, x5.2.2.1, x5.2.2.2], sc := fun g6 x5 => (SC.add (SC.add SC.nil K (rV (rV rInt)) v_0 a_0) K rInt v2 a1) } : Jn (Unit) (Option V × Option V × Option V × Option V))) (fun _ => tg1 2) ((none), (none), (none), (none)) () (walk_range1 (evb_var (r := rInt) 1 rfl (fun _ s => (SC.r s)))) rfl rfl (fun _ s => (SC.i (SC.i SC.t (SC.r (SC.l s))) (SC.r s))) (fun g7 x8 a9 v10 => (sv_ifRC (evt_or (evt_test (K := K) (evb_ne (evb_ix (evb_ix (evb_var (r := (rV (rV rInt))) 0 rfl (fun _ s => (SC.r (SC.l (SC.l s))))) (evb_var (r := rInt) 2 rfl (fun _ s => (SC.r s)))) (evb_var (r := rInt) 2 rfl (fun _ s => (SC.r s)))) (evb_var (r := rInt) 2 rfl (fun _ s => (SC.r s))))) (evt_test (K := K) (evb_neE (Ev.toB (ev_sortL (Ev.ls (ev_comp (fun _ => tg1 0) (walk_list (evs_var (r := (rV (rV rInt))) 0 rfl (fun _ s => (SC.r (SC.l (SC.l s)))))) (fun C18 a19 v20 => (EvS.ev (EvB.sh (evb_ix (evb_var (r := (rV rInt)) 0 rfl (fun _ s => (SC.r s))) (evb_var (r := rInt) 1 rfl (fun _ s => (SC.r (SC.l s)))))))))))) (Ev.toB (ev_listrange (evb_var (r := rInt) 1 rfl (fun _ s => (SC.r (SC.l s))))))))) (sv_ret (EvS.ev (EvB.sh (evb_bl false)))) (sv_forCC (K := K) (J := ({ oo := fun x29 => [], ss := fun x29 => [some v_0, some v2, some v10, x29.1, x29.2.1, x29.2.2], sc := fun g30 x29 => (SC.add (SC.add (SC.add SC.nil K (rV (rV rInt)) v_0 a_0) K rInt v2 a1) K rInt v10 a9) } : Jn (Unit) (Option V × Option V × Option V))) (fun _ => tg1 3) ((x8.2.1), (x8.2.2.1), (x8.2.2.2)) () (walk_range1 (evb_var (r := rInt) 1 rfl (fun _ s => (SC.r (SC.l s))))) rfl rfl (fun _ s => (SC.i (SC.i (SC.i SC.t (SC.r (SC.l (SC.l s)))) (SC.r (SC.l s))) (SC.r s))) (fun g31 x32 a33 v34 => (sv_forCC (K := K) (J := ({ oo := fun x36 => [], ss := fun x36 => [some v_0, some v2, some v10, some v34, x36.1, x36.2], sc := fun g37 x36 => (SC.add (SC.add (SC.add (SC.add SC.nil K (rV (rV rInt)) v_0 a_0) K rInt v2 a1) K rInt v10 a9) K rInt v34 a33) } : Jn (Unit) (Option V × Option V))) (fun _ => tg1 4) ((x32.2.1), (x32.2.2)) () (walk_range1 (evb_var (r := rInt) 1 rfl (fun _ s => (SC.r (SC.l (SC.l s)))))) rfl rfl (fun _ s => (SC.i (SC.i (SC.i (SC.i SC.t (SC.r (SC.l (SC.l (SC.l s))))) (SC.r (SC.l (SC.l s)))) (SC.r (SC.l s))) (SC.r s))) (fun g38 x39 a40 v41 => (sv_set (K := K) (r := rInt) 5 (EvB.sh (evb_ix (evb_ix (evb_var (r := (rV (rV rInt))) 0 rfl (fun _ s => (SC.r (SC.l (SC.l (SC.l (SC.l s))))))) (evb_ix (evb_ix (evb_var (r := (rV (rV rInt))) 0 rfl (fun _ s => (SC.r (SC.l (SC.l (SC.l (SC.l s))))))) (evb_var (r := rInt) 3 rfl (fun _ s => (SC.r (SC.l s))))) (evb_var (r := rInt) 2 rfl (fun _ s => (SC.r (SC.l (SC.l s))))))) (evb_var (r := rInt) 4 rfl (fun _ s => (SC.r s))))) fun a42 v43 => (sv_ifRC (evt_test (K := K) (evb_ne (evb_var (r := rInt) 5 rfl (fun _ s => (SC.r s))) (evb_ix (evb_ix (evb_var (r := (rV (rV rInt))) 0 rfl (fun _ s => (SC.r (SC.l (SC.l (SC.l (SC.l (SC.l s)))))))) (evb_ix (evb_ix (evb_var (r := (rV (rV rInt))) 0 rfl (fun _ s => (SC.r (SC.l (SC.l (SC.l (SC.l (SC.l s)))))))) (evb_var (r := rInt) 3 rfl (fun _ s => (SC.r (SC.l (SC.l s)))))) (evb_var (r := rInt) 4 rfl (fun _ s => (SC.r (SC.l s)))))) (evb_ix (evb_ix (evb_var (r := (rV (rV rInt))) 0 rfl (fun _ s => (SC.r (SC.l (SC.l (SC.l (SC.l (SC.l s)))))))) (evb_var (r := rInt) 2 rfl (fun _ s => (SC.r (SC.l (SC.l (SC.l s))))))) (evb_var (r := rInt) 4 rfl (fun _ s => (SC.r (SC.l s)))))))) (sv_ret (EvS.ev (EvB.sh (evb_bl false)))) (sv_nxC (sv_end (J := _) ((some v41), (some v43)) () rfl rfl (fun _ s => (SC.i (SC.i (SC.i (SC.i SC.t (SC.r (SC.l (SC.l (SC.l (SC.l (SC.l s))))))) (SC.r (SC.l (SC.l (SC.l (SC.l s)))))) (SC.r (SC.l (SC.l (SC.l s))))) (SC.r (SC.l (SC.l s)))))))))) fun g69 x70 => (sv_nxC (sv_end (J := _) ((some v34), (x70.1), (x70.2)) () rfl rfl (fun _ s => (SC.i (SC.i (SC.i SC.t (SC.r (SC.l (SC.l (SC.l s))))) (SC.r (SC.l (SC.l s)))) (SC.r (SC.l s)))))))) fun g73 x74 => (sv_nxC (sv_end (J := _) ((some v10), (x74.1), (x74.2.1), (x74.2.2)) () rfl rfl (fun _ s => (SC.i (SC.i SC.t (SC.r (SC.l (SC.l s)))) (SC.r (SC.l s))))))))) fun g78 x79 => (sv_ret (EvS.ev (EvB.sh (evb_bl true))))))
theorem sc_asked : FnScope ["_law_some", "_law_first"] ["_law_some"] (defScope s_asked) := ⟨rfl, rfl, rfl, by decide +kernel, rfl, by decide +kernel, by decide +kernel⟩
set_option maxHeartbeats 4000000 in
theorem ok_asked (D : Def K mg "_law_asked" s_asked ["_law_some"]) (g_cycle : Fn P w K mg base 2 "cycle" ["size"] (sp1 rInt (oL (oL (oF rInt))) m_cycle K)) (g_both : Fn P w K mg base 3 "both" ["one", "other"] (sp2 (rV (rV rInt)) (rV (rV rInt)) (oL (oL (oF rInt))) m_both K)) (g_orders : Fn P w K mg base 3 "orders" ["count"] (sp1 rInt (oL (oL (oF rInt))) m_orders K)) (Z : Blt mg) : Fn P w K mg base 4 "_law_asked" ["_law_some"] (sp1 (rV rInt) (oL (oL (oF rInt))) m_asked K) := by
  refine fn_mk D sc_asked (fun vs H Q E h => ?_) (fun f cdv A outer s H vs Q E hr h => ?_)
  · obtain ⟨v_0, a_0, b, rfl, _⟩ := h; rfl
  obtain ⟨v_0, a_0, b, rfl, h_0, hm, q⟩ := h
  have hu := hu8 hr
  have hu1 := hu_of hr
  refine ⟨_, (pss_cons (ps_if (pt_cmpR op_eq (pe_ix (ix_listK K rfl) (pv 0) pe_int (fun _ _ => rfl)) pe_int (nomark _))
      (pss_cons (ps_ret (pe_fn g_cycle hr (by decide) (pa_cons (pe_op op_add pe_int (pe_ix (ix_listK K rfl) (pv 0) pe_int (fun _ _ => rfl))) pa_nil)))
      pss_nil)
      pss_nil)
    (pss_cons (ps_if (PW.pt (pw_and (pt_cmpR op_eq (pe_ix (ix_listK K rfl) (pv 0) pe_int (fun _ _ => rfl)) pe_int (nomark _)) (pw_and1 (pt_cmpR op_eq (pe_ix (ix_listK K rfl) (pv 0) pe_int (fun _ _ => rfl)) pe_int (nomark _)))))
      (pss_cons (ps_ret (pe_fn g_orders hr (by decide) (pa_cons pe_int pa_nil)))
      pss_nil)
      pss_nil)
    (pss_cons (ps_if (pt_cmpR op_eq (pe_ix (ix_listK K rfl) (pv 0) pe_int (fun _ _ => rfl)) pe_int (nomark _))
      (pss_cons (ps_ret (pe_fn g_orders hr (by decide) (pa_cons (pe_op op_add pe_int (pe_op op_mod (pe_ix (ix_listK K rfl) (pv 0) pe_int (fun _ _ => rfl)) pe_int)) pa_nil)))
      pss_nil)
      pss_nil)
    (pss_cons (ps_set (i := 1) sc_asked.nd rfl (Or.inl rfl) (pe_fn g_cycle hr (by decide) (pa_cons (pe_op op_add pe_int (pe_op op_mod (pe_ix (ix_listK K rfl) (pv 0) pe_int (fun _ _ => rfl)) pe_int)) pa_nil)))
    (pss_cons (ps_if (pt_cmpR op_eq (pe_op op_mod (pe_ix (ix_listK K rfl) (pv 0) pe_int (fun _ _ => rfl)) pe_int) pe_int (nomark _))
      (pss_cons (ps_ret (pe_fn g_both hr (by decide) (pa_cons (pv 1) (pa_cons (pe_fn g_orders hr (by decide) (pa_cons (pe_op op_add pe_int (pe_op op_mod (pe_ix (ix_listK K rfl) (pv 0) pe_int (fun _ _ => rfl)) pe_int)) pa_nil)) pa_nil))))
      pss_nil)
      pss_nil)
    (pss_cons (ps_ret (pe_fn g_both hr (by decide) (pa_cons (pe_fn g_orders hr (by decide) (pa_cons (pe_op op_add pe_int (pe_op op_mod (pe_ix (ix_listK K rfl) (pv 0) pe_int (fun _ _ => rfl)) pe_int)) pa_nil)) (pa_cons (pv 1) pa_nil))))
    pss_nil)))))), ?_⟩
  refine top_T (S := (SC.add SC.nil K (rV rInt) v_0 a_0)) (σ := [some v_0, none]) 0 ?_ (SC.i SC.t h_0) hm q rfl
  unfold m_asked
  exact (sv_ifR (evt_test (K := K) (evb_eq (evb_ix (evb_var (r := (rV rInt)) 0 rfl (fun _ s => (SC.r s))) (evb_int 0)) (evb_int 0))) (sv_ret (ev_call1 (evb_add (evb_int 1) (evb_ix (evb_var (r := (rV rInt)) 0 rfl (fun _ s => (SC.r s))) (evb_int 1))))) (sv_ifR (evt_and (evt_test (K := K) (evb_eq (evb_ix (evb_var (r := (rV rInt)) 0 rfl (fun _ s => (SC.r s))) (evb_int 0)) (evb_int 1))) (evt_test (K := K) (evb_eq (evb_ix (evb_var (r := (rV rInt)) 0 rfl (fun _ s => (SC.r s))) (evb_int 2)) (evb_int 0)))) (sv_ret (ev_call1 (evb_int 4))) (sv_ifR (evt_test (K := K) (evb_eq (evb_ix (evb_var (r := (rV rInt)) 0 rfl (fun _ s => (SC.r s))) (evb_int 0)) (evb_int 1))) (sv_ret (ev_call1 (evb_add (evb_int 1) (evb_mod (evb_ix (evb_var (r := (rV rInt)) 0 rfl (fun _ s => (SC.r s))) (evb_int 1)) (evb_int 3))))) (sv_set (K := K) (r := (rV (rV rInt))) 1 (Ev.sh (ev_call1 (evb_add (evb_int 1) (evb_mod (evb_ix (evb_var (r := (rV rInt)) 0 rfl (fun _ s => (SC.r s))) (evb_int 1)) (evb_int 4))))) fun a36 v37 => (sv_ifR (evt_test (K := K) (evb_eq (evb_mod (evb_ix (evb_var (r := (rV rInt)) 0 rfl (fun _ s => (SC.r (SC.l s)))) (evb_int 2)) (evb_int 2)) (evb_int 0))) (sv_ret (ev_call2 (evb_var (r := (rV (rV rInt))) 1 rfl (fun _ s => (SC.r s))) (Ev.toB (ev_call1 (evb_add (evb_int 1) (evb_mod (evb_ix (evb_var (r := (rV rInt)) 0 rfl (fun _ s => (SC.r (SC.l s)))) (evb_int 3)) (evb_int 3))))))) (sv_ret (ev_call2 (Ev.toB (ev_call1 (evb_add (evb_int 1) (evb_mod (evb_ix (evb_var (r := (rV rInt)) 0 rfl (fun _ s => (SC.r (SC.l s)))) (evb_int 3)) (evb_int 3))))) (evb_var (r := (rV (rV rInt))) 1 rfl (fun _ s => (SC.r s))))))))))
theorem sc_square : FnScope ["_law_some", "_law_line", "_law_one"] ["_law_some"] (defScope s_square) := ⟨rfl, rfl, rfl, by decide +kernel, rfl, by decide +kernel, by decide +kernel⟩
set_option maxHeartbeats 4000000 in
theorem ok_square (D : Def K mg "_law_square" s_square ["_law_some"])  (Z : Blt mg) : Fn P w K mg base 1 "_law_square" ["_law_some"] (sp1 (rV (rV rInt)) (oF rBool) m_square K) := by
  refine fn_mk D sc_square (fun vs H Q E h => ?_) (fun f cdv A outer s H vs Q E hr h => ?_)
  · obtain ⟨v_0, a_0, b, rfl, _⟩ := h; rfl
  obtain ⟨v_0, a_0, b, rfl, h_0, hm, q⟩ := h
  have hu := hu8 hr
  have hu1 := hu_of hr
  refine ⟨_, (pss_cons (ps_if (PW.pt (pw_or (pt_not (pt_val (pe_callB call_isinst rfl Z.b_isinstance PyProof.Rows.boot_isinstance (pa_cons (pv 0) (pa_cons (pe_bltn (v := V.ty "list") rfl Z.b_list PyProof.Rows.boot_list rfl) pa_nil))))) (pw_or1 (pt_cmpR op_gt (pe_callB (call_len_seqK K rfl) rfl Z.b_len PySem.boot_len (pa_cons (pv 0) pa_nil)) pe_int (nomark _)))))
      (pss_cons (ps_ret pe_bl)
      pss_nil)
      pss_nil)
    (pss_cons (ps_for PassesOwn.never rfl (pi_listK (K := K) rfl (pv 0)) (pg_name (i := 1) sc_square.nd rfl (Or.inl rfl))
      (pss_cons (ps_if (PW.pt (pw_or (pt_not (pt_val (pe_callB call_isinst rfl Z.b_isinstance PyProof.Rows.boot_isinstance (pa_cons (pv 1) (pa_cons (pe_bltn (v := V.ty "list") rfl Z.b_list PyProof.Rows.boot_list rfl) pa_nil))))) (pw_or1 (pt_cmpR op_ne (pe_callB (call_len_seqK K rfl) rfl Z.b_len PySem.boot_len (pa_cons (pv 1) pa_nil)) (pe_callB (call_len_seqK K rfl) rfl Z.b_len PySem.boot_len (pa_cons (pv 0) pa_nil)) (nomark _)))))
        (pss_cons (ps_ret pe_bl)
        pss_nil)
        pss_nil)
      (pss_cons (ps_for PassesOwn.never rfl (pi_listK (K := K) rfl (pv 1)) (pg_name (i := 2) sc_square.nd rfl (Or.inl rfl))
        (pss_cons (ps_if (PW.pt (pw_or (pt_val (pe_callB call_isinst rfl Z.b_isinstance PyProof.Rows.boot_isinstance (pa_cons (pv 2) (pa_cons (pe_bltn (v := V.ty "bool") rfl Z.b_bool PyProof.Rows.boot_bool rfl) pa_nil)))) (pw_or (pt_not (pt_val (pe_callB call_isinst rfl Z.b_isinstance PyProof.Rows.boot_isinstance (pa_cons (pv 2) (pa_cons (pe_bltn (v := V.ty "int") rfl Z.b_int PyProof.Rows.boot_int rfl) pa_nil))))) (pw_or1 (pt_not (pt_chain op_le op_lt pe_int (pv 2) (pe_callB (call_len_seqK K rfl) rfl Z.b_len PySem.boot_len (pa_cons (pv 0) pa_nil))))))))
          (pss_cons (ps_ret pe_bl)
          pss_nil)
          pss_nil)
        pss_nil))
      pss_nil)))
    (pss_cons (ps_ret pe_bl)
    pss_nil))), ?_⟩
  refine top_T (S := (SC.add SC.nil K (rV (rV rInt)) v_0 a_0)) (σ := [some v_0, none, none]) 0 ?_ (SC.i SC.t h_0) hm q rfl
  unfold m_square
  exact (sv_ifR (evt_or (evt_not (evt_B (K := K) (evb_isinst "list" true (kit_same K "list") (evb_var (r := (rV (rV rInt))) 0 rfl (fun _ s => (SC.r s)))))) (evt_test (K := K) (evb_gt (evb_len (evb_var (r := (rV (rV rInt))) 0 rfl (fun _ s => (SC.r s)))) (evb_int 24)))) (sv_ret (EvS.ev (EvB.sh (evb_bl false)))) (sv_forC (K := K) (J := ({ oo := fun x7 => [], ss := fun x7 => [some v_0, x7.1, x7.2], sc := fun g8 x7 => (SC.add SC.nil K (rV (rV rInt)) v_0 a_0) } : Jn (Unit) (Option V × Option V))) (fun _ => tg1 1) ((none), (none)) () (walk_list (evs_var (r := (rV (rV rInt))) 0 rfl (fun _ s => (SC.r s)))) rfl rfl (fun _ s => (SC.i SC.t (SC.r s))) (fun g9 x10 a11 v12 => (sv_ifRC (evt_or (evt_not (evt_B (K := K) (evb_isinst "list" true (kit_same K "list") (evb_var (r := (rV rInt)) 1 rfl (fun _ s => (SC.r s)))))) (evt_test (K := K) (evb_ne (evb_len (evb_var (r := (rV rInt)) 1 rfl (fun _ s => (SC.r s)))) (evb_len (evb_var (r := (rV (rV rInt))) 0 rfl (fun _ s => (SC.r (SC.l s)))))))) (sv_ret (EvS.ev (EvB.sh (evb_bl false)))) (sv_forCC (K := K) (J := ({ oo := fun x20 => [], ss := fun x20 => [some v_0, some v12, x20], sc := fun g21 x20 => (SC.add (SC.add SC.nil K (rV (rV rInt)) v_0 a_0) K (rV rInt) v12 a11) } : Jn (Unit) (Option V))) (fun _ => tg1 2) ((x10.2)) () (walk_list (evs_var (r := (rV rInt)) 1 rfl (fun _ s => (SC.r s)))) rfl rfl (fun _ s => (SC.i (SC.i SC.t (SC.r (SC.l s))) (SC.r s))) (fun g22 x23 a24 v25 => (sv_ifRC (evt_or (evt_B (K := K) (evb_isinst "bool" false (kit_int_bool K) (evb_var (r := rInt) 2 rfl (fun _ s => (SC.r s))))) (evt_or (evt_not (evt_B (K := K) (evb_isinst "int" true (kit_same K "int") (evb_var (r := rInt) 2 rfl (fun _ s => (SC.r s)))))) (evt_not (evt_test (K := K) (evb_chain (evb_int 0) (evb_var (r := rInt) 2 rfl (fun _ s => (SC.r s))) (evb_len (evb_var (r := (rV (rV rInt))) 0 rfl (fun _ s => (SC.r (SC.l (SC.l s))))))))))) (sv_ret (EvS.ev (EvB.sh (evb_bl false)))) (sv_nxC (sv_end (J := _) ((some v25)) () rfl rfl (fun _ s => (SC.i (SC.i SC.t (SC.r (SC.l (SC.l s)))) (SC.r (SC.l s)))))))) fun g37 x38 => (sv_nxC (sv_end (J := _) ((some v12), (x38)) () rfl rfl (fun _ s => (SC.i SC.t (SC.r (SC.l s))))))))) fun g42 x43 => (sv_ret (EvS.ev (EvB.sh (evb_bl true))))))
theorem sc_law : FnScope ["_law_script", "_law_some", "_law_group", "_law_made", "_law_one", "_law_size"] ["_law_script"] (defScope s_law) := ⟨rfl, rfl, rfl, by decide +kernel, rfl, by decide +kernel, by decide +kernel⟩
set_option maxHeartbeats 4000000 in
theorem ok_law {f : Addr} {fd : FuncData} (F : Fun K "law" "law" s_law f fd) (g_row : Fn P w K mg base 2 "_law_row" ["_law_script", "_law_place", "_law_sizes"] (sp3 (rL rInt) rInt (rV rInt) (oL (oF rInt)) m_row K)) (g_asked : Fn P w K mg base 4 "_law_asked" ["_law_some"] (sp1 (rV rInt) (oL (oL (oF rInt))) m_asked K)) (g_conjugates : Fn P w K mg base 3 "conjugates" ["group"] (sp1 (rV (rV rInt)) (oL (oL (oF rInt))) m_conjugates K)) (g_cores : Fn P w K mg base 3 "cores" ["group"] (sp1 (rV (rV rInt)) (oL (oL (oF rInt))) m_cores K)) (g_class_table : Fn P w K mg base 4 "class_table" ["group", "a"] (sp2 (rV (rV rInt)) rInt (oL (oL (oF rInt))) m_class_table K)) (g_turns : Fn P w K mg base 3 "turns" ["size"] (sp1 rInt (oL (oL (oF rInt))) m_turns K)) (g_square : Fn P w K mg base 1 "_law_square" ["_law_some"] (sp1 (rV (rV rInt)) (oF rBool) m_square K)) (g_group_fine : Fn P w K mg base 1 "_law_group_fine" ["_law_some"] (sp1 (rV (rV rInt)) (oF rBool) m_group_fine K)) (g_cycle : Fn P w K mg base 2 "cycle" ["size"] (sp1 rInt (oL (oL (oF rInt))) m_cycle K)) (g_table_fine : Fn P w K mg base 1 "_law_table_fine" ["_law_some"] (sp1 (rV (rV rInt)) (oF rBool) m_table_fine K)) (Z : Blt mg) : FnOk P w K mg base CX0 5 f fd ["_law_script"] (sp1 (rL rInt) (oF rBool) m_law K) := by
  refine F.ok sc_law (fun vs H Q E h => ?_) (fun cdv A outer s H vs Q E hr h => ?_)
  · obtain ⟨v_0, a_0, b, rfl, _⟩ := h; rfl
  obtain ⟨v_0, a_0, b, rfl, h_0, hm, q⟩ := h
  have hu := hu8 hr
  have hu1 := hu_of hr
  refine ⟨_, (pss_cons (ps_set (i := 1) sc_law.nd rfl (Or.inl rfl) (pe_fn g_row hr (by decide) (pa_cons (pv 0) (pa_cons pe_int (pa_cons (pe_lst (pa_cons pe_int (pa_cons pe_int (pa_cons pe_int (pa_cons pe_int (pa_cons pe_int pa_nil)))))) pa_nil star_list)))))
    (pss_cons (ps_set (i := 2) sc_law.nd rfl (Or.inl rfl) (pe_fn g_asked hr (by decide) (pa_cons (pv 1) pa_nil)))
    (pss_cons (ps_if (PW.pt (pw_or (pt_not (pt_val (pe_fn g_square hr (by decide) (pa_cons (pv 2) pa_nil)))) (pw_or1 (pt_not (pt_val (pe_fn g_group_fine hr (by decide) (pa_cons (pv 2) pa_nil)))))))
      (pss_cons (ps_ret pe_bl)
      pss_nil)
      pss_nil)
    (pss_cons (ps_set (i := 3) sc_law.nd rfl (Or.inl rfl) (pe_lst (pa_cons (pe_fn g_conjugates hr (by decide) (pa_cons (pv 2) pa_nil)) (pa_cons (pe_fn g_cores hr (by decide) (pa_cons (pv 2) pa_nil)) (pa_cons (pe_fn g_class_table hr (by decide) (pa_cons (pv 2) (pa_cons (pe_op op_mod (pe_ix (ix_listK K rfl) (pv 1) pe_int (fun _ _ => rfl)) (pe_callB (call_len_seqK K rfl) rfl Z.b_len PySem.boot_len (pa_cons (pv 2) pa_nil))) pa_nil))) pa_nil)))))
    (pss_cons (ps_for PassesOwn.never rfl (pi_listK (K := K) rfl (pv 3)) (pg_name (i := 4) sc_law.nd rfl (Or.inl rfl))
      (pss_cons (ps_if (PW.pt (pw_or (pt_not (pt_val (pe_fn g_square hr (by decide) (pa_cons (pv 4) pa_nil)))) (pw_or1 (pt_not (pt_val (pe_fn g_table_fine hr (by decide) (pa_cons (pv 4) pa_nil)))))))
        (pss_cons (ps_ret pe_bl)
        pss_nil)
        pss_nil)
      pss_nil))
    (pss_cons (ps_set (i := 5) sc_law.nd rfl (Or.inr rfl) (pe_op op_add pe_int (pe_ix (ix_listK K rfl) (pv 1) pe_int (fun _ _ => rfl))))
    (pss_cons (ps_if (pt_cmpR (op_neE (eq_V (eq_V eq_int)) (le_hu (by decide) hu)) (pe_fn g_conjugates hr (by decide) (pa_cons (pe_fn g_cycle hr (by decide) (pa_cons (pv 5) pa_nil)) pa_nil)) (pe_compI (sc := (defScope s_law)) (N0 := ["_law_script", "_law_some", "_law_group", "_law_made", "_law_one", "_law_size"]) (tns := ["_law_a"]) (caps := [(5, "_law_size")]) rfl (pi_range1 rfl Z.b_range (pa_cons (pv 5) pa_nil)) (gk_name (by decide)) (fun cl C s H ex E => ⟨pg_name (i := 0) (show List.Nodup (["_law_a", "_law_size"] : List Str) by decide +kernel) rfl (Or.inl rfl), pts_nil, (pe_op op_rep (pe_lst (pa_cons (pv 0) pa_nil)) (pv 1))⟩)) (nomark _))
      (pss_cons (ps_ret pe_bl)
      pss_nil)
      pss_nil)
    (pss_cons (ps_ret (pe_cmpR (op_eqE (eq_V (eq_V eq_int)) (le_hu (by decide) hu)) (pe_fn g_cores hr (by decide) (pa_cons (pe_fn g_cycle hr (by decide) (pa_cons (pv 5) pa_nil)) pa_nil)) (pe_fn g_turns hr (by decide) (pa_cons (pv 5) pa_nil)) (nomark _)))
    pss_nil)))))))), ?_⟩
  refine top_T (S := (SC.add SC.nil K (rL rInt) v_0 a_0)) (σ := [some v_0, none, none, none, none, none]) 0 ?_ (SC.i SC.t h_0) hm q rfl
  unfold m_law
  exact (sv_set (K := K) (r := (rV rInt)) 1 (Ev.sh (ev_call3 (evb_var (r := (rL rInt)) 0 rfl (fun _ s => (SC.r s))) (evb_int 0) (Ev.toB (ev_lst (eva_cons (EvB.sh (evb_int 3)) (eva_cons (EvB.sh (evb_int 12)) (eva_cons (EvB.sh (evb_int 8)) (eva_cons (EvB.sh (evb_int 3)) (eva_cons (EvB.sh (evb_int 24)) eva_nil))))))))) fun a1 v2 => (sv_set (K := K) (r := (rV (rV rInt))) 2 (Ev.sh (ev_call1 (evb_var (r := (rV rInt)) 1 rfl (fun _ s => (SC.r s))))) fun a18 v19 => (sv_ifR (evt_or (evt_not (evt_B (K := K) (Ev.toB (ev_call1 (evb_var (r := (rV (rV rInt))) 2 rfl (fun _ s => (SC.r s))))))) (evt_not (evt_B (K := K) (Ev.toB (ev_call1 (evb_var (r := (rV (rV rInt))) 2 rfl (fun _ s => (SC.r s)))))))) (sv_ret (EvS.ev (EvB.sh (evb_bl false)))) (sv_set (K := K) (r := (rV (rV (rV rInt)))) 3 (Ev.sh (ev_lstO (evao_cons (ev_call1 (evb_var (r := (rV (rV rInt))) 2 rfl (fun _ s => (SC.r s)))) fun _ => (evao_cons (ev_call1 (evb_var (r := (rV (rV rInt))) 2 rfl (fun _ s => (SC.r s)))) fun _ => (evao_cons (ev_call2 (evb_var (r := (rV (rV rInt))) 2 rfl (fun _ s => (SC.r s))) (evb_mod (evb_ix (evb_var (r := (rV rInt)) 1 rfl (fun _ s => (SC.r (SC.l s)))) (evb_int 4)) (evb_len (evb_var (r := (rV (rV rInt))) 2 rfl (fun _ s => (SC.r s)))))) fun _ => evao_nil))))) fun a29 v30 => (sv_forC (K := K) (J := ({ oo := fun x50 => [], ss := fun x50 => [some v_0, some v2, some v19, some v30, x50, none], sc := fun g51 x50 => (SC.add (SC.add (SC.add (SC.add SC.nil K (rL rInt) v_0 a_0) K (rV rInt) v2 a1) K (rV (rV rInt)) v19 a18) K (rV (rV (rV rInt))) v30 a29) } : Jn (Unit) (Option V))) (fun _ => tg1 4) ((none)) () (walk_list (evs_var (r := (rV (rV (rV rInt)))) 3 rfl (fun _ s => (SC.r s)))) rfl rfl (fun _ s => (SC.i (SC.i (SC.i (SC.i SC.t (SC.r (SC.l (SC.l (SC.l s))))) (SC.r (SC.l (SC.l s)))) (SC.r (SC.l s))) (SC.r s))) (fun g52 x53 a54 v55 => (sv_ifRC (evt_or (evt_not (evt_B (K := K) (Ev.toB (ev_call1 (evb_var (r := (rV (rV rInt))) 4 rfl (fun _ s => (SC.r s))))))) (evt_not (evt_B (K := K) (Ev.toB (ev_call1 (evb_var (r := (rV (rV rInt))) 4 rfl (fun _ s => (SC.r s)))))))) (sv_ret (EvS.ev (EvB.sh (evb_bl false)))) (sv_nxC (sv_end (J := _) ((some v55)) () rfl rfl (fun _ s => (SC.i (SC.i (SC.i (SC.i SC.t (SC.r (SC.l (SC.l (SC.l (SC.l s)))))) (SC.r (SC.l (SC.l (SC.l s))))) (SC.r (SC.l (SC.l s)))) (SC.r (SC.l s)))))))) fun g65 x66 => (sv_set (K := K) (r := rInt) 5 (EvB.sh (evb_add (evb_int 1) (evb_ix (evb_var (r := (rV rInt)) 1 rfl (fun _ s => (SC.r (SC.l (SC.l s))))) (evb_int 1)))) fun a67 v68 => (sv_ifR (evt_test (K := K) (evb_neE (Ev.toB (ev_call1 (Ev.toB (ev_call1 (evb_var (r := rInt) 5 rfl (fun _ s => (SC.r s))))))) (Ev.toB (ev_comp (fun _ => tg1 0) (walk_range1 (evb_var (r := rInt) 5 rfl (fun _ s => (SC.r s)))) (fun C78 a79 v80 => (ev_rep (Ev.ls (ev_lst (eva_cons (evs_var (r := rInt) 0 rfl (fun _ s => (SC.r s))) eva_nil))) (evb_var (r := rInt) 1 rfl (fun _ s => (SC.r (SC.l s)))))))))) (sv_ret (EvS.ev (EvB.sh (evb_bl false)))) (sv_ret (EvS.ev (EvB.sh (evb_eqE (Ev.toB (ev_call1 (Ev.toB (ev_call1 (evb_var (r := rInt) 5 rfl (fun _ s => (SC.r s))))))) (Ev.toB (ev_call1 (evb_var (r := rInt) 5 rfl (fun _ s => (SC.r s))))))))))))))))
end
theorem dmk1 {K : PySem.W.Frag} {mg : Str → Option Value} {h : Heap} (X : K.In h) (G : h.Ns mainGlobals mg) {x p0 : Str} {st : Stmt} {f : Addr} {oc : Value} {od an : Option Addr} {osl : Array (Option Value)} {kV doc pm cdv ct : Value} (hb : ∀ (kV doc pm : Value) (an : Option Addr) (cdv ct u0 : Value), bindArgs (PySem.W.fnOf x x (defArgs st) (defBody st) (defScope st) .none kV doc pm an cdv ct) ⟨[u0], []⟩ = pure ([p0].zip [u0])) (a : PySem.W.nsIn K mainGlobals x = some (some (.ref f))) (l : K.lookup f = some ⟨oc, od, .func (PySem.W.fnOf x x (defArgs st) (defBody st) (defScope st) .none kV doc pm an cdv ct), osl⟩) (c : PySem.W.codeIn K cdv x = true) (k : PySem.W.keepIn K (.ref f) = true) : Def K mg x st [p0] := ⟨f, _, fun_mk l c k, (fun_mk l c k).binds fun _ _ _ _ _ _ us hl => (by obtain ⟨_, rfl⟩ := lenL1 hl; exact hb ..), PySem.W.mg_of X G a⟩
theorem dmk2 {K : PySem.W.Frag} {mg : Str → Option Value} {h : Heap} (X : K.In h) (G : h.Ns mainGlobals mg) {x p0 p1 : Str} {st : Stmt} {f : Addr} {oc : Value} {od an : Option Addr} {osl : Array (Option Value)} {kV doc pm cdv ct : Value} (hb : ∀ (kV doc pm : Value) (an : Option Addr) (cdv ct u0 u1 : Value), bindArgs (PySem.W.fnOf x x (defArgs st) (defBody st) (defScope st) .none kV doc pm an cdv ct) ⟨[u0, u1], []⟩ = pure ([p0, p1].zip [u0, u1])) (a : PySem.W.nsIn K mainGlobals x = some (some (.ref f))) (l : K.lookup f = some ⟨oc, od, .func (PySem.W.fnOf x x (defArgs st) (defBody st) (defScope st) .none kV doc pm an cdv ct), osl⟩) (c : PySem.W.codeIn K cdv x = true) (k : PySem.W.keepIn K (.ref f) = true) : Def K mg x st [p0, p1] := ⟨f, _, fun_mk l c k, (fun_mk l c k).binds fun _ _ _ _ _ _ us hl => (by obtain ⟨_, _, rfl⟩ := lenL2 hl; exact hb ..), PySem.W.mg_of X G a⟩
theorem dmk3 {K : PySem.W.Frag} {mg : Str → Option Value} {h : Heap} (X : K.In h) (G : h.Ns mainGlobals mg) {x p0 p1 p2 : Str} {st : Stmt} {f : Addr} {oc : Value} {od an : Option Addr} {osl : Array (Option Value)} {kV doc pm cdv ct : Value} (hb : ∀ (kV doc pm : Value) (an : Option Addr) (cdv ct u0 u1 u2 : Value), bindArgs (PySem.W.fnOf x x (defArgs st) (defBody st) (defScope st) .none kV doc pm an cdv ct) ⟨[u0, u1, u2], []⟩ = pure ([p0, p1, p2].zip [u0, u1, u2])) (a : PySem.W.nsIn K mainGlobals x = some (some (.ref f))) (l : K.lookup f = some ⟨oc, od, .func (PySem.W.fnOf x x (defArgs st) (defBody st) (defScope st) .none kV doc pm an cdv ct), osl⟩) (c : PySem.W.codeIn K cdv x = true) (k : PySem.W.keepIn K (.ref f) = true) : Def K mg x st [p0, p1, p2] := ⟨f, _, fun_mk l c k, (fun_mk l c k).binds fun _ _ _ _ _ _ us hl => (by obtain ⟨_, _, _, rfl⟩ := lenL3 hl; exact hb ..), PySem.W.mg_of X G a⟩
theorem all_mk {l : PySem.W.OpenLaw} {w : World} {K : PySem.W.Frag} {h : Heap} {mg : Str → Option Value} {fa f : Addr} {tk0 : Tok} {tk1 : Tok} (X : K.In h) (G : h.Ns mainGlobals mg) (hfa : mg "law" = some (.ref fa)) {od an : Option Addr} {sl : Array (Option Value)} {oc kV dc pm cd ct : Value}
    (D1 : Def K mg "refuse_above" s_refuse_above ["most", "size"])
    (D2 : Def K mg "each_once" s_each_once ["count"])
    (D3 : Def K mg "longer_by_one" s_longer_by_one ["lists", "count"])
    (D4 : Def K mg "paired" s_paired ["one", "other"])
    (D5 : Def K mg "paired_row" s_paired_row ["above", "row"])
    (D6 : Def K mg "cycle" s_cycle ["size"])
    (D7 : Def K mg "orders" s_orders ["count"])
    (D8 : Def K mg "product" s_product ["a", "b"])
    (D9 : Def K mg "both" s_both ["one", "other"])
    (D10 : Def K mg "inverse" s_inverse ["group", "a"])
    (D11 : Def K mg "step_beyond" s_step_beyond ["table", "known"])
    (D12 : Def K mg "part" s_part ["table", "members"])
    (D13 : Def K mg "conjugates" s_conjugates ["group"])
    (D14 : Def K mg "conjugate" s_conjugate ["group", "a", "b"])
    (D15 : Def K mg "cores" s_cores ["group"])
    (D16 : Def K mg "core" s_core ["group", "a", "b"])
    (D17 : Def K mg "class_of" s_class_of ["group", "a"])
    (D18 : Def K mg "class_table" s_class_table ["group", "a"])
    (D19 : Def K mg "turns" s_turns ["size"])
    (D20 : Def K mg "scaled" s_scaled ["size", "factor"])
    (D21 : Def K mg "common_divisor" s_common_divisor ["factor", "size"])
    (D22 : Def K mg "_law_cell" s_cell ["_law_script", "_law_place"])
    (D23 : Def K mg "_law_mix" s_mix ["_law_cell_here", "_law_k"])
    (D24 : Def K mg "_law_row" s_row ["_law_script", "_law_place", "_law_sizes"])
    (D25 : Def K mg "_law_group_fine" s_group_fine ["_law_some"])
    (D26 : Def K mg "_law_table_fine" s_table_fine ["_law_some"])
    (D27 : Def K mg "_law_asked" s_asked ["_law_some"])
    (D28 : Def K mg "_law_square" s_square ["_law_some"])
    (a : PySem.W.nsIn K mainGlobals "law" = some (some (.ref f))) (l0 : K.lookup f = some ⟨oc, od, .func (PySem.W.fnOf "law" "law" (defArgs s_law) (defBody s_law) (defScope s_law) .none kV dc pm an cd ct), sl⟩) (c : PySem.W.codeIn K cd "law" = true) (k : PySem.W.keepIn K (.ref f) = true)
    (z1 : PySem.W.nsIn K mainGlobals "bool" = some none)
    (z2 : PySem.W.nsIn K mainGlobals "dict" = some none)
    (z3 : PySem.W.nsIn K mainGlobals "enumerate" = some none)
    (z4 : PySem.W.nsIn K mainGlobals "int" = some none)
    (z5 : PySem.W.nsIn K mainGlobals "isinstance" = some none)
    (z6 : PySem.W.nsIn K mainGlobals "len" = some none)
    (z7 : PySem.W.nsIn K mainGlobals "list" = some none)
    (z8 : PySem.W.nsIn K mainGlobals "range" = some none)
    (z9 : PySem.W.nsIn K mainGlobals "set" = some none)
    (z10 : PySem.W.nsIn K mainGlobals "sorted" = some none)
    (w0 : PySem.W.nsIn K mainGlobals "MOST_COLOURS" = some (some (.int 24 tk0)))
    (w1 : PySem.W.nsIn K mainGlobals "MOST_THINGS" = some (some (.int 4 tk1)))
    : ∃ fd : FuncData, (∀ (s : Shared) (v : Value), BindsTo s fd ⟨[v], []⟩ [("_law_script", v)]) ∧ ∀ base : Heap, K.In base → base.Ns mainGlobals mg → FnOk l.prog w K mg base CX0 5 fa fd ["_law_script"] (sp1 (rL rInt) (oF rBool) m_law K) := by
  have e := hfa.symm.trans (PySem.W.mg_of X G a)
  cases e
  have N : ∀ {x : Str}, PySem.W.nsIn K mainGlobals x = some none → mg x = none := fun z => PySem.W.mg_none_of X G z
  have Z : Blt mg := ⟨N z1, N z2, N z3, N z4, N z5, N z6, N z7, N z8, N z9, N z10, ⟨_, PySem.W.mg_of X G w0, _, rfl⟩, ⟨_, PySem.W.mg_of X G w1, _, rfl⟩⟩
  refine ⟨PySem.W.fnOf "law" "law" (defArgs s_law) (defBody s_law) (defScope s_law) .none kV dc pm an cd ct, fun s v => .of_eq rfl, fun base _ _ => ?_⟩
  have g_cell := ok_cell (P := l.prog) (w := w) (base := base) D22  Z
  have g_mix := ok_mix (P := l.prog) (w := w) (base := base) D23  Z
  have g_row := ok_row (P := l.prog) (w := w) (base := base) D24 g_cell g_mix Z
  have g_refuse_above := ok_refuse_above (P := l.prog) (w := w) (base := base) D1  Z
  have g_cycle := ok_cycle (P := l.prog) (w := w) (base := base) D6 g_refuse_above Z
  have g_paired_row := ok_paired_row (P := l.prog) (w := w) (base := base) D5  Z
  have g_paired := ok_paired (P := l.prog) (w := w) (base := base) D4 g_refuse_above g_paired_row Z
  have g_both := ok_both (P := l.prog) (w := w) (base := base) D9 g_paired Z
  have g_longer_by_one := ok_longer_by_one (P := l.prog) (w := w) (base := base) D3  Z
  have g_each_once := ok_each_once (P := l.prog) (w := w) (base := base) D2 g_longer_by_one Z
  have g_product := ok_product (P := l.prog) (w := w) (base := base) D8  Z
  have g_orders := ok_orders (P := l.prog) (w := w) (base := base) D7 g_refuse_above g_each_once g_product Z
  have g_asked := ok_asked (P := l.prog) (w := w) (base := base) D27 g_cycle g_both g_orders Z
  have g_inverse := ok_inverse (P := l.prog) (w := w) (base := base) D10  Z
  have g_conjugate := ok_conjugate (P := l.prog) (w := w) (base := base) D14 g_inverse Z
  have g_conjugates := ok_conjugates (P := l.prog) (w := w) (base := base) D13 g_conjugate Z
  have g_core := ok_core (P := l.prog) (w := w) (base := base) D16 g_inverse Z
  have g_cores := ok_cores (P := l.prog) (w := w) (base := base) D15 g_core Z
  have g_step_beyond := ok_step_beyond (P := l.prog) (w := w) (base := base) D11  Z
  have g_part := ok_part (P := l.prog) (w := w) (base := base) D12 g_step_beyond Z
  have g_class_of := ok_class_of (P := l.prog) (w := w) (base := base) D17 g_conjugate Z
  have g_class_table := ok_class_table (P := l.prog) (w := w) (base := base) D18 g_part g_conjugates g_class_of Z
  have g_common_divisor := ok_common_divisor (P := l.prog) (w := w) (base := base) D21  Z
  have g_scaled := ok_scaled (P := l.prog) (w := w) (base := base) D20 g_refuse_above g_common_divisor Z
  have g_turns := ok_turns (P := l.prog) (w := w) (base := base) D19 g_scaled Z
  have g_square := ok_square (P := l.prog) (w := w) (base := base) D28  Z
  have g_group_fine := ok_group_fine (P := l.prog) (w := w) (base := base) D25  Z
  have g_table_fine := ok_table_fine (P := l.prog) (w := w) (base := base) D26  Z
  exact ok_law (P := l.prog) (w := w) (base := base) (fun_mk (st := s_law) l0 c k) g_row g_asked g_conjugates g_cores g_class_table g_turns g_square g_group_fine g_cycle g_table_fine Z
theorem walk {l : PySem.W.OpenLaw} {q : Program} {loose : List Str} {XP : (Str → Option Value) → Heap → Prop} {YP : World → Heap → Prop} {d : DefRec} {K : Params → PySem.W.Frag} (hn : l.most = some 63) (hdf : d.params.defaults = [])
    (hY : ∀ (w : World) (h : Heap), YP w h → (K w.params).In h)
    (F : ∀ (w : World) (mg : Str → Option Value) (fa : Addr) (h : Heap), (K w.params).In h → h.Ns mainGlobals mg → mg d.name = some (.ref fa) →
      ∃ fd : FuncData, (∀ (s : Shared) (u : Value), BindsTo s fd ⟨[u], []⟩ [("_law_script", u)]) ∧ ∀ base : Heap, (K w.params).In base → base.Ns mainGlobals mg → FnOk l.prog w (K w.params) mg base CX0 5 fa fd ["_law_script"] (sp1 (rL rInt) (oF rBool) m_law (K w.params))) :
    PySem.W.WalkO q loose XP YP l.row.toRowW d [] (fun f vs => PySem.call f vs) :=
  L2.walk_of (n := 63) (k := 5) (x := "_law_script") (CX := fun _ => CX0) (sp := fun w => sp1 (rL rInt) (oF rBool) m_law (K w.params)) hn (by decide) hdf ⟨rfl, by decide, by decide⟩ hY F (fun _ _ a ns hl _ hS => ⟨.ref a, ns, true, rfl, ⟨a, _, rfl, hS, paired_ints ns⟩, law_true ns hl, fun v C H' w m ho => ho.2⟩) fun _ _ _ _ _ z => z
end My
open PySem PySem.W PyProof.Rows
set_option maxRecDepth 100000 in
set_option maxHeartbeats 0 in
theorem PySem.Challenge.cw_plait_k36_whole_three_rules_holds : PySem.Challenge.rw_plait_k36_whole_three_rules.Holds := by
  w_on; o_law; k_head; (case hw => w_witness2)
  k_fill
  refine My.walk (l := PySem.Challenge.rw_plait_k36_whole_three_rules) rfl rfl (fun w h Y => PySem.W.kIn_of Y) ?F
  case F =>
    intro w mg fa h KX G hmg
    refine' My.all_mk KX G hmg (My.dmk2 KX G (by intros; rfl) ?a1 ?l1 ?c1 ?k1) (My.dmk1 KX G (by intros; rfl) ?a2 ?l2 ?c2 ?k2) (My.dmk2 KX G (by intros; rfl) ?a3 ?l3 ?c3 ?k3) (My.dmk2 KX G (by intros; rfl) ?a4 ?l4 ?c4 ?k4) (My.dmk2 KX G (by intros; rfl) ?a5 ?l5 ?c5 ?k5) (My.dmk1 KX G (by intros; rfl) ?a6 ?l6 ?c6 ?k6) (My.dmk1 KX G (by intros; rfl) ?a7 ?l7 ?c7 ?k7) (My.dmk2 KX G (by intros; rfl) ?a8 ?l8 ?c8 ?k8) (My.dmk2 KX G (by intros; rfl) ?a9 ?l9 ?c9 ?k9) (My.dmk2 KX G (by intros; rfl) ?a10 ?l10 ?c10 ?k10) (My.dmk2 KX G (by intros; rfl) ?a11 ?l11 ?c11 ?k11) (My.dmk2 KX G (by intros; rfl) ?a12 ?l12 ?c12 ?k12) (My.dmk1 KX G (by intros; rfl) ?a13 ?l13 ?c13 ?k13) (My.dmk3 KX G (by intros; rfl) ?a14 ?l14 ?c14 ?k14) (My.dmk1 KX G (by intros; rfl) ?a15 ?l15 ?c15 ?k15) (My.dmk3 KX G (by intros; rfl) ?a16 ?l16 ?c16 ?k16) (My.dmk2 KX G (by intros; rfl) ?a17 ?l17 ?c17 ?k17) (My.dmk2 KX G (by intros; rfl) ?a18 ?l18 ?c18 ?k18) (My.dmk1 KX G (by intros; rfl) ?a19 ?l19 ?c19 ?k19) (My.dmk2 KX G (by intros; rfl) ?a20 ?l20 ?c20 ?k20) (My.dmk2 KX G (by intros; rfl) ?a21 ?l21 ?c21 ?k21) (My.dmk2 KX G (by intros; rfl) ?a22 ?l22 ?c22 ?k22) (My.dmk2 KX G (by intros; rfl) ?a23 ?l23 ?c23 ?k23) (My.dmk3 KX G (by intros; rfl) ?a24 ?l24 ?c24 ?k24) (My.dmk1 KX G (by intros; rfl) ?a25 ?l25 ?c25 ?k25) (My.dmk1 KX G (by intros; rfl) ?a26 ?l26 ?c26 ?k26) (My.dmk1 KX G (by intros; rfl) ?a27 ?l27 ?c27 ?k27) (My.dmk1 KX G (by intros; rfl) ?a28 ?l28 ?c28 ?k28) ?a29 ?l29 ?c29 ?k29 ?z1 ?z2 ?z3 ?z4 ?z5 ?z6 ?z7 ?z8 ?z9 ?z10 ?w0 ?w1
    (case a1 => k_is); (case l1 => k_is); (case c1 => k_is); (case k1 => k_is); (case a2 => k_is); (case l2 => k_is); (case c2 => k_is); (case k2 => k_is); (case a3 => k_is); (case l3 => k_is); (case c3 => k_is); (case k3 => k_is); (case a4 => k_is); (case l4 => k_is); (case c4 => k_is); (case k4 => k_is); (case a5 => k_is); (case l5 => k_is); (case c5 => k_is); (case k5 => k_is); (case a6 => k_is); (case l6 => k_is); (case c6 => k_is); (case k6 => k_is); (case a7 => k_is); (case l7 => k_is); (case c7 => k_is); (case k7 => k_is); (case a8 => k_is); (case l8 => k_is); (case c8 => k_is); (case k8 => k_is); (case a9 => k_is); (case l9 => k_is); (case c9 => k_is); (case k9 => k_is); (case a10 => k_is); (case l10 => k_is); (case c10 => k_is); (case k10 => k_is); (case a11 => k_is); (case l11 => k_is); (case c11 => k_is); (case k11 => k_is); (case a12 => k_is); (case l12 => k_is); (case c12 => k_is); (case k12 => k_is); (case a13 => k_is); (case l13 => k_is); (case c13 => k_is); (case k13 => k_is); (case a14 => k_is); (case l14 => k_is); (case c14 => k_is); (case k14 => k_is); (case a15 => k_is); (case l15 => k_is); (case c15 => k_is); (case k15 => k_is); (case a16 => k_is); (case l16 => k_is); (case c16 => k_is); (case k16 => k_is); (case a17 => k_is); (case l17 => k_is); (case c17 => k_is); (case k17 => k_is); (case a18 => k_is); (case l18 => k_is); (case c18 => k_is); (case k18 => k_is); (case a19 => k_is); (case l19 => k_is); (case c19 => k_is); (case k19 => k_is); (case a20 => k_is); (case l20 => k_is); (case c20 => k_is); (case k20 => k_is); (case a21 => k_is); (case l21 => k_is); (case c21 => k_is); (case k21 => k_is); (case a22 => k_is); (case l22 => k_is); (case c22 => k_is); (case k22 => k_is); (case a23 => k_is); (case l23 => k_is); (case c23 => k_is); (case k23 => k_is); (case a24 => k_is); (case l24 => k_is); (case c24 => k_is); (case k24 => k_is); (case a25 => k_is); (case l25 => k_is); (case c25 => k_is); (case k25 => k_is); (case a26 => k_is); (case l26 => k_is); (case c26 => k_is); (case k26 => k_is); (case a27 => k_is); (case l27 => k_is); (case c27 => k_is); (case k27 => k_is); (case a28 => k_is); (case l28 => k_is); (case c28 => k_is); (case k28 => k_is); (case a29 => k_is); (case l29 => k_is); (case c29 => k_is); (case k29 => k_is); (case z1 => k_is); (case z2 => k_is); (case z3 => k_is); (case z4 => k_is); (case z5 => k_is); (case z6 => k_is); (case z7 => k_is); (case z8 => k_is); (case z9 => k_is); (case z10 => k_is); (case w0 => k_is); (case w1 => k_is)
