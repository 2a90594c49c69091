import PyProof.Rows.All
import Wide.All
import OpenK.AllK
import Wide.FinOn
import Lean
import PyProof.EqAt
import PyProof.EqKinds
import PyProof.TupleCall
import PySem.Challenge.RW_plait_k18_whole_arcs_stay
set_option Elab.async false
set_option linter.all false
set_option maxRecDepth 100000
/-! THE HAND LAYER, for ints, bools, texts, own classes, LISTS and tuples (index, slices, in, append, pop ..), calls, loops. Paste it whole ahead of your own text; what your proof does not reach may be deleted. -/
namespace L2
open PySem PySem.Spec PyProof.Rows

/-- a key: an int or a str -/
abbrev Key := Sum Int Str
def keyIs : Key → Value → Bool
  | .inl k, v => Value.isInt k v
  | .inr x, v => Value.isStrOf x v
def keyH (w : World) : Key → Int
  | .inl k => hashInt k
  | .inr x => hashStr w x
theorem keyIs_shape : ∀ {k : Key} {v : Value}, keyIs k v = true → (∃ i t, k = Sum.inl i ∧ v = Value.int i t) ∨ (∃ x t, k = Sum.inr x ∧ v = Value.str x t)
  | .inl i, v, h => by
    obtain ⟨t, e⟩ := Value.isInt_shape (k := i) (v := v) h
    exact .inl ⟨i, t, rfl, e⟩
  | .inr x, v, h => by
    obtain ⟨t, e⟩ := Value.isStrOf_shape (x := x) (v := v) h
    exact .inr ⟨x, t, rfl, e⟩
theorem keyIs_int (i : Int) (t : Tok) : keyIs (.inl i) (.int i t) = true := by simp [keyIs, Value.isInt]
theorem keyIs_str (x : Str) (t : Tok) : keyIs (.inr x) (.str x t) = true := by simp [keyIs, Value.isStrOf]
theorem key_ll (a b : Int) : decide ((Sum.inl a : Key) = Sum.inl b) = (a == b) := by
  by_cases e : a = b
  · subst e; simp
  · have h : ¬ (Sum.inl a : Key) = Sum.inl b := fun q => e (Sum.inl.inj q)
    rw [decide_eq_false h]
    exact (beq_eq_false_iff_ne.mpr e).symm
theorem key_rr (a b : Str) : decide ((Sum.inr a : Key) = Sum.inr b) = decide (a = b) := by
  by_cases e : a = b
  · subst e; simp
  · have h : ¬ (Sum.inr a : Key) = Sum.inr b := fun q => e (Sum.inr.inj q)
    rw [decide_eq_false h, decide_eq_false e]
theorem key_lr (a : Int) (b : Str) : decide ((Sum.inl a : Key) = Sum.inr b) = false := decide_eq_false (fun q => nomatch q)
theorem key_rl (a : Str) (b : Int) : decide ((Sum.inr a : Key) = Sum.inl b) = false := decide_eq_false (fun q => nomatch q)

def mixKind (prog : Program) (w : World) : PySem.KeyKind prog w Key where
  is := keyIs
  hash := keyH w
  inj := fun v a b ha hb => by
    rcases keyIs_shape ha with ⟨i, t, rfl, rfl⟩ | ⟨x, t, rfl, rfl⟩
    · rcases keyIs_shape hb with ⟨j, u, rfl, e⟩ | ⟨y, u, rfl, e⟩
      · injection e with e1 _; rw [e1]
      · exact nomatch e
    · rcases keyIs_shape hb with ⟨j, u, rfl, e⟩ | ⟨y, u, rfl, e⟩
      · exact nomatch e
      · injection e with e1 _; rw [e1]
  byValue := fun k v h => by
    rcases keyIs_shape h with ⟨i, t, rfl, rfl⟩ | ⟨x, t, rfl, rfl⟩ <;> rfl
  pyHash := fun hv h => by
    rcases keyIs_shape hv with ⟨i, t, rfl, rfl⟩ | ⟨x, t, rfl, rfl⟩
    · exact wpAny_pyHash_int h
    · exact wpAny_pyHash_str h
  eqBool := fun hu hv h => by
    rcases keyIs_shape hu with ⟨i, t, rfl, rfl⟩ | ⟨x, t, rfl, rfl⟩
    · rcases keyIs_shape hv with ⟨j, u, rfl, rfl⟩ | ⟨y, u, rfl, rfl⟩
      · rw [key_ll] at h; exact wpAny_eqBool_int h
      · rw [key_lr] at h; exact SeqAt.EqAt.int_str i t y u _ _ _ _ h
    · rcases keyIs_shape hv with ⟨j, u, rfl, rfl⟩ | ⟨y, u, rfl, rfl⟩
      · rw [key_rl] at h; exact SeqAt.EqAt.str_int x t j u _ _ _ _ h
      · rw [key_rr] at h; exact wpAny_eqBool_str h
  «strs» := fun k x t v h => by
    rcases keyIs_shape h with ⟨i, u, rfl, e⟩ | ⟨y, u, rfl, e⟩
    · exact nomatch e
    · injection e with e1 _
      subst e1
      cases v <;> rfl

theorem mixKind_int (prog : Program) (w : World) (i : Int) (t : Tok) : (mixKind prog w).is (.inl i) (.int i t) = true := keyIs_int i t
theorem mixKind_str (prog : Program) (w : World) (x : Str) (t : Tok) : (mixKind prog w).is (.inr x) (.str x t) = true := keyIs_str x t
end L2

namespace L2
open PySem PySem.Spec PyProof.Rows

/-- a value, without the heap -/
inductive V where
  | non | bl (b : Bool) | int (i : Int) | str (x : Str) | byt (b : Array UInt8) | flt (b : UInt64) | ref (a : Addr) | ty (n : String)
  deriving DecidableEq

def RelV : V → Value → Prop
  | .non, u => u = Value.none
  | .bl b, u => u = Value.bool b
  | .int i, u => ∃ t, u = Value.int i t
  | .str x, u => ∃ t, u = Value.str x t
  | .byt b, u => ∃ t, u = Value.bytes b t
  | .flt b, u => ∃ t, u = Value.float b t
  | .ref a, u => u = Value.ref a
  | .ty n, u => u = Value.type n

abbrev Vals : List V → List Value → Prop := Paired RelV
theorem Vals.length {xs : List V} {us : List Value} (r : Vals xs us) : xs.length = us.length := Paired.length r
theorem Vals.get : ∀ {xs : List V} {us : List Value} {i : Nat} {x : V}, Vals xs us → xs[i]? = some x → ∃ u, us[i]? = some u ∧ RelV x u
  | _, _, _, _, .nil, e => by simp at e
  | _, _, 0, _, .cons r _, e => by simp at e; subst e; exact ⟨_, rfl, r⟩
  | _, _, i + 1, x, .cons _ t, e => by
    obtain ⟨u, h1, h2⟩ := Vals.get (i := i) (x := x) t (by simpa using e)
    exact ⟨u, by simpa using h1, h2⟩
theorem Vals.set {x : V} {u : Value} (r : RelV x u) : ∀ {xs : List V} {us : List Value} (i : Nat), Vals xs us → Vals (xs.set i x) (us.set i u)
  | _, _, _, .nil => .nil
  | _, _, 0, .cons _ t => .cons r t
  | _, _, i + 1, .cons q t => .cons q (Vals.set r i t)
theorem Vals.append : ∀ {xs ys : List V} {us ws : List Value}, Vals xs us → Vals ys ws → Vals (xs ++ ys) (us ++ ws)
  | _, _, _, _, .nil, s => s
  | _, _, _, _, .cons r t, s => .cons r (Vals.append t s)
theorem Vals.take : ∀ {xs : List V} {us : List Value} (n : Nat), Vals xs us → Vals (xs.take n) (us.take n)
  | _, _, 0, _ => .nil
  | _, _, _ + 1, .nil => .nil
  | _, _, n + 1, .cons r t => .cons r (Vals.take n t)
theorem Vals.drop : ∀ {xs : List V} {us : List Value} (n : Nat), Vals xs us → Vals (xs.drop n) (us.drop n)
  | _, _, 0, r => r
  | _, _, _ + 1, .nil => .nil
  | _, _, n + 1, .cons _ t => Vals.drop n t
def RelO : Option V → Option Value → Prop
  | some v, some u => RelV v u
  | none, none => True
  | _, _ => False
def KV {κ : Type} : List (κ × V) → List (κ × Value) → Prop := Paired fun (p : κ × V) (q : κ × Value) => p.1 = q.1 ∧ RelV p.2 q.2

/-- a key of a dict (00_mix): an int or a text -/
def kV : Key → V
  | .inl i => .int i
  | .inr x => .str x

/-- what stands at a tracked address -/
inductive HO where
  /-- a list -/
  | lst (xs : List V)
  /-- a tuple (never changes) -/
  | tup (xs : List V)
  /-- a dict whose keys are ints and texts; one whose keys are tuples of ints and texts (the empty one is both) -/
  | dK (kvs : List (Key × V)) | dT (kvs : List (List Key × V))
  /-- a set of ints: its members, its size -/
  | set (S : Int → Bool) (n : Nat)
  /-- an instance of the class at C, its dict at dx, its attributes -/
  | ins (C dx : Addr) (fs : List (Str × V))
  /-- the dict of the instance at x -/
  | own (x : Addr)
  /-- the dict of an exception -/
  | xd (fs : List (Str × V))
  /-- a bound method, f of x -/
  | met (f x : Addr)
  /-- a range object lo, lo + 1, .. below hi -/
  | rng (lo hi : Int)
  /-- a thing that is known to the object (the script; a dict while a loop walks it): read, never written while it is so -/
  | frz (o : Obj) (u : HO)
  /-- a code object's table -/
  | tbl (ps : Array Value)
  /-- any other thing, by what is true of its one object (a def of one's own: SetO a S n := HO.ext fun h => ..) -/
  | ext (φ : Heap → Prop)

abbrev Hp := Addr → Option HO
def upd (H : Hp) (a : Addr) (o : HO) : Hp := fun b => if b = a then some o else H b
theorem upd_same {H : Hp} {a : Addr} {o : HO} : upd H a o a = some o := by unfold upd; rw [if_pos rfl]
theorem upd_ne {H : Hp} {a b : Addr} {o : HO} (h : b ≠ a) : upd H a o b = H b := by unfold upd; rw [if_neg h]
/-- two objects of different content stand apart -/
theorem ne_of {H : Hp} {a b : Addr} {o u : HO} (h : H a = some o) (h' : H b = some u) (d : o ≠ u) : a ≠ b := by
  intro e; subst e; rw [h] at h'; exact d (Option.some.inj h')
theorem ne_of_none {H : Hp} {a b : Addr} {o : HO} (h : H a = some o) (h' : H b = none) : a ≠ b := by
  intro e; subst e; rw [h] at h'; cases h'

section
variable (P : Program) (w : World)
def ObjOk (H : Hp) (h : Heap) (a : Addr) : HO → Prop
  | .lst xs => xs.length ≤ sizeLine ∧ ∃ (its : List Value) (n : Nat), Vals xs its ∧ h.get? a = some { cls := .type "list", data := .seq its.toArray n }
  | .tup xs => xs.length ≤ sizeLine ∧ ∃ its : List Value, Vals xs its ∧ IsTup h a its.toArray
  | .dK kvs => kvs.length ≤ sizeLine ∧ (a == sysModules) = false ∧ ∃ vs, KV kvs vs ∧ h.DictOf (mixKind P w) a vs
  | .dT kvs => kvs.length ≤ sizeLine ∧ (a == sysModules) = false ∧ ∃ xs : List (List Key × Addr × Value),
      Paired (fun (p : List Key × V) (q : List Key × Addr × Value) => p.1 = q.1 ∧ H q.2.1 = some (.tup (p.1.map kV)) ∧ RelV p.2 q.2.2) kvs xs ∧
      ∃ o es ep, h.get? a = some o ∧ o.ExactDict ∧ o.data = .dict es ep ∧ es.toList = xs.map (entryOfKey (tupleKind (mixKind P w))) ∧ (xs.map (·.1)).Nodup
  | .set S n => h.SetOf (intKind P w) a S n
  | .ins C dx fs => H dx = some (.own a) ∧ fs.length ≤ 1000 ∧ dx ≠ a ∧ h.get? a = some (PySem.W.instObj C dx) ∧
      ∃ mA, h.Ns1 dx mA ∧ (∀ f, RelO (fs.lookup f) (mA f)) ∧ PySem.Within mA (fs.map (·.1))
  | .own _ => ∃ o, h.get? a = some o
  | .xd fs => ∃ mA, h.Ns1 a mA ∧ ∀ f, RelO (fs.lookup f) (mA f)
  | .rng lo hi => ∃ t u v, h.get? a = some { cls := .type "range", data := .fields #[.int lo t, .int hi u, .int 1 v] }
  | .frz o u => h.get? a = some o ∧ ObjOk H h a u
  | .tbl ps => h.get? a = some { cls := .none, data := .fields ps }
  | .met f x => h.get? a = some (PySem.W.methodObj (.ref f) (.ref x))
  | .ext φ => φ h ∧ (∃ o, h.get? a = some o) ∧ ∀ h1 h2 : Heap, φ h1 → (∀ o, h1.get? a = some o → h2.get? a = some o) → φ h2
/-- the abstract heap is held -/
def HOk (H : Hp) (h : Heap) : Prop := ∀ a o, H a = some o → ObjOk P w H h a o
end

section
variable {P : Program} {w : World} {H H' : Hp} {h h' : Heap} {a : Addr} {o : HO}
theorem ObjOk.lt (x : ObjOk P w H h a o) : a < h.objs.size := by
  cases o with
  | lst xs => obtain ⟨_, _, _, _, e⟩ := x; exact Heap.lt_size e
  | tup xs => obtain ⟨_, _, _, p⟩ := x; exact p.lt
  | dK kvs => obtain ⟨_, _, _, _, o, _, _, e, _⟩ := x; exact Heap.lt_size e
  | dT kvs => obtain ⟨_, _, _, _, o, _, _, e, _⟩ := x; exact Heap.lt_size e
  | set S n => obtain ⟨o, _, _, _, e, _⟩ := x; exact Heap.lt_size e
  | ins C dx fs => obtain ⟨_, _, _, e, _⟩ := x; exact Heap.lt_size e
  | own y => obtain ⟨_, e⟩ := x; exact Heap.lt_size e
  | xd fs => obtain ⟨_, ⟨_, _, _, e, _⟩, _⟩ := x; exact Heap.lt_size e
  | rng lo hi => obtain ⟨_, _, _, e⟩ := x; exact Heap.lt_size e
  | frz ob u => obtain ⟨e, _⟩ := x; exact Heap.lt_size e
  | tbl ps => exact Heap.lt_size (show h.get? a = some _ from x)
  | met f y => exact Heap.lt_size (show h.get? a = some _ from x)
  | ext φ => obtain ⟨_, ⟨_, e⟩, _⟩ := x; exact Heap.lt_size e
theorem Paired.mapP {α β : Type} {F G : α → β → Prop} : ∀ {l₁ : List α} {l₂ : List β}, Paired F l₁ l₂ → (∀ a b, F a b → G a b) → Paired G l₁ l₂
  | _, _, .nil, _ => .nil
  | _, _, .cons r t, f => .cons (f _ _ r) (Paired.mapP t f)
/-- what an object's description leans on: its own object, its own dict, the tuples -/
theorem ObjOk.stay (x : ObjOk P w H h a o) (k : ∀ b u, (b = a ∨ H b = some (.own a)) → h.get? b = some u → h'.get? b = some u)
    (ho : ∀ b, H b = some (.own a) → H' b = some (.own a)) (ht : ∀ b xs, H b = some (.tup xs) → H' b = some (.tup xs)) : ObjOk P w H' h' a o := by
  induction o with
  | lst xs => obtain ⟨z, its, n, r, e⟩ := x; exact ⟨z, its, n, r, k _ _ (.inl rfl) e⟩
  | tup xs => obtain ⟨z, its, r, ob, e, c⟩ := x; exact ⟨z, its, r, ob, k _ _ (.inl rfl) e, c⟩
  | dK kvs => obtain ⟨z, y, vs, r, ob, es, ep, e, c⟩ := x; exact ⟨z, y, vs, r, ob, es, ep, k _ _ (.inl rfl) e, c⟩
  | dT kvs =>
    obtain ⟨z, y, xs, r, ob, es, ep, e, c⟩ := x
    exact ⟨z, y, xs, Paired.mapP r fun p q z => ⟨z.1, ht _ _ z.2.1, z.2.2⟩, ob, es, ep, k _ _ (.inl rfl) e, c⟩
  | set S n => obtain ⟨ob, es, ep, t, e, c⟩ := x; exact ⟨ob, es, ep, t, k _ _ (.inl rfl) e, c⟩
  | ins C dx fs =>
    obtain ⟨d, z, ne, e, mA, ⟨od, es, ep, e2, c⟩, r⟩ := x
    exact ⟨ho _ d, z, ne, k _ _ (.inl rfl) e, mA, ⟨od, es, ep, k _ _ (.inr d) e2, c⟩, r⟩
  | own y => obtain ⟨ob, e⟩ := x; exact ⟨ob, k _ _ (.inl rfl) e⟩
  | xd fs => obtain ⟨mA, ⟨od, es, ep, e, c⟩, r⟩ := x; exact ⟨mA, ⟨od, es, ep, k _ _ (.inl rfl) e, c⟩, r⟩
  | rng lo hi => obtain ⟨t, u, v, e⟩ := x; exact ⟨t, u, v, k _ _ (.inl rfl) e⟩
  | frz ob u ih => obtain ⟨e, q⟩ := x; exact ⟨k _ _ (.inl rfl) e, ih q⟩
  | tbl ps =>
    have e : h.get? a = some { cls := .none, data := .fields ps } := x
    show h'.get? a = some { cls := .none, data := .fields ps }
    exact k a _ (.inl rfl) e
  | met f y =>
    have e : h.get? a = some (PySem.W.methodObj (.ref f) (.ref y)) := x
    show h'.get? a = some (PySem.W.methodObj (.ref f) (.ref y))
    exact k a _ (.inl rfl) e
  | ext φ => obtain ⟨p, ⟨o, e⟩, st⟩ := x; exact ⟨st _ _ p fun o q => k _ _ (.inl rfl) q, ⟨o, k _ _ (.inl rfl) e⟩, st⟩
theorem HOk.lt (x : HOk P w H h) (e : H a = some o) : a < h.objs.size := (x a o e).lt
theorem HOk.fresh (x : HOk P w H h) (e : h.objs.size ≤ a) : H a = none := by
  cases q : H a with
  | none => rfl
  | some u => exact absurd (Nat.lt_of_lt_of_le (x.lt q) e) (Nat.lt_irrefl _)
/-- every object of the heap is kept -/
theorem HOk.kept (x : HOk P w H h) (k : ∀ b u, h.get? b = some u → h'.get? b = some u) : HOk P w H h' := fun a o e =>
  (x a o e).stay (fun b u _ q => k b u q) (fun _ q => q) fun _ _ q => q
/-- a new object is laid and tracked -/
theorem HOk.laid (x : HOk P w H h) (k : ∀ b u, h.get? b = some u → h'.get? b = some u) (hp : h.objs.size ≤ a) (new : ObjOk P w (upd H a o) h' a o) : HOk P w (upd H a o) h' := fun b u e => by
  have hn := x.fresh hp
  by_cases hb : b = a
  · subst hb; rw [upd_same] at e; cases e; exact new
  · rw [upd_ne hb] at e
    exact (x b u e).stay (fun c v _ q => k c v q) (fun c q => by rw [upd_ne (ne_of_none q hn)]; exact q) fun c xs q => by rw [upd_ne (ne_of_none q hn)]; exact q
end

/-- what may be read as u: it is u, or a known u -/
def Rd (H : Hp) (a : Addr) (u : HO) : Prop := H a = some u ∨ ∃ o, H a = some (.frz o u)
theorem Rd.of {H : Hp} {a : Addr} {u : HO} (h : H a = some u) : Rd H a u := .inl h
theorem Rd.ok {P : Program} {w : World} {H : Hp} {h : Heap} {a : Addr} {u : HO} (r : Rd H a u) (x : HOk P w H h) : ObjOk P w H h a u := by
  rcases r with r | ⟨o, r⟩
  · exact x a u r
  · obtain ⟨_, q⟩ := x a _ r
    exact q
/-- what may be written -/
def Mut : Option HO → Prop
  | some (.lst _) => True
  | some (.dK _) => True
  | some (.dT _) => True
  | some (.set _ _) => True
  | some (.ins _ _ _) => True
  | some (.ext _) => True
  | _ => False
section
variable {P : Program} {w : World} {H : Hp} {h h' : Heap} {x e : Addr} {o' : HO}
/-- the object at e is changed: x itself, or the dict of the instance x -/
theorem HOk.write (ok : HOk P w H h) (mu : Mut (H x)) (he : e = x ∨ H e = some (.own x)) (k : ∀ b u, b ≠ e → h.get? b = some u → h'.get? b = some u) (heo : ∃ u, h'.get? e = some u)
    (new : ObjOk P w (upd H x o') h' x o') : HOk P w (upd H x o') h' := fun b u q => by
  have nown : ∀ c y, H c = some (.own y) → c ≠ x := fun c y r z => by subst z; rw [r] at mu; exact mu
  have ntup : ∀ c xs, H c = some (.tup xs) → c ≠ x := fun c xs r z => by subst z; rw [r] at mu; exact mu
  by_cases hb : b = x
  · subst hb; rw [upd_same] at q; cases q; exact new
  · rw [upd_ne hb] at q
    by_cases hbe : b = e
    · have q' : H b = some (.own x) := by
        rcases he with z | z
        · exact absurd (hbe.trans z) hb
        · rw [hbe]; exact z
      rw [q] at q'; cases q'
      obtain ⟨v, hv⟩ := heo
      exact ⟨v, by rw [hbe]; exact hv⟩
    · refine (ok b u q).stay (fun c v hc r => k c v ?_ r) (fun c r => by rw [upd_ne (nown c b r)]; exact r) fun c xs r => by rw [upd_ne (ntup c xs r)]; exact r
      rcases hc with rfl | hc
      · exact hbe
      · rintro rfl
        rcases he with z | z
        · exact nown c b hc z
        · rw [hc] at z; cases z; exact hb rfl
end

/-! ### kept unless tracked; of the frames at fs (the callers') the slots may change (an exception that passes writes there); of the records at ex (iterators) nothing is said -/
structure Un (fs ex : List Addr) (H H' : Hp) (h h' : Heap) : Prop where
  keep : ∀ b o, h.get? b = some o → H b = none → b ∉ fs → b ∉ ex → h'.get? b = some o
  slot : ∀ b o, h.get? b = some o → H b = none → b ∈ fs → b ∉ ex → ∃ sl, h'.get? b = some { o with slots := sl }
  free : ∀ b o, h.get? b = some o → H b = none → b ∉ ex → H' b = none
  there : ∀ b o, h.get? b = some o → b ∉ ex → ∃ o', h'.get? b = some o'
  tups : ∀ b xs, H b = some (.tup xs) → H' b = some (.tup xs)
  frzs : ∀ b o u, H b = some (.frz o u) → H' b = some (.frz o u)
  tbls : ∀ b ps, H b = some (.tbl ps) → ∃ more, H' b = some (.tbl (ps ++ more))
section
variable {fs fs' ex ex' : List Addr} {H H1 H2 : Hp} {h h1 h2 h' : Heap} {a x e : Addr} {o : HO}
theorem Un.any (u : Un fs ex H H1 h h1) {b : Addr} {ob : Obj} (q : h.get? b = some ob) (n : H b = none) (hx : b ∉ ex) : ∃ sl, h1.get? b = some { ob with slots := sl } := by
  by_cases hb : b ∈ fs
  · exact u.slot b ob q n hb hx
  · exact ⟨ob.slots, u.keep b ob q n hb hx⟩
theorem Un.trans (a : Un fs ex H H1 h h1) (b : Un fs ex H1 H2 h1 h2) : Un fs ex H H2 h h2 where
  keep := fun c ob q n hc hx => b.keep c ob (a.keep c ob q n hc hx) (a.free c ob q n hx) hc hx
  slot := fun c ob q n hc hx => by
    obtain ⟨sl, e1⟩ := a.slot c ob q n hc hx
    obtain ⟨sl', e2⟩ := b.slot c _ e1 (a.free c ob q n hx) hc hx
    exact ⟨sl', e2⟩
  free := fun c ob q n hx => by
    obtain ⟨o', e1⟩ := a.there c ob q hx
    exact b.free c o' e1 (a.free c ob q n hx) hx
  there := fun c ob q hx => by
    obtain ⟨o', e1⟩ := a.there c ob q hx
    exact b.there c o' e1 hx
  tups := fun c xs q => b.tups c xs (a.tups c xs q)
  frzs := fun c ob xs q => b.frzs c ob xs (a.frzs c ob xs q)
  tbls := fun c ps q => by
    obtain ⟨m1, e1⟩ := a.tbls c ps q
    obtain ⟨m2, e2⟩ := b.tbls c _ e1
    exact ⟨m1 ++ m2, by rw [e2, Array.append_assoc]⟩
theorem Un.kept (k : ∀ b u, h.get? b = some u → h'.get? b = some u) : Un fs ex H H h h' :=
  ⟨fun b ob q _ _ _ => k b ob q, fun b ob q _ _ _ => ⟨ob.slots, k b ob q⟩, fun _ _ _ n _ => n, fun b ob q _ => ⟨ob, k b ob q⟩, fun _ _ q => q, fun _ _ _ q => q, fun _ ps q => ⟨#[], by rw [q]; simp⟩⟩
theorem Un.refl : Un fs ex H H h h := Un.kept fun _ _ q => q
theorem Un.laid (k : ∀ b u, h.get? b = some u → h'.get? b = some u) (hp : h.objs.size ≤ a) (hn : H a = none) : Un fs ex H (upd H a o) h h' where
  keep := fun b u q _ _ _ => k b u q
  slot := fun b u q _ _ _ => ⟨u.slots, k b u q⟩
  free := fun b u q n _ => by rw [upd_ne (Nat.ne_of_lt (Nat.lt_of_lt_of_le (Heap.lt_size q) hp))]; exact n
  there := fun b u q _ => ⟨u, k b u q⟩
  tups := fun b xs q => by rw [upd_ne (ne_of_none q hn)]; exact q
  frzs := fun b u xs q => by rw [upd_ne (ne_of_none q hn)]; exact q
  tbls := fun b ps q => ⟨#[], by rw [upd_ne (ne_of_none q hn), q]; simp⟩
theorem Un.write (mu : Mut (H x)) (he : e = x ∨ H e = some (.own x)) (k : ∀ b u, b ≠ e → h.get? b = some u → h'.get? b = some u) (heo : ∃ u, h'.get? e = some u) : Un fs ex H (upd H x o) h h' := by
  have hx : ∀ b, H b = none → b ≠ x := fun b n z => by subst z; rw [n] at mu; exact mu
  have hb : ∀ b, H b = none → b ≠ e := fun b n z => by
    subst z
    rcases he with r | r
    · exact hx b n r
    · rw [n] at r; cases r
  have hm : ∀ b u, H b = some u → ¬ Mut (some u) → b ≠ x := fun b u q nm z => by subst z; rw [q] at mu; exact nm mu
  refine ⟨fun b u q n _ _ => k b u (hb b n) q, fun b u q n _ _ => ⟨u.slots, k b u (hb b n) q⟩, fun b u q n _ => by rw [upd_ne (hx b n)]; exact n, fun b u q _ => ?_,
    fun b xs q => by rw [upd_ne (hm b _ q fun z => z)]; exact q, fun b u xs q => by rw [upd_ne (hm b _ q fun z => z)]; exact q, fun b ps q => ⟨#[], by rw [upd_ne (hm b _ q fun z => z), q]; simp⟩⟩
  by_cases hbe : b = e
  · subst hbe; exact heo
  · exact ⟨u, k b u hbe q⟩
theorem Un.mono (u : Un fs ex H H1 h h1) (hs : ∀ b ∈ fs, b ∈ fs') (hx : ∀ b ∈ ex, b ∈ ex') : Un fs' ex' H H1 h h1 :=
  ⟨fun b ob q n hb he => u.keep b ob q n (fun z => hb (hs b z)) fun z => he (hx b z), fun _ _ q n _ he => u.any q n fun z => he (hx _ z), fun b ob q n he => u.free b ob q n fun z => he (hx b z), fun b ob q he => u.there b ob q fun z => he (hx b z), u.tups, u.frzs, u.tbls⟩
end

/-! ### the heap without what is tracked -/
def trk (h : Heap) (H : Hp) : List Addr := (List.range h.objs.size).filter fun a => (H a).isSome
def hidT (h : Heap) (H : Hp) : Heap := PySem.W.hideAll h (trk h H)
theorem hidT_size (h : Heap) (H : Hp) : (hidT h H).objs.size = h.objs.size := PySem.W.hideAll_size _ _
theorem hidT_get {h : Heap} {H : Hp} {b : Addr} {o : Obj} (e : h.get? b = some o) (n : H b = none) : (hidT h H).get? b = some o :=
  PySem.W.hideAll_get _ e fun hm => by
    have q : (H b).isSome = true := (List.mem_filter.mp hm).2
    rw [n] at q; simp at q
theorem of_hidT {h : Heap} {H : Hp} {b : Addr} {o : Obj} (e : (hidT h H).get? b = some o) : h.get? b = some o ∧ H b = none := by
  have e' : h.get? b = some o := PySem.W.of_hideAll (trk h H) e
  refine ⟨e', ?_⟩
  cases q : H b with
  | none => rfl
  | some x =>
    have hm : b ∈ trk h H := List.mem_filter.mpr ⟨List.mem_range.mpr (Heap.lt_size e'), by simp [q]⟩
    have z : (hidT h H).get? b = none := PySem.W.hideAll_none (trk h H) hm
    rw [z] at e; cases e

/-! ### OpenK's ledger, filled with every new object but one -/
def allNews (g h : Heap) (L : Addr) : List (Addr × Obj) := (List.range h.objs.size).filterMap fun a => if a = L ∨ (g.get? a).isSome = true then none else (h.get? a).map fun o => (a, o)
def rest (g h : Heap) (L d : Addr) : List (Addr × Obj) := (allNews g h L).filter fun p => decide (p.1 ≠ d)
end L2

namespace L2
open PySem PySem.Spec PyProof.Rows

/-- the module's facts, over the base: the heap at the law's entry without what is tracked there -/
structure Mod (K : PySem.W.Frag) (mg : Str → Option Value) (base : Heap) : Prop where
  kin : K.In base
  glob : base.Ns mainGlobals mg
  blt : ∃ mb, base.Ns builtinsNs mb ∧ ∀ x : Str, x ≠ "__name__" → mb x = bootBuiltins x
  nolimit : base.NoLimit

/-- the context: a def's body (or a comprehension's block) running. base: fixed through the whole law; s₀, H₀: the entry; outer: the frames whose slots others may change (a def's callers); stack: all frames that run;
   ex: iterators that were made ahead of the entry and are walked here (a comprehension's); fn: the names whose cells were made at the entry (a def: all; a comprehension's block: its own); calm: not within an except suite; pn: pins that every state bears; xe: what is wanted of an exception that leaves the code -/
structure Cx where
  prog : Program
  w : World
  K : PySem.W.Frag
  mg : Str → Option Value
  base : Heap
  A : Around
  N : List Str
  s₀ : Shared
  H₀ : Hp
  env : Env
  outer : List Env
  stack : List Env
  ex : List Addr
  fn : Str → Bool
  calm : Bool
  pn : List (Addr × Obj)
  xe : Value → Shared → Prop
/-- the callers' frames -/
def frs (l : List Env) : List Addr := l.filterMap (·.frame)
abbrev Cx.fs (X : Cx) : List Addr := frs X.outer

def Vis (sc : Scope) (x : Str) : Prop := sc.names.lookup x = some .local ∨ sc.names.lookup x = some .cell ∨ sc.names.lookup x = some .free
def Loc (sc : Scope) (x : Str) : Prop := sc.names.lookup x = some .local ∨ sc.names.lookup x = some .cell
def Look (env : Env) (h : Heap) (m : Str → Option Value) (x : Str) (u : Value) : Prop :=
  (env.kindOf x = some .local ∧ m x = some u) ∨ ((env.kindOf x = some .cell ∨ env.kindOf x = some .free) ∧ ∃ c, env.cells.lookup x = some c ∧ h.IsCell c (some u))

structure Cx.Ok (X : Cx) : Prop where
  mod : Mod X.K X.mg X.base
  kind : X.env.scope.kind = .function
  glob : X.env.globals = mainGlobals
  blt : X.env.builtins = builtinsNs
  above : X.s₀.heap.objs.size ≤ X.env.locals
  inj : ∀ x y c, X.env.cells.lookup x = some c → X.env.cells.lookup y = some c → x = y
  has : ∀ x, (X.env.kindOf x = some .cell ∨ X.env.kindOf x = some .free) → ∃ c, X.env.cells.lookup x = some c
  cab : ∀ x c, X.fn x = true → X.env.cells.lookup x = some c → X.s₀.heap.objs.size ≤ c
  hd : X.calm = true → X.A.handled = none
  frames : X.A.frames = some X.stack
  stk : X.stack = X.outer ∨ (X.stack = X.env :: X.outer ∧ X.env.frame = some X.env.locals)
  exf : ∀ b ∈ X.ex, b ≠ X.env.locals ∧ ∀ x c, X.env.cells.lookup x = some c → c ≠ b
  bs : ∀ b o, X.base.get? b = some o → X.s₀.heap.get? b = some o ∧ X.H₀ b = none
  bsz : X.base.objs.size ≤ X.s₀.heap.objs.size
  noex : ∀ b o, X.base.get? b = some o → b ∉ X.ex
  exfs : ∀ b ∈ X.ex, b ∉ X.fs
  funs : X.s₀.heap.FunFrames X.base X.outer
  frf : ∀ b ∈ X.fs, X.H₀ b = none

structure Inv (X : Cx) (pins : List (Addr × Obj)) (σ : List (Option V)) (H : Hp) (s : Shared) : Prop where
  ok : X.Ok
  os : s.os = X.s₀.os
  bare : AllBare s.gens
  base : Un X.fs X.ex X.H₀ H X.s₀.heap s.heap
  loc : ∃ m, s.heap.Ns X.env.locals m ∧ ∀ (i : Nat) (x : Str) (v : V), X.N[i]? = some x → σ[i]? = some (some v) → Vis X.env.scope x → ∃ u, RelV v u ∧ Look X.env s.heap m x u
  cell : ∀ x c, X.env.cells.lookup x = some c → ∃ v, s.heap.IsCell c v
  free : H X.env.locals = none
  freeC : ∀ x c, X.env.cells.lookup x = some c → H c = none
  pin : ∀ p ∈ X.pn ++ pins, s.heap.get? p.1 = some p.2 ∧ H p.1 = none ∧ p.1 ≠ X.env.locals ∧ p.1 ∉ X.fs ∧ ∀ v, p.2.data ≠ .cell v
  hok : HOk X.prog X.w H s.heap
  len : σ.length = X.N.length

section
variable {X : Cx} {pins : List (Addr × Obj)} {σ : List (Option V)} {H H' : Hp} {s : Shared} {h' : Heap}

theorem Cx.Ok.nofr (ok : X.Ok) {b : Addr} {o : Obj} (e : X.base.get? b = some o) : b ∉ X.fs := fun hb => by
  have := (ok.funs.mem hb).1
  rw [e] at this; cases this
theorem Inv.bs (I : Inv X pins σ H s) : ∀ b o, X.base.get? b = some o → s.heap.get? b = some o ∧ H b = none := fun b o e =>
  ⟨I.base.keep b o (I.ok.bs b o e).1 (I.ok.bs b o e).2 (I.ok.nofr e) (I.ok.noex b o e), I.base.free b o (I.ok.bs b o e).1 (I.ok.bs b o e).2 (I.ok.noex b o e)⟩
theorem Inv.bk (I : Inv X pins σ H s) : ∀ b o, X.base.get? b = some o → s.heap.get? b = some o := fun b o e => (I.bs b o e).1
theorem Inv.mod (I : Inv X pins σ H s) : Mod X.K X.mg X.base := I.ok.mod
theorem Inv.kIn (I : Inv X pins σ H s) : X.K.In s.heap := I.ok.mod.kin.keeps I.bk
theorem Inv.nolimit (I : Inv X pins σ H s) : s.heap.NoLimit := I.ok.mod.nolimit.keeps I.bk
/-- the frame over the base: for OpenK's rules (K.In X.base is I.mod.kin) -/
theorem Inv.fr (I : Inv X pins σ H s) : ∃ m, Fr X.base X.env.locals s.heap m :=
  let ⟨m, hn, _⟩ := I.loc
  ⟨m, hn, I.bk, Nat.le_trans I.ok.bsz I.ok.above⟩
theorem Inv.lt (I : Inv X pins σ H s) : X.env.locals < s.heap.objs.size := let ⟨_, hn, _⟩ := I.loc; hn.lt
theorem Inv.sz (I : Inv X pins σ H s) : X.s₀.heap.objs.size ≤ s.heap.objs.size := Nat.le_trans I.ok.above (Nat.le_of_lt I.lt)
theorem Inv.nofs (I : Inv X pins σ H s) {a : Addr} (h : s.heap.objs.size ≤ a) : a ∉ X.fs := fun hb => by
  obtain ⟨_, o, ho, _⟩ := I.ok.funs.mem hb
  exact absurd (Nat.lt_of_lt_of_le (Heap.lt_size ho) (Nat.le_trans I.sz h)) (Nat.lt_irrefl _)
theorem Inv.cne (I : Inv X pins σ H s) : ∀ x c, X.env.cells.lookup x = some c → c ≠ X.env.locals := fun x c e z => by
  obtain ⟨v, o, ho, hd⟩ := I.cell x c e
  obtain ⟨m, ⟨o', es, ep, ho', hd', _⟩, _⟩ := I.loc
  rw [z, ho'] at ho; cases ho; rw [hd'] at hd; cases hd
theorem Inv.funs (I : Inv X pins σ H s) : s.heap.FunFrames X.base X.outer := by
  have all : ∀ (l : List Env), (∀ b ∈ frs l, b ∈ X.fs) → X.s₀.heap.FunFrames X.base l → s.heap.FunFrames X.base l := by
    intro l
    induction l with
    | nil => intro _ _; trivial
    | cons env r ih =>
      intro hs hl
      obtain ⟨hk, ⟨L, o, hf, hn, ho, hd⟩, hr⟩ := hl
      have hL : L ∈ X.fs := hs L (by unfold frs; rw [List.filterMap_cons, hf]; exact List.mem_cons_self)
      obtain ⟨sl, e⟩ := I.base.slot L o ho (I.ok.frf L hL) hL fun z => I.ok.exfs L z hL
      exact ⟨hk, ⟨L, _, hf, hn, e, hd⟩, ih (fun b hb => hs b (by unfold frs; rw [List.filterMap_cons, hf]; exact List.mem_cons_of_mem _ hb)) hr⟩
  exact all X.outer (fun _ hb => hb) I.ok.funs

/-- the frames that run, for a call -/
theorem Inv.stack (I : Inv X pins σ H s) : s.heap.FunFrames X.base X.stack := by
  rcases I.ok.stk with e | ⟨e, hf⟩
  · rw [e]; exact I.funs
  · rw [e]
    obtain ⟨m, hn, _⟩ := I.loc
    refine .cons (by rw [I.ok.kind]; decide) hf hn ?_ I.funs
    exact Heap.get?_none_of_le (Nat.le_trans I.ok.bsz I.ok.above)
theorem Inv.stkSub (I : Inv X pins σ H s) : ∀ b ∈ frs X.stack, b ∈ X.env.locals :: X.fs := fun b hb => by
  rcases I.ok.stk with e | ⟨e, hf⟩
  · rw [e] at hb; exact List.mem_cons_of_mem _ hb
  · rw [e] at hb
    unfold frs at hb
    rw [List.filterMap_cons, hf] at hb
    exact hb
theorem Inv.stkFree (I : Inv X pins σ H s) : ∀ b ∈ frs X.stack, H b = none := fun b hb => by
  rcases List.mem_cons.mp (I.stkSub b hb) with e | hb
  · rw [e]; exact I.free
  · obtain ⟨_, o, ho, _⟩ := I.ok.funs.mem hb
    exact I.base.free b o ho (I.ok.frf b hb) fun z => I.ok.exfs b z hb

/-- THE STEP: the untracked objects but the frame and the records at ch are kept (the callers' frames up to slots), the frame's map is kept, the new abstract heap is held -/
theorem Inv.step {g' : Array GenState} {t' : Nat} {d' : Drawn} {ch : List Addr} (I : Inv X pins σ H s)
    (hch : ∀ b ∈ ch, (b ∈ X.ex ∨ X.s₀.heap.objs.size ≤ b) ∧ b ≠ X.env.locals ∧ (∀ x c, X.env.cells.lookup x = some c → c ≠ b) ∧ ∀ p ∈ X.pn ++ pins, p.1 ≠ b)
    (keep : ∀ b o, b ≠ X.env.locals → b ∉ X.fs → b ∉ ch → s.heap.get? b = some o → H b = none → h'.get? b = some o)
    (slot : ∀ b o, b ≠ X.env.locals → b ∈ X.fs → b ∉ ch → s.heap.get? b = some o → H b = none → ∃ sl, h'.get? b = some { o with slots := sl }) (free : ∀ b o, b ∉ ch → s.heap.get? b = some o → H b = none → H' b = none)
    (there : ∀ b o, b ∉ ch → s.heap.get? b = some o → ∃ o', h'.get? b = some o')
    (tups : ∀ b xs, H b = some (.tup xs) → H' b = some (.tup xs)) (frzs : ∀ b o u, H b = some (.frz o u) → H' b = some (.frz o u)) (tbls : ∀ b ps, H b = some (.tbl ps) → ∃ more, H' b = some (.tbl (ps ++ more)))
    (ns : ∀ m, s.heap.Ns X.env.locals m → h'.Ns X.env.locals m) (hok : HOk X.prog X.w H' h') (hg : AllBare g') :
    Inv X pins σ H' { s with heap := h', gens := g', drawn := d', toks := t' } := by
  have neL : ∀ b o, X.s₀.heap.get? b = some o → b ≠ X.env.locals := fun b o e => Nat.ne_of_lt (Nat.lt_of_lt_of_le (Heap.lt_size e) I.ok.above)
  have neC : ∀ b o, X.s₀.heap.get? b = some o → b ∉ X.ex → b ∉ ch := fun b o e hx hb => by
    rcases (hch b hb).1 with z | z
    · exact hx z
    · exact absurd (Nat.lt_of_lt_of_le (Heap.lt_size e) z) (Nat.lt_irrefl _)
  have cellK : ∀ x c, X.env.cells.lookup x = some c → ∀ v, s.heap.IsCell c v → h'.IsCell c v := fun x c e v ⟨o, ho, hd⟩ => by
    have nch : c ∉ ch := fun z => (hch c z).2.2.1 x c e rfl
    by_cases hc : c ∈ X.fs
    · obtain ⟨sl, q⟩ := slot c o (I.cne x c e) hc nch ho (I.freeC x c e)
      exact ⟨_, q, hd⟩
    · exact ⟨o, keep c o (I.cne x c e) hc nch ho (I.freeC x c e), hd⟩
  refine ⟨I.ok, I.os, hg, ⟨fun b o e n hb hx => ?_, fun b o e n hb hx => ?_, fun b o e n hx => ?_, fun b o e hx => ?_, fun b xs e => tups b xs (I.base.tups b xs e), fun b o xs e => frzs b o xs (I.base.frzs b o xs e), fun b ps e => ?_⟩, ?_, fun x c e => ?_, ?_, fun x c e => ?_, fun p hp => ?_, hok, I.len⟩
  · exact keep b o (neL b o e) hb (neC b o e hx) (I.base.keep b o e n hb hx) (I.base.free b o e n hx)
  · obtain ⟨sl, e1⟩ := I.base.slot b o e n hb hx
    obtain ⟨sl', e2⟩ := slot b _ (neL b o e) hb (neC b o e hx) e1 (I.base.free b o e n hx)
    exact ⟨sl', e2⟩
  · obtain ⟨o', e1⟩ := I.base.there b o e hx
    exact free b o' (neC b o e hx) e1 (I.base.free b o e n hx)
  · obtain ⟨o', e1⟩ := I.base.there b o e hx
    exact there b o' (neC b o e hx) e1
  · obtain ⟨m1, e1⟩ := I.base.tbls b ps e
    obtain ⟨m2, e2⟩ := tbls b _ e1
    exact ⟨m1 ++ m2, by rw [e2, Array.append_assoc]⟩
  · obtain ⟨m, hn, hl⟩ := I.loc
    refine ⟨m, ns m hn, fun i x v e1 e2 e3 => ?_⟩
    obtain ⟨u, r, l⟩ := hl i x v e1 e2 e3
    refine ⟨u, r, ?_⟩
    rcases l with l | ⟨k, c, e, z⟩
    · exact .inl l
    · exact .inr ⟨k, c, e, cellK x c e _ z⟩
  · obtain ⟨v, z⟩ := I.cell x c e
    exact ⟨v, cellK x c e v z⟩
  · obtain ⟨m, ⟨o, _, _, ho, _⟩, _⟩ := I.loc
    exact free _ o (fun z => (hch _ z).2.1 rfl) ho I.free
  · obtain ⟨v, o, ho, hd⟩ := I.cell x c e
    exact free c o (fun z => (hch c z).2.2.1 x c e rfl) ho (I.freeC x c e)
  · obtain ⟨e, n, ne, nf, d⟩ := I.pin p hp
    have nch : p.1 ∉ ch := fun z => (hch p.1 z).2.2.2 p hp rfl
    exact ⟨keep p.1 p.2 ne nf nch e n, free p.1 p.2 nch e n, ne, nf, d⟩
/-- .. where the frame's own object is kept too -/
theorem Inv.un {t' : Nat} (I : Inv X pins σ H s) (u : Un X.fs [] H H' s.heap h') (hok : HOk X.prog X.w H' h') : Inv X pins σ H' { s with heap := h', toks := t' } := by
  obtain ⟨m, ⟨o, es, ep, ho, r⟩, _⟩ := id I.loc
  obtain ⟨sl, hL⟩ := u.any ho I.free (by simp)
  exact I.step (g' := s.gens) (d' := s.drawn) (ch := []) (fun _ z => nomatch z) (fun b o _ hb _ e n => u.keep b o e n hb (by simp)) (fun b o _ hb _ e n => u.slot b o e n hb (by simp)) (fun b o _ e n => u.free b o e n (by simp)) (fun b o _ e => u.there b o e (by simp)) u.tups u.frzs u.tbls (fun m' hm => by
    obtain ⟨o', es', ep', ho', r'⟩ := hm
    rw [ho] at ho'; cases ho'
    exact ⟨_, es', ep', hL, r'⟩) hok I.bare
/-- behind a call (or a comprehension's block): the slots of this frame may have changed too, the records at ch may have turned -/
theorem Inv.call {g' : Array GenState} {t' : Nat} {d' : Drawn} {ch : List Addr} (I : Inv X pins σ H s) (u : Un (frs X.stack) ch H H' s.heap h') (hok : HOk X.prog X.w H' h') (hg : AllBare g')
    (hch : ∀ b ∈ ch, (b ∈ X.ex ∨ X.s₀.heap.objs.size ≤ b) ∧ b ≠ X.env.locals ∧ (∀ x c, X.env.cells.lookup x = some c → c ≠ b) ∧ ∀ p ∈ X.pn ++ pins, p.1 ≠ b) :
    Inv X pins σ H' { s with heap := h', gens := g', drawn := d', toks := t' } := by
  obtain ⟨m, ⟨o, es, ep, ho, r⟩, _⟩ := id I.loc
  obtain ⟨sl, hL⟩ := u.any ho I.free fun z => (hch _ z).2.1 rfl
  exact I.step (ch := ch) hch (fun b o hL hb hc e n => u.keep b o e n (fun z => (List.mem_cons.mp (I.stkSub b z)).elim hL hb) hc) (fun b o _ _ hc e n => u.any e n hc) (fun b o hc e n => u.free b o e n hc) (fun b o hc e => u.there b o e hc) u.tups u.frzs u.tbls (fun m' hm => by
    obtain ⟨o', es', ep', ho', r'⟩ := hm
    rw [ho] at ho'; cases ho'
    exact ⟨_, es', ep', hL, r'⟩) hok hg
/-- an untracked record of ours (an iterator) has turned -/
theorem Inv.turned {t' : Nat} {it : Addr} (I : Inv X pins σ H s) (k : ∀ b o, b ≠ it → s.heap.get? b = some o → h'.get? b = some o) (hn : H it = none) (hL : it ≠ X.env.locals)
    (h1 : it ∈ X.ex ∨ X.s₀.heap.objs.size ≤ it) (h2 : ∀ x c, X.env.cells.lookup x = some c → c ≠ it) (h3 : ∀ p ∈ X.pn ++ pins, p.1 ≠ it) : Inv X pins σ H { s with heap := h', toks := t' } := by
  have nit : ∀ b u, H b = some u → b ≠ it := fun b u e z => by rw [z, hn] at e; cases e
  refine I.step (g' := s.gens) (d' := s.drawn) (ch := [it]) (fun b hb => ?_) (fun b o _ _ hc e _ => k b o (fun z => hc (by simp [z])) e) (fun b o _ _ hc e _ => ⟨o.slots, k b o (fun z => hc (by simp [z])) e⟩) (fun _ _ _ _ n => n)
    (fun b o hc e => ⟨o, k b o (fun z => hc (by simp [z])) e⟩) (fun _ _ e => e) (fun _ _ _ e => e) (fun b ps e => ⟨#[], by rw [e]; simp⟩) (fun m hm => ?_) (fun b u e => ?_) I.bare
  · have e : b = it := by simpa using hb
    subst e
    exact ⟨h1, hL, h2, h3⟩
  · obtain ⟨o, es, ep, ho, r⟩ := hm
    exact ⟨o, es, ep, k _ o (Ne.symm hL) ho, r⟩
  · refine (I.hok b u e).stay (fun c v hc q => k c v ?_ q) (fun _ q => q) fun _ _ q => q
    rcases hc with z | z
    · rw [z]; exact nit b u e
    · exact nit c _ z
theorem Inv.tok (I : Inv X pins σ H s) (t : Nat) : Inv X pins σ H { s with toks := t } := I.un (h' := s.heap) (t' := t) Un.refl I.hok
/-- all objects kept -/
theorem Inv.kept {t' : Nat} (I : Inv X pins σ H s) (k : ∀ b u, s.heap.get? b = some u → h'.get? b = some u) : Inv X pins σ H { s with heap := h', toks := t' } := I.un (Un.kept k) (I.hok.kept k)
/-- a new object laid and tracked -/
theorem Inv.laid {a : Addr} {o : HO} {t' : Nat} (I : Inv X pins σ H s) (k : ∀ b u, s.heap.get? b = some u → h'.get? b = some u) (hp : s.heap.objs.size ≤ a) (new : ObjOk X.prog X.w (upd H a o) h' a o) :
    Inv X pins σ (upd H a o) { s with heap := h', toks := t' } := I.un (Un.laid k hp (I.hok.fresh hp)) (I.hok.laid k hp new)
/-- an object written -/
theorem Inv.write {x e : Addr} {o : HO} {t' : Nat} (I : Inv X pins σ H s) (mu : Mut (H x)) (he : e = x ∨ H e = some (.own x)) (k : ∀ b u, b ≠ e → s.heap.get? b = some u → h'.get? b = some u) (heo : ∃ u, h'.get? e = some u)
    (new : ObjOk X.prog X.w (upd H x o) h' x o) : Inv X pins σ (upd H x o) { s with heap := h', toks := t' } := I.un (Un.write mu he k heo) (I.hok.write mu he k heo new)
/-- forgetting slots, pins -/
theorem Inv.weak {σ' : List (Option V)} (I : Inv X pins σ H s) (hl : σ'.length = σ.length) (w : ∀ (i : Nat) v, σ'[i]? = some (some v) → σ[i]? = some (some v)) : Inv X pins σ' H s :=
  ⟨I.ok, I.os, I.bare, I.base, let ⟨m, hn, hl'⟩ := I.loc; ⟨m, hn, fun i x v e1 e2 e3 => hl' i x v e1 (w i v e2) e3⟩, I.cell, I.free, I.freeC, I.pin, I.hok, hl.trans I.len⟩
theorem Inv.pins_of {pins' : List (Addr × Obj)} (I : Inv X pins σ H s) (h : ∀ p ∈ pins', s.heap.get? p.1 = some p.2 ∧ H p.1 = none ∧ p.1 ≠ X.env.locals ∧ p.1 ∉ X.fs ∧ ∀ v, p.2.data ≠ .cell v) : Inv X pins' σ H s :=
  ⟨I.ok, I.os, I.bare, I.base, I.loc, I.cell, I.free, I.freeC, fun p hp => (List.mem_append.mp hp).elim (fun z => I.pin p (List.mem_append_left _ z)) (h p), I.hok, I.len⟩

theorem nodup_ix {N : List Str} (hN : N.Nodup) {i j : Nat} {x : Str} (a : N[i]? = some x) (b : N[j]? = some x) : i = j := by
  obtain ⟨h1, e1⟩ := List.getElem?_eq_some_iff.mp a
  obtain ⟨h2, e2⟩ := List.getElem?_eq_some_iff.mp b
  exact (List.getElem_inj hN).mp (e1.trans e2.symm)

/-- a name is stored; what changed -/
theorem store_ok2 {M : Model} {A : Around} {E : Value → Shared → Prop} {i : Nat} {x : Str} {v : V} {u : Value} {Q : Unit → Shared → Prop} (I : Inv X pins σ H s) (hN : X.N.Nodup) (hi : X.N[i]? = some x) (hx : Loc X.env.scope x) (r : RelV v u)
    (h : ∀ s', Inv X pins (σ.set i (some v)) H s' → (∃ a, Heap.SameBut a s.heap s'.heap ∧ (a = X.env.locals ∨ X.env.cells.lookup x = some a)) → Q () s') (hf : X.fn x = true ∨ X.env.scope.names.lookup x = some .local := by first | exact .inl rfl | exact .inr rfl | assumption) : wpAny M A (storeName X.env x u) Q E s := by
  obtain ⟨m, hn, hl⟩ := id I.loc
  have hcls : (X.env.scope.kind == .class || (X.env.scope.kind == .module && X.env.locals != X.env.globals)) = false := by rw [I.ok.kind]; rfl
  have hiσ : i < σ.length := by rw [I.len]; exact (List.getElem?_eq_some_iff.mp hi).1
  have cne := I.cne
  have tracked : ∀ {a : Addr} {h' : Heap}, (∃ o, s.heap.get? a = some o ∧ H a = none) → Heap.SameBut a s.heap h' → HOk X.prog X.w H h' := fun {a h'} ha hs b ob e => by
    obtain ⟨_, _, hfree⟩ := ha
    refine (I.hok b ob e).stay (fun c w' hc q => (hs.2 c ?_).trans q) (fun _ q => q) fun _ _ q => q
    rintro rfl
    rcases hc with rfl | hc
    · rw [hfree] at e; cases e
    · rw [hfree] at hc; cases hc
  rcases hx with hk | hk
  · refine wpAny_storeName_local hk hn (fun h' hn' hs => ?_) hcls
    obtain ⟨oL, _, _, hoL, _⟩ := id hn
    refine h _ ⟨I.ok, I.os, I.bare, ⟨fun b o e n hb hx => ?_, fun b o e n hb hx => ?_, I.base.free, fun b o e hx => ?_, I.base.tups, I.base.frzs, I.base.tbls⟩, ⟨_, hn', fun j y v' e1 e2 e3 => ?_⟩, fun y c e => ?_, I.free, I.freeC, fun p hp => ?_, tracked ⟨oL, hoL, I.free⟩ hs, by simpa using I.len⟩ ⟨_, hs, .inl rfl⟩
    · exact (hs.2 b (Nat.ne_of_lt (Nat.lt_of_lt_of_le (Heap.lt_size e) I.ok.above))).trans (I.base.keep b o e n hb hx)
    · obtain ⟨sl, e1⟩ := I.base.slot b o e n hb hx
      exact ⟨sl, (hs.2 b (Nat.ne_of_lt (Nat.lt_of_lt_of_le (Heap.lt_size e) I.ok.above))).trans e1⟩
    · obtain ⟨o', e1⟩ := I.base.there b o e hx
      exact ⟨o', (hs.2 b (Nat.ne_of_lt (Nat.lt_of_lt_of_le (Heap.lt_size e) I.ok.above))).trans e1⟩
    · by_cases hj : j = i
      · subst hj
        rw [hi] at e1; cases e1
        rw [List.getElem?_set_self hiσ] at e2
        cases e2
        exact ⟨u, r, .inl ⟨hk, by simp⟩⟩
      · rw [List.getElem?_set_ne (Ne.symm hj)] at e2
        obtain ⟨u', r', q⟩ := hl j y v' e1 e2 e3
        refine ⟨u', r', ?_⟩
        rcases q with ⟨k, e⟩ | ⟨k, c, e, z⟩
        · refine .inl ⟨k, ?_⟩
          have : y ≠ x := fun e => hj (nodup_ix hN e1 (e ▸ hi))
          simp [this, e]
        · exact .inr ⟨k, c, e, z.sameBut hs (cne y c e)⟩
    · obtain ⟨w', z⟩ := I.cell y c e
      exact ⟨w', z.sameBut hs (cne y c e)⟩
    · obtain ⟨e, n, ne, nf, d⟩ := I.pin p hp
      exact ⟨(hs.2 p.1 ne).trans e, n, ne, nf, d⟩
  · have hfn : X.fn x = true := by
      rcases hf with z | z
      · exact z
      · rw [z] at hk; cases hk
    obtain ⟨c, hc⟩ := I.ok.has x (.inl hk)
    obtain ⟨w', z⟩ := I.cell x c hc
    refine wpAny_storeName_cell I.ok.kind hk hc z (fun h' hc' hs => ?_)
    obtain ⟨oc, hoc, hocd⟩ := id z
    refine h { s with heap := h' } ⟨I.ok, I.os, I.bare, ⟨fun b o e n hb hx => ?_, fun b o e n hb hx => ?_, I.base.free, fun b o e hx => ?_, I.base.tups, I.base.frzs, I.base.tbls⟩, ⟨m, hn.sameBut hs (Ne.symm (cne x c hc)), fun j y v' e1 e2 e3 => ?_⟩, fun y c' e => ?_, I.free, I.freeC, fun p hp => ?_, tracked ⟨oc, hoc, I.freeC x c hc⟩ hs, by simpa using I.len⟩ ⟨c, hs, .inr hc⟩
    · exact (hs.2 b (Nat.ne_of_lt (Nat.lt_of_lt_of_le (Heap.lt_size e) (I.ok.cab x c hfn hc)))).trans (I.base.keep b o e n hb hx)
    · obtain ⟨sl, e1⟩ := I.base.slot b o e n hb hx
      exact ⟨sl, (hs.2 b (Nat.ne_of_lt (Nat.lt_of_lt_of_le (Heap.lt_size e) (I.ok.cab x c hfn hc)))).trans e1⟩
    · obtain ⟨o', e1⟩ := I.base.there b o e hx
      exact ⟨o', (hs.2 b (Nat.ne_of_lt (Nat.lt_of_lt_of_le (Heap.lt_size e) (I.ok.cab x c hfn hc)))).trans e1⟩
    · by_cases hj : j = i
      · subst hj
        rw [hi] at e1; cases e1
        rw [List.getElem?_set_self hiσ] at e2
        cases e2
        exact ⟨u, r, .inr ⟨.inl hk, c, hc, hc'⟩⟩
      · rw [List.getElem?_set_ne (Ne.symm hj)] at e2
        obtain ⟨u', r', q⟩ := hl j y v' e1 e2 e3
        refine ⟨u', r', ?_⟩
        rcases q with q | ⟨k, c', e, z'⟩
        · exact .inl q
        · refine .inr ⟨k, c', e, z'.sameBut hs ?_⟩
          rintro rfl
          exact hj (nodup_ix hN e1 (I.ok.inj _ _ _ e hc ▸ hi))
    · by_cases hcc : c' = c
      · subst hcc; exact ⟨_, hc'⟩
      · obtain ⟨w2, z2⟩ := I.cell y c' e
        exact ⟨w2, z2.sameBut hs hcc⟩
    · obtain ⟨e, n, ne, nf, d⟩ := I.pin p hp
      refine ⟨(hs.2 p.1 ?_).trans e, n, ne, nf, d⟩
      intro q
      rw [q, hoc] at e
      have q' : oc = p.2 := Option.some.inj e
      exact d w' (by rw [← q']; exact hocd)
theorem store_ok {M : Model} {A : Around} {E : Value → Shared → Prop} {i : Nat} {x : Str} {v : V} {u : Value} {Q : Unit → Shared → Prop} (I : Inv X pins σ H s) (hN : X.N.Nodup) (hi : X.N[i]? = some x) (hx : Loc X.env.scope x) (r : RelV v u)
    (h : ∀ s', Inv X pins (σ.set i (some v)) H s' → Q () s') (hf : X.fn x = true ∨ X.env.scope.names.lookup x = some .local := by first | exact .inl rfl | exact .inr rfl | assumption) : wpAny M A (storeName X.env x u) Q E s :=
  store_ok2 I hN hi hx r (fun s' I' _ => h s' I') hf
/-- behind a call or a block, the state as it is -/
theorem Inv.call' {s' : Shared} {ch : List Addr} (I : Inv X pins σ H s) (ho : s'.os = s.os) (u : Un (frs X.stack) ch H H' s.heap s'.heap) (hok : HOk X.prog X.w H' s'.heap) (hg : AllBare s'.gens)
    (hch : ∀ b ∈ ch, (b ∈ X.ex ∨ X.s₀.heap.objs.size ≤ b) ∧ b ≠ X.env.locals ∧ (∀ x c, X.env.cells.lookup x = some c → c ≠ b) ∧ ∀ p ∈ X.pn ++ pins, p.1 ≠ b) : Inv X pins σ H' s' := by
  obtain ⟨h', g', d', t', o'⟩ := s'
  have e : o' = s.os := ho
  subst e
  exact I.call (g' := g') (t' := t') (d' := d') u hok hg hch
end

/-! ### the judgements -/
/-- an exception: its class, its own dict's address (where it has one), the abstract heap behind it -/
abbrev XK := Value → Option Addr → Hp → Prop
abbrev St := List (Option V)
abbrev VK := V → Hp → Prop
/-- an expression's reading; a test's; an argument list's -/
abbrev TE := St → Hp → VK → Prop
abbrev TT := St → Hp → (Bool → Hp → Prop) → Prop
abbrev TA := St → Hp → (List V → Hp → Prop) → Prop
/-- what is wanted behind a statement -/
structure Ends where
  nx : St → Hp → Prop
  rt : VK
  bk : St → Hp → Prop := fun _ _ => False
  ct : St → Hp → Prop := fun _ _ => False
abbrev TS := Ends → St → Hp → Prop

def EP (X : Cx) (pins : List (Addr × Obj)) (σ : St) (Q : VK) (u : Value) (s' : Shared) : Prop := ∃ v H', Inv X pins σ H' s' ∧ RelV v u ∧ Q v H'
def TP (X : Cx) (pins : List (Addr × Obj)) (σ : St) (Q : Bool → Hp → Prop) (b : Bool) (s' : Shared) : Prop := ∃ H', Inv X pins σ H' s' ∧ Q b H'
def AP (X : Cx) (pins : List (Addr × Obj)) (σ : St) (Q : List V → Hp → Prop) (us : List Value) (s' : Shared) : Prop := ∃ vs H', Inv X pins σ H' s' ∧ Vals vs us ∧ Q vs H'
def SP (X : Cx) (pins : List (Addr × Obj)) (D : Ends) (f : Flow) (s' : Shared) : Prop :=
  match f with
  | .next => ∃ σ' H', Inv X pins σ' H' s' ∧ D.nx σ' H'
  | .brk => ∃ σ' H', Inv X pins σ' H' s' ∧ D.bk σ' H'
  | .cont => ∃ σ' H', Inv X pins σ' H' s' ∧ D.ct σ' H'
  | .ret u => ∃ v σ' H', Inv X pins σ' H' s' ∧ RelV v u ∧ D.rt v H'

def PE (X : Cx) (e : Expr) (t : TE) : Prop :=
  ∀ (pins : List (Addr × Obj)) (s : Shared) (σ : St) (H : Hp) (Q : VK), Inv X pins σ H s → t σ H Q → wpAny (model X.prog X.w) X.A (eval e X.env) (EP X pins σ Q) X.xe s
def PT (X : Cx) (e : Expr) (t : TT) : Prop :=
  ∀ (pins : List (Addr × Obj)) (s : Shared) (σ : St) (H : Hp) (Q : Bool → Hp → Prop), Inv X pins σ H s → t σ H Q → wpAny (model X.prog X.w) X.A (isTrue e X.env (eval e X.env)) (TP X pins σ Q) X.xe s
/-- a test whatever its 'whole' is (and, or) -/
def PW (X : Cx) (e : Expr) (t : TT) : Prop :=
  ∀ (whole : Sem Value) (pins : List (Addr × Obj)) (s : Shared) (σ : St) (H : Hp) (Q : Bool → Hp → Prop), Inv X pins σ H s → t σ H Q → wpAny (model X.prog X.w) X.A (isTrue e X.env whole) (TP X pins σ Q) X.xe s
theorem PW.pt {X : Cx} {e : Expr} {t : TT} (h : PW X e t) : PT X e t := h _
/-- an argument list (no star), from the left -/
def PA (X : Cx) (es : List Expr) (t : TA) : Prop :=
  ∀ (pos : Pos) (pins : List (Addr × Obj)) (s : Shared) (σ : St) (H : Hp) (Q : List V → Hp → Prop), Inv X pins σ H s → t σ H Q → wpAny (model X.prog X.w) X.A (spliced (backTo pos (starEach es X.env))) (AP X pins σ Q) X.xe s
def PS (X : Cx) (st : Stmt) (t : TS) : Prop :=
  ∀ (pins : List (Addr × Obj)) (s : Shared) (σ : St) (H : Hp) (D : Ends), Inv X pins σ H s → t D σ H → wpAny (model X.prog X.w) X.A (exec st X.env) (SP X pins D) X.xe s
def PSs (X : Cx) (st : List Stmt) (t : TS) : Prop :=
  ∀ (pins : List (Addr × Obj)) (s : Shared) (σ : St) (H : Hp) (D : Ends), Inv X pins σ H s → t D σ H → wpAny (model X.prog X.w) X.A (execs st X.env) (SP X pins D) X.xe s
/-- weaken the end -/
theorem thn {α : Type} {t : Sem α} {Q Q' : α → Shared → Prop} {M : Model} {A : Around} {E : Value → Shared → Prop} {s : Shared} (h : wpAny M A t Q E s) (hQ : ∀ a s, Q a s → Q' a s) : wpAny M A t Q' E s := wpAny_mono h hQ fun _ _ x => x
end L2

namespace L2
open PySem PySem.Spec PyProof.Rows
section
variable {X : Cx}

/-! ### names and constants -/
def tVar (i : Nat) : TE := fun σ H Q => ∃ v, σ[i]? = some (some v) ∧ Q v H
def tC (v : V) : TE := fun _ H Q => Q v H
theorem pe_var {i : Nat} {x : Str} {pos : Pos} (hN : X.N[i]? = some x) (hv : Vis X.env.scope x) (hd : (x == ("__debug__" : Str)) = false := by decide) (hcd : (x == ("__classdict__" : Str)) = false := by decide) : PE X (.Name x pos) (tVar i) := by
  intro pins s σ H Q I h
  obtain ⟨v, e, h⟩ := h
  obtain ⟨m, hn, hl⟩ := I.loc
  obtain ⟨u, r, l⟩ := hl i x v hN e hv
  have fin : EP X pins σ Q u s := ⟨v, H, I, r, h⟩
  rcases l with ⟨hk, hm⟩ | ⟨hk, c, hc, hcell⟩
  · exact wpAny_Name (wpAny_loadName_local I.ok.kind hk hn hm fin) hd
  · rcases hk with hk | hk
    · exact wpAny_Name (wpAny_loadName_cell I.ok.kind hk hc hcell fin) hd
    · exact wpAny_Name (wpAny_loadName_free I.ok.kind hk hc hcell fin hcd) hd
theorem pe_int {i j pos} : PE X (.Constant (.int i) j pos) (tC (.int i)) := fun _ _ _ H _ I h => wpAny_Constant_int ⟨.int i, H, I.tok _, ⟨_, rfl⟩, h⟩
theorem pe_bl {b j pos} : PE X (.Constant (.bool b) j pos) (tC (.bl b)) := fun _ _ _ H _ I h => Constant_bool ⟨.bl b, H, I, rfl, h⟩
theorem pe_non {j pos} : PE X (.Constant .none j pos) (tC .non) := fun _ _ _ H _ I h => Constant_none ⟨.non, H, I, rfl, h⟩
/-- a global name of the def -/
def Gl (X : Cx) (x : Str) : Prop := X.env.kindOf x = some .globalImplicit
theorem ld_glob {E : Value → Shared → Prop} {pins : List (Addr × Obj)} {s : Shared} {σ : St} {H : Hp} {x : Str} {u : Value} {pos : Pos} {Q : Value → Shared → Prop} (I : Inv X pins σ H s) (hg : Gl X x) (hm : X.mg x = some u) (h : Q u s)
    (hd : (x == ("__debug__" : Str)) = false := by decide) : wpAny (model X.prog X.w) X.A (eval (.Name x pos) X.env) Q E s :=
  Calls.Name_function_global I.ok.kind hg (Calls.loadGlobal_global (by rw [I.ok.glob]; exact I.mod.glob.keeps I.bk) hm h) hd
theorem ld_blt {E : Value → Shared → Prop} {pins : List (Addr × Obj)} {s : Shared} {σ : St} {H : Hp} {x : Str} {u : Value} {pos : Pos} {Q : Value → Shared → Prop} (I : Inv X pins σ H s) (hg : Gl X x) (hm : X.mg x = none) (hv : bootBuiltins x = some u) (h : Q u s)
    (hn : x ≠ "__name__" := by decide) (hd : (x == ("__debug__" : Str)) = false := by decide) : wpAny (model X.prog X.w) X.A (eval (.Name x pos) X.env) Q E s := by
  obtain ⟨mb, h1, h2⟩ := I.mod.blt
  exact Calls.Name_function_global I.ok.kind hg (Calls.loadGlobal_builtin (by rw [I.ok.glob]; exact I.mod.glob.keeps I.bk) hm (by rw [I.ok.blt]; exact h1.keeps I.bk) ((h2 x hn).trans hv) h) hd
theorem pe_bltn {x : Str} {v : V} {u : Value} {pos : Pos} (hg : Gl X x) (hm : X.mg x = none) (hv : bootBuiltins x = some u) (r : RelV v u) (hn : x ≠ "__name__" := by decide) (hd : (x == ("__debug__" : Str)) = false := by decide) : PE X (.Name x pos) (tC v) :=
  fun _ _ _ H _ I h => ld_blt I hg hm hv ⟨v, H, I, r, h⟩ hn hd

/-! ### arithmetic -/
variable {a b : Expr} {ta tb : TE} {pos : Pos}
/-! ### comparisons -/
/-- a comparison as a value, as a test -/
def tB (t : TE) : TT := fun σ H Q => t σ H fun x H1 => ∃ c, x = .bl c ∧ Q c H1
/-- an expression whose value is a bool, as a test -/
theorem pt_val {e : Expr} {t : TE} (h : PE X e t) (he : ∀ whole, isTrue e X.env whole = (do let v ← whole; standAt e.pos; holding [v] (truthy v)) := by intro _; rfl) : PT X e (tB t) := by
  intro pins s σ H Q I hw
  refine isTrue_plain (thn (h pins s σ H _ I hw) fun v s1 ⟨x, H1, I1, r1, q1⟩ => ?_) (he _)
  obtain ⟨d, rfl, q⟩ := q1
  cases r1
  exact wpAny_truthy_bool ⟨H1, I1, q⟩

/-! ### and, or, not -/
variable {tA tB' : TT} {rest : List Expr}
def tOr (t u : TT) : TT := fun σ H Q => t σ H fun c H1 => if c = true then Q true H1 else u σ H1 Q
def tNot (t : TT) : TT := fun σ H Q => t σ H fun c H1 => Q (!c) H1
theorem pw_or1 (ha : PT X a tA) : PW X (.BoolOp .Or [a] pos) tA := by
  intro wh pins s σ H Q I h
  refine isTrue_or (thn (ha pins s σ H Q I h) fun c s1 e => ?_)
  cases c with
  | false => exact isTrue_or_nil e
  | true => exact e
theorem pw_or (ha : PT X a tA) (hb : PW X (.BoolOp .Or (b :: rest) pos) tB') : PW X (.BoolOp .Or (a :: b :: rest) pos) (tOr tA tB') := by
  intro wh pins s σ H Q I h
  refine isTrue_or (thn (ha pins s σ H _ I h) fun c s1 ⟨H1, I1, q1⟩ => ?_)
  cases c with
  | true => exact ⟨H1, I1, q1⟩
  | false => exact hb wh pins s1 σ H1 Q I1 q1
theorem pt_not (ha : PT X a tA) : PT X (.UnaryOp .Not a pos) (tNot tA) := by
  intro pins s σ H Q I h
  exact isTrue_not (ha pins s σ H (fun c H1 => Q (!c) H1) I h)
/-- .. as values (bools) -/
def tAndV (ta tb : TE) : TE := fun σ H Q => ta σ H fun x H1 => ∃ c, x = .bl c ∧ if c = true then tb σ H1 Q else Q (.bl false) H1
def tNotV (ta : TE) : TE := fun σ H Q => ta σ H fun x H1 => ∃ c, x = .bl c ∧ Q (.bl (!c)) H1
theorem pe_one {op} {t : TE} (h : PE X a t) : PE X (.BoolOp op [a] pos) t := fun pins s σ H Q I hw => BoolOp_one (h pins s σ H Q I hw)
theorem pe_and (ha : PE X a ta) (hb : PE X (.BoolOp .And (b :: rest) pos) tb) : PE X (.BoolOp .And (a :: b :: rest) pos) (tAndV ta tb) := by
  intro pins s σ H Q I h
  refine BoolOp_and (thn (ha pins s σ H _ I h) fun v s1 ⟨x, H1, I1, r1, q1⟩ => ?_)
  obtain ⟨c, rfl, q1⟩ := q1
  cases r1
  refine wpAny_truthy_bool ?_
  cases c with
  | true => exact hb pins s1 σ H1 Q I1 q1
  | false => exact ⟨.bl false, H1, I1, rfl, q1⟩
theorem pe_not (ha : PE X a ta) : PE X (.UnaryOp .Not a pos) (tNotV ta) := by
  intro pins s σ H Q I h
  refine UnaryOp_ (thn (ha pins s σ H _ I h) fun v s1 ⟨x, H1, I1, r1, q1⟩ => ?_)
  obtain ⟨c, rfl, q1⟩ := q1
  cases r1
  exact not_of (wpAny_truthy_bool ⟨.bl (!c), H1, I1, rfl, q1⟩)
end
end L2

namespace L2
open PySem PySem.Spec PyProof.Rows

/-! ### a list, a tuple that is read: tracked, frozen, or an object of the module -/
def SqL (K : PySem.W.Frag) (H : Hp) (a : Addr) (xs : List V) : Prop :=
  Rd H a (.lst xs) ∨
    ∃ (o : Obj) (its : Array Value) (n : Nat), K.lookup a = some o ∧ o.cls = .type "list" ∧ o.dict = none ∧ o.data = .seq its n ∧ its.size ≤ sizeLine ∧ Vals xs its.toList
def SqT (K : PySem.W.Frag) (H : Hp) (a : Addr) (xs : List V) : Prop :=
  Rd H a (.tup xs) ∨
    ∃ (o : Obj) (its : Array Value) (n : Nat), K.lookup a = some o ∧ o.cls = .type "tuple" ∧ o.data = .seq its n ∧ its.size ≤ sizeLine ∧ Vals xs its.toList
def absV : Value → Option V
  | .none => some .non
  | .bool b => some (.bl b)
  | .int i _ => some (.int i)
  | .str x _ => some (.str x)
  | .bytes b _ => some (.byt b)
  | .float b _ => some (.flt b)
  | .ref a => some (.ref a)
  | .type n => some (.ty n)
  | _ => none
theorem RelV.abs {x : V} {u : Value} (r : RelV x u) : absV u = some x := by
  cases x with
  | non => cases r; rfl
  | bl _ => cases r; rfl
  | int _ => obtain ⟨t, rfl⟩ := r; rfl
  | str _ => obtain ⟨t, rfl⟩ := r; rfl
  | byt _ => obtain ⟨t, rfl⟩ := r; rfl
  | flt _ => obtain ⟨t, rfl⟩ := r; rfl
  | ref _ => cases r; rfl
  | ty _ => cases r; rfl
theorem RelV.inj {x y : V} {u : Value} (r : RelV x u) (q : RelV y u) : x = y := Option.some.inj (r.abs.symm.trans q.abs)
theorem Vals.inj : ∀ {xs ys : List V} {us : List Value}, Vals xs us → Vals ys us → xs = ys
  | _, _, _, .nil, .nil => rfl
  | _, _, _, .cons r t, .cons r' t' => by rw [r.inj r', Vals.inj t t']
section
variable {X : Cx} {pins : List (Addr × Obj)} {σ : St} {H : Hp} {s : Shared} {a : Addr} {xs ys : List V}
theorem SqL.of {K : PySem.W.Frag} (h : H a = some (.lst xs)) : SqL K H a xs := .inl (.inl h)
theorem SqT.of {K : PySem.W.Frag} (h : H a = some (.tup xs)) : SqT K H a xs := .inl (.inl h)
theorem Inv.list (I : Inv X pins σ H s) (h : SqL X.K H a xs) : ∃ its : List Value, Vals xs its ∧ PlainL s.heap a its.toArray ∧ xs.length ≤ sizeLine := by
  rcases h with h | ⟨o, its, n, hk, hc, hd, hs, hz, r⟩
  · obtain ⟨z, its, n, r, e⟩ := h.ok I.hok
    exact ⟨its, r, ⟨_, n, e, rfl, rfl, rfl⟩, z⟩
  · refine ⟨its.toList, r, ⟨o, n, I.kIn a o hk, hc, hd, by simpa using hs⟩, ?_⟩
    have e := r.length
    simp only [Array.length_toList] at e
    omega
theorem Inv.tuple (I : Inv X pins σ H s) (h : SqT X.K H a xs) : ∃ its : List Value, Vals xs its ∧ IsTup s.heap a its.toArray ∧ xs.length ≤ sizeLine := by
  rcases h with h | ⟨o, its, n, hk, hc, hs, hz, r⟩
  · obtain ⟨z, its, r, p⟩ := h.ok I.hok
    exact ⟨its, r, p, z⟩
  · refine ⟨its.toList, r, ⟨o, I.kIn a o hk, hc, n, by simpa using hs⟩, ?_⟩
    have e := r.length
    simp only [Array.length_toList] at e
    omega
theorem Inv.list_inj (I : Inv X pins σ H s) (h : SqL X.K H a xs) (h' : SqL X.K H a ys) : xs = ys := by
  obtain ⟨its, r, ⟨o, n, e, _, _, d⟩, _⟩ := I.list h
  obtain ⟨its', r', ⟨o', n', e', _, _, d'⟩, _⟩ := I.list h'
  rw [e] at e'; cases e'
  rw [d] at d'
  injection d' with d1 _
  have : its = its' := by simpa using congrArg Array.toList d1
  subst this
  exact r.inj r'
theorem Inv.tuple_inj (I : Inv X pins σ H s) (h : SqT X.K H a xs) (h' : SqT X.K H a ys) : xs = ys := by
  obtain ⟨its, r, ⟨o, e, _, n, d⟩, _⟩ := I.tuple h
  obtain ⟨its', r', ⟨o', e', _, n', d'⟩, _⟩ := I.tuple h'
  rw [e] at e'; cases e'
  rw [d] at d'
  injection d' with d1 _
  have : its = its' := by simpa using congrArg Array.toList d1
  subst this
  exact r.inj r'
end

/-! ### another wish about exceptions -/
abbrev Cx.wish (X : Cx) (E : Value → Shared → Prop) : Cx := { X with xe := E }
/-- no exception leaves -/
abbrev Cx.nox (X : Cx) : Cx := X.wish fun _ _ => False
theorem Cx.Ok.wish {X : Cx} (ok : X.Ok) (E : Value → Shared → Prop) : (X.wish E).Ok :=
  ⟨ok.mod, ok.kind, ok.glob, ok.blt, ok.above, ok.inj, ok.has, ok.cab, ok.hd, ok.frames, ok.stk, ok.exf, ok.bs, ok.bsz, ok.noex, ok.exfs, ok.funs, ok.frf⟩
theorem Cx.Ok.unwish {X : Cx} {E : Value → Shared → Prop} (ok : (X.wish E).Ok) : X.Ok :=
  ⟨ok.mod, ok.kind, ok.glob, ok.blt, ok.above, ok.inj, ok.has, ok.cab, ok.hd, ok.frames, ok.stk, ok.exf, ok.bs, ok.bsz, ok.noex, ok.exfs, ok.funs, ok.frf⟩
section
variable {X : Cx} {pins : List (Addr × Obj)} {σ : St} {H : Hp} {s : Shared} {E : Value → Shared → Prop}
theorem Inv.wish (I : Inv X pins σ H s) (E : Value → Shared → Prop) : Inv (X.wish E) pins σ H s := ⟨I.ok.wish E, I.os, I.bare, I.base, I.loc, I.cell, I.free, I.freeC, I.pin, I.hok, I.len⟩
theorem Inv.unwish (I : Inv (X.wish E) pins σ H s) : Inv X pins σ H s := ⟨I.ok.unwish, I.os, I.bare, I.base, I.loc, I.cell, I.free, I.freeC, I.pin, I.hok, I.len⟩
theorem SP.unwish {D : Ends} {f : Flow} {s' : Shared} (h : SP (X.wish E) pins D f s') : SP X pins D f s' := by
  cases f with
  | next => obtain ⟨σ', H', I, q⟩ := h; exact ⟨σ', H', I.unwish, q⟩
  | brk => obtain ⟨σ', H', I, q⟩ := h; exact ⟨σ', H', I.unwish, q⟩
  | cont => obtain ⟨σ', H', I, q⟩ := h; exact ⟨σ', H', I.unwish, q⟩
  | ret u => obtain ⟨v, σ', H', I, r, q⟩ := h; exact ⟨v, σ', H', I.unwish, r, q⟩
theorem PE.nox {e : Expr} {t : TE} (h : PE X.nox e t) : PE X e t := fun pins s σ H Q I hw =>
  wpAny_mono (h pins s σ H Q (I.wish _) hw) (fun _ _ ⟨v, H', I', r, q⟩ => ⟨v, H', I'.unwish, r, q⟩) fun _ _ z => False.elim z
theorem PT.nox {e : Expr} {t : TT} (h : PT X.nox e t) : PT X e t := fun pins s σ H Q I hw =>
  wpAny_mono (h pins s σ H Q (I.wish _) hw) (fun _ _ ⟨H', I', q⟩ => ⟨H', I'.unwish, q⟩) fun _ _ z => False.elim z
theorem PSs.nox {st : List Stmt} {t : TS} (h : PSs X.nox st t) : PSs X st t := fun pins s σ H D I hw =>
  wpAny_mono (h pins s σ H D (I.wish _) hw) (fun _ _ q => q.unwish) fun _ _ z => False.elim z
end

/-! ### blocks and small statements -/
section
variable {X : Cx} {st : Stmt} {rest : List Stmt} {t u : TS} {e : Expr} {te : TE} {pos : Pos}
def tNext : TS := fun D σ H => D.nx σ H
def tSeq (t u : TS) : TS := fun D σ H => t { D with nx := u D } σ H
theorem pss_nil : PSs X [] tNext := fun _ _ σ H _ I h => wpAny_execs_nil ⟨σ, H, I, h⟩
theorem pss_cons (h1 : PS X st t) (h2 : PSs X rest u) : PSs X (st :: rest) (tSeq t u) := by
  intro pins s σ H D I h
  refine wpAny_execs_cons (thn (h1 pins s σ H { D with nx := u D } I h) fun f s1 q => ?_)
  cases f with
  | next =>
    obtain ⟨σ', H', I', q⟩ := q
    exact h2 pins s1 σ' H' D I' q
  | ret v => exact q
  | brk => exact q
  | cont => exact q
theorem pss_one (h1 : PS X st t) : PSs X [st] t := by
  intro pins s σ H D I h
  refine wpAny_execs_cons (thn (h1 pins s σ H D I h) fun f s1 q => ?_)
  cases f with
  | next => exact wpAny_execs_nil q
  | ret v => exact q
  | brk => exact q
  | cont => exact q
/-- in a def's body nothing is shown -/
theorem Inv.quiet {pins : List (Addr × Obj)} {σ : St} {H : Hp} {s : Shared} (I : Inv X pins σ H s) : interactive X.env = false := by simp [interactive, I.ok.kind]
/-- an expression whose value is dropped -/
def tDrop (te : TE) : TS := fun D σ H => te σ H fun _ H1 => D.nx σ H1
theorem ps_expr (he : PE X e te) (hs : swapsWith e none pos.line X.env = pure false := by rfl) : PS X (.Expr e pos) (tDrop te) := by
  intro pins s σ H D I h
  exact wpAny_Expr_any (thn (he pins s σ H _ I h) fun v s1 ⟨x, H1, I1, r1, q1⟩ => ⟨σ, H1, I1, q1⟩) I.quiet hs
def tRet (te : TE) : TS := fun D σ H => te σ H D.rt
theorem ps_ret (he : PE X e te) : PS X (.Return (some e) pos) (tRet te) := by
  intro pins s σ H D I h
  exact wpAny_Return_some (thn (he pins s σ H _ I h) fun v s1 ⟨x, H1, I1, r1, q1⟩ => ⟨x, σ, H1, I1, r1, q1⟩)
def tIfS (c : TT) (t u : TS) : TS := fun D σ H => c σ H fun b H1 => if b = true then t D σ H1 else u D σ H1
theorem ps_if {c : Expr} {a b : List Stmt} {tc : TT} (hc : PT X c tc) (ha : PSs X a t) (hb : PSs X b u) : PS X (.If c a b pos) (tIfS tc t u) := by
  intro pins s σ H D I h
  refine wpAny_If (thn (hc pins s σ H _ I h) fun d s1 ⟨H1, I1, q1⟩ => ?_)
  cases d with
  | true => exact ha pins s1 σ H1 D I1 q1
  | false => exact hb pins s1 σ H1 D I1 q1
/-- code that the proof never comes to -/
def tNever : TS := fun _ _ _ => False
theorem ps_never : PS X st tNever := fun _ _ _ _ _ _ h => h.elim
end

/-! ### targets -/
abbrev TG := V → St → Hp → (St → Hp → Prop) → Prop
abbrev TGs := List V → St → Hp → (St → Hp → Prop) → Prop
def PG (X : Cx) (target : Expr) (t : TG) : Prop :=
  ∀ (pins : List (Addr × Obj)) (s : Shared) (σ : St) (H : Hp) (v : V) (u : Value) (Q : St → Hp → Prop), Inv X pins σ H s → RelV v u → t v σ H Q →
    wpAny (model X.prog X.w) X.A (assign target X.env u) (fun _ s' => ∃ σ' H', Inv X pins σ' H' s' ∧ Q σ' H') X.xe s
/-- several targets, one after another -/
def PGs (X : Cx) (ts : List Expr) (t : TGs) : Prop :=
  ∀ (pins : List (Addr × Obj)) (s : Shared) (σ : St) (H : Hp) (vs : List V) (us : List Value) (Q : St → Hp → Prop), Inv X pins σ H s → Vals vs us → t vs σ H Q →
    wpAny (model X.prog X.w) X.A (assignInOrder ((assignEach ts X.env).map (·.2)) us) (fun _ s' => ∃ σ' H', Inv X pins σ' H' s' ∧ Q σ' H') X.xe s
/-- o[i] = v, by values -/
abbrev TSet := V → V → V → Hp → (Hp → Prop) → Prop
def PSet (X : Cx) (t : TSet) : Prop :=
  ∀ (pins : List (Addr × Obj)) (s : Shared) (σ : St) (H : Hp) (o i v : V) (ov iv u : Value) (Q : Hp → Prop), Inv X pins σ H s → RelV o ov → RelV i iv → RelV v u → t o i v H Q →
    wpAny (model X.prog X.w) X.A (setItem ov iv u) (fun _ s' => ∃ H', Inv X pins σ H' s' ∧ Q H') X.xe s
/-- a op= b, by values -/
abbrev TIp := V → V → Hp → VK → Prop
def PIp (X : Cx) (op : Operator) (t : TIp) : Prop :=
  ∀ (pins : List (Addr × Obj)) (s : Shared) (σ : St) (H : Hp) (x y : V) (v u : Value) (Q : VK), Inv X pins σ H s → RelV x v → RelV y u → t x y H Q →
    wpAny (model X.prog X.w) X.A (inplaceOp op v u) (EP X pins σ Q) X.xe s
section
variable {X : Cx} {pos : Pos}
def gName (i : Nat) : TG := fun v σ H Q => Q (σ.set i (some v)) H
theorem pg_name {i : Nat} {x : Str} (hN : X.N.Nodup) (hi : X.N[i]? = some x) (hx : Loc X.env.scope x) (hf : X.fn x = true ∨ X.env.scope.names.lookup x = some .local := by first | exact .inl rfl | exact .inr rfl | assumption) : PG X (.Name x pos) (gName i) := by
  intro pins s σ H v u Q I r h
  exact wpAny_assign_Name (store_ok I hN hi hx r (fun s' I' => ⟨_, H, I', h⟩) hf)
def gNil : TGs := fun vs σ H Q => vs = [] ∧ Q σ H
def gCons (t : TG) (u : TGs) : TGs := fun vs σ H Q => ∃ v r, vs = v :: r ∧ t v σ H fun σ' H' => u r σ' H' Q
theorem pgs_nil : PGs X [] gNil := by
  intro pins s σ H vs us Q I r h
  obtain ⟨e, h⟩ := h
  subst e
  cases r
  exact assignInOrder_nil ⟨σ, H, I, h⟩
theorem pgs_cons {e : Expr} {es : List Expr} {t : TG} {u : TGs} (h1 : PG X e t) (h2 : PGs X es u)
    (hs : (assignEach (e :: es) X.env).map (·.2) = assign e X.env :: (assignEach es X.env).map (·.2) := by rfl) : PGs X (e :: es) (gCons t u) := by
  intro pins s σ H vs us Q I r h
  obtain ⟨v, vr, e1, h⟩ := h
  subst e1
  cases r with
  | cons r rr =>
    rw [hs]
    refine assignInOrder_cons (thn (h1 pins s σ H _ _ _ I r h) fun _ s1 ⟨σ1, H1, I1, q1⟩ => ?_)
    exact h2 pins s1 σ1 H1 _ _ Q I1 rr q1
/-- (a, b, ..) = a tuple of that length -/
def gTup (K : PySem.W.Frag) (n : Nat) (t : TGs) : TG := fun v σ H Q => ∃ a xs, v = .ref a ∧ SqT K H a xs ∧ xs.length = n ∧ t xs σ H Q
theorem pg_tup {es : List Expr} {k : Nat} {t : TGs} {n : Nat} (hc : X.calm = true) (h : PGs X es t)
    (hn : (assignEach es X.env).length = n := by rfl) (hst : (assignEach es X.env).findIdx? (·.1) = none := by rfl) : PG X (.Tuple es k pos) (gTup X.K n t) := by
  intro pins s σ H v u Q I r hw
  obtain ⟨a, xs, e1, hq, hl, hw⟩ := hw
  subst e1
  cases r
  obtain ⟨its, rv, ht, hz⟩ := I.tuple hq
  refine assign_Tuple_tuple (I.ok.hd hc) ht (by simp [hn, ← hl, rv.length]) hst fun h' hx => ?_
  have I1 : Inv X pins σ H { s with heap := h' } := I.kept (t' := s.toks) fun b o e => hx b o (Nat.ne_of_lt (Heap.lt_size e)) e
  exact h pins _ σ H xs _ Q I1 (by simpa using rv) hw
/-- o[i] = .. -/
def gSub (to ti : TE) (t : TSet) : TG := fun v σ H Q => to σ H fun o H1 => ti σ H1 fun i H2 => t o i v H2 fun H3 => Q σ H3
theorem pg_sub {o i : Expr} {to ti : TE} {t : TSet} (ho : PE X o to) (hi : PE X i ti) (hs : PSet X t)
    (ha : ∀ v, assign (.Subscript o i pos) X.env v = (do
      let ov ← holding [v] (eval o X.env)
      let iv ← holding [v, ov] (eval i X.env)
      standAt pos
      holding [v, ov, iv] (setItem ov iv v)
      release [v, ov, iv] []) := by intro _; rfl) : PG X (.Subscript o i pos) (gSub to ti t) := by
  intro pins s σ H v u Q I r h
  rw [ha]
  refine wpAny_bind (wpAny_holding (thn (ho pins s σ H _ I h) fun ov s1 ⟨x, H1, I1, r1, q1⟩ => ?_))
  refine wpAny_bind (wpAny_holding (thn (hi pins s1 σ H1 _ I1 q1) fun iv s2 ⟨y, H2, I2, r2, q2⟩ => ?_))
  refine wpAny_bind (wpAny_standAt (wpAny_bind (wpAny_holding (thn (hs pins s2 σ H2 x y v ov iv u _ I2 r1 r2 r q2) fun _ s3 ⟨H3, I3, q3⟩ => ?_))))
  exact wpAny_release ⟨σ, H3, I3, q3⟩
/-- target = value -/
def tAsg (te : TE) (g : TG) : TS := fun D σ H => te σ H fun x H1 => g x σ H1 D.nx
theorem ps_asg {tg e : Expr} {te : TE} {g : TG} (he : PE X e te) (hg : PG X tg g) (hs : swapsWithSole [tg] e pos.line X.env = pure false := by rfl) (hw : swappedStores [tg] e X.env = pure none := by rfl)
    (h1 : (assignEach [tg] X.env).map (·.2) = [assign tg X.env] := by rfl) : PS X (.Assign [tg] e pos) (tAsg te g) := by
  intro pins s σ H D I h
  refine wpAny_Assign_stores (thn (he pins s σ H _ I h) fun v s1 ⟨x, H1, I1, r1, q1⟩ => ?_) hs hw
  rw [h1]
  exact thn (hg pins s1 σ H1 x v _ I1 r1 q1) fun _ s2 q => q
/-- name = value -/
theorem ps_set {i : Nat} {x : Str} {e : Expr} {te : TE} {pos' : Pos} (hN : X.N.Nodup) (hi : X.N[i]? = some x) (hx : Loc X.env.scope x) (he : PE X e te) (hs : swapsWith e (some (.Name x pos')) pos.line X.env = pure false := by rfl) (hf : X.fn x = true ∨ X.env.scope.names.lookup x = some .local := by first | exact .inl rfl | exact .inr rfl | assumption) :
    PS X (.Assign [.Name x pos'] e pos) (tAsg te (gName i)) := by
  intro pins s σ H D I h
  refine wpAny_Assign_Name (thn (he pins s σ H _ I h) fun v s1 ⟨y, H1, I1, r1, q1⟩ => ?_) hs
  exact store_ok I1 hN hi hx r1 (fun s2 I2 => ⟨_, H1, I2, q1⟩) hf
/-- a, b = x, y with plain local names: stored from the right; the pair itself is not tracked (the opening rows as in PyProof/Rows/TupAssign.lean:23) -/
def tPar (i j : Nat) (ta : TA) : TS := fun D σ H => ta σ H fun vs H1 => ∃ v w, vs = [v, w] ∧ D.nx ((σ.set i (some v)).set j (some w)) H1
theorem ps_par {i j : Nat} {x y : Str} {a b : Expr} {ta : TA} {px py pt : Pos} {kt k2 pt2} (hc : X.calm = true) (hN : X.N.Nodup) (hi : X.N[i]? = some x) (hj : X.N[j]? = some y) (hij : i ≠ j)
    (hx : X.env.scope.names.lookup x = some .local) (hy : X.env.scope.names.lookup y = some .local) (ha : PA X [a, b] ta)
    (hw : swappedStores [.Tuple [.Name x px, .Name y py] kt pt] (.Tuple [a, b] k2 pt2) X.env = pure (some [x, y]))
    (hs : swapsWithSole [.Tuple [.Name x px, .Name y py] kt pt] (.Tuple [a, b] k2 pt2) pos.line X.env = pure false := by rfl) :
    PS X (.Assign [.Tuple [.Name x px, .Name y py] kt pt] (.Tuple [a, b] k2 pt2) pos) (tPar i j ta) := by
  intro pins s σ H D I h
  rw [exec_Assign_arm]
  refine wpAny_bind (wpAny_standAt ?_)
  rw [hs]
  refine wpAny_bind (wpAny_pure ?_)
  rw [if_neg (by decide)]
  refine wpAny_bind (Tuple_ (thn (ha _ pins s σ H _ I h) fun us s1 ⟨vs, H1, I1, r1, q1⟩ => ?_))
  obtain ⟨v, w, e1, q1⟩ := q1
  subst e1
  obtain ⟨u1, u2, rfl, rv, rw'⟩ : ∃ u1 u2, us = [u1, u2] ∧ RelV v u1 ∧ RelV w u2 := by
    cases r1 with
    | cons p q =>
      cases q with
      | cons p' q' =>
        cases q'
        exact ⟨_, _, rfl, p, p'⟩
  refine wpAny_newObj_type ?_ (by show 2 ≤ sizeLine; decide)
  have I2 : Inv X pins σ H1 { s1 with heap := s1.heap.push { cls := .type "tuple", data := .seq [u1, u2].toArray } } := I1.kept (t' := s1.toks) fun b o e => Heap.get?_push_of_some _ e
  rw [hw]
  refine wpAny_bind (wpAny_pure ?_)
  show wpAny (model X.prog X.w) X.A (do rule "assign.swapped-stores"; let items ← unpackItems (.ref s1.heap.objs.size) 2 none; assignInOrder [fun v => bindName X.env y v, fun v => bindName X.env x v] items.reverse; pure Flow.next) _ _ _
  refine wpAny_bind (wpAny_rule (wpAny_bind (unpackItems_tuple (items := #[u1, u2]) (I.ok.hd hc) (IsTup.new s1.heap _) fun h' hx' => ?_)))
  have I3 := I2.kept (h' := h') (t' := s1.toks) fun b o e => hx' b o (Nat.ne_of_lt (Heap.lt_size e)) e
  show wpAny _ _ (assignInOrder [fun v => bindName X.env y v, fun v => bindName X.env x v] [u2, u1] >>= fun _ => pure Flow.next) _ _ _
  refine wpAny_bind (assignInOrder_cons (wpAny_bindName (store_ok I3 hN hj (.inl hy) rw' (fun s2 I4 => ?_) (.inr hy))))
  refine assignInOrder_cons (wpAny_bindName (store_ok I4 hN hi (.inl hx) rv (fun s3 I5 => assignInOrder_nil (wpAny_pure ?_)) (.inr hx)))
  rw [List.set_comm _ _ (Ne.symm hij)] at I5
  exact ⟨_, H1, I5, q1⟩
/-- name op= e -/
def tAug (i : Nat) (te : TE) (ti : TIp) : TS := fun D σ H => ∃ x, σ[i]? = some (some x) ∧ te σ H fun y H1 => ti x y H1 fun z H2 => D.nx (σ.set i (some z)) H2
theorem ps_aug {i : Nat} {x : Str} {e : Expr} {te : TE} {op : Operator} {ti : TIp} {pos' : Pos} (hN : X.N.Nodup) (hi : X.N[i]? = some x) (hx : Loc X.env.scope x) (he : PE X e te) (ho : PIp X op ti) (hf : X.fn x = true ∨ X.env.scope.names.lookup x = some .local := by first | exact .inl rfl | exact .inr rfl | assumption) :
    PS X (.AugAssign (.Name x pos') op e pos) (tAug i te ti) := by
  intro pins s σ H D I h
  obtain ⟨v, e1, h⟩ := h
  obtain ⟨m, hn, hl⟩ := I.loc
  have vis : Vis X.env.scope x := by rcases hx with k | k; exact .inl k; exact .inr (.inl k)
  obtain ⟨u, r, l⟩ := hl i x v hi e1 vis
  refine wpAny_AugAssign_Name ?_
  have go : wpAny (model X.prog X.w) X.A (eval e X.env) (fun w s₂ => wpAny (model X.prog X.w) X.A (inplaceOp op u w) (fun r s₃ => wpAny (model X.prog X.w) X.A (storeName X.env x r) (fun _ => SP X pins D .next) X.xe s₃) X.xe s₂) X.xe s := by
    refine thn (he pins s σ H _ I h) fun w s1 ⟨y, H1, I1, r1, q1⟩ => ?_
    refine thn (ho pins s1 σ H1 v y u w _ I1 r r1 q1) fun z s2 ⟨zv, H2, I2, r2, q2⟩ => ?_
    exact store_ok I2 hN hi hx r2 (fun s3 I3 => ⟨_, H2, I3, q2⟩) hf
  rcases l with ⟨hk, hm⟩ | ⟨hk, c, hc, hcell⟩
  · exact wpAny_loadName_local I.ok.kind hk hn hm go
  · rcases hk with hk | hk
    · exact wpAny_loadName_cell I.ok.kind hk hc hcell go
    · rcases hx with k | k
      · have : X.env.scope.names.lookup x = some .free := hk
        rw [k] at this; cases this
      · have : X.env.scope.names.lookup x = some .free := hk
        rw [k] at this; cases this
/-- ints -/
def ipI (f : Int → Int → Int) : TIp := fun x y H Q => ∃ i j, x = .int i ∧ y = .int j ∧ Q (.int (f i j)) H
theorem ip_add : PIp X .Add (ipI fun i j => i + j) := by
  intro pins s σ H x y v u Q I r1 r2 h
  obtain ⟨i, j, e1, e2, q⟩ := h
  subst e1; subst e2
  obtain ⟨t, rfl⟩ := r1
  obtain ⟨t', rfl⟩ := r2
  exact iadd_int ⟨.int _, H, I.tok _, ⟨_, rfl⟩, q⟩
end

/-! ### while -/
section
variable {X : Cx} {pos : Pos}
/-- the invariant W with its measure -/
def tWhile (c : TT) (tb : TS) : TS := fun D σ H => ∃ W : Nat → St → Hp → Prop, (∃ m, W m σ H) ∧ ∀ m σ H, W m σ H →
  c σ H fun b H1 => if b = true then ∃ N : St → Hp → Prop, (∀ σ' H', N σ' H' → ∃ m', m' < m ∧ W m' σ' H') ∧ tb { D with nx := N, ct := N, bk := D.nx } σ H1 else D.nx σ H1
theorem ps_while {c : Expr} {body : List Stmt} {tc : TT} {tb : TS} (hp : PassesOwn (model X.prog X.w) X.A X.env X.xe) (hc : PT X c tc) (hb : PSs X body tb) : PS X (.While c body [] pos) (tWhile tc tb) := by
  intro pins s σ H D I h
  obtain ⟨W, ⟨m0, w0⟩, turn⟩ := h
  refine wpAny_While (codeAny_whileLoop (fun n s' => ∃ σ' H', Inv X pins σ' H' s' ∧ W n σ' H') ?_ m0 ⟨σ, H, I, w0⟩)
  rintro n s1 ⟨σ1, H1, I1, w1⟩
  refine wpAny_passesOwn hp (thn (hc pins s1 σ1 H1 _ I1 (turn n σ1 H1 w1)) fun b s2 ⟨H2, I2, q2⟩ => ?_)
  cases b with
  | true =>
    obtain ⟨N, hN, q2⟩ := q2
    rw [if_pos rfl]
    refine wpAny_passesOwn hp (thn (hb pins s2 σ1 H2 _ I2 q2) fun f s3 q3 => ?_)
    cases f with
    | next =>
      obtain ⟨σ3, H3, I3, n3⟩ := q3
      obtain ⟨m', hm, w3⟩ := hN σ3 H3 n3
      exact ⟨m', hm, σ3, H3, I3, w3⟩
    | cont =>
      obtain ⟨σ3, H3, I3, n3⟩ := q3
      obtain ⟨m', hm, w3⟩ := hN σ3 H3 n3
      exact ⟨m', hm, σ3, H3, I3, w3⟩
    | brk => exact q3
    | ret v => exact q3
  | false =>
    rw [if_neg Bool.false_ne_true]
    exact wpAny_execs_nil ⟨σ1, H2, I2, q2⟩
end

/-! ### what a loop or a comprehension walks -/
/-- at turn i: it yields x (the heap may grow), or it stops -/
structure It where
  go : Nat → Hp → Prop
  yld : Nat → Hp → V → Hp → Prop
  stop : Nat → Hp → Prop
/-- the iterator's own objects may turn: they are not the frame's, not pinned, younger than the entry (or a comprehension's own) -/
def FpOk (X : Cx) (pins : List (Addr × Obj)) (H : Hp) (b : Addr) : Prop :=
  H b = none ∧ b ≠ X.env.locals ∧ b ∉ X.fs ∧ (b ∈ X.ex ∨ X.s₀.heap.objs.size ≤ b) ∧ (∀ x c, X.env.cells.lookup x = some c → c ≠ b) ∧ ∀ p ∈ X.pn ++ pins, p.1 ≠ b
theorem Inv.fpOk {X : Cx} {pins : List (Addr × Obj)} {σ : St} {H H' : Hp} {s : Shared} {b : Addr} (I : Inv X pins σ H s) (hb : s.heap.objs.size ≤ b) (hn : H' b = none) : FpOk X pins H' b := by
  refine ⟨hn, Nat.ne_of_gt (Nat.lt_of_lt_of_le I.lt hb), I.nofs hb, .inr (Nat.le_trans I.sz hb), fun x c e z => ?_, fun p hp z => ?_⟩
  · obtain ⟨v, q⟩ := I.cell x c e
    exact absurd (Nat.lt_of_lt_of_le q.lt (by rw [z]; exact hb)) (Nat.lt_irrefl _)
  · exact absurd (Nat.lt_of_lt_of_le (Heap.lt_size (I.pin p hp).1) (by rw [z]; exact hb)) (Nat.lt_irrefl _)
structure Turn (P : Program) (w : World) (K : PySem.W.Frag) (tg : Expr) (J : It) (fp : List Addr) (it : Addr) (tn : Nat → Heap → Prop) : Prop where
  mem : it ∈ fp
  obj : ∀ i h, tn i h → ∀ b ∈ fp, ∃ o, h.get? b = some o ∧ ∀ v, o.data ≠ .cell v
  keep : ∀ i h h', tn i h → (∀ b ∈ fp, ∀ o, h.get? b = some o → h'.get? b = some o) → tn i h'
  item : ∀ (X : Cx), X.prog = P → X.w = w → X.K = K → X.calm = true → ∀ (i : Nat) (pins : List (Addr × Obj)) (s : Shared) (σ : St) (H : Hp) (E : Value → Shared → Prop), Inv X pins σ H s → (∀ b ∈ fp, FpOk X pins H b) → tn i s.heap → J.go i H →
    wpAny (model P w) X.A (pyNext (.ref it)) (fun r s1 => ∃ u, r = some u ∧
      wpAny (model P w) X.A (letOwnedTupleGo tg (.ref it) u) (fun _ s2 => ∃ x H', Inv X pins σ H' s2 ∧ RelV x u ∧ J.yld i H x H' ∧ tn (i + 1) s2.heap ∧ ∀ b ∈ fp, H' b = none) E s1) E s
  done : ∀ (X : Cx), X.prog = P → X.w = w → X.K = K → X.calm = true → ∀ (i : Nat) (pins : List (Addr × Obj)) (s : Shared) (σ : St) (H : Hp) (E : Value → Shared → Prop), Inv X pins σ H s → (∀ b ∈ fp, FpOk X pins H b) → tn i s.heap → J.stop i H →
    wpAny (model P w) X.A (pyNext (.ref it)) (fun r s1 => r = none ∧ Inv X pins σ H s1) E s
  self : ∀ (A : Around) (i : Nat) (s : Shared) (Q : Value → Shared → Prop) (E : Value → Shared → Prop), tn i s.heap → Q (.ref it) s → wpAny (model P w) A (pyIter (.ref it)) Q E s
abbrev TI := St → Hp → (It → Hp → Prop) → Prop
/-- an iterator has come -/
def PIE (X : Cx) (pins : List (Addr × Obj)) (σ : St) (tg : Expr) (R : It → Hp → Prop) (itv : Value) (s2 : Shared) : Prop :=
  ∃ (it : Addr) (fp : List Addr) (tn : Nat → Heap → Prop) (J : It) (H' : Hp), itv = .ref it ∧ Inv X pins σ H' s2 ∧ Turn X.prog X.w X.K tg J fp it tn ∧ tn 0 s2.heap ∧ (∀ b ∈ fp, FpOk X pins H' b) ∧ R J H'
def PI (X : Cx) (tg iter : Expr) (wi : TI) : Prop :=
  ∀ (pins : List (Addr × Obj)) (s : Shared) (σ : St) (H : Hp) (R : It → Hp → Prop), Inv X pins σ H s → wi σ H R →
    wpAny (model X.prog X.w) X.A (eval iter X.env) (fun v s1 => wpAny (model X.prog X.w) X.A (pyIter v) (PIE X pins σ tg R) X.xe s1) X.xe s

/-- the step ahead of the store is nothing for an iterator that keeps no tuple -/
theorem go_of {M : Model} {A : Around} {E : Value → Shared → Prop} {s : Shared} {tg : Expr} {it : Addr} {u : Value} {o : Obj} {n : String} {vs : Array Value} {Q : Unit → Shared → Prop} (ho : s.heap.get? it = some o) (hc : o.cls = .type n) (hd : o.data = .fields vs)
    (hn : ["enumerate", "zip", "dict_itemiterator", "dict_reverseitemiterator", "odict_iterator", "itertools.zip_longest", "itertools.pairwise"].contains n = false) (hQ : Q () s) : wpAny M A (letOwnedTupleGo tg (.ref it) u) Q E s := by
  unfold letOwnedTupleGo
  cases tg <;> first
    | exact wpAny_pure hQ
    | (cases u <;> first
        | exact wpAny_pure hQ
        | (refine wpAny_bind (wpAny_load ho ?_)
           rw [hc, hd]
           show wpAny M A (if (["enumerate", "zip", "dict_itemiterator", "dict_reverseitemiterator", "odict_iterator", "itertools.zip_longest", "itertools.pairwise"].contains n && vs[0]? == some (rawInt _)) = true then _ else _) Q E s
           rw [if_neg (by intro h; rw [hn, Bool.false_and] at h; cases h)]
           exact wpAny_pure hQ))

/-- the list at a, as it stands at each turn (a loop may append to it) -/
def Itl (K : PySem.W.Frag) (a : Addr) : It :=
  ⟨fun i H => ∃ xs x, SqL K H a xs ∧ xs[i]? = some x, fun i H x H' => H' = H ∧ ∀ xs, SqL K H a xs → xs[i]? = some x, fun i H => ∃ xs, SqL K H a xs ∧ xs.length ≤ i⟩
/-- lo, lo + 1, .. (n of them) -/
def Itr (lo : Int) (n : Nat) : It := ⟨fun i _ => i < n, fun i H x H' => H' = H ∧ x = .int (lo + i), fun i _ => n ≤ i⟩
theorem turn_list {P : Program} {w : World} {K : PySem.W.Frag} {tg : Expr} (a it : Addr) : Turn P w K tg (Itl K a) [it] it (fun i h => h.IsListIter it a i) where
  mem := by simp
  obj := fun i h st b hb => by
    have e : b = it := by simpa using hb
    subst e
    obtain ⟨o, e, c, d⟩ := st
    exact ⟨o, e, fun v z => by rw [d] at z; cases z⟩
  keep := fun i h h' st k => st.at fun o e => k it (by simp) o e
  item := by
    intro X hP hw hK hc i pins s σ H E I hf st hg
    subst hP hw hK
    obtain ⟨xs, x, hq, hx⟩ := hg
    obtain ⟨its, rv, p, hz⟩ := I.list hq
    obtain ⟨u, hu, ru⟩ := rv.get hx
    obtain ⟨f0, f1, f2, f3, f4, f5⟩ := hf it (by simp)
    refine wpAny_pyNext_list_item st p.isList (x := u) (by simpa using hu) fun h' st' sb => ?_
    have I1 : Inv X pins σ H { s with heap := h' } := I.turned (t' := s.toks) (fun b o hb e => (sb.2 b hb).trans e) f0 f1 f3 f4 f5
    obtain ⟨o, e, c, d⟩ := id st'
    exact ⟨u, rfl, go_of (s := { s with heap := h' }) e c d (by decide) ⟨x, H, I1, ru, ⟨rfl, fun ys hy => by rw [I.list_inj hy hq]; exact hx⟩, st', fun b hb => (hf b hb).1⟩⟩
  done := by
    intro X hP hw hK hc i pins s σ H E I hf st hg
    subst hP hw hK
    obtain ⟨xs, hq, hx⟩ := hg
    obtain ⟨its, rv, p, hz⟩ := I.list hq
    obtain ⟨f0, f1, f2, f3, f4, f5⟩ := hf it (by simp)
    have hl := rv.length
    exact wpAny_pyNext_list_end (I.ok.hd hc) st p.isList (by simp; omega) fun h' eb => ⟨rfl, I.turned (t' := s.toks) (fun b o hb e => eb b o hb e) f0 f1 f3 f4 f5⟩
  self := fun _ _ _ _ _ st h => wpAny_pyIter_listiter st h
theorem turn_range {P : Program} {w : World} {K : PySem.W.Frag} {tg : Expr} (it : Addr) (lo : Int) (n : Nat) : Turn P w K tg (Itr lo n) [it] it (fun i h => IsRangeIter h it (lo + (i : Nat) * 1) ((n : Int) - (i : Nat)) 1) where
  mem := by simp
  obj := fun i h st b hb => by
    have e : b = it := by simpa using hb
    subst e
    exact ⟨_, st, fun v z => by
      have z' : Data.fields _ = Data.cell v := z
      cases z'⟩
  keep := fun i h h' st k => k it (by simp) _ st
  item := by
    intro X hP hw hK hc i pins s σ H E I hf st hg
    subst hP hw hK
    obtain ⟨f0, f1, f2, f3, f4, f5⟩ := hf it (by simp)
    have W := Walks.range (prog := X.prog) (w := X.w) (I.ok.hd hc) it lo 1 n
    refine W.item i s _ _ hg st fun v h' tk hv st' kk => ?_
    obtain ⟨t, rfl⟩ := hv
    have I1 : Inv X pins σ H { s with heap := h', toks := tk } := I.turned (fun b o hb e => kk b o (by simpa using hb) e) f0 f1 f3 f4 f5
    refine ⟨_, rfl, go_of (s := { s with heap := h', toks := tk }) (n := "range_iterator") st' rfl rfl (by decide) ⟨.int (lo + i), H, I1, ⟨t, ?_⟩, ⟨rfl, rfl⟩, st', fun b hb => (hf b hb).1⟩⟩
    rw [Int.mul_one]
  done := by
    intro X hP hw hK hc i pins s σ H E I hf st hg
    subst hP hw hK
    obtain ⟨f0, f1, f2, f3, f4, f5⟩ := hf it (by simp)
    exact wpAny_pyNext_range_end (I.ok.hd hc) st (by have : n ≤ i := hg; omega) fun h' eb => ⟨rfl, I.turned (t' := s.toks) (fun b o hb e => eb b o hb e) f0 f1 f3 f4 f5⟩
  self := fun _ _ _ _ _ st h => wpAny_pyIter_rangeiter st h
end L2

namespace L2
open PySem PySem.Spec PyProof.Rows
section
variable {X : Cx} {tg : Expr}
def iList (K : PySem.W.Frag) (tl : TE) : TI := fun σ H R => tl σ H fun x H1 => ∃ a, x = .ref a ∧ (∃ xs, SqL K H1 a xs) ∧ R (Itl K a) H1
theorem pi_list {l : Expr} {tl : TE} (hl : PE X l tl) : PI X tg l (iList X.K tl) := by
  intro pins s σ H R I h
  refine thn (hl pins s σ H _ I h) fun v s1 ⟨x, H1, I1, r1, q1⟩ => ?_
  obtain ⟨a, e, ⟨xs, hq⟩, q⟩ := q1
  subst e
  cases r1
  obtain ⟨its, rv, p, hz⟩ := I1.list hq
  refine wpAny_pyIter_list p.isList ?_
  refine ⟨s1.heap.objs.size, [s1.heap.objs.size], _, _, H1, rfl, I1.kept (t' := s1.toks) fun b o e => Heap.get?_push_of_some _ e, turn_list a _, ⟨_, Heap.get?_push_size _ rfl, rfl, rfl⟩, fun b hb => ?_, q⟩
  have e : b = s1.heap.objs.size := by simpa using hb
  subst e
  exact I1.fpOk (Nat.le_refl _) (I1.hok.fresh (Nat.le_refl _))
/-- a range object just made, walked -/
theorem range_it {pins : List (Addr × Obj)} {σ : St} {H : Hp} {s : Shared} {R : It → Hp → Prop} {E : Value → Shared → Prop} {lo hi : Int} {t u v : Tok} {tk : Nat} (I : Inv X pins σ H s) (h1 : -(2 ^ 62) ≤ lo) (h2 : lo < 2 ^ 62) (h3 : -(2 ^ 62) ≤ hi) (h4 : hi < 2 ^ 62)
    (q : R (Itr lo (hi - lo).toNat) H) : wpAny (model X.prog X.w) X.A (pyIter (.ref s.heap.objs.size)) (PIE X pins σ tg R) E { s with heap := s.heap.push { cls := .type "range", data := .fields #[.int lo t, .int hi u, .int 1 v] }, toks := tk } := by
  refine wpAny_pyIter_range (IsRange.new ..) (small_one h1 h2 h3 h4) ?_
  have I1 : Inv X pins σ H { s with heap := s.heap.push { cls := .type "range", data := .fields #[.int lo t, .int hi u, .int 1 v] }, toks := tk } := I.kept fun b o e => Heap.get?_push_of_some _ e
  refine ⟨(s.heap.push { cls := .type "range", data := .fields #[.int lo t, .int hi u, .int 1 v] }).objs.size, [(s.heap.push { cls := .type "range", data := .fields #[.int lo t, .int hi u, .int 1 v] }).objs.size], _, _, H, rfl,
    I1.kept (t' := tk) fun b o e => Heap.get?_push_of_some _ e, turn_range _ lo (hi - lo).toNat, ?_, fun b hb => ?_, q⟩
  · have e1 : lo + ((0 : Nat) : Int) * 1 = lo := by simp
    have e2 : (((hi - lo).toNat : Nat) : Int) - ((0 : Nat) : Int) = Builtin.Range.rangeSize lo hi 1 := by rw [rangeSize_one]; split <;> omega
    show IsRangeIter _ _ (lo + ((0 : Nat) : Int) * 1) ((((hi - lo).toNat : Nat) : Int) - ((0 : Nat) : Int)) 1
    rw [e1, e2]
    exact Heap.get?_push_size _ rfl
  · have e : b = (s.heap.push { cls := .type "range", data := .fields #[.int lo t, .int hi u, .int 1 v] }).objs.size := by simpa using hb
    subst e
    exact I1.fpOk (Nat.le_refl _) (I1.hok.fresh (Nat.le_refl _))
def iRng1 (ta : TA) : TI := fun σ H R => ta σ H fun vs H1 => ∃ j : Int, vs = [.int j] ∧ -(2 ^ 62) ≤ j ∧ j < 2 ^ 62 ∧ R (Itr 0 j.toNat) H1
theorem pi_range1 {a : Expr} {ta : TA} {p pos : Pos} (hg : Gl X "range") (hm : X.mg "range" = none) (ha : PA X [a] ta) (hs : starEach [a] X.env = [(false, eval a X.env)] := by rfl) : PI X tg (.Call (.Name "range" p) [a] [] pos) (iRng1 ta) := by
  intro pins s σ H R I h
  refine Call_ (ld_blt I hg hm boot_range (PyProof.Rows.callWith_type1 (thn (ha pos pins s σ H _ I h) fun us s1 ⟨vs, H1, I1, r1, q1⟩ => ?_) hs rfl))
  obtain ⟨j, e, q1, q2, q⟩ := q1
  subst e
  cases r1 with
  | cons r rr =>
    cases rr
    obtain ⟨t, rfl⟩ := r
    exact call_range_1 (range_it I1 (by omega) (by omega) q1 q2 (by simpa using q))
/-! ### for -/
/-- W: the invariant by the turn and a measure; N: what the body is to reach -/
def tFor (wi : TI) (g : TG) (tb : TS) : TS := fun D σ H => wi σ H fun J H1 => ∃ W : Nat → Nat → St → Hp → Prop, (∃ m, W 0 m σ H1) ∧ ∀ i m σ H, W i m σ H →
  (J.stop i H ∧ D.nx σ H) ∨ (J.go i H ∧ ∃ N : St → Hp → Prop, (∀ σ' H', N σ' H' → ∃ m', m' < m ∧ W (i + 1) m' σ' H') ∧ ∀ x H', J.yld i H x H' → g x σ H' fun σ2 H2 => tb { D with nx := N, ct := N, bk := D.nx } σ2 H2)
/-- the records at fp as they stand -/
def pinsAt (fp : List Addr) (h : Heap) : List (Addr × Obj) := fp.filterMap fun b => (h.get? b).map fun o => (b, o)
theorem mem_pinsAt {fp : List Addr} {h : Heap} {b : Addr} {o : Obj} (hb : b ∈ fp) (e : h.get? b = some o) : (b, o) ∈ pinsAt fp h := List.mem_filterMap.mpr ⟨b, hb, by rw [e]; rfl⟩
theorem of_pinsAt {fp : List Addr} {h : Heap} {p : Addr × Obj} (hp : p ∈ pinsAt fp h) : p.1 ∈ fp ∧ h.get? p.1 = some p.2 := by
  obtain ⟨b, hb, e⟩ := List.mem_filterMap.mp hp
  cases q : h.get? b with
  | none => rw [q] at e; cases e
  | some o =>
    rw [q] at e
    have e' : (b, o) = p := Option.some.inj e
    subst e'
    exact ⟨hb, q⟩
theorem Inv.pinned {pins : List (Addr × Obj)} {σ : St} {H : Hp} {s : Shared} {fp : List Addr} (I : Inv X pins σ H s) (hf : ∀ b ∈ fp, FpOk X pins H b) (ho : ∀ b ∈ fp, ∃ o, s.heap.get? b = some o ∧ ∀ v, o.data ≠ .cell v) : Inv X (pins ++ pinsAt fp s.heap) σ H s :=
  I.pins_of fun p hp => (List.mem_append.mp hp).elim (fun z => I.pin p (List.mem_append_right _ z)) fun z => by
    obtain ⟨hb, e⟩ := of_pinsAt z
    obtain ⟨f0, f1, f2, _⟩ := hf p.1 hb
    obtain ⟨o, e', d⟩ := ho p.1 hb
    rw [e] at e'; cases e'
    exact ⟨e, f0, f1, f2, d⟩
theorem Inv.unpinned {pins pl : List (Addr × Obj)} {σ : St} {H : Hp} {s : Shared} (I : Inv X (pins ++ pl) σ H s) : Inv X pins σ H s := I.pins_of fun p hp => I.pin p (List.mem_append_right _ (List.mem_append_left _ hp))
theorem ps_for {iter : Expr} {body : List Stmt} {wi : TI} {g : TG} {tb : TS} {pos : Pos} (hp : PassesOwn (model X.prog X.w) X.A X.env X.xe) (hc : X.calm = true) (hi : PI X tg iter wi) (hg : PG X tg g) (hb : PSs X body tb)
    (hs : ∀ x, foldedSetIterable iter X.env x = pure x := by intro _; rfl) : PS X (.For tg iter body [] pos) (tFor wi g tb) := by
  intro pins s σ H D I h
  refine wpAny_For (thn (hi pins s σ H _ I h) fun v s1 h1 => thn h1 fun itv s2 h2 => ?_) hs
  obtain ⟨it, fp, tn, J, H2, e, I2, T, st2, f2, W, ⟨m0, w0⟩, turn⟩ := h2
  subst e
  -- what stays true of the iterator's objects through the loop
  have stat : ∀ {H' : Hp}, (∀ b ∈ fp, H' b = none) → ∀ b ∈ fp, FpOk X pins H' b := fun hn b hb => ⟨hn b hb, (f2 b hb).2⟩
  refine codeAny_forLoop_any (fun n s' => ∃ i σ' H', Inv X pins σ' H' s' ∧ tn i s'.heap ∧ (∀ b ∈ fp, H' b = none) ∧ W i n σ' H') ?_ m0 ⟨0, σ, H2, I2, st2, fun b hb => (f2 b hb).1, w0⟩
  rintro n s3 ⟨i, σ3, H3, I3, st3, fr3, w3⟩
  rcases turn i n σ3 H3 w3 with ⟨stop, qn⟩ | ⟨go, N, hN, step⟩
  · refine wpAny_passesOwn hp (thn (T.done X rfl rfl rfl hc i pins s3 σ3 H3 X.xe I3 (stat fr3) st3 stop) fun r s4 ⟨hr, I4⟩ => ?_)
    subst hr
    exact wpAny_execs_nil ⟨σ3, H3, I4, qn⟩
  · refine wpAny_passesOwn hp (thn (T.item X rfl rfl rfl hc i pins s3 σ3 H3 X.xe I3 (stat fr3) st3 go) fun r s4 ⟨u, hr, h4⟩ => ?_)
    subst hr
    refine wpAny_passesOwn hp (thn h4 fun _ s5 ⟨x, H5, I5, r5, y5, st5, fr5⟩ => ?_)
    have I5' := I5.pinned (stat fr5) (T.obj _ _ st5)
    refine wpAny_passesOwn hp (thn (hg _ s5 σ3 H5 x u _ I5' r5 (step x H5 y5)) fun _ s6 ⟨σ6, H6, I6, q6⟩ => ?_)
    refine wpAny_passesOwn hp (thn (hb _ s6 σ6 H6 _ I6 q6) fun f s7 q7 => ?_)
    have again : ∀ {σ7 : St} {H7 : Hp}, Inv X (pins ++ pinsAt fp s5.heap) σ7 H7 s7 → N σ7 H7 → ∃ m, m < n ∧ ∃ i σ' H', Inv X pins σ' H' s7 ∧ tn i s7.heap ∧ (∀ b ∈ fp, H' b = none) ∧ W i m σ' H' := fun {σ7 H7} I7 n7 => by
      obtain ⟨m', hm, w7⟩ := hN σ7 H7 n7
      refine ⟨m', hm, i + 1, σ7, H7, I7.unpinned, T.keep _ _ _ st5 fun b hb o e => (I7.pin (b, o) (List.mem_append_right _ (List.mem_append_right _ (mem_pinsAt hb e)))).1, fun b hb => ?_, w7⟩
      obtain ⟨o, e, d⟩ := T.obj _ _ st5 b hb
      exact (I7.pin (b, o) (List.mem_append_right _ (List.mem_append_right _ (mem_pinsAt hb e)))).2.1
    cases f with
    | next => obtain ⟨σ7, H7, I7, n7⟩ := q7; exact again I7 n7
    | cont => obtain ⟨σ7, H7, I7, n7⟩ := q7; exact again I7 n7
    | brk => obtain ⟨σ7, H7, I7, q7⟩ := q7; exact ⟨σ7, H7, I7.unpinned, q7⟩
    | ret v => obtain ⟨x7, σ7, H7, I7, r7, q7⟩ := q7; exact ⟨x7, σ7, H7, I7.unpinned, r7, q7⟩
end

/-! ### the forms one uses -/
/-- over a list that the body leaves as it is -/
theorem for_list {K : PySem.W.Frag} {a : Addr} {xs : List V} {g : TG} {tb : TS} {D : Ends} {σ : St} {H : Hp} (Pv : Nat → St → Hp → Prop) (h0 : Pv 0 σ H) (hl : ∀ i σ H, i ≤ xs.length → Pv i σ H → SqL K H a xs)
    (hs : ∀ i x σ H, xs[i]? = some x → Pv i σ H → g x σ H fun σ2 H2 => tb { D with nx := Pv (i + 1), ct := Pv (i + 1), bk := D.nx } σ2 H2) (hd : ∀ σ H, Pv xs.length σ H → D.nx σ H) :
    ∃ W : Nat → Nat → St → Hp → Prop, (∃ m, W 0 m σ H) ∧ ∀ i m σ H, W i m σ H →
      ((Itl K a).stop i H ∧ D.nx σ H) ∨ ((Itl K a).go i H ∧ ∃ N : St → Hp → Prop, (∀ σ' H', N σ' H' → ∃ m', m' < m ∧ W (i + 1) m' σ' H') ∧ ∀ x H', (Itl K a).yld i H x H' → g x σ H' fun σ2 H2 => tb { D with nx := N, ct := N, bk := D.nx } σ2 H2) := by
  refine ⟨fun i m σ H => m = xs.length - i ∧ i ≤ xs.length ∧ Pv i σ H, ⟨xs.length, by simp, Nat.zero_le _, h0⟩, ?_⟩
  rintro i m σ H ⟨rfl, hi, p⟩
  have q := hl i σ H hi p
  by_cases hlt : i < xs.length
  · refine .inr ⟨⟨xs, xs[i], q, by simp [hlt]⟩, Pv (i + 1), fun σ' H' p' => ⟨xs.length - (i + 1), by omega, rfl, hlt, p'⟩, fun x H' y => ?_⟩
    obtain ⟨e, y⟩ := y
    subst e
    exact hs i x σ _ (y xs q) p
  · have e : i = xs.length := by omega
    subst e
    exact .inl ⟨⟨xs, q, Nat.le_refl _⟩, hd σ H p⟩
theorem for_range {lo : Int} {n : Nat} {g : TG} {tb : TS} {D : Ends} {σ : St} {H : Hp} (Pv : Nat → St → Hp → Prop) (h0 : Pv 0 σ H)
    (hs : ∀ i σ H, i < n → Pv i σ H → g (.int (lo + i)) σ H fun σ2 H2 => tb { D with nx := Pv (i + 1), ct := Pv (i + 1), bk := D.nx } σ2 H2) (hd : ∀ σ H, Pv n σ H → D.nx σ H) :
    ∃ W : Nat → Nat → St → Hp → Prop, (∃ m, W 0 m σ H) ∧ ∀ i m σ H, W i m σ H →
      ((Itr lo n).stop i H ∧ D.nx σ H) ∨ ((Itr lo n).go i H ∧ ∃ N : St → Hp → Prop, (∀ σ' H', N σ' H' → ∃ m', m' < m ∧ W (i + 1) m' σ' H') ∧ ∀ x H', (Itr lo n).yld i H x H' → g x σ H' fun σ2 H2 => tb { D with nx := N, ct := N, bk := D.nx } σ2 H2) := by
  refine ⟨fun i m σ H => m = n - i ∧ i ≤ n ∧ Pv i σ H, ⟨n, by simp, Nat.zero_le _, h0⟩, ?_⟩
  rintro i m σ H ⟨rfl, hi, p⟩
  by_cases hlt : i < n
  · refine .inr ⟨hlt, Pv (i + 1), fun σ' H' p' => ⟨n - (i + 1), by omega, rfl, hlt, p'⟩, fun x H' y => ?_⟩
    obtain ⟨e, y⟩ := y
    subst e y
    exact hs i σ _ hlt p
  · have e : i = n := by omega
    subst e
    exact .inl ⟨Nat.le_refl _, hd σ H p⟩
/-- while, by a word and a measure of the state -/
theorem while_by {c : TT} {tb : TS} {D : Ends} {σ : St} {H : Hp} (Pv : St → Hp → Prop) (μ : St → Hp → Nat) (h0 : Pv σ H)
    (hs : ∀ σ H, Pv σ H → c σ H fun b H1 => if b = true then tb { D with nx := fun σ' H' => Pv σ' H' ∧ μ σ' H' < μ σ H, ct := fun σ' H' => Pv σ' H' ∧ μ σ' H' < μ σ H, bk := D.nx } σ H1 else D.nx σ H1)
    (mono : ∀ σ H Q Q', (∀ b H1, Q b H1 → Q' b H1) → c σ H Q → c σ H Q') : tWhile c tb D σ H := by
  refine ⟨fun m σ H => m = μ σ H ∧ Pv σ H, ⟨_, rfl, h0⟩, ?_⟩
  rintro m σ H ⟨rfl, p⟩
  refine mono σ H _ _ (fun b H1 q => ?_) (hs σ H p)
  cases b with
  | true => exact ⟨_, fun σ' H' ⟨p', l⟩ => ⟨_, l, rfl, p'⟩, q⟩
  | false => exact q
end L2

namespace L2
open PySem PySem.Spec PyProof.Rows

abbrev R2 := V → V → Hp → VK → Prop
/-- a two-place operation on values: f is binaryOp op, inplaceOp op or compareOp op -/
def OpR (X : Cx) (f : Value → Value → Sem Value) (r : R2) : Prop :=
  ∀ (pins : List (Addr × Obj)) (s : Shared) (σ : St) (H : Hp) (x y : V) (v u : Value) (Q : VK), Inv X pins σ H s → RelV x v → RelV y u → r x y H Q →
    wpAny (model X.prog X.w) X.A (f v u) (EP X pins σ Q) X.xe s
/-- a one-place operation -/
def UnR (X : Cx) (f : Value → Sem Value) (r : V → Hp → VK → Prop) : Prop :=
  ∀ (pins : List (Addr × Obj)) (s : Shared) (σ : St) (H : Hp) (x : V) (v : Value) (Q : VK), Inv X pins σ H s → RelV x v → r x H Q →
    wpAny (model X.prog X.w) X.A (f v) (EP X pins σ Q) X.xe s
/-- a call of a value that is known (a builtin, a type) with values -/
def CallR (X : Cx) (f : Value) (r : List V → Hp → VK → Prop) : Prop :=
  ∀ (pins : List (Addr × Obj)) (s : Shared) (σ : St) (H : Hp) (xs : List V) (us : List Value) (Q : VK), Inv X pins σ H s → Vals xs us → r xs H Q →
    wpAny (model X.prog X.w) X.A (call f us) (EP X pins σ Q) X.xe s
def tOp (r : R2) (ta tb : TE) : TE := fun σ H Q => ta σ H fun x H1 => tb σ H1 fun y H2 => r x y H2 Q
def tUn (r : V → Hp → VK → Prop) (ta : TE) : TE := fun σ H Q => ta σ H fun x H1 => r x H1 Q
/-- ints in, under C, and a value out -/
def rI (C : Int → Int → Prop) (g : Int → Int → V) : R2 := fun x y H Q => ∃ i j, x = .int i ∧ y = .int j ∧ C i j ∧ Q (g i j) H
def rI0 (g : Int → Int → V) : R2 := fun x y H Q => ∃ i j, x = .int i ∧ y = .int j ∧ Q (g i j) H
def rU (g : Int → V) : V → Hp → VK → Prop := fun x H Q => ∃ i, x = .int i ∧ Q (g i) H

section
variable {X : Cx} {a b c : Expr} {ta tb tc : TE} {pos : Pos}

theorem binT (ha : PE X a ta) (hb : PE X b tb) {pins : List (Addr × Obj)} {s : Shared} {σ : St} {H : Hp} {R : V → V → Hp → Prop} (I : Inv X pins σ H s)
    (h : ta σ H fun x H1 => tb σ H1 fun y H2 => R x y H2) {Q : Value → Shared → Prop} {f : Value → Value → Sem Value}
    (hf : ∀ v u s2 x y H2, Inv X pins σ H2 s2 → RelV x v → RelV y u → R x y H2 → wpAny (model X.prog X.w) X.A (f v u) Q X.xe s2) :
    wpAny (model X.prog X.w) X.A (eval a X.env) (fun v s₁ => wpAny (model X.prog X.w) X.A (eval b X.env) (fun u s₂ => wpAny (model X.prog X.w) X.A (f v u) Q X.xe s₂) X.xe s₁) X.xe s := by
  refine thn (ha pins s σ H _ I h) fun v s1 ⟨x, H1, I1, r1, q1⟩ => ?_
  refine thn (hb pins s1 σ H1 _ I1 q1) fun u s2 ⟨y, H2, I2, r2, q2⟩ => ?_
  exact hf v u s2 x y H2 I2 r1 r2 q2

theorem pe_op {op : Operator} {r : R2} (ho : OpR X (binaryOp op) r) (ha : PE X a ta) (hb : PE X b tb) : PE X (.BinOp a op b pos) (tOp r ta tb) := by
  intro pins s σ H Q I h
  exact wpAny_BinOp (binT ha hb I h fun v u s2 x y H2 I2 rx ry q => ho pins s2 σ H2 x y v u Q I2 rx ry q)
theorem pe_un {op : UnaryOp} {r : V → Hp → VK → Prop} (ho : UnR X (unaryOp op) r) (ha : PE X a ta) : PE X (.UnaryOp op a pos) (tUn r ta) := by
  intro pins s σ H Q I h
  exact UnaryOp_ (thn (ha pins s σ H _ I h) fun v s1 ⟨x, H1, I1, r1, q1⟩ => ho pins s1 σ H1 x v Q I1 r1 q1)
/-! ### ints -/
theorem opI {f : Value → Value → Sem Value} {C : Int → Int → Prop} {g : Int → Int → Int}
    (rule : ∀ (i j : Int) (t u : Tok) (s : Shared) (Q : Value → Shared → Prop) (E : Value → Shared → Prop), C i j → Q (.int (g i j) s.toks) { s with toks := s.toks + 1 } → wpAny (model X.prog X.w) X.A (f (.int i t) (.int j u)) Q E s) :
    OpR X f (rI C fun i j => .int (g i j)) := by
  intro pins s σ H x y v u Q I rx ry h
  obtain ⟨i, j, rfl, rfl, hc, q⟩ := h
  obtain ⟨t, rfl⟩ := rx
  obtain ⟨t', rfl⟩ := ry
  exact rule i j t t' s _ _ hc ⟨.int (g i j), H, I.tok _, ⟨_, rfl⟩, q⟩
theorem opI0 {f : Value → Value → Sem Value} {g : Int → Int → Int}
    (rule : ∀ (i j : Int) (t u : Tok) (s : Shared) (Q : Value → Shared → Prop) (E : Value → Shared → Prop), Q (.int (g i j) s.toks) { s with toks := s.toks + 1 } → wpAny (model X.prog X.w) X.A (f (.int i t) (.int j u)) Q E s) :
    OpR X f (rI0 fun i j => .int (g i j)) := by
  intro pins s σ H x y v u Q I rx ry h
  obtain ⟨i, j, rfl, rfl, q⟩ := h
  obtain ⟨t, rfl⟩ := rx
  obtain ⟨t', rfl⟩ := ry
  exact rule i j t t' s _ _ ⟨.int (g i j), H, I.tok _, ⟨_, rfl⟩, q⟩
theorem opB0 {f : Value → Value → Sem Value} {g : Int → Int → Bool}
    (rule : ∀ (i j : Int) (t u : Tok) (s : Shared) (Q : Value → Shared → Prop) (E : Value → Shared → Prop), Q (.bool (g i j)) s → wpAny (model X.prog X.w) X.A (f (.int i t) (.int j u)) Q E s) :
    OpR X f (rI0 fun i j => .bl (g i j)) := by
  intro pins s σ H x y v u Q I rx ry h
  obtain ⟨i, j, rfl, rfl, q⟩ := h
  obtain ⟨t, rfl⟩ := rx
  obtain ⟨t', rfl⟩ := ry
  exact rule i j t t' s _ _ ⟨.bl (g i j), H, I, rfl, q⟩

def CPow (i j : Int) : Prop := 0 ≤ j ∧ j ≤ 1000000 ∧ i.natAbs < 2 ^ 64
def CMul (i j : Int) : Prop := (-(2 ^ 64) < i ∧ i < 2 ^ 64) ∨ (-(2 ^ 64) < j ∧ j < 2 ^ 64)
theorem CMul.ok {i j : Int} (h : CMul i j) : IntMulOk i j := by
  rcases h with ⟨h1, h2⟩ | ⟨h1, h2⟩
  · exact .of_left (intBits_le_64 h1 h2)
  · exact .of_right (intBits_le_64 h1 h2)
theorem op_add : OpR X (binaryOp .Add) (rI0 fun i j => .int (i + j)) := opI0 fun _ _ _ _ _ _ _ q => add_int q
theorem op_sub : OpR X (binaryOp .Sub) (rI0 fun i j => .int (i - j)) := opI0 fun _ _ _ _ _ _ _ q => sub_int q
theorem op_mul : OpR X (binaryOp .Mult) (rI CMul fun i j => .int (i * j)) := opI fun _ _ _ _ _ _ _ hc q => mul_int q hc.ok
/-- % by a positive divisor of any size -/
theorem op_mod : OpR X (binaryOp .Mod) (rI (fun _ j => 0 < j) fun i j => .int (i % j)) := opI fun i j _ _ _ _ _ hc q => by
  have h1 : (0 : Int) < j := hc
  exact mod_int' (by omega) (by rw [Int.fmod_eq_emod_of_nonneg i (by omega)]; exact q)
theorem op_pow : OpR X (binaryOp .Pow) (rI CPow fun i j => .int (i ^ j.toNat)) := opI fun _ _ _ _ _ _ _ hc q => pow_int_small hc.1 hc.2.1 hc.2.2 q
theorem unI {f : Value → Sem Value} {g : Int → Int}
    (rule : ∀ (i : Int) (t : Tok) (s : Shared) (Q : Value → Shared → Prop) (E : Value → Shared → Prop), Q (.int (g i) s.toks) { s with toks := s.toks + 1 } → wpAny (model X.prog X.w) X.A (f (.int i t)) Q E s) :
    UnR X f (rU fun i => .int (g i)) := by
  intro pins s σ H x v Q I rx h
  obtain ⟨i, rfl, q⟩ := h
  obtain ⟨t, rfl⟩ := rx
  exact rule i t s _ _ ⟨.int (g i), H, I.tok _, ⟨_, rfl⟩, q⟩
theorem un_neg : UnR X (unaryOp .USub) (rU fun i => .int (-i)) := unI fun _ _ _ _ _ q => neg_int q
/-! ### bools among ints: n += (a < b) -/
end

/-! ### comparisons -/
/-- the scalars that == tells apart as data does -/
def scal : V → V → Bool
  | .non, .non => true | .non, .int _ => true | .int _, .non => true | .non, .bl _ => true | .bl _, .non => true | .non, .str _ => true | .str _, .non => true
  | .int _, .int _ => true | .bl _, .bl _ => true | .str _, .str _ => true | .byt _, .byt _ => true
  | .int _, .str _ => true | .str _, .int _ => true | .bl _, .str _ => true | .str _, .bl _ => true
  | _, _ => false
def rEq : R2 := fun x y H Q => scal x y = true ∧ Q (.bl (decide (x = y))) H
def rNe : R2 := fun x y H Q => scal x y = true ∧ Q (.bl (!decide (x = y))) H

theorem dec_int {i j : Int} : decide (V.int i = V.int j) = (i == j) := by
  rw [Bool.eq_iff_iff]
  simp
theorem dec_bl {i j : Bool} : decide (V.bl i = V.bl j) = (i == j) := by
  rw [Bool.eq_iff_iff]
  simp
theorem dec_str {i j : Str} : decide (V.str i = V.str j) = (i == j) := by
  rw [Bool.eq_iff_iff]
  simp
theorem dec_byt {i j : Array UInt8} : decide (V.byt i = V.byt j) = (i.toList == j.toList) := by
  rw [Bool.eq_iff_iff]
  cases i
  cases j
  simp

section
variable {X : Cx} {a b c : Expr} {ta tb tc : TE} {pos : Pos}
theorem fin_bl {pins : List (Addr × Obj)} {σ : St} {H : Hp} {s : Shared} {Q : VK} {k k' : Bool} (I : Inv X pins σ H s) (q : Q (.bl k) H) (e : k = k') : EP X pins σ Q (.bool k') s := by
  subst e
  exact ⟨.bl k, H, I, rfl, q⟩
theorem op_eq : OpR X (compareOp .Eq) rEq := by
  intro pins s σ H x y v u Q I rx ry h
  obtain ⟨hs, q⟩ := h
  cases x with
  | non =>
    cases rx
    cases y with
    | non => cases ry; exact PySem.EqNone.eq_none_none (fin_bl I q (by simp))
    | bl j => cases ry; exact PySem.EqNone.eq_none_bool (fin_bl I q (by simp))
    | int j => obtain ⟨t', rfl⟩ := ry; exact PySem.EqNone.eq_none_int (fin_bl I q (by simp))
    | str j => obtain ⟨t', rfl⟩ := ry; exact PySem.EqNone.eq_none_str (fin_bl I q (by simp))
    | _ => exact absurd (show false = true from hs) Bool.false_ne_true
  | bl i =>
    cases rx
    cases y with
    | non => cases ry; exact PySem.EqNone.eq_bool_none (fin_bl I q (by simp))
    | bl j => cases ry; exact eq_bool (fin_bl I q dec_bl)
    | str j => obtain ⟨t', rfl⟩ := ry; exact PySem.EqMixed.eq_bool_str (fin_bl I q (by simp))
    | _ => exact absurd (show false = true from hs) Bool.false_ne_true
  | int i =>
    obtain ⟨t, rfl⟩ := rx
    cases y with
    | non => cases ry; exact PySem.EqNone.eq_int_none (fin_bl I q (by simp))
    | int j => obtain ⟨t', rfl⟩ := ry; exact eq_int (fin_bl I q dec_int)
    | str j => obtain ⟨t', rfl⟩ := ry; exact PySem.EqMixed.eq_int_str (fin_bl I q (by simp))
    | _ => exact absurd (show false = true from hs) Bool.false_ne_true
  | str i =>
    obtain ⟨t, rfl⟩ := rx
    cases y with
    | non => cases ry; exact PySem.EqNone.eq_str_none (fin_bl I q (by simp))
    | bl j => cases ry; exact PySem.EqMixed.eq_str_bool (fin_bl I q (by simp))
    | int j => obtain ⟨t', rfl⟩ := ry; exact PySem.EqMixed.eq_str_int (fin_bl I q (by simp))
    | str j => obtain ⟨t', rfl⟩ := ry; exact eq_str (fin_bl I q dec_str)
    | _ => exact absurd (show false = true from hs) Bool.false_ne_true
  | byt i =>
    obtain ⟨t, rfl⟩ := rx
    cases y with
    | byt j => obtain ⟨t', rfl⟩ := ry; exact PySem.W.eq_bytes (fin_bl I q dec_byt)
    | _ => exact absurd (show false = true from hs) Bool.false_ne_true
  | _ => cases y <;> exact absurd (show false = true from hs) Bool.false_ne_true
theorem op_ne : OpR X (compareOp .NotEq) rNe := by
  intro pins s σ H x y v u Q I rx ry h
  obtain ⟨hs, q⟩ := h
  cases x with
  | non =>
    cases rx
    cases y with
    | non => cases ry; exact PySem.EqNone.ne_none_none (fin_bl I q (by simp))
    | bl j => cases ry; exact PySem.EqNone.ne_none_bool (fin_bl I q (by simp))
    | int j => obtain ⟨t', rfl⟩ := ry; exact PySem.EqNone.ne_none_int (fin_bl I q (by simp))
    | str j => obtain ⟨t', rfl⟩ := ry; exact PySem.EqNone.ne_none_str (fin_bl I q (by simp))
    | _ => exact absurd (show false = true from hs) Bool.false_ne_true
  | bl i =>
    cases rx
    cases y with
    | non => cases ry; exact PySem.EqNone.ne_bool_none (fin_bl I q (by simp))
    | bl j => cases ry; exact ne_bool (fin_bl I q (congrArg not dec_bl))
    | str j => obtain ⟨t', rfl⟩ := ry; exact PySem.EqMixed.ne_bool_str (fin_bl I q (by simp))
    | _ => exact absurd (show false = true from hs) Bool.false_ne_true
  | int i =>
    obtain ⟨t, rfl⟩ := rx
    cases y with
    | non => cases ry; exact PySem.EqNone.ne_int_none (fin_bl I q (by simp))
    | int j => obtain ⟨t', rfl⟩ := ry; exact ne_int (fin_bl I q (congrArg not dec_int))
    | str j => obtain ⟨t', rfl⟩ := ry; exact PySem.EqMixed.ne_int_str (fin_bl I q (by simp))
    | _ => exact absurd (show false = true from hs) Bool.false_ne_true
  | str i =>
    obtain ⟨t, rfl⟩ := rx
    cases y with
    | non => cases ry; exact PySem.EqNone.ne_str_none (fin_bl I q (by simp))
    | bl j => cases ry; exact PySem.EqMixed.ne_str_bool (fin_bl I q (by simp))
    | int j => obtain ⟨t', rfl⟩ := ry; exact PySem.EqMixed.ne_str_int (fin_bl I q (by simp))
    | str j => obtain ⟨t', rfl⟩ := ry; exact ne_str (fin_bl I q (congrArg not dec_str))
    | _ => exact absurd (show false = true from hs) Bool.false_ne_true
  | byt i =>
    obtain ⟨t, rfl⟩ := rx
    cases y with
    | byt j => obtain ⟨t', rfl⟩ := ry; exact PySem.W.ne_bytes (fin_bl I q (congrArg not dec_byt))
    | _ => exact absurd (show false = true from hs) Bool.false_ne_true
  | _ => cases y <;> exact absurd (show false = true from hs) Bool.false_ne_true

theorem op_lt : OpR X (compareOp .Lt) (rI0 fun i j => .bl (decide (i < j))) := opB0 fun _ _ _ _ _ _ _ q => lt_int q
theorem op_gt : OpR X (compareOp .Gt) (rI0 fun i j => .bl (decide (j < i))) := opB0 fun _ _ _ _ _ _ _ q => gt_int q
/-- is None, is not None: the right side a value none -/
theorem op_isN : OpR X (compareOp .Is) (fun x y H Q => y = .non ∧ Q (.bl (decide (x = .non))) H) := by
  intro pins s σ H x y v u Q I rx ry h
  obtain ⟨rfl, q⟩ := h
  cases ry
  refine is_none_gen (fin_bl I q ?_)
  cases x <;> first
    | (cases rx; rfl)
    | (obtain ⟨t, rfl⟩ := rx; rfl)
/-- two rules for one operation: by cases -/
theorem OpR.or {f : Value → Value → Sem Value} {r r' : R2} (h : OpR X f r) (h' : OpR X f r') : OpR X f (fun x y H Q => r x y H Q ∨ r' x y H Q) := by
  intro pins s σ H x y v u Q I rx ry q
  rcases q with q | q
  · exact h pins s σ H x y v u Q I rx ry q
  · exact h' pins s σ H x y v u Q I rx ry q

theorem nomark (b : Expr) {op : CmpOp} (h : op ≠ .In := by decide) (h2 : op ≠ .NotIn := by decide) : behindInMarks op b = false := by
  have e1 : (op == CmpOp.In) = false := by cases op <;> first | rfl | exact absurd rfl h
  have e2 : (op == CmpOp.NotIn) = false := by cases op <;> first | rfl | exact absurd rfl h2
  cases b <;> simp [behindInMarks, e1, e2]
/-- a comparison as a value; hm: nomark b, or (for in, not in) by with_unfolding_all rfl -/
theorem pe_cmpR {op : CmpOp} {r : R2} (ho : OpR X (compareOp op) r) (ha : PE X a ta) (hb : PE X b tb) (hm : behindInMarks op b = false) : PE X (.Compare a [op] [b] pos) (tOp r ta tb) := by
  intro pins s σ H Q I h
  exact wpAny_Compare1 (binT ha hb I h fun v u s2 x y H2 I2 rx ry q => ho pins s2 σ H2 x y v u Q I2 rx ry q) hm
/-- a reading of a value as a test -/
def tTest (t : TE) : TT := fun σ H Q => t σ H fun x H' => ∃ k, x = .bl k ∧ Q k H'
theorem pt_cmpR {op : CmpOp} {r : R2} (ho : OpR X (compareOp op) r) (ha : PE X a ta) (hb : PE X b tb) (hm : behindInMarks op b = false) : PT X (.Compare a [op] [b] pos) (tTest (tOp r ta tb)) := by
  intro pins s σ H Q I h
  refine wpAny_isTrue_Compare1 (thn (ha pins s σ H _ I h) fun v s1 ⟨x, H1, I1, r1, q1⟩ => thn (hb pins s1 σ H1 _ I1 q1) fun u s2 ⟨y, H2, I2, r2, q2⟩ =>
    thn (ho pins s2 σ H2 x y v u _ I2 r1 r2 q2) fun c s3 ⟨z, H3, I3, r3, k, e, q3⟩ => ?_) hm
  subst e
  cases r3
  exact wpAny_truthy_bool ⟨H3, I3, q3⟩
/-! ### truth -/
theorem line63 : (sizeLine : Nat) < 2 ^ 63 := by rw [sizeLine_eq]; decide
/-! ### strs and bytes -/
/-! ### scalar builtins, by CallR -/
theorem vals1 {x : V} {us : List Value} (r : Vals [x] us) : ∃ u, us = [u] ∧ RelV x u := by
  cases r with
  | cons r1 r2 => cases r2; exact ⟨_, rfl, r1⟩
theorem vals2 {x y : V} {us : List Value} (r : Vals [x, y] us) : ∃ u w', us = [u, w'] ∧ RelV x u ∧ RelV y w' := by
  cases r with
  | cons r1 r2 =>
    cases r2 with
    | cons r3 r4 => cases r4; exact ⟨_, _, rfl, r1, r3⟩
theorem call_max2 (hc : X.calm = true) : CallR X (.builtin "max") (fun xs H Q => ∃ i j, xs = [.int i, .int j] ∧ Q (.int (if j > i then j else i)) H) := by
  intro pins s σ H xs us Q I r h
  obtain ⟨i, j, rfl, q⟩ := h
  obtain ⟨u, w', rfl, ⟨t, rfl⟩, ⟨t', rfl⟩⟩ := vals2 r
  refine max_two_ints (I.ok.hd hc) fun h' tk k => ⟨_, H, I.kept k, ?_, q⟩
  by_cases hj : j > i
  · rw [if_pos hj, if_pos hj]; exact ⟨_, rfl⟩
  · rw [if_neg hj, if_neg hj]; exact ⟨_, rfl⟩
theorem call_min2 (hc : X.calm = true) : CallR X (.builtin "min") (fun xs H Q => ∃ i j, xs = [.int i, .int j] ∧ Q (.int (if j < i then j else i)) H) := by
  intro pins s σ H xs us Q I r h
  obtain ⟨i, j, rfl, q⟩ := h
  obtain ⟨u, w', rfl, ⟨t, rfl⟩, ⟨t', rfl⟩⟩ := vals2 r
  refine min_two_ints (I.ok.hd hc) fun h' tk k => ⟨_, H, I.kept k, ?_, q⟩
  by_cases hj : j < i
  · rw [if_pos hj, if_pos hj]; exact ⟨_, rfl⟩
  · rw [if_neg hj, if_neg hj]; exact ⟨_, rfl⟩
end
end L2

namespace L2
open PySem PySem.Spec PyProof.Rows

/-! ### an instance, its attributes a map -/
structure ObjM (h : Heap) (x dx C : Addr) (mA : Str → Option Value) : Prop where
  obj : h.get? x = some (PySem.W.instObj C dx)
  ns : h.Ns1 dx mA
  ne : dx ≠ x

theorem lookIn_ns {h : Heap} {dx : Addr} {mA : Str → Option Value} (n : h.Ns1 dx mA) : ∃ od, h.get? dx = some od ∧ ∀ name, PySem.W.lookIn name od = some (mA name) := by
  obtain ⟨o, es, ep, ho, hd, hk, _, hm⟩ := n
  refine ⟨o, ho, fun name => ?_⟩
  have e := hm name
  unfold nsFind findBy at e
  rw [← Array.find?_toList] at e
  unfold PySem.W.lookIn
  rw [hd]
  dsimp only
  split
  · rename_i y q
    rw [q] at e
    exact congrArg some e
  · rename_i q
    rw [q] at e
    have a : es.toList.any (·.refKey) = false := by
      rw [List.any_eq_false]
      intro y hy
      obtain ⟨z, t, hkey⟩ := hk y (Array.mem_toList_iff.mp hy)
      simp [DictEntry.refKey, hkey]
    have a' : ¬ es.toList.any (·.refKey) = true := by rw [a]; exact Bool.false_ne_true
    rw [if_neg a']
    exact congrArg some e

theorem ObjM.look {h : Heap} {x dx C : Addr} {mA : Str → Option Value} (I : ObjM h x dx C mA) : ∃ od, PySem.W.InstAt h x (PySem.W.instObj C dx) C (some od) ∧ ∀ name, PySem.W.lookIn name od = some (mA name) :=
  let ⟨od, ho, hl⟩ := lookIn_ns I.ns
  ⟨od, ⟨I.obj, rfl, rfl, ho⟩, hl⟩

section
variable {prog : Program} {w : World} {A : Around} {E : Value → Shared → Prop} {s : Shared} {K : PySem.W.Frag} {x dx C f : Addr} {mA : Str → Option Value} {name : Str} {v : Value}

end

/-! ### the attributes as a list of pairs -/
theorem RelO.some_of {v : V} {o : Option Value} (r : RelO (some v) o) : ∃ u, o = some u ∧ RelV v u := by
  cases o with
  | none => exact (show False from r).elim
  | some u => exact ⟨u, rfl, r⟩
section
variable {P : Program} {w : World} {H H' : Hp} {h h' : Heap} {a C dx : Addr} {fs fs' : List (Str × V)}
theorem ins_get (hok : HOk P w H h) (e : H a = some (.ins C dx fs)) : ∃ mA, ObjM h a dx C mA ∧ (∀ f, RelO (fs.lookup f) (mA f)) ∧ PySem.Within mA (fs.map (·.1)) ∧ fs.length ≤ 1000 ∧ H dx = some (.own a) := by
  obtain ⟨d, z, ne, ob, mA, n, r, q⟩ := (show ObjOk P w H h a (.ins C dx fs) from hok a _ e)
  exact ⟨mA, ⟨ob, n, ne⟩, r, q, z, d⟩
end

/-! ### what of the text a class must have -/
structure Cls (K : PySem.W.Frag) (C : Addr) : Prop where
  pg : PySem.W.plainGet K C Str.empty = true
  hd : PySem.W.hasDictIn K C = true
  po : PySem.W.plainOver K C = true
  sa : PySem.W.findIn K (.ref C) "__setattr__" = some (some (.builtin "object.__setattr__"))
theorem Cls.get {K : PySem.W.Frag} {C : Addr} (c : Cls K C) (f : Str) : PySem.W.plainGet K C f = true := c.pg
section
variable {X : Cx} {pins : List (Addr × Obj)} {σ : St} {H : Hp} {s : Shared} {a C dx : Addr} {fs : List (Str × V)} {f : Str} {v : V} {A : Around} {E : Value → Shared → Prop}

/-- a new instance, tracked, without attributes -/
theorem Inv.made (I : Inv X pins σ H s) : Inv X pins σ (upd (upd H s.heap.objs.size (.own (s.heap.objs.size + 1))) (s.heap.objs.size + 1) (.ins C s.heap.objs.size []))
    { s with heap := (s.heap.push PySem.W.emptyDict).push (PySem.W.instObj C s.heap.objs.size) } := by
  have e1 : (s.heap.push PySem.W.emptyDict).get? s.heap.objs.size = some PySem.W.emptyDict := Heap.get?_push_size s.heap rfl
  have e2 : ((s.heap.push PySem.W.emptyDict).push (PySem.W.instObj C s.heap.objs.size)).get? (s.heap.objs.size + 1) = some (PySem.W.instObj C s.heap.objs.size) := by
    have := Heap.get?_push_size (s.heap.push PySem.W.emptyDict) (o := PySem.W.instObj C s.heap.objs.size) rfl
    rwa [Heap.size_push] at this
  have e3 : (s.heap.push PySem.W.emptyDict).Ns s.heap.objs.size (fun _ => none) := ⟨PySem.W.emptyDict, #[], _, e1, rfl, (fun e he => absurd he (by simp)), fun _ => rfl⟩
  have I1 := I.laid (a := s.heap.objs.size) (o := .own (s.heap.objs.size + 1)) (h' := s.heap.push PySem.W.emptyDict) (t' := s.toks) (fun b u q => Heap.get?_push_of_some _ q) (Nat.le_refl _) ⟨_, e1⟩
  refine I1.laid (a := s.heap.objs.size + 1) (o := .ins C s.heap.objs.size []) (t' := s.toks) (fun b u q => Heap.get?_push_of_some _ q) (Nat.le_of_eq (Heap.size_push _ _)) ?_
  have ne : s.heap.objs.size ≠ s.heap.objs.size + 1 := Nat.ne_of_lt (Nat.lt_succ_self _)
  refine ⟨by rw [upd_ne ne, upd_same], Nat.zero_le _, ne, e2, fun _ => none, (Heap.Ns1.of_empty e3).at fun o q => Heap.get?_push_of_some _ q, fun _ => True.intro, fun y hy => absurd rfl hy⟩

end

/-! ### readings and rules -/
section
variable {X : Cx} {o e value : Expr} {f : Str} {pos pos' tpos : Pos} {ta tv : TE}
end

/-! ### isinstance -/
section
variable {X : Cx} {pins : List (Addr × Obj)} {σ : St} {H : Hp} {s : Shared} {A : Around} {E : Value → Shared → Prop} {Q : Value → Shared → Prop} {c : Value} {b : Bool}
/-- the type of a value, as the fragment's deciders take it; for an instance its class -/
inductive TyOf (K : PySem.W.Frag) (H : Hp) : V → Value → Prop where
  | non : TyOf K H .non (.type "NoneType")
  | bl (x : Bool) : TyOf K H (.bl x) (.type "bool")
  | int (i : Int) : TyOf K H (.int i) (.type "int")
  | str (x : Str) : TyOf K H (.str x) (.type "str")
  | flt (x : UInt64) : TyOf K H (.flt x) (.type "float")
  | lst {a : Addr} {xs : List V} (e : H a = some (.lst xs)) : TyOf K H (.ref a) (.type "list")
  | frz {a : Addr} {o : Obj} {xs : List V} (e : H a = some (.frz o (.lst xs))) : TyOf K H (.ref a) (.type "list")
  | tup {a : Addr} {xs : List V} (e : H a = some (.tup xs)) : TyOf K H (.ref a) (.type "tuple")
  | dK {a : Addr} {kvs : List (Key × V)} (e : H a = some (.dK kvs)) : TyOf K H (.ref a) (.type "dict")
  | dT {a : Addr} {kvs : List (List Key × V)} (e : H a = some (.dT kvs)) : TyOf K H (.ref a) (.type "dict")
  | ins {a C dx : Addr} {fs : List (Str × V)} (e : H a = some (.ins C dx fs)) (cl : Cls K C) (ha : PySem.W.findIn K (.ref C) "__class__" = some (some (.builtin "object.__class__")))
      (hn : PySem.W.specialIn K (.builtin "object.__class__") "__get__" = some (some (.builtin "getset_descriptor.__get__"))) (htk : PySem.W.takesIn K (.builtin "object.__class__") = some true)
      (hm : PySem.W.mroIn K C (.type "object") = some true) : TyOf K H (.ref a) (.ref C)
/-- isinstance(x, c) for one class c, a built-in or an own one: kitOne's answer -/
theorem isinst_ok {x : V} {u t : Value} (I : Inv X pins σ H s) (rx : RelV x u) (ty : TyOf X.K H x t) (e : PySem.W.kitOne X.K t c = some b) (h : ∀ tk, Q (.bool b) { s with toks := tk }) :
    wpAny (model X.prog X.w) A (call (.builtin "isinstance") [u, c]) Q E s := by
  cases ty with
  | non => cases (show u = Value.none from rx); exact PySem.W.kia_one PySem.W.kitx_none I.kIn True.intro e (fun z => nomatch z) h
  | bl y => cases (show u = Value.bool y from rx); exact PySem.W.kia_one PySem.W.kitx_bool I.kIn True.intro e (fun z => nomatch z) h
  | int i => obtain ⟨t, q⟩ := (show ∃ t, u = Value.int i t from rx); cases q; exact PySem.W.kia_one PySem.W.kitx_int I.kIn True.intro e (fun z => nomatch z) h
  | str y => obtain ⟨t, q⟩ := (show ∃ t, u = Value.str y t from rx); cases q; exact PySem.W.kia_one PySem.W.kitx_str I.kIn True.intro e (fun z => nomatch z) h
  | flt y => obtain ⟨t, q⟩ := (show ∃ t, u = Value.float y t from rx); cases q; exact PySem.W.kia_one PySem.W.kitx_float I.kIn True.intro e (fun z => nomatch z) h
  | @lst a xs ea =>
    cases (show u = Value.ref a from rx)
    obtain ⟨_, _, n, _, h1⟩ := (show ObjOk X.prog X.w H s.heap a (.lst xs) from I.hok a _ ea)
    exact PySem.W.kia_one PySem.W.kitx_list I.kIn ⟨_, h1, rfl⟩ e (fun z => nomatch z) h
  | @frz a ob xs ea =>
    cases (show u = Value.ref a from rx)
    obtain ⟨_, _, _, n, _, h1⟩ := (show ObjOk X.prog X.w H s.heap a (.frz ob (.lst xs)) from I.hok a _ ea)
    exact PySem.W.kia_one PySem.W.kitx_list I.kIn ⟨_, h1, rfl⟩ e (fun z => nomatch z) h
  | @tup a xs ea =>
    cases (show u = Value.ref a from rx)
    obtain ⟨_, _, _, p⟩ := (show ObjOk X.prog X.w H s.heap a (.tup xs) from I.hok a _ ea)
    obtain ⟨o, h1, h2, _⟩ := p
    exact PySem.W.kia_one PySem.W.kitx_tuple I.kIn ⟨o, h1, h2⟩ e (fun z => nomatch z) h
  | @dK a kvs ea =>
    cases (show u = Value.ref a from rx)
    obtain ⟨_, _, vs, _, p⟩ := (show ObjOk X.prog X.w H s.heap a (.dK kvs) from I.hok a _ ea)
    obtain ⟨o, es, ep, h1, h2, _⟩ := p
    exact PySem.W.kia_one PySem.W.kitx_dict I.kIn ⟨o, h1, h2.1⟩ e (fun z => nomatch z) h
  | @dT a kvs ea =>
    cases (show u = Value.ref a from rx)
    obtain ⟨_, _, xs, _, o, es, ep, h1, h2, _⟩ := (show ObjOk X.prog X.w H s.heap a (.dT kvs) from I.hok a _ ea)
    exact PySem.W.kia_one PySem.W.kitx_dict I.kIn ⟨o, h1, h2.1⟩ e (fun z => nomatch z) h
  | @ins a C dx fs ea cl ha hn htk hm =>
    cases (show u = Value.ref a from rx)
    obtain ⟨mA, O, _⟩ := ins_get I.hok ea
    obtain ⟨od, J, _⟩ := O.look
    exact PySem.W.kia_one (PySem.W.kitx_own (cl.get _) cl.hd ha hn htk hm) I.kIn J e (fun z => nomatch z) h
end
end L2

namespace L2
open PySem PySem.Spec PyProof.Rows

/-! ### room -/
structure Room (k : Nat) (A : Around) : Prop where
  hd : A.handled = none
  dp : A.depth + 3 * k + 5 < recursionLimit
  un : A.units + 16 * k + 200 < cLine
theorem Room.mono {j k : Nat} {A : Around} (r : Room k A) (h : j ≤ k) : Room j A := ⟨r.hd, by have := r.dp; omega, by have := r.un; omega⟩
theorem Room.deeper {k : Nat} {A : Around} (r : Room (k + 1) A) (env : Env) : Room k (A.deeper env) :=
  ⟨r.hd, by have := r.dp; show A.depth + 1 + 3 * k + 5 < _; omega, by have := r.un; show A.units + 3 + 16 * k + 200 < _; omega⟩
theorem Room.in1 {k : Nat} {A : Around} (r : Room (k + 1) A) : Room k A.in1 :=
  ⟨r.hd, by have := r.dp; show A.depth + 3 * k + 5 < _; omega, by have := r.un; show A.units + 1 + 16 * k + 200 < _; omega⟩
theorem Room.depth {k : Nat} {A : Around} (r : Room k A) : A.depth < recursionLimit := by have := r.dp; omega
theorem Room.units {k : Nat} {A : Around} (r : Room k A) : A.units + 64 < cLine := by have := r.un; omega
/-! ### argument lists and displays -/
def tNil : TA := fun _ H Q => Q [] H
def tCons (ta : TE) (tr : TA) : TA := fun σ H Q => ta σ H fun x H1 => tr σ H1 fun xs H2 => Q (x :: xs) H2
section
variable {X : Cx} {e : Expr} {es : List Expr} {te : TE} {t : TA} {pos : Pos}
theorem pa_nil : PA X [] tNil := fun _ _ _ _ H Q I h => Calls.spliced_nil ⟨[], H, I, .nil, h⟩
theorem pa_cons (ha : PE X e te) (hr : PA X es t) (hs : starEach (e :: es) X.env = (false, eval e X.env) :: starEach es X.env := by rfl) : PA X (e :: es) (tCons te t) := by
  intro pos pins s σ H Q I h
  rw [hs]
  show wpAny _ _ (spliced ((false, eval e X.env) :: backTo pos (starEach es X.env))) _ _ s
  refine Calls.spliced_cons (thn (ha pins s σ H _ I h) fun u s1 ⟨x, H1, I1, r1, q1⟩ => ?_)
  exact thn (hr pos pins s1 σ H1 _ I1 q1) fun us s2 ⟨xs, H2, I2, r2, q2⟩ => ⟨x :: xs, H2, I2, .cons r1 r2, q2⟩

/-- a tuple, a list of written items -/
def tTup (t : TA) : TE := fun σ H Q => t σ H fun xs H1 => xs.length ≤ sizeLine ∧ ∀ p, H1 p = none → Q (.ref p) (upd H1 p (.tup xs))
def tLst (t : TA) : TE := fun σ H Q => t σ H fun xs H1 => xs.length ≤ sizeLine ∧ ∀ p, H1 p = none → Q (.ref p) (upd H1 p (.lst xs))
theorem pe_tup {x1} (h : PA X es t) : PE X (.Tuple es x1 pos) (tTup t) := by
  intro pins s σ H Q I hq
  refine wpAny_Tuple_spliced (thn (h pos pins s σ H _ I hq) fun us s1 ⟨xs, H1, I1, r, z, q⟩ => ⟨by rw [← r.length]; exact z, ?_⟩)
  have hf : H1 s1.heap.objs.size = none := I1.hok.fresh (Nat.le_refl _)
  refine ⟨.ref s1.heap.objs.size, upd H1 s1.heap.objs.size (.tup xs), I1.laid (t' := s1.toks) (fun b u e => Heap.get?_push_of_some _ e) (Nat.le_refl _) ?_, rfl, q _ hf⟩
  exact ⟨z, us, r, ⟨_, Heap.get?_push_size _ rfl, rfl, _, rfl⟩⟩
theorem pe_lst (h : PA X es t) : PE X (.List es pos) (tLst t) := by
  intro pins s σ H Q I hq
  refine wpAny_List_spliced (thn (h pos pins s σ H _ I hq) fun us s1 ⟨xs, H1, I1, r, z, q⟩ => ⟨by rw [← r.length]; exact z, ?_⟩)
  have hf : H1 s1.heap.objs.size = none := I1.hok.fresh (Nat.le_refl _)
  refine ⟨.ref s1.heap.objs.size, upd H1 s1.heap.objs.size (.lst xs), I1.laid (t' := s1.toks) (fun b u e => Heap.get?_push_of_some _ e) (Nat.le_refl _) ?_, rfl, q _ hf⟩
  exact ⟨z, us, 0, r, Heap.get?_push_size _ rfl⟩
end

/-! ### what a def promises -/
/-- a def's promise: the bound arguments in the parameters' order, the heap, the wanted end, the wanted exception -/
abbrev Sp := List V → Hp → VK → XK → Prop
/-- how an exception lies behind a call (file 08 gives it): the callers' frames, abstract heap and state ahead of the call, the wish, the exception, the state -/
abbrev CXT := List Env → Hp → Shared → XK → Value → Shared → Prop

/-- the state at a call -/
structure Env0 (P : Program) (w : World) (K : PySem.W.Frag) (mg : Str → Option Value) (base : Heap) (A : Around) (outer : List Env) (s : Shared) (H : Hp) : Prop where
  frames : A.frames = some outer
  mod : Mod K mg base
  bs : ∀ b o, base.get? b = some o → s.heap.get? b = some o ∧ H b = none
  bsz : base.objs.size ≤ s.heap.objs.size
  funs : s.heap.FunFrames base outer
  frf : ∀ b ∈ frs outer, H b = none
  hok : HOk P w H s.heap
  bare : AllBare s.gens
/-- a call's end -/
def CE (outer : List Env) (P : Program) (w : World) (H : Hp) (s : Shared) (Q : VK) (u : Value) (s' : Shared) : Prop :=
  ∃ v H', s'.os = s.os ∧ AllBare s'.gens ∧ Un (frs outer) [] H H' s.heap s'.heap ∧ HOk P w H' s'.heap ∧ RelV v u ∧ Q v H'
def CR (CX : CXT) (outer : List Env) (P : Program) (w : World) (H : Hp) (s : Shared) (Q : VK) (E : XK) (r : Result) (s' : Shared) : Prop :=
  match r with
  | .ok (.ret u) => CE outer P w H s Q u s'
  | .ok _ => False
  | .error e => CX outer H s E e s'
structure FnOk (P : Program) (w : World) (K : PySem.W.Frag) (mg : Str → Option Value) (base : Heap) (CX : CXT) (k : Nat) (f : Addr) (fd : FuncData) (ps : List Str) (sp : Sp) : Prop where
  len : ∀ vs H Q E, sp vs H Q E → vs.length = ps.length
  run : ∀ (A : Around) (outer : List Env) (s : Shared) (H : Hp) (args : Args) (us : List Value) (vs : List V) (Q : VK) (E : XK), Room k A → Env0 P w K mg base A outer s H → BindsTo s fd args (ps.zip us) → Vals vs us → sp vs H Q E →
    codeAny (model P w) A (.call (.ref f) args) (CR CX outer P w H s Q E) s
theorem FnOk.mono {P : Program} {w : World} {K : PySem.W.Frag} {mg : Str → Option Value} {base : Heap} {CX : CXT} {j k : Nat} {f : Addr} {fd : FuncData} {ps : List Str} {sp : Sp} (F : FnOk P w K mg base CX j f fd ps sp) (h : j ≤ k) :
    FnOk P w K mg base CX k f fd ps sp := ⟨F.len, fun A outer s H args us vs Q E hr => F.run A outer s H args us vs Q E (hr.mono h)⟩
theorem Env0.in1 {P : Program} {w : World} {K : PySem.W.Frag} {mg : Str → Option Value} {base : Heap} {A : Around} {outer : List Env} {s : Shared} {H : Hp} (e : Env0 P w K mg base A outer s H) :
    Env0 P w K mg base A.in1 outer s H := ⟨e.frames, e.mod, e.bs, e.bsz, e.funs, e.frf, e.hok, e.bare⟩

section
variable {X : Cx} {pins : List (Addr × Obj)} {σ : St} {H : Hp} {s s' : Shared}
/-- from a body: what a callee wants -/
theorem Inv.env0 (I : Inv X pins σ H s) : Env0 X.prog X.w X.K X.mg X.base X.A X.stack s H :=
  ⟨I.ok.frames, I.ok.mod, I.bs, Nat.le_trans I.ok.bsz I.sz, I.stack, I.stkFree, I.hok, I.bare⟩
/-- behind a call -/
theorem Inv.after {Q : VK} {u : Value} (I : Inv X pins σ H s) (h : CE X.stack X.prog X.w H s Q u s') : EP X pins σ Q u s' := by
  obtain ⟨v, H', os, bare, un, hok, r, q⟩ := h
  obtain ⟨hh, g, d, t, os'⟩ := s'
  obtain rfl : os' = s.os := os
  exact ⟨v, H', I.call (h' := hh) (g' := g) (d' := d) (t' := t) (ch := []) un hok bare (fun b z => absurd z (by simp)), r, q⟩
end

/-! ### calls -/
/-- f(..): the written arguments, then the defaults dvs; E: what is wanted of an exception -/
def tCall (sp : Sp) (dvs : List V) (E : XK) (t : TA) : TE := fun σ H Q => t σ H fun vs H1 => sp (vs ++ dvs) H1 Q E
/-- how the parameters are bound: us the positional arguments, kw the keywords' values by name, ds the defaults that fill up -/
def Binds (K : PySem.W.Frag) (fd : FuncData) (ps : List Str) (ds : List Value) : Prop :=
  ∀ (s : Shared) (us : List Value), K.In s.heap → (us ++ ds).length = ps.length → BindsTo s fd ⟨us, []⟩ (ps.zip (us ++ ds))
/-- every parameter is given -/
theorem Binds.all {K : PySem.W.Frag} {fd : FuncData} {ps : List Str} (h : ∀ us : List Value, us.length = ps.length → bindArgs fd ⟨us, []⟩ = pure (ps.zip us)) : Binds K fd ps [] := fun s us _ hl => by
  rw [List.append_nil] at hl ⊢
  exact .of_eq (h us hl)

/-- an exception of a callee reaches what this body wants of exceptions -/
def Passes (CX : CXT) (X : Cx) (E : XK) : Prop := ∀ (pins : List (Addr × Obj)) (σ : St) (H : Hp) (s : Shared) (e : Value) (s' : Shared), Inv X pins σ H s → CX X.stack H s E e s' → X.xe e s'

section
variable {X : Cx} {CX : CXT} {k : Nat} {f C : Addr} {fd : FuncData} {ps : List Str} {sp : Sp} {dvs : List V} {ds : List Value} {E : XK} {x m : Str} {p pos apos : Pos} {e o : Expr} {es : List Expr} {ta : TE} {t : TA}

/-- the callee runs -/
theorem run_fn {pins : List (Addr × Obj)} {σ : St} {H : Hp} {s : Shared} {Q : VK} {us : List Value} {vs : List V} (F : FnOk X.prog X.w X.K X.mg X.base CX k f fd ps sp) (hr : Room k X.A) (hb : Binds X.K fd ps ds) (hd : Vals dvs ds) (hx : Passes CX X E)
    (I : Inv X pins σ H s) (r : Vals vs us) (h : sp (vs ++ dvs) H Q E) : wpAny (model X.prog X.w) X.A (call (.ref f) us) (EP X pins σ Q) X.xe s := by
  have r2 : Vals (vs ++ dvs) (us ++ ds) := r.append hd
  have hl : (us ++ ds).length = ps.length := by rw [← r2.length]; exact F.len _ _ _ _ h
  refine wpAny_call (codeAny_mono (F.run X.A X.stack s H ⟨us, []⟩ (us ++ ds) (vs ++ dvs) Q E hr I.env0 (hb s us I.kIn hl) r2 h) fun r s' hq => ?_)
  cases r with
  | error e => exact hx pins σ H s e s' I hq
  | ok fl =>
    cases fl with
    | ret u => exact I.after hq
    | next => exact False.elim hq
    | brk => exact False.elim hq
    | cont => exact False.elim hq

theorem pe_call (F : FnOk X.prog X.w X.K X.mg X.base CX k f fd ps sp) (hr : Room k X.A) (hg : Gl X x) (hm : X.mg x = some (.ref f)) (hk : PySem.W.keepIn X.K (.ref f) = true) (hb : Binds X.K fd ps ds) (hd : Vals dvs ds) (hx : Passes CX X E)
    (ha : PA X (e :: es) t) (hdb : (x == ("__debug__" : Str)) = false := by decide) (he : starEach (e :: es) X.env = (false, eval e X.env) :: starEach es X.env := by rfl) (hpl : (backTo pos (starEach es X.env)).any (·.1) = false := by rfl) :
    PE X (.Call (.Name x p) (e :: es) [] pos) (tCall sp dvs E t) := by
  intro pins s σ H Q I h
  refine wpAny_Call_Name_kw (ld_glob I hg hm ?_ hdb)
  refine PySem.W.callWith_K (h₀ := X.base) I.ok.mod.kin hk (thn (ha pos pins s σ H _ I h) fun us s1 ⟨vs, H1, I1, r, q⟩ => ⟨I1.kIn, ?_⟩) he hpl
  exact run_fn F hr hb hd hx I1 r q
end

/-! ### keywords -/
section
variable {X : Cx} {CX : CXT} {k : Nat} {f C : Addr} {fd : FuncData} {ps ks : List Str} {sp : Sp} {E : XK} {x m : Str} {p pos apos kpos : Pos} {e o : Expr} {es : List Expr} {kws : List Keyword} {te ta : TE} {t tk : TA} {nm : Option Str}
variable {g : List Value → List Value → List Value} {gV : List V → List V → List V}
end

/-! ### a def's body keeps its promise -/
/-- names: the parameters first -/
structure FnScope (N P : List Str) (sc : Scope) : Prop where
  kind : sc.kind = .function
  co : sc.isCoroutine = false
  gen : sc.isGenerator = false
  nd : N.Nodup
  pre : N.take P.length = P
  par : ∀ x ∈ P, sc.names.lookup x = some .local ∨ sc.names.lookup x = some .cell
  nofree : ∀ y ∈ sc.names, y.2 ≠ .free

theorem bindL_out {kindOf : Str → Option NameKind} {x : Str} : ∀ {binds : List (Str × Value)} {m : Str → Option Value}, (∀ v, (x, v) ∉ binds) → bindL kindOf binds m x = m x
  | [], _, _ => rfl
  | (n, v) :: r, m, h => by
    unfold bindL
    rw [bindL_out fun w hw => h w (List.mem_cons_of_mem _ hw)]
    split
    · have : x ≠ n := by rintro rfl; exact h v List.mem_cons_self
      simp [this]
    · rfl
theorem bindC_out {kindOf : Str → Option NameKind} {x : Str} : ∀ {binds : List (Str × Value)} {m : Str → Option Value}, (∀ v, (x, v) ∉ binds) → bindC kindOf binds m x = m x
  | [], _, _ => rfl
  | (n, v) :: r, m, h => by
    unfold bindC
    rw [bindC_out fun w hw => h w (List.mem_cons_of_mem _ hw)]
    split
    · rfl
    · have : x ≠ n := by rintro rfl; exact h v List.mem_cons_self
      simp [this]
theorem bindL_get {kindOf : Str → Option NameKind} {x : Str} {v : Value} : ∀ {P : List Str} {vs : List Value} {i : Nat} {m : Str → Option Value}, P.Nodup → P[i]? = some x → vs[i]? = some v → kindOf x = some .local →
    bindL kindOf (P.zip vs) m x = some v
  | [], _, _, _, _, h, _, _ => by simp at h
  | _ :: _, [], _, _, _, _, h, _ => by simp at h
  | p :: P, w :: vs, 0, m, nd, h1, h2, hk => by
    simp at h1 h2; subst h1; subst h2
    show bindL kindOf ((p, w) :: P.zip vs) m p = _
    unfold bindL
    rw [bindL_out fun v hv => (List.nodup_cons.mp nd).1 (List.of_mem_zip hv).1, if_pos hk]
    simp
  | p :: P, w :: vs, i + 1, m, nd, h1, h2, hk => by
    show bindL kindOf ((p, w) :: P.zip vs) m x = _
    unfold bindL
    exact bindL_get (i := i) (List.nodup_cons.mp nd).2 (by simpa using h1) (by simpa using h2) hk
theorem bindC_get {kindOf : Str → Option NameKind} {x : Str} {v : Value} : ∀ {P : List Str} {vs : List Value} {i : Nat} {m : Str → Option Value}, P.Nodup → P[i]? = some x → vs[i]? = some v → kindOf x ≠ some .local →
    bindC kindOf (P.zip vs) m x = some v
  | [], _, _, _, _, h, _, _ => by simp at h
  | _ :: _, [], _, _, _, _, h, _ => by simp at h
  | p :: P, w :: vs, 0, m, nd, h1, h2, hk => by
    simp at h1 h2; subst h1; subst h2
    show bindC kindOf ((p, w) :: P.zip vs) m p = _
    unfold bindC
    rw [bindC_out fun v hv => (List.nodup_cons.mp nd).1 (List.of_mem_zip hv).1, if_neg hk]
    simp
  | p :: P, w :: vs, i + 1, m, nd, h1, h2, hk => by
    show bindC kindOf ((p, w) :: P.zip vs) m x = _
    unfold bindC
    exact bindC_get (i := i) (List.nodup_cons.mp nd).2 (by simpa using h1) (by simpa using h2) hk

/-- the names' values at the entry -/
def start (N : List Str) (vs : List V) : St := vs.map some ++ List.replicate (N.length - vs.length) none

/-- the context of a def's body, at its entry; an exception leaves the frame, then lies as CX says -/
def cxOf (CX : CXT) (P : Program) (w : World) (K : PySem.W.Frag) (mg : Str → Option Value) (base : Heap) (N : List Str) (qual : Str) (scope : Scope) (f : Addr) (cd : Value) (A : Around) (outer : List Env) (s : Shared) (H : Hp) (E : XK) : Cx where
  prog := P
  w := w
  K := K
  mg := mg
  base := base
  A := A.deeper (envOfC qual scope s.heap.objs.size f cd)
  N := N
  s₀ := s
  H₀ := H
  env := envOfC qual scope s.heap.objs.size f cd
  outer := outer
  stack := envOfC qual scope s.heap.objs.size f cd :: outer
  ex := []
  calm := true
  fn := fun _ => true
  pn := []
  xe := fun e s' => wpAny (model P w) (A.deeper (envOfC qual scope s.heap.objs.size f cd)) (leaving (envOfC qual scope s.heap.objs.size f cd) e) (fun _ s'' => CX outer H s E e s'') (fun e' s'' => CX outer H s E e' s'') s'

theorem cell_has {sc : Scope} {n : Nat} {x : Str} (h : sc.names.lookup x = some .cell) : ∃ c, (cellsFrom n sc.names []).lookup x = some c := by
  have q := PySem.W.cellsFrom_some sc.names n [] (.inl h)
  exact Option.isSome_iff_exists.mp q

theorem inv_start {CX : CXT} {P : Program} {w : World} {K : PySem.W.Frag} {mg : Str → Option Value} {base : Heap} {N ps : List Str} {qual : Str} {scope : Scope} {f : Addr} {cd : Value} {A : Around} {outer : List Env} {s s1 : Shared} {H : Hp} {E : XK} {us : List Value} {vs : List V}
    (S : FnScope N ps scope) (hd : A.handled = none) (e0 : Env0 P w K mg base A outer s H) (hl : vs.length = ps.length) (r : Vals vs us)
    (x : InCallC s s.heap.objs.size (bindL (envOfC qual scope s.heap.objs.size f cd).kindOf (ps.zip us) fun _ => none) (cellsFrom (s.heap.objs.size + 1) scope.names []) (bindC (envOfC qual scope s.heap.objs.size f cd).kindOf (ps.zip us) fun _ => none) s1) :
    Inv (cxOf CX P w K mg base N qual scope f cd A outer s H E) [] (start N vs) H s1 := by
  have hpl : ps.length ≤ N.length := by have := congrArg List.length S.pre; rw [List.length_take] at this; omega
  obtain ⟨h1, tk, rfl, hk⟩ := x.done
  have noA : ∀ b : Addr, b ∉ (cxOf CX P w K mg base N qual scope f cd A outer s H E).ex := fun b z => absurd (show b ∈ ([] : List Addr) from z) (by simp)
  refine ⟨⟨e0.mod, S.kind, rfl, rfl, Nat.le_refl _, fun y z c h1 h2 => ?_, fun y hy => ?_, fun y c _ h => ?_, fun _ => hd, Around.frames_deeper e0.frames, .inr ⟨rfl, rfl⟩, fun b z => absurd z (noA b), e0.bs, e0.bsz, fun b _ _ => noA b, fun b z => absurd z (noA b), e0.funs, e0.frf⟩,
    rfl, e0.bare, Un.kept hk, ⟨_, x.toInCall.ns, fun i y v h1 h2 h3 => ?_⟩, fun y c h => ⟨_, x.cell y c h⟩, e0.hok.fresh (Nat.le_refl _), fun y c h => ?_, fun p hp => absurd (show p ∈ ([] : List (Addr × Obj)) from hp) (by simp), e0.hok.kept hk, ?_⟩
  · exact name_of_addr x.apart (PySem.mem_of_lookup h1) (PySem.mem_of_lookup h2)
  · have hy : scope.names.lookup y = some .cell ∨ scope.names.lookup y = some .free := hy
    rcases hy with hy | hy
    · exact cell_has hy
    · exact absurd rfl (S.nofree _ (PySem.mem_of_lookup hy))
  · exact Nat.le_of_lt (x.above y c (PySem.mem_of_lookup h))
  · have hi : i < vs.length := by
      unfold start at h2
      by_cases hi : i < vs.length
      · exact hi
      · rw [List.getElem?_append_right (by simpa using hi)] at h2
        rw [List.getElem?_replicate] at h2
        split at h2 <;> cases h2
    have ha : vs[i]? = some v := by
      unfold start at h2
      rw [List.getElem?_append_left (by simpa using hi), List.getElem?_map] at h2
      cases e : vs[i]? with
      | none => rw [e] at h2; cases h2
      | some a => rw [e] at h2; cases h2; rfl
    obtain ⟨u, hu, rv⟩ := r.get ha
    have hp : ps[i]? = some y := by
      rw [← S.pre, List.getElem?_take_of_lt (by omega)]; exact h1
    have ndP : ps.Nodup := by rw [← S.pre]; exact S.nd.sublist (List.take_sublist _ _)
    refine ⟨u, rv, ?_⟩
    rcases S.par y (List.mem_of_getElem? hp) with k | k
    · exact .inl ⟨k, bindL_get ndP hp hu k⟩
    · obtain ⟨c, e⟩ := cell_has (n := s.heap.objs.size + 1) k
      refine .inr ⟨.inl k, c, e, ?_⟩
      have q := x.cell y c e
      rw [bindC_get ndP hp hu (by show scope.names.lookup y ≠ _; rw [k]; decide)] at q
      exact q
  · exact e0.hok.fresh (Nat.le_of_lt (x.above y c (PySem.mem_of_lookup h)))
  · unfold start
    show _ = N.length
    rw [List.length_append, List.length_map, List.length_replicate]
    omega

/-- THE RULE: a def (or a method) of the text, by its body. The body's reading t is chosen for each entry; it is run at the parameters' values -/
theorem fn_of {CX : CXT} {P : Program} {w : World} {K : PySem.W.Frag} {mg : Str → Option Value} {base : Heap} {k : Nat} {f : Addr} {name qual : Str} {params : Arguments} {body : List Stmt} {scope : Scope} {dV kV doc pm cdv ct oc : Value} {an od : Option Addr}
    {osl : Array (Option Value)} {N ps : List Str} {sp : Sp} (lk : K.lookup f = some ⟨oc, od, .func (PySem.W.fnOf name qual params body scope dV kV doc pm an cdv ct), osl⟩) (hcd : PySem.W.codeIn K cdv qual = true) (S : FnScope N ps scope)
    (len : ∀ vs H Q E, sp vs H Q E → vs.length = ps.length)
    (hbody : ∀ (A : Around) (outer : List Env) (s : Shared) (H : Hp) (vs : List V) (Q : VK) (E : XK), Room k (A.deeper (envOfC qual scope s.heap.objs.size f cdv)) → sp vs H Q E →
      ∃ t, PSs (cxOf CX P w K mg base N qual scope f cdv A outer s H E) body t ∧ t { nx := fun _ H' => Q .non H', rt := Q } (start N vs) H) :
    FnOk P w K mg base CX (k + 1) f (PySem.W.fnOf name qual params body scope dV kV doc pm an cdv ct) ps sp := by
  refine ⟨len, fun A outer s H args us vs Q E hr e0 hb r hsp => ?_⟩
  have hl := len _ _ _ _ hsp
  have KX : K.In s.heap := e0.mod.kin.keeps fun b o e => (e0.bs b o e).1
  have lim : s.heap.NoLimit := e0.mod.nolimit.keeps fun b o e => (e0.bs b o e).1
  have hkind : ∀ y ∈ ps.zip us, scope.names.lookup y.1 = some .local ∨ (scope.names.lookup y.1 = some .cell ∧ ((cellsFrom (s.heap.objs.size + 1) scope.names []).lookup y.1).isSome = true) := fun ⟨n, v⟩ hy => by
    rcases S.par n (List.of_mem_zip hy).1 with q | q
    · exact .inl q
    · exact .inr ⟨q, PySem.W.cellsFrom_some _ _ _ (.inl q)⟩
  refine codeAny_call_function hr.depth (KX _ _ lk) rfl S.co S.gen rfl (PySem.W.codeRec_of KX hcd) (hb _ _ _ _ ?_)
  refine wpAny_newFunctionEnv_cells S.kind hkind fun env he s1 x => ?_
  subst he
  refine ⟨lim.keeps x.toInCall.keep, codeAny_func ?_⟩
  obtain ⟨t, ht, hq⟩ := hbody A outer s H vs Q E (hr.deeper _) hsp
  have I : Inv (cxOf CX P w K mg base N qual scope f cdv A outer s H E) [] (start N vs) H s1 := inv_start S hr.hd e0 hl r x
  refine wpAny_mono (ht [] s1 (start N vs) H _ I hq) (fun fl s' hs => ?_) fun e s' hs => hs
  have fin : ∀ {σ' : St} {H' : Hp} {v : V} {u : Value}, Inv (cxOf CX P w K mg base N qual scope f cdv A outer s H E) [] σ' H' s' → RelV v u → Q v H' → CE outer P w H s Q u s' :=
    fun {σ' H' v u} J rv q => ⟨v, H', J.os, J.bare, J.base, J.hok, rv, q⟩
  cases fl with
  | ret u =>
    obtain ⟨v, σ', H', J, rv, q⟩ := hs
    exact fin J rv q
  | next =>
    obtain ⟨σ', H', J, q⟩ := hs
    exact fin (v := V.non) (u := Value.none) J rfl q
  | brk =>
    obtain ⟨_, _, _, q⟩ := hs
    exact False.elim q
  | cont =>
    obtain ⟨_, _, _, q⟩ := hs
    exact False.elim q
end L2

namespace L2
open PySem PySem.Spec PyProof.Rows
section
variable {X : Cx} {x : Str} {p pos : Pos} {e : Expr} {es : List Expr} {t : TA} {id T : String} {r : List V → Hp → VK → Prop}

def tCB (r : List V → Hp → VK → Prop) (t : TA) : TE := fun σ H Q => t σ H fun vs H1 => r vs H1 Q
/-- f(e, ..), f a built-in function -/
theorem pe_callB (hc : CallR X (.builtin id) r) (hg : Gl X x) (hm : X.mg x = none) (hv : bootBuiltins x = some (.builtin id)) (ha : PA X (e :: es) t) (hn : x ≠ "__name__" := by decide) (hdb : (x == ("__debug__" : Str)) = false := by decide)
    (he : starEach (e :: es) X.env = (false, eval e X.env) :: starEach es X.env := by rfl) (hpl : (backTo pos (starEach es X.env)).any (·.1) = false := by rfl) : PE X (.Call (.Name x p) (e :: es) [] pos) (tCB r t) := by
  intro pins s σ H Q I h
  refine wpAny_Call_Name_kw (ld_blt I hg hm hv ?_ hn hdb)
  exact PyProof.Rows.callWith_builtin1 (thn (ha pos pins s σ H _ I h) fun us s1 ⟨vs, H1, I1, r1, q1⟩ => hc pins s1 σ H1 vs us Q I1 r1 q1) he hpl
/-- T(e, ..), T a built-in type -/
theorem pe_callTy (hc : CallR X (.type T) r) (hg : Gl X x) (hm : X.mg x = none) (hv : bootBuiltins x = some (.type T)) (ha : PA X (e :: es) t) (hn : x ≠ "__name__" := by decide) (hdb : (x == ("__debug__" : Str)) = false := by decide)
    (he : starEach (e :: es) X.env = (false, eval e X.env) :: starEach es X.env := by rfl) (hpl : (backTo pos (starEach es X.env)).any (·.1) = false := by rfl) : PE X (.Call (.Name x p) (e :: es) [] pos) (tCB r t) := by
  intro pins s σ H Q I h
  refine wpAny_Call_Name_kw (ld_blt I hg hm hv ?_ hn hdb)
  exact PyProof.Rows.callWith_type1 (thn (ha pos pins s σ H _ I h) fun us s1 ⟨vs, H1, I1, r1, q1⟩ => hc pins s1 σ H1 vs us Q I1 r1 q1) he hpl
end
end L2

namespace HT
open PySem PyProof.Rows

section
open PySem.SeqAt
open PySem.AutoSeq1 (wpAny_loadPart')
open PySem.MeetsSeq PySem.MeetsSeq2 PySem.MeetsSeq3

end

section
variable {prog : Program} {w : World} {A : Around} {E : Value → Shared → Prop} {s : Shared}

/-! ### t[a:b], not the whole -/
/-- a slice's bound as a place among n (d where it is left out) -/
def sIx (n d : Nat) : Option Int → Nat
  | none => d
  | some v => if v < 0 then (v + (n : Int)).toNat else min v.toNat n
theorem sIx_none (n d : Nat) : sIx n d none = d := rfl
theorem sIx_nat (n d k : Nat) : sIx n d (some (k : Int)) = min k n := by
  show (if (k : Int) < 0 then ((k : Int) + (n : Int)).toNat else min (k : Int).toNat n) = min k n
  rw [if_neg (by omega), Int.toNat_natCast]
end
end HT

namespace L2
open PySem PySem.Spec PyProof.Rows

/-! ### the parts of a slice -/
abbrev TO := St → Hp → (Option Int → Hp → Prop) → Prop
/-- a slice's part (left out, or an int) -/
def PO (X : Cx) (e : Option Expr) (t : TO) : Prop :=
  ∀ (pins : List (Addr × Obj)) (s : Shared) (σ : St) (H : Hp) (Q : Option Int → Hp → Prop), Inv X pins σ H s → t σ H Q →
    wpAny (model X.prog X.w) X.A (evalPart e X.env) (fun u s' => ∃ o H', Inv X pins σ H' s' ∧ IsPart u o ∧ Q o H') X.xe s
def tNoPart : TO := fun _ H Q => Q none H
def tPart (t : TE) : TO := fun σ H Q => t σ H fun x H1 => ∃ i, x = .int i ∧ Q (some i) H1

theorem intsAre_of {ns : List Int} : ∀ {us : List Value}, Vals (ns.map V.int) us → IntsAre us ns := by
  induction ns with
  | nil => intro us r; rw [List.map_nil] at r; cases r; exact .nil
  | cons n ns ih =>
    intro us r
    rw [List.map_cons] at r
    cases r with
    | cons r1 r2 =>
      obtain ⟨t, e⟩ := r1
      subst e
      exact .cons n t (ih r2)

section
variable {X : Cx} {e : Expr} {te : TE} {lo hi : Option Expr} {tl th : TO} {pos p2 : Pos}

theorem po_none : PO X none tNoPart := by
  intro pins s σ H Q I h
  rw [evalPart_none]
  exact wpAny_pure ⟨none, H, I, .none, h⟩
theorem po_some (h : PE X e te) : PO X (some e) (tPart te) := by
  intro pins s σ H Q I hw
  rw [evalPart_some]
  refine thn (h pins s σ H _ I hw) fun u s1 ⟨x, H1, I1, r1, q1⟩ => ?_
  obtain ⟨i, rfl, q⟩ := q1
  obtain ⟨t, rfl⟩ := r1
  exact ⟨some i, H1, I1, .int i t, q⟩

/-- what a slice of a value is, by values: the slice object stands at sl -/
def SlR (X : Cx) (r : V → Option Int → Option Int → Hp → VK → Prop) : Prop :=
  ∀ (pins : List (Addr × Obj)) (s : Shared) (σ : St) (H : Hp) (x : V) (v vl vu : Value) (lo hi : Option Int) (sl : Addr) (Q : VK), Inv X pins σ H s → RelV x v → s.heap.IsSliceOf sl vl vu .none → IsPart vl lo → IsPart vu hi → r x lo hi H Q →
    ∃ T id, typeLookup (.type T) "__getitem__" = pure (some (.builtin id)) ∧ s.TypeIs v T ∧ wpAny (model X.prog X.w) X.A (getItem v (.ref sl)) (EP X pins σ Q) X.xe s
theorem SlR.or {r r' : V → Option Int → Option Int → Hp → VK → Prop} (h : SlR X r) (h' : SlR X r') : SlR X (fun x lo hi H Q => r x lo hi H Q ∨ r' x lo hi H Q) := by
  intro pins s σ H x v vl vu lo hi sl Q I rx hs pl pu q
  rcases q with q | q
  · exact h pins s σ H x v vl vu lo hi sl Q I rx hs pl pu q
  · exact h' pins s σ H x v vl vu lo hi sl Q I rx hs pl pu q
def tSl (r : V → Option Int → Option Int → Hp → VK → Prop) (te : TE) (tl th : TO) : TE := fun σ H Q => te σ H fun x H1 => tl σ H1 fun l H2 => th σ H2 fun u H3 => r x l u H3 Q
/-- a[lo:hi], any a -/
theorem pe_slice {r : V → Option Int → Option Int → Hp → VK → Prop} (hr : SlR X r) (he : PE X e te) (hl : PO X lo tl) (hu : PO X hi th) : PE X (.Subscript e (.Slice lo hi none p2) pos) (tSl r te tl th) := by
  intro pins s σ H Q I h
  refine Subscript_ (thn (he pins s σ H _ I h) fun v s1 ⟨x, H1, I1, r1, q1⟩ => ?_)
  refine wpAny_Slice (thn (hl pins s1 σ H1 _ I1 q1) fun vl s2 ⟨l, H2, I2, pl, q2⟩ => thn (hu pins s2 σ H2 _ I2 q2) fun vu s3 ⟨u, H3, I3, pu, q3⟩ => ?_)
  rw [evalPart_none]
  refine wpAny_pure ?_
  have I4 : Inv X pins σ H3 { s3 with heap := s3.heap.push { cls := .type "slice", data := .fields #[vl, vu, .none] } } := I3.kept (t' := s3.toks) fun b ob q => Heap.get?_push_of_some _ q
  obtain ⟨T, id, hT, ht, hg⟩ := hr pins { s3 with heap := s3.heap.push { cls := .type "slice", data := .fields #[vl, vu, .none] } } σ H3 x v vl vu l u s3.heap.objs.size Q I4 r1 (Heap.IsSliceOf.new ..) pl pu q3
  show wpAny (model X.prog X.w) X.A (subscriptTail e (.Slice lo hi none p2) v (.ref s3.heap.objs.size)) (EP X pins σ Q) X.xe { s3 with heap := s3.heap.push { cls := .type "slice", data := .fields #[vl, vu, .none] } }
  exact tail_any (ops := [.ref s3.heap.objs.size, v]) ht hT hg (by with_unfolding_all rfl)

/-- the items of xs[lo:hi] -/
def cutV (xs : List V) (lo hi : Option Int) : List V := (xs.drop (HT.sIx xs.length 0 lo)).take (HT.sIx xs.length xs.length hi - HT.sIx xs.length 0 lo)
theorem cutV_length (xs : List V) (lo hi : Option Int) : (cutV xs lo hi).length ≤ xs.length := by
  unfold cutV
  rw [List.length_take, List.length_drop]
  omega
/-! ### t < u, t + u -/
end
end L2

namespace L2
open PySem PySem.Spec PyProof.Rows

/-! ### places -/
/-- the place that an index of any sign means -/
def ixN (n : Nat) (i : Int) : Option Nat := if 0 ≤ i then (if i < n then some i.toNat else none) else if -(n : Int) ≤ i then some (i + n).toNat else none
def atI {α : Type} (xs : List α) (i : Int) : Option α := (ixN xs.length i).bind fun j => xs[j]?
theorem ixN_seq {n : Nat} {i : Int} {j : Nat} (h : ixN n i = some j) : seqIndex? i n = some j ∧ j < n ∧ -(n : Int) ≤ i ∧ i < n := by
  unfold ixN at h
  by_cases h0 : 0 ≤ i
  · rw [if_pos h0] at h
    by_cases h1 : i < n
    · rw [if_pos h1] at h
      have e : i.toNat = j := Option.some.inj h
      exact ⟨by rw [seqIndex_of h0 h1, e], by omega, by omega, h1⟩
    · rw [if_neg h1] at h; cases h
  · rw [if_neg h0] at h
    by_cases h1 : -(n : Int) ≤ i
    · rw [if_pos h1] at h
      have e : (i + n).toNat = j := Option.some.inj h
      exact ⟨by rw [seqIndex_neg (by omega) h1, e], by omega, h1, by omega⟩
    · rw [if_neg h1] at h; cases h
theorem atI_get {α : Type} {xs : List α} {i : Int} {v : α} (h : atI xs i = some v) : ∃ j, seqIndex? i xs.length = some j ∧ xs[j]? = some v ∧ j < xs.length ∧ -(xs.length : Int) ≤ i ∧ i < xs.length := by
  unfold atI at h
  cases e : ixN xs.length i with
  | none => rw [e] at h; cases h
  | some j =>
    rw [e] at h
    obtain ⟨h1, h2, h3, h4⟩ := ixN_seq e
    exact ⟨j, h1, h, h2, h3, h4⟩
theorem atI_nat {α : Type} {xs : List α} {j : Nat} {v : α} (h : xs[j]? = some v) : atI xs (j : Int) = some v := by
  have hj : j < xs.length := (List.getElem?_eq_some_iff.mp h).1
  have e : ixN xs.length (j : Int) = some j := by
    unfold ixN
    rw [if_pos (by omega), if_pos (by omega)]; simp
  unfold atI; rw [e]; exact h
/-! ### what may be subscripted -/
/-- what stands as an index of a plain subscript -/
def PlainIx (b : Expr) : Prop := ∀ o i, subscripted b false o i = operate [o, i] (getItem o i)
/-- a subscript by values -/
def IxR (X : Cx) (r : R2) : Prop :=
  ∀ (value slice : Expr) (pins : List (Addr × Obj)) (s : Shared) (σ : St) (H : Hp) (x y : V) (v u : Value) (Q : VK), Inv X pins σ H s → RelV x v → RelV y u → r x y H Q →
    subscripted slice false v u = operate [v, u] (getItem v u) → wpAny (model X.prog X.w) X.A (subscriptTail value slice v u) (EP X pins σ Q) X.xe s
/-- a call of a builtin's method by values: the receiver, the arguments -/
def MtR (X : Cx) (id : String) (r : V → List V → Hp → VK → Prop) : Prop :=
  ∀ (pins : List (Addr × Obj)) (s : Shared) (σ : St) (H : Hp) (x : V) (xs : List V) (v : Value) (us : List Value) (Q : VK), Inv X pins σ H s → RelV x v → Vals xs us → r x xs H Q →
    wpAny (model X.prog X.w) X.A (call (.builtin id) (v :: us)) (EP X pins σ Q) X.xe s
section
variable {X : Cx} {a b : Expr} {ta tb : TE} {pos : Pos}
theorem IxR.or {r r' : R2} (h : IxR X r) (h' : IxR X r') : IxR X (fun x y H Q => r x y H Q ∨ r' x y H Q) := by
  intro value slice pins s σ H x y v u Q I rx ry q hs
  rcases q with q | q
  · exact h value slice pins s σ H x y v u Q I rx ry q hs
  · exact h' value slice pins s σ H x y v u Q I rx ry q hs
theorem MtR.or {id : String} {r r' : V → List V → Hp → VK → Prop} (h : MtR X id r) (h' : MtR X id r') : MtR X id (fun x xs H Q => r x xs H Q ∨ r' x xs H Q) := by
  intro pins s σ H x xs v us Q I rx rs q
  rcases q with q | q
  · exact h pins s σ H x xs v us Q I rx rs q
  · exact h' pins s σ H x xs v us Q I rx rs q
/-- a[b] -/
theorem pe_ix {r : R2} (hr : IxR X r) (ha : PE X a ta) (hb : PE X b tb) (hs : PlainIx b) : PE X (.Subscript a b pos) (tOp r ta tb) := by
  intro pins s σ H Q I h
  exact Subscript_ (binT ha hb I h fun v u s2 x y H2 I2 rx ry q => hr a b pins s2 σ H2 x y v u Q I2 rx ry q (hs _ _))

def rIxL (K : PySem.W.Frag) : R2 := fun x y H Q => ∃ p xs i v, x = .ref p ∧ y = .int i ∧ SqL K H p xs ∧ atI xs i = some v ∧ Q v H
def rIxT (K : PySem.W.Frag) : R2 := fun x y H Q => ∃ p xs i v, x = .ref p ∧ y = .int i ∧ SqT K H p xs ∧ atI xs i = some v ∧ Q v H
theorem ix_list : IxR X (rIxL X.K) := by
  intro value slice pins s σ H x y v u Q I rx ry h hs
  obtain ⟨p, xs, i, z, rfl, rfl, hq, he, q⟩ := h
  cases rx
  obtain ⟨t, rfl⟩ := ry
  obtain ⟨its, r, pl, hz⟩ := I.list hq
  obtain ⟨j, h1, h2, h3, h4, h5⟩ := atI_get he
  obtain ⟨w, ew, rw'⟩ := r.get h2
  have hl := r.length
  have hn := line63
  have fin : EP X pins σ Q w s := ⟨z, H, I, rw', q⟩
  by_cases h0 : 0 ≤ i
  · have hj : i.toNat = j := by
      rw [seqIndex_of h0 h5] at h1
      exact Option.some.inj h1
    exact item_listR pl.isList h0 (by omega) (by rw [hj]; simpa using ew) fin hs
  · have hj : (i + (its.toArray.size : Int)).toNat = j := by
      rw [seqIndex_neg (by omega) h4] at h1
      rw [List.size_toArray, ← hl]
      exact Option.some.inj h1
    exact subscriptTail_builtinR (x := w) pl.isList.typeIs slot_list_getitem.lookup
      (wpAny_getItem_list_neg (Q := fun r s' => r = w ∧ EP X pins σ Q r s') pl.isList (by omega) (by rw [List.size_toArray] <;> omega) (by omega) (by rw [hj]; simpa using ew) ⟨rfl, fin⟩) hs
theorem ix_tup : IxR X (rIxT X.K) := by
  intro value slice pins s σ H x y v u Q I rx ry h hs
  obtain ⟨p, xs, i, z, rfl, rfl, hq, he, q⟩ := h
  cases rx
  obtain ⟨t, rfl⟩ := ry
  obtain ⟨its, r, pl, hz⟩ := I.tuple hq
  obtain ⟨j, h1, h2, h3, h4, h5⟩ := atI_get he
  obtain ⟨w, ew, rw'⟩ := r.get h2
  have hl := r.length
  have hn := line63
  have fin : EP X pins σ Q w s := ⟨z, H, I, rw', q⟩
  exact subscriptTail_builtinR (x := w) pl.typeIs slot_tuple_getitem.lookup
    (getItem_tuple (j := j) (Q := fun r s' => r = w ∧ EP X pins σ Q r s') pl (by omega) (by omega) (by rw [List.size_toArray, ← hl]; exact h1) (by simpa using ew) ⟨rfl, fin⟩) hs
/-! ### xs[i] = v, any sign -/
/-- the list's object behind a store -/
theorem mapSeq_set (its : List Value) (n j : Nat) (u : Value) : Obj.mapSeq (·.setIfInBounds j u) { cls := .type "list", data := .seq its.toArray n } = { cls := .type "list", data := .seq (its.set j u).toArray n } := by
  simp [Obj.mapSeq]
theorem Inv.lst {pins : List (Addr × Obj)} {σ : St} {H : Hp} {s : Shared} {p : Addr} {xs : List V} (I : Inv X pins σ H s) (h : H p = some (.lst xs)) :
    ∃ (its : List Value) (n : Nat), Vals xs its ∧ s.heap.get? p = some { cls := .type "list", data := .seq its.toArray n } ∧ xs.length ≤ sizeLine := by
  obtain ⟨z, its, n, r, e⟩ := I.hok p _ h
  exact ⟨its, n, r, e, z⟩
/-- the list at p is written by an update of its object -/
theorem Inv.lstUpd {pins : List (Addr × Obj)} {σ : St} {H : Hp} {s : Shared} {p : Addr} {xs ys : List V} {its its' : List Value} {n n' : Nat} {f : Obj → Obj} (I : Inv X pins σ H s) (h : H p = some (.lst xs))
    (ho : s.heap.get? p = some { cls := .type "list", data := .seq its.toArray n }) (hf : f { cls := .type "list", data := .seq its.toArray n } = { cls := .type "list", data := .seq its'.toArray n' }) (r : Vals ys its') (hz : ys.length ≤ sizeLine) (t : Nat) :
    Inv X pins σ (upd H p (.lst ys)) { s with heap := s.heap.update p f, toks := t } := by
  have e : (s.heap.update p f).get? p = some { cls := .type "list", data := .seq its'.toArray n' } := by
    rw [Heap.get?_update_self f ho (by rw [hf] <;> rfl), hf]
  refine I.write (x := p) (e := p) (by rw [h]; trivial) (.inl rfl) (fun b u hb q => (Heap.get?_update_other _ _ (Ne.symm hb)).trans q) ⟨_, e⟩ ?_
  exact ⟨hz, its', n', r, e⟩
def rSetL : V → V → V → Hp → (Hp → Prop) → Prop := fun o i v H Q => ∃ p xs k j, o = .ref p ∧ i = .int k ∧ H p = some (.lst xs) ∧ ixN xs.length k = some j ∧ Q (upd H p (.lst (xs.set j v)))
theorem set_list : PSet X rSetL := by
  intro pins s σ H o i v ov iv u Q I ro ri rv h
  obtain ⟨p, xs, k, j, rfl, rfl, hp, hj, q⟩ := h
  cases ro
  obtain ⟨t, rfl⟩ := ri
  obtain ⟨its, n, r, ho, hz⟩ := I.lst hp
  obtain ⟨h1, h2, h3, h4⟩ := ixN_seq hj
  have hl := r.length
  have hn := line63
  have I' : Inv X pins σ (upd H p (.lst (xs.set j v))) { s with heap := s.heap.update p (Obj.mapSeq (·.setIfInBounds j u)) } :=
    I.lstUpd hp ho (mapSeq_set its n j u) (r.set rv j) (by rw [List.length_set]; exact hz) s.toks
  by_cases h0 : 0 ≤ k
  · have hk : k.toNat = j := by
      rw [seqIndex_of h0 h4] at h1
      exact Option.some.inj h1
    exact PySem.W.ki_setAt ho h0 (by omega) (by rw [List.size_toArray, ← hl]; exact h4) (by rw [hk]; exact ⟨_, I', q⟩)
  · have hk : (k + (its.toArray.size : Int)).toNat = j := by
      rw [seqIndex_neg (by omega) h3] at h1
      rw [List.size_toArray, ← hl]
      exact Option.some.inj h1
    exact PySem.W.ki_setBack ho (by omega) (by rw [List.size_toArray, ← hl]; exact h3) (by omega) (by rw [hk]; exact ⟨_, I', q⟩)

/-! ### slices -/
theorem slice_bounds (lo hi : Option Int) (n : Nat) : (sliceBounds lo hi none n).1 = ((HT.sIx n 0 lo : Nat) : Int) ∧ (sliceBounds lo hi none n).2.1 = ((HT.sIx n n hi : Nat) : Int) ∧ (sliceBounds lo hi none n).2.2 = 1 := by
  refine ⟨?_, ?_, rfl⟩
  · cases lo with
    | none => simp [sliceBounds, HT.sIx]
    | some i =>
      simp only [sliceBounds, HT.sIx, Option.getD_none, show (1 : Int) > 0 by decide, if_true]
      by_cases h : i < 0
      · simp only [h, if_true] <;> omega
      · simp only [h, if_false] <;> omega
  · cases hi with
    | none => simp [sliceBounds, HT.sIx]
    | some i =>
      simp only [sliceBounds, HT.sIx, Option.getD_none, show (1 : Int) > 0 by decide, if_true]
      by_cases h : i < 0
      · simp only [h, if_true] <;> omega
      · simp only [h, if_false] <;> omega
theorem slicePick_cut (its : List Value) (lo hi : Option Int) : slicePick its.toArray lo hi none = ((its.drop (HT.sIx its.length 0 lo)).take (HT.sIx its.length its.length hi - HT.sIx its.length 0 lo)).toArray := by
  obtain ⟨h1, h2, h3⟩ := slice_bounds lo hi its.toArray.size
  unfold slicePick
  rw [h1, h2, h3]
  simp only [sliceRange_one, pick_run, List.size_toArray] <;> rfl
/-- xs[lo:hi] of a list: a new list -/
def rSlL (K : PySem.W.Frag) : V → Option Int → Option Int → Hp → VK → Prop := fun x lo hi H Q => ∃ a xs, x = .ref a ∧ SqL K H a xs ∧ ∀ p, H p = none → Q (.ref p) (upd H p (.lst (cutV xs lo hi)))
theorem sl_list : SlR X (rSlL X.K) := by
  intro pins s σ H x v vl vu lo hi sl Q I rx hs pl pu h
  obtain ⟨a, xs, rfl, hx, q⟩ := h
  cases rx
  obtain ⟨its, r, ht, hz⟩ := I.list hx
  have hlen := r.length
  refine ⟨"list", _, slot_list_getitem.lookup, ht.isList.typeIs, ?_⟩
  refine wpAny_getItem_list_slice ht.isList hs pl pu .none (by simp) ?_ (by rw [List.size_toArray] <;> omega)
  rw [slicePick_cut, ← hlen]
  refine ⟨.ref s.heap.objs.size, _, I.laid (t' := s.toks) (o := .lst (cutV xs lo hi)) (fun b ob q => Heap.get?_push_of_some _ q) (Nat.le_refl _) ?_, rfl, q _ (I.hok.fresh (Nat.le_refl _))⟩
  exact ⟨Nat.le_trans (cutV_length xs lo hi) hz, _, 0, (r.drop (HT.sIx xs.length 0 lo)).take (HT.sIx xs.length xs.length hi - HT.sIx xs.length 0 lo), Heap.get?_push_size _ rfl⟩

/-! ### in, not in: flat items -/
def flatV : V → Bool
  | .non => true
  | .bl _ => true
  | .int _ => true
  | .str _ => true
  | _ => false
/-- == of flat values -/
def eqV : V → V → Bool
  | .non, .non => true
  | .bl a, .bl b => a == b
  | .bl a, .int b => (if a then 1 else 0) == b
  | .int a, .bl b => a == (if b then 1 else 0)
  | .int a, .int b => a == b
  | .str a, .str b => a == b
  | _, _ => false
theorem eqAt_V {A : Around} {s : Shared} {y x : V} {u v : Value} (ry : RelV y u) (rx : RelV x v) (fy : flatV y = true) (fx : flatV x = true) : SeqAt.EqAt A s u v (eqV y x) := by
  cases y with
  | non =>
    cases ry
    cases x with
    | non => cases rx; exact SeqAt.EqAt.same _
    | bl b => cases rx; exact SeqAt.EqAt.none_bool b
    | int b => obtain ⟨t, rfl⟩ := rx; exact SeqAt.EqAt.none_int b t
    | str b => obtain ⟨t, rfl⟩ := rx; exact SeqAt.EqAt.none_str b t
    | _ => exact absurd (show false = true from fx) Bool.false_ne_true
  | bl a =>
    cases ry
    cases x with
    | non => cases rx; exact SeqAt.EqAt.bool_none a
    | bl b => cases rx; exact SeqAt.EqAt.bool_bool a b
    | int b => obtain ⟨t, rfl⟩ := rx; exact SeqAt.EqAt.bool_int a b t
    | str b => obtain ⟨t, rfl⟩ := rx; exact SeqAt.EqAt.bool_str a b t
    | _ => exact absurd (show false = true from fx) Bool.false_ne_true
  | int a =>
    obtain ⟨t', rfl⟩ := ry
    cases x with
    | non => cases rx; exact SeqAt.EqAt.int_none a t'
    | bl b => cases rx; exact SeqAt.EqAt.int_bool a t' b
    | int b => obtain ⟨t, rfl⟩ := rx; exact SeqAt.EqAt.int_int a t' b t
    | str b => obtain ⟨t, rfl⟩ := rx; exact SeqAt.EqAt.int_str a t' b t
    | _ => exact absurd (show false = true from fx) Bool.false_ne_true
  | str a =>
    obtain ⟨t', rfl⟩ := ry
    cases x with
    | non => cases rx; exact SeqAt.EqAt.str_none a t'
    | bl b => cases rx; exact SeqAt.EqAt.str_bool a t' b
    | int b => obtain ⟨t, rfl⟩ := rx; exact SeqAt.EqAt.str_int a t' b t
    | str b => obtain ⟨t, rfl⟩ := rx; exact SeqAt.EqAt.str_str a t' b t
    | _ => exact absurd (show false = true from fx) Bool.false_ne_true
  | _ => exact absurd (show false = true from fy) Bool.false_ne_true
/-- the items' answers, read off the values (a value's own answer does not lean on its token) -/
def eqU (x : V) (u : Value) : Bool := match u with
  | .none => eqV .non x
  | .bool b => eqV (.bl b) x
  | .int i _ => eqV (.int i) x
  | .str z _ => eqV (.str z) x
  | _ => false
theorem eqU_of {x y : V} {u : Value} (r : RelV y u) (f : flatV y = true) : eqU x u = eqV y x := by
  cases y with
  | non => cases r; rfl
  | bl b => cases r; rfl
  | int i => obtain ⟨t, rfl⟩ := r; rfl
  | str z => obtain ⟨t, rfl⟩ := r; rfl
  | _ => exact absurd (show false = true from f) Bool.false_ne_true
theorem any_eqU {x : V} : ∀ {xs : List V} {us : List Value}, Vals xs us → xs.all flatV = true → us.any (eqU x) = xs.any fun y => eqV y x
  | _, _, .nil, _ => rfl
  | y :: xs, u :: us, .cons r t, f => by
    rw [List.all_cons, Bool.and_eq_true] at f
    rw [List.any_cons, List.any_cons, eqU_of r f.1, any_eqU t f.2]
theorem mem_eqAt {A : Around} {s : Shared} {x : V} {v : Value} (rx : RelV x v) (fx : flatV x = true) : ∀ {xs : List V} {us : List Value}, Vals xs us → xs.all flatV = true → ∀ u ∈ us, SeqAt.EqAt A s u v (eqU x u)
  | _, _, .nil, _ => fun u hu => by cases hu
  | y :: xs, u :: us, .cons r t, f => fun u' hu => by
    rw [List.all_cons, Bool.and_eq_true] at f
    rcases List.mem_cons.mp hu with rfl | hu
    · rw [eqU_of r f.1]; exact eqAt_V r rx f.1 fx
    · exact mem_eqAt rx fx t f.2 u' hu
def inV (x : V) (xs : List V) : Bool := xs.any fun y => eqV y x
/-- x in a list or tuple of flat items -/
def rIn (K : PySem.W.Frag) (neg : Bool) : R2 := fun x y H Q => ∃ p xs, y = .ref p ∧ (SqL K H p xs ∨ SqT K H p xs) ∧ flatV x = true ∧ xs.all flatV = true ∧ Q (.bl (if neg then !inV x xs else inV x xs)) H
theorem op_in_seq : OpR X (compareOp .In) (rIn X.K false) := by
  intro pins s σ H x y v u Q I rx ry h
  obtain ⟨p, xs, rfl, hq, fx, fs, q⟩ := h
  cases ry
  rcases hq with hq | hq
  · obtain ⟨its, r, pl, hz⟩ := I.list hq
    refine SeqAt.in_listAt (eqU x) pl.isList (fun w hw => mem_eqAt rx fx r fs w (by simpa using hw)) ⟨.bl _, H, I, rfl, ?_⟩
    rw [show its.toArray.any (eqU x) = its.any (eqU x) by simp, any_eqU r fs]
    exact q
  · obtain ⟨its, r, pl, hz⟩ := I.tuple hq
    refine SeqAt.in_tupleAt (eqU x) pl (fun w hw => mem_eqAt rx fx r fs w (by simpa using hw)) ⟨.bl _, H, I, rfl, ?_⟩
    rw [show its.toArray.any (eqU x) = its.any (eqU x) by simp, any_eqU r fs]
    exact q
/-! ### len, list(x), tuple(x) of any list or tuple that is read -/
theorem call_len_seq : CallR X (.builtin "len") (fun xs H Q => ∃ p ys, xs = [.ref p] ∧ (SqL X.K H p ys ∨ SqT X.K H p ys) ∧ Q (.int ys.length) H) := by
  intro pins s σ H xs us Q I r h
  obtain ⟨p, ys, rfl, hq, q⟩ := h
  obtain ⟨u, rfl, rx⟩ := vals1 r
  cases rx
  have hn := line63
  rcases hq with hq | hq
  · obtain ⟨its, r', pl, hz⟩ := I.list hq
    have hlen := r'.length
    exact Calls.call_len_list pl.isList (by simp only [List.size_toArray] <;> omega) ⟨.int ys.length, H, I.tok _, ⟨s.toks + 1, by rw [List.size_toArray, hlen]⟩, q⟩
  · obtain ⟨its, r', pl, hz⟩ := I.tuple hq
    have hlen := r'.length
    exact len_tuple pl (by simp only [List.size_toArray] <;> omega) ⟨.int ys.length, H, I.tok _, ⟨s.toks + 1, by rw [List.size_toArray, hlen]⟩, q⟩
theorem CallR.or {f : Value} {r r' : List V → Hp → VK → Prop} (h : CallR X f r) (h' : CallR X f r') : CallR X f (fun xs H Q => r xs H Q ∨ r' xs H Q) := by
  intro pins s σ H xs us Q I rs q
  rcases q with q | q
  · exact h pins s σ H xs us Q I rs q
  · exact h' pins s σ H xs us Q I rs q
theorem call_list_of : CallR X (.type "list") (fun xs H Q => ∃ p ys, xs = [.ref p] ∧ (SqL X.K H p ys ∨ SqT X.K H p ys) ∧ ∀ l, H l = none → Q (.ref l) (upd H l (.lst ys))) := by
  intro pins s σ H xs us Q I r h
  obtain ⟨p, ys, rfl, hq, q⟩ := h
  obtain ⟨u, rfl, rx⟩ := vals1 r
  cases rx
  have fin : ∀ (its : List Value), Vals ys its → ys.length ≤ sizeLine → ∀ (h' : Heap) (c' : Nat), (∀ b o', s.heap.get? b = some o' → h'.get? b = some o') →
      h'.get? s.heap.objs.size = some { cls := .type "list", dict := none, data := .seq its.toArray c', slots := #[] } → EP X pins σ Q (.ref s.heap.objs.size) { s with heap := h' } := fun its r' hz h' c' kp e =>
    ⟨.ref s.heap.objs.size, _, I.laid (t' := s.toks) kp (Nat.le_refl _) (show ObjOk X.prog X.w _ h' _ (.lst ys) from ⟨hz, its, c', r', e⟩), rfl, q _ (I.hok.fresh (Nat.le_refl _))⟩
  rcases hq with hq | hq
  · obtain ⟨its, r', pl, hz⟩ := I.list hq
    have hlen := r'.length
    obtain ⟨o, ho, hc, n, hd⟩ := pl.isList
    exact call_list_seq p (.inl rfl) ho hc hd (fun h' c' kp e => fin its r' hz h' c' kp e) (by simp only [List.size_toArray] <;> omega)
  · obtain ⟨its, r', pl, hz⟩ := I.tuple hq
    have hlen := r'.length
    obtain ⟨o, ho, hc, n, hd⟩ := pl
    exact call_list_seq p (.inr rfl) ho hc hd (fun h' c' kp e => fin its r' hz h' c' kp e) (by simp only [List.size_toArray] <;> omega)
/-! ### the call of a builtin's method: o.m(..) -/
/-- the value is of that builtin type -/
def tyV (K : PySem.W.Frag) (T : String) (x : V) (H : Hp) : Prop := match x with
  | .str _ => T = "str"
  | .int _ => T = "int"
  | .ref p => (T = "list" ∧ ∃ xs, SqL K H p xs) ∨ (T = "tuple" ∧ ∃ o, K.lookup p = some o ∧ o.cls = .type "tuple" ∧ o.dict = none) ∨
      (T = "dict" ∧ ((∃ kvs, H p = some (.dK kvs)) ∨ ∃ kvs, H p = some (.dT kvs))) ∨ (T = "set" ∧ ∃ S n, H p = some (.set S n))
  | _ => False
theorem tyV_is {pins : List (Addr × Obj)} {σ : St} {H : Hp} {s : Shared} {T : String} {x : V} {v : Value} (I : Inv X pins σ H s) (r : RelV x v) (ty : tyV X.K T x H) :
    s.TypeIs v T ∧ ∀ a, v = .ref a → ∃ ob, s.heap.get? a = some ob ∧ ob.dict = none := by
  cases x with
  | str z =>
    obtain ⟨t, rfl⟩ := r
    cases (show T = "str" from ty)
    exact ⟨typeIs_str s z t, fun _ e => nomatch e⟩
  | int i =>
    obtain ⟨t, rfl⟩ := r
    cases (show T = "int" from ty)
    exact ⟨typeIs_int s i t, fun _ e => nomatch e⟩
  | ref p =>
    cases r
    rcases ty with ⟨rfl, xs, hq⟩ | ⟨rfl, o, hk, hc, hd⟩ | ⟨rfl, hk⟩ | ⟨rfl, S, n, hk⟩
    · obtain ⟨its, _, pl, _⟩ := I.list hq
      refine ⟨pl.isList.typeIs, fun a e => ?_⟩
      cases e
      obtain ⟨o, n, e, c, hd, _⟩ := pl
      exact ⟨o, e, hd⟩
    · refine ⟨⟨o, I.kIn p o hk, hc⟩, fun a e => ?_⟩
      cases e
      exact ⟨o, I.kIn _ o hk, hd⟩
    · have z : ∃ o, s.heap.get? p = some o ∧ o.ExactDict := by
        rcases hk with ⟨kvs, hk⟩ | ⟨kvs, hk⟩
        · obtain ⟨_, _, _, _, o, _, _, e, ex, _⟩ := I.hok p _ hk
          exact ⟨o, e, ex⟩
        · obtain ⟨_, _, _, _, o, _, _, e, ex, _⟩ := I.hok p _ hk
          exact ⟨o, e, ex⟩
      obtain ⟨o, e, ex⟩ := z
      refine ⟨⟨o, e, ex.1⟩, fun a e2 => ?_⟩
      cases e2
      exact ⟨o, e, ex.2.1⟩
    · obtain ⟨o, _, _, _, e, ex, _⟩ := I.hok p _ hk
      refine ⟨⟨o, e, ex.1⟩, fun a e2 => ?_⟩
      cases e2
      exact ⟨o, e, ex.2.1⟩
  | _ => exact False.elim ty
def tBM (K : PySem.W.Frag) (T : String) (r : V → List V → Hp → VK → Prop) (to : TE) (t : TA) : TE := fun σ H Q => to σ H fun x H1 => tyV K T x H1 ∧ t σ H1 fun xs H2 => r x xs H2 Q
variable {o e : Expr} {es : List Expr} {to : TE} {t : TA} {name : Str} {apos cpos : Pos} {T id : String} {r : V → List V → Hp → VK → Prop}
theorem pe_bm (pa : PlainAttrs T) (slot : Slot T name id) (hty : typeOf (.builtin id) = pure (.type "method_descriptor")) (hm : MtR X id r) (ho : PE X o to) (ha : PA X (e :: es) t)
    (hbase : attributeBase o name X.env (eval o X.env) = eval o X.env := by rfl)
    (hfew : ((backTo cpos (starEach (e :: es) X.env)).all (fun x => !x.1) && (backToKw cpos (keywordEach [] X.env)).all (fun x => x.1.isSome)
      && decide ((e :: es).length + ([] : List Keyword).length + (if ([] : List Keyword).isEmpty then 0 else 1) < 30)) = true := by rfl)
    (hline : (apos.endLine == cpos.line) = true := by rfl) (hs : starEach (e :: es) X.env = (false, eval e X.env) :: starEach es X.env := by rfl) (hplain : (backTo cpos (starEach es X.env)).any (·.1) = false := by rfl) :
    PE X (.Call (.Attribute o name apos) (e :: es) [] cpos) (tBM X.K T r to t) := by
  intro pins s σ H Q I h
  refine wpAny_Call_method_late hbase hfew hline rfl (thn (ho pins s σ H _ I h) fun v s1 ⟨x, H1, I1, r1, ty, q1⟩ => ?_)
  obtain ⟨h1, h2⟩ := tyV_is I1 r1 ty
  refine ⟨T, id, pa, slot, hty, h1, h2, ?_⟩
  have hA := ha cpos pins s1 σ H1 _ I1 q1
  rw [hs] at hA ⊢
  refine Calls.callWith_builtin (by show (false || (backTo cpos (starEach es X.env)).any (·.1)) = false; rw [hplain] <;> rfl) (Calls.evalArgs_plain ?_)
  exact thn hA fun us s2 ⟨vs, H2, I2, r2, q2⟩ => hm pins s2 σ H2 x vs v us Q I2 r1 r2 q2
/- xs.append(e), list.index on a module's tuple .. are MtR facts of 06m -/
end
end L2

namespace L2
open PySem PySem.Spec PyProof.Rows

def MtM (X : Cx) (id : String) (r : V → List V → Hp → VK → Prop) : Prop :=
  ∀ (pins : List (Addr × Obj)) (s : Shared) (σ : St) (H : Hp) (x : V) (xs : List V) (v : Value) (us : List Value) (Q : VK), Inv X pins σ H s → RelV x v → Vals xs us → r x xs H Q →
    wpAny (model X.prog X.w) X.A (call (.builtin id) (v :: us)) (EP X pins σ Q) X.xe s

/-! ### lists of values -/
theorem Vals.one : ∀ {x : V} {us : List Value}, Vals [x] us → ∃ u, us = [u] ∧ RelV x u
  | _, _, .cons r .nil => ⟨_, rfl, r⟩
theorem Vals.two : ∀ {x y : V} {us : List Value}, Vals [x, y] us → ∃ u v, us = [u, v] ∧ RelV x u ∧ RelV y v
  | _, _, _, .cons r (.cons q .nil) => ⟨_, _, rfl, r, q⟩
theorem Vals.zero : ∀ {us : List Value}, Vals [] us → us = []
  | _, .nil => rfl
theorem Vals.dropLast {xs : List V} {us : List Value} (h : Vals xs us) : Vals xs.dropLast us.dropLast := by
  induction h with
  | nil => exact .nil
  | cons r t ih =>
    cases t with
    | nil => exact .nil
    | cons q t' => exact .cons r ih
theorem Vals.eraseIdx : ∀ {xs : List V} {us : List Value} (i : Nat), Vals xs us → Vals (xs.eraseIdx i) (us.eraseIdx i)
  | _, _, _, .nil => .nil
  | _, _, 0, .cons _ t => t
  | _, _, i + 1, .cons r t => .cons r (Vals.eraseIdx i t)
theorem Vals.reverse {xs : List V} {us : List Value} (h : Vals xs us) : Vals xs.reverse us.reverse := by
  induction h with
  | nil => exact .nil
  | cons r t ih => rw [List.reverse_cons, List.reverse_cons]; exact Vals.append ih (.cons r .nil)
theorem Vals.rep {xs : List V} {us : List Value} (h : Vals xs us) : ∀ k : Nat, Vals (List.replicate k xs).flatten (List.replicate k us).flatten
  | 0 => .nil
  | k + 1 => by
    rw [List.replicate_succ, List.replicate_succ, List.flatten_cons, List.flatten_cons]
    exact Vals.append h (Vals.rep h k)
theorem len_erase {α : Type} : ∀ (l : List α) (i : Nat), (l.eraseIdx i).length ≤ l.length
  | [], _ => Nat.le_refl _
  | _ :: _, 0 => Nat.le_succ _
  | _ :: r, i + 1 => Nat.succ_le_succ (len_erase r i)
theorem foldl_rep (its : List Value) : ∀ (k : Nat) (acc : List Value),
    List.foldl (fun x1 x2 => x1 ++ x2) acc.toArray (List.replicate k its.toArray) = (acc ++ (List.replicate k its).flatten).toArray
  | 0, acc => by simp
  | k + 1, acc => by
    have e : acc.toArray ++ its.toArray = (acc ++ its).toArray := by simp
    have e2 : (acc ++ its) ++ (List.replicate k its).flatten = acc ++ (List.replicate (k + 1) its).flatten := by
      rw [List.replicate_succ, List.flatten_cons, List.append_assoc]
    rw [← e2, ← foldl_rep its k (acc ++ its), ← e, List.replicate_succ, List.foldl_cons]

section
variable {X : Cx} {pins : List (Addr × Obj)} {σ : St} {H : Hp} {s : Shared} {l b : Addr} {xs ys zs : List V}

/-! ### the two steps: a tracked list is rewritten, a new list is laid -/
theorem Inv.lset {its its' : List Value} {n : Nat} {f : Array Value → Array Value} {t' : Nat} (I : Inv X pins σ H s) (hH : H l = some (.lst xs))
    (e : s.heap.get? l = some { cls := .type "list", data := .seq its.toArray n }) (hf : f its.toArray = its'.toArray) (hv : Vals ys its') (hz : ys.length ≤ sizeLine) :
    Inv X pins σ (upd H l (.lst ys)) { s with heap := s.heap.update l (Obj.mapSeq f), toks := t' } := by
  have q := PySem.IsL.update e f
  rw [hf] at q
  refine I.write (x := l) (e := l) (by rw [hH]; exact trivial) (.inl rfl) (fun b' u hb hu => (Heap.get?_update_other s.heap (Obj.mapSeq f) (Ne.symm hb)).trans hu) ⟨_, q⟩ ?_
  exact ⟨hz, its', _, hv, q⟩
theorem Inv.lnew {its : List Value} {t' : Nat} (I : Inv X pins σ H s) (hv : Vals ys its) (hz : ys.length ≤ sizeLine) :
    Inv X pins σ (upd H s.heap.objs.size (.lst ys)) { s with heap := s.heap.push { cls := .type "list", data := .seq its.toArray }, toks := t' } :=
  I.laid (fun _ _ q => Heap.get?_push_of_some _ q) (Nat.le_refl _) ⟨hz, its, 0, hv, Heap.get?_push_size _ rfl⟩
theorem Inv.fresh (I : Inv X pins σ H s) : H s.heap.objs.size = none := I.hok.fresh (Nat.le_refl _)
theorem Inv.lstM (I : Inv X pins σ H s) (hH : H l = some (.lst xs)) : xs.length ≤ sizeLine ∧ ∃ (its : List Value) (n : Nat), Vals xs its ∧ xs.length = its.length ∧ s.heap.get? l = some { cls := .type "list", data := .seq its.toArray n } := by
  obtain ⟨z, its, n, r, e⟩ := I.hok l _ hH
  exact ⟨z, its, n, r, r.length, e⟩

theorem notLongL {n : Nat} (h : n ≤ sizeLine) : Builtin.List.listTooLong n = false := by
  unfold Builtin.List.listTooLong
  exact decide_eq_false (by omega)
end

section
variable {X : Cx}

/-! ### methods -/
def rAppend : V → List V → Hp → VK → Prop := fun x vs H Q => ∃ l xs y, x = .ref l ∧ vs = [y] ∧ H l = some (.lst xs) ∧ xs.length < sizeLine ∧ Q .non (upd H l (.lst (xs ++ [y])))
theorem mt_append : MtM X "list.append" rAppend := by
  intro pins s σ H x vs v us Q I rx rv h
  obtain ⟨l, xs, y, rfl, rfl, hH, hz, q⟩ := h
  cases rx
  obtain ⟨u, rfl, ru⟩ := rv.one
  obtain ⟨z, its, n, r, hl, e⟩ := I.lstM hH
  refine call_meets F.slot_list_append ⟨_, e, rfl⟩ F.entry_list_append (F.args_list_append_2 _ _) (PySem.list_append l its.toArray n u (by rw [List.size_toArray]; omega)) ⟨e, ?_⟩
  refine ⟨.non, _, I.lset (its' := its ++ [u]) hH e (by simp) (r.append (.cons ru .nil)) ?_, rfl, q⟩
  rw [List.length_append, List.length_singleton]
  omega

def rExtend : V → List V → Hp → VK → Prop := fun x vs H Q => ∃ l b xs zs, x = .ref l ∧ vs = [.ref b] ∧ H l = some (.lst xs) ∧ H b = some (.lst zs) ∧ xs.length + zs.length ≤ sizeLine ∧ Q .non (upd H l (.lst (xs ++ zs)))
theorem mt_extend : MtM X "list.extend" rExtend := by
  intro pins s σ H x vs v us Q I rx rv h
  obtain ⟨l, b, xs, zs, rfl, rfl, hH, hB, hz, q⟩ := h
  cases rx
  obtain ⟨u, rfl, ru⟩ := rv.one
  cases ru
  obtain ⟨z, its, n, r, hl, e⟩ := I.lstM hH
  obtain ⟨z2, its2, n2, r2, hl2, e2⟩ := I.lstM hB
  have hsz : its.toArray.size + its2.toArray.size ≤ sizeLine := by rw [List.size_toArray, List.size_toArray]; omega
  have hlong : ¬ (!its.toArray.isEmpty && Builtin.List.listTooLong (its.toArray.size + its2.toArray.size)) = true := by
    rw [notLongL hsz, Bool.and_false]
    exact Bool.false_ne_true
  refine call_meets F.slot_list_extend ⟨_, e, rfl⟩ F.entry_list_extend (F.args_list_extend_2 _ _)
    (AutoSeq1.list_extend_list_list_0 l its.toArray n b its2.toArray n2 hlong (by rw [List.size_toArray]; omega) (by omega)) ⟨e, e2, ?_⟩
  refine ⟨.non, _, I.lset (its' := its ++ its2) hH e (by simp) (r.append r2) ?_, rfl, q⟩
  rw [List.length_append]
  omega

def rPopAt : V → List V → Hp → VK → Prop := fun x vs H Q => ∃ l xs i k y, x = .ref l ∧ vs = [.int i] ∧ H l = some (.lst xs) ∧ -(2 ^ 63) ≤ i ∧ i < 2 ^ 63 ∧ seqIndex? i xs.length = some k ∧ xs[k]? = some y ∧ Q y (upd H l (.lst (xs.eraseIdx k)))
theorem mt_popAt : MtM X "list.pop" rPopAt := by
  intro pins s σ H x vs v us Q I rx rv h
  obtain ⟨l, xs, i, k, y, rfl, rfl, hH, h1, h2, hk, hy, q⟩ := h
  cases rx
  obtain ⟨u, rfl, ru⟩ := rv.one
  obtain ⟨t, rfl⟩ := ru
  obtain ⟨z, its, n, r, hl, e⟩ := I.lstM hH
  obtain ⟨w, hw, rw'⟩ := r.get hy
  refine call_meets F.slot_list_pop ⟨_, e, rfl⟩ F.entry_list_pop (F.args_list_pop_2 _ _)
    (MeetsSeq.list_pop_at l its.toArray n i t k w (fitsIndex_both h1 h2) (by rw [List.size_toArray, ← hl]; exact hk) (by rw [← Array.getElem?_toList]; exact hw) (by rw [List.size_toArray]; omega)) ⟨e, ?_⟩
  refine ⟨y, _, I.lset (its' := its.eraseIdx k) hH e ?_ (r.eraseIdx k) ?_, rw', q⟩
  · show its.toArray.eraseIdxIfInBounds k = (its.eraseIdx k).toArray
    rw [List.eraseIdxIfInBounds_toArray]
  · have := len_erase xs k
    omega

/-! ### list + list, list += list, list * int -/
def rCat : R2 := fun x y H Q => ∃ l b xs zs, x = .ref l ∧ y = .ref b ∧ H l = some (.lst xs) ∧ H b = some (.lst zs) ∧ xs.length + zs.length ≤ sizeLine ∧ ∀ p, H p = none → Q (.ref p) (upd H p (.lst (xs ++ zs)))
theorem op_cat : OpR X (binaryOp .Add) rCat := by
  intro pins s σ H x y v u Q I rx ry h
  obtain ⟨l, b, xs, zs, rfl, rfl, hH, hB, hz, q⟩ := h
  cases rx
  cases ry
  obtain ⟨z, its, n, r, hl, e⟩ := I.lstM hH
  obtain ⟨z2, its2, n2, r2, hl2, e2⟩ := I.lstM hB
  refine PySem.P.add_list e e2 ?_ (by rw [List.size_toArray, List.size_toArray]; omega)
  have ea : its.toArray ++ its2.toArray = (its ++ its2).toArray := by simp
  rw [ea]
  exact ⟨.ref _, _, I.lnew (t' := s.toks) (r.append r2) (by rw [List.length_append]; omega), rfl, q _ I.fresh⟩
/-- a list times an int (a negative one is nothing) -/
def rRep : R2 := fun x y H Q => ∃ l k xs, x = .ref l ∧ y = .int k ∧ H l = some (.lst xs) ∧ -(2 ^ 63) ≤ k ∧ k < 2 ^ 63 ∧ xs.length * k.toNat ≤ sizeLine ∧
  ∀ p, H p = none → Q (.ref p) (upd H p (.lst (List.replicate k.toNat xs).flatten))
theorem len_rep {α : Type} (xs : List α) (k : Nat) : (List.replicate k xs).flatten.length = k * xs.length := by
  induction k with
  | zero => simp
  | succ k ih => rw [List.replicate_succ, List.flatten_cons, List.length_append, ih, Nat.succ_mul, Nat.add_comm]
theorem op_rep : OpR X (binaryOp .Mult) rRep := by
  intro pins s σ H x y v u Q I rx ry h
  obtain ⟨l, k, xs, rfl, rfl, hH, h1, h2, hz, q⟩ := h
  cases rx
  obtain ⟨t, rfl⟩ := ry
  obtain ⟨z, its, n, r, hl, e⟩ := I.lstM hH
  have hlen : its.toArray.size * k.toNat ≤ sizeLine := by rw [List.size_toArray, ← hl]; exact hz
  have hcap : ¬ its.toArray.size * k.toNat > (2 ^ 63 - 1) / 8 := by
    have : (sizeLine : Nat) ≤ (2 ^ 63 - 1) / 8 := by decide
    omega
  have hfit : ¬ (!Builtin.List.listFitsIndex k) = true := by
    rw [fitsIndex_both h1 h2]
    exact Bool.false_ne_true
  have hlong : ¬ Builtin.List.listTooLong (its.toArray.size * k.toNat) = true := by
    rw [notLongL hlen]
    exact Bool.false_ne_true
  have hnew : List.foldl (fun x1 x2 => x1 ++ x2) #[] (List.replicate (if its.toArray.isEmpty = true then 0 else k.toNat) its.toArray) = (List.replicate k.toNat its).flatten.toArray := by
    have f0 : ∀ m : Nat, List.foldl (fun x1 x2 => x1 ++ x2) #[] (List.replicate m its.toArray) = (List.replicate m its).flatten.toArray := fun m => by
      have := foldl_rep its m []
      rw [List.nil_append] at this
      exact this
    rw [f0]
    cases its with
    | nil => simp
    | cons a r' => rw [if_neg (by simp)]
  refine wpAny_binaryOp_repeat_ref (T := "list") (U := "int") (by decide) ⟨_, e, rfl⟩ (fun s' => typeIs_int s' k t) noFill_list_mul F.fills_int_mul F.slot_int_rmul repeat_list F.slot_int_index.lookup
    (call_meets F.slot_int_rmul (typeIs_int s k t) F.entry_int_rmul (F.args_int_rmul_2 _ _) (int___rmul___int_list k t l its.toArray n)
      ⟨e, rfl, ⟨_, e, rfl⟩, call_meets F.slot_list_mul ⟨_, e, rfl⟩ F.entry_list_mul (F.args_list_mul_2 _ _) (AutoListH.list___mul___list_int_3 l its.toArray n k t hfit hcap hlong) ⟨e, ?_⟩⟩)
  rw [hnew]
  exact ⟨.ref _, _, I.lnew (t' := s.toks) (r.rep k.toNat) (by rw [len_rep, Nat.mul_comm]; exact hz), rfl, q _ I.fresh⟩

/-! ### del xs[i] -/
end

/-! ### xs[a:b] = ys -/
section
variable {prog : Program} {w : World} {A : Around} {E : Value → Shared → Prop} {s : Shared}
end

section
variable {X : Cx}
end
end L2

namespace Att
open PySem PySem.W PySem.Calls PyProof.Rows

/-! ### the script -/
theorem ints_of_wellAll {P : Params} {h : Heap} : ∀ (ns : List Int) (vs : List Value), WellAll P h vs (ns.map WData.int) → IntsAre vs ns := by
  intro ns
  induction ns with
  | nil =>
    intro vs w
    rw [List.map_nil] at w
    cases w
    exact .nil
  | cons n ns ih =>
    intro vs w
    rw [List.map_cons] at w
    cases w with
    | cons a b =>
      cases a
      exact .cons _ _ (ih _ b)

theorem script_of {l : OpenLaw} {n : Nat} (hn : l.most = some n) {P : Params} {h : Heap} {args : List WData} {vals : List Value}
    (hpre : l.row.toRowW.claim.pre args = true) (hwl : WellAll P h vals args) :
    ∃ a vs ns, vals = [Value.ref a] ∧ args = [WData.list (ns.map WData.int)] ∧ h.get? a = some { cls := .type "list", data := .seq vs.toArray } ∧ IntsAre vs ns ∧ ns.length ≤ n := by
  have hsh : WShape.hasAll [] args [.list .int] = true := (pre_splitW hpre).1
  have hc : l.pre.holds [] { args := args } = true := (pre_splitW hpre).2
  obtain ⟨d, r, rfl, h1, h2⟩ := hasAllW_cons hsh
  obtain rfl := hasAllW_nil h2
  obtain ⟨xs, rfl, h3⟩ := hasW_list h1
  obtain ⟨ns, rfl⟩ := items_int h3
  have hlen : ns.length ≤ n := by
    unfold OpenLaw.pre at hc
    have h4 : (WTm.not (.lt (.lit (.int (n : Int))) (.len (.arg 0)))).holds [] { args := [.list (ns.map .int)] } = true := by
      have h4 := (holds_andW hc).1
      rw [hn] at h4
      exact h4
    have h5 := condW_of h4 (w_not (w_lt w_lit (w_len_list (w_arg rfl))))
    rw [List.length_map] at h5
    refine Nat.le_of_not_lt fun q => ?_
    have q' : (n : Int) < ((ns.length : Nat) : Int) := by omega
    first
      | (rw [decide_eq_true q'] at h5; exact absurd h5 (by decide))
      | (simp at h5; omega)
  cases hwl with
  | cons w1 w2 =>
    cases w2
    cases w1 with
    | list ho hall => exact ⟨_, _, ns, rfl, rfl, ho, ints_of_wellAll ns _ hall, hlen⟩

theorem post_true (l : OpenLaw) (args : List WData) : l.row.toRowW.claim.post args (.bool true) args = true :=
  postW_of (r := l.row.toRowW) (X := (true == true))
    (show WShape.has [] (.bool true) .bool = true by first | rfl | decide | simp [WShape.has, WShape.arms, WShape.armsAll])
    (show (WTm.eq .res (.lit (.bool true))).value [] { args := args, res := some (.bool true), after := args } = some (.bool (true == true)) from w_eq_bool (w_res rfl) w_lit) rfl

/-! ### the attachment: holds_open's last premise (the goal 'hc' behind k_head) from a wpAny of the law's body -/
/-- the same from a codeAny of the CALL (for a layer whose function contracts speak of calls) -/
theorem attach_call {l : OpenLaw} {n : Nat} {q : Program} {loose : List Str} {XP : (Str → Option Value) → Heap → Prop} {YP : World → Heap → Prop} {d : DefRec}
    (hn : l.most = some n) (hdf : d.params.defaults = [])
    (call : ∀ (w : World) (s₀ s₁ : Shared) (mg mb : Str → Option Value) (fa : Addr) (o : Obj) (pm cd doc : Value) (a : Addr) (vs : List Value) (ns : List Int),
      Ground q loose [] XP w s₀ mg mb s₁.heap → YP w s₁.heap →
      s₁.heap.get? fa = some o → o.data = .func (docDef d.name d.params d.body d.scope pm cd doc) → s₁.heap.CodeRec cd d.name → mg d.name = some (.ref fa) →
      s₁.heap.get? a = some { cls := .type "list", data := .seq vs.toArray } → IntsAre vs ns → ns.length ≤ n → s₁.gens = #[] →
      codeAny (model l.prog w) callerA (.call (.ref fa) ⟨[.ref a], []⟩) (fun r s' => r = .ok (.ret (.bool true)) ∧ OldK s₁.heap s'.heap ∧ s'.os = s₁.os ∧ AllBare s'.gens) s₁) :
    WalkO q loose XP YP l.row.toRowW d [] (fun f vs => PySem.call f vs) := by
  intro w s₀ s₁ mg mb G Y fa o pm cd doc dV kV ho hd hcd hD hmg hg args vals as hpre hlay hrd hwl hlo
  obtain rfl : dV = .none := Dflts.none hD hdf
  obtain rfl : kV = .none := Dflts.noKw hD
  obtain ⟨a, vs, ns, rfl, rfl, hobj, hints, hlen⟩ := script_of hn hpre hwl
  refine enter_call (codeAny_mono (call w s₀ s₁ mg mb fa o pm cd doc a vs ns G Y ho (fd_plain hd) hcd hmg hobj hints hlen hg) fun r s' hq => ?_)
  obtain ⟨rfl, h2, h3, h4⟩ := hq
  exact ⟨.inl ⟨.bool true, .bool true, [], rfl, fun _ => rfl, .bool true, post_true l _, fun _ => ⟨List.Pairwise.nil, fun _ hm => (nomatch hm)⟩⟩, h2, h3, h4⟩

/-! ### rules over ANY heap (no ledger) from facts about the written part K: the library's own take a ledger (News) for what they write -/
section
variable {prog : Program} {w : World} {A : Around} {E : Value → Shared → Prop} {s : Shared} {K : Frag}

/-! the whole heap as the ledger: makes every rule that writes through a ledger a rule over any heap -/
def ledger (h : Heap) (L d : Addr) : List (Addr × Obj) := (List.range h.objs.size).filterMap fun a => if a = L ∨ a = d then none else (h.get? a).map fun o => (a, o)
end
end Att

namespace L2
open PySem PySem.Spec PyProof.Rows

theorem vals_ints : ∀ {vs : List Value} {ns : List Int}, IntsAre vs ns → Vals (ns.map V.int) vs
  | _, _, .nil => .nil
  | _, _, .cons n t h => .cons ⟨t, rfl⟩ (vals_ints h)

/-- nothing is tracked but the script, known to the object (or it is an object of the module) -/
def Only (H : Hp) : Prop := ∀ b, H b = none ∨ ∃ o xs, H b = some (.frz o (.lst xs))

/-- THE HEAD: the law's promise, at the heap behind the top. F, the promise of the law's def, may use that base is part of the heap (so K.In base, base.Ns mainGlobals mg stand in Mod) -/
theorem law_call {P : Program} {w : World} {K : PySem.W.Frag} {mg mb : Str → Option Value} {CX : CXT} {k : Nat} {fa a : Addr} {fd : FuncData} {x : Str} {sp : Sp} {s₁ : Shared} {vs : List Value} {ns : List Int}
    (KX : K.In s₁.heap) (hns : s₁.heap.Ns mainGlobals mg) (hb : s₁.heap.Ns builtinsNs mb) (hbb : ∀ x : Str, x ≠ "__name__" → mb x = bootBuiltins x) (hlim : s₁.heap.NoLimit) (hg : s₁.gens = #[])
    (ha : s₁.heap.get? a = some { cls := .type "list", data := .seq vs.toArray }) (hi : IntsAre vs ns) (hl : ns.length ≤ sizeLine) (hr : Room k callerA)
    (F : ∀ base : Heap, K.In base → base.Ns mainGlobals mg → FnOk P w K mg base CX k fa fd [x] sp) (hbind : ∀ (s : Shared) (u : Value), BindsTo s fd ⟨[u], []⟩ [(x, u)])
    (hsp : ∀ H : Hp, Only H → SqL K H a (ns.map V.int) → sp [.ref a] H (fun v _ => v = .bl true) fun _ _ _ => False)
    (hCX : ∀ H e s', CX [] H s₁ (fun _ _ _ => False) e s' → False) :
    codeAny (model P w) callerA (.call (.ref fa) ⟨[.ref a], []⟩) (fun r s' => r = .ok (.ret (.bool true)) ∧ OldK s₁.heap s'.heap ∧ s'.os = s₁.os ∧ AllBare s'.gens) s₁ := by
  have rv := vals_ints hi
  have lenV := hi.length
  -- from an abstract heap in which nothing but the script may be tracked
  have core : ∀ H : Hp, Only H → SqL K H a (ns.map V.int) → HOk P w H s₁.heap → (∀ b, H b ≠ none → b = a) → (H a ≠ none → K.lookup a = none) →
      codeAny (model P w) callerA (.call (.ref fa) ⟨[.ref a], []⟩) (fun r s' => r = .ok (.ret (.bool true)) ∧ OldK s₁.heap s'.heap ∧ s'.os = s₁.os ∧ AllBare s'.gens) s₁ := by
    intro H hO hS hok hA hK
    have base_of : ∀ {b : Addr} {o : Obj}, s₁.heap.get? b = some o → H b = none → (hidT s₁.heap H).get? b = some o := fun e n => hidT_get e n
    have noA : ∀ {b : Addr} {o : Obj} {es : Array DictEntry} {ep : Nat}, s₁.heap.get? b = some o → o.data = .dict es ep → H b = none := fun {b o es ep} e d => by
      cases q : H b with
      | none => rfl
      | some u =>
        have e' : b = a := hA b (by rw [q]; simp)
        subst e'
        rw [ha] at e; cases e
        have d' : Data.seq vs.toArray _ = Data.dict es ep := d
        cases d'
    have nsK : ∀ {b : Addr} {m : Str → Option Value}, s₁.heap.Ns b m → (hidT s₁.heap H).Ns b m := fun {b m} ⟨o, es, ep, e, d, r⟩ => ⟨o, es, ep, base_of e (noA e d), d, r⟩
    have hKb : K.In (hidT s₁.heap H) := fun b o e => base_of (KX b o e) (by
      cases q : H b with
      | none => rfl
      | some u =>
        have e' : b = a := hA b (by rw [q]; simp)
        subst e'
        rw [hK (by rw [q]; simp)] at e; cases e)
    have hM : Mod K mg (hidT s₁.heap H) := ⟨hKb, nsK hns, ⟨mb, nsK hb, hbb⟩, let ⟨mc, h1, h2⟩ := hlim; ⟨mc, nsK h1, h2⟩⟩
    have e0 : Env0 P w K mg (hidT s₁.heap H) callerA [] s₁ H := ⟨rfl, hM, fun b o e => of_hidT e, Nat.le_of_eq (hidT_size _ _), trivial, fun b hb => absurd (show b ∈ ([] : List Addr) from hb) (by simp), hok, .of_eq hg⟩
    refine codeAny_mono ((F _ hKb (nsK hns)).run callerA [] s₁ H ⟨[.ref a], []⟩ [.ref a] [.ref a] _ _ hr e0 (hbind s₁ (.ref a)) (.cons rfl .nil) (hsp H hO hS)) fun r s' h => ?_
    cases r with
    | error e => exact (hCX H e s' h).elim
    | ok fl =>
      cases fl with
      | next => exact False.elim h
      | brk => exact False.elim h
      | cont => exact False.elim h
      | ret u =>
        obtain ⟨v, H', os, bare, un, hok', r', q⟩ := h
        have q' : v = .bl true := q
        subst q'
        obtain rfl : u = Value.bool true := r'
        refine ⟨rfl, OldK.of_keep fun b o e => ?_, os, bare⟩
        cases q : H b with
        | none => exact un.keep b o e q (by intro z; exact absurd (show b ∈ ([] : List Addr) from z) (by simp)) (by simp)
        | some u =>
          rcases hO b with z | ⟨ob, xs, z⟩
          · rw [q] at z; cases z
          · have z2 := un.frzs b ob _ z
            obtain ⟨e1, _⟩ := hok b _ z
            obtain ⟨e2, _⟩ := hok' b _ z2
            rw [e] at e1; cases e1
            exact e2
  cases hk : K.lookup a with
  | some o =>
    -- the script is one of the module's own objects
    have e := KX a o hk
    rw [ha] at e
    cases e
    refine core (fun _ => none) (fun _ => .inl rfl) (.inr ⟨_, vs.toArray, _, hk, rfl, rfl, rfl, by rw [List.size_toArray, lenV]; exact hl, by simpa using rv⟩) (fun b u z => by have z' : (none : Option HO) = some u := z; cases z') (fun b z => absurd rfl z) fun z => absurd rfl z
  | none =>
    refine core (fun b => if b = a then some (.frz { cls := .type "list", data := .seq vs.toArray } (.lst (ns.map V.int))) else none) (fun b => ?_) (.inl (.inr ⟨{ cls := .type "list", data := .seq vs.toArray }, if_pos rfl⟩)) (fun b u z => ?_) (fun b z => ?_) fun _ => hk
    · by_cases hb : b = a
      · exact .inr ⟨_, _, if_pos hb⟩
      · exact .inl (if_neg hb)
    · by_cases hb : b = a
      · have z' := (if_pos hb).symm.trans z
        cases z'
        subst hb
        exact ⟨ha, by rw [List.length_map]; exact hl, vs, _, rv, ha⟩
      · have z' := (if_neg hb).symm.trans z
        cases z'
    · by_cases hb : b = a
      · exact hb
      · exact absurd (if_neg hb) z
end L2

namespace L2
open PySem PySem.Spec PyProof.Rows

/-- the goal that k_head leaves (case hc), from the law's promise. F gives the function object fd (K's own) once, then the promise over every base -/
theorem walk_of {l : PySem.W.OpenLaw} {n k : Nat} {q : Program} {loose : List Str} {XP : (Str → Option Value) → Heap → Prop} {YP : World → Heap → Prop} {d : DefRec} {K : Params → PySem.W.Frag} {CX : World → CXT} {sp : World → Sp} {x : Str}
    (hn : l.most = some n) (hn2 : n ≤ sizeLine) (hdf : d.params.defaults = []) (hr : Room k callerA)
    (hY : ∀ (w : World) (h : Heap), YP w h → (K w.params).In h)
    (F : ∀ (w : World) (mg : Str → Option Value) (fa : Addr) (h : Heap), (K w.params).In h → h.Ns mainGlobals mg → mg d.name = some (.ref fa) →
      ∃ fd : FuncData, (∀ (s : Shared) (u : Value), BindsTo s fd ⟨[u], []⟩ [(x, u)]) ∧
        ∀ base : Heap, (K w.params).In base → base.Ns mainGlobals mg → FnOk l.prog w (K w.params) mg base (CX w) k fa fd [x] (sp w))
    (hsp : ∀ (w : World) (H : Hp) (a : Addr) (ns : List Int), ns.length ≤ n → Only H → SqL (K w.params) H a (ns.map V.int) → sp w [.ref a] H (fun v _ => v = .bl true) fun _ _ _ => False)
    (hCX : ∀ (w : World) (H : Hp) (s : Shared) (e : Value) (s' : Shared), CX w [] H s (fun _ _ _ => False) e s' → False) :
    PySem.W.WalkO q loose XP YP l.row.toRowW d [] (fun f vs => PySem.call f vs) := by
  refine Att.attach_call hn hdf fun w s₀ s₁ mg mb fa o pm cd doc a vs ns G Y ho hd hcd hmg hobj hints hlen hg => ?_
  have KX := hY w _ Y
  obtain ⟨fd, hb, hF⟩ := F w mg fa _ KX G.T.g hmg
  exact law_call KX G.T.g G.T.b G.T.builtins G.T.nolimit hg hobj hints (Nat.le_trans hlen hn2) hr hF hb (fun H hO hS => hsp w H a ns hlen hO hS) fun H e s' => hCX w H s₁ e s'
end L2

/-! SHORT WORDS over the layer: a def of the text, its body, what a loop and a test want. -/
namespace L2
open PySem PySem.Spec PyProof.Rows

/-! ### the text by places -/
def defArgs (s : Stmt) : Arguments := match s with
  | .FunctionDef _ a _ _ _ _ _ _ _ _ => a
  | _ => { posonlyargs := [], args := [], vararg := none, kwonlyargs := [], kw_defaults := [], kwarg := none, defaults := [] }
def defBody (s : Stmt) : List Stmt := match s with
  | .FunctionDef _ _ b _ _ _ _ _ _ _ => b
  | _ => []
def defScope (s : Stmt) : Scope := match s with
  | .FunctionDef _ _ _ _ _ _ sc _ _ _ => sc
  | _ => { kind := .function, names := [], isGenerator := false, isCoroutine := false }

/-! ### no exception leaves a def -/
abbrev CX0 : CXT := fun _ _ _ _ _ _ => False
abbrev E0 : XK := fun _ _ _ => False
theorem pass0 {X : Cx} : Passes CX0 X E0 := fun _ _ _ _ _ _ _ h => h.elim

/-! ### a def (or method) of the text as it stands behind the top -/
structure Fun (K : PySem.W.Frag) (x qual : Str) (st : Stmt) (f : Addr) (fd : FuncData) : Prop where
  ex : ∃ (oc : Value) (od : Option Addr) (kV doc pm : Value) (an : Option Addr) (cdv ct : Value) (osl : Array (Option Value)),
    fd = PySem.W.fnOf x qual (defArgs st) (defBody st) (defScope st) .none kV doc pm an cdv ct ∧ K.lookup f = some ⟨oc, od, .func fd, osl⟩ ∧ PySem.W.codeIn K cdv qual = true
  kp : PySem.W.keepIn K (.ref f) = true
section
variable {P : Program} {w : World} {K : PySem.W.Frag} {mg : Str → Option Value} {base : Heap}
/-- THE RULE for a def: its body as a term of rules, and the reading of that term -/
theorem Fun.ok {x qual : Str} {st : Stmt} {f : Addr} {fd : FuncData} {N ps : List Str} {k : Nat} {sp : Sp} (F : Fun K x qual st f fd) (S : FnScope N ps (defScope st)) (len : ∀ vs H Q E, sp vs H Q E → vs.length = ps.length)
    (hbody : ∀ (cdv : Value) (A : Around) (outer : List Env) (s : Shared) (H : Hp) (vs : List V) (Q : VK) (E : XK), Room k (A.deeper (envOfC qual (defScope st) s.heap.objs.size f cdv)) → sp vs H Q E →
      ∃ t, PSs (cxOf CX0 P w K mg base N qual (defScope st) f cdv A outer s H E).nox (defBody st) t ∧ t { nx := fun _ H' => Q .non H', rt := Q } (start N vs) H) : FnOk P w K mg base CX0 (k + 1) f fd ps sp := by
  obtain ⟨oc, od, kV, doc, pm, an, cdv, ct, osl, rfl, lk, hcd⟩ := F.ex
  refine fn_of lk hcd S len fun A outer s H vs Q E hr hsp => ?_
  obtain ⟨t, h, q⟩ := hbody cdv A outer s H vs Q E hr hsp
  exact ⟨t, h.nox, q⟩
/-- how its arguments bind (no defaults): h is «fun _ _ _ _ _ _ us hl => match us, hl with | [_, _], _ => rfl», one _ a parameter -/
theorem Fun.binds {x qual : Str} {st : Stmt} {f : Addr} {fd : FuncData} {ps : List Str} (F : Fun K x qual st f fd)
    (h : ∀ (kV doc pm : Value) (an : Option Addr) (cdv ct : Value) (us : List Value), us.length = ps.length → bindArgs (PySem.W.fnOf x qual (defArgs st) (defBody st) (defScope st) .none kV doc pm an cdv ct) ⟨us, []⟩ = pure (ps.zip us)) : Binds K fd ps [] := by
  obtain ⟨oc, od, kV, doc, pm, an, cdv, ct, osl, rfl, lk, hcd⟩ := F.ex
  exact .all (h kV doc pm an cdv ct)
theorem fun_mk {x qual : Str} {st : Stmt} {f : Addr} {oc : Value} {od an : Option Addr} {osl : Array (Option Value)} {kV doc pm cdv ct : Value} (l : K.lookup f = some ⟨oc, od, .func (PySem.W.fnOf x qual (defArgs st) (defBody st) (defScope st) .none kV doc pm an cdv ct), osl⟩)
    (c : PySem.W.codeIn K cdv qual = true) (k : PySem.W.keepIn K (.ref f) = true) : Fun K x qual st f (PySem.W.fnOf x qual (defArgs st) (defBody st) (defScope st) .none kV doc pm an cdv ct) := ⟨⟨oc, od, kV, doc, pm, an, cdv, ct, osl, rfl, l, c⟩, k⟩
end
theorem hu_of {A : Around} {k : Nat} (hr : Room k A) : A.units + 1 < cLine := Nat.lt_of_le_of_lt (Nat.add_le_add_left (by decide : 1 ≤ 64) _) hr.units
theorem small1000 {n : Nat} (h : n ≤ 1000) : n < sizeLine := Nat.lt_of_le_of_lt h (by decide)

/-! ### expressions in short: the name that stands in the i-th slot -/
section
variable {X : Cx}
theorem pv (i : Nat) {x : Str} {pos : Pos} (hN : X.N[i]? = some x := by rfl) (hv : Vis X.env.scope x := by first | exact Or.inl rfl | exact Or.inr (Or.inl rfl) | exact Or.inr (Or.inr rfl)) (hd : (x == ("__debug__" : Str)) = false := by decide)
    (hcd : (x == ("__classdict__" : Str)) = false := by decide) : PE X (.Name x pos) (tVar i) := pe_var hN hv hd hcd
end

/-! ### tests -/
theorem iteF {A B : Prop} (h : B) : if false = true then A else B := by
  rw [if_neg Bool.false_ne_true]
  exact h
theorem iteT {A B : Prop} (h : A) : if true = true then A else B := by
  rw [if_pos rfl]
  exact h
theorem ite2 {c A B : Prop} [Decidable c] (h1 : c → A) (h2 : ¬ c → B) : if c then A else B := by
  by_cases h : c
  · rw [if_pos h]
    exact h1 h
  · rw [if_neg h]
    exact h2 h
theorem iteNS {c A B : Prop} [Decidable c] (hc : c) (h : B) : if (!decide c) = true then A else B := by
  rw [decide_eq_true hc]
  exact iteF h

/-! ### heaps -/
/-- all that was tracked is as it was -/
def Same (H H' : Hp) : Prop := ∀ b o, H b = some o → H' b = some o
theorem Same.refl (H : Hp) : Same H H := fun _ _ h => h
theorem Same.trans {H H1 H2 : Hp} (a : Same H H1) (b : Same H1 H2) : Same H H2 := fun c o h => b c o (a c o h)
theorem Same.free {H H' : Hp} (e : Same H H') {l : Addr} (h : H' l = Option.none) : H l = Option.none := by
  cases q : H l with
  | none => rfl
  | some o =>
    rw [e l o q] at h
    cases h
theorem Same.seq {K : PySem.W.Frag} {H H' : Hp} {a : Addr} {xs : List V} (e : Same H H') (h : SqL K H a xs) : SqL K H' a xs := by
  rcases h with (h | ⟨o, h⟩) | h
  · exact .inl (.inl (e _ _ h))
  · exact .inl (.inr ⟨o, e _ _ h⟩)
  · exact .inr h

end L2

namespace L2
open PySem PySem.Spec PyProof.Rows

/-! ### lists of pairs as tables -/
section
variable {κ : Type} [DecidableEq κ]
def valV (kvs : List (κ × V)) (k : κ) : Option V := (kvs.find? fun kv => decide (kv.1 = k)).map (·.2)
/-- in its place, or at the end -/
def putK (kvs : List (κ × V)) (k : κ) (v : V) : List (κ × V) :=
  if (kvs.any fun kv => decide (kv.1 = k)) = true then kvs.map (fun kv => if kv.1 = k then (kv.1, v) else kv) else kvs ++ [(k, v)]
def dropK (kvs : List (κ × V)) (k : κ) : List (κ × V) := kvs.filter fun kv => decide (kv.1 ≠ k)

theorem valV_pos {p : κ × V} {r : List (κ × V)} {k : κ} (e : p.1 = k) : valV (p :: r) k = some p.2 := by simp [valV, List.find?_cons, e]
theorem valV_neg {p : κ × V} {r : List (κ × V)} {k : κ} (e : ¬ p.1 = k) : valV (p :: r) k = valV r k := by simp [valV, List.find?_cons, e]
theorem valV_any (k : κ) : ∀ kvs : List (κ × V), (kvs.any fun kv => decide (kv.1 = k)) = (valV kvs k).isSome
  | [] => rfl
  | p :: r => by
    rw [List.any_cons]
    by_cases e : p.1 = k
    · simp only [valV_pos e, decide_eq_true e, Bool.true_or, Option.isSome_some]
    · rw [valV_neg e, decide_eq_false e, Bool.false_or]; exact valV_any k r
theorem valV_map (k j : κ) (y : V) : ∀ kvs : List (κ × V), valV (kvs.map fun kv => if kv.1 = k then (kv.1, y) else kv) j = (valV kvs j).map fun x => if j = k then y else x
  | [] => rfl
  | p :: r => by
    have ih := valV_map k j y r
    rw [List.map_cons]
    by_cases h : p.1 = k
    · rw [if_pos h]
      by_cases e : p.1 = j
      · rw [valV_pos (p := (p.1, y)) e, valV_pos e, Option.map_some, if_pos (e.symm.trans h)]
      · rw [valV_neg (p := (p.1, y)) e, valV_neg e, ih]
    · rw [if_neg h]
      by_cases e : p.1 = j
      · rw [valV_pos (p := p) e, valV_pos e, Option.map_some, if_neg (fun z => h (e.trans z))]
      · rw [valV_neg (p := p) e, valV_neg e, ih]
theorem valV_snoc (k j : κ) (y : V) : ∀ kvs : List (κ × V), valV kvs k = none → valV (kvs ++ [(k, y)]) j = if j = k then some y else valV kvs j
  | [], _ => by
    by_cases e : k = j
    · rw [if_pos e.symm]; exact valV_pos (p := (k, y)) e
    · rw [if_neg (fun z => e z.symm)]; exact valV_neg (p := (k, y)) e
  | p :: r, hn => by
    rw [List.cons_append]
    have hk : ¬ p.1 = k := fun z => by rw [valV_pos z] at hn; cases hn
    rw [valV_neg hk] at hn
    have ih := valV_snoc k j y r hn
    by_cases e : p.1 = j
    · rw [valV_pos e, valV_pos e, if_neg (fun z => hk (e.trans z))]
    · rw [valV_neg e, valV_neg e, ih]
theorem valV_put (kvs : List (κ × V)) (k j : κ) (y : V) : valV (putK kvs k y) j = if j = k then some y else valV kvs j := by
  unfold putK
  by_cases a : (kvs.any fun kv => decide (kv.1 = k)) = true
  · rw [if_pos a, valV_map]
    rw [valV_any] at a
    by_cases e : j = k
    · obtain ⟨x, hx⟩ := Option.isSome_iff_exists.mp a
      rw [if_pos e, e, hx, Option.map_some, if_pos rfl]
    · rw [if_neg e]
      cases valV kvs j with
      | none => rfl
      | some x => rw [Option.map_some, if_neg e]
  · rw [if_neg a]
    refine valV_snoc k j y kvs ?_
    rw [valV_any] at a
    cases q : valV kvs k with
    | none => rfl
    | some x => rw [q] at a; exact (a rfl).elim
theorem length_putK (kvs : List (κ × V)) (k : κ) (v : V) : (putK kvs k v).length ≤ kvs.length + 1 := by
  unfold putK
  split
  · rw [List.length_map]; omega
  · rw [List.length_append, List.length_cons, List.length_nil]; omega
theorem putK_new {kvs : List (κ × V)} {k : κ} (v : V) (h : valV kvs k = none) : putK kvs k v = kvs ++ [(k, v)] := by
  unfold putK
  rw [valV_any, h]
  exact if_neg (by decide)

theorem RelO.isSome_eq {o : Option V} {u : Option Value} (r : RelO o u) : o.isSome = u.isSome := by
  cases o with
  | none => cases u with
    | none => rfl
    | some _ => exact (show False from r).elim
  | some _ => cases u with
    | none => exact (show False from r).elim
    | some _ => rfl
theorem RelO.getD {o : Option V} {u : Option Value} {d : V} {d' : Value} (r : RelO o u) (rd : RelV d d') : RelV (o.getD d) (u.getD d') := by
  cases o with
  | none => cases u with
    | none => exact rd
    | some _ => exact (show False from r).elim
  | some _ => cases u with
    | none => exact (show False from r).elim
    | some _ => exact r

/-- raw tables of the same keys -/
theorem KV.val {kvs : List (κ × V)} {vs : List (κ × Value)} (r : KV kvs vs) (k : κ) : RelO (valV kvs k) (valueAt vs k) := by
  unfold KV at r
  induction r with
  | nil => exact True.intro
  | @cons p q ps qs h t ih =>
    obtain ⟨h1, h2⟩ := h
    by_cases e : p.1 = k
    · have e' : q.1 = k := h1.symm.trans e
      have b : valueAt (q :: qs) k = some q.2 := by simp [valueAt, List.find?_cons, e']
      rw [valV_pos e, b]; exact h2
    · have e' : ¬ q.1 = k := fun z => e (h1.trans z)
      have b : valueAt (q :: qs) k = valueAt qs k := by simp [valueAt, List.find?_cons, e']
      rw [valV_neg e, b]; exact ih
theorem KV.any {kvs : List (κ × V)} {vs : List (κ × Value)} (r : KV kvs vs) (k : κ) : (kvs.any fun kv => decide (kv.1 = k)) = vs.any fun kv => decide (kv.1 = k) := by
  unfold KV at r
  induction r with
  | nil => rfl
  | cons h t ih => rw [List.any_cons, List.any_cons, ih, h.1]
theorem KV.repl {kvs : List (κ × V)} {vs : List (κ × Value)} (r : KV kvs vs) (k : κ) {y : V} {u : Value} (ry : RelV y u) :
    KV (kvs.map fun kv => if kv.1 = k then (kv.1, y) else kv) (vs.map fun kv => if kv.1 = k then (kv.1, u) else kv) := by
  unfold KV at r ⊢
  induction r with
  | nil => exact .nil
  | @cons p q ps qs h t ih =>
    rw [List.map_cons, List.map_cons]
    refine .cons ?_ ih
    obtain ⟨h1, h2⟩ := h
    by_cases e : p.1 = k
    · rw [if_pos e, if_pos (h1.symm.trans e)]; exact ⟨h1, ry⟩
    · rw [if_neg e, if_neg (fun z => e (h1.trans z))]; exact ⟨h1, h2⟩
theorem KV.put {kvs : List (κ × V)} {vs : List (κ × Value)} (r : KV kvs vs) (k : κ) {y : V} {u : Value} (ry : RelV y u) : KV (putK kvs k y) (stored vs k u) := by
  unfold putK stored
  rw [r.any k]
  by_cases e : (vs.any fun kv => decide (kv.1 = k)) = true
  · rw [if_pos e, if_pos e]; exact r.repl k ry
  · rw [if_neg e, if_neg e]; exact Paired.snoc r ⟨rfl, ry⟩
theorem KV.drop {kvs : List (κ × V)} {vs : List (κ × Value)} (r : KV kvs vs) (k : κ) : KV (dropK kvs k) (without vs k) := by
  unfold KV at r ⊢
  unfold dropK without
  induction r with
  | nil => exact .nil
  | @cons p q ps qs h t ih =>
    obtain ⟨h1, h2⟩ := h
    rw [List.filter_cons, List.filter_cons]
    by_cases e : p.1 = k
    · have a : ¬ decide (p.1 ≠ k) = true := by simp [e]
      have b : ¬ decide (q.1 ≠ k) = true := by simp [h1.symm.trans e]
      rw [if_neg a, if_neg b]; exact ih
    · have e' : ¬ q.1 = k := fun z => e (h1.trans z)
      have a : decide (p.1 ≠ k) = true := by simp [e]
      have b : decide (q.1 ≠ k) = true := by simp [e']
      rw [if_pos a, if_pos b]; exact .cons ⟨h1, h2⟩ ih
theorem KV.keys {kvs : List (κ × V)} {vs : List (κ × Value)} (r : KV kvs vs) : kvs.map (·.1) = vs.map (·.1) := by
  unfold KV at r
  induction r with
  | nil => rfl
  | cons h t ih => rw [List.map_cons, List.map_cons, ih, h.1]
theorem KV.length {kvs : List (κ × V)} {vs : List (κ × Value)} (r : KV kvs vs) : kvs.length = vs.length := Paired.length r
end


/-! ### a tracked dict, its keys ints and texts or tuples of these -/
theorem kV_is {P : Program} {w : World} {k : Key} {u : Value} (r : RelV (kV k) u) : (mixKind P w).is k u = true := by
  cases k with
  | inl i => obtain ⟨t, e⟩ := (show ∃ t, u = Value.int i t from r); subst e; exact mixKind_int P w i t
  | inr x => obtain ⟨t, e⟩ := (show ∃ t, u = Value.str x t from r); subst e; exact mixKind_str P w x t
theorem items_are {P : Program} {w : World} : ∀ {ks : List Key} {us : List Value}, Vals (ks.map kV) us → ItemsAre (mixKind P w) ks us
  | [], _, r => by rw [List.map_nil] at r; cases r; exact .nil
  | k :: ks, _, r => by
    rw [List.map_cons] at r
    cases r with
    | cons h t => exact .cons (kV_is h) (items_are t)

/-- raw entries of a dict with tuple keys -/
abbrev KT (H : Hp) : List (List Key × V) → List (List Key × Addr × Value) → Prop := Paired fun p q => p.1 = q.1 ∧ H q.2.1 = some (.tup (p.1.map kV)) ∧ RelV p.2 q.2.2
theorem KT.val {H : Hp} {kvs : List (List Key × V)} {xs : List (List Key × Addr × Value)} (r : KT H kvs xs) (k : List Key) : RelO (valV kvs k) ((atKey xs k).map (·.2)) := by
  induction r with
  | nil => exact True.intro
  | @cons p q ps qs h t ih =>
    obtain ⟨h1, _, h2⟩ := h
    by_cases e : p.1 = k
    · have e' : q.1 = k := h1.symm.trans e
      have b : atKey (q :: qs) k = some q.2 := by simp [atKey, List.find?_cons, e']
      rw [valV_pos e, b]; exact h2
    · have e' : ¬ q.1 = k := fun z => e (h1.trans z)
      have b : atKey (q :: qs) k = atKey qs k := by simp [atKey, List.find?_cons, e']
      rw [valV_neg e, b]; exact ih
theorem KT.repl {H : Hp} {kvs : List (List Key × V)} {xs : List (List Key × Addr × Value)} (r : KT H kvs xs) (k : List Key) {y : V} {u : Value} (ry : RelV y u) :
    KT H (kvs.map fun kv => if kv.1 = k then (kv.1, y) else kv) (xs.map (putAt k u)) := by
  induction r with
  | nil => exact .nil
  | @cons p q ps qs h t ih =>
    rw [List.map_cons, List.map_cons]
    refine .cons ?_ ih
    obtain ⟨h1, h2, h3⟩ := h
    unfold putAt
    by_cases e : p.1 = k
    · rw [if_pos e, if_pos (h1.symm.trans e)]; exact ⟨h1, h2, ry⟩
    · rw [if_neg e, if_neg (fun z => e (h1.trans z))]; exact ⟨h1, h2, h3⟩
theorem KT.put {H : Hp} {kvs : List (List Key × V)} {xs : List (List Key × Addr × Value)} (r : KT H kvs xs) (k : List Key) {b : Addr} {y : V} {u : Value} (hb : H b = some (.tup (k.map kV))) (ry : RelV y u) :
    KT H (putK kvs k y) (storedH xs k b u) := by
  have e : (kvs.any fun kv => decide (kv.1 = k)) = (atKey xs k).isSome := by
    rw [valV_any, (r.val k).isSome_eq, Option.isSome_map]
  unfold putK storedH
  rw [e]
  by_cases q : (atKey xs k).isSome = true
  · rw [if_pos q, if_pos q]; exact r.repl k ry
  · rw [if_neg q, if_neg q]; exact Paired.snoc r ⟨rfl, hb, ry⟩
theorem KT.keeps {H H' : Hp} {kvs : List (List Key × V)} {xs : List (List Key × Addr × Value)} (r : KT H kvs xs) (ht : ∀ b ys, H b = some (.tup ys) → H' b = some (.tup ys)) : KT H' kvs xs :=
  Paired.mapP r fun _ _ z => ⟨z.1, ht _ _ z.2.1, z.2.2⟩

section
variable {P : Program} {w : World} {H : Hp} {h : Heap} {a : Addr}
theorem rd_of {u : HO} (ok : HOk P w H h) (e : Rd H a u) : ObjOk P w H h a u := e.ok ok
theorem dk_rd {kvs : List (Key × V)} (ok : HOk P w H h) (e : Rd H a (.dK kvs)) : kvs.length ≤ sizeLine ∧ (a == sysModules) = false ∧ ∃ vs, KV kvs vs ∧ h.DictOf (mixKind P w) a vs :=
  show ObjOk P w H h a (.dK kvs) from rd_of ok e
theorem dk_of {kvs : List (Key × V)} (ok : HOk P w H h) (e : H a = some (.dK kvs)) : kvs.length ≤ sizeLine ∧ (a == sysModules) = false ∧ ∃ vs, KV kvs vs ∧ h.DictOf (mixKind P w) a vs := dk_rd ok (.inl e)
/-- a tracked tuple of ints and texts is a key -/
theorem key_of {ks : List Key} (ok : HOk P w H h) (e : H a = some (.tup (ks.map kV))) : (tupleKind (mixKind P w)).is h ks a := by
  obtain ⟨_, its, r, o, h1, h2, n, h3⟩ := (show ObjOk P w H h a (.tup (ks.map kV)) from ok a _ e)
  exact ⟨o, its.toArray, n, h1, h2, h3, by simpa using items_are r⟩
theorem dt_rd {kvs : List (List Key × V)} (ok : HOk P w H h) (e : Rd H a (.dT kvs)) : kvs.length ≤ sizeLine ∧ (a == sysModules) = false ∧
    ∃ xs, KT H kvs xs ∧ h.DictOfH (tupleKind (mixKind P w)) a xs := by
  obtain ⟨z, y, xs, r, o, es, ep, h1, h2, h3, h4, h5⟩ := (show ObjOk P w H h a (.dT kvs) from rd_of ok e)
  refine ⟨z, y, xs, r, o, es, ep, h1, h2, h3, h4, fun x hx => ?_, h5⟩
  have all : ∀ {l : List (List Key × V)} {m : List (List Key × Addr × Value)}, KT H l m → ∀ x ∈ m, (tupleKind (mixKind P w)).is h x.1 x.2.1 := by
    intro l m q
    induction q with
    | nil => intro x hx; exact nomatch hx
    | @cons p q ps qs hq t ih =>
      intro x hx
      rcases List.mem_cons.mp hx with e | hx
      · subst e
        exact key_of ok (by rw [← hq.1]; exact hq.2.1)
      · exact ih x hx
  exact all r x hx
theorem dt_of {kvs : List (List Key × V)} (ok : HOk P w H h) (e : H a = some (.dT kvs)) : kvs.length ≤ sizeLine ∧ (a == sysModules) = false ∧
    ∃ xs, KT H kvs xs ∧ h.DictOfH (tupleKind (mixKind P w)) a xs := dt_rd ok (.inl e)
end

/-- what the dict at a holds at the key y -/
def DGet (H : Hp) (a : Addr) (y : V) (r : Option V) : Prop :=
  (∃ kvs k, Rd H a (.dK kvs) ∧ y = kV k ∧ r = valV kvs k) ∨ ∃ kvs k b, Rd H a (.dT kvs) ∧ y = .ref b ∧ H b = some (.tup (k.map kV)) ∧ r = valV kvs k
/-- the heap behind a[y] = v -/
def DPut (H : Hp) (a : Addr) (y v : V) (H' : Hp) : Prop :=
  (∃ kvs k, H a = some (.dK kvs) ∧ y = kV k ∧ kvs.length < sizeLine ∧ H' = upd H a (.dK (putK kvs k v))) ∨
  ∃ kvs k b, H a = some (.dT kvs) ∧ y = .ref b ∧ H b = some (.tup (k.map kV)) ∧ kvs.length < sizeLine ∧ H' = upd H a (.dT (putK kvs k v))
theorem DGet.k {H : Hp} {a : Addr} {kvs : List (Key × V)} {k : Key} (e : H a = some (.dK kvs)) : DGet H a (kV k) (valV kvs k) := .inl ⟨kvs, k, .inl e, rfl, rfl⟩
theorem DGet.t {H : Hp} {a b : Addr} {kvs : List (List Key × V)} {k : List Key} (e : H a = some (.dT kvs)) (eb : H b = some (.tup (k.map kV))) : DGet H a (.ref b) (valV kvs k) := .inr ⟨kvs, k, b, .inl e, rfl, eb, rfl⟩
theorem DPut.k {H : Hp} {a : Addr} {kvs : List (Key × V)} {k : Key} {v : V} (e : H a = some (.dK kvs)) (hl : kvs.length < sizeLine) : DPut H a (kV k) v (upd H a (.dK (putK kvs k v))) := .inl ⟨kvs, k, e, rfl, hl, rfl⟩
theorem DPut.t {H : Hp} {a b : Addr} {kvs : List (List Key × V)} {k : List Key} {v : V} (e : H a = some (.dT kvs)) (eb : H b = some (.tup (k.map kV))) (hl : kvs.length < sizeLine) :
    DPut H a (.ref b) v (upd H a (.dT (putK kvs k v))) := .inr ⟨kvs, k, b, e, rfl, eb, hl, rfl⟩


section
variable {X : Cx} {pins : List (Addr × Obj)} {σ : St} {H : Hp} {s : Shared} {a : Addr} {y v : V} {u r : Value} {o : Option V} {A : Around} {E : Value → Shared → Prop}

theorem Inv.big (I : Inv X pins σ H s) : sysModules < s.heap.objs.size := by
  have h : mainGlobals < s.heap.objs.size := (I.mod.glob.keeps I.bk).lt
  exact Nat.lt_trans (by decide) h

/-- d[y], there -/
theorem d_getItem {Q : Value → Shared → Prop} (hu : A.units + 1 < cLine) (I : Inv X pins σ H s) (g : DGet H a y (some v)) (ry : RelV y u) (h : ∀ w' s', Inv X pins σ H s' → RelV v w' → Q w' s') :
    wpAny (model X.prog X.w) A (getItem (.ref a) u) Q E s := by
  rcases g with ⟨kvs, k, e, ey, l⟩ | ⟨kvs, k, b, e, ey, eb, l⟩
  · subst ey
    obtain ⟨z, hd, vs, rel, dd⟩ := dk_rd I.hok e
    obtain ⟨w', hw, rw'⟩ := RelO.some_of (v := v) (o := valueAt vs k) (by rw [l]; exact rel.val k)
    exact wpAny_getItem_of (kV_is ry) dd.mapOf hw (h w' _ (I.tok _) rw')
  · subst ey
    cases (show u = Value.ref b from ry)
    obtain ⟨z, hd, xs, rel, dd⟩ := dt_rd I.hok e
    obtain ⟨w', hw, rw'⟩ := RelO.some_of (v := v) (o := (atKey xs k).map (·.2)) (by rw [l]; exact rel.val k)
    obtain ⟨p, hp, hp2⟩ := Option.map_eq_some_iff.mp hw
    refine wpAny_getItem_heap (tupleKind_room_in1 hu) (key_of I.hok eb) dd hp ?_
    rw [hp2]
    exact h w' _ (I.tok _) rw'
/-- a dict's object is replaced -/
theorem d_write {h' : Heap} {t' : Nat} {ob : HO} (I : Inv X pins σ H s) (mu : Mut (H a)) (hs : Heap.SameBut a s.heap h') (he : ∃ q, h'.get? a = some q) (new : ObjOk X.prog X.w (upd H a ob) h' a ob) :
    Inv X pins σ (upd H a ob) { s with heap := h', toks := t' } :=
  I.write (x := a) (e := a) mu (.inl rfl) (fun b q hb z => (hs.2 b hb).trans z) he new
theorem dk_new {P : Program} {w : World} {H' : Hp} {h' : Heap} {kvs : List (Key × V)} {vs : List (Key × Value)} (z : kvs.length ≤ sizeLine) (hd : (a == sysModules) = false) (rel : KV kvs vs) (dd : h'.DictOf (mixKind P w) a vs) :
    ObjOk P w H' h' a (.dK kvs) := ⟨z, hd, vs, rel, dd⟩
/-- d[y] = v -/
theorem d_setItem {H' : Hp} {Q : Unit → Shared → Prop} (hu : A.units + 1 < cLine) (I : Inv X pins σ H s) (g : DPut H a y v H') (ry : RelV y u) (rv : RelV v r) (h : ∀ s', Inv X pins σ H' s' → Q () s') :
    wpAny (model X.prog X.w) A (setItem (.ref a) u r) Q E s := by
  rcases g with ⟨kvs, k, e, ey, l, eH⟩ | ⟨kvs, k, b, e, ey, eb, l, eH⟩
  · subst ey eH
    obtain ⟨z, hd, vs, rel, dd⟩ := dk_of I.hok e
    have hz : vs.length ≤ sizeLine := by rw [← rel.length]; exact z
    have hl : (putK kvs k v).length ≤ sizeLine := by have := length_putK kvs k v; omega
    refine wpAny_setItem_pairs (hsz := hz) (kV_is ry) dd fun h' dd' hs => h _ ?_
    have he : ∃ q, h'.get? a = some q := let ⟨q, _, _, hq, _⟩ := dd'; ⟨q, hq⟩
    exact d_write I (by rw [e]; exact True.intro) hs he (dk_new hl hd (rel.put k rv) dd')
  · subst ey eH
    cases (show u = Value.ref b from ry)
    obtain ⟨z, hd, xs, rel, dd⟩ := dt_of I.hok e
    have hz : xs.length ≤ sizeLine := by rw [← Paired.length rel]; exact z
    have hl : (putK kvs k v).length ≤ sizeLine := by have := length_putK kvs k v; omega
    refine wpAny_setItem_heap (hsz := hz) (tupleKind_room_in1 hu) (key_of I.hok eb) dd fun h' dd' hs => h _ ?_
    obtain ⟨q, es, ep, hq, h2, h3, h4, _, h5⟩ := dd'
    refine d_write I (by rw [e]; exact True.intro) hs ⟨q, hq⟩ ⟨hl, hd, _, (rel.put k eb rv).keeps fun c ys ec => ?_, q, es, ep, hq, h2, h3, h4, h5⟩
    rw [upd_ne (ne_of ec e (fun z => nomatch z))]
    exact ec
end

section
variable {X : Cx} {pins : List (Addr × Obj)} {σ : St} {H : Hp} {s : Shared} {a : Addr} {kvs : List (Key × V)} {k : Key} {u : Value} {A : Around} {E : Value → Shared → Prop}
/-- len(d) -/
theorem d_len {Q : Value → Shared → Prop} (I : Inv X pins σ H s) (e : Rd H a (.dK kvs)) (h : ∀ t s', Inv X pins σ H s' → Q (.int kvs.length t) s') : wpAny (model X.prog X.w) A (call (.builtin "len") [.ref a]) Q E s := by
  obtain ⟨z, hd, vs, rel, dd⟩ := dk_rd I.hok e
  refine call_len_dict hd dd (by rw [← rel.length]; rw [sizeLine_eq] at z; omega) ?_
  rw [← rel.length]
  exact h _ _ (I.tok _)
end


/-! ### readings and rules -/
/-- the element of a subscription, not a slice -/
def NoSl (i : Expr) : Prop := ∀ ov iv, subscripted i false ov iv = operate [ov, iv] (getItem ov iv)
theorem subD_of {prog : Program} {w : World} {A : Around} {E : Value → Shared → Prop} {s : Shared} {env : Env} {value slice : Expr} {pos : Pos} {T id : String} {Q : Value → Shared → Prop}
    (hl : typeLookup (.type T) "__getitem__" = pure (some (.builtin id))) (hs : NoSl slice)
    (h : wpAny (model prog w) A (eval value env) (fun o s₁ => wpAny (model prog w) A (eval slice env) (fun i s₂ => s₂.TypeIs o T ∧ wpAny (model prog w) A (getItem o i) Q E s₂) E s₁) E s) :
    wpAny (model prog w) A (eval (.Subscript value slice pos) env) Q E s := by
  refine Subscript_ (wpAny_mono h (fun o s₁ h₁ => wpAny_mono h₁ (fun i s₂ h₂ => ?_) fun _ _ x => x) fun _ _ x => x)
  obtain ⟨hT, h₂⟩ := h₂
  unfold subscriptTail
  refine wpAny_bind ?_
  rw [getitemInPython_of_ne hT.not_modules]
  refine wpAny_bind (wpAny_specialOf hT hl ?_)
  have fin : wpAny (model prog w) A (subscripted slice false o i) (fun r s₃ => wpAny (model prog w) A (letTemporaryGo value o r >>= fun _ => pure r) Q E s₃) E s₂ := by
    rw [hs o i]
    exact wpAny_operating (wpAny_mono h₂ (fun r s₃ h₃ => wpAny_bind (wpAny_letTemporaryGo (wpAny_pure h₃))) fun _ _ x => x)
  first
    | exact wpAny_pure (wpAny_bind fin)
    | exact wpAny_bind (wpAny_pure (wpAny_bind fin))
    | exact wpAny_bind fin

theorem dict_typeIs {X : Cx} {pins : List (Addr × Obj)} {σ : St} {H : Hp} {s : Shared} {a : Addr} {y : V} {o : Option V} (I : Inv X pins σ H s) (g : DGet H a y o) : s.TypeIs (.ref a) "dict" := by
  rcases g with ⟨kvs, k, e, _, _⟩ | ⟨kvs, k, b, e, _, _, _⟩
  · obtain ⟨_, _, vs, _, dd⟩ := dk_rd I.hok e
    exact dd.typeIs
  · obtain ⟨_, _, xs, _, dd⟩ := dt_rd I.hok e
    exact dd.typeIs
/-- d[y] -/
def tDGet (td ty : TE) : TE := fun σ H Q => td σ H fun x H1 => ty σ H1 fun y H2 => ∃ a v, x = .ref a ∧ DGet H2 a y (some v) ∧ Q v H2
/-- d[y] = v -/
def sDPut (td ty tv : TE) : TS := fun D σ H => tv σ H fun v H1 => td σ H1 fun x H2 => ty σ H2 fun y H3 => ∃ a H4, x = .ref a ∧ DPut H3 a y v H4 ∧ D.nx σ H4
section
variable {X : Cx} {o i e value : Expr} {pos pos' tpos : Pos} {td ty tv : TE}
theorem pe_dget (hu : X.A.units + 1 < cLine) (ho : PE X o td) (hi : PE X i ty) (hs : NoSl i) : PE X (.Subscript o i pos) (tDGet td ty) := by
  intro pins s σ H Q I h
  refine subD_of PySem.F.slot_dict_getitem.lookup hs (thn (ho pins s σ H _ I h) fun u s1 ⟨x, H1, I1, rx, q1⟩ => thn (hi pins s1 σ H1 _ I1 q1) fun iv s2 ⟨y, H2, I2, ry, a, v, ex, g, q2⟩ => ?_)
  subst ex
  obtain rfl : u = Value.ref a := rx
  exact ⟨dict_typeIs I2 g, d_getItem hu I2 g ry fun w' s3 I3 rw' => ⟨v, H2, I3, rw', q2⟩⟩
theorem ps_dput (hu : X.A.units + 1 < cLine) (ho : PE X o td) (hi : PE X i ty) (hv : PE X value tv) (hs : swapsWith value (some (.Subscript o i pos')) pos.line X.env = pure false) :
    PS X (.Assign [.Subscript o i pos'] value pos) (sDPut td ty tv) := by
  intro pins s σ H D I h
  refine wpAny_Assign_Subscript (thn (hv pins s σ H _ I h) fun r s1 ⟨v, H1, I1, rv, q1⟩ => thn (ho pins s1 σ H1 _ I1 q1) fun u s2 ⟨x, H2, I2, rx, q2⟩ => thn (hi pins s2 σ H2 _ I2 q2) fun iv s3 ⟨y, H3, I3, ry, a, H4, ex, g, q3⟩ => ?_) hs
  subst ex
  obtain rfl : u = Value.ref a := rx
  exact d_setItem hu I3 g ry rv fun s4 I4 => ⟨σ, H4, I4, q3⟩
end


/-! ### displays -/
theorem dk_empty {P : Program} {w : World} {H : Hp} (h : Heap) (hb : sysModules < h.objs.size) : ObjOk P w H (h.push { cls := .type "dict", data := .dict #[] }) h.objs.size (.dK []) :=
  ⟨Nat.zero_le _, beq_eq_false_iff_ne.mpr (Ne.symm (Nat.ne_of_lt hb)), [], .nil, Heap.DictOf.new h⟩
/-- {}, to be a dict of the kind that is wanted -/
def tDNewK : TE := fun _ H Q => ∀ p, H p = none → Q (.ref p) (upd H p (.dK []))
section
variable {X : Cx} {pos : Pos}
theorem pe_dnewK : PE X (.Dict [] [] pos) tDNewK := fun pins s σ H Q I h =>
  wpAny_Dict_empty ⟨.ref s.heap.objs.size, _, I.laid (a := s.heap.objs.size) (o := .dK []) (t' := s.toks) (fun _ _ q => Heap.get?_push_of_some _ q) (Nat.le_refl _) (dk_empty s.heap I.big), rfl, h _ (I.hok.fresh (Nat.le_refl _))⟩
end

/-! ### methods -/
structure M2 (X : Cx) (o : Expr) (m : Str) (apos : Pos) (e f : Expr) (cpos : Pos) : Prop where
  base : attributeBase o m X.env (eval o X.env) = eval o X.env
  few : ((backTo cpos (starEach [e, f] X.env)).all (fun x => !x.1) && (backToKw cpos (keywordEach [] X.env)).all (fun x => x.1.isSome)
    && decide (([e, f] : List Expr).length + ([] : List Keyword).length + (if ([] : List Keyword).isEmpty then 0 else 1) < 30)) = true
  line : (apos.endLine == cpos.line) = true
  trees : backTo cpos (starEach [e, f] X.env) = [(false, eval e X.env), (false, eval f X.env)]

/-- a is a dict, whatever its keys -/
def IsD (H : Hp) (a : Addr) : Prop := (∃ kvs, Rd H a (.dK kvs)) ∨ ∃ kvs, Rd H a (.dT kvs)
theorem isD_at {X : Cx} {pins : List (Addr × Obj)} {σ : St} {H : Hp} {s : Shared} {a : Addr} (I : Inv X pins σ H s) (d : IsD H a) :
    s.TypeIs (.ref a) "dict" ∧ (∀ b, Value.ref a = .ref b → ∃ ob, s.heap.get? b = some ob ∧ ob.dict = none) ∧ (a == sysModules) = false := by
  rcases d with ⟨kvs, e⟩ | ⟨kvs, e⟩
  · obtain ⟨_, hd, vs, _, dd⟩ := dk_rd I.hok e
    refine ⟨dd.typeIs, fun b q => ?_, hd⟩
    cases q
    obtain ⟨ob, _, _, h1, h2, _⟩ := dd
    exact ⟨ob, h1, h2.2.1⟩
  · obtain ⟨_, hd, xs, _, dd⟩ := dt_rd I.hok e
    refine ⟨dd.typeIs, fun b q => ?_, hd⟩
    cases q
    obtain ⟨ob, _, _, h1, h2, _⟩ := dd
    exact ⟨ob, h1, h2.2.1⟩

section
variable {X : Cx} {pins : List (Addr × Obj)} {σ : St} {H : Hp} {s : Shared} {a : Addr} {y d : V} {u r : Value} {o : Option V} {A : Around} {E : Value → Shared → Prop}
end

section
variable {X : Cx} {o e f : Expr} {apos cpos : Pos} {td ty tx : TE}
end

/-! ### dict(d): a copy -/
section
variable {X : Cx} {pins : List (Addr × Obj)} {σ : St} {H : Hp} {s : Shared} {a : Addr} {kvs : List (Key × V)} {A : Around} {E : Value → Shared → Prop}
end


section
variable {X : Cx} {pins : List (Addr × Obj)} {σ : St} {H : Hp} {s : Shared} {a : Addr} {y : V} {u : Value} {A : Around} {E : Value → Shared → Prop}
end
end L2
namespace L2
open PySem PySem.Spec PyProof.Rows
section
variable {X : Cx}
theorem call_lenD : CallR X (.builtin "len") (fun xs H Q => ∃ a kvs, xs = [V.ref a] ∧ H a = some (.dK kvs) ∧ Q (.int kvs.length) H) := by
  intro pins s σ H xs us Q I r h
  obtain ⟨a, kvs, rfl, ha, q⟩ := h
  obtain ⟨u, rfl, ru⟩ := vals1 r
  cases ru
  exact d_len I (.inl ha) fun t s' I' => ⟨.int kvs.length, H, I', ⟨t, rfl⟩, q⟩
end
/-! ### a dict's pairs: keys that differ -/
section
variable {κ : Type} [DecidableEq κ]
theorem valV_not {kvs : List (κ × V)} {k : κ} (h : valV kvs k = none) : ¬ k ∈ kvs.map (·.1) := by
  intro m
  obtain ⟨p, hp, e⟩ := List.mem_map.mp m
  have q : (kvs.any fun kv => decide (kv.1 = k)) = true := List.any_eq_true.mpr ⟨p, hp, decide_eq_true e⟩
  rw [valV_any, h] at q
  exact absurd q (by simp)
end
end L2

/-! ### list comprehensions over the layer -/
namespace L2
open PySem PySem.Spec PyProof.Rows

theorem closGo {env : Env} : ∀ (names : List (Str × NameKind)), (∀ x ∈ names, x.2 = NameKind.free → ∃ c, env.cells.lookup x.1 = some c) →
    ∀ cs : List (Str × Addr), (∀ x c, cs.lookup x = some c → env.cells.lookup x = some c) →
    ∃ cl : List (Str × Addr), (forIn names cs (fun (x : Str × NameKind) (r : List (Str × Addr)) => (if (x.2 == NameKind.free) = true then do let a ← cellOf env x.1; pure (ForInStep.yield ((x.1, a) :: r)) else pure (ForInStep.yield r) : Sem (ForInStep (List (Str × Addr)))))) = (pure cl : Sem (List (Str × Addr))) ∧
      (∀ x c, cl.lookup x = some c → env.cells.lookup x = some c) ∧ (∀ x, ((x, NameKind.free) ∈ names ∨ ∃ c, cs.lookup x = some c) → ∃ c, cl.lookup x = some c)
  | [], _, cs, hs => ⟨cs, by rw [List.forIn_nil], hs, fun x h => h.elim (fun z => nomatch z) id⟩
  | (n, k) :: r, hf, cs, hs => by
    have hr : ∀ x ∈ r, x.2 = NameKind.free → ∃ c, env.cells.lookup x.1 = some c := fun x hx => hf x (List.mem_cons_of_mem _ hx)
    by_cases hk : k = NameKind.free
    · subst hk
      obtain ⟨a, ha⟩ := hf (n, NameKind.free) List.mem_cons_self rfl
      have hs' : ∀ x c, ((n, a) :: cs).lookup x = some c → env.cells.lookup x = some c := fun x c h => by
        rw [List.lookup_cons] at h
        by_cases hx : x = n
        · subst hx
          simp only [beq_self_eq_true] at h
          rw [← h]; exact ha
        · have : (x == n) = false := beq_eq_false_iff_ne.mpr hx
          rw [this] at h
          exact hs x c h
      obtain ⟨cl, e, h1, h2⟩ := closGo r hr ((n, a) :: cs) hs'
      refine ⟨cl, ?_, h1, fun x h => h2 x ?_⟩
      · rw [List.forIn_cons]
        have e1 : cellOf env n = pure a := by unfold cellOf; rw [show env.cells.lookup n = some a from ha]
        simp only [beq_self_eq_true, if_true, e1]
        exact e
      · rcases h with h | ⟨c, h⟩
        · rcases List.mem_cons.mp h with h | h
          · have : x = n := congrArg Prod.fst h
            subst this
            exact .inr ⟨a, by rw [List.lookup_cons]; simp⟩
          · exact .inl h
        · by_cases hx : x = n
          · subst hx; exact .inr ⟨a, by rw [List.lookup_cons]; simp⟩
          · exact .inr ⟨c, by rw [List.lookup_cons, beq_eq_false_iff_ne.mpr hx]; exact h⟩
    · obtain ⟨cl, e, h1, h2⟩ := closGo r hr cs hs
      refine ⟨cl, ?_, h1, fun x h => h2 x ?_⟩
      · rw [List.forIn_cons]
        have hb : (k == NameKind.free) = false := by simpa using hk
        simp only [hb, Bool.false_eq_true, if_false]
        exact e
      · rcases h with h | h
        · rcases List.mem_cons.mp h with h | h
          · exact absurd (congrArg Prod.snd h).symm hk
          · exact .inl h
        · exact .inr h
theorem clos_of {scope : Scope} {env : Env} (hf : ∀ x ∈ scope.names, x.2 = NameKind.free → ∃ c, env.cells.lookup x.1 = some c) :
    ∃ cl : List (Str × Addr), closureFor scope env = pure cl ∧ (∀ x c, cl.lookup x = some c → env.cells.lookup x = some c) ∧ (∀ x, (x, NameKind.free) ∈ scope.names → ∃ c, cl.lookup x = some c) := by
  obtain ⟨cl, e, h1, h2⟩ := closGo scope.names hf [] (fun x c h => by simp at h)
  refine ⟨cl, ?_, h1, fun x h => h2 x (.inl h)⟩
  unfold closureFor
  show ((forIn scope.names [] (fun (x : Str × NameKind) (r : List (Str × Addr)) => (if (x.2 == NameKind.free) = true then do let a ← cellOf env x.1; pure (ForInStep.yield ((x.1, a) :: r)) else pure (ForInStep.yield r) : Sem (ForInStep (List (Str × Addr)))))) >>= fun s => pure s) = pure cl
  rw [e]
  rfl

/-- names behind relabel -/
theorem relabel_out {env : Env} : ∀ {names : List (Str × NameKind)} {x : Str} {k : NameKind}, (∀ y ∈ names, y.2 ≠ NameKind.cell) →
    (names.map fun (n, k) => if (k == NameKind.free && env.scope.kind == .function && env.kindOf n == some .cell) then (n, NameKind.cell) else (n, k)).lookup x = some k → (k = .cell ∨ k = .free) → (x, NameKind.free) ∈ names
  | [], _, _, _, h, _ => by simp at h
  | (n, kk) :: r, x, k, hc, h, hk => by
    have ih := @relabel_out env r x k (fun y hy => hc y (List.mem_cons_of_mem _ hy))
    have hh := hc (n, kk) List.mem_cons_self
    simp only [List.map_cons] at h
    by_cases hcond : (kk == NameKind.free && env.scope.kind == .function && env.kindOf n == some .cell) = true
    · rw [if_pos hcond, List.lookup_cons] at h
      have hfree : kk = NameKind.free := by
        rw [Bool.and_eq_true, Bool.and_eq_true] at hcond
        simpa using hcond.1.1
      cases hx : x == n with
      | true =>
        have : x = n := by simpa using hx
        subst this; subst hfree
        exact List.mem_cons_self
      | false => rw [hx] at h; exact List.mem_cons_of_mem _ (ih h hk)
    · rw [if_neg hcond, List.lookup_cons] at h
      cases hx : x == n with
      | true =>
        rw [hx] at h
        have hkk : kk = k := Option.some.inj h
        have : x = n := by simpa using hx
        subst this; subst hkk
        rcases hk with z | z
        · exact absurd z hh
        · subst z; exact List.mem_cons_self
      | false => rw [hx] at h; exact List.mem_cons_of_mem _ (ih h hk)
theorem relabel_free {env : Env} : ∀ {names : List (Str × NameKind)} {x : Str}, names.lookup x = some .free →
    let l := (names.map fun (n, k) => if (k == NameKind.free && env.scope.kind == .function && env.kindOf n == some .cell) then (n, NameKind.cell) else (n, k))
    l.lookup x = some .cell ∨ l.lookup x = some .free
  | [], _, h => by simp at h
  | (n, kk) :: r, x, h => by
    have ih := @relabel_free env r x
    simp only [List.map_cons]
    rw [List.lookup_cons] at h
    by_cases hcond : (kk == NameKind.free && env.scope.kind == .function && env.kindOf n == some .cell) = true
    · rw [if_pos hcond, List.lookup_cons]
      cases hx : x == n with
      | true => exact .inl rfl
      | false => rw [hx] at h; exact ih h
    · rw [if_neg hcond, List.lookup_cons]
      cases hx : x == n with
      | true => rw [hx] at h; exact .inr h
      | false => rw [hx] at h; exact ih h

/-- the block's context: names N, the iterator's records at ex -/
abbrev Cx.comp (X : Cx) (N : List Str) (scope : Scope) (cl : List (Str × Addr)) (C : Addr) (s : Shared) (H : Hp) (ex : List Addr) (E : Value → Shared → Prop) : Cx :=
  { X with N := N, s₀ := s, H₀ := H, env := compEnvC scope cl C X.env, outer := X.stack, ex := ex, fn := fun _ => false, pn := [], xe := E }

/-- the tests of a comprehension -/
def PTs (X : Cx) (ifs : List Expr) (t : TT) : Prop :=
  ∀ (pins : List (Addr × Obj)) (s : Shared) (σ : St) (H : Hp) (Q : Bool → Hp → Prop), Inv X pins σ H s → t σ H Q →
    wpAny (model X.prog X.w) X.A (forIn ifs true fun c r => if r = true then do let ok ← isTrue c X.env (eval c X.env); pure (ForInStep.yield ok) else pure (ForInStep.yield r)) (TP X pins σ Q) X.xe s
def tTests0 : TT := fun _ H Q => Q true H
theorem pts_nil {X : Cx} : PTs X [] tTests0 := fun _ _ _ H _ I h => wpAny_tests_nil ⟨H, I, h⟩
theorem pts_one {X : Cx} {c : Expr} {t : TT} (h : PT X c t) : PTs X [c] t := fun pins s σ H Q I hw => wpAny_tests_one (h pins s σ H Q I hw)

/-- the target writes below n alone -/
def GKeep (n : Nat) (g : TG) : Prop := ∀ x σ H Q, g x σ H Q → g x σ H fun σ2 H2 => Q σ2 H2 ∧ σ2.length = σ.length ∧ ∀ i, n ≤ i → σ2[i]? = σ[i]?
theorem gk_name {n i : Nat} (h : i < n) : GKeep n (gName i) := fun x σ H Q q => ⟨q, by simp, fun j hj => by rw [List.getElem?_set_ne (by omega)]⟩
/-- the block's names at the entry: the targets without a value, then what is taken from around -/
def compSt (n : Nat) (caps : List (Nat × Str)) (σ : St) : St := List.replicate n none ++ caps.map fun p => (σ[p.1]?).join
/-- the block's turns over the iterator J, from the heap H1; Q of the new list -/
def CompGo (n : Nat) (caps : List (Nat × Str)) (g : TG) (tt : TT) (te : TE) (σ : St) (Q : VK) (J : It) (H1 : Hp) : Prop :=
  ∃ W : Nat → Nat → List V → Hp → Prop, (∃ m, W 0 m [] H1) ∧ ∀ i m ys H2, W i m ys H2 → ys.length ≤ sizeLine ∧
    ((J.stop i H2 ∧ ∀ p, H2 p = none → Q (.ref p) (upd H2 p (.lst ys))) ∨
    (J.go i H2 ∧ ∃ N : List V → Hp → Prop, (∀ ys' H', N ys' H' → ∃ m', m' < m ∧ W (i + 1) m' ys' H') ∧ ∀ x H3, J.yld i H2 x H3 → g x (compSt n caps σ) H3 fun σ4 H4 => tt σ4 H4 fun c H5 =>
      if c = true then te σ4 H5 fun v H6 => N (ys ++ [v]) H6 else N ys H5))
def tComp (n : Nat) (caps : List (Nat × Str)) (wi : TI) (g : TG) (tt : TT) (te : TE) : TE := fun σ H Q => wi σ H fun J H1 => CompGo n caps g tt te σ Q J H1

/-- a turn of a block without tests whose target is a name -/
theorem turn0 {i : Nat} {x : V} {σ : St} {H : Hp} {A B : St → Hp → Prop} (h : A (σ.set i (some x)) H) : gName i x σ H fun σ4 H4 => tTests0 σ4 H4 fun c H5 => if c = true then A σ4 H5 else B σ4 H5 := by
  show if true = true then A (σ.set i (some x)) H else B (σ.set i (some x)) H
  rw [if_pos rfl]
  exact h
/-- what the scopes must say: of the def (or block) around, of the block -/
def compOk (sc scope : Scope) (N0 tns : List Str) (caps : List (Nat × Str)) : Bool :=
  scope.kind == .function && scope.names.all (fun y => !(y.2 == .cell)) && scope.names.all (fun y => !(y.2 == .local) || scope.names.lookup y.1 == some .local) &&
  scope.names.all (fun y => !(y.2 == .free) || sc.names.lookup y.1 == some .cell) && caps.all (fun p => N0[p.1]? == some p.2 && sc.names.lookup p.2 == some .cell && scope.names.lookup p.2 == some .free)

section
variable {prog : Program} {w : World} {A : Around} {R : Result → Shared → Prop} {s : Shared}
theorem compLoop_gen {elt target iter : Expr} {ifs : List Expr} {scope : Scope} {pos : Pos} {it acc : Value} {env : Env} (I : Nat → Shared → Prop)
    (turn : ∀ n s, I n s → wpAny (model prog w) A (pyNext it) (fun r s₁ => match r with
      | none => R (.ok .next) s₁
      | some v => wpAny (model prog w) A (letOwnedTupleGo target it v) (fun _ s₁ => wpAny (model prog w) A (assign target env v) (fun _ s₂ =>
          wpAny (model prog w) A (forIn ifs true fun c r => if r = true then do let ok ← isTrue c env (eval c env); pure (ForInStep.yield ok) else pure (ForInStep.yield r)) (fun ok s₃ =>
            if ok = true then wpAny (model prog w) A (eval elt env) (fun x s₄ =>
              wpAny (model prog w) A (call (.builtin "list.append") [acc, x]) (fun _ s₅ => ∃ m, m < n ∧ I m s₅) (notedBy (model prog w) A env fun e s' => R (.error e) s') s₄) (notedBy (model prog w) A env fun e s' => R (.error e) s') s₃
            else ∃ m, m < n ∧ I m s₃) (notedBy (model prog w) A env fun e s' => R (.error e) s') s₂) (notedBy (model prog w) A env fun e s' => R (.error e) s') s₁)
            (notedBy (model prog w) A env fun e s' => R (.error e) s') s₁) (notedBy (model prog w) A env fun e s' => R (.error e) s') s)
    (n : Nat) (h : I n s) :
    codeAny (model prog w) A (.compLoop (.ListComp elt [⟨target, iter, ifs, 0⟩] scope pos) 0 it acc env) R s := by
  refine codeAny_loop rfl I (fun n s hI => ?_) n h
  show wpAny _ A ((compTurn (.ListComp elt [⟨target, iter, ifs, 0⟩] scope pos) 0 it acc env).onRaise (fun x => do noteFrame x env; theTreesLotGoes x)) _ _ s
  refine wpAny_noted ?_
  rw [compTurn_list]
  refine wpAny_bind (wpAny_standAt (wpAny_bind (wpAny_mono (turn n s hI) (fun r s₁ h₁ => ?_) fun _ _ h' => h')))
  cases r with
  | none => exact wpAny_pure h₁
  | some v =>
    refine wpAny_bind (wpAny_mono h₁ (fun _ s₁' h₁' => ?_) fun _ _ h' => h')
    refine wpAny_bind (wpAny_mono h₁' (fun _ s₂ h₂ => wpAny_bind (wpAny_mono h₂ (fun ok s₃ h₃ => ?_) fun _ _ h' => h')) fun _ _ h' => h')
    cases ok with
    | false => exact wpAny_pure ⟨rfl, h₃⟩
    | true =>
      exact wpAny_bind (wpAny_bind (wpAny_mono h₃ (fun x s₄ h₄ => wpAny_bind (wpAny_mono h₄ (fun _ s₅ h₅ => wpAny_pure (wpAny_pure ⟨rfl, h₅⟩)) fun _ _ h' => h')) fun _ _ h' => h'))
end

section
variable {X : Cx} {elt tg iter : Expr} {ifs : List Expr} {scope sc : Scope} {pos : Pos} {n : Nat} {tns : List Str} {caps : List (Nat × Str)} {wi : TI} {g : TG} {tt : TT} {te : TE}

/-- what holds behind the block, over the context around: the new list at D, the block's frame at C -/
structure CompEnd (X : Cx) (pins : List (Addr × Obj)) (σ : St) (H3 : Hp) (D C : Addr) (ys : List V) (s' : Shared) : Prop where
  inv : Inv X pins σ (upd H3 D (.lst ys)) s'
  fresh : H3 D = none
  fp : FpOk X pins (upd H3 D (.lst ys)) C
  ns : ∃ m, s'.heap.Ns C m

theorem comp_block {N0 : List Str} (hc : X.calm = true) (hsc : X.env.scope = sc) (hN0 : X.N = N0) (ok : compOk sc scope N0 tns caps = true) (hn : tns.length = n) (hG : GKeep n g)
    (hb : ∀ cl C s H ex E, PG (X.comp (tns ++ caps.map (·.2)) scope cl C s H ex E) tg g ∧ PTs (X.comp (tns ++ caps.map (·.2)) scope cl C s H ex E) ifs tt ∧ PE (X.comp (tns ++ caps.map (·.2)) scope cl C s H ex E) elt te)
    {pins : List (Addr × Obj)} {σ : St} {H : Hp} {s : Shared} {J : It} {fp : List Addr} {it : Addr} {tn : Nat → Heap → Prop} {cl : List (Str × Addr)} {Q : V → Hp → Prop} {RR : Value → Addr → Result → Shared → Prop}
    (I : Inv X pins σ H s) (T : Turn X.prog X.w X.K tg J fp it tn) (t0 : tn 0 s.heap) (hf : ∀ b ∈ fp, FpOk X pins H b)
    (hsub : ∀ x c, cl.lookup x = some c → X.env.cells.lookup x = some c) (hall : ∀ x, (x, NameKind.free) ∈ scope.names → ∃ c, cl.lookup x = some c)
    (W : Nat → Nat → List V → Hp → Prop) {m0 : Nat} (w0 : W 0 m0 [] H)
    (turn : ∀ i m ys H2, W i m ys H2 → ys.length ≤ sizeLine ∧
      ((J.stop i H2 ∧ ∀ p, H2 p = none → Q (.ref p) (upd H2 p (.lst ys))) ∨
      (J.go i H2 ∧ ∃ N : List V → Hp → Prop, (∀ ys' H', N ys' H' → ∃ m', m' < m ∧ W (i + 1) m' ys' H') ∧ ∀ x H3, J.yld i H2 x H3 → g x (compSt n caps σ) H3 fun σ4 H4 => tt σ4 H4 fun c H5 =>
        if c = true then te σ4 H5 fun v H6 => N (ys ++ [v]) H6 else N ys H5)))
    (hRR : ∀ D C ys H3 s', CompEnd X pins σ H3 D C ys s' → Q (.ref D) (upd H3 D (.lst ys)) → RR (.ref D) C (.ok .next) s') {E : Value → Shared → Prop} :
    wpAny (model X.prog X.w) X.A (newList []) (fun acc s₃ => wpAny (model X.prog X.w) X.A (newFunctionEnv scope X.env.globals cl [] X.env.qual none .none (some X.env)) (fun cenv s₄ =>
      codeAny (model X.prog X.w) X.A (.compStart (.ListComp elt [⟨tg, iter, ifs, 0⟩] scope pos) 0 (.ref it) acc { cenv with scope := relabel scope X.env }) (RR acc cenv.locals) s₄) E s₃) E s := by
  subst hsc
  subst hN0
  unfold compOk at ok
  simp only [Bool.and_eq_true, List.all_eq_true] at ok
  obtain ⟨⟨⟨⟨ok1, ok2⟩, ok3⟩, ok4⟩, ok5⟩ := ok
  have hkind : scope.kind = .function := by simpa using ok1
  have hcell : ∀ y ∈ scope.names, y.2 ≠ NameKind.cell := fun y hy => by simpa using ok2 y hy
  refine wpAny_newObj_type (wpAny_newFunctionEnv hcell (by intro y hy; simp at hy) (fun h₁ hns₁ hsb₁ => ?_) hkind)
  dsimp only at hns₁ hsb₁ ⊢
  generalize hH2 : s.heap.push { cls := .type "list", dict := none, data := .seq ([] : List Value).toArray } = H2 at hns₁ hsb₁ ⊢
  have hC : H2.objs.size = s.heap.objs.size + 1 := by rw [← hH2, Heap.size_push]
  have hDC : s.heap.objs.size ≠ H2.objs.size := by rw [hC]; exact Nat.ne_of_lt (Nat.lt_succ_self _)
  have hCle : s.heap.objs.size ≤ H2.objs.size := by rw [hC]; exact Nat.le_succ _
  have below : ∀ b, b < s.heap.objs.size → b ≠ H2.objs.size ∧ b ≠ s.heap.objs.size := fun b hb => ⟨by rw [hC]; exact Nat.ne_of_lt (Nat.lt_succ_of_lt hb), Nat.ne_of_lt hb⟩
  have old : ∀ b o, s.heap.get? b = some o → h₁.get? b = some o := fun b o e => hsb₁.extBut b o (below b (Heap.lt_size e)).1 (Heap.get?_push_of_some _ (hH2 ▸ Heap.get?_push_of_some _ e))
  have hacc : h₁.get? s.heap.objs.size = some { cls := .type "list", data := .seq ([] : List Value).toArray 0 } := hsb₁.extBut _ _ hDC (Heap.get?_push_of_some _ (hH2 ▸ Heap.get?_push_size _ rfl))
  have hst₁ : tn 0 h₁ := T.keep _ _ _ t0 fun b _ o e => old b o e
  -- addresses
  generalize hD : s.heap.objs.size = D at *
  generalize hCe : H2.objs.size = C at *
  have fpLt : ∀ b ∈ fp, b < D := fun b hb => by
    obtain ⟨o, e, _⟩ := T.obj _ _ t0 b hb
    rw [← hD]; exact Heap.lt_size e
  have cellLt : ∀ x c, cl.lookup x = some c → c < D := fun x c e => by
    obtain ⟨v, z⟩ := I.cell x c (hsub x c e)
    rw [← hD]; exact z.lt
  have hDlt : D < C := by omega
  let X' : Cx := X.comp (tns ++ caps.map (·.2)) scope cl C s H fp (notedBy (model X.prog X.w) X.A (compEnvC scope cl C X.env) fun e s' => RR (.ref D) C (.error e) s')
  have okX : X'.Ok := by
    refine ⟨I.ok.mod, hkind, I.ok.glob, I.ok.blt, by show s.heap.objs.size ≤ C; omega, fun x y c h1 h2 => I.ok.inj x y c (hsub x c h1) (hsub y c h2), fun x hx => ?_, fun x c hx => (by cases hx), I.ok.hd, I.ok.frames, .inl rfl, fun b hb => ?_, I.bs, Nat.le_trans I.ok.bsz I.sz, fun b o e hb => ?_, fun b hb hz => ?_, I.stack, I.stkFree⟩
    · have hx' : (relabel scope X.env).names.lookup x = some .cell ∨ (relabel scope X.env).names.lookup x = some .free := hx
      rcases hx' with z | z
      · exact hall x (relabel_out hcell z (.inl rfl))
      · exact hall x (relabel_out hcell z (.inr rfl))
    · refine ⟨Nat.ne_of_lt (Nat.lt_trans (fpLt b hb) hDlt), fun x c e z => ?_⟩
      exact (hf b hb).2.2.2.2.1 x c (hsub x c e) z
    · rcases (hf b hb).2.2.2.1 with z | z
      · exact I.ok.noex b o e z
      · exact absurd (Nat.lt_of_lt_of_le (Heap.lt_size e) (Nat.le_trans I.ok.bsz z)) (Nat.lt_irrefl _)
    · rcases List.mem_cons.mp (I.stkSub b hz) with z | z
      · exact (hf b hb).2.1 z
      · exact (hf b hb).2.2.1 z
  have lenc : (compSt n caps σ).length = (tns ++ caps.map (·.2)).length := by unfold compSt; simp [hn]
  have I1 : ∀ tk, Inv X' [] (compSt n caps σ) H { s with heap := h₁, toks := tk } := fun tk => by
    refine ⟨okX, rfl, I.bare, Un.kept old, ⟨_, hns₁, fun i x v e1 e2 e3 => ?_⟩, fun x c e => ?_, I.hok.fresh (by rw [hD]; exact Nat.le_of_lt hDlt), fun x c e => I.freeC x c (hsub x c e), fun p hp => absurd (show p ∈ ([] : List (Addr × Obj)) from hp) (by simp), I.hok.kept old, lenc⟩
    · have hi : n ≤ i := by
        by_cases h : n ≤ i
        · exact h
        · have e2' : (compSt n caps σ)[i]? = some (some v) := e2
          unfold compSt at e2'
          rw [List.getElem?_append_left (by simp; omega), List.getElem?_replicate] at e2'
          split at e2' <;> cases e2'
      have e2' : (compSt n caps σ)[i]? = some (some v) := e2
      unfold compSt at e2'
      rw [List.getElem?_append_right (by simpa using hi), List.length_replicate, List.getElem?_map] at e2'
      have e1' : (tns ++ caps.map (·.2))[i]? = some x := e1
      rw [List.getElem?_append_right (by rw [hn]; exact hi), hn, List.getElem?_map] at e1'
      cases hcp : caps[i - n]? with
      | none => rw [hcp] at e2'; cases e2'
      | some p =>
        rw [hcp] at e2' e1'
        simp only [Option.map_some, Option.some.injEq] at e2' e1'
        have hp5 := ok5 p (List.mem_of_getElem? hcp)
        simp only [beq_iff_eq] at hp5
        obtain ⟨⟨p1, p2⟩, p3⟩ := hp5
        have hσ : σ[p.1]? = some (some v) := by
          cases hq : σ[p.1]? with
          | none => rw [hq] at e2'; cases e2'
          | some o => rw [hq] at e2'; simp at e2'; rw [e2']
        subst e1'
        obtain ⟨m, hm, hl⟩ := I.loc
        obtain ⟨u, r, l⟩ := hl p.1 p.2 v p1 hσ (.inr (.inl p2))
        refine ⟨u, r, .inr ?_⟩
        rcases l with ⟨k, _⟩ | ⟨k, c, e, z⟩
        · have k' : X.env.scope.names.lookup p.2 = some .local := k
          rw [p2] at k'; cases k'
        · obtain ⟨c', e'⟩ := hall p.2 (PySem.mem_of_lookup p3)
          have := hsub _ _ e'
          rw [e] at this; cases this
          obtain ⟨o, ho, hd⟩ := z
          exact ⟨relabel_free (env := X.env) p3, c, e', ⟨o, old _ _ ho, hd⟩⟩
    · obtain ⟨v, o, ho, hd⟩ := I.cell x c (hsub x c e)
      exact ⟨v, o, old _ _ ho, hd⟩
  obtain ⟨hg, ht, he⟩ := hb cl C s H fp X'.xe
  have hg : PG X' tg g := hg
  have ht : PTs X' ifs tt := ht
  have he : PE X' elt te := he
  have FD : ∀ (H' : Hp) (obj : Obj), H' D = none → (∀ b ∈ fp, H' b = none) → ∀ b ∈ fp, FpOk X' [(D, obj)] H' b := fun H' obj hD' hn' b hb => by
    refine ⟨hn' b hb, Nat.ne_of_lt (Nat.lt_trans (fpLt b hb) hDlt), fun hz => ?_, .inl hb, fun x c e z => (hf b hb).2.2.2.2.1 x c (hsub x c e) z, fun p hp z => ?_⟩
    · exact okX.exfs b hb hz
    · have hp' : p = (D, obj) := by simpa using (show p ∈ [] ++ [(D, obj)] from hp)
      subst hp'
      have := fpLt b hb
      exact Nat.lt_irrefl b (by rw [← z] at this; exact absurd this (Nat.lt_irrefl _))
  have fsLt : ∀ b ∈ X'.fs, b < D := fun b hb => by
    obtain ⟨_, o, ho, _⟩ := I.stack.mem hb
    rw [← hD]; exact Heap.lt_size ho
  have loop : ∀ s₃ : Shared, (∃ tk, s₃ = { s with heap := h₁, toks := tk }) →
      codeAny (model X.prog X.w) X.A (.compLoop (.ListComp elt [⟨tg, iter, ifs, 0⟩] scope pos) 0 (.ref it) (.ref D) (compEnvC scope cl C X.env)) (RR (.ref D) C) s₃ := by
    rintro s₃ ⟨tk, rfl⟩
    refine compLoop_gen (env := compEnvC scope cl C X.env)
      (fun m s' => ∃ i H' ys its k, Inv X' [] (compSt n caps σ) H' s' ∧ tn i s'.heap ∧ (∀ b ∈ fp, H' b = none) ∧ s'.heap.get? D = some { cls := .type "list", data := .seq (List.toArray its) k } ∧ H' D = none ∧ Vals ys its ∧ W i m ys H') ?_ m0
      ⟨0, H, [], [], 0, I1 tk, hst₁, fun b hb => (hf b hb).1, hacc, I.hok.fresh (by rw [hD]; exact Nat.le_refl _), .nil, w0⟩
    rintro m s3 ⟨i, H3, ys, its, k, I3, st3, fr3, hL, hDn, rv, w3⟩
    have hne : D ≠ C := Nat.ne_of_lt hDlt
    have I3' : Inv X' [(D, { cls := .type "list", data := .seq (List.toArray its) k })] (compSt n caps σ) H3 s3 := I3.pins_of fun p hp => by
      have hp' : p = (D, { cls := .type "list", data := .seq (List.toArray its) k }) := by simpa using hp
      subst hp'
      exact ⟨hL, hDn, hne, fun hz => absurd (fsLt _ hz) (Nat.lt_irrefl _), fun v z => by cases z⟩
    obtain ⟨hz, cs⟩ := turn i m ys H3 w3
    rcases cs with ⟨stop, qn⟩ | ⟨go, NN, hNN, step⟩
    · refine thn (T.done X' rfl rfl rfl hc i _ s3 _ H3 X'.xe I3' (FD H3 _ hDn fr3) st3 stop) fun r s4 ⟨hr, I4⟩ => ?_
      subst hr
      have hL4 := (I4.pin (D, { cls := .type "list", data := .seq (List.toArray its) k }) (List.mem_append_right _ List.mem_cons_self)).1
      obtain ⟨mm, hnsC, _⟩ := id I4.loc
      refine hRR D C ys H3 s4 ⟨?_, hDn, ?_, mm, hnsC⟩ (qn D hDn)
      · refine I.call' (ch := fp) I4.os ?_ ?_ I4.bare fun b hb => ⟨(hf b hb).2.2.2.1, (hf b hb).2.1, (hf b hb).2.2.2.2.1, (hf b hb).2.2.2.2.2⟩
        · have u : Un (frs X.stack) fp H H3 s.heap s4.heap := I4.base
          refine ⟨u.keep, u.slot, fun b o e nn hx => ?_, u.there, fun b xs e => ?_, fun b o xs e => ?_, fun b ps e => ?_⟩
          · rw [upd_ne (Nat.ne_of_lt (show b < D by rw [← hD]; exact Heap.lt_size e))]; exact u.free b o e nn hx
          · have := u.tups b xs e
            rw [upd_ne (ne_of_none this hDn)]; exact this
          · have := u.frzs b o xs e
            rw [upd_ne (ne_of_none this hDn)]; exact this
          · obtain ⟨more, this⟩ := u.tbls b ps e
            exact ⟨more, by rw [upd_ne (ne_of_none this hDn)]; exact this⟩
        · intro a o e
          by_cases ha : a = D
          · subst ha
            rw [upd_same] at e; cases e
            exact ⟨hz, its, k, rv, hL4⟩
          · rw [upd_ne ha] at e
            exact (I4.hok a o e).stay (fun b u _ q => q) (fun b q => by rw [upd_ne (ne_of_none q hDn)]; exact q) fun b xs q => by rw [upd_ne (ne_of_none q hDn)]; exact q
      · refine ⟨by rw [upd_ne (Ne.symm hne)]; exact I4.free, Nat.ne_of_gt (Nat.lt_trans (show X.env.locals < D by rw [← hD]; exact I.lt) hDlt), fun hz => ?_, .inr (Nat.le_trans I.sz (Nat.le_of_lt (by rw [hD]; exact hDlt))), fun x c e z => ?_, fun p hp z => ?_⟩
        · obtain ⟨_, o, ho, _⟩ := I.ok.funs.mem hz
          exact absurd (Nat.lt_trans hDlt (show C < D from Nat.lt_of_lt_of_le (Heap.lt_size ho) (by rw [← hD]; exact I.sz))) (Nat.lt_irrefl _)
        · obtain ⟨v, q⟩ := I.cell x c e
          exact absurd (Nat.lt_trans hDlt (show C < D by rw [← hD, ← z]; exact q.lt)) (Nat.lt_irrefl _)
        · exact absurd (Nat.lt_trans hDlt (show C < D by rw [← hD, ← z]; exact Heap.lt_size (I.pin p hp).1)) (Nat.lt_irrefl _)
    · refine thn (T.item X' rfl rfl rfl hc i _ s3 _ H3 X'.xe I3' (FD H3 _ hDn fr3) st3 go) fun r s4 ⟨u, hr, h4⟩ => ?_
      subst hr
      refine thn h4 fun _ s5 ⟨x, H5, I5, r5, y5, st5, fr5⟩ => ?_
      have hD5 : H5 D = none := (I5.pin (D, { cls := .type "list", data := .seq (List.toArray its) k }) (List.mem_append_right _ List.mem_cons_self)).2.1
      have I5' := I5.pinned (FD H5 _ hD5 fr5) (T.obj _ _ st5)
      refine thn (hg _ s5 _ H5 x u _ I5' r5 (hG _ _ _ _ (step x H5 y5))) fun _ s6 ⟨σ6, H6, I6, q6, l6, k6⟩ => ?_
      refine thn (ht _ s6 σ6 H6 _ I6 q6) fun c s7 ⟨H7, I7, q7⟩ => ?_
      have wk : ∀ (j : Nat) v, (compSt n caps σ)[j]? = some (some v) → σ6[j]? = some (some v) := fun j v e => by
        by_cases hj : n ≤ j
        · rw [k6 j hj]; exact e
        · unfold compSt at e
          rw [List.getElem?_append_left (by simp; omega), List.getElem?_replicate] at e
          split at e <;> cases e
      have keepT : ∀ {h' : Heap}, (∀ b ∈ fp, ∀ o, s5.heap.get? b = some o → h'.get? b = some o) → tn (i + 1) h' := fun kk => T.keep _ _ _ st5 kk
      cases c with
      | false =>
        rw [if_neg Bool.false_ne_true] at q7
        rw [if_neg Bool.false_ne_true]
        obtain ⟨m', hm, w7⟩ := hNN _ _ q7
        refine ⟨m', hm, i + 1, H7, ys, its, k, ((I7.pins_of (pins' := []) fun p hp => by simp at hp).weak l6.symm wk), keepT fun b hb o e => (I7.pin (b, o) (List.mem_append_right _ (List.mem_append_right _ (mem_pinsAt hb e)))).1, fun b hb => ?_, (I7.pin (D, { cls := .type "list", data := .seq (List.toArray its) k }) (List.mem_append_right _ (List.mem_append_left _ List.mem_cons_self))).1, (I7.pin (D, { cls := .type "list", data := .seq (List.toArray its) k }) (List.mem_append_right _ (List.mem_append_left _ List.mem_cons_self))).2.1, rv, w7⟩
        obtain ⟨o, e, _⟩ := T.obj _ _ st5 b hb
        exact (I7.pin (b, o) (List.mem_append_right _ (List.mem_append_right _ (mem_pinsAt hb e)))).2.1
      | true =>
        rw [if_pos rfl] at q7
        rw [if_pos rfl]
        refine thn (he _ s7 σ6 H7 _ I7 q7) fun v8 s8 ⟨y8, H8, I8, r8, n8⟩ => ?_
        obtain ⟨m', hm, w8⟩ := hNN _ _ n8
        have hL8 := (I8.pin (D, { cls := .type "list", data := .seq (List.toArray its) k }) (List.mem_append_right _ (List.mem_append_left _ List.mem_cons_self))).1
        have hD8 := (I8.pin (D, { cls := .type "list", data := .seq (List.toArray its) k }) (List.mem_append_right _ (List.mem_append_left _ List.mem_cons_self))).2.1
        refine call_meets F.slot_list_append ⟨_, hL8, rfl⟩ F.entry_list_append (F.args_list_append_2 _ _) (PySem.list_append D (List.toArray its) k v8 (by rw [List.size_toArray, ← rv.length]; exact hz)) ⟨hL8, ?_⟩
        have q := PySem.IsL.update hL8 (·.push v8)
        have I9 : Inv X' (pinsAt fp s5.heap) σ6 H8 s8 := I8.pins_of fun p hp => I8.pin p (List.mem_append_right _ (List.mem_append_right _ hp))
        have I10 := I9.turned (t' := s8.toks) (h' := s8.heap.update D (Obj.mapSeq (·.push v8))) (it := D) (fun b o hb' e => (Heap.get?_update_other s8.heap _ (Ne.symm hb')).trans e) hD8 hne (.inr (by show s.heap.objs.size ≤ D; omega))
          (fun x c e => Nat.ne_of_lt (cellLt x c e)) (fun p hp z => by
            have hp' : p ∈ pinsAt fp s5.heap := (List.mem_append.mp hp).elim (fun q => absurd (show p ∈ ([] : List (Addr × Obj)) from q) (by simp)) id
            have := fpLt p.1 (of_pinsAt hp').1
            rw [z] at this
            exact absurd this (Nat.lt_irrefl _))
        refine ⟨m', hm, i + 1, H8, ys ++ [y8], its ++ [v8], (if (its ++ [v8]).toArray.size == (List.toArray its).size then k else k + 1), ((I10.pins_of (pins' := []) fun p hp => by simp at hp).weak l6.symm wk), keepT fun b hb o e => (I10.pin (b, o) (List.mem_append_right _ (mem_pinsAt hb e))).1, fun b hb => ?_, ?_, hD8, rv.append (.cons r8 .nil), w8⟩
        · obtain ⟨o, e, _⟩ := T.obj _ _ st5 b hb
          exact (I10.pin (b, o) (List.mem_append_right _ (mem_pinsAt hb e))).2.1
        · have e : (List.toArray its).push v8 = (its ++ [v8]).toArray := by simp
          have q' : (s8.heap.update D (Obj.mapSeq (·.push v8))).get? D = some { cls := .type "list", data := .seq ((List.toArray its).push v8) (if ((List.toArray its).push v8).size == (List.toArray its).size then k else k + 1) } := q
          rw [e] at q'
          exact q'
  exact codeAny_compStart_list (loop _ ⟨_, rfl⟩) (T.self _ 0 _ _ _ hst₁ (loop _ ⟨_, rfl⟩))

/-- [e for t in i if c] -/
theorem pe_comp (sc : Scope) (N0 : List Str) (tns : List Str) (caps : List (Nat × Str)) (hc : X.calm = true) (hi : PI X tg iter wi) (hG : GKeep tns.length g)
    (hb : ∀ cl C s H ex E, PG (X.comp (tns ++ caps.map (·.2)) scope cl C s H ex E) tg g ∧ PTs (X.comp (tns ++ caps.map (·.2)) scope cl C s H ex E) ifs tt ∧ PE (X.comp (tns ++ caps.map (·.2)) scope cl C s H ex E) elt te)
    (hsc : X.env.scope = sc := by rfl) (hN0 : X.N = N0 := by rfl) (ok : compOk sc scope N0 tns caps = true := by decide +kernel)
    (hs : ∀ x, foldedSetIterable iter X.env x = pure x := by intro _; rfl) :
    PE X (.ListComp elt [⟨tg, iter, ifs, 0⟩] scope pos) (tComp tns.length caps wi g tt te) := by
  intro pins s σ H Q I h
  have ok' := ok
  unfold compOk at ok'
  simp only [Bool.and_eq_true, List.all_eq_true] at ok'
  obtain ⟨⟨⟨⟨ok1, ok2⟩, ok3⟩, ok4⟩, ok5⟩ := ok'
  obtain ⟨cl, ecl, hsub, hall⟩ := clos_of (scope := scope) (env := X.env) fun x hx hfr => by
    have := ok4 x hx
    rw [hfr] at this
    have z : sc.names.lookup x.1 = some .cell := by simpa using this
    exact I.ok.has x.1 (.inl (by show X.env.scope.names.lookup x.1 = _; rw [hsc]; exact z))
  rw [eval_ListComp]
  refine wpAny_comprehension_free (use := none) rfl hs ecl (by simpa using ok1) (fun x hx hl => by have := ok3 x hx; rw [hl] at this; simpa using this) (thn (hi pins s σ H _ I h) fun xv s₁ h₁ => thn h₁ fun itv s₂ h₂ => ?_)
  obtain ⟨it, fp, tn, J, H', rfl, I2, T, st2, f2, W, ⟨m0, w0⟩, turn⟩ := h₂
  refine comp_block (RR := fun acc C => compPost (model X.prog X.w) X.A X.xe none (EP X pins σ Q) acc C) hc hsc hN0 ok rfl hG hb I2 T st2 f2 hsub hall W w0 turn ?_
  intro D C ys H3 s' ce q
  obtain ⟨mm, hns⟩ := ce.ns
  refine ⟨mm, hns, fun h' hs' => ⟨.ref D, _, ?_, rfl, q⟩⟩
  obtain ⟨c0, c1, c2, c3, c4, c5⟩ := ce.fp
  exact ce.inv.turned (t' := s'.toks) (fun b o hb' e => (hs'.extBut b o hb' e)) c0 c1 c3 c4 c5

/-- x = [e for t in i if c] -/
theorem ps_comp {x : Str} {px spos : Pos} (j : Nat) (sc : Scope) (N0 : List Str) (tns : List Str) (caps : List (Nat × Str)) (hc : X.calm = true) (hN : X.N.Nodup) (hj : X.N[j]? = some x) (hx : X.env.scope.names.lookup x = some .local) (hi : PI X tg iter wi) (hG : GKeep tns.length g)
    (hb : ∀ cl C s H ex E, PG (X.comp (tns ++ caps.map (·.2)) scope cl C s H ex E) tg g ∧ PTs (X.comp (tns ++ caps.map (·.2)) scope cl C s H ex E) ifs tt ∧ PE (X.comp (tns ++ caps.map (·.2)) scope cl C s H ex E) elt te)
    (hsc : X.env.scope = sc := by rfl) (hN0 : X.N = N0 := by rfl) (ok : compOk sc scope N0 tns caps = true := by decide +kernel)
    (hsw : swapsWith (.ListComp elt [⟨tg, iter, ifs, 0⟩] scope pos) (some (.Name x px)) spos.line X.env = pure true := by rfl)
    (hs : ∀ x, foldedSetIterable iter X.env x = pure x := by intro _; rfl) :
    PS X (.Assign [.Name x px] (.ListComp elt [⟨tg, iter, ifs, 0⟩] scope pos) spos) (tAsg (tComp tns.length caps wi g tt te) (gName j)) := by
  intro pins s σ H D I h
  have ok' := ok
  unfold compOk at ok'
  simp only [Bool.and_eq_true, List.all_eq_true] at ok'
  obtain ⟨⟨⟨⟨ok1, ok2⟩, ok3⟩, ok4⟩, ok5⟩ := ok'
  obtain ⟨cl, ecl, hsub, hall⟩ := clos_of (scope := scope) (env := X.env) fun x hx hfr => by
    have := ok4 x hx
    rw [hfr] at this
    have z : sc.names.lookup x.1 = some .cell := by simpa using this
    exact I.ok.has x.1 (.inl (by show X.env.scope.names.lookup x.1 = _; rw [hsc]; exact z))
  rw [exec_Assign_Name_used _ _ _ _ hsw]
  refine wpAny_bind (wpAny_standAt (wpAny_bind ?_))
  show wpAny _ _ (do let _ ← comprehension (.ListComp elt [⟨tg, iter, ifs, 0⟩] scope pos) scope X.env _ (newList []) false (eval iter X.env) (some (assign (.Name x px) X.env))) _ _ s
  refine wpAny_bind (thn (wpAny_comprehension_free (use := some (assign (.Name x px) X.env)) (Q := fun _ s' => SP X pins D .next s') rfl hs ecl (by simpa using ok1) (fun x hx hl => by have := ok3 x hx; rw [hl] at this; simpa using this)
    (thn (hi pins s σ H _ I h) fun xv s₁ h₁ => thn h₁ fun itv s₂ h₂ => ?_)) fun _ s' hq => wpAny_pure (wpAny_pure hq))
  obtain ⟨it, fp, tn, J, H', rfl, I2, T, st2, f2, W, ⟨m0, w0⟩, turn⟩ := h₂
  refine comp_block (Q := fun v H1 => gName j v σ H1 D.nx) (RR := fun acc C => compPost (model X.prog X.w) X.A X.xe (some (assign (.Name x px) X.env)) (fun _ s' => SP X pins D .next s') acc C) hc hsc hN0 ok rfl hG hb I2 T st2 f2 hsub hall W w0 turn ?_
  intro DD C ys H3 s' ce q
  obtain ⟨mm, hns⟩ := ce.ns
  obtain ⟨c0, c1, c2, c3, c4, c5⟩ := ce.fp
  show wpAny _ _ (assign (.Name x px) X.env (.ref DD)) _ _ _
  refine wpAny_assign_Name (store_ok2 ce.inv hN hj (.inl hx) (v := .ref DD) rfl (fun s2 I2 chg => ?_) (.inr hx))
  obtain ⟨c, hsb, hcc⟩ := chg
  have hCc : C ≠ c := by
    rcases hcc with z | z
    · rw [z]; exact c1
    · exact fun e => c4 x c z e.symm
  refine ⟨mm, ?_, fun h' hs' => ?_⟩
  · obtain ⟨o, es, ep, ho, r⟩ := hns
    exact ⟨o, es, ep, (hsb.2 C hCc).trans ho, r⟩
  · exact ⟨_, _, I2.turned (t' := s2.toks) (fun b o hb' e => (hs'.extBut b o hb' e)) c0 c1 c3 c4 c5, q⟩
end

/-! ### the forms one uses -/
section
variable {K : PySem.W.Frag} {a : Addr} {xs : List V} {n : Nat} {caps : List (Nat × Str)} {g : TG} {tt : TT} {te : TE} {σ : St} {H : Hp} {Q : V → Hp → Prop}
theorem comp_list (Pv : Nat → List V → Hp → Prop) (h0 : Pv 0 [] H) (hl : ∀ i ys H, i ≤ xs.length → Pv i ys H → SqL K H a xs ∧ ys.length ≤ sizeLine)
    (hs : ∀ i x ys H, xs[i]? = some x → Pv i ys H → g x (compSt n caps σ) H fun σ4 H4 => tt σ4 H4 fun c H5 => if c = true then te σ4 H5 fun v H6 => Pv (i + 1) (ys ++ [v]) H6 else Pv (i + 1) ys H5)
    (hd : ∀ ys H p, Pv xs.length ys H → H p = none → Q (.ref p) (upd H p (.lst ys))) :
    CompGo n caps g tt te σ Q (Itl K a) H := by
  refine ⟨fun i m ys H => m = xs.length - i ∧ i ≤ xs.length ∧ Pv i ys H, ⟨xs.length, by simp, Nat.zero_le _, h0⟩, ?_⟩
  rintro i m ys H2 ⟨rfl, hi, p⟩
  obtain ⟨q, hz⟩ := hl i ys H2 hi p
  refine ⟨hz, ?_⟩
  by_cases hlt : i < xs.length
  · refine .inr ⟨⟨xs, xs[i], q, by simp [hlt]⟩, Pv (i + 1), fun ys' H' p' => ⟨xs.length - (i + 1), by omega, rfl, hlt, p'⟩, fun x H' y => ?_⟩
    obtain ⟨e, y⟩ := y
    subst e
    exact hs i x ys _ (y xs q) p
  · have e : i = xs.length := by omega
    subst e
    exact .inl ⟨⟨xs, q, Nat.le_refl _⟩, fun p' hp' => hd ys H2 p' p hp'⟩
theorem comp_range {lo : Int} {k : Nat} (Pv : Nat → List V → Hp → Prop) (h0 : Pv 0 [] H) (hl : ∀ i ys H, i ≤ k → Pv i ys H → ys.length ≤ sizeLine)
    (hs : ∀ i ys H, i < k → Pv i ys H → g (.int (lo + i)) (compSt n caps σ) H fun σ4 H4 => tt σ4 H4 fun c H5 => if c = true then te σ4 H5 fun v H6 => Pv (i + 1) (ys ++ [v]) H6 else Pv (i + 1) ys H5)
    (hd : ∀ ys H p, Pv k ys H → H p = none → Q (.ref p) (upd H p (.lst ys))) :
    CompGo n caps g tt te σ Q (Itr lo k) H := by
  refine ⟨fun i m ys H => m = k - i ∧ i ≤ k ∧ Pv i ys H, ⟨k, by simp, Nat.zero_le _, h0⟩, ?_⟩
  rintro i m ys H2 ⟨rfl, hi, p⟩
  refine ⟨hl i ys H2 hi p, ?_⟩
  by_cases hlt : i < k
  · refine .inr ⟨hlt, Pv (i + 1), fun ys' H' p' => ⟨k - (i + 1), by omega, rfl, hlt, p'⟩, fun x H' y => ?_⟩
    obtain ⟨e, y⟩ := y
    subst e y
    exact hs i ys _ hlt p
  · have e : i = k := by omega
    subst e
    exact .inl ⟨Nat.le_refl _, fun p' hp' => hd ys H2 p' p hp'⟩
end

/-! ### rules whose reading names the written part: for use within a block -/
section
variable {X : Cx} {pos : Pos}
def rListOf (K : PySem.W.Frag) : List V → Hp → VK → Prop := fun xs H Q => ∃ p ys, xs = [.ref p] ∧ (SqL K H p ys ∨ SqT K H p ys) ∧ ∀ l, H l = none → Q (.ref l) (upd H l (.lst ys))
def rLenOf (K : PySem.W.Frag) : List V → Hp → VK → Prop := fun xs H Q => ∃ p ys, xs = [.ref p] ∧ (SqL K H p ys ∨ SqT K H p ys) ∧ Q (.int ys.length) H
theorem call_list_ofK (K : PySem.W.Frag) (h : X.K = K) : CallR X (.type "list") (rListOf K) := by subst h; exact call_list_of
theorem call_len_seqK (K : PySem.W.Frag) (h : X.K = K) : CallR X (.builtin "len") (rLenOf K) := by subst h; exact call_len_seq
theorem ix_listK (K : PySem.W.Frag) (h : X.K = K) : IxR X (rIxL K) := by subst h; exact ix_list
end
end L2

/-! ### defs in a bundle, plain data at values, == and != of plain data -/
namespace L2
open PySem PySem.Spec PyProof.Rows

/-- a def that stands at a global name -/
structure Fn (P : Program) (w : World) (K : PySem.W.Frag) (mg : Str → Option Value) (base : Heap) (k : Nat) (x : Str) (ps : List Str) (sp : Sp) : Prop where
  ex : ∃ f fd, FnOk P w K mg base CX0 k f fd ps sp ∧ Binds K fd ps [] ∧ PySem.W.keepIn K (.ref f) = true ∧ mg x = some (.ref f)
section
variable {X : Cx} {k j : Nat} {x : Str} {ps : List Str} {sp : Sp} {e : Expr} {es : List Expr} {t : TA} {p pos : Pos}
theorem pe_fn (G : Fn X.prog X.w X.K X.mg X.base k x ps sp) (hr : Room j X.A) (hj : k ≤ j) (ha : PA X (e :: es) t) (hg : Gl X x := by rfl) (hdb : (x == ("__debug__" : Str)) = false := by decide)
    (he : starEach (e :: es) X.env = (false, eval e X.env) :: starEach es X.env := by rfl) (hpl : (backTo pos (starEach es X.env)).any (·.1) = false := by rfl) :
    PE X (.Call (.Name x p) (e :: es) [] pos) (tCall sp [] E0 t) := by
  obtain ⟨f, fd, F, b, kp, m⟩ := G.ex
  exact pe_call F (hr.mono hj) hg m kp b .nil pass0 ha hdb he hpl
end

/-- a def of the text as it stands behind the top, at its name -/
def Def (K : PySem.W.Frag) (mg : Str → Option Value) (x : Str) (st : Stmt) (ps : List Str) : Prop := ∃ f fd, Fun K x x st f fd ∧ Binds K fd ps [] ∧ mg x = some (.ref f)
theorem fn_mk {P : Program} {w : World} {K : PySem.W.Frag} {mg : Str → Option Value} {base : Heap} {x : Str} {st : Stmt} {N ps : List Str} {k : Nat} {sp : Sp} (D : Def K mg x st ps) (S : FnScope N ps (defScope st)) (len : ∀ vs H Q E, sp vs H Q E → vs.length = ps.length)
    (hbody : ∀ (f : Addr) (cdv : Value) (A : Around) (outer : List Env) (s : Shared) (H : Hp) (vs : List V) (Q : VK) (E : XK), Room k (A.deeper (envOfC x (defScope st) s.heap.objs.size f cdv)) → sp vs H Q E →
      ∃ t, PSs (cxOf CX0 P w K mg base N x (defScope st) f cdv A outer s H E).nox (defBody st) t ∧ t { nx := fun _ H' => Q .non H', rt := Q } (start N vs) H) : Fn P w K mg base (k + 1) x ps sp := by
  obtain ⟨f, fd, F, b, m⟩ := D
  exact ⟨f, fd, F.ok S len (hbody f), b, F.kp, m⟩
theorem le_hu {a d c : Nat} (h : d ≤ 8) (hu : a + 8 < c) : a + d < c := by omega

theorem same_new {H : Hp} {p : Addr} (h : H p = none) (o : HO) : Same H (upd H p o) := fun b u q => by rw [upd_ne (ne_of_none q h)]; exact q
theorem Same.own {H H2 : Hp} {p : Addr} (s : Same H H2) (h : H p = none) (o : HO) : Same H (upd H2 p o) := fun b u q => by rw [upd_ne (ne_of_none q h)]; exact s b u q
theorem Same.new {H H2 : Hp} {p : Addr} (s : Same H H2) (h : H2 p = none) (o : HO) : Same H (upd H2 p o) := s.trans (same_new h o)
theorem Same.seqT {K : PySem.W.Frag} {H H' : Hp} {a : Addr} {xs : List V} (e : Same H H') (h : SqT K H a xs) : SqT K H' a xs := by
  rcases h with (h | ⟨o, h⟩) | h
  · exact .inl (.inl (e _ _ h))
  · exact .inl (.inr ⟨o, e _ _ h⟩)
  · exact .inr h

theorem hu8 {A : Around} {k : Nat} (hr : Room k A) : A.units + 8 < cLine := Nat.lt_of_le_of_lt (Nat.add_le_add_left (by decide : 8 ≤ 64) _) hr.units

/-! plain data at a value -/
abbrev Enc (α : Type) := PySem.W.Frag → Hp → V → α → Prop
def rInt : Enc Int := fun _ _ v i => v = .int i
def rL {α : Type} (r : Enc α) : Enc (List α) := fun K H v as => ∃ a xs, v = .ref a ∧ SqL K H a xs ∧ Paired (r K H) xs as
def rT2 {α β : Type} (r : Enc α) (q : Enc β) : Enc (α × β) := fun K H v p => ∃ a x y, v = .ref a ∧ SqT K H a [x, y] ∧ r K H x p.1 ∧ q K H y p.2

theorem Paired.getL {α β : Type} {F : α → β → Prop} : ∀ {l : List α} {m : List β} {i : Nat} {a : α}, Paired F l m → l[i]? = some a → ∃ b, m[i]? = some b ∧ F a b
  | _, _, _, _, .nil, e => by simp at e
  | _, _, 0, _, .cons r _, e => by simp at e; subst e; exact ⟨_, rfl, r⟩
  | _, _, i + 1, a, .cons _ t, e => by
    obtain ⟨b, h1, h2⟩ := Paired.getL (i := i) (a := a) t (by simpa using e)
    exact ⟨b, by simpa using h1, h2⟩
theorem Paired.getR {α β : Type} {F : α → β → Prop} : ∀ {l : List α} {m : List β} {i : Nat} {b : β}, Paired F l m → m[i]? = some b → ∃ a, l[i]? = some a ∧ F a b
  | _, _, _, _, .nil, e => by simp at e
  | _, _, 0, _, .cons r _, e => by simp at e; subst e; exact ⟨_, rfl, r⟩
  | _, _, i + 1, b, .cons _ t, e => by
    obtain ⟨a, h1, h2⟩ := Paired.getR (i := i) (b := b) t (by simpa using e)
    exact ⟨a, by simpa using h1, h2⟩
theorem Paired.len {α β : Type} {F : α → β → Prop} {l : List α} {m : List β} (h : Paired F l m) : l.length = m.length := Paired.length h
theorem Paired.app {α β : Type} {F : α → β → Prop} : ∀ {l l' : List α} {m m' : List β}, Paired F l m → Paired F l' m' → Paired F (l ++ l') (m ++ m')
  | _, _, _, _, .nil, h => h
  | _, _, _, _, .cons r t, h => .cons r (Paired.app t h)
theorem paired_ints (ns : List Int) : ∀ {K : PySem.W.Frag} {H : Hp}, Paired (rInt K H) (ns.map V.int) ns := by
  intro K H
  induction ns with
  | nil => exact .nil
  | cons n r ih => exact .cons rfl ih
/-- == is equality of the data; d: how deep it goes -/
structure EqOk {α : Type} [DecidableEq α] (r : Enc α) (d : Nat) : Prop where
  uniq : ∀ {X : Cx} {pins : List (Addr × Obj)} {σ : St} {H : Hp} {s : Shared} {x : V} {a b : α}, Inv X pins σ H s → r X.K H x a → r X.K H x b → a = b
  eq : ∀ {X : Cx} {pins : List (Addr × Obj)} {σ : St} {H : Hp} {s : Shared} {x y : V} {v u : Value} {a b : α} {A : Around}, Inv X pins σ H s → RelV x v → RelV y u → r X.K H x a → r X.K H y b → A.units + d < cLine → SeqAt.EqAt A s v u (decide (a = b))
  rc : ∀ {X : Cx} {pins : List (Addr × Obj)} {σ : St} {H : Hp} {s : Shared} {x y : V} {v u : Value} {a b : α} {A : Around}, Inv X pins σ H s → RelV x v → RelV y u → r X.K H x a → r X.K H y b → A.units + d < cLine → SeqAt.RcAt A s v u (decide (a = b))
  ne : ∀ {X : Cx} {pins : List (Addr × Obj)} {σ : St} {H : Hp} {s : Shared} {x y : V} {v u : Value} {a b : α} {A : Around}, Inv X pins σ H s → RelV x v → RelV y u → r X.K H x a → r X.K H y b → A.units + d < cLine → SeqAt.RcNeAt A s v u (!decide (a = b))
  keep : ∀ {K : PySem.W.Frag} {H H' : Hp} {x : V} {a : α}, Same H H' → r K H x a → r K H' x a

theorem EqOk.up {α : Type} [DecidableEq α] {r : Enc α} {d e : Nat} (E : EqOk r d) (h : d ≤ e) : EqOk r e :=
  ⟨E.uniq, fun I rx ry h1 h2 hu => E.eq I rx ry h1 h2 (by omega), fun I rx ry h1 h2 hu => E.rc I rx ry h1 h2 (by omega), fun I rx ry h1 h2 hu => E.ne I rx ry h1 h2 (by omega), E.keep⟩
theorem in1_units (A : Around) : A.in1.units = A.units + 1 := rfl
theorem dec_i {a b : Int} : (a == b) = decide (a = b) := by rw [Bool.eq_iff_iff]; simp
theorem eq_int : EqOk rInt 0 where
  uniq := fun _ h1 h2 => by
    have h1' : _ = V.int _ := h1
    have h2' : _ = V.int _ := h2
    rw [h1'] at h2'; injection h2'
  eq := fun {X pins σ H s x y v u a b A} I rx ry h1 h2 _ => by
    have h1' : x = V.int a := h1
    have h2' : y = V.int b := h2
    subst h1' h2'
    obtain ⟨t, rfl⟩ := rx
    obtain ⟨t', rfl⟩ := ry
    rw [← dec_i]; exact SeqAt.EqAt.int_int a t b t'
  rc := fun {X pins σ H s x y v u a b A} I rx ry h1 h2 _ => by
    have h1' : x = V.int a := h1
    have h2' : y = V.int b := h2
    subst h1' h2'
    obtain ⟨t, rfl⟩ := rx
    obtain ⟨t', rfl⟩ := ry
    rw [← dec_i]; exact SeqAt.RcAt.int_int a t b t'
  ne := fun {X pins σ H s x y v u a b A} I rx ry h1 h2 _ => by
    have h1' : x = V.int a := h1
    have h2' : y = V.int b := h2
    subst h1' h2'
    obtain ⟨t, rfl⟩ := rx
    obtain ⟨t', rfl⟩ := ry
    rw [← dec_i]; exact SeqAt.RcNeAt.int_int a t b t'
  keep := fun _ h => h

theorem all_dec {α : Type} [DecidableEq α] {as bs : List α} (h : as.length = bs.length) : (List.range as.length).all (fun j => decide (as[j]? = bs[j]?)) = decide (as = bs) := by
  rw [Bool.eq_iff_iff]
  simp only [List.all_eq_true, List.mem_range, decide_eq_true_eq]
  constructor
  · intro hh
    apply List.ext_getElem?
    intro i
    by_cases hi : i < as.length
    · exact hh i hi
    · rw [List.getElem?_eq_none (by omega), List.getElem?_eq_none (by omega)]
  · rintro rfl; intros; rfl

theorem Paired.uniq {α β : Type} {F : α → β → Prop} (hu : ∀ a b c, F a b → F a c → b = c) : ∀ {l : List α} {m m' : List β}, Paired F l m → Paired F l m' → m = m'
  | _, _, _, .nil, .nil => rfl
  | _, _, _, .cons r t, .cons r' t' => by rw [hu _ _ _ r r', Paired.uniq hu t t']
theorem Paired.imp2 {α β : Type} {F G : α → β → Prop} (h : ∀ a b, F a b → G a b) : ∀ {l : List α} {m : List β}, Paired F l m → Paired G l m
  | _, _, .nil => .nil
  | _, _, .cons r t => .cons (h _ _ r) (Paired.imp2 h t)

section
variable {α : Type} [DecidableEq α] {r : Enc α} {d : Nat}
theorem list_items (E : EqOk r d) {X : Cx} {pins : List (Addr × Obj)} {σ : St} {H : Hp} {s : Shared} {A : Around} (I : Inv X pins σ H s) (hu : A.units + (d + 1) < cLine) {xs ys : List V} {as bs : List α} {its its2 : List Value}
    (r1 : Vals xs its) (r2 : Vals ys its2) (p1 : Paired (r X.K H) xs as) (p2 : Paired (r X.K H) ys bs) :
    ∀ j (h1 : j < its.toArray.size) (h2 : j < its2.toArray.size), SeqAt.EqAt A.in1 s its.toArray[j] its2.toArray[j] (decide (as[j]? = bs[j]?)) := by
  intro j h1 h2
  have h1' : j < its.length := by simpa using h1
  have h2' : j < its2.length := by simpa using h2
  obtain ⟨x, ex, rx⟩ := Paired.getR (i := j) (b := its[j]) r1 (by simp [h1'])
  obtain ⟨y, ey, ry⟩ := Paired.getR (i := j) (b := its2[j]) r2 (by simp [h2'])
  obtain ⟨a, ea, ra⟩ := Paired.getL p1 ex
  obtain ⟨b, eb, rb⟩ := Paired.getL p2 ey
  have := E.eq (A := A.in1) I rx ry ra rb (by rw [in1_units]; omega)
  rw [ea, eb]
  simpa using this
theorem eq_list (E : EqOk r d) : EqOk (rL r) (d + 1) := by
  have un : ∀ {X : Cx} {pins : List (Addr × Obj)} {σ : St} {H : Hp} {s : Shared} {x : V} {a b : List α}, Inv X pins σ H s → rL r X.K H x a → rL r X.K H x b → a = b := by
    intro X pins σ H s x as bs I h1 h2
    obtain ⟨a, xs, rfl, q1, p1⟩ := h1
    obtain ⟨b, ys, e, q2, p2⟩ := h2
    cases e
    cases I.list_inj q1 q2
    exact Paired.uniq (F := r X.K H) (fun _ _ _ z z' => E.uniq I z z') p1 p2
  have rc : ∀ {X : Cx} {pins : List (Addr × Obj)} {σ : St} {H : Hp} {s : Shared} {x y : V} {v u : Value} {a b : List α} {A : Around}, Inv X pins σ H s → RelV x v → RelV y u → rL r X.K H x a → rL r X.K H y b → A.units + (d + 1) < cLine → SeqAt.RcAt A s v u (decide (a = b)) := by
    intro X pins σ H s x y v u as bs A I rx ry h1 h2 hu
    obtain ⟨a, xs, rfl, q1, p1⟩ := h1
    obtain ⟨b, ys, rfl, q2, p2⟩ := h2
    cases rx; cases ry
    obtain ⟨its, r1, l1, _⟩ := I.list q1
    obtain ⟨its2, r2, l2, _⟩ := I.list q2
    have n1 := r1.length
    have n2 := r2.length
    have m1 := Paired.len p1
    have m2 := Paired.len p2
    by_cases hl : as.length = bs.length
    · have := SeqAt.RcAt.lists (A := A) (e := fun j => decide (as[j]? = bs[j]?)) l1.isList l2.isList (by simp only [List.size_toArray]; omega) (by omega) (list_items E I hu r1 r2 p1 p2)
      rw [show its.toArray.size = as.length by simp only [List.size_toArray]; omega, all_dec hl] at this
      exact this
    · rw [decide_eq_false (fun e => hl (congrArg List.length e))]
      exact SeqAt.RcAt.lists_lengths l1.isList l2.isList (by simp only [List.size_toArray, bne_iff_ne]; omega) (by omega)
  refine ⟨un, ?_, rc, ?_, ?_⟩
  · intro X pins σ H s x y v u as bs A I rx ry h1 h2 hu
    obtain ⟨a, xs, rfl, q1, p1⟩ := id h1
    obtain ⟨b, ys, rfl, q2, p2⟩ := id h2
    have R := rc (A := A) I rx ry h1 h2 hu
    cases rx; cases ry
    by_cases e : a = b
    · subst e
      rw [decide_eq_true (un I h1 h2)]
      exact SeqAt.EqAt.same _
    · exact SeqAt.EqAt.of_refs e R
  · intro X pins σ H s x y v u as bs A I rx ry h1 h2 hu
    obtain ⟨a, xs, rfl, q1, p1⟩ := h1
    obtain ⟨b, ys, rfl, q2, p2⟩ := h2
    cases rx; cases ry
    obtain ⟨its, r1, l1, _⟩ := I.list q1
    obtain ⟨its2, r2, l2, _⟩ := I.list q2
    have n1 := r1.length
    have n2 := r2.length
    have m1 := Paired.len p1
    have m2 := Paired.len p2
    by_cases hl : as.length = bs.length
    · have := SeqAt.RcNeAt.lists (A := A) (e := fun j => decide (as[j]? = bs[j]?)) l1.isList l2.isList (by simp only [List.size_toArray]; omega) (by omega) (list_items E I hu r1 r2 p1 p2)
      rw [show its.toArray.size = as.length by simp only [List.size_toArray]; omega, all_dec hl] at this
      exact this
    · rw [decide_eq_false (fun e => hl (congrArg List.length e))]
      exact SeqAt.RcNeAt.lists_lengths l1.isList l2.isList (by simp only [List.size_toArray, bne_iff_ne]; omega) (by omega)
  · intro K H H' x as e h
    obtain ⟨a, xs, rfl, q1, p1⟩ := h
    exact ⟨a, xs, rfl, e.seq q1, Paired.imp2 (fun _ _ z => E.keep e z) p1⟩
end

section
variable {α β : Type} [DecidableEq α] [DecidableEq β] {r : Enc α} {q : Enc β} {d : Nat}
theorem dec_pair {a1 a2 : α} {b1 b2 : β} : (decide (a1 = a2) && decide (b1 = b2)) = decide ((a1, b1) = (a2, b2)) := by
  rw [Bool.eq_iff_iff]; simp
theorem eq_tup2 (E : EqOk r d) (F : EqOk q d) : EqOk (rT2 r q) (d + 1) := by
  have un : ∀ {X : Cx} {pins : List (Addr × Obj)} {σ : St} {H : Hp} {s : Shared} {x : V} {a b : α × β}, Inv X pins σ H s → rT2 r q X.K H x a → rT2 r q X.K H x b → a = b := by
    rintro X pins σ H s x ⟨a1, a2⟩ ⟨b1, b2⟩ I h1 h2
    obtain ⟨a, x1, x2, rfl, q1, p1, p2⟩ := h1
    obtain ⟨b, y1, y2, e, q2, p3, p4⟩ := h2
    cases e
    cases I.tuple_inj q1 q2
    rw [show a1 = b1 from E.uniq I p1 p3, show a2 = b2 from F.uniq I p2 p4]
  have its : ∀ {X : Cx} {pins : List (Addr × Obj)} {σ : St} {H : Hp} {s : Shared} {x1 x2 y1 y2 : V} {u1 u2 w1 w2 : Value} {a b : α × β} {A : Around}, Inv X pins σ H s → RelV x1 u1 → RelV x2 u2 → RelV y1 w1 → RelV y2 w2 →
      r X.K H x1 a.1 → q X.K H x2 a.2 → r X.K H y1 b.1 → q X.K H y2 b.2 → A.units + (d + 1) < cLine →
      ∀ j (h1 : j < [u1, u2].toArray.size) (h2 : j < [w1, w2].toArray.size), SeqAt.EqAt A.in1 s [u1, u2].toArray[j] [w1, w2].toArray[j] ((fun j => if j = 0 then decide (a.1 = b.1) else decide (a.2 = b.2)) j) := by
    intro X pins σ H s x1 x2 y1 y2 u1 u2 w1 w2 a b A I e1 e2 e3 e4 p1 p2 p3 p4 hu j h1 h2
    have hj : j = 0 ∨ j = 1 := by
      have h1' : j < 2 := h1
      omega
    rcases hj with rfl | rfl
    · exact E.eq (A := A.in1) I e1 e3 p1 p3 (by rw [in1_units]; omega)
    · exact F.eq (A := A.in1) I e2 e4 p2 p4 (by rw [in1_units]; omega)
  have rc : ∀ {X : Cx} {pins : List (Addr × Obj)} {σ : St} {H : Hp} {s : Shared} {x y : V} {v u : Value} {a b : α × β} {A : Around}, Inv X pins σ H s → RelV x v → RelV y u → rT2 r q X.K H x a → rT2 r q X.K H y b → A.units + (d + 1) < cLine → SeqAt.RcAt A s v u (decide (a = b)) := by
    rintro X pins σ H s x y v u ⟨a1, a2⟩ ⟨b1, b2⟩ A I rx ry h1 h2 hu
    obtain ⟨a, x1, x2, rfl, q1, p1, p2⟩ := h1
    obtain ⟨b, y1, y2, rfl, q2, p3, p4⟩ := h2
    cases rx; cases ry
    obtain ⟨i1, r1, l1, _⟩ := I.tuple q1
    obtain ⟨i2, r2, l2, _⟩ := I.tuple q2
    obtain ⟨u1, u2, rfl, e1, e2⟩ := Vals.two r1
    obtain ⟨w1, w2, rfl, e3, e4⟩ := Vals.two r2
    have := SeqAt.RcAt.tuples (A := A) l1 l2 (by omega) (its (a := (a1, a2)) (b := (b1, b2)) I e1 e2 e3 e4 p1 p2 p3 p4 hu)
    rw [← dec_pair]
    simpa [List.range_succ] using this
  refine ⟨un, ?_, rc, ?_, ?_⟩
  · intro X pins σ H s x y v u as bs A I rx ry h1 h2 hu
    obtain ⟨a, x1, x2, rfl, q1, p1, p2⟩ := id h1
    obtain ⟨b, y1, y2, rfl, q2, p3, p4⟩ := id h2
    have R := rc (A := A) I rx ry h1 h2 hu
    cases rx; cases ry
    by_cases e : a = b
    · subst e
      rw [decide_eq_true (un I h1 h2)]
      exact SeqAt.EqAt.same _
    · exact SeqAt.EqAt.of_refs e R
  · rintro X pins σ H s x y v u ⟨a1, a2⟩ ⟨b1, b2⟩ A I rx ry h1 h2 hu
    obtain ⟨a, x1, x2, rfl, q1, p1, p2⟩ := h1
    obtain ⟨b, y1, y2, rfl, q2, p3, p4⟩ := h2
    cases rx; cases ry
    obtain ⟨i1, r1, l1, _⟩ := I.tuple q1
    obtain ⟨i2, r2, l2, _⟩ := I.tuple q2
    obtain ⟨u1, u2, rfl, e1, e2⟩ := Vals.two r1
    obtain ⟨w1, w2, rfl, e3, e4⟩ := Vals.two r2
    have := SeqAt.RcNeAt.tuples (A := A) l1 l2 (by omega) (its (a := (a1, a2)) (b := (b1, b2)) I e1 e2 e3 e4 p1 p2 p3 p4 hu)
    rw [← dec_pair]
    simpa [List.range_succ] using this
  · intro K H H' x as e h
    obtain ⟨a, x1, x2, rfl, q1, p1, p2⟩ := h
    exact ⟨a, x1, x2, rfl, e.seqT q1, E.keep e p1, F.keep e p2⟩
end

section
variable {X : Cx} {α : Type} [DecidableEq α] {r : Enc α} {d : Nat}
def rEqE (K : PySem.W.Frag) (r : Enc α) : R2 := fun x y H Q => ∃ a b, r K H x a ∧ r K H y b ∧ Q (.bl (decide (a = b))) H
def rNeE (K : PySem.W.Frag) (r : Enc α) : R2 := fun x y H Q => ∃ a b, r K H x a ∧ r K H y b ∧ Q (.bl (!decide (a = b))) H
theorem op_eqE (E : EqOk r d) (hu : X.A.units + d < cLine) : OpR X (compareOp .Eq) (rEqE X.K r) := by
  intro pins s σ H x y v u Q I rx ry h
  obtain ⟨a, b, h1, h2, q⟩ := h
  exact E.rc (A := X.A) I rx ry h1 h2 hu _ _ _ _ ⟨.bl _, H, I, rfl, q⟩
theorem op_neE (E : EqOk r d) (hu : X.A.units + d < cLine) : OpR X (compareOp .NotEq) (rNeE X.K r) := by
  intro pins s σ H x y v u Q I rx ry h
  obtain ⟨a, b, h1, h2, q⟩ := h
  exact E.ne (A := X.A) I rx ry h1 h2 hu _ _ _ _ ⟨.bl _, H, I, rfl, q⟩
/-- isinstance(x, T), T a built-in type -/
theorem call_isinst : CallR X (.builtin "isinstance") (fun xs H Q => ∃ x n t b, xs = [x, .ty n] ∧ TyOf X.K H x t ∧ PySem.W.kitOne X.K t (.type n) = some b ∧ Q (.bl b) H) := by
  intro pins s σ H xs us Q I r h
  obtain ⟨x, n, t, b, rfl, ty, e, q⟩ := h
  obtain ⟨u, v, rfl, ru, rv⟩ := Vals.two r
  cases (show v = Value.type n from rv)
  exact isinst_ok I ru ty e fun tk => ⟨.bl b, H, I.tok tk, rfl, q⟩
/-- // by a number of many figures -/
theorem op_fdivB : OpR X (binaryOp .FloorDiv) (rI (fun _ j => 0 < j ∧ j.natAbs.log2 < 9000) fun i j => .int (i / j)) := opI fun i j _ _ _ _ _ hc q => by
  refine floordiv_int (by omega) ?_ (.inl (PyProof.noPylong_of_log2 hc.2))
  rw [Int.fdiv_eq_ediv_of_nonneg i (by omega)]
  exact q
end
end L2

/-! ### list(reversed(xs)), xs[::-1], sum(xs) -/
namespace PySem
open Sem (wp)
theorem nolen_lri : typeLookup (.type "list_reverseiterator") "__len__" = pure none := by rw [typeLookup_type, builtinLookup_eq_fast]; kernel_rfl
theorem hint_lri : typeLookup (.type "list_reverseiterator") "__length_hint__" = pure (some (.builtin "list_reverseiterator.__length_hint__")) := by rw [typeLookup_type, builtinLookup_eq_fast]; kernel_rfl
section
variable {prog : Program} {w : World} {A : Around} {E : Value → Shared → Prop} {s : Shared}
theorem extend_rev {R : Result → Shared → Prop} {I l : Addr} {items : Array Value} (hh : A.handled = none) (hit : s.heap.IsRevIter I l ((items.size : Int) - 1)) (hl : s.heap.IsList l items) (hne : l ≠ I) (hn : items.size ≤ sizeLine)
    (S : Addr) (res : Value) (c₀ : Nat) (hS : s.heap.get? S = some { cls := .type "list", data := .seq #[] c₀ }) (hSI : S ≠ I) (hSl : S ≠ l)
    (hR : ∀ h' tk acc' c', (∀ b o, b ≠ S → b ≠ I → s.heap.get? b = some o → h'.get? b = some o) → h'.get? S = some { cls := .type "list", dict := none, data := .seq acc' c', slots := #[] } →
      ItemsOf (fun i v => items[items.size - 1 - i]? = some v) acc' items.size → R (.ok (.ret res)) { s with heap := h', toks := tk }) :
    wpAny (model prog w) A.in1 (Builtin.List.listExtendWith (.ref S) (.ref I) res)
      (fun fin s' => match fin with | .done f => R (.ok f) s' | .again c' => c'.quiet = true ∧ codeAny (model prog w) A c' R s') (fun e s' => R (.error e) s') s := by
  have W := (Walks.listRev (prog := prog) (w := w) (A := A.in1) hh I l hne items).toS
  have hSf : S ∉ [I, l] := fun hm => by
    rcases List.mem_cons.mp hm with h | h
    · exact hSI h
    · exact hSl (List.mem_singleton.mp h)
  have hst : (0 : Nat) ≤ items.size ∧ s.heap.IsRevIter I l ((items.size : Int) - 1 - ((0 : Nat) : Int)) ∧ s.heap.IsList l items := ⟨Nat.zero_le _, by simpa using hit, hl⟩
  unfold Builtin.List.listExtendWith
  refine wpAny_bind (wpAny_typeOf hit.typeIs ?_)
  have h1 : Builtin.List.listSameRef (.ref S) (.ref I) = false := by simp [Builtin.List.listSameRef, hSI]
  rw [if_neg (by rw [h1]; decide)]
  refine wpAny_bind (wpAny_pyIter_revIter hit ?_)
  refine wpAny_bind (wpAny_holding ?_)
  unfold Builtin.List.listLengthHint
  refine wpAny_bind (wpAny_specialOf hit.typeIs nolen_lri ?_)
  show wpAny _ A.in1 (specialOf (Value.ref I) (Str.ofString "__length_hint__") >>= _) _ _ _
  refine wpAny_bind (wpAny_specialOf hit.typeIs hint_lri ?_)
  (generalize hid : ("list_reverseiterator.__length_hint__" : String) = id0; (fail_if_success (clear hid id0)); wp_delta; rw [show splitId id0 = some ("list_reverseiterator", "__length_hint__") from by subst hid; decide +kernel]; subst hid)
  refine wpAny_bind (wpAny_isInstance (b := true) hit.typeIs (by rw [isSubtype_type]; kernel_rfl) ?_)
  refine wpAny_pure ?_
  rw [if_neg (by decide)]
  refine wpAny_pure ⟨plainId_quiet F.plain_extend_loop _, codeAny_extend_loopS W hn S hSf res items.size 0 _ _ _ rfl (Nat.zero_le _) hst hS (ItemsOf.nil _) fun s' acc' c' hm hS' hacc => ?_⟩
  rw [Moved.eq_with hm]
  refine hR s'.heap s'.toks acc' c' (fun b o hb hbI e => hm.heap b o (fun hmem => ?_) e) hS' hacc
  rcases List.mem_cons.mp hmem with h | h
  · exact hb h
  · exact hbI (List.mem_singleton.mp h)
theorem init_rev {R : Result → Shared → Prop} {I l : Addr} {items : Array Value} (hh : A.handled = none) (hit : s.heap.IsRevIter I l ((items.size : Int) - 1)) (hl : s.heap.IsList l items) (hne : l ≠ I) (hn : items.size ≤ sizeLine)
    (S : Addr) (hS : s.heap.get? S = some { cls := .type "list", data := .seq #[] }) (hSI : S ≠ I) (hSl : S ≠ l)
    (hR : ∀ h' tk acc' c', (∀ b o, b ≠ S → b ≠ I → s.heap.get? b = some o → h'.get? b = some o) → h'.get? S = some { cls := .type "list", dict := none, data := .seq acc' c', slots := #[] } →
      ItemsOf (fun i v => items[items.size - 1 - i]? = some v) acc' items.size → R (.ok (.ret .none)) { s with heap := h', toks := tk }) :
    wpAny (model prog w) A.in1 (Builtin.«list.__init__» ⟨[.ref S, .ref I], []⟩)
      (fun fin s' => match fin with | .done f => R (.ok f) s' | .again c' => c'.quiet = true ∧ codeAny (model prog w) A c' R s') (fun e s' => R (.error e) s') s := by
  show wpAny _ _ (do let old ← Builtin.List.listItems (.ref S); Builtin.List.listUpdate (.ref S) (fun _ => #[]); letGo old.toList.reverse; Builtin.List.listExtendWith (.ref S) (.ref I) .none) _ _ s
  refine wpAny_bind ?_
  unfold Builtin.List.listItems
  refine wpAny_bind (wpAny_seqItems hS rfl (wpAny_pure ?_))
  show wpAny _ _ (updateSeq S (fun _ => #[]) >>= fun _ => letGo (#[] : Array Value).toList.reverse >>= fun _ => Builtin.List.listExtendWith (.ref S) (.ref I) .none) _ _ s
  refine wpAny_bind (wpAny_updateSeq hS rfl ?_)
  have hS₂ := Heap.get?_update_self (Obj.mapSeq (fun _ => (#[] : Array Value))) hS rfl
  have oth : ∀ b o, b ≠ S → s.heap.get? b = some o → (s.heap.update S (Obj.mapSeq (fun _ => (#[] : Array Value)))).get? b = some o :=
    fun b o hb e => (Heap.get?_update_other _ _ (Ne.symm hb)).trans e
  refine wpAny_bind (wpAny_letGo ?_)
  refine extend_rev hh (hit.at fun o e => oth I o (Ne.symm hSI) e) (hl.at fun o e => oth l o (Ne.symm hSl) e) hne hn S .none _ hS₂ hSI hSl fun h' tk acc' c' hk hS' hacc => ?_
  exact hR h' tk acc' c' (fun b o hb hbI e => hk b o hb hbI (oth b o hb e)) hS' hacc
theorem call_list_rev {Q : Value → Shared → Prop} {I l : Addr} {items : Array Value} (hh : A.handled = none) (hit : s.heap.IsRevIter I l ((items.size : Int) - 1)) (hl : s.heap.IsList l items) (hne : l ≠ I) (hn : items.size ≤ sizeLine)
    (hQ : ∀ h' tk acc' c', (∀ b o, b ≠ I → s.heap.get? b = some o → h'.get? b = some o) →
      h'.get? s.heap.objs.size = some { cls := .type "list", dict := none, data := .seq acc' c', slots := #[] } → ItemsOf (fun i v => items[items.size - 1 - i]? = some v) acc' items.size → Q (.ref s.heap.objs.size) { s with heap := h', toks := tk }) :
    wpAny (model prog w) A (call (.type "list") [.ref I]) Q E s := by
  have hIlt : I < s.heap.objs.size := by obtain ⟨o, ho, _⟩ := hit; exact Heap.lt_size ho
  have hllt : l < s.heap.objs.size := by obtain ⟨o, ho, _⟩ := hl; exact Heap.lt_size ho
  refine callType_codes (Q₁ := fun obj s₁ => obj = .ref s.heap.objs.size ∧ s₁ = { s with heap := s.heap.push { cls := .type "list", data := .seq #[] } }) F.called_list (F.typeCall_list_1 _) F.entry_list_init
    (code_list_new _ ⟨rfl, rfl⟩) fun obj s₁ h₁ => ?_
  obtain ⟨rfl, rfl⟩ := h₁
  have hS : (s.heap.push { cls := .type "list", data := .seq #[] }).get? s.heap.objs.size = some { cls := .type "list", data := .seq #[] } := Heap.get?_push_size _ rfl
  refine ⟨⟨_, hS, rfl⟩, F.args_list_init_2 _ _, init_rev (A := A.in1) hh (hit.at fun o e => Heap.get?_push_of_some _ e) (hl.at fun o e => Heap.get?_push_of_some _ e) hne hn _ hS (Nat.ne_of_gt hIlt) (Nat.ne_of_gt hllt) fun h' tk acc' c' hk hS' hacc => ?_⟩
  exact ⟨rfl, hQ h' tk acc' c' (fun b o hb e => hk b o (Nat.ne_of_lt (Heap.lt_size e)) hb (Heap.get?_push_of_some _ e)) hS' hacc⟩
end
end PySem
namespace L2
open PySem PySem.Spec PyProof.Rows
theorem PairedR {α β : Type} {F : α → β → Prop} : ∀ {l : List α} {m : List β} {i : Nat} {b : β}, Paired F l m → m[i]? = some b → ∃ a, l[i]? = some a ∧ F a b
  | _, _, _, _, .nil, e => by simp at e
  | _, _, 0, _, .cons r _, e => by simp at e; subst e; exact ⟨_, rfl, r⟩
  | _, _, i + 1, b, .cons _ t, e => by
    obtain ⟨a, h1, h2⟩ := PairedR (i := i) (b := b) t (by simpa using e)
    exact ⟨a, by simpa using h1, h2⟩
theorem items_rev {its : List Value} {acc : Array Value} (h : ItemsOf (fun i v => its.toArray[its.toArray.size - 1 - i]? = some v) acc its.toArray.size) : acc = its.reverse.toArray := by
  obtain ⟨h1, h2⟩ := h
  have e : acc.toList = its.reverse := by
    apply List.ext_getElem?
    intro i
    by_cases hi : i < its.length
    · have hi' : i < acc.size := by rw [h1]; simpa using hi
      have := h2 i acc[i] (by simp [hi'])
      rw [List.getElem?_reverse hi]
      have e2 : acc.toList[i]? = some acc[i] := by simp [hi']
      rw [e2]
      simpa using this.symm
    · rw [List.getElem?_eq_none (by rw [Array.length_toList, h1]; simpa using hi), List.getElem?_eq_none (by simpa using hi)]
  rw [← e]
section
variable {X : Cx} {e : Expr} {te : TE}
def tListRev (K : PySem.W.Frag) (te : TE) : TE := fun σ H Q => te σ H fun x H1 => ∃ a xs, x = .ref a ∧ SqL K H1 a xs ∧ ∀ p, H1 p = none → Q (.ref p) (upd H1 p (.lst xs.reverse))
theorem pe_listrev {p q q2 pos : Pos} (K : PySem.W.Frag) (hK : X.K = K) (hc : X.calm = true) (hg : Gl X "list") (hg2 : Gl X "reversed") (hm : X.mg "list" = none) (hm2 : X.mg "reversed" = none) (he : PE X e te)
    (hs : starEach [.Call (.Name "reversed" q) [e] [] q2] X.env = [(false, eval (.Call (.Name "reversed" q) [e] [] q2) X.env)] := by rfl) (hs2 : starEach [e] X.env = [(false, eval e X.env)] := by rfl) :
    PE X (.Call (.Name "list" p) [.Call (.Name "reversed" q) [e] [] q2] [] pos) (tListRev K te) := by
  intro pins s σ H Q I h
  subst hK
  refine wpAny_Call_Name_kw (ld_blt I hg hm PyProof.Rows.boot_list ?_)
  refine PyProof.Rows.callWith_type1 ?_ hs rfl
  rw [hs]
  show wpAny _ _ (spliced ((false, eval (.Call (.Name "reversed" q) [e] [] q2) X.env) :: backTo pos [])) _ _ s
  refine Calls.spliced_cons ?_
  refine wpAny_Call_Name_kw (ld_blt I hg2 hm2 PyProof.Rows.boot_reversed ?_)
  refine PyProof.Rows.callWith_type1 ?_ hs2 rfl
  rw [hs2]
  show wpAny _ _ (spliced ((false, eval e X.env) :: backTo q2 [])) _ _ s
  refine Calls.spliced_cons (thn (he pins s σ H _ I h) fun u s1 ⟨x, H1, I1, r1, a, xs, ex, hq, k⟩ => ?_)
  subst ex
  cases r1
  obtain ⟨its, rv, pl, hz⟩ := I1.list hq
  have hlen := rv.length
  refine Calls.spliced_nil ?_
  refine call_reversed_list pl.isList ?_
  refine Calls.spliced_nil ?_
  have hlt : a < s1.heap.objs.size := by obtain ⟨o, n, ho, _⟩ := pl; exact Heap.lt_size ho
  refine call_list_rev (I := s1.heap.objs.size) (I.ok.hd hc) ⟨_, Heap.get?_push_size _ rfl, rfl, rfl⟩ (pl.isList.at fun o e => Heap.get?_push_of_some _ e) (Nat.ne_of_lt hlt) (by rw [List.size_toArray]; omega) fun h' tk acc' c' hk hS hacc => ?_
  rw [items_rev hacc] at hS
  have hsz : (s1.heap.push (revObj a ((its.toArray.size : Int) - 1))).objs.size = s1.heap.objs.size + 1 := Heap.size_push ..
  have hle : s1.heap.objs.size ≤ (s1.heap.push (revObj a ((its.toArray.size : Int) - 1))).objs.size := by rw [hsz]; exact Nat.le_succ _
  refine ⟨.ref _, _, I1.laid (h' := h') (t' := tk) (o := .lst xs.reverse) (fun b o e => hk b o (Nat.ne_of_lt (Heap.lt_size e)) (Heap.get?_push_of_some _ e)) hle ?_, rfl, k _ (I1.hok.fresh hle)⟩
  exact ⟨by rw [List.length_reverse]; exact hz, its.reverse, c', rv.reverse, hS⟩
/-- xs[::-1]; the step is the written number -1 -/
def tSlR (K : PySem.W.Frag) (te ts : TE) : TE := fun σ H Q => te σ H fun x H1 => ts σ H1 fun y H2 => y = .int (-1) ∧ ∃ a xs, x = .ref a ∧ SqL K H2 a xs ∧ ∀ p, H2 p = none → Q (.ref p) (upd H2 p (.lst xs.reverse))
theorem pe_sliceR {st : Expr} {ts : TE} {p2 pos : Pos} (K : PySem.W.Frag) (hK : X.K = K) (he : PE X e te) (hst : PE X st ts) : PE X (.Subscript e (.Slice none none (some st) p2) pos) (tSlR K te ts) := by
  intro pins s σ H Q I h
  subst hK
  refine Subscript_ (thn (he pins s σ H _ I h) fun v s1 ⟨x, H1, I1, r1, q1⟩ => ?_)
  refine wpAny_Slice ?_
  rw [evalPart_none]
  refine wpAny_pure ?_
  refine wpAny_pure ?_
  rw [evalPart_some]
  refine thn (hst pins s1 σ H1 _ I1 q1) fun vk s3 ⟨y, H3, I3, r3, ey, a, xs, ex, hx, q⟩ => ?_
  subst ey ex
  cases r1
  obtain ⟨t, rfl⟩ := r3
  have I4 : Inv X pins σ H3 { s3 with heap := s3.heap.push { cls := .type "slice", data := .fields #[.none, .none, .int (-1) t] } } := I3.kept (t' := s3.toks) fun b ob q => Heap.get?_push_of_some _ q
  obtain ⟨its, r, ht, hz⟩ := I4.list hx
  have hlen := r.length
  have hg : wpAny (model X.prog X.w) X.A (getItem (.ref a) (.ref s3.heap.objs.size)) (EP X pins σ Q) X.xe { s3 with heap := s3.heap.push { cls := .type "slice", data := .fields #[.none, .none, .int (-1) t] } } := by
    refine wpAny_getItem_list_slice ht.isList (Heap.IsSliceOf.new ..) .none .none (.int (-1) t) (by decide) ?_ (by rw [List.size_toArray]; omega)
    rw [PySem.W.krv_pick]
    refine ⟨.ref _, _, I4.laid (t' := s3.toks) (o := .lst xs.reverse) (fun b ob q => Heap.get?_push_of_some _ q) (Nat.le_refl _) ?_, rfl, q _ (I4.hok.fresh (Nat.le_refl _))⟩
    exact ⟨by rw [List.length_reverse]; exact hz, its.reverse, 0, r.reverse, Heap.get?_push_size _ rfl⟩
  show wpAny (model X.prog X.w) X.A (subscriptTail e (.Slice none none (some st) p2) (.ref a) (.ref s3.heap.objs.size)) (EP X pins σ Q) X.xe _
  exact tail_any (ops := [.ref a, .ref s3.heap.objs.size]) ht.isList.typeIs slot_list_getitem.lookup hg (by with_unfolding_all rfl)
/-- sum of a list of ints -/
def rSum (K : PySem.W.Frag) : List V → Hp → VK → Prop := fun xs H Q => ∃ (a : Addr) (ns : List Int), xs = [.ref a] ∧ SqL K H a (ns.map V.int) ∧ Q (.int ns.sum) H
theorem call_sumL (hc : X.calm = true) : CallR X (.builtin "sum") (rSum X.K) := by
  intro pins s σ H xs us Q I r h
  obtain ⟨a, ns, rfl, hq, q⟩ := h
  obtain ⟨u, rfl, ru⟩ := vals1 r
  cases ru
  obtain ⟨its, rv, pl, hz⟩ := I.list hq
  have hi : IntsAre its ns := intsAre_of rv
  have hlen := hi.length
  have hlt : a < s.heap.objs.size := by obtain ⟨o, n, ho, _⟩ := pl; exact Heap.lt_size ho
  refine call_sum_walkG ?_
  refine wpAny_pyIter_list pl.isList ?_
  have W := Walks.list (prog := X.prog) (w := X.w) (A := X.A.in1) (I.ok.hd hc) s.heap.objs.size a (Nat.ne_of_lt hlt) its.toArray
  refine ⟨s.heap.objs.size, _, _, _, _, _, fun i => ns.getD i 0, rfl, W, ⟨⟨_, Heap.get?_push_size _ rfl, rfl, rfl⟩, pl.isList.at fun o e => Heap.get?_push_of_some _ e⟩, fun b hb => ?_, fun i v hv => ?_, fun h' tk t' hk => ?_⟩
  · rcases List.mem_cons.mp hb with e | hb
    · rw [e, Heap.size_push]; exact Nat.lt_succ_self _
    · rw [List.mem_singleton.mp hb, Heap.size_push]; exact Nat.lt_succ_of_lt hlt
  · have hv' : its[i]? = some v := by simpa using hv
    have hil : i < its.length := (List.getElem?_eq_some_iff.mp hv').1
    obtain ⟨x, ex, rx⟩ := PairedR rv hv'
    rw [List.getElem?_map] at ex
    cases e : ns[i]? with
    | none => rw [e] at ex; cases ex
    | some z =>
      rw [e] at ex
      have ex' : V.int z = x := Option.some.inj ex
      subst ex'
      obtain ⟨t, rfl⟩ := rx
      exact ⟨t, by simp [List.getD, e]⟩
  · have I2 : Inv X pins σ H { s with heap := h', toks := tk } := I.kept (t' := tk) fun b o e => hk b o (fun hm => by
      rw [List.mem_singleton.mp hm] at e
      exact absurd (Heap.lt_size e) (Nat.lt_irrefl _)) (Heap.get?_push_of_some _ e)
    refine ⟨.int ns.sum, H, I2, ⟨t', ?_⟩, q⟩
    rw [List.size_toArray, hlen, preSum_getD, List.take_length]
end
end L2

/-! ### enumerate, xs.index(x), tuples of many items of one kind -/
namespace L2
open PySem PySem.Spec PyProof.Rows
section
variable {X : Cx} {pins : List (Addr × Obj)} {σ : St} {H : Hp} {s : Shared} {h' : Heap}
/-- an iterator's objects turned, and a new object laid -/
theorem Inv.turnLay {t' : Nat} {ch : List Addr} {T : Addr} {u : HO} (I : Inv X pins σ H s) (k : ∀ b o, b ∉ ch → s.heap.get? b = some o → h'.get? b = some o) (hf : ∀ b ∈ ch, FpOk X pins H b)
    (hp : s.heap.objs.size ≤ T) (new : ObjOk X.prog X.w (upd H T u) h' T u) : Inv X pins σ (upd H T u) { s with heap := h', toks := t' } := by
  have hn : H T = none := I.hok.fresh hp
  have nit : ∀ b o, H b = some o → b ∉ ch := fun b o e z => by rw [(hf b z).1] at e; cases e
  refine I.step (g' := s.gens) (d' := s.drawn) (ch := ch) (fun b hb => ?_) (fun b o _ _ hc e _ => k b o hc e) (fun b o _ _ hc e _ => ⟨o.slots, k b o hc e⟩)
    (fun b o _ e n => by rw [upd_ne (Nat.ne_of_lt (Nat.lt_of_lt_of_le (Heap.lt_size e) hp))]; exact n)
    (fun b o hc e => ⟨o, k b o hc e⟩) (fun b xs e => by rw [upd_ne (ne_of_none e hn)]; exact e) (fun b o xs e => by rw [upd_ne (ne_of_none e hn)]; exact e) (fun b ps e => ⟨#[], by rw [upd_ne (ne_of_none e hn), e]; simp⟩) (fun m hm => ?_) (fun b v e => ?_) I.bare
  · obtain ⟨f0, f1, f2, f3, f4, f5⟩ := hf b hb
    exact ⟨f3, f1, f4, f5⟩
  · obtain ⟨o, es, ep, ho, r⟩ := hm
    exact ⟨o, es, ep, k _ o (fun z => (hf _ z).2.1 rfl) ho, r⟩
  · by_cases hb : b = T
    · subst hb; rw [upd_same] at e; cases e; exact new
    · rw [upd_ne hb] at e
      refine (I.hok b v e).stay (fun c o hc q => k c o ?_ q) (fun c q => by rw [upd_ne (ne_of_none q hn)]; exact q) fun c xs q => by rw [upd_ne (ne_of_none q hn)]; exact q
      rcases hc with z | z
      · rw [z]; exact nit b v e
      · exact nit c _ z
end
/-- the list at a with its places, a new pair a turn -/
def Ite (K : PySem.W.Frag) (a : Addr) : It :=
  ⟨fun i H => ∃ xs x, SqL K H a xs ∧ xs[i]? = some x, fun i H y H' => ∃ p x, y = .ref p ∧ H p = none ∧ H' = upd H p (.tup [.int (i : Int), x]) ∧ ∀ xs, SqL K H a xs → xs[i]? = some x, fun i H => ∃ xs, SqL K H a xs ∧ xs.length ≤ i⟩
theorem turn_enum {P : Program} {w : World} {K : PySem.W.Frag} {elts : List Expr} {k : Nat} {pos : Pos} (a e it : Addr) (h1 : e ≠ it) (h2 : a ≠ e) (h3 : a ≠ it) :
    Turn P w K (.Tuple elts k pos) (Ite K a) [e, it] e (fun i h => (∃ old, IsEnum h e it (i : Int) old) ∧ h.IsListIter it a i) where
  mem := by simp
  obj := fun i h st b hb => by
    obtain ⟨⟨old, eo⟩, o, io, c, d⟩ := st
    rcases List.mem_cons.mp hb with z | z
    · subst z
      exact ⟨_, eo, fun v z => by cases z⟩
    · have z := List.mem_singleton.mp z
      subst z
      exact ⟨o, io, fun v z => by rw [d] at z; cases z⟩
  keep := fun i h h' st k => ⟨let ⟨old, eo⟩ := st.1; ⟨old, k e (by simp) _ eo⟩, st.2.at fun o q => k it (by simp) o q⟩
  item := by
    intro X hP hw hK hc i pins s σ H E I hf st hg
    subst hP hw hK
    obtain ⟨xs, x, hq, hx⟩ := hg
    obtain ⟨its, rv, p, hz⟩ := I.list hq
    obtain ⟨u, hu, ru⟩ := rv.get hx
    obtain ⟨⟨old, eo⟩, io⟩ := id st
    have hu' : its.toArray[i]? = some u := by simpa using hu
    have W := WalksT.enumerate (prog := X.prog) (w := X.w) (A := X.A) (I.ok.hd hc) e it a h1 h2 h3 its.toArray
    refine wpAny_pyNext_enum_item eo io p.isList hu' h1 fun h' eo' io' tup sz kk => ?_
    have hT : ∀ b o, s.heap.get? b = some o → s.heap.objs.size ≠ b := fun b o q z => absurd (Heap.lt_size q) (by rw [← z]; exact Nat.lt_irrefl _)
    have hTe := hT e _ eo
    have hTi : s.heap.objs.size ≠ it := by obtain ⟨o, q, _⟩ := io; exact hT it o q
    have ha' : h'.IsList a its.toArray := p.isList.at fun o q => kk a o h2 h3 q
    refine ⟨_, rfl, W.go elts k pos i s.heap.objs.size _ _ _ ⟨⟨_, eo'⟩, io', ha', hTe, hTi⟩ fun h'' st' kk' => ?_⟩
    obtain ⟨st2, io2, _⟩ := st'
    have tup2 := kk' _ _ (by simp [hTe, hTi]) tup
    have k2 : ∀ b o, b ∉ [e, it] → s.heap.get? b = some o → h''.get? b = some o := fun b o q1 q => kk' b o q1 (kk b o (fun z => q1 (by simp [z])) (fun z => q1 (by simp [z])) q)
    refine ⟨.ref s.heap.objs.size, upd H s.heap.objs.size (.tup [.int (i : Int), x]), I.turnLay (h' := h'') (t' := s.toks + 1) k2 hf (Nat.le_refl _) ⟨by show 2 ≤ sizeLine; decide, [.int (i : Int) s.toks, u], .cons ⟨_, rfl⟩ (.cons ru .nil), ⟨_, tup2, rfl, _, rfl⟩⟩, rfl,
      ⟨_, x, rfl, I.hok.fresh (Nat.le_refl _), rfl, fun ys hy => by rw [I.list_inj hy hq]; exact hx⟩, ⟨by simpa using st2, io2⟩, fun b hb => ?_⟩
    rcases List.mem_cons.mp hb with z | z
    · rw [z, upd_ne hTe.symm]; exact (hf e (by simp)).1
    · rw [List.mem_singleton.mp z, upd_ne hTi.symm]; exact (hf it (by simp)).1
  done := by
    intro X hP hw hK hc i pins s σ H E I hf st hg
    subst hP hw hK
    obtain ⟨xs, hq, hx⟩ := hg
    obtain ⟨its, rv, p, hz⟩ := I.list hq
    obtain ⟨⟨old, eo⟩, io⟩ := id st
    obtain ⟨f0, f1, f2, f3, f4, f5⟩ := hf it (by simp)
    have hl := rv.length
    exact wpAny_pyNext_enum_end (I.ok.hd hc) eo io p.isList (by simp; omega) fun h' eb => ⟨rfl, I.turned (t' := s.toks) (fun b o hb q => eb b o hb q) f0 f1 f3 f4 f5⟩
  self := by
    intro A i s Q E st h
    obtain ⟨⟨old, eo⟩, io⟩ := st
    exact wpAny_pyIter_enum eo h
section
variable {X : Cx} {elts : List Expr} {k : Nat} {pos0 : Pos}
def iEnum (K : PySem.W.Frag) (tl : TE) : TI := fun σ H R => tl σ H fun x H1 => ∃ a, x = .ref a ∧ (∃ xs, SqL K H1 a xs) ∧ R (Ite K a) H1
theorem pi_enum {l : Expr} {tl : TE} {p pos : Pos} (hg : Gl X "enumerate") (hm : X.mg "enumerate" = none) (hl : PE X l tl) (hs : starEach [l] X.env = [(false, eval l X.env)] := by rfl) :
    PI X (.Tuple elts k pos0) (.Call (.Name "enumerate" p) [l] [] pos) (iEnum X.K tl) := by
  intro pins s σ H R I h
  refine wpAny_Call_Name_kw (ld_blt I hg hm boot_enumerate ?_)
  refine PyProof.Rows.callWith_type1 ?_ hs rfl
  rw [hs]
  show wpAny _ _ (spliced ((false, eval l X.env) :: backTo pos [])) _ _ s
  refine Calls.spliced_cons (thn (hl pins s σ H _ I h) fun v s1 ⟨x, H1, I1, r1, a, ex, ⟨xs, hq⟩, q⟩ => ?_)
  subst ex
  cases r1
  obtain ⟨its, rv, pl, hz⟩ := I1.list hq
  refine Calls.spliced_nil ?_
  have hlt : a < s1.heap.objs.size := by obtain ⟨o, n, ho, _⟩ := pl; exact Heap.lt_size ho
  refine call_enumerate_list pl.isList fun h' en io sz kk => ?_
  refine wpAny_pyIter_enum en ?_
  refine ⟨_, [s1.heap.objs.size + 1, s1.heap.objs.size], _, _, H1, rfl, I1.kept (t' := s1.toks) kk, turn_enum a _ _ (Nat.ne_of_gt (Nat.lt_succ_self _)) (Nat.ne_of_lt (Nat.lt_succ_of_lt hlt)) (Nat.ne_of_lt hlt), ⟨⟨_, en⟩, io⟩, fun b hb => ?_, q⟩
  have hb' : s1.heap.objs.size ≤ b := by
    rcases List.mem_cons.mp hb with z | z
    · rw [z]; exact Nat.le_succ _
    · rw [List.mem_singleton.mp z]; exact Nat.le_refl _
  exact I1.fpOk hb' (I1.hok.fresh hb')
end
theorem for_enum {K : PySem.W.Frag} {a : Addr} {xs : List V} {g : TG} {tb : TS} {D : Ends} {σ : St} {H : Hp} (Pv : Nat → St → Hp → Prop) (h0 : Pv 0 σ H) (hl : ∀ i σ H, i ≤ xs.length → Pv i σ H → SqL K H a xs)
    (hs : ∀ i x σ H p, xs[i]? = some x → Pv i σ H → H p = none → g (.ref p) σ (upd H p (.tup [.int (i : Int), x])) fun σ2 H2 => tb { D with nx := Pv (i + 1), ct := Pv (i + 1), bk := D.nx } σ2 H2) (hd : ∀ σ H, Pv xs.length σ H → D.nx σ H) :
    ∃ W : Nat → Nat → St → Hp → Prop, (∃ m, W 0 m σ H) ∧ ∀ i m σ H, W i m σ H →
      ((Ite K a).stop i H ∧ D.nx σ H) ∨ ((Ite K a).go i H ∧ ∃ N : St → Hp → Prop, (∀ σ' H', N σ' H' → ∃ m', m' < m ∧ W (i + 1) m' σ' H') ∧ ∀ x H', (Ite K a).yld i H x H' → g x σ H' fun σ2 H2 => tb { D with nx := N, ct := N, bk := D.nx } σ2 H2) := by
  refine ⟨fun i m σ H => m = xs.length - i ∧ i ≤ xs.length ∧ Pv i σ H, ⟨xs.length, by simp, Nat.zero_le _, h0⟩, ?_⟩
  rintro i m σ H ⟨rfl, hi, p⟩
  have q := hl i σ H hi p
  by_cases hlt : i < xs.length
  · refine .inr ⟨⟨xs, xs[i], q, by simp [hlt]⟩, Pv (i + 1), fun σ' H' p' => ⟨xs.length - (i + 1), by omega, rfl, hlt, p'⟩, fun x H' y => ?_⟩
    obtain ⟨b, x, rfl, hb, rfl, y⟩ := y
    exact hs i x σ H b (y xs q) p hb
  · have e : i = xs.length := by omega
    subst e
    exact .inl ⟨⟨xs, q, Nat.le_refl _⟩, hd σ H p⟩
/-- xs.index(y), y flat and among the flat items -/
def rIndex (K : PySem.W.Frag) : V → List V → Hp → VK → Prop := fun x vs H Q => ∃ l xs y, ∃ j : Nat, x = .ref l ∧ vs = [y] ∧ SqL K H l xs ∧ flatV y = true ∧ xs.all flatV = true ∧ (∃ z, xs[j]? = some z ∧ eqV z y = true) ∧ (∀ (m : Nat) z, m < j → xs[m]? = some z → eqV z y = false) ∧ Q (.int (j : Int)) H
section
variable {X : Cx}
theorem mt_index : MtR X "list.index" (rIndex X.K) := by
  intro pins s σ H x vs v us Q I rx rv h
  obtain ⟨l, xs, y, j, rfl, rfl, hq, fy, fs, ⟨z, hz, ez⟩, hm, q⟩ := h
  cases rx
  obtain ⟨u, rfl, ry⟩ := Vals.one rv
  obtain ⟨its, r, pl, hle⟩ := I.list hq
  have hl := r.length
  have hjl := (List.getElem?_eq_some_iff.mp hz).1
  have ge : ∀ (m : Nat) (w : V), xs[m]? = some w → ∀ hm : m < its.toArray.size, eqU y its.toArray[m] = eqV w y := fun m w hw hm => by
    obtain ⟨u', hu', ru'⟩ := r.get hw
    have e : its.toArray[m] = u' := by
      have := (List.getElem?_eq_some_iff.mp hu').2
      simpa using this
    rw [e]
    exact eqU_of ru' (List.all_eq_true.mp fs w (List.mem_of_getElem? hw))
  obtain ⟨o, n, ho, hc, hd, hs⟩ := id pl
  obtain ⟨cls, dict, data, slots⟩ := o
  cases hc; cases hd; cases hs
  refine call_meets F.slot_list_index ⟨_, ho, rfl⟩ F.entry_list_index (F.args_list_index_2 _ _) (SeqAt.list_indexAt l its.toArray n none slots u (eqU y) j (by rw [List.size_toArray]; omega) ?_ ?_ ?_) ⟨ho, fun w hw => mem_eqAt ry fy r fs w (by simpa using hw), ?_⟩
  · have : sizeLine < 2 ^ 63 - 1 := by decide
    omega
  · rw [ge j z hz]; exact ez
  · intro m hm' hlt
    rw [ge m xs[m] (List.getElem?_eq_getElem (by omega))]
    exact hm m _ hlt (List.getElem?_eq_getElem (by omega))
  · exact ⟨.int (j : Int), H, I.tok _, ⟨_, rfl⟩, q⟩
end
/-- a tuple of items of one kind -/
def rTL {α : Type} (r : Enc α) : Enc (List α) := fun K H v as => ∃ a xs, v = .ref a ∧ SqT K H a xs ∧ Paired (r K H) xs as
section
variable {α : Type} [DecidableEq α] {r : Enc α} {d : Nat}
theorem all_min {as bs : List α} : ((List.range (min as.length bs.length)).all (fun j => decide (as[j]? = bs[j]?)) && as.length == bs.length) = decide (as = bs) := by
  by_cases hl : as.length = bs.length
  · rw [show min as.length bs.length = as.length by omega, all_dec hl]
    simp [hl]
  · rw [decide_eq_false (fun e => hl (congrArg List.length e))]
    simp [hl]
theorem eq_tupL (E : EqOk r d) : EqOk (rTL r) (d + 1) := by
  have un : ∀ {X : Cx} {pins : List (Addr × Obj)} {σ : St} {H : Hp} {s : Shared} {x : V} {a b : List α}, Inv X pins σ H s → rTL r X.K H x a → rTL r X.K H x b → a = b := by
    intro X pins σ H s x as bs I h1 h2
    obtain ⟨a, xs, rfl, q1, p1⟩ := h1
    obtain ⟨b, ys, e, q2, p2⟩ := h2
    cases e
    cases I.tuple_inj q1 q2
    exact Paired.uniq (F := r X.K H) (fun _ _ _ z z' => E.uniq I z z') p1 p2
  have rc : ∀ {X : Cx} {pins : List (Addr × Obj)} {σ : St} {H : Hp} {s : Shared} {x y : V} {v u : Value} {a b : List α} {A : Around}, Inv X pins σ H s → RelV x v → RelV y u → rTL r X.K H x a → rTL r X.K H y b → A.units + (d + 1) < cLine → SeqAt.RcAt A s v u (decide (a = b)) := by
    intro X pins σ H s x y v u as bs A I rx ry h1 h2 hu
    obtain ⟨a, xs, rfl, q1, p1⟩ := h1
    obtain ⟨b, ys, rfl, q2, p2⟩ := h2
    cases rx; cases ry
    obtain ⟨its, r1, l1, _⟩ := I.tuple q1
    obtain ⟨its2, r2, l2, _⟩ := I.tuple q2
    have n1 := r1.length
    have n2 := r2.length
    have m1 := Paired.len p1
    have m2 := Paired.len p2
    have := SeqAt.RcAt.tuples (A := A) (e := fun j => decide (as[j]? = bs[j]?)) l1 l2 (by omega) (list_items E I hu r1 r2 p1 p2)
    rw [show its.toArray.size = as.length by simp only [List.size_toArray]; omega, show its2.toArray.size = bs.length by simp only [List.size_toArray]; omega, all_min] at this
    exact this
  refine ⟨un, ?_, rc, ?_, ?_⟩
  · intro X pins σ H s x y v u as bs A I rx ry h1 h2 hu
    obtain ⟨a, xs, rfl, q1, p1⟩ := id h1
    obtain ⟨b, ys, rfl, q2, p2⟩ := id h2
    have R := rc (A := A) I rx ry h1 h2 hu
    cases rx; cases ry
    by_cases e : a = b
    · subst e
      rw [decide_eq_true (un I h1 h2)]
      exact SeqAt.EqAt.same _
    · exact SeqAt.EqAt.of_refs e R
  · intro X pins σ H s x y v u as bs A I rx ry h1 h2 hu
    obtain ⟨a, xs, rfl, q1, p1⟩ := h1
    obtain ⟨b, ys, rfl, q2, p2⟩ := h2
    cases rx; cases ry
    obtain ⟨its, r1, l1, _⟩ := I.tuple q1
    obtain ⟨its2, r2, l2, _⟩ := I.tuple q2
    have n1 := r1.length
    have n2 := r2.length
    have m1 := Paired.len p1
    have m2 := Paired.len p2
    have := SeqAt.RcNeAt.tuples (A := A) (e := fun j => decide (as[j]? = bs[j]?)) l1 l2 (by omega) (list_items E I hu r1 r2 p1 p2)
    rw [show its.toArray.size = as.length by simp only [List.size_toArray]; omega, show its2.toArray.size = bs.length by simp only [List.size_toArray]; omega, all_min] at this
    exact this
  · intro K H H' x as e h
    obtain ⟨a, xs, rfl, q1, p1⟩ := h
    exact ⟨a, xs, rfl, e.seqT q1, Paired.imp2 (fun _ _ z => E.keep e z) p1⟩
end
end L2

/-! ### d.setdefault(k, x), keys flat -/
namespace L2
open PySem PySem.Spec PyProof.Rows
section
variable {X : Cx} {o e f : Expr} {td ty tx : TE} {apos cpos : Pos}
def tDSetD (td ty tx : TE) : TE := fun σ H Q => td σ H fun x H1 => ∃ a, x = .ref a ∧ IsD H1 a ∧ ty σ H1 fun y H2 => tx σ H2 fun z H3 => ∃ kvs k, H3 a = some (.dK kvs) ∧ y = kV k ∧ kvs.length < sizeLine ∧
  (∀ v, valV kvs k = some v → Q v H3) ∧ (valV kvs k = none → Q z (upd H3 a (.dK (putK kvs k z))))
theorem pe_dsetd (ho : PE X o td) (he : PE X e ty) (hf : PE X f tx) (m : M2 X o "setdefault" apos e f cpos) : PE X (.Call (.Attribute o "setdefault" apos) [e, f] [] cpos) (tDSetD td ty tx) := by
  intro pins s σ H Q I h
  refine wpAny_Call_method m.base m.few m.line PySem.F.plainAttrs_dict PySem.F.slot_dict_setdefault PySem.F.type_dict_setdefault (thn (ho pins s σ H _ I h) fun u s1 ⟨x, H1, I1, rx, a, ex, d, q1⟩ => ?_)
  subst ex
  obtain rfl : u = Value.ref a := rx
  obtain ⟨t1, t2, _⟩ := isD_at I1 d
  refine ⟨t1, t2, ?_⟩
  rw [m.trees]
  refine Calls.callWith_builtin rfl (Calls.evalArgs_plain (Calls.spliced_cons (thn (he pins s1 σ H1 _ I1 q1) fun iv s2 ⟨y, H2, I2, ry, q2⟩ =>
    Calls.spliced_cons (thn (hf pins s2 σ H2 _ I2 q2) fun fv s3 ⟨z, H3, I3, rz, kvs, k, ea, ey, l, q3, q4⟩ => Calls.spliced_nil ?_))))
  subst ey
  obtain ⟨zz, hd, vs, rel, dd⟩ := dk_of I3.hok ea
  have hz : vs.length ≤ sizeLine := by rw [← rel.length]; exact zz
  have hl : (putK kvs k z).length ≤ sizeLine := by have := length_putK kvs k z; omega
  refine call_meetsIn PySem.F.slot_dict_setdefault dd.typeIs PySem.F.entry_dict_setdefault (PySem.F.args_dict_setdefault_3 _ _ _) (kt_meets_setdefault (mixKind X.prog X.w) a (kV_is ry) hd fv) ⟨vs, dd, hz, fun v hv => ?_, fun hn h' dd' hs => ?_⟩
  · have rv := rel.val k
    rw [hv] at rv
    cases e2 : valV kvs k with
    | none => rw [e2] at rv; exact absurd rv (fun x => by cases x)
    | some v' =>
      rw [e2] at rv
      exact ⟨v', H3, I3.tok _, rv, q3 v' e2⟩
  · have rv := rel.val k
    rw [hn] at rv
    cases e2 : valV kvs k with
    | some v' => rw [e2] at rv; exact absurd rv (fun x => by cases x)
    | none =>
      have he : ∃ q, h'.get? a = some q := let ⟨q, _, _, hq, _⟩ := dd'; ⟨q, hq⟩
      exact ⟨z, _, d_write I3 (by rw [ea]; exact True.intro) hs he (dk_new hl hd (rel.put k rz) dd'), rz, q4 e2⟩
end
end L2

/-! walks turned -/
namespace My
def rot (w : List Int) (b : Int) : List Int := w.drop (b % (w.length : Int)).toNat ++ w.take (b % (w.length : Int)).toNat
theorem rot_length (w : List Int) (b : Int) : (rot w b).length = w.length := by
  unfold rot
  rw [List.length_append, List.length_drop, List.length_take]
  omega
theorem rot_nil (b : Int) : rot [] b = [] := by simp [rot]
theorem mod_lt {n : Nat} (h : 0 < n) (b : Int) : (b % (n : Int)).toNat < n := by
  have h1 := Int.emod_nonneg b (show (n : Int) ≠ 0 by omega)
  have h2 := Int.emod_lt_of_pos b (show (0 : Int) < n by omega)
  omega
theorem rot_get (w : List Int) (b : Int) (k : Nat) (h : k < w.length) : (rot w b)[k]? = w[((((k : Int) + b) % (w.length : Int)).toNat)]? := by
  have hn : 0 < w.length := by omega
  have h1 := Int.emod_nonneg b (show (w.length : Int) ≠ 0 by omega)
  have h2 := Int.emod_lt_of_pos b (show (0 : Int) < w.length by omega)
  have e : ((k : Int) + b) % (w.length : Int) = ((k : Int) + b % (w.length : Int)) % (w.length : Int) := by rw [Int.add_emod (k : Int) b, Int.add_emod (k : Int) (b % _), Int.emod_emod_of_dvd b (Int.dvd_refl _)]
  unfold rot
  generalize hs : (b % (w.length : Int)).toNat = s
  have hs' : b % (w.length : Int) = (s : Int) := by omega
  rw [e, hs']
  by_cases c : k < w.length - s
  · rw [List.getElem?_append_left (by rw [List.length_drop]; omega), List.getElem?_drop]
    congr 1
    rw [Int.emod_eq_of_lt (by omega) (by omega)]
    omega
  · rw [List.getElem?_append_right (by rw [List.length_drop]; omega), List.length_drop, List.getElem?_take_of_lt (by omega)]
    congr 1
    have : ((k : Int) + s) % (w.length : Int) = (k : Int) + s - w.length := by
      rw [← Int.sub_emod_right, Int.emod_eq_of_lt (by omega) (by omega)]
    omega
end My

/-! lists -/
namespace My
theorem flat2_length (names : List Int) : (names.flatMap fun x => [x, -x]).length = 2 * names.length := by
  induction names with
  | nil => rfl
  | cons x r ih => rw [List.flatMap_cons, List.length_append, ih]; simp; omega
theorem fresh_snoc {α β : Type} {H : α → Option β} {ads : List α} {t : α} (h : ∀ x ∈ ads, H x = none) (ht : H t = none) : ∀ x ∈ ads ++ [t], H x = none := fun x hx => by
  rcases List.mem_append.mp hx with h1 | h1
  · exact h x h1
  · rw [List.mem_singleton.mp h1]; exact ht
theorem notin_snoc {α : Type} {l t : α} {ads : List α} (h : l ∉ ads) (ht : l ≠ t) : l ∉ ads ++ [t] := fun hx => by
  rcases List.mem_append.mp hx with h1 | h1
  · exact h h1
  · exact ht (List.mem_singleton.mp h1)
theorem nodup_snoc {α : Type} : ∀ {ads : List α} {t : α}, ads.Nodup → t ∉ ads → (ads ++ [t]).Nodup
  | [], t, _, _ => by simp
  | a :: r, t, h, ht => by
    rw [List.cons_append, List.nodup_cons]
    refine ⟨fun m => ?_, nodup_snoc (List.nodup_cons.mp h).2 fun z => ht (List.mem_cons_of_mem _ z)⟩
    rcases List.mem_append.mp m with m | m
    · exact (List.nodup_cons.mp h).1 m
    · exact ht (by rw [List.mem_singleton.mp m]; exact List.mem_cons_self)
theorem flatten_rep (n : Nat) : (List.replicate n ([] : List Int)).flatten = [] := by
  induction n with
  | zero => rfl
  | succ n ih => rw [List.replicate_succ, List.flatten_cons, ih]; rfl
theorem map_eraseIdx' {α β : Type} (f : α → β) : ∀ (l : List α) (k : Nat), (l.map f).eraseIdx k = (l.eraseIdx k).map f
  | [], _ => rfl
  | _ :: _, 0 => rfl
  | a :: r, k + 1 => by
    show f a :: (r.map f).eraseIdx k = f a :: (r.eraseIdx k).map f
    rw [map_eraseIdx' f r k]
theorem perm_erase {α : Type} : ∀ {l : List α} {k : Nat} {y : α}, l[k]? = some y → (y :: l.eraseIdx k).Perm l
  | [], _, _, e => by simp at e
  | a :: r, 0, y, e => by
    have e' : a = y := by simpa using e
    subst e'; exact List.Perm.refl _
  | a :: r, k + 1, y, e => by
    have e' : r[k]? = some y := by simpa using e
    show (y :: a :: r.eraseIdx k).Perm (a :: r)
    exact (List.Perm.swap a y _).trans (List.Perm.cons a (perm_erase e'))
theorem erase_length {α : Type} {l : List α} {k : Nat} {y : α} (e : l[k]? = some y) : (l.eraseIdx k).length + 1 = l.length := by
  have := (perm_erase e).length_eq
  simpa using this
theorem perm_set {α : Type} : ∀ {ws : List (List α)} {j : Nat} {w : List α} {y : α}, ws[j]? = some w → ((ws.set j (w ++ [y])).flatten).Perm (y :: ws.flatten)
  | [], _, _, _, e => by simp at e
  | a :: r, 0, w, y, e => by
    have e' : a = w := by simpa using e
    subst e'
    show ((a ++ [y]) ++ r.flatten).Perm (y :: (a ++ r.flatten))
    rw [List.append_assoc]
    exact List.perm_middle
  | a :: r, j + 1, w, y, e => by
    have e' : r[j]? = some w := by simpa using e
    show (a ++ (r.set j (w ++ [y])).flatten).Perm (y :: (a ++ r.flatten))
    exact (List.Perm.append_left a (perm_set e')).trans List.perm_middle
theorem perm_move {α : Type} {ws : List (List α)} {j k : Nat} {w l : List α} {y : α} (e : ws[j]? = some w) (e3 : l[k]? = some y) : ((ws.set j (w ++ [y])).flatten ++ l.eraseIdx k).Perm (ws.flatten ++ l) := by
  refine ((perm_set (y := y) e).append_right _).trans ?_
  rw [List.cons_append]
  refine List.perm_middle.symm.trans ?_
  exact List.Perm.append_left _ (perm_erase e3)
theorem mem_set {α : Type} : ∀ {l : List α} {j : Nat} {v x : α}, x ∈ l.set j v → x ∈ l ∨ x = v
  | [], _, _, _, h => by simp at h
  | a :: r, 0, v, x, h => by
    rw [List.set_cons_zero] at h
    rcases List.mem_cons.mp h with h | h
    · exact .inr h
    · exact .inl (List.mem_cons_of_mem _ h)
  | a :: r, j + 1, v, x, h => by
    rw [List.set_cons_succ] at h
    rcases List.mem_cons.mp h with h | h
    · exact .inl (by rw [h]; exact List.mem_cons_self)
    · rcases mem_set h with h | h
      · exact .inl (List.mem_cons_of_mem _ h)
      · exact .inr h
theorem count_set : ∀ {l : List Bool} {j : Nat}, l[j]? = some false → (l.set j true).count false + 1 = l.count false
  | [], _, e => by simp at e
  | a :: r, 0, e => by
    have e' : a = false := by simpa using e
    subst e'; simp
  | a :: r, j + 1, e => by
    have e' : r[j]? = some false := by simpa using e
    have ih := count_set e'
    rw [List.set_cons_succ, List.count_cons, List.count_cons]
    omega
end My

/-! closed plaits: every crossing is passed over once and under once -/
namespace My
/-- a row (low, val): from at, what is passed and where one stands behind it -/
def rowC (r : Int × Int) (at' : Int) : List Int := if at' = r.1 then [r.2] else if at' = r.1 + 1 then [-r.2] else []
def rowP (r : Int × Int) (at' : Int) : Int := if at' = r.1 then r.1 + 1 else if at' = r.1 + 1 then r.1 else at'
def trkP : List (Int × Int) → Int → Int
  | [], a => a
  | r :: rs, a => trkP rs (rowP r a)
def trkC : List (Int × Int) → Int → List Int
  | [], _ => []
  | r :: rs, a => rowC r a ++ trkC rs (rowP r a)
theorem trkP_snoc (rs : List (Int × Int)) (r : Int × Int) : ∀ a, trkP (rs ++ [r]) a = rowP r (trkP rs a) := by
  induction rs with
  | nil => intro a; rfl
  | cons q rs ih => intro a; exact ih _
theorem trkC_snoc (rs : List (Int × Int)) (r : Int × Int) : ∀ a, trkC (rs ++ [r]) a = trkC rs a ++ rowC r (trkP rs a) := by
  induction rs with
  | nil => intro a; simp [trkC, trkP]
  | cons q rs ih => intro a; simp [trkC, trkP, ih]
theorem rowP_in {S : Int} {r : Int × Int} {a : Int} (h0 : 0 ≤ r.1) (h1 : r.1 + 1 < S) (a0 : 0 ≤ a) (a1 : a < S) : 0 ≤ rowP r a ∧ rowP r a < S := by
  unfold rowP
  split
  · omega
  · split <;> omega
def iota (S : Nat) : List Int := (List.range S).map fun (k : Nat) => (k : Int)
theorem mem_iota {S : Nat} {x : Int} : x ∈ iota S ↔ 0 ≤ x ∧ x < (S : Int) := by
  unfold iota
  rw [List.mem_map]
  constructor
  · rintro ⟨k, hk, rfl⟩
    have := List.mem_range.mp hk
    omega
  · rintro ⟨h0, h1⟩
    exact ⟨x.toNat, List.mem_range.mpr (by omega), by omega⟩
theorem nodup_map_inj {α β : Type} {f : α → β} : ∀ {l : List α}, (∀ a b, a ∈ l → b ∈ l → f a = f b → a = b) → l.Nodup → (l.map f).Nodup
  | [], _, _ => List.nodup_nil
  | a :: r, h, nd => by
    rw [List.map_cons, List.nodup_cons]
    refine ⟨fun m => ?_, nodup_map_inj (fun x y hx hy => h x y (List.mem_cons_of_mem _ hx) (List.mem_cons_of_mem _ hy)) (List.nodup_cons.mp nd).2⟩
    obtain ⟨b, hb, e⟩ := List.mem_map.mp m
    have := h b a (List.mem_cons_of_mem _ hb) List.mem_cons_self e
    exact (List.nodup_cons.mp nd).1 (by rw [← this]; exact hb)
theorem nodup_iota (S : Nat) : (iota S).Nodup := nodup_map_inj (fun a b _ _ e => by omega) List.nodup_range
theorem nodup_perm {α : Type} [DecidableEq α] : ∀ {l m : List α}, l.Nodup → m.Nodup → (∀ x, x ∈ l ↔ x ∈ m) → l.Perm m
  | [], m, _, _, h => by
    cases m with
    | nil => exact List.Perm.refl _
    | cons a r => exact absurd ((h a).mpr List.mem_cons_self) (by simp)
  | a :: r, m, nl, nm, h => by
    have ha : a ∈ m := (h a).mp List.mem_cons_self
    have hp : m.Perm (a :: m.erase a) := List.perm_cons_erase ha
    refine List.Perm.trans (List.Perm.cons a ?_) hp.symm
    have nd2 : (a :: m.erase a).Nodup := hp.nodup_iff.mp nm
    refine nodup_perm (List.nodup_cons.mp nl).2 (List.nodup_cons.mp nd2).2 fun x => ?_
    constructor
    · intro hx
      have hxa : x ≠ a := fun e => (List.nodup_cons.mp nl).1 (by rw [← e]; exact hx)
      have : x ∈ a :: m.erase a := hp.mem_iff.mp ((h x).mp (List.mem_cons_of_mem _ hx))
      exact (List.mem_cons.mp this).resolve_left hxa
    · intro hx
      have hxa : x ≠ a := fun e => (List.nodup_cons.mp nd2).1 (e ▸ hx)
      have : x ∈ a :: r := (h x).mpr (hp.mem_iff.mpr (List.mem_cons_of_mem _ hx))
      exact (List.mem_cons.mp this).resolve_left hxa
/-- a row's step carries the places into themselves -/
theorem rowP_perm {S : Nat} {r : Int × Int} (h0 : 0 ≤ r.1) (h1 : r.1 + 1 < (S : Int)) : ((iota S).map (rowP r)).Perm (iota S) := by
  refine nodup_perm (nodup_map_inj (fun a b _ _ e => ?_) (nodup_iota S)) (nodup_iota S) fun x => ?_
  · unfold rowP at e
    split at e <;> split at e <;> (try split at e) <;> (try split at e) <;> omega
  · rw [List.mem_map, mem_iota]
    constructor
    · rintro ⟨a, ha, rfl⟩
      have := mem_iota.mp ha
      exact rowP_in h0 h1 this.1 this.2
    · rintro ⟨x0, x1⟩
      refine ⟨rowP r x, mem_iota.mpr (rowP_in h0 h1 x0 x1), ?_⟩
      unfold rowP
      split <;> (try split) <;> (try split) <;> omega
theorem flatMap_perm {α β : Type} (f : α → List β) {l m : List α} (h : l.Perm m) : (l.flatMap f).Perm (m.flatMap f) := by
  induction h with
  | nil => exact List.Perm.refl _
  | cons x _ ih => rw [List.flatMap_cons, List.flatMap_cons]; exact List.Perm.append_left _ ih
  | swap x y l =>
    rw [List.flatMap_cons, List.flatMap_cons, List.flatMap_cons, List.flatMap_cons, ← List.append_assoc, ← List.append_assoc]
    exact List.Perm.append_right _ List.perm_append_comm
  | trans _ _ ih1 ih2 => exact ih1.trans ih2
theorem flatMap_app {α β : Type} (f g : α → List β) : ∀ l : List α, (l.flatMap fun x => f x ++ g x).Perm (l.flatMap f ++ l.flatMap g)
  | [] => List.Perm.refl _
  | a :: r => by
    rw [List.flatMap_cons, List.flatMap_cons, List.flatMap_cons]
    refine (List.Perm.append_left _ (flatMap_app f g r)).trans ?_
    rw [List.append_assoc, List.append_assoc]
    refine List.Perm.append_left _ ?_
    rw [← List.append_assoc, ← List.append_assoc]
    exact List.Perm.append_right _ List.perm_append_comm
theorem flatMap_nil {α β : Type} (f : α → List β) : ∀ {l : List α}, (∀ x ∈ l, f x = []) → l.flatMap f = []
  | [], _ => rfl
  | a :: r, h => by rw [List.flatMap_cons, h a List.mem_cons_self, flatMap_nil f fun x hx => h x (List.mem_cons_of_mem _ hx)]; rfl
/-- over all places a row gives its passage over and its passage under -/
theorem rowC_all {S : Nat} {r : Int × Int} (h0 : 0 ≤ r.1) (h1 : r.1 + 1 < (S : Int)) : ((iota S).flatMap (rowC r)).Perm [r.2, -r.2] := by
  have ha : r.1 ∈ iota S := mem_iota.mpr ⟨h0, by omega⟩
  have hp := List.perm_cons_erase ha
  have nd := hp.nodup_iff.mp (nodup_iota S)
  have hb : r.1 + 1 ∈ (iota S).erase r.1 := by
    have : r.1 + 1 ∈ r.1 :: (iota S).erase r.1 := hp.mem_iff.mp (mem_iota.mpr ⟨by omega, h1⟩)
    exact (List.mem_cons.mp this).resolve_left (by omega)
  have hq := List.perm_cons_erase hb
  have nd2 := hq.nodup_iff.mp (List.nodup_cons.mp nd).2
  refine (flatMap_perm _ (hp.trans (List.Perm.cons _ hq))).trans ?_
  rw [List.flatMap_cons, List.flatMap_cons, flatMap_nil]
  · unfold rowC
    rw [if_pos rfl, if_neg (by omega), if_pos rfl]
    exact List.Perm.refl _
  · intro x hx
    have x2 : x ≠ r.1 + 1 := fun e => (List.nodup_cons.mp nd2).1 (e ▸ hx)
    have x1 : x ≠ r.1 := fun e => (List.nodup_cons.mp nd).1 (e ▸ hq.mem_iff.mpr (List.mem_cons_of_mem _ hx))
    unfold rowC
    rw [if_neg x1, if_neg x2]
theorem flatMap_map {α β γ : Type} (f : α → β) (g : β → List γ) (l : List α) : (l.map f).flatMap g = l.flatMap fun x => g (f x) := by
  induction l with
  | nil => rfl
  | cons a r ih => rw [List.map_cons, List.flatMap_cons, List.flatMap_cons, ih]
theorem trkC_all {S : Nat} : ∀ {rs : List (Int × Int)}, (∀ r ∈ rs, 0 ≤ r.1 ∧ r.1 + 1 < (S : Int)) → ((iota S).flatMap (trkC rs)).Perm (rs.flatMap fun r => [r.2, -r.2])
  | [], _ => by rw [flatMap_nil (trkC []) (fun x _ => rfl)]; exact List.Perm.refl _
  | r :: rs, h => by
    obtain ⟨h0, h1⟩ := h r List.mem_cons_self
    rw [List.flatMap_cons]
    refine (flatMap_app (rowC r) (fun a => trkC rs (rowP r a)) (iota S)).trans ?_
    refine List.Perm.append (rowC_all h0 h1) ?_
    rw [← flatMap_map (rowP r) (trkC rs)]
    exact (flatMap_perm _ (rowP_perm h0 h1)).trans (trkC_all fun q hq => h q (List.mem_cons_of_mem _ hq))
/-- a passage times its sign, and its opposite -/
theorem pm_perm {x s : Int} (h : s = 1 ∨ s = -1) : [x * s, -(x * s)].Perm [x, -x] := by
  rcases h with h | h
  · subst h; simp
  · subst h
    have e1 : x * -1 = -x := by omega
    have e2 : -(-x) = x := by omega
    rw [e1, e2]
    exact List.Perm.swap _ _ _
theorem flatMap_perm2 {α β : Type} {f g : α → List β} : ∀ {l : List α}, (∀ x ∈ l, (f x).Perm (g x)) → (l.flatMap f).Perm (l.flatMap g)
  | [], _ => List.Perm.refl _
  | a :: r, h => by
    rw [List.flatMap_cons, List.flatMap_cons]
    exact List.Perm.append (h a List.mem_cons_self) (flatMap_perm2 fun x hx => h x (List.mem_cons_of_mem _ hx))
end My
namespace My
theorem rowC_lo {r : Int × Int} {a : Int} (h : a = r.1) : rowC r a = [r.2] := by unfold rowC; rw [if_pos h]
theorem rowC_hi {r : Int × Int} {a : Int} (h : a = r.1 + 1) : rowC r a = [-r.2] := by unfold rowC; rw [if_neg (by omega), if_pos h]
theorem rowC_no {r : Int × Int} {a : Int} (h : ¬ a = r.1) (h2 : ¬ a = r.1 + 1) : rowC r a = [] := by unfold rowC; rw [if_neg h, if_neg h2]
theorem rowP_lo {r : Int × Int} {a : Int} (h : a = r.1) : rowP r a = r.1 + 1 := by unfold rowP; rw [if_pos h]
theorem rowP_hi {r : Int × Int} {a : Int} (h : a = r.1 + 1) : rowP r a = r.1 := by unfold rowP; rw [if_neg (by omega), if_pos h]
theorem rowP_no {r : Int × Int} {a : Int} (h : ¬ a = r.1) (h2 : ¬ a = r.1 + 1) : rowP r a = a := by unfold rowP; rw [if_neg h, if_neg h2]
/-- the places ps are those that were seen -/
structure Done (S : Int) (seen : List Bool) (ps : List Int) : Prop where
  nd : ps.Nodup
  at' : ∀ p ∈ ps, 0 ≤ p ∧ p < S ∧ seen[p.toNat]? = some true
  of : ∀ q : Nat, seen[q]? = some true → (q : Int) ∈ ps
theorem Done.none (S : Int) (n : Nat) : Done S (List.replicate n false) [] :=
  ⟨List.nodup_nil, fun p h => by simp at h, fun q h => by
    rw [List.getElem?_replicate] at h
    split at h <;> cases h⟩
theorem set_true {l : List Bool} {j q : Nat} (h : l[q]? = some true) : (l.set j true)[q]? = some true := by
  by_cases e : j = q
  · subst e
    rw [List.getElem?_set_self (List.getElem?_eq_some_iff.mp h).1]
  · rw [List.getElem?_set_ne e]; exact h
theorem Done.snoc {S : Int} {seen : List Bool} {ps : List Int} {a : Int} (h : Done S seen ps) (a0 : 0 ≤ a) (a1 : a < S) (e : seen[a.toNat]? = some false) : Done S (seen.set a.toNat true) (ps ++ [a]) := by
  have hl : a.toNat < seen.length := (List.getElem?_eq_some_iff.mp e).1
  have hn : a ∉ ps := fun m => by
    have := (h.at' a m).2.2
    rw [e] at this; cases this
  refine ⟨?_, fun p hp => ?_, fun q hq => ?_⟩
  · rw [List.nodup_append]
    refine ⟨h.nd, by simp, fun x hx y hy => ?_⟩
    rw [List.mem_singleton.mp hy]
    exact fun e => hn (e ▸ hx)
  · rcases List.mem_append.mp hp with hp | hp
    · obtain ⟨h1, h2, h3⟩ := h.at' p hp
      exact ⟨h1, h2, set_true h3⟩
    · rw [List.mem_singleton.mp hp]
      exact ⟨a0, a1, by rw [List.getElem?_set_self hl]⟩
  · by_cases hqa : a.toNat = q
    · exact List.mem_append_right _ (List.mem_singleton.mpr (by omega))
    · rw [List.getElem?_set_ne hqa] at hq
      exact List.mem_append_left _ (h.of q hq)
theorem Done.all {S : Int} {seen : List Bool} {ps : List Int} (h : Done S seen ps) (hl : seen.length = S.toNat) (h0 : 0 ≤ S) (ha : ∀ q : Nat, q < S.toNat → seen[q]? = some true) : ps.Perm (iota S.toNat) := by
  refine nodup_perm h.nd (nodup_iota _) fun x => ?_
  rw [mem_iota]
  constructor
  · intro hx
    obtain ⟨h1, h2, _⟩ := h.at' x hx
    omega
  · rintro ⟨x0, x1⟩
    have := h.of x.toNat (ha x.toNat (by omega))
    rw [show ((x.toNat : Nat) : Int) = x by omega] at this
    exact this
theorem all_succ {seen : List Bool} {i : Nat} (h : ∀ q : Nat, q < i → seen[q]? = some true) (hi : seen[i]? = some true) : ∀ q : Nat, q < i + 1 → seen[q]? = some true := fun q hq => by
  by_cases e : q = i
  · subst e; exact hi
  · exact h q (by omega)
end My

namespace My
open PySem L2

theorem sz0 : 0 ≤ sizeLine := by decide
theorem szle {n : Nat} (h : n ≤ 1000) : n ≤ sizeLine := Nat.le_of_lt (small1000 h)
theorem at_of {ns : List Int} {j : Nat} {v : Int} (h : ns[j]? = some v) {i : Int} (hi : i = (j : Int)) : atI (ns.map V.int) i = some (.int v) := by
  subst hi
  exact atI_nat (by rw [List.getElem?_map, h]; rfl)
theorem atM {ns : List Int} {i : Int} (h0 : 0 ≤ i) (h1 : i < (ns.length : Int)) : ∃ v, atI (ns.map V.int) i = some (.int v) ∧ ns[i.toNat]? = some v := by
  have hk : i.toNat < ns.length := by omega
  exact ⟨ns[i.toNat], at_of (List.getElem?_eq_getElem hk) (by omega), List.getElem?_eq_getElem hk⟩
theorem at_ref {ads : List Addr} {j : Nat} {b : Addr} (h : ads[j]? = some b) {i : Int} (hi : i = (j : Int)) : atI (ads.map V.ref) i = some (.ref b) := by
  subst hi
  exact atI_nat (by rw [List.getElem?_map, h]; rfl)
theorem ixN_of {n : Nat} {k : Int} (h0 : 0 ≤ k) (h1 : k < (n : Int)) : ixN n k = some k.toNat := by
  unfold ixN
  rw [if_pos h0, if_pos (by omega)]
theorem int_at {ms : List Int} {i : Nat} {y : V} (h : (ms.map V.int)[i]? = some y) : ∃ z, y = .int z ∧ ms[i]? = some z := by
  rw [List.getElem?_map] at h
  cases e : ms[i]? with
  | none => rw [e] at h; cases h
  | some z => rw [e] at h; exact ⟨z, (Option.some.inj h).symm, rfl⟩
theorem ref_at {ads : List Addr} {i : Nat} {y : V} (h : (ads.map V.ref)[i]? = some y) : ∃ b, y = .ref b ∧ ads[i]? = some b := by
  rw [List.getElem?_map] at h
  cases e : ads[i]? with
  | none => rw [e] at h; cases h
  | some z => rw [e] at h; exact ⟨z, (Option.some.inj h).symm, rfl⟩
theorem cutV_map (ns : List Int) (lo hi : Option Int) : cutV (ns.map V.int) lo hi = (((ns.drop (HT.sIx ns.length 0 lo)).take (HT.sIx ns.length ns.length hi - HT.sIx ns.length 0 lo)).map V.int) := by
  unfold cutV
  rw [List.length_map, ← List.map_drop, ← List.map_take]
theorem map_snoc (acc : List Int) (v : Int) : acc.map V.int ++ [.int v] = (acc ++ [v]).map V.int := by simp
theorem ref_snoc (acc : List Addr) (v : Addr) : acc.map V.ref ++ [.ref v] = (acc ++ [v]).map V.ref := by simp
theorem eqI {x y : Int} : decide (V.int x = V.int y) = decide (x = y) := by
  rw [Bool.eq_iff_iff]; simp
theorem len_int (ns : List Int) : (ns.map V.int).length = ns.length := List.length_map _
theorem len_ref (ns : List Addr) : (ns.map V.ref).length = ns.length := List.length_map _

/-! ### what the drawn numbers promise -/
/-- each number of acc below the one of sizes at its place -/
def Below (sizes acc : List Int) : Prop := ∀ (j : Nat) (s v : Int), sizes[j]? = some s → acc[j]? = some v → 0 ≤ v ∧ v < s
theorem Below.snoc {sizes acc : List Int} {i : Nat} {sz v : Int} (hb : Below sizes acc) (la : acc.length = i) (ez : sizes[i]? = some sz) (h : 0 ≤ v ∧ v < sz) : Below sizes (acc ++ [v]) := by
  intro j s w e1 e2
  by_cases hj : j < acc.length
  · rw [List.getElem?_append_left hj] at e2
    exact hb j s w e1 e2
  · rw [List.getElem?_append_right (by omega)] at e2
    by_cases hj2 : j = i
    · subst hj2
      rw [la, Nat.sub_self] at e2
      rw [ez] at e1
      cases e1
      have e2' : v = w := by simpa using e2
      subst e2'
      exact h
    · rw [List.getElem?_singleton, if_neg (by omega)] at e2
      cases e2
def sp_cell (K : PySem.W.Frag) : Sp := fun vs H Q _ => ∃ (a : Addr) (ns : List Int) (p : Int), vs = [.ref a, .int p] ∧ SqL K H a (ns.map V.int) ∧ ns.length ≤ 63 ∧ 0 ≤ p ∧ p ≤ 100 ∧
  ∀ (c : Int) (H' : Hp), Same H H' → Q (.int c) H'
def sp_mix (_ : PySem.W.Frag) : Sp := fun vs H Q _ => ∃ (c k : Int), vs = [.int c, .int k] ∧ 0 ≤ k ∧ k ≤ 1000 ∧ ∀ v : Int, Q (.int v) H
def sp_row (K : PySem.W.Frag) : Sp := fun vs H Q _ => ∃ (a : Addr) (ns : List Int) (p : Int) (z : Addr) (sizes : List Int), vs = [.ref a, .int p, .ref z] ∧ SqL K H a (ns.map V.int) ∧ ns.length ≤ 63 ∧ 0 ≤ p ∧ p ≤ 36 ∧
  H z = some (.lst (sizes.map V.int)) ∧ sizes.length ≤ 500 ∧ (∀ s ∈ sizes, 0 < s ∧ s.natAbs.log2 < 9000) ∧
  ∀ (r : Addr) (acc : List Int) (H' : Hp), Same H H' → H r = none → H' r = some (.lst (acc.map V.int)) → acc.length = sizes.length → Below sizes acc → Q (.ref r) H'

/-! ### drawings on the heap -/
def WsAt (H : Hp) (ads : List Addr) (ws : List (List Int)) : Prop := Paired (fun b w => H b = some (.lst (w.map V.int))) ads ws
def SgAt (H : Hp) (tds : List Addr) (sg : List (Int × Int)) : Prop := Paired (fun t e => H t = some (.tup [.int e.1, .int e.2])) tds sg
theorem WsAt.keep {H H' : Hp} {ads : List Addr} {ws : List (List Int)} (s : Same H H') (h : WsAt H ads ws) : WsAt H' ads ws := Paired.imp2 (fun _ _ z => s _ _ z) h
theorem SgAt.keep {H H' : Hp} {tds : List Addr} {sg : List (Int × Int)} (s : Same H H') (h : SgAt H tds sg) : SgAt H' tds sg := Paired.imp2 (fun _ _ z => s _ _ z) h
theorem WsAt.other {H : Hp} {b : Addr} {o : HO} : ∀ {ads : List Addr} {ws : List (List Int)}, WsAt H ads ws → b ∉ ads → WsAt (upd H b o) ads ws
  | _, _, .nil, _ => .nil
  | _, _, .cons r t, h => .cons (by rw [upd_ne (fun e => h (by rw [e]; exact List.mem_cons_self))]; exact r) (WsAt.other t fun z => h (List.mem_cons_of_mem _ z))
theorem WsAt.set {H : Hp} {b : Addr} {w' : List Int} : ∀ {ads : List Addr} {ws : List (List Int)} {j : Nat}, WsAt H ads ws → ads.Nodup → ads[j]? = some b → WsAt (upd H b (.lst (w'.map V.int))) ads (ws.set j w')
  | _, _, _, .nil, _, e => by simp at e
  | x :: ads, _ :: _, 0, .cons r t, nd, e => by
    have e' : x = b := by simpa using e
    subst e'
    exact .cons upd_same (WsAt.other t (List.nodup_cons.mp nd).1)
  | x :: ads, _ :: _, j + 1, .cons r t, nd, e => by
    have e' : ads[j]? = some b := by simpa using e
    refine .cons ?_ (WsAt.set t (List.nodup_cons.mp nd).2 e')
    rw [upd_ne (fun z => (List.nodup_cons.mp nd).1 (by rw [z]; exact List.mem_of_getElem? e'))]
    exact r
theorem WsAt.ex {H : Hp} : ∀ {ads : List Addr} {ws : List (List Int)} {b : Addr}, WsAt H ads ws → b ∈ ads → ∃ w ∈ ws, H b = some (.lst (w.map V.int))
  | _, _, _, .nil, h => by simp at h
  | _, _, _, .cons r t, h => by
    rcases List.mem_cons.mp h with rfl | h
    · exact ⟨_, List.mem_cons_self, r⟩
    · obtain ⟨w, h1, h2⟩ := WsAt.ex t h
      exact ⟨w, List.mem_cons_of_mem _ h1, h2⟩
theorem WsAt.fresh {H : Hp} {ads : List Addr} {ws : List (List Int)} {b : Addr} (h : WsAt H ads ws) (hb : H b = none) : b ∉ ads := fun m => by
  obtain ⟨w, _, e⟩ := h.ex m
  rw [hb] at e; cases e
theorem WsAt.get {H : Hp} {ads : List Addr} {ws : List (List Int)} {j : Nat} {b : Addr} (h : WsAt H ads ws) (e : ads[j]? = some b) : ∃ w, ws[j]? = some w ∧ H b = some (.lst (w.map V.int)) := Paired.getL h e
structure Dr (H : Hp) (p : Addr) (ws : List (List Int)) (sg : List (Int × Int)) (a b : Addr) (ads tds : List Addr) : Prop where
  tp : H p = some (.tup [.ref a, .ref b])
  la : H a = some (.lst (ads.map V.ref))
  lb : H b = some (.lst (tds.map V.ref))
  wa : WsAt H ads ws
  sa : SgAt H tds sg
  nab : a ≠ b
  na : a ∉ ads
  nb : b ∉ ads
def IsDr (H : Hp) (p : Addr) (ws : List (List Int)) (sg : List (Int × Int)) : Prop := ∃ a b ads tds, Dr H p ws sg a b ads tds
def NewDr (H0 H : Hp) (p : Addr) (ws : List (List Int)) (sg : List (Int × Int)) : Prop := ∃ a b ads tds, Dr H p ws sg a b ads tds ∧ H0 a = none ∧ H0 b = none ∧ ∀ x ∈ ads, H0 x = none
theorem NewDr.is {H0 H : Hp} {p : Addr} {ws : List (List Int)} {sg : List (Int × Int)} (h : NewDr H0 H p ws sg) : IsDr H p ws sg := by
  obtain ⟨a, b, ads, tds, d, _⟩ := h
  exact ⟨a, b, ads, tds, d⟩
theorem Dr.keep {H H' : Hp} {p : Addr} {ws : List (List Int)} {sg : List (Int × Int)} {a b : Addr} {ads tds : List Addr} (s : Same H H') (d : Dr H p ws sg a b ads tds) : Dr H' p ws sg a b ads tds :=
  ⟨s _ _ d.tp, s _ _ d.la, s _ _ d.lb, d.wa.keep s, d.sa.keep s, d.nab, d.na, d.nb⟩
theorem IsDr.keep {H H' : Hp} {p : Addr} {ws : List (List Int)} {sg : List (Int × Int)} (s : Same H H') (d : IsDr H p ws sg) : IsDr H' p ws sg := by
  obtain ⟨a, b, ads, tds, d⟩ := d
  exact ⟨a, b, ads, tds, d.keep s⟩
abbrev rDr : Enc (List (List Int) × List (Int × Int)) := rT2 (rL (rL rInt)) (rL (rT2 rInt rInt))
theorem WsAt.enc {K : PySem.W.Frag} {H : Hp} : ∀ {ads : List Addr} {ws : List (List Int)}, WsAt H ads ws → Paired (rL rInt K H) (ads.map V.ref) ws
  | _, _, .nil => .nil
  | _, _, .cons r t => .cons ⟨_, _, rfl, SqL.of r, paired_ints _⟩ (WsAt.enc t)
theorem SgAt.enc {K : PySem.W.Frag} {H : Hp} : ∀ {tds : List Addr} {sg : List (Int × Int)}, SgAt H tds sg → Paired (rT2 rInt rInt K H) (tds.map V.ref) sg
  | _, _, .nil => .nil
  | _, _, .cons r t => .cons ⟨_, _, _, rfl, SqT.of r, rfl, rfl⟩ (SgAt.enc t)
theorem IsDr.enc {K : PySem.W.Frag} {H : Hp} {p : Addr} {ws : List (List Int)} {sg : List (Int × Int)} (d : IsDr H p ws sg) : rDr K H (.ref p) (ws, sg) := by
  obtain ⟨a, b, ads, tds, d⟩ := d
  exact ⟨p, _, _, rfl, SqT.of d.tp, ⟨a, _, rfl, SqL.of d.la, d.wa.enc⟩, ⟨b, _, rfl, SqL.of d.lb, d.sa.enc⟩⟩
/-- few enough things -/
structure Small (ws : List (List Int)) (sg : List (Int × Int)) : Prop where
  w : ws.length ≤ 50
  p : ∀ x ∈ ws, x.length ≤ 400
  s : sg.length ≤ 100
end My
namespace My
open PySem L2
theorem rep_bl (n : Nat) : (List.replicate n [V.bl false]).flatten = (List.replicate n false).map V.bl := by
  induction n with
  | zero => rfl
  | succ n ih => rw [List.replicate_succ, List.flatten_cons, ih, List.replicate_succ]; rfl
theorem atB {bs : List Bool} {i : Int} (h0 : 0 ≤ i) (h1 : i < (bs.length : Int)) : ∃ c, atI (bs.map V.bl) i = some (.bl c) ∧ bs[i.toNat]? = some c := by
  have hk : i.toNat < bs.length := by omega
  have e : i = ((i.toNat : Nat) : Int) := by omega
  refine ⟨bs[i.toNat], ?_, List.getElem?_eq_getElem hk⟩
  have := atI_nat (xs := bs.map V.bl) (j := i.toNat) (v := .bl bs[i.toNat]) (by rw [List.getElem?_map, List.getElem?_eq_getElem hk]; rfl)
  rw [← e] at this
  exact this
theorem count_bl (bs : List Bool) : (bs.map V.bl).count (V.bl false) = bs.count false := by
  induction bs with
  | nil => rfl
  | cons b r ih =>
    rw [List.map_cons, List.count_cons, List.count_cons, ih]
    cases b <;> rfl
theorem dget {H : Hp} {d : Addr} {kvs : List (Key × V)} {x : Int} {v : V} (hd : H d = some (.dK kvs)) (e : valV kvs (Sum.inl x : Key) = some v) : DGet H d (.int x) (some v) := by
  have := DGet.k (k := Sum.inl x) hd
  rw [e] at this
  exact this
/-- the sizes of a drawn drawing -/
def szs (most : Int) : List Int := [most + 1, 5, 4, 3, 3] ++ (List.replicate (2 * most).toNat [80, 5, 2, 3]).flatten
theorem szs_map (most : Int) : [V.int (most + 1), V.int 5, V.int 4, V.int 3, V.int 3] ++ (List.replicate (2 * most).toNat [V.int 80, V.int 5, V.int 2, V.int 3]).flatten = (szs most).map V.int := by
  unfold szs
  rw [List.map_append, List.map_flatten, List.map_replicate]
  rfl
theorem rep4_length (n : Nat) : (List.replicate n ([80, 5, 2, 3] : List Int)).flatten.length = 4 * n := by
  induction n with
  | zero => rfl
  | succ n ih => rw [List.replicate_succ, List.flatten_cons, List.length_append, ih]; simp; omega
theorem szs_length (most : Int) : (szs most).length = 5 + 4 * (2 * most).toNat := by
  unfold szs
  rw [List.length_append, rep4_length]; rfl
theorem rep4_get (n q r : Nat) (hq : q < n) (hr : r < 4) : (List.replicate n ([80, 5, 2, 3] : List Int)).flatten[4 * q + r]? = ([80, 5, 2, 3] : List Int)[r]? := by
  induction n generalizing q with
  | zero => omega
  | succ n ih =>
    rw [List.replicate_succ, List.flatten_cons]
    cases q with
    | zero => rw [List.getElem?_append_left (by simp; omega)]; simp
    | succ q =>
      rw [List.getElem?_append_right (by simp; omega)]
      have : 4 * (q + 1) + r - ([80, 5, 2, 3] : List Int).length = 4 * q + r := by simp; omega
      rw [this]
      exact ih q (by omega)
theorem szs_get (most : Int) (q r : Nat) (hq : q < (2 * most).toNat) (hr : r < 4) : (szs most)[5 + (4 * q + r)]? = ([80, 5, 2, 3] : List Int)[r]? := by
  unfold szs
  rw [List.getElem?_append_right (by simp)]
  have : 5 + (4 * q + r) - ([most + 1, 5, 4, 3, 3] : List Int).length = 4 * q + r := by simp
  rw [this]
  exact rep4_get _ q r hq hr
theorem szs_pos (most : Int) (h : 1 ≤ most) (h2 : most ≤ 20) : ∀ s ∈ szs most, 0 < s ∧ s.natAbs.log2 < 9000 := by
  have small : ∀ s : Int, 0 < s → s ≤ 100 → 0 < s ∧ s.natAbs.log2 < 9000 := fun s h1 h2 => by
    refine ⟨h1, ?_⟩
    have : s.natAbs.log2 ≤ s.natAbs := Nat.log2_le_self _
    omega
  intro s hs
  unfold szs at hs
  rcases List.mem_append.mp hs with hs | hs
  · simp only [List.mem_cons, List.mem_nil_iff, or_false] at hs
    rcases hs with e | e | e | e | e <;> subst e <;> exact small _ (by omega) (by omega)
  · obtain ⟨l, hl, hm⟩ := List.mem_flatten.mp hs
    rw [List.eq_of_mem_replicate hl] at hm
    simp only [List.mem_cons, List.mem_nil_iff, or_false] at hm
    rcases hm with e | e | e | e <;> subst e <;> exact small _ (by decide) (by decide)
/-- the sign that the dict has -/
def sgnOf (kvs : List (Key × V)) (x : Int) : Int := match valV kvs (Sum.inl x : Key) with
  | some (.int s) => s
  | _ => 0
theorem sgnOf_eq {kvs : List (Key × V)} {x s : Int} (e : valV kvs (Sum.inl x : Key) = some (.int s)) : sgnOf kvs x = s := by
  unfold sgnOf; rw [e]
theorem take_succ' {α : Type} {l : List α} {i : Nat} {x : α} (h : l[i]? = some x) : l.take (i + 1) = l.take i ++ [x] := by
  rw [List.take_add_one, h]; rfl
end My
namespace My
open PySem L2
/-- a list is written: the tuples stay -/
theorem sg_other {H : Hp} {b : Addr} {o : HO} {xs : List V} : ∀ {tds : List Addr} {sg : List (Int × Int)}, SgAt H tds sg → H b = some (.lst xs) → SgAt (upd H b o) tds sg
  | _, _, .nil, _ => .nil
  | _, _, .cons r t, h => .cons (by rw [upd_ne (ne_of r h (by intro z; cases z))]; exact r) (sg_other t h)
end My
namespace My
open PySem L2
theorem at2_0 (x y : V) : atI [x, y] 0 = some x := atI_nat (j := 0) rfl
theorem at2_1 (x y : V) : atI [x, y] 1 = some y := atI_nat (j := 1) rfl
theorem WsAt.len {H : Hp} {ads : List Addr} {ws : List (List Int)} (h : WsAt H ads ws) : ads.length = ws.length := Paired.len h
theorem SgAt.len {H : Hp} {tds : List Addr} {sg : List (Int × Int)} (h : SgAt H tds sg) : tds.length = sg.length := Paired.len h
theorem SgAt.get {H : Hp} {tds : List Addr} {sg : List (Int × Int)} {j : Nat} {b : Addr} (h : SgAt H tds sg) (e : tds[j]? = some b) : ∃ w, sg[j]? = some w ∧ H b = some (.tup [.int w.1, .int w.2]) := Paired.getL h e
theorem Paired.put {α β : Type} {F : α → β → Prop} {a : α} {b : β} (h : F a b) : ∀ {l : List α} {m : List β} (i : Nat), Paired F l m → Paired F (l.set i a) (m.set i b)
  | _, _, _, .nil => .nil
  | _, _, 0, .cons _ t => .cons h t
  | _, _, i + 1, .cons q t => .cons q (Paired.put h i t)
theorem WsAt.put {H : Hp} {ads : List Addr} {ws : List (List Int)} {x : Addr} {w : List Int} (h : H x = some (.lst (w.map V.int))) (j : Nat) (wa : WsAt H ads ws) : WsAt H (ads.set j x) (ws.set j w) :=
  Paired.put (F := fun (b : Addr) (w : List Int) => H b = some (.lst (w.map V.int))) h j wa
theorem mem_small {ws : List (List Int)} {sg : List (Int × Int)} (h : Small ws sg) {i : Nat} {w : List Int} (e : ws[i]? = some w) : w.length ≤ 400 := h.p w (List.mem_of_getElem? e)
end My
namespace My
open PySem L2
theorem cut_from (w : List Int) {s : Int} (h0 : 0 ≤ s) (h1 : s < (w.length : Int)) : (w.drop (HT.sIx w.length 0 (some s))).take (HT.sIx w.length w.length none - HT.sIx w.length 0 (some s)) = w.drop s.toNat := by
  have e : HT.sIx w.length 0 (some s) = s.toNat := by
    have : s = ((s.toNat : Nat) : Int) := by omega
    rw [this, HT.sIx_nat, Int.toNat_natCast]; omega
  rw [e, HT.sIx_none, List.take_of_length_le (by rw [List.length_drop]; omega)]
theorem cut_to (w : List Int) {s : Int} (h0 : 0 ≤ s) (h1 : s < (w.length : Int)) : (w.drop (HT.sIx w.length 0 none)).take (HT.sIx w.length w.length (some s) - HT.sIx w.length 0 none) = w.take s.toNat := by
  have e : HT.sIx w.length w.length (some s) = s.toNat := by
    have : s = ((s.toNat : Nat) : Int) := by omega
    rw [this, HT.sIx_nat, Int.toNat_natCast]; omega
  rw [e, HT.sIx_none, List.drop_zero, Nat.sub_zero]
theorem kit_same (K : PySem.W.Frag) (T : String) : PySem.W.kitOne K (.type T) (.type T) = some true := by
  unfold PySem.W.kitOne
  rw [if_pos (beq_self_eq_true _)]
theorem kit_int_bool (K : PySem.W.Frag) : PySem.W.kitOne K (.type "int") (.type "bool") = some false := by
  first
    | rfl
    | decide +kernel
    | (unfold PySem.W.kitOne PySem.W.kitCls; rfl)
end My
namespace My
open PySem L2
theorem Paired.mem {α β : Type} {F G : α → β → Prop} : ∀ {l : List α} {m : List β}, Paired F l m → (∀ a b, a ∈ l → F a b → G a b) → Paired G l m
  | _, _, .nil, _ => .nil
  | _, _, .cons r t, h => .cons (h _ _ List.mem_cons_self r) (Paired.mem t fun a b ha => h a b (List.mem_cons_of_mem _ ha))
end My
namespace My
open PySem L2
theorem list4 {l : List Int} (h : l.length = 4) : ∃ a b c d, l = [a, b, c, d] := match l, h with
  | [a, b, c, d], _ => ⟨a, b, c, d, rfl⟩
end My

namespace My
open PySem L2
/-! ### the generators: what they promise -/
def sp_mixed (_ : PySem.W.Frag) : Sp := fun vs H Q _ => ∃ (a : Addr) (names : List Int) (z : Addr) (zs : List Int), vs = [.ref a, .ref z] ∧ H a = some (.lst (names.map V.int)) ∧ H z = some (.lst (zs.map V.int)) ∧ names.length ≤ 20 ∧ 8 * names.length + 3 ≤ zs.length ∧
  ∀ (r : Addr) (ms : List Int) (H' : Hp), Same H H' → H r = none → H' r = some (.lst (ms.map V.int)) → ms.Perm names → Q (.ref r) H'
/-- a new list of new lists of ints -/
structure NewWs (H0 H : Hp) (r : Addr) (ads : List Addr) (ws : List (List Int)) : Prop where
  n0 : H0 r = none
  la : H r = some (.lst (ads.map V.ref))
  wa : WsAt H ads ws
  fr : ∀ x ∈ ads, H0 x = none
  nr : r ∉ ads
def sp_any (_ : PySem.W.Frag) : Sp := fun vs H Q _ => ∃ (a : Addr) (names : List Int) (z : Addr) (zs : List Int) (rings : Int), vs = [.ref a, .ref z, .int rings] ∧ H a = some (.lst (names.map V.int)) ∧ H z = some (.lst (zs.map V.int)) ∧
  names.length ≤ 20 ∧ 8 * names.length + 3 ≤ zs.length ∧ 0 ≤ rings ∧ rings ≤ 12 ∧ (0 < names.length → 0 < rings) ∧
  ∀ (r : Addr) (ads : List Addr) (ws : List (List Int)) (H' : Hp), Same H H' → NewWs H H' r ads ws → (ws.length : Int) = rings → (∀ w ∈ ws, w.length ≤ 100) → ws.flatten.Perm (names.flatMap fun x => [x, -x]) → Q (.ref r) H'
/-- the dict of signs -/
def SignsOf (kvs : List (Key × V)) (names : List Int) : Prop := ∀ x ∈ names, ∃ s : Int, valV kvs (Sum.inl x : Key) = some (.int s) ∧ (s = 1 ∨ s = -1)
/-- what the drawings promise that are drawn here -/
structure Good (ws : List (List Int)) (sg : List (Int × Int)) : Prop where
  rise : (sg.map (·.1)).Pairwise (· < ·)
  pos : ∀ e ∈ sg, 1 ≤ e.1 ∧ (e.2 = 1 ∨ e.2 = -1)
  all : ws.flatten.Perm ((sg.map (·.1)).flatMap fun x => [x, -x])
def sp_plaited (_ : PySem.W.Frag) : Sp := fun vs H Q _ => ∃ (a : Addr) (names : List Int) (d : Addr) (kvs : List (Key × V)) (z : Addr) (zs : List Int) (strands : Int), vs = [.ref a, .ref d, .ref z, .int strands] ∧ H a = some (.lst (names.map V.int)) ∧ H d = some (.dK kvs) ∧ H z = some (.lst (zs.map V.int)) ∧
  names.length ≤ 20 ∧ 8 * names.length + 3 ≤ zs.length ∧ 2 ≤ strands ∧ strands ≤ 4 ∧ SignsOf kvs names ∧
  ∀ (r : Addr) (ads : List Addr) (ws : List (List Int)) (H' : Hp), Same H H' → NewWs H H' r ads ws → ws.length ≤ 4 → (∀ w ∈ ws, w.length ≤ 100) → ws.flatten.Perm (names.flatMap fun x => [x, -x]) → Q (.ref r) H'
def sp_drawn (K : PySem.W.Frag) : Sp := fun vs H Q _ => ∃ (a : Addr) (ns : List Int) (p most : Int), vs = [.ref a, .int p, .int most] ∧ SqL K H a (ns.map V.int) ∧ ns.length ≤ 63 ∧ 0 ≤ p ∧ p ≤ 36 ∧ 1 ≤ most ∧ most ≤ 20 ∧
  ∀ (r : Addr) (ws : List (List Int)) (sg : List (Int × Int)) (H' : Hp), Same H H' → NewDr H H' r ws sg → Small ws sg → Good ws sg → Q (.ref r) H'
def sp_great (_ : PySem.W.Frag) : Sp := fun vs H Q _ => ∃ (z : Addr) (r0 r1 r2 : Int), vs = [.ref z] ∧ H z = some (.lst ([r0, r1, r2].map V.int)) ∧ 0 ≤ r0 ∧ r0 < 5 ∧ 0 ≤ r1 ∧ r1 < 4 ∧ 0 ≤ r2 ∧ r2 < 9 ∧
  ∀ (r : Addr) (ws : List (List Int)) (sg : List (Int × Int)) (H' : Hp), Same H H' → NewDr H H' r ws sg → Small ws sg → Good ws sg → Q (.ref r) H'
def sp_copy (_ : PySem.W.Frag) : Sp := fun vs H Q _ => ∃ (p : Addr) (ws : List (List Int)) (sg : List (Int × Int)), vs = [.ref p] ∧ IsDr H p ws sg ∧ Small ws sg ∧ ∀ (r : Addr) (H' : Hp), Same H H' → NewDr H H' r ws sg → Q (.ref r) H'
def sp_is_whole (_ : PySem.W.Frag) : Sp := fun vs H Q _ => ∃ i : Int, vs = [.int i] ∧ Q (.bl true) H

theorem f_nonneg {n : Nat} {f : Int} (h : ([0, 1, (10 : Int) ^ (58 : Int).toNat] : List Int)[n]? = some f) : 0 ≤ f := by
  have := List.mem_of_getElem? h
  simp only [List.mem_cons, List.mem_nil_iff, or_false] at this
  rcases this with e | e | e
  · rw [e]; exact Int.le_refl 0
  · rw [e]; decide
  · rw [e]; decide +kernel
theorem fst_map (names : List Int) (kvs : List (Key × V)) : (names.map fun x => (x, sgnOf kvs x)).map (·.1) = names := by
  rw [List.map_map]
  conv => rhs; rw [← List.map_id names]
  rfl
theorem sg_pos {names : List Int} {kvs : List (Key × V)} {last : Int} (hso : SignsOf kvs names) (hpo : ∀ x ∈ names, 1 ≤ x ∧ x ≤ last) {e : Int × Int} (he : e ∈ names.map fun x => (x, sgnOf kvs x)) : 1 ≤ e.1 ∧ (e.2 = 1 ∨ e.2 = -1) := by
  obtain ⟨x, hx, rfl⟩ := List.mem_map.mp he
  obtain ⟨s, e1, e2⟩ := hso x hx
  refine ⟨(hpo x hx).1, ?_⟩
  show sgnOf kvs x = 1 ∨ sgnOf kvs x = -1
  rw [sgnOf_eq e1]; exact e2
/-! ### rows of a plait -/
theorem range_getD {α : Type} (l : List α) (d : α) : (List.range l.length).map (fun j => l.getD j d) = l := by
  apply List.ext_getElem?
  intro i
  rw [List.getElem?_map]
  by_cases h : i < l.length
  · rw [List.getElem?_range h, List.getElem?_eq_getElem h]
    simp [List.getD, List.getElem?_eq_getElem h]
  · rw [List.getElem?_eq_none (by simpa using h), List.getElem?_eq_none (by omega)]; rfl
def rowsOf (names zs : List Int) (kvs : List (Key × V)) (S : Int) : List (Int × Int) := (List.range names.length).map fun j => (zs.getD (8 * j + 10) 0 % (S - 1), names.getD j 0 * sgnOf kvs (names.getD j 0))
theorem rowsOf_get {names zs : List Int} {kvs : List (Key × V)} {S : Int} {j : Nat} {x zv : Int} (h : names[j]? = some x) (hz : zs[8 * j + 10]? = some zv) : (rowsOf names zs kvs S)[j]? = some (zv % (S - 1), x * sgnOf kvs x) := by
  have hj : j < names.length := (List.getElem?_eq_some_iff.mp h).1
  unfold rowsOf
  rw [List.getElem?_map, List.getElem?_range hj]
  simp [List.getD, h, hz]
theorem rowsOf_length (names zs : List Int) (kvs : List (Key × V)) (S : Int) : (rowsOf names zs kvs S).length = names.length := by simp [rowsOf]
theorem rowsOf_in {names zs : List Int} {kvs : List (Key × V)} {S : Int} (hS : 2 ≤ S) : ∀ r ∈ rowsOf names zs kvs S, 0 ≤ r.1 ∧ r.1 + 1 < S := by
  intro r hr
  unfold rowsOf at hr
  obtain ⟨j, _, rfl⟩ := List.mem_map.mp hr
  have h0 := Int.emod_nonneg (zs.getD (8 * j + 10) 0) (show S - 1 ≠ 0 by omega)
  have h1 := Int.emod_lt_of_pos (zs.getD (8 * j + 10) 0) (show 0 < S - 1 by omega)
  exact ⟨h0, by show zs.getD (8 * j + 10) 0 % (S - 1) + 1 < S; omega⟩
theorem rowsOf_all {names zs : List Int} {kvs : List (Key × V)} {S : Int} (hs : SignsOf kvs names) : ((rowsOf names zs kvs S).flatMap fun r => [r.2, -r.2]).Perm (names.flatMap fun x => [x, -x]) := by
  unfold rowsOf
  rw [flatMap_map]
  have e : names.flatMap (fun x => [x, -x]) = (List.range names.length).flatMap fun j => [names.getD j 0, -(names.getD j 0)] := by
    conv => lhs; rw [← range_getD names 0]
    rw [flatMap_map]
  rw [e]
  refine flatMap_perm2 fun j hj => ?_
  have hj' := List.mem_range.mp hj
  have hm : names.getD j 0 ∈ names := by
    simp [List.getD, List.getElem?_eq_getElem hj']
  obtain ⟨s, e1, e2⟩ := hs _ hm
  rw [sgnOf_eq e1]
  exact pm_perm e2
end My

/-! arcs -/
namespace My
def negs (w : List Int) : Nat := (w.filter fun x => decide (x < 0)).length
def arcN (w : List Int) : Nat := max (negs w) 1
def waysOf (w : List Int) (first : Int) : List Int := (List.range (max w.length 1)).map fun k => first + (negs (w.take k) : Int) % (arcN w : Int)
def arcsOf : List (List Int) → Int → List (List Int)
  | [], _ => []
  | w :: ws, f => waysOf w f :: arcsOf ws (f + arcN w)
def arcSum (ws : List (List Int)) : Int := (ws.map fun w => (arcN w : Int)).sum
theorem negs_nil : negs [] = 0 := rfl
theorem negs_app (a b : List Int) : negs (a ++ b) = negs a + negs b := by unfold negs; rw [List.filter_append, List.length_append]
theorem negs_neg {x : Int} (h : x < 0) : negs [x] = 1 := by simp [negs, h]
theorem negs_pos {x : Int} (h : ¬ x < 0) : negs [x] = 0 := by simp [negs, h]
theorem negs_take_succ {w : List Int} {i : Nat} {x : Int} (h : w[i]? = some x) : negs (w.take (i + 1)) = negs (w.take i) + negs [x] := by
  rw [List.take_add_one, h, negs_app]; rfl
theorem negs_take_le (w : List Int) (i j : Nat) (h : i ≤ j) : negs (w.take i) ≤ negs (w.take j) := by
  have e : w.take j = w.take i ++ (w.take j).drop i := by
    conv => lhs; rw [← List.take_append_drop i (w.take j)]
    rw [List.take_take, Nat.min_eq_left h]
  rw [e, negs_app]; omega
theorem negs_le (w : List Int) (i : Nat) : negs (w.take i) ≤ negs w := by
  by_cases h : i ≤ w.length
  · have := negs_take_le w i w.length h
    rw [List.take_length] at this; exact this
  · rw [List.take_of_length_le (by omega)]; exact Nat.le_refl _
theorem negs_length (w : List Int) : negs w ≤ w.length := List.length_filter_le _ _
theorem arcN_pos (w : List Int) : 0 < arcN w := by unfold arcN; omega
theorem waysOf_length (w : List Int) (f : Int) : (waysOf w f).length = max w.length 1 := by simp [waysOf]
theorem waysOf_get (w : List Int) (f : Int) {k : Nat} (h : k < max w.length 1) : (waysOf w f)[k]? = some (f + (negs (w.take k) : Int) % (arcN w : Int)) := by
  unfold waysOf
  rw [List.getElem?_map, List.getElem?_range h]; rfl
theorem arcsOf_length : ∀ (ws : List (List Int)) (f : Int), (arcsOf ws f).length = ws.length
  | [], _ => rfl
  | _ :: ws, f => by show (arcsOf ws _).length + 1 = _; rw [arcsOf_length ws]; rfl
theorem arcSum_cons (w : List Int) (ws : List (List Int)) : arcSum (w :: ws) = arcN w + arcSum ws := by simp [arcSum]
theorem arcSum_app (a b : List (List Int)) : arcSum (a ++ b) = arcSum a + arcSum b := by simp [arcSum, List.sum_append]
theorem arcSum_one (w : List Int) : arcSum [w] = arcN w := by simp [arcSum]
theorem arcsOf_app : ∀ (a b : List (List Int)) (f : Int), arcsOf (a ++ b) f = arcsOf a f ++ arcsOf b (f + arcSum a)
  | [], b, f => by simp [arcsOf, arcSum]
  | w :: a, b, f => by
    show waysOf w f :: arcsOf (a ++ b) (f + arcN w) = waysOf w f :: (arcsOf a (f + arcN w) ++ arcsOf b (f + arcSum (w :: a)))
    rw [arcsOf_app a b, arcSum_cons, Int.add_assoc]
theorem arcsOf_take {ws : List (List Int)} {i : Nat} {w : List Int} (h : ws[i]? = some w) (f : Int) : arcsOf (ws.take (i + 1)) f = arcsOf (ws.take i) f ++ [waysOf w (f + arcSum (ws.take i))] := by
  rw [List.take_add_one, h, arcsOf_app]; rfl
theorem arcSum_take {ws : List (List Int)} {i : Nat} {w : List Int} (h : ws[i]? = some w) : arcSum (ws.take (i + 1)) = arcSum (ws.take i) + arcN w := by
  rw [List.take_add_one, h, arcSum_app]
  show _ + arcSum [w] = _
  rw [arcSum_one]
theorem arcsOf_get {ws : List (List Int)} {i : Nat} {w : List Int} (h : ws[i]? = some w) (f : Int) : (arcsOf ws f)[i]? = some (waysOf w (f + arcSum (ws.take i))) := by
  have hl : i < ws.length := (List.getElem?_eq_some_iff.mp h).1
  have e : ws = ws.take (i + 1) ++ ws.drop (i + 1) := (List.take_append_drop _ _).symm
  rw [e, arcsOf_app, arcsOf_take h, List.getElem?_append_left (by rw [List.length_append, arcsOf_length, List.length_take]; simp; omega),
    List.getElem?_append_right (by rw [arcsOf_length, List.length_take]; omega), arcsOf_length, List.length_take, Nat.min_eq_left (by omega), Nat.sub_self, List.take_append_of_le_length (by rw [List.length_take]; omega), List.take_take, Nat.min_eq_left (by omega)]
  rfl
theorem negs_perm {a b : List Int} (h : a.Perm b) : negs a = negs b := (h.filter _).length_eq
/-- the law's look for the last passage under -/
structure LastIs (w : List Int) (i : Nat) (last : Int) : Prop where
  lo : -1 ≤ last
  hi : last < (i : Int)
  none : ∀ j : Nat, last < (j : Int) → j < i → ∀ x, w[j]? = some x → ¬ x < 0
  at' : 0 ≤ last → ∃ x, w[last.toNat]? = some x ∧ x < 0
theorem LastIs.zero (w : List Int) : LastIs w 0 (-1) := ⟨by omega, by omega, fun j _ h => by omega, fun h => by omega⟩
theorem LastIs.neg {w : List Int} {i : Nat} {x : Int} (e : w[i]? = some x) (hx : x < 0) : LastIs w (i + 1) (i : Int) :=
  ⟨by omega, by omega, fun j h1 h2 => by omega, fun _ => ⟨x, by simpa using e, hx⟩⟩
theorem LastIs.pos {w : List Int} {i : Nat} {x last : Int} (h : LastIs w i last) (e : w[i]? = some x) (hx : ¬ x < 0) : LastIs w (i + 1) last := by
  have := h.hi
  refine ⟨h.lo, by omega, fun j h1 h2 y hy => ?_, h.at'⟩
  by_cases hj : j = i
  · subst hj; rw [e] at hy; cases hy; exact hx
  · exact h.none j h1 (by omega) y hy
/-- the ways go on over, and end at passages under -/
theorem ways_over {w : List Int} {f x : Int} {i : Nat} (e : w[i]? = some x) (hx : 0 < x) : (waysOf w f)[(i + 1) % w.length]? = (waysOf w f)[i]? := by
  have hl := (List.getElem?_eq_some_iff.mp e).1
  have hn : negs (w.take (i + 1)) = negs (w.take i) := by rw [negs_take_succ e, negs_pos (by omega)]; rfl
  by_cases h : i + 1 < w.length
  · rw [Nat.mod_eq_of_lt h, waysOf_get w f (by omega), waysOf_get w f (by omega), hn]
  · have e2 : i + 1 = w.length := by omega
    rw [e2, Nat.mod_self, waysOf_get w f (by omega), waysOf_get w f (by omega), ← hn, e2, List.take_length]
    congr 2
    rw [List.take_zero, negs_nil]
    by_cases hz : negs w = 0
    · rw [hz]
    · have : (arcN w : Int) = (negs w : Int) := by unfold arcN; omega
      rw [this, Int.emod_self]; simp
end My

namespace My
open PySem L2
/-- a list of lists of ints, read -/
structure LsAt (H : Hp) (r : Addr) (ads : List Addr) (ws : List (List Int)) : Prop where
  la : H r = some (.lst (ads.map V.ref))
  wa : WsAt H ads ws
theorem LsAt.keep {H H' : Hp} {r : Addr} {ads : List Addr} {ws : List (List Int)} (s : Same H H') (h : LsAt H r ads ws) : LsAt H' r ads ws := ⟨s _ _ h.la, h.wa.keep s⟩
theorem LsAt.enc {K : PySem.W.Frag} {H : Hp} {r : Addr} {ads : List Addr} {ws : List (List Int)} (h : LsAt H r ads ws) : rL (rL rInt) K H (.ref r) ws := ⟨r, _, rfl, SqL.of h.la, h.wa.enc⟩
theorem NewWs.ls {H0 H : Hp} {r : Addr} {ads : List Addr} {ws : List (List Int)} (h : NewWs H0 H r ads ws) : LsAt H r ads ws := ⟨h.la, h.wa⟩
theorem NewWs.keep {H0 H H' : Hp} {r : Addr} {ads : List Addr} {ws : List (List Int)} (s : Same H H') (h : NewWs H0 H r ads ws) : NewWs H0 H' r ads ws := ⟨h.n0, s _ _ h.la, h.wa.keep s, h.fr, h.nr⟩
def sp_arcs_of_walk (_ : PySem.W.Frag) : Sp := fun vs H Q _ => ∃ (a : Addr) (w : List Int), vs = [.ref a] ∧ H a = some (.lst (w.map V.int)) ∧ w.length ≤ 400 ∧ ∀ H', Same H H' → Q (.int (arcN w : Int)) H'
def sp_arcs_of_ways (_ : PySem.W.Frag) : Sp := fun vs H Q _ => ∃ (a : Addr) (w : List Int) (f : Int), vs = [.ref a, .int f] ∧ H a = some (.lst (w.map V.int)) ∧ w.length ≤ 400 ∧
  ∀ (r : Addr) (H' : Hp), Same H H' → H r = none → H' r = some (.lst ((waysOf w f).map V.int)) → Q (.ref r) H'
def sp_arcs (_ : PySem.W.Frag) : Sp := fun vs H Q _ => ∃ (p : Addr) (ws : List (List Int)) (sg : List (Int × Int)), vs = [.ref p] ∧ IsDr H p ws sg ∧ Small ws sg ∧
  ∀ (r : Addr) (ads : List Addr) (H' : Hp), Same H H' → NewWs H H' r ads (arcsOf ws 0) → Q (.ref r) H'
def sp_arc_count (_ : PySem.W.Frag) : Sp := fun vs H Q _ => ∃ (p : Addr) (ws : List (List Int)) (sg : List (Int × Int)), vs = [.ref p] ∧ IsDr H p ws sg ∧ Small ws sg ∧ ∀ H', Same H H' → Q (.int (arcSum ws)) H'
def sp_is_wholes (_ : PySem.W.Frag) : Sp := fun vs H Q _ => ∃ (a : Addr) (w : List Int), vs = [.ref a] ∧ H a = some (.lst (w.map V.int)) ∧ Q (.bl true) H
def sp_law (K : PySem.W.Frag) : Sp := fun vs H Q _ => ∃ (a : Addr) (ns : List Int), vs = [.ref a] ∧ SqL K H a (ns.map V.int) ∧ ns.length ≤ 63 ∧ ∀ H', Q (.bl true) H'
theorem filt_yes {w : List Int} {i : Nat} {x : Int} (h : w[i]? = some x) (c : decide (x < 0) = true) : (w.take (i + 1)).filter (fun x => decide (x < 0)) = (w.take i).filter (fun x => decide (x < 0)) ++ [x] := by
  rw [List.take_add_one, h, List.filter_append]
  simp [of_decide_eq_true c]
theorem filt_no {w : List Int} {i : Nat} {x : Int} (h : w[i]? = some x) (c : ¬ decide (x < 0) = true) : (w.take (i + 1)).filter (fun x => decide (x < 0)) = (w.take i).filter (fun x => decide (x < 0)) := by
  rw [List.take_add_one, h, List.filter_append]
  have : ¬ x < 0 := fun e => c (decide_eq_true e)
  simp [this]
theorem ways_first (w : List Int) (f : Int) : (waysOf w f).take (0 + 1) = [f] := by
  rw [take_succ' (l := waysOf w f) (i := 0) (x := f) (by rw [waysOf_get w f (by omega)]; simp [negs])]
  rfl
theorem cut_init (w : List Int) : cutV (w.map V.int) none (some (-1)) = (w.dropLast).map V.int := by
  rw [cutV_map]
  have e : HT.sIx w.length w.length (some (-1)) = w.length - 1 := by
    show (if (-1 : Int) < 0 then (-1 + (w.length : Int)).toNat else min (-1 : Int).toNat w.length) = w.length - 1
    rw [if_pos (by decide)]; omega
  rw [e, HT.sIx_none, List.drop_zero, Nat.sub_zero, List.dropLast_eq_take]
theorem max1 (n : Nat) : (if (1 : Int) > (n : Int) then (1 : Int) else (n : Int)) = ((max n 1 : Nat) : Int) := by
  split <;> omega
end My
namespace My
open PySem L2
theorem iteDN {c A B : Prop} [Decidable c] (hc : ¬ c) (h : B) : if decide c = true then A else B := by
  rw [decide_eq_false hc]; exact iteF h
end My

/-! where a passage lies; what meets at a crossing -/
namespace My
structure Spot (ws : List (List Int)) (x : Int) (i j : Nat) (w : List Int) : Prop where
  wi : ws[i]? = some w
  xj : w[j]? = some x
  first : ∀ m : Nat, m < j → w[m]? ≠ some x
  none : ∀ (i' : Nat) (w' : List Int), i' < i → ws[i']? = some w' → x ∉ w'
theorem Spot.uniq {ws : List (List Int)} {x : Int} {i j i' j' : Nat} {w w' : List Int} (h : Spot ws x i j w) (h' : Spot ws x i' j' w') : i = i' ∧ j = j' ∧ w = w' := by
  have hi : i = i' := by
    rcases Nat.lt_trichotomy i i' with c | c | c
    · exact absurd (List.mem_of_getElem? h.xj) (h'.none i w c h.wi)
    · exact c
    · exact absurd (List.mem_of_getElem? h'.xj) (h.none i' w' c h'.wi)
  subst hi
  have hw : w = w' := Option.some.inj (h.wi.symm.trans h'.wi)
  subst hw
  refine ⟨rfl, ?_, rfl⟩
  rcases Nat.lt_trichotomy j j' with c | c | c
  · exact absurd h.xj (h'.first j c)
  · exact c
  · exact absurd h'.xj (h.first j' c)
theorem Spot.row {ws : List (List Int)} {x : Int} {i j : Nat} {w : List Int} (h : Spot ws x i j w) : ∃ r, (arcsOf ws 0)[i]? = some r ∧ r.length = w.length ∧ j < w.length := by
  have hj := (List.getElem?_eq_some_iff.mp h.xj).1
  exact ⟨_, arcsOf_get h.wi 0, by rw [waysOf_length]; omega, hj⟩
def MeetIs (ws : List (List Int)) (e : Int × Int) (v : List Int) : Prop := ∃ (i j k l : Nat) (w w' r r' : List Int) (o a b : Int), Spot ws e.1 i j w ∧ Spot ws (-e.1) k l w' ∧ (arcsOf ws 0)[i]? = some r ∧ r[j]? = some o ∧ (arcsOf ws 0)[k]? = some r' ∧ r'[l]? = some a ∧ r'[(l + 1) % w'.length]? = some b ∧ v = [e.1, e.2, o, a, b]
theorem MeetIs.uniq {ws : List (List Int)} {e : Int × Int} {v v' : List Int} (h : MeetIs ws e v) (h' : MeetIs ws e v') : v = v' := by
  obtain ⟨i, j, k, l, w, w', r, r', o, a, b, s1, s2, h1, h2, h3, h4, h5, rfl⟩ := h
  obtain ⟨i2, j2, k2, l2, x, x', q, q', o2, a2, b2, t1, t2, g1, g2, g3, g4, g5, rfl⟩ := h'
  obtain ⟨rfl, rfl, rfl⟩ := s1.uniq t1
  obtain ⟨rfl, rfl, rfl⟩ := s2.uniq t2
  rw [h1] at g1; cases g1
  rw [h3] at g3; cases g3
  rw [h2] at g2; cases g2
  rw [h4] at g4; cases g4
  rw [h5] at g5; cases g5
  rfl
theorem first_at : ∀ {w : List Int} {x : Int}, x ∈ w → ∃ j : Nat, w[j]? = some x ∧ ∀ m : Nat, m < j → w[m]? ≠ some x
  | [], x, h => by simp at h
  | y :: t, x, h => by
    by_cases e : y = x
    · subst e
      exact ⟨0, rfl, fun m hm => by omega⟩
    · rcases List.mem_cons.mp h with z | z
      · exact absurd z.symm e
      · obtain ⟨j, h1, h2⟩ := first_at z
        refine ⟨j + 1, by simpa using h1, fun m hm => ?_⟩
        cases m with
        | zero => simpa using e
        | succ m => simpa using h2 m (by omega)
end My

namespace My
open PySem L2
theorem meets_uniq {ws : List (List Int)} {sg : List (Int × Int)} {a b : List (List Int)} (h : Paired (MeetIs ws) sg a) (h' : Paired (MeetIs ws) sg b) : a = b := Paired.uniq (F := MeetIs ws) (fun _ _ _ z z' => MeetIs.uniq z z') h h'
theorem eqV_int (a b : Int) : eqV (.int a) (.int b) = decide (a = b) := by
  rw [Bool.eq_iff_iff]; simp [eqV]
theorem flat_ints (w : List Int) : (w.map V.int).all flatV = true := by
  rw [List.all_eq_true]
  intro v hv
  obtain ⟨x, _, rfl⟩ := List.mem_map.mp hv
  rfl
theorem inV_int (x : Int) (w : List Int) : inV (.int x) (w.map V.int) = decide (x ∈ w) := by
  rw [Bool.eq_iff_iff]
  unfold inV
  rw [List.any_eq_true, decide_eq_true_eq]
  constructor
  · rintro ⟨v, hv, e⟩
    obtain ⟨y, hy, rfl⟩ := List.mem_map.mp hv
    rw [eqV_int, decide_eq_true_eq] at e
    rw [← e]; exact hy
  · intro h
    exact ⟨.int x, List.mem_map.mpr ⟨x, h, rfl⟩, by rw [eqV_int]; exact decide_eq_true rfl⟩
theorem good_mem {ws : List (List Int)} {sg : List (Int × Int)} (g : Good ws sg) {e : Int × Int} (he : e ∈ sg) : e.1 ∈ ws.flatten ∧ -e.1 ∈ ws.flatten := by
  have m : ∀ y ∈ [e.1, -e.1], y ∈ ws.flatten := fun y hy => g.all.mem_iff.mpr (List.mem_flatMap.mpr ⟨e.1, List.mem_map.mpr ⟨e, he, rfl⟩, hy⟩)
  exact ⟨m _ (by simp), m _ (by simp)⟩
/-- tuples of ints -/
def TsAt (H : Hp) (tds : List Addr) (ms : List (List Int)) : Prop := Paired (fun t v => H t = some (.tup (v.map V.int))) tds ms
theorem TsAt.keep {H H' : Hp} {tds : List Addr} {ms : List (List Int)} (s : Same H H') (h : TsAt H tds ms) : TsAt H' tds ms := Paired.imp2 (fun _ _ z => s _ _ z) h
theorem TsAt.enc {K : PySem.W.Frag} {H : Hp} : ∀ {tds : List Addr} {ms : List (List Int)}, TsAt H tds ms → Paired (rTL rInt K H) (tds.map V.ref) ms
  | _, _, .nil => .nil
  | _, _, .cons r t => .cons ⟨_, _, rfl, SqT.of r, paired_ints _⟩ (TsAt.enc t)
theorem TsAt.other {H : Hp} {b : Addr} {o : HO} : ∀ {ads : List Addr} {ws : List (List Int)}, TsAt H ads ws → b ∉ ads → TsAt (upd H b o) ads ws
  | _, _, .nil, _ => .nil
  | _, _, .cons r t, h => .cons (by rw [upd_ne (fun e => h (by rw [e]; exact List.mem_cons_self))]; exact r) (TsAt.other t fun z => h (List.mem_cons_of_mem _ z))
structure TlAt (H : Hp) (r : Addr) (tds : List Addr) (ms : List (List Int)) : Prop where
  la : H r = some (.lst (tds.map V.ref))
  ta : TsAt H tds ms
theorem TlAt.keep {H H' : Hp} {r : Addr} {tds : List Addr} {ms : List (List Int)} (s : Same H H') (h : TlAt H r tds ms) : TlAt H' r tds ms := ⟨s _ _ h.la, h.ta.keep s⟩
theorem TlAt.enc {K : PySem.W.Frag} {H : Hp} {r : Addr} {tds : List Addr} {ms : List (List Int)} (h : TlAt H r tds ms) : rL (rTL rInt) K H (.ref r) ms := ⟨r, _, rfl, SqL.of h.la, h.ta.enc⟩
def sp_spot (_ : PySem.W.Frag) : Sp := fun vs H Q _ => ∃ (p : Addr) (ws : List (List Int)) (sg : List (Int × Int)) (x : Int), vs = [.ref p, .int x] ∧ IsDr H p ws sg ∧ Small ws sg ∧ x ∈ ws.flatten ∧
  ∀ (i j : Nat) (w : List Int), Spot ws x i j w → ∀ (t : Addr) (H' : Hp), Same H H' → H t = none → H' t = some (.tup [.int (i : Int), .int (j : Int)]) → Q (.ref t) H'
def sp_meets (_ : PySem.W.Frag) : Sp := fun vs H Q _ => ∃ (p : Addr) (ws : List (List Int)) (sg : List (Int × Int)), vs = [.ref p] ∧ IsDr H p ws sg ∧ Small ws sg ∧ Good ws sg ∧
  ∀ (r : Addr) (tds : List Addr) (ms : List (List Int)) (H' : Hp), Same H H' → H r = none → TlAt H' r tds ms → Paired (MeetIs ws) sg ms → Q (.ref r) H'
end My
namespace My
open PySem L2
end My

/-! a walk begun later, or gone backward: its arcs are carried one to one -/
namespace My
theorem negs_drop (w : List Int) (s : Nat) : negs (w.take s) + negs (w.drop s) = negs w := by rw [← negs_app, List.take_append_drop]
theorem negs_rev (w : List Int) : negs w.reverse = negs w := negs_perm (List.reverse_perm w)
/-- two numbers of passages under, alike by the arcs' number -/
theorem arc_same {w : List Int} {x y : Int} {k : Nat} (h : x = y + (negs w : Int)) (hn : negs w = 0 → x = y) : x % (arcN w : Int) = y % (arcN w : Int) := by
  by_cases e : negs w = 0
  · rw [hn e]
  · have : (arcN w : Int) = (negs w : Int) := by unfold arcN; omega
    rw [this, h, Int.add_emod_right]
theorem rotN_negs (w : List Int) (s : Nat) : negs (w.drop s ++ w.take s) = negs w := by
  rw [negs_app]; have := negs_drop w s; omega
theorem rotN_take1 {w : List Int} {s j : Nat} (hs : s ≤ w.length) (hj : j ≤ w.length - s) : negs (w.take s) + negs ((w.drop s ++ w.take s).take j) = negs (w.take (s + j)) := by
  rw [List.take_append_of_le_length (by rw [List.length_drop]; exact hj), ← negs_app, List.take_add]
theorem rotN_take2 {w : List Int} {s j : Nat} (hs : s ≤ w.length) (hj : w.length - s ≤ j) (hj2 : j ≤ w.length) : negs (w.take s) + negs ((w.drop s ++ w.take s).take j) = negs w + negs (w.take (j - (w.length - s))) := by
  have e1 : (w.drop s).take j = w.drop s := List.take_of_length_le (by rw [List.length_drop]; exact hj)
  rw [List.take_append, negs_app, e1, List.length_drop, List.take_take, Nat.min_eq_left (by omega)]
  have := negs_drop w s
  omega
/-- the way k of w, and its place in the walk begun s later -/
theorem rotN_way {w : List Int} {s k : Nat} (hs : s < w.length) (hk : k < w.length) :
    (negs ((w.drop s ++ w.take s).take (if s ≤ k then k - s else k + w.length - s)) : Int) % (arcN w : Int) = ((negs (w.take k) : Int) - (negs (w.take s) : Int)) % (arcN w : Int) := by
  by_cases c : s ≤ k
  · rw [if_pos c]
    have := rotN_take1 (j := k - s) (Nat.le_of_lt hs) (by omega)
    rw [show s + (k - s) = k by omega] at this
    congr 1
    omega
  · rw [if_neg c]
    have h2 := rotN_take2 (j := k + w.length - s) (Nat.le_of_lt hs) (by omega) (by omega)
    rw [show k + w.length - s - (w.length - s) = k by omega] at h2
    refine arc_same (k := 0) (by omega) fun e => ?_
    omega
theorem rot_eq {w : List Int} {b : Int} (h : w ≠ []) : ∃ s : Nat, s < w.length ∧ (s : Int) = b % (w.length : Int) ∧ rot w b = w.drop s ++ w.take s := by
  have hl : 0 < w.length := List.length_pos_iff.mpr h
  have h0 := Int.emod_nonneg b (show (w.length : Int) ≠ 0 by omega)
  have h1 := Int.emod_lt_of_pos b (show (0 : Int) < (w.length : Int) by omega)
  exact ⟨(b % (w.length : Int)).toNat, by omega, by omega, rfl⟩
theorem rot_negs (w : List Int) (b : Int) : negs (rot w b) = negs w := by unfold rot; exact rotN_negs _ _
theorem rot_to {n k s : Nat} {b : Int} (hs : s < n) (hk : k < n) (e : (s : Int) = b % (n : Int)) : ((k : Int) - b) % (n : Int) = ((if s ≤ k then k - s else k + n - s : Nat) : Int) := by
  have e1 : ((k : Int) - b) % (n : Int) = ((k : Int) - s) % (n : Int) := by
    rw [e, Int.sub_emod, Int.sub_emod (k : Int) (b % (n : Int)), Int.emod_emod_of_dvd _ (Int.dvd_refl _)]
  rw [e1]
  by_cases c : s ≤ k
  · rw [if_pos c, Int.emod_eq_of_lt (by omega) (by omega)]; omega
  · rw [if_neg c, ← Int.add_emod_right, Int.emod_eq_of_lt (by omega) (by omega)]; omega
/-- place of the way k in the walk begun b later -/
def toRot (w : List Int) (b : Int) (k : Nat) : Nat := (((k : Int) - b) % ((max w.length 1 : Nat) : Int)).toNat
def toRev (w : List Int) (k : Nat) : Nat := (max w.length 1 - k) % max w.length 1
theorem rot_way {w : List Int} (b : Int) : ∃ c : Int, ∀ (f : Int) (k : Nat), k < max w.length 1 → (waysOf (rot w b) f)[toRot w b k]? = some (f + ((negs (w.take k) : Int) + c) % (arcN w : Int)) := by
  by_cases h : w = []
  · subst h
    refine ⟨0, fun f k hk => ?_⟩
    have hk0 : k = 0 := by simp at hk; omega
    subst hk0
    have e : toRot [] b 0 = 0 := by
      unfold toRot
      have h1 := Int.emod_lt_of_pos ((0 : Nat) - b) (show (0 : Int) < ((max ([] : List Int).length 1 : Nat) : Int) by simp)
      have h0 := Int.emod_nonneg ((0 : Nat) - b) (show ((max ([] : List Int).length 1 : Nat) : Int) ≠ 0 by simp)
      have h2 : ((max ([] : List Int).length 1 : Nat) : Int) = 1 := by simp
      omega
    rw [e, rot_nil, waysOf_get [] f (by simp)]
    simp [negs]
  · obtain ⟨s, hs, es, er⟩ := rot_eq (b := b) h
    refine ⟨-(negs (w.take s) : Int), fun f k hk => ?_⟩
    have hk' : k < w.length := by omega
    have hm : max w.length 1 = w.length := by omega
    have et : toRot w b k = if s ≤ k then k - s else k + w.length - s := by
      unfold toRot
      rw [hm, rot_to hs hk' es]
      exact Int.toNat_natCast _
    have hlt : (if s ≤ k then k - s else k + w.length - s) < max (rot w b).length 1 := by
      rw [rot_length]
      split <;> omega
    rw [et, waysOf_get _ f hlt]
    have ea : arcN (rot w b) = arcN w := by unfold arcN; rw [rot_negs]
    rw [ea, er, rotN_way hs hk', Int.sub_eq_add_neg]
theorem rev_take {w : List Int} {k : Nat} (hk : k ≤ w.length) : negs (w.reverse.take (w.length - k)) + negs (w.take k) = negs w := by
  have e : w.reverse.take (w.length - k) = (w.drop k).reverse := by
    rw [List.take_reverse, show w.length - (w.length - k) = k by omega]
  rw [e, negs_rev]
  have := negs_drop w k
  omega
theorem rev_way {w : List Int} (f : Int) : ∀ k : Nat, k < max w.length 1 → (waysOf w.reverse f)[toRev w k]? = some (f + (-(negs (w.take k) : Int)) % (arcN w : Int)) := by
  intro k hk
  have ea : arcN w.reverse = arcN w := by unfold arcN; rw [negs_rev]
  have hlt : toRev w k < max w.reverse.length 1 := by rw [List.length_reverse]; exact Nat.mod_lt _ (by omega)
  rw [waysOf_get _ f hlt, ea]
  congr 2
  by_cases h0 : k = 0
  · subst h0
    have : toRev w 0 = 0 := by unfold toRev; rw [Nat.sub_zero, Nat.mod_self]
    rw [this]; simp [negs]
  · have hl : k < w.length := by omega
    have : toRev w k = w.length - k := by unfold toRev; rw [show max w.length 1 = w.length by omega, Nat.mod_eq_of_lt (by omega)]
    rw [this]
    have hr := rev_take (w := w) (k := k) (by omega)
    have hle := negs_le w k
    refine arc_same (k := 0) (by omega) fun e => ?_
    omega
end My

namespace My
theorem arcSum_nonneg : ∀ ws : List (List Int), 0 ≤ arcSum ws
  | [] => by simp [arcSum]
  | w :: ws => by rw [arcSum_cons]; have := arcSum_nonneg ws; omega
theorem arcSum_mono (ws : List (List Int)) {i j : Nat} (h : i ≤ j) : arcSum (ws.take i) ≤ arcSum (ws.take j) := by
  have e : ws.take j = ws.take i ++ (ws.take j).drop i := by
    conv => lhs; rw [← List.take_append_drop i (ws.take j)]
    rw [List.take_take, Nat.min_eq_left h]
  rw [e, arcSum_app]
  have := arcSum_nonneg ((ws.take j).drop i)
  omega
theorem arc_idx {ws : List (List Int)} {i j : Nat} {w w' : List Int} {q q' : Int} (h : ws[i]? = some w) (h' : ws[j]? = some w') (q0 : 0 ≤ q) (q1 : q < arcN w) (p0 : 0 ≤ q') (p1 : q' < arcN w') (e : arcSum (ws.take i) + q = arcSum (ws.take j) + q') : i = j := by
  have s1 := arcSum_take h
  have s2 := arcSum_take h'
  rcases Nat.lt_trichotomy i j with c | c | c
  · have := arcSum_mono ws (show i + 1 ≤ j by omega); omega
  · exact c
  · have := arcSum_mono ws (show j + 1 ≤ i by omega); omega
theorem mod_inj {a q q' c e : Int} (he : e = 1 ∨ e = -1) (q0 : 0 ≤ q) (q1 : q < a) (p0 : 0 ≤ q') (p1 : q' < a) (h : (e * q + c) % a = (e * q' + c) % a) : q = q' := by
  have hd := Int.emod_eq_emod_iff_emod_sub_eq_zero.mp h
  have key : ∀ x y : Int, 0 ≤ x → x < a → 0 ≤ y → y < a → (x - y) % a = 0 → y ≤ x → x = y := fun x y _ _ _ _ hz hle => by
    rw [Int.emod_eq_of_lt (by omega) (by omega)] at hz; omega
  rcases he with rfl | rfl
  · rw [show 1 * q + c - (1 * q' + c) = q - q' by omega] at hd
    by_cases c2 : q' ≤ q
    · exact key q q' q0 q1 p0 p1 hd c2
    · refine (key q' q p0 p1 q0 q1 ?_ (by omega)).symm
      rw [show q' - q = -(q - q') by omega]
      exact Int.emod_eq_zero_of_dvd (Int.dvd_neg.mpr (Int.dvd_of_emod_eq_zero hd))
  · rw [show -1 * q + c - (-1 * q' + c) = q' - q by omega] at hd
    by_cases c2 : q ≤ q'
    · exact (key q' q p0 p1 q0 q1 hd c2).symm
    · refine key q q' q0 q1 p0 p1 ?_ (by omega)
      rw [show q - q' = -(q' - q) by omega]
      exact Int.emod_eq_zero_of_dvd (Int.dvd_neg.mpr (Int.dvd_of_emod_eq_zero hd))
/-- an arc's number, and the number that it is carried to -/
def Rel (ws : List (List Int)) (ε : Int) (cs : Nat → Int) (x y : Int) : Prop := ∃ (i : Nat) (w : List Int) (q : Int), ws[i]? = some w ∧ 0 ≤ q ∧ q < arcN w ∧ x = arcSum (ws.take i) + q ∧ y = arcSum (ws.take i) + (ε * q + cs i) % arcN w
theorem Rel.fn {ws : List (List Int)} {ε : Int} {cs : Nat → Int} {x y y' : Int} (h : Rel ws ε cs x y) (h' : Rel ws ε cs x y') : y = y' := by
  obtain ⟨i, w, q, hw, q0, q1, ex, rfl⟩ := h
  obtain ⟨j, w', q', hw', p0, p1, ex', rfl⟩ := h'
  have := arc_idx hw hw' q0 q1 p0 p1 (ex.symm.trans ex')
  subst this
  rw [hw] at hw'; cases hw'
  rw [show q = q' by omega]
theorem Rel.inj {ws : List (List Int)} {ε : Int} {cs : Nat → Int} (he : ε = 1 ∨ ε = -1) {x x' y : Int} (h : Rel ws ε cs x y) (h' : Rel ws ε cs x' y) : x = x' := by
  obtain ⟨i, w, q, hw, q0, q1, rfl, ey⟩ := h
  obtain ⟨j, w', q', hw', p0, p1, rfl, ey'⟩ := h'
  have ha : ∀ v : List Int, (0 : Int) < (arcN v : Int) := fun v => by have := arcN_pos v; omega
  have := arc_idx hw hw' (Int.emod_nonneg _ (Int.ne_of_gt (ha w))) (Int.emod_lt_of_pos _ (ha w)) (Int.emod_nonneg _ (Int.ne_of_gt (ha w'))) (Int.emod_lt_of_pos _ (ha w')) (ey.symm.trans ey')
  subst this
  rw [hw] at hw'; cases hw'
  rw [mod_inj (c := cs i) he q0 q1 p0 p1 (by omega)]
structure Carries (ws ws' : List (List Int)) (ε : Int) (cs : Nat → Int) (to : Nat → Nat → Nat) : Prop where
  len : ws'.length = ws.length
  eps : ε = 1 ∨ ε = -1
  walk : ∀ (i : Nat) (w : List Int), ws[i]? = some w → ∃ w', ws'[i]? = some w' ∧ w'.length = w.length ∧ negs w' = negs w ∧
    ∀ (f : Int) (k : Nat), k < max w.length 1 → (waysOf w' f)[to i k]? = some (f + (ε * (negs (w.take k) : Int) + cs i) % (arcN w : Int))
theorem Carries.sum {ws ws' : List (List Int)} {ε : Int} {cs : Nat → Int} {to : Nat → Nat → Nat} (C : Carries ws ws' ε cs to) : ∀ i : Nat, arcSum (ws'.take i) = arcSum (ws.take i)
  | 0 => rfl
  | i + 1 => by
    have ih := C.sum i
    cases e : ws[i]? with
    | none =>
      have h1 := List.getElem?_eq_none_iff.mp e
      have hl := C.len
      rw [List.take_of_length_le (show ws.length ≤ i + 1 by omega), List.take_of_length_le (show ws'.length ≤ i + 1 by omega)]
      rw [List.take_of_length_le (show ws.length ≤ i by omega), List.take_of_length_le (show ws'.length ≤ i by omega)] at ih
      exact ih
    | some w =>
      obtain ⟨w', h1, _, h3, _⟩ := C.walk i w e
      rw [arcSum_take e, arcSum_take h1, ih]
      unfold arcN
      rw [h3]
theorem Carries.all {ws ws' : List (List Int)} {ε : Int} {cs : Nat → Int} {to : Nat → Nat → Nat} (C : Carries ws ws' ε cs to) : arcSum ws' = arcSum ws := by
  have := C.sum ws.length
  rw [List.take_length, ← C.len, List.take_length] at this
  exact this
theorem Carries.row {ws ws' : List (List Int)} {ε : Int} {cs : Nat → Int} {to : Nat → Nat → Nat} (C : Carries ws ws' ε cs to) {i : Nat} {w : List Int} (h : ws[i]? = some w) {k : Nat} (hk : k < max w.length 1) :
    ∃ r r' x y, (arcsOf ws 0)[i]? = some r ∧ r[k]? = some x ∧ (arcsOf ws' 0)[i]? = some r' ∧ r'[to i k]? = some y ∧ Rel ws ε cs x y := by
  obtain ⟨w', h1, h2, h3, h4⟩ := C.walk i w h
  have ha : (0 : Int) < (arcN w : Int) := by have := arcN_pos w; omega
  refine ⟨_, _, _, _, arcsOf_get h 0, waysOf_get _ _ hk, arcsOf_get h1 0, h4 _ k hk, i, w, (negs (w.take k) : Int) % (arcN w : Int), h, Int.emod_nonneg _ (Int.ne_of_gt ha), Int.emod_lt_of_pos _ ha, by rw [Int.zero_add], ?_⟩
  rw [Int.zero_add, C.sum i]
  congr 1
  rcases C.eps with e | e
  · subst e
    rw [Int.one_mul, Int.one_mul, Int.emod_add_emod]
  · subst e
    rw [Int.neg_one_mul, Int.neg_one_mul]
    apply Int.emod_eq_emod_iff_emod_sub_eq_zero.mpr
    have := Int.emod_add_mul_ediv (negs (w.take k) : Int) (arcN w : Int)
    rw [show -(negs (w.take k) : Int) + cs i - (-((negs (w.take k) : Int) % (arcN w : Int)) + cs i) = -((arcN w : Int) * ((negs (w.take k) : Int) / (arcN w : Int))) by omega]
    exact Int.emod_eq_zero_of_dvd (Int.dvd_neg.mpr (Int.dvd_mul_right _ _))
/-- each arc has a way -/
theorem negs_level {w : List Int} : ∀ (n : Nat), n ≤ w.length → ∀ q : Nat, q < negs (w.take n) → ∃ k, k < n ∧ negs (w.take k) = q
  | 0, _, q, h => by simp [negs] at h
  | n + 1, hn, q, h => by
    have hx : w[n]? = some w[n] := List.getElem?_eq_getElem (by omega)
    have hs := negs_take_succ hx
    have h1 : negs [w[n]] ≤ 1 := by have := negs_length [w[n]]; simpa using this
    by_cases c : q < negs (w.take n)
    · obtain ⟨k, hk, e⟩ := negs_level n (by omega) q c
      exact ⟨k, by omega, e⟩
    · exact ⟨n, by omega, by omega⟩
theorem way_level {w : List Int} {f : Int} {q : Nat} (h : q < arcN w) : ∃ k, k < max w.length 1 ∧ (waysOf w f)[k]? = some (f + q) := by
  by_cases e : negs w = 0
  · have hq : q = 0 := by unfold arcN at h; omega
    subst hq
    refine ⟨0, by omega, ?_⟩
    rw [waysOf_get w f (by omega)]
    simp [negs]
  · have ha : arcN w = negs w := by unfold arcN; omega
    obtain ⟨k, hk, ek⟩ := negs_level (w := w) w.length (Nat.le_refl _) q (by rw [List.take_length]; omega)
    refine ⟨k, by omega, ?_⟩
    rw [waysOf_get w f (by omega), ek, Int.emod_eq_of_lt (by omega) (by omega)]
theorem all_arcs : ∀ {ws : List (List Int)} {f x : Int}, f ≤ x → x < f + arcSum ws → ∃ (i k : Nat) (w r : List Int), ws[i]? = some w ∧ k < max w.length 1 ∧ (arcsOf ws f)[i]? = some r ∧ r[k]? = some x
  | [], f, x, h0, h1 => by simp [arcSum] at h1; omega
  | w :: ws, f, x, h0, h1 => by
    rw [arcSum_cons] at h1
    by_cases c : x < f + arcN w
    · obtain ⟨k, hk, ek⟩ := way_level (w := w) (f := f) (q := (x - f).toNat) (by omega)
      exact ⟨0, k, w, _, rfl, hk, rfl, by rw [ek]; congr 1; omega⟩
    · obtain ⟨i, k, v, r, a1, a2, a3, a4⟩ := all_arcs (ws := ws) (f := f + arcN w) (x := x) (by omega) (by omega)
      exact ⟨i + 1, k, v, r, by simpa using a1, a2, by simpa [arcsOf] using a3, a4⟩
theorem Rel.bound {ws : List (List Int)} {ε : Int} {cs : Nat → Int} {x y : Int} (h : Rel ws ε cs x y) : 0 ≤ x ∧ x < arcSum ws := by
  obtain ⟨i, w, q, hw, q0, q1, rfl, _⟩ := h
  have h0 := arcSum_nonneg (ws.take i)
  have h1 := arcSum_take hw
  have h2 := arcSum_mono ws (show i + 1 ≤ ws.length from (List.getElem?_eq_some_iff.mp hw).1)
  rw [List.take_length] at h2
  omega
theorem spot_of {ws : List (List Int)} {x : Int} {i j : Nat} {w : List Int} (nd : ws.flatten.Nodup) (hi : ws[i]? = some w) (hj : w[j]? = some x) : Spot ws x i j w := by
  have hx := List.mem_of_getElem? hj
  have hw := List.mem_of_getElem? hi
  have nd' := List.pairwise_flatten.mp nd
  refine ⟨hi, hj, fun m hm e => ?_, fun i' w' hi' hw' hm => ?_⟩
  · have n1 := nd'.1 w hw
    have hj' := (List.getElem?_eq_some_iff.mp hj)
    have hm' := (List.getElem?_eq_some_iff.mp e)
    obtain ⟨h1, e1⟩ := hj'
    obtain ⟨h2, e2⟩ := hm'
    have := (List.getElem_inj n1).mp (e2.trans e1.symm)
    omega
  · have hp := nd'.2
    obtain ⟨h1, e1⟩ := List.getElem?_eq_some_iff.mp hi
    obtain ⟨h2, e2⟩ := List.getElem?_eq_some_iff.mp hw'
    have := List.pairwise_iff_getElem.mp hp i' i h2 h1 hi'
    rw [e1, e2] at this
    exact this x hm x hx rfl
/-! what meets, carried -/
theorem meet_rot {ws ws' : List (List Int)} {cs : Nat → Int} {to : Nat → Nat → Nat} (C : Carries ws ws' 1 cs to) (nd : ws'.flatten.Nodup)
    (hp : ∀ (i j : Nat) (w : List Int) (x : Int), ws[i]? = some w → w[j]? = some x → ∃ w', ws'[i]? = some w' ∧ w'.length = w.length ∧ w'[to i j]? = some x ∧ (to i j + 1) % w.length = to i ((j + 1) % w.length))
    {e : Int × Int} {v : List Int} (h : MeetIs ws e v) : ∃ o a b o' a' b', v = [e.1, e.2, o, a, b] ∧ Rel ws 1 cs o o' ∧ Rel ws 1 cs a a' ∧ Rel ws 1 cs b b' ∧ MeetIs ws' e [e.1, e.2, o', a', b'] := by
  obtain ⟨i, j, k, l, w, w', r, r', o, a, b, s1, s2, h1, h2, h3, h4, h5, rfl⟩ := h
  have hj := (List.getElem?_eq_some_iff.mp s1.xj).1
  have hl := (List.getElem?_eq_some_iff.mp s2.xj).1
  have hm : (l + 1) % w'.length < w'.length := Nat.mod_lt _ (by omega)
  obtain ⟨ra, ra', x1, y1, c1, c2, c3, c4, R1⟩ := C.row s1.wi (k := j) (by omega)
  rw [h1] at c1; cases c1
  rw [h2] at c2; cases c2
  obtain ⟨rb, rb', x2, y2, d1, d2, d3, d4, R2⟩ := C.row s2.wi (k := l) (by omega)
  rw [h3] at d1; cases d1
  rw [h4] at d2; cases d2
  obtain ⟨rc, rc', x3, y3, e1, e2, e3, e4, R3⟩ := C.row s2.wi (k := (l + 1) % w'.length) (by omega)
  rw [h3] at e1; cases e1
  rw [h5] at e2; cases e2
  rw [d3] at e3; cases e3
  obtain ⟨u, u1, u2, u3, _⟩ := hp i j w _ s1.wi s1.xj
  obtain ⟨t, t1, t2, t3, t4⟩ := hp k l w' _ s2.wi s2.xj
  exact ⟨o, a, b, y1, y2, y3, rfl, R1, R2, R3, i, to i j, k, to k l, u, t, ra', rb', y1, y2, y3, spot_of nd u1 u3, spot_of nd t1 t3, c3, c4, d3, d4, by rw [t2, t4]; exact e4, rfl⟩
theorem meet_rev {ws : List (List Int)} {cs : Nat → Int} {to : Nat → Nat → Nat} (hto : ∀ (i k : Nat) (w : List Int), ws[i]? = some w → to i k = toRev w k) (C : Carries ws (ws.map List.reverse) (-1) cs to) (nd : (ws.map List.reverse).flatten.Nodup)
    {e : Int × Int} (he : 1 ≤ e.1) {v : List Int} (h : MeetIs ws e v) : ∃ o a b o' a' b', v = [e.1, e.2, o, a, b] ∧ Rel ws (-1) cs o o' ∧ Rel ws (-1) cs a a' ∧ Rel ws (-1) cs b b' ∧ MeetIs (ws.map List.reverse) e [e.1, e.2, o', b', a'] := by
  obtain ⟨i, j, k, l, w, w', r, r', o, a, b, s1, s2, h1, h2, h3, h4, h5, rfl⟩ := h
  have hj := (List.getElem?_eq_some_iff.mp s1.xj).1
  have hl := (List.getElem?_eq_some_iff.mp s2.xj).1
  have hm : (l + 1) % w'.length < w'.length := Nat.mod_lt _ (by omega)
  have hm1 : (j + 1) % w.length < w.length := Nat.mod_lt _ (by omega)
  have back : ∀ (u : List Int) (m : Nat), m < u.length → toRev u ((m + 1) % u.length) = u.length - 1 - m := fun u m hu => by
    unfold toRev
    rw [show max u.length 1 = u.length by omega]
    by_cases c : m + 1 < u.length
    · rw [Nat.mod_eq_of_lt c, Nat.mod_eq_of_lt (by omega)]; omega
    · rw [show m + 1 = u.length by omega, Nat.mod_self, Nat.sub_zero, Nat.mod_self]; omega
  have here : ∀ (u : List Int) (m : Nat), m < u.length → (u.length - 1 - m + 1) % u.length = toRev u m := fun u m hu => by
    unfold toRev
    rw [show max u.length 1 = u.length by omega, show u.length - 1 - m + 1 = u.length - m by omega]
  have hg : ∀ (n : Nat) (u : List Int), ws[n]? = some u → (ws.map List.reverse)[n]? = some u.reverse := fun n u hu => by rw [List.getElem?_map, hu]; rfl
  have hr : ∀ (u : List Int) (m : Nat) (x : Int), u[m]? = some x → u.reverse[u.length - 1 - m]? = some x := fun u m x hx => by
    have := (List.getElem?_eq_some_iff.mp hx).1
    rw [List.getElem?_reverse (by omega), show u.length - 1 - (u.length - 1 - m) = m by omega]; exact hx
  have ho : r[(j + 1) % w.length]? = some o := by
    have := arcsOf_get s1.wi 0
    rw [h1] at this; cases this
    rw [ways_over s1.xj (by omega)]; exact h2
  obtain ⟨ra, ra', x1, y1, c1, c2, c3, c4, R1⟩ := C.row s1.wi (k := (j + 1) % w.length) (by omega)
  rw [h1] at c1; cases c1
  rw [ho] at c2; cases c2
  rw [hto i _ w s1.wi, back w j hj] at c4
  obtain ⟨rb, rb', x2, y2, d1, d2, d3, d4, R2⟩ := C.row s2.wi (k := l) (by omega)
  rw [h3] at d1; cases d1
  rw [h4] at d2; cases d2
  rw [hto k _ w' s2.wi] at d4
  obtain ⟨rc, rc', x3, y3, e1, e2, e3, e4, R3⟩ := C.row s2.wi (k := (l + 1) % w'.length) (by omega)
  rw [h3] at e1; cases e1
  rw [h5] at e2; cases e2
  rw [d3] at e3; cases e3
  rw [hto k _ w' s2.wi, back w' l hl] at e4
  refine ⟨o, a, b, y1, y2, y3, rfl, R1, R2, R3, i, w.length - 1 - j, k, w'.length - 1 - l, w.reverse, w'.reverse, ra', rb', y1, y3, y2, spot_of nd (hg i w s1.wi) (hr w j _ s1.xj), spot_of nd (hg k w' s2.wi) (hr w' l _ s2.xj), c3, c4, d3, e4, ?_, rfl⟩
  rw [List.length_reverse, here w' l hl]; exact d4
end My

namespace My
theorem flat_nodup : ∀ {names : List Int}, names.Pairwise (· < ·) → (∀ x ∈ names, 1 ≤ x) → (names.flatMap fun x => [x, -x]).Nodup
  | [], _, _ => List.nodup_nil
  | x :: t, hp, hx => by
    have h1 := List.pairwise_cons.mp hp
    have hx1 := hx x List.mem_cons_self
    rw [List.flatMap_cons, List.nodup_append]
    refine ⟨by simp; omega, flat_nodup h1.2 fun y hy => hx y (List.mem_cons_of_mem _ hy), fun a ha b hb => ?_⟩
    obtain ⟨y, hy, hb'⟩ := List.mem_flatMap.mp hb
    have h2 := h1.1 y hy
    have ha' : a = x ∨ a = -x := by simpa using ha
    have hb'' : b = y ∨ b = -y := by simpa using hb'
    omega
theorem good_nodup {ws : List (List Int)} {sg : List (Int × Int)} (g : Good ws sg) : ws.flatten.Nodup := by
  refine g.all.nodup_iff.mpr (flat_nodup g.rise fun x hx => ?_)
  obtain ⟨e, he, rfl⟩ := List.mem_map.mp hx
  exact (g.pos e he).1
theorem rot_perm (w : List Int) (b : Int) : (rot w b).Perm w := by
  unfold rot
  refine List.perm_append_comm.trans ?_
  rw [List.take_append_drop]
theorem set_perm : ∀ {ws : List (List Int)} {i : Nat} {w w' : List Int}, ws[i]? = some w → w'.Perm w → (ws.set i w').flatten.Perm ws.flatten
  | [], _, _, _, h, _ => by simp at h
  | v :: t, 0, w, w', h, hp => by
    have e : v = w := by simpa using h
    subst e
    rw [List.set_cons_zero, List.flatten_cons, List.flatten_cons]
    exact List.Perm.append_right _ hp
  | v :: t, i + 1, w, w', h, hp => by
    rw [List.set_cons_succ, List.flatten_cons, List.flatten_cons]
    exact List.Perm.append_left _ (set_perm (by simpa using h) hp)
theorem revs_perm : ∀ ws : List (List Int), (ws.map List.reverse).flatten.Perm ws.flatten
  | [] => List.Perm.refl _
  | w :: t => by
    rw [List.map_cons, List.flatten_cons, List.flatten_cons]
    exact List.Perm.append (List.reverse_perm w) (revs_perm t)
theorem Good.perm {ws ws' : List (List Int)} {sg : List (Int × Int)} (g : Good ws sg) (h : ws'.flatten.Perm ws.flatten) : Good ws' sg := ⟨g.rise, g.pos, h.trans g.all⟩
/-- the way k's place in the drawing seen otherwise -/
def toOf (ws : List (List Int)) (wk st : Int) (tr : Bool) (i k : Nat) : Nat := match ws[i]? with
  | none => k
  | some w => if tr = true then toRev w k else if (i : Int) = wk then toRot w st k else k
theorem toOf_rev {ws : List (List Int)} {wk st : Int} {i k : Nat} {w : List Int} (h : ws[i]? = some w) : toOf ws wk st true i k = toRev w k := by
  unfold toOf; rw [h]; exact if_pos rfl
theorem toOf_rot {ws : List (List Int)} {wk st : Int} {i k : Nat} {w : List Int} (h : ws[i]? = some w) (e : (i : Int) = wk) : toOf ws wk st false i k = toRot w st k := by
  unfold toOf; rw [h]; show (if false = true then _ else _) = _; rw [if_neg Bool.false_ne_true, if_pos e]
theorem toOf_id {ws : List (List Int)} {wk st : Int} {i k : Nat} {w : List Int} (h : ws[i]? = some w) (e : ¬ (i : Int) = wk) : toOf ws wk st false i k = k := by
  unfold toOf; rw [h]; show (if false = true then _ else _) = _; rw [if_neg Bool.false_ne_true, if_neg e]
theorem carry_rev (ws : List (List Int)) (wk st : Int) : Carries ws (ws.map List.reverse) (-1) (fun _ => 0) (toOf ws wk st true) := by
  refine ⟨List.length_map _, .inr rfl, fun i w h => ⟨w.reverse, by rw [List.getElem?_map, h]; rfl, List.length_reverse, negs_rev w, fun f k hk => ?_⟩⟩
  rw [toOf_rev h, rev_way f k hk]
  congr 3
  omega
theorem carry_rot {ws : List (List Int)} {n : Nat} {w0 : List Int} (h0 : ws[n]? = some w0) (st : Int) : ∃ cs, Carries ws (ws.set n (rot w0 st)) 1 cs (toOf ws (n : Int) st false) := by
  obtain ⟨c, hc⟩ := rot_way (w := w0) st
  have hl := (List.getElem?_eq_some_iff.mp h0).1
  refine ⟨fun i => if i = n then c else 0, List.length_set, .inl rfl, fun i w h => ?_⟩
  by_cases e : i = n
  · subst e
    rw [h0] at h; cases h
    refine ⟨rot w0 st, List.getElem?_set_self hl, rot_length _ _, rot_negs _ _, fun f k hk => ?_⟩
    rw [toOf_rot h0 rfl, hc f k hk, if_pos rfl, Int.one_mul]
  · refine ⟨w, by rw [List.getElem?_set_ne (fun z => e z.symm)]; exact h, rfl, rfl, fun f k hk => ?_⟩
    rw [toOf_id h (by omega), waysOf_get w f hk, if_neg e, Int.one_mul, Int.add_zero]
theorem rot_passage {ws : List (List Int)} {n : Nat} {w0 : List Int} (h0 : ws[n]? = some w0) (st : Int) (i j : Nat) (w : List Int) (x : Int) (hw : ws[i]? = some w) (hx : w[j]? = some x) :
    ∃ w', (ws.set n (rot w0 st))[i]? = some w' ∧ w'.length = w.length ∧ w'[toOf ws (n : Int) st false i j]? = some x ∧ (toOf ws (n : Int) st false i j + 1) % w.length = toOf ws (n : Int) st false i ((j + 1) % w.length) := by
  have hl := (List.getElem?_eq_some_iff.mp h0).1
  have hj := (List.getElem?_eq_some_iff.mp hx).1
  by_cases e : i = n
  · subst e
    rw [h0] at hw; cases hw
    have hm : max w0.length 1 = w0.length := by omega
    have hp : (0 : Int) < (w0.length : Int) := by omega
    have h1 := Int.emod_nonneg ((j : Int) - st) (Int.ne_of_gt hp)
    have h2 := Int.emod_lt_of_pos ((j : Int) - st) hp
    refine ⟨rot w0 st, List.getElem?_set_self hl, rot_length _ _, ?_, ?_⟩
    · rw [toOf_rot h0 rfl]
      unfold toRot
      rw [hm, rot_get _ _ _ (by omega), show ((((j : Int) - st) % (w0.length : Int)).toNat : Int) = ((j : Int) - st) % (w0.length : Int) by omega, Int.emod_add_emod, Int.sub_add_cancel, Int.emod_eq_of_lt (by omega) (by omega), Int.toNat_natCast]
      exact hx
    · rw [toOf_rot h0 rfl, toOf_rot h0 rfl]
      unfold toRot
      rw [hm]
      have e1 : ((((j + 1) % w0.length : Nat) : Int) - st) % (w0.length : Int) = ((((j : Int) - st) % (w0.length : Int)) + 1) % (w0.length : Int) := by
        rw [Int.natCast_emod, Int.emod_add_emod, Int.sub_eq_add_neg, Int.emod_add_emod]
        congr 1
        push_cast
        omega
      rw [e1]
      have e2 : ((((((j : Int) - st) % (w0.length : Int)).toNat + 1) % w0.length : Nat) : Int) = ((((j : Int) - st) % (w0.length : Int)) + 1) % (w0.length : Int) := by
        rw [Int.natCast_emod]
        push_cast
        rw [show ((((j : Int) - st) % (w0.length : Int)).toNat : Int) = ((j : Int) - st) % (w0.length : Int) by omega]
      rw [← e2, Int.toNat_natCast]
  · have hid : ∀ k, toOf ws (n : Int) st false i k = k := fun k => toOf_id hw (by omega)
    refine ⟨w, by rw [List.getElem?_set_ne (fun z => e z.symm)]; exact hw, rfl, by rw [hid]; exact hx, by rw [hid, hid]⟩
end My

namespace My
open PySem L2
def sp_is_drawing (_ : PySem.W.Frag) : Sp := fun vs H Q _ => ∃ (p : Addr) (ws : List (List Int)) (sg : List (Int × Int)), vs = [.ref p] ∧ IsDr H p ws sg ∧ Q (.bl true) H
def sp_begun_later (_ : PySem.W.Frag) : Sp := fun vs H Q _ => ∃ (a : Addr) (w : List Int) (n : Int), vs = [.ref a, .int n] ∧ H a = some (.lst (w.map V.int)) ∧ w.length ≤ 400 ∧
  ∀ (r : Addr) (H' : Hp), Same H H' → H r = none → H' r = some (.lst ((rot w n).map V.int)) → Q (.ref r) H'
def sp_turned (_ : PySem.W.Frag) : Sp := fun vs H Q _ => ∃ (p : Addr) (ws : List (List Int)) (sg : List (Int × Int)) (i : Nat) (w : List Int) (n : Int), vs = [.ref p, .int i, .int n] ∧ IsDr H p ws sg ∧ Small ws sg ∧ ws[i]? = some w ∧
  ∀ (r : Addr) (H' : Hp), Same H H' → NewDr H H' r (ws.set i (rot w n)) sg → Q (.ref r) H'
def sp_begun18 (K : PySem.W.Frag) : Sp := sp_turned K
def sp_backward (_ : PySem.W.Frag) : Sp := fun vs H Q _ => ∃ (p : Addr) (ws : List (List Int)) (sg : List (Int × Int)), vs = [.ref p] ∧ IsDr H p ws sg ∧ Small ws sg ∧ ∀ (r : Addr) (H' : Hp), Same H H' → NewDr H H' r (ws.map List.reverse) sg → Q (.ref r) H'
def sp_rows (_ : PySem.W.Frag) : Sp := fun vs H Q _ => ∃ (p : Addr) (ws : List (List Int)) (sg : List (Int × Int)), vs = [.ref p] ∧ IsDr H p ws sg ∧ Small ws sg ∧
  ∀ (r : Addr) (ads : List Addr) (H' : Hp), Same H H' → LsAt H' r ads (arcsOf ws 0) → Q (.ref r) H'
/-! dicts of ints -/
def dOf (es : List (Int × Int)) : List (Key × V) := es.map fun e => ((Sum.inl e.1 : Key), V.int e.2)
def dBk (es : List (Int × Int)) : List (Key × V) := es.map fun e => ((Sum.inl e.2 : Key), V.int e.1)
theorem dOf_some {es : List (Int × Int)} {x : Int} {v : V} (h : valV (dOf es) (Sum.inl x : Key) = some v) : ∃ y, (x, y) ∈ es ∧ v = .int y := by
  unfold valV at h
  obtain ⟨kv, hf, rfl⟩ := Option.map_eq_some_iff.mp h
  obtain ⟨e, he, rfl⟩ := List.mem_map.mp (List.mem_of_find?_eq_some hf)
  have hs := List.find?_some hf
  have := of_decide_eq_true hs
  have ex : e.1 = x := Sum.inl.inj this
  exact ⟨e.2, by rw [← ex]; exact he, rfl⟩
theorem dBk_some {es : List (Int × Int)} {y : Int} {v : V} (h : valV (dBk es) (Sum.inl y : Key) = some v) : ∃ x, (x, y) ∈ es ∧ v = .int x := by
  unfold valV at h
  obtain ⟨kv, hf, rfl⟩ := Option.map_eq_some_iff.mp h
  obtain ⟨e, he, rfl⟩ := List.mem_map.mp (List.mem_of_find?_eq_some hf)
  have hs := List.find?_some hf
  have := of_decide_eq_true hs
  have ex : e.2 = y := Sum.inl.inj this
  exact ⟨e.1, by rw [← ex]; exact he, rfl⟩
theorem dOf_none {es : List (Int × Int)} {x : Int} (h : valV (dOf es) (Sum.inl x : Key) = none) (y : Int) : (x, y) ∉ es := fun m =>
  valV_not h (List.mem_map.mpr ⟨_, List.mem_map.mpr ⟨(x, y), m, rfl⟩, rfl⟩)
theorem dBk_none {es : List (Int × Int)} {y : Int} (h : valV (dBk es) (Sum.inl y : Key) = none) (x : Int) : (x, y) ∉ es := fun m =>
  valV_not h (List.mem_map.mpr ⟨_, List.mem_map.mpr ⟨(x, y), m, rfl⟩, rfl⟩)
theorem dOf_snoc (es : List (Int × Int)) (x y : Int) : dOf es ++ [((Sum.inl x : Key), V.int y)] = dOf (es ++ [(x, y)]) := by simp [dOf]
theorem dBk_snoc (es : List (Int × Int)) (x y : Int) : dBk es ++ [((Sum.inl y : Key), V.int x)] = dBk (es ++ [(x, y)]) := by simp [dBk]
theorem dOf_len (es : List (Int × Int)) : (dOf es).length = es.length := List.length_map _
theorem dBk_len (es : List (Int × Int)) : (dBk es).length = es.length := List.length_map _
theorem dOf_val {es : List (Int × Int)} {R : Int → Int → Prop} (hfn : ∀ x y y', R x y → R x y' → y = y') (hR : ∀ e ∈ es, R e.1 e.2) {x y : Int} (hm : ∃ y', (x, y') ∈ es) (h : R x y) : valV (dOf es) (Sum.inl x : Key) = some (.int y) := by
  cases e : valV (dOf es) (Sum.inl x : Key) with
  | none => obtain ⟨y', m⟩ := hm; exact absurd m (dOf_none e y')
  | some v =>
    obtain ⟨y', m, rfl⟩ := dOf_some e
    rw [hfn x y' y (hR _ m) h]
def ValAt (rows : List (List Int)) (p : Int × Int) (x : Int) : Prop := ∃ (i k : Nat) (r : List Int), p = ((i : Int), (k : Int)) ∧ rows[i]? = some r ∧ r[k]? = some x
theorem ValAt.uniq {rows : List (List Int)} {p : Int × Int} {x y : Int} (h : ValAt rows p x) (h' : ValAt rows p y) : x = y := by
  obtain ⟨i, k, r, e, h1, h2⟩ := h
  obtain ⟨j, l, r', e', g1, g2⟩ := h'
  rw [e] at e'
  have e1 : (i : Int) = (j : Int) := congrArg Prod.fst e'
  have e2 : (k : Int) = (l : Int) := congrArg Prod.snd e'
  have e1' : i = j := by omega
  have e2' : k = l := by omega
  subst e1'; subst e2'
  rw [h1] at g1; cases g1
  rw [h2] at g2; cases g2
  rfl
abbrev Pr := (Int × Int) × (Int × Int)
def PrAt (H : Hp) (t : Addr) (q : Pr) : Prop := ∃ t1 t2, H t = some (.tup [.ref t1, .ref t2]) ∧ H t1 = some (.tup [.int q.1.1, .int q.1.2]) ∧ H t2 = some (.tup [.int q.2.1, .int q.2.2])
def PrsAt (H : Hp) (ts : List Addr) (qs : List Pr) : Prop := Paired (PrAt H) ts qs
theorem PrAt.keep {H H' : Hp} {t : Addr} {q : Pr} (s : Same H H') (h : PrAt H t q) : PrAt H' t q := by
  obtain ⟨t1, t2, e0, e1, e2⟩ := h
  exact ⟨t1, t2, s _ _ e0, s _ _ e1, s _ _ e2⟩
theorem PrsAt.keep {H H' : Hp} {ts : List Addr} {qs : List Pr} (s : Same H H') (h : PrsAt H ts qs) : PrsAt H' ts qs := Paired.imp2 (fun _ _ z => z.keep s) h
theorem PrAt.upd {H : Hp} {r : Addr} {xs : List V} {o : HO} {t : Addr} {q : Pr} (hr : H r = some (.lst xs)) (h : PrAt H t q) : PrAt (upd H r o) t q := by
  obtain ⟨t1, t2, e0, e1, e2⟩ := h
  have ne : ∀ x ys, H x = some (.tup ys) → x ≠ r := fun x ys e z => by rw [z, hr] at e; cases e
  exact ⟨t1, t2, by rw [upd_ne (ne _ _ e0)]; exact e0, by rw [upd_ne (ne _ _ e1)]; exact e1, by rw [upd_ne (ne _ _ e2)]; exact e2⟩
theorem PrsAt.upd {H : Hp} {r : Addr} {xs : List V} {o : HO} {ts : List Addr} {qs : List Pr} (hr : H r = some (.lst xs)) (h : PrsAt H ts qs) : PrsAt (upd H r o) ts qs := Paired.imp2 (fun _ _ z => PrAt.upd hr z) h
theorem TsAt.upd {H : Hp} {r : Addr} {xs : List V} {o : HO} {ts : List Addr} {qs : List (List Int)} (hr : H r = some (.lst xs)) (h : TsAt H ts qs) : TsAt (upd H r o) ts qs := Paired.imp2 (fun t q e => by rw [upd_ne fun z => by rw [z, hr] at e; cases e]; exact e) h
theorem small30 {n : Nat} (h : n ≤ 30000) : n < sizeLine := by
  have : (30000 : Nat) < sizeLine := by decide
  omega
def sp_carries (_ : PySem.W.Frag) : Sp := fun vs H Q _ => ∃ (ro rn rp : Addr) (oads nads pads : List Addr) (old new : List (List Int)) (prs : List Pr), vs = [.ref ro, .ref rn, .ref rp] ∧ LsAt H ro oads old ∧ LsAt H rn nads new ∧ H rp = some (.lst (pads.map V.ref)) ∧ PrsAt H pads prs ∧ prs.length ≤ 30000 ∧
  ∃ R : Int → Int → Prop, (∀ x y y', R x y → R x y' → y = y') ∧ (∀ x x' y, R x y → R x' y → x = x') ∧ (∀ q ∈ prs, ∃ x y, ValAt old q.1 x ∧ ValAt new q.2 y ∧ R x y) ∧
  ∀ (d : Addr) (es : List (Int × Int)) (H' : Hp), Same H H' → H' d = some (.dK (dOf es)) → (es.map (·.1)).Nodup → (∀ e ∈ es, R e.1 e.2) → (∀ q ∈ prs, ∀ x, ValAt old q.1 x → ∃ y, (x, y) ∈ es) → Q (.ref d) H'
def sp_met (_ : PySem.W.Frag) : Sp := fun vs H Q _ => ∃ (p n d : Addr) (ws ws' : List (List Int)) (sg es : List (Int × Int)) (sw : Bool), vs = [.ref p, .ref n, .ref d, .bl sw] ∧ IsDr H p ws sg ∧ IsDr H n ws' sg ∧ Small ws sg ∧ Small ws' sg ∧ Good ws sg ∧ Good ws' sg ∧ H d = some (.dK (dOf es)) ∧
  (∀ e ∈ sg, ∀ v, MeetIs ws e v → ∃ o a b o' a' b', v = [e.1, e.2, o, a, b] ∧ valV (dOf es) (Sum.inl o : Key) = some (.int o') ∧ valV (dOf es) (Sum.inl a : Key) = some (.int a') ∧ valV (dOf es) (Sum.inl b : Key) = some (.int b') ∧ MeetIs ws' e (if sw = true then [e.1, e.2, o', b', a'] else [e.1, e.2, o', a', b'])) ∧
  ∀ H', Same H H' → Q (.bl true) H'
/-- what the pairs of ways are -/
structure PrsOf (ws : List (List Int)) (to : Nat → Nat → Nat) (prs : List Pr) : Prop where
  len : prs.length ≤ 30000
  of : ∀ q ∈ prs, ∃ (i k : Nat) (w : List Int), ws[i]? = some w ∧ k < max w.length 1 ∧ q = (((i : Int), (k : Int)), ((i : Int), (to i k : Int)))
  all : ∀ (i k : Nat) (w : List Int), ws[i]? = some w → k < max w.length 1 → ((((i : Int), (k : Int)), ((i : Int), (to i k : Int))) : Pr) ∈ prs
def sp_pairs (_ : PySem.W.Frag) : Sp := fun vs H Q _ => ∃ (p : Addr) (ws : List (List Int)) (sg : List (Int × Int)) (wk st : Int) (tr : Bool), vs = [.ref p, .int wk, .int st, .bl tr] ∧ IsDr H p ws sg ∧ Small ws sg ∧
  ∀ (r : Addr) (pads : List Addr) (prs : List Pr) (H' : Hp), Same H H' → H' r = some (.lst (pads.map V.ref)) → PrsAt H' pads prs → PrsOf ws (toOf ws wk st tr) prs → Q (.ref r) H'
def sp_alike (_ : PySem.W.Frag) : Sp := fun vs H Q _ => ∃ (p n rp : Addr) (pads : List Addr) (prs : List Pr) (ws ws' : List (List Int)) (sg : List (Int × Int)) (sw : Bool) (ε : Int) (cs : Nat → Int) (to : Nat → Nat → Nat), vs = [.ref p, .ref n, .ref rp, .bl sw] ∧
  IsDr H p ws sg ∧ IsDr H n ws' sg ∧ Small ws sg ∧ Small ws' sg ∧ Good ws sg ∧ Good ws' sg ∧ H rp = some (.lst (pads.map V.ref)) ∧ PrsAt H pads prs ∧ PrsOf ws to prs ∧ Carries ws ws' ε cs to ∧
  (∀ e ∈ sg, ∀ v, MeetIs ws e v → ∃ o a b o' a' b', v = [e.1, e.2, o, a, b] ∧ Rel ws ε cs o o' ∧ Rel ws ε cs a a' ∧ Rel ws ε cs b b' ∧ MeetIs ws' e (if sw = true then [e.1, e.2, o', b', a'] else [e.1, e.2, o', a', b'])) ∧
  ∀ H', Same H H' → Q (.bl true) H'
/-- how many arcs the dict has -/
theorem es_count {ws : List (List Int)} {es : List (Int × Int)} {ε : Int} {cs : Nat → Int} (nd : (es.map (·.1)).Nodup) (hR : ∀ e ∈ es, Rel ws ε cs e.1 e.2) (hall : ∀ x, 0 ≤ x → x < arcSum ws → ∃ y, (x, y) ∈ es) : (es.length : Int) = arcSum ws := by
  have h0 := arcSum_nonneg ws
  have hp : (es.map (·.1)).Perm (iota (arcSum ws).toNat) := by
    refine nodup_perm nd (nodup_iota _) fun x => ?_
    rw [mem_iota]
    constructor
    · intro hx
      obtain ⟨e, he, rfl⟩ := List.mem_map.mp hx
      have := (hR e he).bound
      omega
    · rintro ⟨x0, x1⟩
      obtain ⟨y, hy⟩ := hall x x0 (by omega)
      exact List.mem_map.mpr ⟨_, hy, rfl⟩
  have hl := hp.length_eq
  rw [List.length_map] at hl
  have : (iota (arcSum ws).toNat).length = (arcSum ws).toNat := by simp [iota]
  omega
theorem max1' (n : Nat) : (if (n : Int) > 1 then (n : Int) else (1 : Int)) = ((max n 1 : Nat) : Int) := by
  split <;> omega
end My
namespace My
open PySem L2
structure PrsTo (ws : List (List Int)) (to : Nat → Nat → Nat) (i m : Nat) (prs : List Pr) : Prop where
  of : ∀ q ∈ prs, ∃ (i' k : Nat) (w : List Int), ws[i']? = some w ∧ k < max w.length 1 ∧ q = (((i' : Int), (k : Int)), ((i' : Int), (to i' k : Int)))
  all : ∀ (i' k : Nat) (w : List Int), ws[i']? = some w → k < max w.length 1 → (i' < i ∨ (i' = i ∧ k < m)) → ((((i' : Int), (k : Int)), ((i' : Int), (to i' k : Int))) : Pr) ∈ prs
theorem PrsTo.zero (ws : List (List Int)) (to : Nat → Nat → Nat) : PrsTo ws to 0 0 [] := ⟨by simp, fun i' k w _ _ h => by omega⟩
theorem PrsTo.snoc {ws : List (List Int)} {to : Nat → Nat → Nat} {i m : Nat} {prs : List Pr} {w : List Int} (h : PrsTo ws to i m prs) (hw : ws[i]? = some w) (hm : m < max w.length 1) : PrsTo ws to i (m + 1) (prs ++ [(((i : Int), (m : Int)), ((i : Int), (to i m : Int)))]) := by
  refine ⟨fun q hq => ?_, fun i' k w' hw' hk hlt => ?_⟩
  · rcases List.mem_append.mp hq with h1 | h1
    · exact h.of q h1
    · exact ⟨i, m, w, hw, hm, List.mem_singleton.mp h1⟩
  · by_cases c : i' = i ∧ k = m
    · obtain ⟨rfl, rfl⟩ := c
      exact List.mem_append_right _ (List.mem_singleton.mpr rfl)
    · exact List.mem_append_left _ (h.all i' k w' hw' hk (by omega))
theorem PrsTo.next {ws : List (List Int)} {to : Nat → Nat → Nat} {i : Nat} {prs : List Pr} {w : List Int} (h : PrsTo ws to i (max w.length 1) prs) (hw : ws[i]? = some w) : PrsTo ws to (i + 1) 0 prs := by
  refine ⟨h.of, fun i' k w' hw' hk hlt => h.all i' k w' hw' hk ?_⟩
  by_cases c : i' = i
  · subst c
    rw [hw] at hw'; cases hw'
    exact .inr ⟨rfl, hk⟩
  · omega
theorem PrsTo.done {ws : List (List Int)} {to : Nat → Nat → Nat} {n : Nat} {prs : List Pr} (h : PrsTo ws to n 0 prs) (hn : ws.length ≤ n) (hl : prs.length ≤ 30000) : PrsOf ws to prs :=
  ⟨hl, h.of, fun i k w hw hk => h.all i k w hw hk (.inl (Nat.lt_of_lt_of_le (List.getElem?_eq_some_iff.mp hw).1 hn))⟩
end My
namespace My
open PySem L2
theorem list2 {l : List Int} (h : l.length = 2) : ∃ a b, l = [a, b] := match l, h with
  | [a, b], _ => ⟨a, b, rfl⟩
end My

namespace My
open PySem L2
def top (i : Nat) : Stmt := PySem.Challenge.pw_plait_k18_whole_arcs_stay.main.body.getD i (.Pass ⟨0, 0, 0, 0⟩)
abbrev s_spot : Stmt := top 4
abbrev s_arcs : Stmt := top 6
abbrev s_arc_count : Stmt := top 7
abbrev s_arcs_of_walk : Stmt := top 8
abbrev s_arcs_of_ways : Stmt := top 9
abbrev s_meets : Stmt := top 10
abbrev s_turned : Stmt := top 12
abbrev s_begun_later : Stmt := top 13
abbrev s_backward : Stmt := top 14
abbrev s_cell : Stmt := top 16
abbrev s_mix : Stmt := top 17
abbrev s_row : Stmt := top 18
abbrev s_mixed : Stmt := top 19
abbrev s_any : Stmt := top 20
abbrev s_plaited : Stmt := top 21
abbrev s_drawn : Stmt := top 22
abbrev s_copy : Stmt := top 23
abbrev s_is_whole : Stmt := top 24
abbrev s_is_wholes : Stmt := top 25
abbrev s_is_drawing : Stmt := top 26
abbrev s_rows : Stmt := top 27
abbrev s_carries : Stmt := top 28
abbrev s_met : Stmt := top 29
abbrev s_alike : Stmt := top 30
abbrev s_begun : Stmt := top 31
abbrev s_pairs : Stmt := top 32
abbrev s_great : Stmt := top 33
abbrev s_law : Stmt := top 34
structure Blt (mg : Str → Option Value) : Prop where
  b_bool : mg "bool" = none
  b_enumerate : mg "enumerate" = none
  b_int : mg "int" = none
  b_isinstance : mg "isinstance" = none
  b_len : mg "len" = none
  b_list : mg "list" = none
  b_max : mg "max" = none
  b_min : mg "min" = none
  b_range : mg "range" = none
  b_reversed : mg "reversed" = none
  b_sum : mg "sum" = none
  b_tuple : mg "tuple" = none
section
variable {P : Program} {w : World} {K : PySem.W.Frag} {mg : Str → Option Value} {base : Heap}
theorem sc_spot : FnScope ["drawing", "passage", "at", "walk"] ["drawing", "passage"] (defScope s_spot) := ⟨rfl, rfl, rfl, by decide +kernel, rfl, by decide +kernel, by decide +kernel⟩
set_option maxHeartbeats 4000000 in
theorem ok_spot (D : Def K mg "spot" s_spot ["drawing", "passage"])  (Z : Blt mg) : Fn P w K mg base 1 "spot" ["drawing", "passage"] (sp_spot K) := by
  refine fn_mk D sc_spot (fun vs H Q E h => ?_) (fun f cdv A outer s H vs Q E hr h => ?_)
  · obtain ⟨p, ws, sg, x, rfl, _⟩ := h; rfl
  obtain ⟨p, ws, sg, x, rfl, hd, hs, hx, q⟩ := h
  have hu := hu8 hr
  have hu1 := hu_of hr
  refine ⟨_, (pss_cons (ps_for PassesOwn.never rfl (pi_enum rfl Z.b_enumerate (pe_ix ix_tup (pv 0) pe_int (fun _ _ => rfl))) (pg_tup rfl (pgs_cons (pg_name (i := 2) sc_spot.nd rfl (Or.inl rfl)) (pgs_cons (pg_name (i := 3) sc_spot.nd rfl (Or.inl rfl)) pgs_nil)))
      (pss_one (ps_if (pt_cmpR op_in_seq (pv 1) (pv 3) rfl)
        (pss_one (ps_ret (pe_tup (pa_cons (pv 2) (pa_cons (pe_bm PySem.F.plainAttrs_list PySem.F.slot_list_index PySem.F.type_list_index mt_index (pv 3) (pa_cons (pv 1) pa_nil)) pa_nil)))))
        pss_nil)))
    (pss_one ps_never)), ?_⟩

  obtain ⟨a, b, ads, tds, d⟩ := id hd
  have hla := len_ref ads
  have hlw := d.wa.len
  refine ⟨_, rfl, p, _, _, _, rfl, rfl, SqT.of d.tp, at2_0 _ _, a, rfl, ⟨_, SqL.of d.la⟩, ?_⟩
  refine for_enum (K := K) (a := a) (xs := ads.map V.ref) (fun i σ H2 => ∃ at' wk : Option V, σ = [some (.ref p), some (.int x), at', wk] ∧ Same H H2 ∧ ∀ (i' : Nat) (w' : List Int), i' < i → ws[i']? = some w' → x ∉ w')
    ⟨none, none, rfl, Same.refl _, fun i' w' h => by omega⟩ (fun i σ H2 _ ⟨_, _, _, s2, _⟩ => SqL.of (s2 _ _ d.la)) ?_ ?_
  · rintro i y σ H2 t hi ⟨at', wk, rfl, s2, hno⟩ ht
    obtain ⟨bi, rfl, hbi⟩ := ref_at hi
    obtain ⟨w, hw, ew⟩ := d.wa.get hbi
    have s3 := s2.new ht (.tup [.int (i : Int), .ref bi])
    refine ⟨t, _, rfl, SqT.of upd_same, rfl, _, _, rfl, _, _, rfl, rfl, ?_⟩
    refine ⟨_, rfl, _, rfl, bi, _, rfl, .inl (SqL.of (s3 _ _ ew)), rfl, flat_ints w, _, rfl, ?_⟩
    refine ite2 (fun c => ?_) (fun c => ?_)
    · have c' : x ∈ w := by simpa [inV_int] using c
      obtain ⟨j, hj, hj2⟩ := first_at c'
      refine ⟨_, rfl, _, rfl, .inl ⟨rfl, _, SqL.of (s3 _ _ ew)⟩, _, rfl, bi, _, _, j, rfl, rfl, SqL.of (s3 _ _ ew), rfl, flat_ints w, ⟨.int x, by rw [List.getElem?_map, hj]; rfl, by rw [eqV_int]; exact decide_eq_true rfl⟩, fun m z hm hz => ?_, (by show 2 ≤ sizeLine; decide), fun r hr => ?_⟩
      · obtain ⟨z', rfl, hz'⟩ := int_at hz
        rw [eqV_int]
        exact decide_eq_false fun e => hj2 m hm (by rw [hz', e])
      · exact q i j w ⟨hw, hj, hj2, hno⟩ r _ (s3.new hr _) (s3.free hr) upd_same
    · have c' : x ∉ w := fun m => c (by simpa [inV_int] using m)
      refine ⟨_, _, rfl, s3, fun i' w' hi' hw' => ?_⟩
      by_cases e : i' = i
      · subst e
        rw [hw] at hw'; cases hw'
        exact c'
      · exact hno i' w' (by omega) hw'
  · rintro σ H2 ⟨at', wk, rfl, s2, hno⟩
    obtain ⟨w, hw, hxw⟩ := List.mem_flatten.mp hx
    obtain ⟨i', hi'⟩ := List.mem_iff_getElem?.mp hw
    have := (List.getElem?_eq_some_iff.mp hi').1
    exact absurd hxw (hno i' w (by omega) hi')
theorem sc_arcs : FnScope ["drawing", "told", "first", "walk"] ["drawing"] (defScope s_arcs) := ⟨rfl, rfl, rfl, by decide +kernel, rfl, by decide +kernel, by decide +kernel⟩
set_option maxHeartbeats 4000000 in
theorem ok_arcs (D : Def K mg "arcs" s_arcs ["drawing"]) (g_arcs_of_walk : Fn P w K mg base 1 "arcs_of_walk" ["walk"] (sp_arcs_of_walk K)) (g_arcs_of_ways : Fn P w K mg base 2 "arcs_of_ways" ["walk", "first"] (sp_arcs_of_ways K)) (Z : Blt mg) : Fn P w K mg base 3 "arcs" ["drawing"] (sp_arcs K) := by
  refine fn_mk D sc_arcs (fun vs H Q E h => ?_) (fun f cdv A outer s H vs Q E hr h => ?_)
  · obtain ⟨p, ws, sg, rfl, _⟩ := h; rfl
  obtain ⟨p, ws, sg, rfl, hd, hs, q⟩ := h
  have hu := hu8 hr
  have hu1 := hu_of hr
  refine ⟨_, (pss_cons (ps_set (i := 1) sc_arcs.nd rfl (Or.inl rfl) (pe_lst pa_nil))
    (pss_cons (ps_set (i := 2) sc_arcs.nd rfl (Or.inl rfl) pe_int)
    (pss_cons (ps_for PassesOwn.never rfl (pi_list (pe_ix ix_tup (pv 0) pe_int (fun _ _ => rfl))) (pg_name (i := 3) sc_arcs.nd rfl (Or.inl rfl))
      (pss_cons (ps_expr (pe_bm PySem.F.plainAttrs_list PySem.F.slot_list_append PySem.F.type_list_append mt_append (pv 1) (pa_cons (pe_fn g_arcs_of_ways hr (by decide) (pa_cons (pv 3) (pa_cons (pv 2) pa_nil))) pa_nil)))
      (pss_one (ps_aug (i := 2) sc_arcs.nd rfl (Or.inl rfl) (pe_fn g_arcs_of_walk hr (by decide) (pa_cons (pv 3) pa_nil)) ip_add))))
    (pss_one (ps_ret (pv 1)))))), ?_⟩

  obtain ⟨a, b, ads, tds, d⟩ := id hd
  have hla := len_ref ads
  have hlw := d.wa.len
  have hsw := hs.w
  refine ⟨sz0, fun r hr => ?_⟩
  have s0 := same_new hr (.lst ([] : List V))
  refine ⟨_, rfl, p, _, _, _, rfl, rfl, SqT.of (s0 _ _ d.tp), at2_0 _ _, a, rfl, ⟨_, SqL.of (s0 _ _ d.la)⟩, ?_⟩
  refine for_list (K := K) (a := a) (xs := ads.map V.ref) (fun i σ H2 => ∃ (wk : Option V) (fs : Int) (nads : List Addr), σ = [some (.ref p), some (.ref r), some (.int fs), wk] ∧ fs = arcSum (ws.take i) ∧ Same H H2 ∧ H2 r = some (.lst (nads.map V.ref)) ∧ WsAt H2 nads (arcsOf (ws.take i) 0) ∧ (∀ x ∈ nads, H x = none) ∧ r ∉ nads)
    ⟨none, 0, [], rfl, rfl, s0, upd_same, .nil, by simp, by simp⟩ (fun i σ H2 _ ⟨_, _, _, _, _, s2, _⟩ => SqL.of (s2 _ _ d.la)) ?_ ?_
  · rintro i y σ H2 hi ⟨wk, fs, nads, rfl, hf, s2, er, wa, fr, hrn⟩
    obtain ⟨bi, rfl, hbi⟩ := ref_at hi
    obtain ⟨w, hw, ew⟩ := d.wa.get hbi
    have hil := (List.getElem?_eq_some_iff.mp hbi).1
    have hln := wa.len
    rw [arcsOf_length, List.length_take] at hln
    refine ⟨_, rfl, .inl ⟨rfl, _, SqL.of er⟩, _, rfl, _, rfl, bi, w, fs, rfl, s2 _ _ ew, mem_small hs hw, fun t H3 s3 ht et => ?_⟩
    have s23 := s2.trans s3
    have hrt : r ≠ t := ne_of_none er ht
    refine ⟨r, _, _, rfl, rfl, s3 _ _ er, by rw [len_ref]; exact small1000 (by omega), ?_⟩
    have s4 := s23.own hr (.lst (nads.map V.ref ++ [.ref t]))
    refine ⟨_, rfl, _, rfl, bi, w, rfl, s4 _ _ ew, mem_small hs hw, fun H5 s5 => ?_⟩
    refine ⟨_, _, rfl, rfl, ?_⟩
    refine ⟨_, _, nads ++ [t], rfl, by rw [arcSum_take hw, hf], s4.trans s5, s5 _ _ (by rw [upd_same, ref_snoc]), ?_, fresh_snoc fr (s2.free ht), notin_snoc hrn hrt⟩
    rw [arcsOf_take hw]
    refine Paired.app ?_ (.cons (s5 _ _ ?_) .nil)
    · exact ((wa.keep s3).other hrn).keep s5
    · rw [upd_ne hrt.symm, Int.zero_add, ← hf]; exact et
  · rintro σ H2 ⟨wk, fs, nads, rfl, hf, s2, er, wa, fr, hrn⟩
    rw [List.take_of_length_le (by omega)] at wa
    exact ⟨_, rfl, q r nads H2 s2 ⟨hr, er, wa, fr, hrn⟩⟩
theorem sc_arc_count : FnScope ["drawing"] ["drawing"] (defScope s_arc_count) := ⟨rfl, rfl, rfl, by decide +kernel, rfl, by decide +kernel, by decide +kernel⟩
set_option maxHeartbeats 4000000 in
theorem ok_arc_count (D : Def K mg "arc_count" s_arc_count ["drawing"]) (g_arcs_of_walk : Fn P w K mg base 1 "arcs_of_walk" ["walk"] (sp_arcs_of_walk K)) (Z : Blt mg) : Fn P w K mg base 2 "arc_count" ["drawing"] (sp_arc_count K) := by
  refine fn_mk D sc_arc_count (fun vs H Q E h => ?_) (fun f cdv A outer s H vs Q E hr h => ?_)
  · obtain ⟨p, ws, sg, rfl, _⟩ := h; rfl
  obtain ⟨p, ws, sg, rfl, hd, hs, q⟩ := h
  have hu := hu8 hr
  have hu1 := hu_of hr
  refine ⟨_, (pss_one (ps_ret (pe_callB (call_sumL rfl) rfl Z.b_sum PyProof.Rows.boot_sum (pa_cons (pe_comp (defScope s_arc_count) ["drawing"] ["walk"] [] rfl (pi_list (pe_ix ix_tup (pv 0) pe_int (fun _ _ => rfl))) (gk_name (by decide)) (fun cl C s H ex E => ⟨pg_name (i := 0) (show List.Nodup (["walk"] : List Str) by decide +kernel) rfl (Or.inl rfl), pts_nil, (pe_fn g_arcs_of_walk hr (by decide) (pa_cons (pv 0) pa_nil))⟩)) pa_nil)))), ?_⟩

  obtain ⟨a, b, ads, tds, d⟩ := id hd
  have hla := len_ref ads
  have hlw := d.wa.len
  have hsw := hs.w
  refine ⟨_, rfl, p, _, _, _, rfl, rfl, SqT.of d.tp, at2_0 _ _, a, rfl, ⟨_, SqL.of d.la⟩, ?_⟩
  refine comp_list (K := K) (a := a) (xs := ads.map V.ref) (fun i ys H2 => Same H H2 ∧ ys = (((ws.take i).map fun w => (arcN w : Int)).map V.int)) ⟨Same.refl _, rfl⟩
    (fun i ys H2 hi ⟨s2, e⟩ => ⟨SqL.of (s2 _ _ d.la), by rw [e, len_int, List.length_map, List.length_take]; exact szle (by omega)⟩) ?_ ?_
  · rintro i y ys H2 hi ⟨s2, rfl⟩
    obtain ⟨bi, rfl, hbi⟩ := ref_at hi
    obtain ⟨w, hw, ew⟩ := d.wa.get hbi
    refine turn0 ?_
    refine ⟨_, rfl, bi, w, rfl, s2 _ _ ew, mem_small hs hw, fun H3 s3 => ?_⟩
    exact ⟨s2.trans s3, by rw [take_succ' hw]; simp⟩
  · rintro ys H2 u ⟨s2, rfl⟩ hu
    refine ⟨u, _, rfl, SqL.of upd_same, ?_⟩
    rw [List.take_of_length_le (by omega)]
    exact q _ (s2.new hu _)
theorem sc_arcs_of_walk : FnScope ["walk", "unders"] ["walk"] (defScope s_arcs_of_walk) := ⟨rfl, rfl, rfl, by decide +kernel, rfl, by decide +kernel, by decide +kernel⟩
set_option maxHeartbeats 4000000 in
theorem ok_arcs_of_walk (D : Def K mg "arcs_of_walk" s_arcs_of_walk ["walk"])  (Z : Blt mg) : Fn P w K mg base 1 "arcs_of_walk" ["walk"] (sp_arcs_of_walk K) := by
  refine fn_mk D sc_arcs_of_walk (fun vs H Q E h => ?_) (fun f cdv A outer s H vs Q E hr h => ?_)
  · obtain ⟨a, w, rfl, _⟩ := h; rfl
  obtain ⟨a, w, rfl, ha, hw, q⟩ := h
  have hu := hu8 hr
  have hu1 := hu_of hr
  refine ⟨_, (pss_cons (ps_comp 1 (defScope s_arcs_of_walk) ["walk", "unders"] ["passage"] [] rfl sc_arcs_of_walk.nd rfl rfl (pi_list (pv 0)) (gk_name (by decide)) (fun cl C s H ex E => ⟨pg_name (i := 0) (show List.Nodup (["passage"] : List Str) by decide +kernel) rfl (Or.inl rfl), (pts_one (pt_cmpR op_lt (pv 0) pe_int (nomark _))), (pv 0)⟩))
    (pss_one (ps_ret (pe_callB (call_max2 rfl) rfl Z.b_max PyProof.Rows.boot_max (pa_cons (pe_callB call_len_seq rfl Z.b_len PySem.boot_len (pa_cons (pv 1) pa_nil)) (pa_cons pe_int pa_nil)))))), ?_⟩

  have hlw := len_int w
  refine ⟨_, rfl, a, rfl, ⟨_, SqL.of ha⟩, ?_⟩
  refine comp_list (K := K) (a := a) (xs := w.map V.int) (fun i ys H9 => H9 = H ∧ ys = ((w.take i).filter fun x => decide (x < 0)).map V.int) ⟨rfl, rfl⟩ (fun i ys H9 hi ⟨e, e2⟩ => ⟨by rw [e]; exact SqL.of ha, by rw [e2, len_int]; exact szle (Nat.le_trans (List.length_filter_le _ _) (by rw [List.length_take]; omega))⟩) ?_ ?_
  · rintro i9 y ys H9 hi9 ⟨rfl, rfl⟩
    obtain ⟨x, rfl, hx⟩ := int_at hi9
    refine ⟨_, rfl, _, _, rfl, rfl, _, rfl, ?_⟩
    refine ite2 (fun c => ?_) (fun c => ?_)
    · exact ⟨_, rfl, rfl, by rw [filt_yes hx c, map_snoc]⟩
    · exact ⟨rfl, by rw [filt_no hx c]⟩
  · rintro ys H2 u ⟨rfl, rfl⟩ hu
    refine ⟨_, rfl, u, _, rfl, .inl (SqL.of upd_same), _, _, rfl, ?_⟩
    rw [len_int, hlw, List.take_length, max1]
    exact q _ (same_new hu _)
theorem sc_arcs_of_ways : FnScope ["walk", "first", "number", "unders", "ways", "passage"] ["walk", "first"] (defScope s_arcs_of_ways) := ⟨rfl, rfl, rfl, by decide +kernel, rfl, by decide +kernel, by decide +kernel⟩
set_option maxHeartbeats 4000000 in
theorem ok_arcs_of_ways (D : Def K mg "arcs_of_ways" s_arcs_of_ways ["walk", "first"]) (g_arcs_of_walk : Fn P w K mg base 1 "arcs_of_walk" ["walk"] (sp_arcs_of_walk K)) (Z : Blt mg) : Fn P w K mg base 2 "arcs_of_ways" ["walk", "first"] (sp_arcs_of_ways K) := by
  refine fn_mk D sc_arcs_of_ways (fun vs H Q E h => ?_) (fun f cdv A outer s H vs Q E hr h => ?_)
  · obtain ⟨a, w, f, rfl, _⟩ := h; rfl
  obtain ⟨a, w, fs, rfl, ha, hw, q⟩ := h
  have hu := hu8 hr
  have hu1 := hu_of hr
  refine ⟨_, (pss_cons (ps_set (i := 2) sc_arcs_of_ways.nd rfl (Or.inl rfl) (pe_fn g_arcs_of_walk hr (by decide) (pa_cons (pv 0) pa_nil)))
    (pss_cons (ps_set (i := 3) sc_arcs_of_ways.nd rfl (Or.inl rfl) pe_int)
    (pss_cons (ps_set (i := 4) sc_arcs_of_ways.nd rfl (Or.inl rfl) (pe_lst (pa_cons (pv 1) pa_nil)))
    (pss_cons (ps_for PassesOwn.never rfl (pi_list (pe_slice sl_list (pv 0) po_none (po_some (pe_un un_neg pe_int)))) (pg_name (i := 5) sc_arcs_of_ways.nd rfl (Or.inl rfl))
      (pss_cons (ps_if (pt_cmpR op_lt (pv 5) pe_int (nomark _))
        (pss_one (ps_aug (i := 3) sc_arcs_of_ways.nd rfl (Or.inl rfl) pe_int ip_add))
        pss_nil)
      (pss_one (ps_expr (pe_bm PySem.F.plainAttrs_list PySem.F.slot_list_append PySem.F.type_list_append mt_append (pv 4) (pa_cons (pe_op op_add (pv 1) (pe_op op_mod (pv 3) (pv 2))) pa_nil))))))
    (pss_one (ps_ret (pv 4))))))), ?_⟩

  have hlw := len_int w
  refine ⟨_, rfl, a, w, rfl, ha, hw, fun H1 s1 => ?_⟩
  refine ⟨_, rfl, (by show 1 ≤ sizeLine; decide), fun r hr => ?_⟩
  have s2 := s1.new hr (.lst [.int fs])
  have hr0 : H r = none := s1.free hr
  refine ⟨_, rfl, _, rfl, _, rfl, a, _, rfl, SqL.of (s2 _ _ ha), fun t ht => ?_⟩
  have htr : t ≠ r := fun e => by rw [e, upd_same] at ht; cases ht
  have ht0 : H t = none := s2.free ht
  refine ⟨t, rfl, ⟨_, SqL.of upd_same⟩, ?_⟩
  refine for_list (K := K) (a := t) (xs := cutV (w.map V.int) none (some (-1))) (fun i σ H2 => ∃ (ps : Option V) (un : Int), σ = [some (.ref a), some (.int fs), some (.int (arcN w : Int)), some (.int un), some (.ref r), ps] ∧ un = (negs (w.take i) : Int) ∧ Same H H2 ∧ H2 t = some (.lst (cutV (w.map V.int) none (some (-1)))) ∧ H2 r = some (.lst (((waysOf w fs).take (i + 1)).map V.int)))
    ⟨none, 0, rfl, by simp [negs], s2.new ht _, upd_same, by rw [upd_ne htr.symm, upd_same, ways_first]; rfl⟩ (fun i σ H2 _ ⟨_, _, _, _, _, e, _⟩ => SqL.of e) ?_ ?_
  · rintro i y σ H2 hi ⟨ps, un, rfl, hun, s3, et, er⟩
    rw [cut_init] at hi
    obtain ⟨x, rfl, hx⟩ := int_at hi
    have hil := (List.getElem?_eq_some_iff.mp hx).1
    rw [List.length_dropLast] at hil
    rw [List.getElem?_dropLast, if_pos (by omega)] at hx
    have hts := negs_take_succ hx
    have hwl : (((waysOf w fs).take (i + 1)).map V.int).length < sizeLine := by
      rw [len_int, List.length_take, waysOf_length]; exact small1000 (by omega)
    have hpos : (0 : Int) < (arcN w : Int) := by have := arcN_pos w; omega
    have fin : ∀ (ps' : Option V) (un' : Int), un' = (negs (w.take (i + 1)) : Int) → ∃ (ps : Option V) (un : Int), [some (.ref a), some (.int fs), some (.int (arcN w : Int)), some (.int un'), some (.ref r), ps'] = [some (.ref a), some (.int fs), some (.int (arcN w : Int)), some (.int un), some (.ref r), ps] ∧ un = (negs (w.take (i + 1)) : Int) ∧
        Same H (upd H2 r (.lst (((waysOf w fs).take (i + 1)).map V.int ++ [.int (fs + un' % (arcN w : Int))]))) ∧ (upd H2 r (.lst (((waysOf w fs).take (i + 1)).map V.int ++ [.int (fs + un' % (arcN w : Int))]))) t = some (.lst (cutV (w.map V.int) none (some (-1)))) ∧
        (upd H2 r (.lst (((waysOf w fs).take (i + 1)).map V.int ++ [.int (fs + un' % (arcN w : Int))]))) r = some (.lst (((waysOf w fs).take (i + 1 + 1)).map V.int)) := fun ps' un' hu => by
      refine ⟨ps', un', rfl, hu, s3.own hr0 _, by rw [upd_ne htr]; exact et, ?_⟩
      rw [upd_same, map_snoc, take_succ' (l := waysOf w fs) (i := i + 1) (x := fs + un' % (arcN w : Int)) (by rw [waysOf_get w fs (by omega), hu])]
    refine ⟨_, rfl, _, _, rfl, rfl, _, rfl, ?_⟩
    refine ite2 (fun c => ?_) (fun c => ?_)
    · have c' := of_decide_eq_true c
      rw [negs_neg c'] at hts
      refine ⟨_, rfl, _, _, rfl, rfl, ?_⟩
      refine ⟨_, rfl, .inl ⟨rfl, _, SqL.of er⟩, _, rfl, _, rfl, _, rfl, _, _, rfl, rfl, hpos, _, _, rfl, rfl, r, _, _, rfl, rfl, er, hwl, ?_⟩
      exact fin _ _ (by show un + 1 = _; omega)
    · have c' : ¬ x < 0 := fun e => c (decide_eq_true e)
      rw [negs_pos c'] at hts
      refine ⟨_, rfl, .inl ⟨rfl, _, SqL.of er⟩, _, rfl, _, rfl, _, rfl, _, _, rfl, rfl, hpos, _, _, rfl, rfl, r, _, _, rfl, rfl, er, hwl, ?_⟩
      exact fin _ _ (by omega)
  · rintro σ H2 ⟨ps, un, rfl, hun, s3, et, er⟩
    refine ⟨_, rfl, q r H2 s3 hr0 ?_⟩
    rw [er, List.take_of_length_le]
    rw [waysOf_length, cut_init, len_int, List.length_dropLast]
    omega
theorem sc_meets : FnScope ["drawing", "numbers", "told", "crossing", "sign", "above", "below", "over", "ways", "inward", "outward"] ["drawing"] (defScope s_meets) := ⟨rfl, rfl, rfl, by decide +kernel, rfl, by decide +kernel, by decide +kernel⟩
set_option maxHeartbeats 4000000 in
theorem ok_meets (D : Def K mg "meets" s_meets ["drawing"]) (g_arcs : Fn P w K mg base 3 "arcs" ["drawing"] (sp_arcs K)) (g_spot : Fn P w K mg base 1 "spot" ["drawing", "passage"] (sp_spot K)) (Z : Blt mg) : Fn P w K mg base 4 "meets" ["drawing"] (sp_meets K) := by
  refine fn_mk D sc_meets (fun vs H Q E h => ?_) (fun f cdv A outer s H vs Q E hr h => ?_)
  · obtain ⟨p, ws, sg, rfl, _⟩ := h; rfl
  obtain ⟨p, ws, sg, rfl, hd, hs, hg, q⟩ := h
  have hu := hu8 hr
  have hu1 := hu_of hr
  refine ⟨_, (pss_cons (ps_set (i := 1) sc_meets.nd rfl (Or.inl rfl) (pe_fn g_arcs hr (by decide) (pa_cons (pv 0) pa_nil)))
    (pss_cons (ps_set (i := 2) sc_meets.nd rfl (Or.inl rfl) (pe_lst pa_nil))
    (pss_cons (ps_for PassesOwn.never rfl (pi_list (pe_ix ix_tup (pv 0) pe_int (fun _ _ => rfl))) (pg_tup rfl (pgs_cons (pg_name (i := 3) sc_meets.nd rfl (Or.inl rfl)) (pgs_cons (pg_name (i := 4) sc_meets.nd rfl (Or.inl rfl)) pgs_nil)))
      (pss_cons (ps_set (i := 5) sc_meets.nd rfl (Or.inl rfl) (pe_fn g_spot hr (by decide) (pa_cons (pv 0) (pa_cons (pv 3) pa_nil))))
      (pss_cons (ps_set (i := 6) sc_meets.nd rfl (Or.inl rfl) (pe_fn g_spot hr (by decide) (pa_cons (pv 0) (pa_cons (pe_un un_neg (pv 3)) pa_nil))))
      (pss_cons (ps_set (i := 7) sc_meets.nd rfl (Or.inl rfl) (pe_ix ix_list (pe_ix ix_list (pv 1) (pe_ix ix_tup (pv 5) pe_int (fun _ _ => rfl)) (fun _ _ => rfl)) (pe_ix ix_tup (pv 5) pe_int (fun _ _ => rfl)) (fun _ _ => rfl)))
      (pss_cons (ps_set (i := 8) sc_meets.nd rfl (Or.inl rfl) (pe_ix ix_list (pv 1) (pe_ix ix_tup (pv 6) pe_int (fun _ _ => rfl)) (fun _ _ => rfl)))
      (pss_cons (ps_set (i := 9) sc_meets.nd rfl (Or.inl rfl) (pe_ix ix_list (pv 8) (pe_ix ix_tup (pv 6) pe_int (fun _ _ => rfl)) (fun _ _ => rfl)))
      (pss_cons (ps_set (i := 10) sc_meets.nd rfl (Or.inl rfl) (pe_ix ix_list (pv 8) (pe_op op_mod (pe_op op_add (pe_ix ix_tup (pv 6) pe_int (fun _ _ => rfl)) pe_int) (pe_callB call_len_seq rfl Z.b_len PySem.boot_len (pa_cons (pv 8) pa_nil))) (fun _ _ => rfl)))
      (pss_one (ps_expr (pe_bm PySem.F.plainAttrs_list PySem.F.slot_list_append PySem.F.type_list_append mt_append (pv 2) (pa_cons (pe_tup (pa_cons (pv 3) (pa_cons (pv 4) (pa_cons (pv 7) (pa_cons (pv 9) (pa_cons (pv 10) pa_nil)))))) pa_nil)))))))))))
    (pss_one (ps_ret (pv 2)))))), ?_⟩

  obtain ⟨a, b, ads, tds, d⟩ := id hd
  have hlt := len_ref tds
  have hls := d.sa.len
  have hss := hs.s
  refine ⟨_, rfl, p, ws, sg, rfl, hd, hs, fun nu nads H1 s1 nw => ?_⟩
  refine ⟨sz0, fun r hr => ?_⟩
  refine ⟨_, rfl, p, _, _, _, rfl, rfl, SqT.of ((s1.new hr _) _ _ d.tp), at2_1 _ _, b, rfl, ⟨_, SqL.of ((s1.new hr _) _ _ d.lb)⟩, ?_⟩
  refine for_list (K := K) (a := b) (xs := tds.map V.ref) (fun i σ H2 => ∃ (x1 x2 x3 x4 x5 x6 x7 x8 : Option V) (ts : List Addr) (ms : List (List Int)), σ = [some (.ref p), some (.ref nu), some (.ref r), x1, x2, x3, x4, x5, x6, x7, x8] ∧ Same H1 H2 ∧ H2 r = some (.lst (ts.map V.ref)) ∧ TsAt H2 ts ms ∧ r ∉ ts ∧ Paired (MeetIs ws) (sg.take i) ms)
    ⟨none, none, none, none, none, none, none, none, [], [], rfl, same_new hr _, upd_same, .nil, by simp, .nil⟩ (fun i σ H2 _ ⟨_, _, _, _, _, _, _, _, _, _, _, s2, _⟩ => SqL.of ((s1.trans s2) _ _ d.lb)) ?_ ?_
  · rintro i y σ H2 hi ⟨x1, x2, x3, x4, x5, x6, x7, x8, ts, ms, rfl, s3, er, ta, hrt, pm⟩
    obtain ⟨ti, rfl, hti⟩ := ref_at hi
    obtain ⟨e, he, et⟩ := d.sa.get hti
    have hil := (List.getElem?_eq_some_iff.mp hti).1
    have hlm := Paired.len pm
    have hlt2 := Paired.len ta
    rw [List.length_take] at hlm
    have c3 := s1.trans s3
    obtain ⟨m1, m2⟩ := good_mem hg (List.mem_of_getElem? he)
    refine ⟨ti, _, rfl, SqT.of (c3 _ _ et), rfl, _, _, rfl, _, _, rfl, rfl, ?_⟩
    refine ⟨_, rfl, _, rfl, p, ws, sg, e.1, rfl, hd.keep c3, hs, m1, fun i1 j1 w1 sp1 t1 H3 s4 h1 e1 => ?_⟩
    refine ⟨_, rfl, _, rfl, _, rfl, p, ws, sg, -e.1, rfl, hd.keep (c3.trans s4), hs, m2, fun i2 j2 w2 sp2 t2 H4 s5 h2 e2 => ?_⟩
    have s24 := s4.trans s5
    have s14 := s3.trans s24
    have e1' := s5 _ _ e1
    obtain ⟨r1, hr1, hl1, hj1⟩ := sp1.row
    obtain ⟨r2, hr2, hl2, hj2⟩ := sp2.row
    obtain ⟨b1, hb1, eb1⟩ := Paired.getR nw.wa hr1
    obtain ⟨b2, hb2, eb2⟩ := Paired.getR nw.wa hr2
    have hm : (j2 + 1) % w2.length < w2.length := Nat.mod_lt _ (by omega)
    obtain ⟨vo, ho⟩ : ∃ v, r1[j1]? = some v := ⟨_, List.getElem?_eq_getElem (by omega)⟩
    obtain ⟨va, ha⟩ : ∃ v, r2[j2]? = some v := ⟨_, List.getElem?_eq_getElem (by omega)⟩
    obtain ⟨vb, hb⟩ : ∃ v, r2[(j2 + 1) % w2.length]? = some v := ⟨_, List.getElem?_eq_getElem (by omega)⟩
    have hmt : MeetIs ws e [e.1, e.2, vo, va, vb] := ⟨i1, j1, i2, j2, w1, w2, r1, r2, vo, va, vb, sp1, sp2, hr1, ho, hr2, ha, hb, rfl⟩
    have hix : ((j2 : Int) + 1) % ((r2.map V.int).length : Int) = (((j2 + 1) % w2.length : Nat) : Int) := by
      rw [len_int, hl2, Int.natCast_emod]; rfl
    have hpos : (0 : Int) < ((r2.map V.int).length : Int) := by rw [len_int]; omega
    refine ⟨_, rfl, _, rfl, t1, _, _, _, rfl, rfl, SqT.of e1', at2_0 _ _, nu, _, _, _, rfl, rfl, SqL.of (s14 _ _ nw.la), at_ref hb1 rfl, _, rfl, t1, _, _, _, rfl, rfl, SqT.of e1', at2_1 _ _, b1, _, _, _, rfl, rfl, SqL.of (s14 _ _ eb1), at_of ho rfl, ?_⟩
    refine ⟨_, rfl, _, rfl, t2, _, _, _, rfl, rfl, SqT.of e2, at2_0 _ _, nu, _, _, _, rfl, rfl, SqL.of (s14 _ _ nw.la), at_ref hb2 rfl, ?_⟩
    refine ⟨_, rfl, _, rfl, t2, _, _, _, rfl, rfl, SqT.of e2, at2_1 _ _, b2, _, _, _, rfl, rfl, SqL.of (s14 _ _ eb2), at_of ha rfl, ?_⟩
    refine ⟨_, rfl, _, rfl, t2, _, _, _, rfl, rfl, SqT.of e2, at2_1 _ _, _, _, rfl, rfl, _, rfl, b2, _, rfl, .inl (SqL.of (s14 _ _ eb2)), _, _, rfl, rfl, hpos, b2, _, _, _, rfl, rfl, SqL.of (s14 _ _ eb2), at_of hb hix, ?_⟩
    have er4 := s24 _ _ er
    refine ⟨_, rfl, .inl ⟨rfl, _, SqL.of er4⟩, _, rfl, _, rfl, _, rfl, _, rfl, _, rfl, (by show 5 ≤ sizeLine; decide), fun t ht => ?_⟩
    have hrt' : r ≠ t := ne_of_none er4 ht
    refine ⟨r, _, _, rfl, rfl, (same_new ht _) _ _ er4, by rw [len_ref]; exact small1000 (by omega), ?_⟩
    refine ⟨_, _, _, _, _, _, _, _, ts ++ [t], ms ++ [[e.1, e.2, vo, va, vb]], rfl, (s14.new ht _).own hr _, by rw [upd_same, ref_snoc], ?_, notin_snoc hrt hrt', ?_⟩
    · refine Paired.app (TsAt.other ((ta.keep s24).keep (same_new ht _)) hrt) (.cons ?_ .nil)
      rw [upd_ne hrt'.symm, upd_same]; rfl
    · rw [take_succ' he]
      exact Paired.app pm (.cons hmt .nil)
  · rintro σ H2 ⟨x1, x2, x3, x4, x5, x6, x7, x8, ts, ms, rfl, s3, er, ta, hrt, pm⟩
    rw [List.take_of_length_le (by omega)] at pm
    exact ⟨_, rfl, q r ts ms H2 (s1.trans s3) (s1.free hr) ⟨er, ta⟩ pm⟩
theorem sc_turned : FnScope ["drawing", "walk", "by", "walks"] ["drawing", "walk", "by"] (defScope s_turned) := ⟨rfl, rfl, rfl, by decide +kernel, rfl, by decide +kernel, by decide +kernel⟩
set_option maxHeartbeats 4000000 in
theorem ok_turned (D : Def K mg "turned" s_turned ["drawing", "walk", "by"]) (g_begun_later : Fn P w K mg base 1 "begun_later" ["passages", "by"] (sp_begun_later K)) (Z : Blt mg) : Fn P w K mg base 2 "turned" ["drawing", "walk", "by"] (sp_turned K) := by
  refine fn_mk D sc_turned (fun vs H Q E h => ?_) (fun f cdv A outer s H vs Q E hr h => ?_)
  · obtain ⟨p, ws, sg, i, w, n, rfl, _⟩ := h; rfl
  obtain ⟨p, ws, sg, j, wj, n, rfl, hd, hs, hj, q⟩ := h
  have hu := hu8 hr
  have hu1 := hu_of hr
  refine ⟨_, (pss_cons (ps_comp 3 (defScope s_turned) ["drawing", "walk", "by", "walks"] ["passages"] [] rfl sc_turned.nd rfl rfl (pi_list (pe_ix ix_tup (pv 0) pe_int (fun _ _ => rfl))) (gk_name (by decide)) (fun cl C s H ex E => ⟨pg_name (i := 0) (show List.Nodup (["passages"] : List Str) by decide +kernel) rfl (Or.inl rfl), pts_nil, (pe_callTy (call_list_ofK K rfl) rfl Z.b_list PyProof.Rows.boot_list (pa_cons (pv 0) pa_nil))⟩))
    (pss_cons (ps_asg (pe_fn g_begun_later hr (by decide) (pa_cons (pe_ix ix_list (pv 3) (pv 1) (fun _ _ => rfl)) (pa_cons (pv 2) pa_nil))) (pg_sub (pv 3) (pv 1) set_list))
    (pss_one (ps_ret (pe_tup (pa_cons (pv 3) (pa_cons (pe_callTy call_list_of rfl Z.b_list PyProof.Rows.boot_list (pa_cons (pe_ix ix_tup (pv 0) pe_int (fun _ _ => rfl)) pa_nil)) pa_nil))))))), ?_⟩
  obtain ⟨a, b, ads, tds, d⟩ := id hd
  have hla := len_ref ads
  have hlw := d.wa.len
  have hls := d.sa.len
  have hsw := hs.w
  have hss := hs.s
  refine ⟨_, rfl, p, _, _, _, rfl, rfl, SqT.of d.tp, at2_0 _ _, a, rfl, ⟨_, SqL.of d.la⟩, ?_⟩
  refine comp_list (K := K) (a := a) (xs := ads.map V.ref) (fun i ys H2 => ∃ nads : List Addr, ys = nads.map V.ref ∧ nads.length = i ∧ Same H H2 ∧ WsAt H2 nads (ws.take i) ∧ (∀ x ∈ nads, H x = none))
    ⟨[], rfl, rfl, Same.refl _, .nil, by simp⟩ (fun i ys H2 hi ⟨nads, e, ln, s2, _⟩ => ⟨SqL.of (s2 _ _ d.la), by rw [e, len_ref]; exact szle (by omega)⟩) ?_ ?_
  · rintro i y ys H2 hi ⟨nads, rfl, ln, s2, wa, fr⟩
    obtain ⟨bi, rfl, hbi⟩ := ref_at hi
    obtain ⟨w, hw, ew⟩ := d.wa.get hbi
    refine turn0 ?_
    refine ⟨_, rfl, bi, _, rfl, .inl (SqL.of (s2 _ _ ew)), fun t ht => ?_⟩
    refine ⟨nads ++ [t], by rw [ref_snoc], by simp [ln], s2.new ht _, ?_, fresh_snoc fr (s2.free ht)⟩
    rw [take_succ' hw]
    exact Paired.app (wa.keep (same_new ht _)) (.cons upd_same .nil)
  · rintro ys H2 r ⟨nads, rfl, ln, s2, wa, fr⟩ hr
    rw [List.take_of_length_le (by omega)] at wa
    have s3 := s2.new hr (.lst (nads.map V.ref))
    have hr0 : H r = none := s2.free hr
    have hrn : r ∉ nads := wa.fresh hr
    have wa3 := wa.keep (same_new hr (.lst (nads.map V.ref)))
    obtain ⟨bj, hbj, ebj⟩ := Paired.getR wa3 hj
    refine ⟨_, rfl, _, rfl, r, _, _, _, rfl, rfl, SqL.of upd_same, at_ref hbj rfl, _, rfl, bj, wj, n, rfl, ebj, mem_small hs hj, fun r2 H4 s4 hr2 er2 => ?_⟩
    have er4 := s4 _ _ (upd_same (H := H2) (a := r) (o := .lst (nads.map V.ref)))
    have hr2r : r2 ≠ r := fun e => by rw [e, upd_same] at hr2; cases hr2
    have hjl : j < nads.length := (List.getElem?_eq_some_iff.mp hbj).1
    refine ⟨_, rfl, _, rfl, r, _, _, _, rfl, rfl, er4, ixN_of (by omega) (by rw [len_ref]; omega), ?_⟩
    rw [Int.toNat_natCast, ← List.map_set]
    have hrn2 : r ∉ nads.set j r2 := fun m => (mem_set m).elim hrn fun e => hr2r e.symm
    have wa5 : WsAt (upd H4 r (.lst ((nads.set j r2).map V.ref))) (nads.set j r2) (ws.set j (rot wj n)) := WsAt.other (WsAt.put er2 j (wa3.keep s4)) hrn2
    have s5 : Same H (upd H4 r (.lst ((nads.set j r2).map V.ref))) := (s3.trans s4).own hr0 _
    refine ⟨_, rfl, _, rfl, p, _, _, _, rfl, rfl, SqT.of (s5 _ _ d.tp), at2_1 _ _, b, _, rfl, .inl (SqL.of (s5 _ _ d.lb)), fun l hl => ?_⟩
    have hrl : r ≠ l := ne_of_none upd_same hl
    refine ⟨(by show 2 ≤ sizeLine; decide), fun tp htp => ?_⟩
    have s34 := (same_new hl (.lst (tds.map V.ref))).trans (same_new htp (.tup [.ref r, .ref l]))
    have s6 := s5.trans s34
    exact q tp _ s6 ⟨r, l, nads.set j r2, tds, ⟨upd_same, s34 _ _ upd_same, (same_new htp _) _ _ upd_same, wa5.keep s34, d.sa.keep s6, hrl, hrn2, wa5.fresh hl⟩, hr0, s5.free hl, fun x hx => (mem_set hx).elim (fr x) fun e => by rw [e]; exact s3.free hr2⟩
theorem sc_begun_later : FnScope ["passages", "by", "start"] ["passages", "by"] (defScope s_begun_later) := ⟨rfl, rfl, rfl, by decide +kernel, rfl, by decide +kernel, by decide +kernel⟩
set_option maxHeartbeats 4000000 in
theorem ok_begun_later (D : Def K mg "begun_later" s_begun_later ["passages", "by"])  (Z : Blt mg) : Fn P w K mg base 1 "begun_later" ["passages", "by"] (sp_begun_later K) := by
  refine fn_mk D sc_begun_later (fun vs H Q E h => ?_) (fun f cdv A outer s H vs Q E hr h => ?_)
  · obtain ⟨a, w, n, rfl, _⟩ := h; rfl
  obtain ⟨a, w, n, rfl, ha, hw, q⟩ := h
  have hu := hu8 hr
  have hu1 := hu_of hr
  refine ⟨_, (pss_cons (ps_if (pt_cmpR op_eq (pe_callB call_len_seq rfl Z.b_len PySem.boot_len (pa_cons (pv 0) pa_nil)) pe_int (nomark _))
      (pss_one (ps_ret (pe_lst pa_nil)))
      pss_nil)
    (pss_cons (ps_set (i := 2) sc_begun_later.nd rfl (Or.inl rfl) (pe_op op_mod (pv 1) (pe_callB call_len_seq rfl Z.b_len PySem.boot_len (pa_cons (pv 0) pa_nil))))
    (pss_one (ps_ret (pe_op op_cat (pe_slice sl_list (pv 0) (po_some (pv 2)) po_none) (pe_slice sl_list (pv 0) po_none (po_some (pv 2)))))))), ?_⟩

  have hlw := len_int w
  refine ⟨_, rfl, a, _, rfl, .inl (SqL.of ha), rfl, _, rfl, ?_⟩
  rw [eqI]
  refine ite2 (fun c => ?_) (fun c => ?_)
  · have c' := of_decide_eq_true c
    have e : w = [] := List.eq_nil_of_length_eq_zero (by omega)
    subst e
    exact ⟨sz0, fun r hr => q r _ (same_new hr _) hr (by rw [upd_same, rot_nil]; rfl)⟩
  · have c' : ¬ (((w.map V.int).length : Int) = 0) := fun e => c (decide_eq_true e)
    have hpos : (0 : Int) < ((w.map V.int).length : Int) := by omega
    have m0 := Int.emod_nonneg n (show ((w.map V.int).length : Int) ≠ 0 by omega)
    have m1 := Int.emod_lt_of_pos n hpos
    refine ⟨_, rfl, _, rfl, a, _, rfl, .inl (SqL.of ha), _, _, rfl, rfl, hpos, ?_⟩
    refine ⟨_, rfl, _, rfl, _, rfl, a, _, rfl, SqL.of ha, fun x hx => ?_⟩
    have s1 := same_new hx (.lst (cutV (w.map V.int) (some (n % ((w.map V.int).length : Int))) none))
    refine ⟨_, rfl, _, rfl, _, rfl, a, _, rfl, SqL.of (s1 _ _ ha), fun y hy => ?_⟩
    have e1 : cutV (w.map V.int) (some (n % ((w.map V.int).length : Int))) none = ((w.drop (n % (w.length : Int)).toNat).map V.int) := by
      rw [cutV_map, hlw]
      rw [hlw] at m0 m1
      rw [cut_from _ m0 m1]
    have e2 : cutV (w.map V.int) none (some (n % ((w.map V.int).length : Int))) = ((w.take (n % (w.length : Int)).toNat).map V.int) := by
      rw [cutV_map, hlw]
      rw [hlw] at m0 m1
      rw [cut_to _ m0 m1]
    refine ⟨x, y, _, _, rfl, rfl, (same_new hy _) _ _ upd_same, upd_same, ?_, fun r hr => ?_⟩
    · have l1 := cutV_length (w.map V.int) (some (n % ((w.map V.int).length : Int))) none
      have l2 := cutV_length (w.map V.int) none (some (n % ((w.map V.int).length : Int)))
      exact szle (by omega)
    · refine q r _ (s1.trans ((same_new hy _).trans (same_new hr _))) (s1.free ((same_new hy _).free hr)) ?_
      rw [upd_same, e1, e2]
      unfold rot
      rw [List.map_append]
theorem sc_backward : FnScope ["drawing", "walks"] ["drawing"] (defScope s_backward) := ⟨rfl, rfl, rfl, by decide +kernel, rfl, by decide +kernel, by decide +kernel⟩
set_option maxHeartbeats 4000000 in
theorem ok_backward (D : Def K mg "backward" s_backward ["drawing"])  (Z : Blt mg) : Fn P w K mg base 1 "backward" ["drawing"] (sp_backward K) := by
  refine fn_mk D sc_backward (fun vs H Q E h => ?_) (fun f cdv A outer s H vs Q E hr h => ?_)
  · obtain ⟨p, ws, sg, rfl, _⟩ := h; rfl
  obtain ⟨p, ws, sg, rfl, hd, hs, q⟩ := h
  have hu := hu8 hr
  have hu1 := hu_of hr
  refine ⟨_, (pss_cons (ps_comp 1 (defScope s_backward) ["drawing", "walks"] ["walk"] [] rfl sc_backward.nd rfl rfl (pi_list (pe_ix ix_tup (pv 0) pe_int (fun _ _ => rfl))) (gk_name (by decide)) (fun cl C s H ex E => ⟨pg_name (i := 0) (show List.Nodup (["walk"] : List Str) by decide +kernel) rfl (Or.inl rfl), pts_nil, (pe_listrev K rfl rfl rfl rfl Z.b_list Z.b_reversed (pv 0))⟩))
    (pss_one (ps_ret (pe_tup (pa_cons (pv 1) (pa_cons (pe_callTy call_list_of rfl Z.b_list PyProof.Rows.boot_list (pa_cons (pe_ix ix_tup (pv 0) pe_int (fun _ _ => rfl)) pa_nil)) pa_nil)))))), ?_⟩
  obtain ⟨a, b, ads, tds, d⟩ := id hd
  have hla := len_ref ads
  have hlw := d.wa.len
  have hls := d.sa.len
  have hsw := hs.w
  have hss := hs.s
  refine ⟨_, rfl, p, _, _, _, rfl, rfl, SqT.of d.tp, at2_0 _ _, a, rfl, ⟨_, SqL.of d.la⟩, ?_⟩
  refine comp_list (K := K) (a := a) (xs := ads.map V.ref) (fun i ys H2 => ∃ nads : List Addr, ys = nads.map V.ref ∧ nads.length = i ∧ Same H H2 ∧ WsAt H2 nads ((ws.map List.reverse).take i) ∧ (∀ x ∈ nads, H x = none))
    ⟨[], rfl, rfl, Same.refl _, .nil, by simp⟩ (fun i ys H2 hi ⟨nads, e, ln, s2, _⟩ => ⟨SqL.of (s2 _ _ d.la), by rw [e, len_ref]; exact szle (by omega)⟩) ?_ ?_
  · rintro i y ys H2 hi ⟨nads, rfl, ln, s2, wa, fr⟩
    obtain ⟨bi, rfl, hbi⟩ := ref_at hi
    obtain ⟨w, hw, ew⟩ := d.wa.get hbi
    refine turn0 ?_
    refine ⟨_, rfl, bi, _, rfl, SqL.of (s2 _ _ ew), fun t ht => ?_⟩
    refine ⟨nads ++ [t], by rw [ref_snoc], by simp [ln], s2.new ht _, ?_, fresh_snoc fr (s2.free ht)⟩
    rw [take_succ' (x := w.reverse) (by rw [List.getElem?_map, hw]; rfl), ← List.map_reverse]
    exact Paired.app (wa.keep (same_new ht _)) (.cons upd_same .nil)
  · rintro ys H2 r ⟨nads, rfl, ln, s2, wa, fr⟩ hr
    rw [List.take_of_length_le (by rw [List.length_map]; omega)] at wa
    have s3 := s2.new hr (.lst (nads.map V.ref))
    have hr0 : H r = none := s2.free hr
    have hrn : r ∉ nads := wa.fresh hr
    have wa3 := wa.keep (same_new hr (.lst (nads.map V.ref)))
    refine ⟨_, rfl, _, rfl, p, _, _, _, rfl, rfl, SqT.of (s3 _ _ d.tp), at2_1 _ _, b, _, rfl, .inl (SqL.of (s3 _ _ d.lb)), fun l hl => ?_⟩
    have hrl : r ≠ l := ne_of_none upd_same hl
    refine ⟨(by show 2 ≤ sizeLine; decide), fun tp htp => ?_⟩
    have s4 := (s3.new hl (.lst (tds.map V.ref))).new htp (.tup [.ref r, .ref l])
    have s34 := (same_new hl (.lst (tds.map V.ref))).trans (same_new htp (.tup [.ref r, .ref l]))
    exact q tp _ s4 ⟨r, l, nads, tds, ⟨upd_same, s34 _ _ upd_same, (same_new htp _) _ _ upd_same, wa3.keep s34, d.sa.keep s4, hrl, hrn, wa3.fresh hl⟩, hr0, s3.free hl, fr⟩
theorem sc_cell : FnScope ["_law_script", "_law_place", "_law_seed", "_law_cell_here"] ["_law_script", "_law_place"] (defScope s_cell) := ⟨rfl, rfl, rfl, by decide +kernel, rfl, by decide +kernel, by decide +kernel⟩
set_option maxHeartbeats 4000000 in
theorem ok_cell (D : Def K mg "_law_cell" s_cell ["_law_script", "_law_place"])  (Z : Blt mg) : Fn P w K mg base 1 "_law_cell" ["_law_script", "_law_place"] (sp_cell K) := by
  refine fn_mk D sc_cell (fun vs H Q E h => ?_) (fun f cdv A outer s H vs Q E hr h => ?_)
  · obtain ⟨a, ns, p, rfl, _⟩ := h; rfl
  obtain ⟨a, ns, p, rfl, hS, h63, h0, h1, k⟩ := h
  have hu := hu8 hr
  have hu1 := hu_of hr
  refine ⟨_, (pss_cons (ps_if (pt_cmpR op_lt (pv 1) (pe_callB call_len_seq rfl Z.b_len PySem.boot_len (pa_cons (pv 0) pa_nil)) (nomark _))
      (pss_one (ps_ret (pe_ix ix_list (pv 0) (pv 1) (fun _ _ => rfl))))
      pss_nil)
    (pss_cons (ps_set (i := 2) sc_cell.nd rfl (Or.inl rfl) pe_int)
    (pss_cons (ps_for PassesOwn.never rfl (pi_list (pe_slice sl_list (pv 0) po_none (po_some pe_int))) (pg_name (i := 3) sc_cell.nd rfl (Or.inl rfl))
      (pss_one (ps_set (i := 2) sc_cell.nd rfl (Or.inl rfl) (pe_op op_mod (pe_op op_add (pe_op op_add (pe_op op_mul (pv 2) pe_int) (pe_op op_mod (pv 3) pe_int)) pe_int) pe_int))))
    (pss_one (ps_ret (pe_op op_mod (pe_op op_add (pv 2) (pe_op op_mul pe_int (pv 1))) pe_int)))))), ?_⟩

  refine ⟨_, rfl, _, rfl, a, _, rfl, .inl hS, _, _, rfl, rfl, _, rfl, ?_⟩
  refine ite2 (fun c => ?_) (fun c => ?_)
  · have c' := of_decide_eq_true c
    rw [len_int] at c'
    obtain ⟨v, e, _⟩ := atM (ns := ns) h0 c'
    exact ⟨_, rfl, _, rfl, a, _, _, _, rfl, rfl, hS, e, k v H (Same.refl H)⟩
  · refine ⟨_, rfl, _, rfl, a, _, rfl, hS, fun q hq => ?_⟩
    refine ⟨q, rfl, ⟨_, SqL.of upd_same⟩, ?_⟩
    refine for_list (K := K) (a := q) (xs := cutV (ns.map V.int) none (some 63)) (fun i σ H2 => ∃ (sd : Int) (v : Option V), σ = [some (.ref a), some (.int p), some (.int sd), v] ∧ H2 = upd H q (.lst (cutV (ns.map V.int) none (some 63))) ∧ 0 ≤ sd ∧ sd < 2147483647)
      ⟨5, none, rfl, rfl, by decide, by decide⟩ (fun i σ H2 _ ⟨_, _, _, e, _⟩ => by rw [e]; exact SqL.of upd_same) ?_ ?_
    · rintro i y σ H2 hi ⟨sd, v, rfl, rfl, s0, s1⟩
      rw [cutV_map] at hi
      obtain ⟨z, rfl, _⟩ := int_at hi
      refine ⟨_, rfl, _, _, rfl, rfl, .inl ⟨by omega, by omega⟩, _, rfl, _, _, rfl, rfl, (by show (0 : Int) < 1000003; decide), _, _, rfl, rfl, _, _, rfl, rfl, _, _, rfl, rfl, (by show (0 : Int) < 2147483647; decide), ?_⟩
      exact ⟨_, _, rfl, rfl, Int.emod_nonneg _ (by decide), Int.emod_lt_of_pos _ (by decide)⟩
    · rintro σ H2 ⟨sd, v, rfl, rfl, s0, s1⟩
      refine ⟨_, rfl, _, rfl, _, _, rfl, rfl, .inl ⟨by decide, by decide⟩, _, _, rfl, rfl, _, _, rfl, rfl, (by show (0 : Int) < 1000003; decide), ?_⟩
      exact k _ _ (same_new hq _)
theorem sc_mix : FnScope ["_law_cell_here", "_law_k", "_law_one", "_law_two"] ["_law_cell_here", "_law_k"] (defScope s_mix) := ⟨rfl, rfl, rfl, by decide +kernel, rfl, by decide +kernel, by decide +kernel⟩
set_option maxHeartbeats 4000000 in
theorem ok_mix (D : Def K mg "_law_mix" s_mix ["_law_cell_here", "_law_k"])  (Z : Blt mg) : Fn P w K mg base 1 "_law_mix" ["_law_cell_here", "_law_k"] (sp_mix K) := by
  refine fn_mk D sc_mix (fun vs H Q E h => ?_) (fun f cdv A outer s H vs Q E hr h => ?_)
  · obtain ⟨c, k, rfl, _⟩ := h; rfl
  obtain ⟨c, k, rfl, h0, h1, q⟩ := h
  have hu := hu8 hr
  have hu1 := hu_of hr
  refine ⟨_, (pss_cons (ps_set (i := 2) sc_mix.nd rfl (Or.inl rfl) (pe_op op_mod (pe_op op_pow (pe_op op_add (pe_op op_add (pe_op op_mod (pv 0) pe_int) (pe_op op_mul pe_int (pv 1))) pe_int) pe_int) pe_int))
    (pss_cons (ps_set (i := 3) sc_mix.nd rfl (Or.inl rfl) (pe_op op_mod (pe_op op_add (pe_op op_add (pe_op op_mul (pv 2) pe_int) (pe_op op_mul (pe_op op_mul pe_int (pv 1)) (pv 1))) pe_int) pe_int))
    (pss_one (ps_ret (pe_op op_fdivB (pv 3) pe_int))))), ?_⟩

  have b0 := Int.emod_nonneg c (show (2147483629 : Int) ≠ 0 by decide)
  have b1 := Int.emod_lt_of_pos c (show (0 : Int) < 2147483629 by decide)
  refine ⟨_, rfl, _, _, rfl, rfl, (by show (0 : Int) < 2147483629; decide), _, rfl, _, _, rfl, rfl, .inl ⟨by decide, by decide⟩, _, _, rfl, rfl, _, _, rfl, rfl, _, _, rfl, rfl, ⟨by decide, by decide, by omega⟩, _, _, rfl, rfl, (by show (0 : Int) < 2147483647; decide), ?_⟩
  refine ⟨_, rfl, _, _, rfl, rfl, .inr ⟨by decide, by decide⟩, _, rfl, _, _, rfl, rfl, .inl ⟨by decide, by decide⟩, _, rfl, _, _, rfl, rfl, .inr ⟨by omega, by omega⟩, _, _, rfl, rfl, _, _, rfl, rfl, _, _, rfl, rfl, (by show (0 : Int) < 2147483399; decide), ?_⟩
  refine ⟨_, rfl, _, _, rfl, rfl, (by show (0 : Int) < 101 ∧ (101 : Int).natAbs.log2 < 9000; decide +kernel), ?_⟩
  exact q _
theorem sc_row : FnScope ["_law_script", "_law_place", "_law_sizes", "_law_cell_here", "_law_left", "_law_some", "_law_k", "_law_other"] ["_law_script", "_law_place", "_law_sizes"] (defScope s_row) := ⟨rfl, rfl, rfl, by decide +kernel, rfl, by decide +kernel, by decide +kernel⟩
set_option maxHeartbeats 4000000 in
theorem ok_row (D : Def K mg "_law_row" s_row ["_law_script", "_law_place", "_law_sizes"]) (g_cell : Fn P w K mg base 1 "_law_cell" ["_law_script", "_law_place"] (sp_cell K)) (g_mix : Fn P w K mg base 1 "_law_mix" ["_law_cell_here", "_law_k"] (sp_mix K)) (Z : Blt mg) : Fn P w K mg base 2 "_law_row" ["_law_script", "_law_place", "_law_sizes"] (sp_row K) := by
  refine fn_mk D sc_row (fun vs H Q E h => ?_) (fun f cdv A outer s H vs Q E hr h => ?_)
  · obtain ⟨a, ns, p, z, sizes, rfl, _⟩ := h; rfl
  obtain ⟨a, ns, p, z, sizes, rfl, hS, h63, h0, h1, hz, hl, hp, q⟩ := h
  have hu := hu8 hr
  have hu1 := hu_of hr
  refine ⟨_, (pss_cons (ps_set (i := 3) sc_row.nd rfl (Or.inl rfl) (pe_fn g_cell hr (by decide) (pa_cons (pv 0) (pa_cons (pv 1) pa_nil))))
    (pss_cons (ps_set (i := 4) sc_row.nd rfl (Or.inl rfl) (pv 3))
    (pss_cons (ps_set (i := 5) sc_row.nd rfl (Or.inl rfl) (pe_lst pa_nil))
    (pss_cons (ps_for PassesOwn.never rfl (pi_range1 rfl Z.b_range (pa_cons (pe_callB call_len_seq rfl Z.b_len PySem.boot_len (pa_cons (pv 2) pa_nil)) pa_nil)) (pg_name (i := 6) sc_row.nd rfl (Or.inl rfl))
      (pss_one (ps_if (pt_cmpR op_lt (pv 3) (pe_op op_pow pe_int pe_int) (nomark _))
        (pss_one (ps_expr (pe_bm PySem.F.plainAttrs_list PySem.F.slot_list_append PySem.F.type_list_append mt_append (pv 5) (pa_cons (pe_op op_mod (pe_fn g_mix hr (by decide) (pa_cons (pv 3) (pa_cons (pv 6) pa_nil))) (pe_ix ix_list (pv 2) (pv 6) (fun _ _ => rfl))) pa_nil))))
        (pss_one (ps_if (pt_cmpR op_gt (pv 4) pe_int (nomark _))
          (pss_cons (ps_expr (pe_bm PySem.F.plainAttrs_list PySem.F.slot_list_append PySem.F.type_list_append mt_append (pv 5) (pa_cons (pe_op op_mod (pv 4) (pe_ix ix_list (pv 2) (pv 6) (fun _ _ => rfl))) pa_nil)))
          (pss_one (ps_set (i := 4) sc_row.nd rfl (Or.inl rfl) (pe_op op_fdivB (pv 4) (pe_ix ix_list (pv 2) (pv 6) (fun _ _ => rfl))))))
          (pss_cons (ps_set (i := 7) sc_row.nd rfl (Or.inl rfl) (pe_fn g_cell hr (by decide) (pa_cons (pv 0) (pa_cons (pe_op op_mod (pe_op op_add (pe_op op_add (pv 1) pe_int) (pv 6)) pe_int) pa_nil))))
          (pss_one (ps_expr (pe_bm PySem.F.plainAttrs_list PySem.F.slot_list_append PySem.F.type_list_append mt_append (pv 5) (pa_cons (pe_op op_mod (pe_fn g_mix hr (by decide) (pa_cons (pv 7) (pa_cons (pv 6) pa_nil))) (pe_ix ix_list (pv 2) (pv 6) (fun _ _ => rfl))) pa_nil))))))))))
    (pss_one (ps_ret (pv 5))))))), ?_⟩

  have hlz := len_int sizes
  refine ⟨_, rfl, _, rfl, a, ns, p, rfl, hS, h63, h0, by omega, fun c H1 s1 => ?_⟩
  refine ⟨_, rfl, ?_⟩
  refine ⟨sz0, fun r hr1 => ?_⟩
  have hr0 : H r = none := s1.free hr1
  refine ⟨_, rfl, z, _, rfl, .inl (SqL.of ((s1.new hr1 _) _ _ hz)), _, rfl, by omega, by omega, ?_⟩
  refine for_range (n := ((sizes.map V.int).length : Int).toNat) (fun i σ H2 => ∃ (left : Int) (ot kk : Option V) (acc : List Int), σ = [some (.ref a), some (.int p), some (.ref z), some (.int c), some (.int left), some (.ref r), kk, ot] ∧ Same H H2 ∧
    H2 r = some (.lst (acc.map V.int)) ∧ acc.length = i ∧ Below sizes acc) ⟨c, none, none, [], rfl, s1.new hr1 _, upd_same, rfl, fun j s v _ e => by simp at e⟩ ?_ ?_
  · rintro i σ H2 hi ⟨left, ot, kk, acc, rfl, s2, er, la, hb⟩
    have hi' : i < sizes.length := by omega
    obtain ⟨sz, ez⟩ : ∃ sz, sizes[i]? = some sz := ⟨_, List.getElem?_eq_getElem hi'⟩
    have hsz := hp sz (List.mem_of_getElem? ez)
    have hat : atI (sizes.map V.int) (0 + (i : Int)) = some (.int sz) := at_of ez (by omega)
    have hzz : H2 z = some (.lst (sizes.map V.int)) := s2 _ _ hz
    have hla : (acc.map V.int).length < sizeLine := by rw [len_int]; exact small1000 (by omega)
    have fin : ∀ (v left' : Int) (ot' kk' : Option V), 0 ≤ v ∧ v < sz → ∃ (left : Int) (ot kk : Option V) (acc' : List Int), [some (.ref a), some (.int p), some (.ref z), some (.int c), some (.int left'), some (.ref r), kk', ot'] = [some (.ref a), some (.int p), some (.ref z), some (.int c), some (.int left), some (.ref r), kk, ot] ∧
        Same H (upd H2 r (.lst (acc.map V.int ++ [.int v]))) ∧ (upd H2 r (.lst (acc.map V.int ++ [.int v]))) r = some (.lst (acc'.map V.int)) ∧ acc'.length = i + 1 ∧ Below sizes acc' := fun v left' ot' kk' hv =>
      ⟨left', ot', kk', acc ++ [v], rfl, s2.own hr0 _, by rw [upd_same, map_snoc], by simp [la], hb.snoc la ez hv⟩
    refine ⟨_, rfl, _, _, rfl, rfl, ⟨by decide, by decide, by decide⟩, _, _, rfl, rfl, _, rfl, ?_⟩
    refine ite2 (fun c1 => ?_) (fun c1 => ?_)
    · refine ⟨_, rfl, .inl ⟨rfl, _, SqL.of er⟩, _, rfl, _, rfl, c, _, rfl, by omega, by omega, fun v => ?_⟩
      refine ⟨_, rfl, _, rfl, z, _, _, _, rfl, rfl, SqL.of hzz, hat, _, _, rfl, rfl, hsz.1, _, _, _, rfl, rfl, er, hla, ?_⟩
      exact fin (v % sz) left ot _ ⟨Int.emod_nonneg _ (by omega), Int.emod_lt_of_pos _ hsz.1⟩
    · refine ⟨_, rfl, _, _, rfl, rfl, _, rfl, ?_⟩
      refine ite2 (fun c2 => ?_) (fun c2 => ?_)
      · refine ⟨_, rfl, .inl ⟨rfl, _, SqL.of er⟩, _, rfl, _, rfl, _, rfl, z, _, _, _, rfl, rfl, SqL.of hzz, hat, _, _, rfl, rfl, hsz.1, _, _, _, rfl, rfl, er, hla, ?_⟩
        have hzz' : (upd H2 r (.lst (acc.map V.int ++ [.int (left % sz)]))) z = some (.lst (sizes.map V.int)) := (s2.own hr0 _) _ _ hz
        refine ⟨_, rfl, _, rfl, _, rfl, z, _, _, _, rfl, rfl, SqL.of hzz', hat, _, _, rfl, rfl, hsz, ?_⟩
        exact fin (left % sz) _ ot _ ⟨Int.emod_nonneg _ (by omega), Int.emod_lt_of_pos _ hsz.1⟩
      · have m0 := Int.emod_nonneg (p + 1 + (0 + (i : Int))) (show (63 : Int) ≠ 0 by decide)
        have m1 := Int.emod_lt_of_pos (p + 1 + (0 + (i : Int))) (show (0 : Int) < 63 by decide)
        refine ⟨_, rfl, _, rfl, _, _, rfl, rfl, _, rfl, _, _, rfl, rfl, _, _, rfl, rfl, (by show (0 : Int) < 63; decide), a, ns, _, rfl, s2.seq hS, h63, m0, by omega, fun o H3 s3 => ?_⟩
        refine ⟨_, rfl, .inl ⟨rfl, _, SqL.of (s3 _ _ er)⟩, _, rfl, _, rfl, o, _, rfl, by omega, by omega, fun v => ?_⟩
        refine ⟨_, rfl, _, rfl, z, _, _, _, rfl, rfl, SqL.of (s3 _ _ hzz), hat, _, _, rfl, rfl, hsz.1, _, _, _, rfl, rfl, s3 _ _ er, hla, ?_⟩
        exact ⟨left, some (.int o), _, acc ++ [v % sz], rfl, (s2.trans s3).own hr0 _, by rw [upd_same, map_snoc], by simp [la], hb.snoc la ez ⟨Int.emod_nonneg _ (by omega), Int.emod_lt_of_pos _ hsz.1⟩⟩
  · rintro σ H2 ⟨left, ot, kk, acc, rfl, s2, er, la, hb⟩
    exact ⟨_, rfl, q r acc H2 s2 hr0 er (by omega) hb⟩
theorem sc_mixed : FnScope ["_law_names", "_law_some", "_law_left", "_law_found", "_law_k"] ["_law_names", "_law_some"] (defScope s_mixed) := ⟨rfl, rfl, rfl, by decide +kernel, rfl, by decide +kernel, by decide +kernel⟩
set_option maxHeartbeats 4000000 in
theorem ok_mixed (D : Def K mg "_law_mixed" s_mixed ["_law_names", "_law_some"])  (Z : Blt mg) : Fn P w K mg base 1 "_law_mixed" ["_law_names", "_law_some"] (sp_mixed K) := by
  refine fn_mk D sc_mixed (fun vs H Q E h => ?_) (fun f cdv A outer s H vs Q E hr h => ?_)
  · obtain ⟨a, names, z, zs, rfl, _⟩ := h; rfl
  obtain ⟨a, names, z, zs, rfl, ha, hz, hn, hzs, q⟩ := h
  have hu := hu8 hr
  have hu1 := hu_of hr
  refine ⟨_, (pss_cons (ps_set (i := 2) sc_mixed.nd rfl (Or.inl rfl) (pe_callTy call_list_of rfl Z.b_list PyProof.Rows.boot_list (pa_cons (pv 0) pa_nil)))
    (pss_cons (ps_set (i := 3) sc_mixed.nd rfl (Or.inl rfl) (pe_lst pa_nil))
    (pss_cons (ps_for PassesOwn.never rfl (pi_range1 rfl Z.b_range (pa_cons (pe_callB call_len_seq rfl Z.b_len PySem.boot_len (pa_cons (pv 0) pa_nil)) pa_nil)) (pg_name (i := 4) sc_mixed.nd rfl (Or.inl rfl))
      (pss_one (ps_expr (pe_bm PySem.F.plainAttrs_list PySem.F.slot_list_append PySem.F.type_list_append mt_append (pv 3) (pa_cons (pe_bm PySem.F.plainAttrs_list PySem.F.slot_list_pop PySem.F.type_list_pop mt_popAt (pv 2) (pa_cons (pe_op op_mod (pe_ix ix_list (pv 1) (pe_op op_add (pe_op op_mul pe_int (pv 4)) pe_int) (fun _ _ => rfl)) (pe_callB call_len_seq rfl Z.b_len PySem.boot_len (pa_cons (pv 2) pa_nil))) pa_nil)) pa_nil)))))
    (pss_one (ps_ret (pv 3)))))), ?_⟩

  have hln := len_int names
  have hlz := len_int zs
  refine ⟨_, rfl, a, _, rfl, .inl (SqL.of ha), fun l hl => ?_⟩
  refine ⟨sz0, fun r hr1 => ?_⟩
  have s1 : Same H (upd H l (.lst (names.map V.int))) := same_new hl _
  have hr0 : H r = none := s1.free hr1
  have hlr : l ≠ r := ne_of_none upd_same hr1
  refine ⟨_, rfl, a, _, rfl, .inl (SqL.of ((s1.new hr1 _) _ _ ha)), _, rfl, by omega, by omega, ?_⟩
  refine for_range (n := ((names.map V.int).length : Int).toNat) (fun i σ H2 => ∃ (kk : Option V) (left acc : List Int), σ = [some (.ref a), some (.ref z), some (.ref l), some (.ref r), kk] ∧ Same H H2 ∧
    H2 l = some (.lst (left.map V.int)) ∧ H2 r = some (.lst (acc.map V.int)) ∧ (acc ++ left).Perm names ∧ acc.length = i) ⟨none, names, [], rfl, s1.new hr1 _, by rw [upd_ne hlr, upd_same], upd_same, List.Perm.refl _, rfl⟩ ?_ ?_
  · rintro i σ H2 hi ⟨kk, left, acc, rfl, s2, el, er, pm, la⟩
    have hpl := pm.length_eq
    rw [List.length_append] at hpl
    have hll := len_int left
    obtain ⟨zv, e1, _⟩ := atM (ns := zs) (i := 8 * (0 + (i : Int)) + 9) (by omega) (by omega)
    have hpos : (0 : Int) < ((left.map V.int).length : Int) := by omega
    have m0 := Int.emod_nonneg zv (show ((left.map V.int).length : Int) ≠ 0 by omega)
    have m1 := Int.emod_lt_of_pos zv hpos
    obtain ⟨y, _, e2⟩ := atM (ns := left) (i := zv % ((left.map V.int).length : Int)) m0 (by omega)
    have e3 : (left.map V.int)[(zv % ((left.map V.int).length : Int)).toNat]? = some (.int y) := by rw [List.getElem?_map, e2]; rfl
    refine ⟨_, rfl, .inl ⟨rfl, _, SqL.of er⟩, _, rfl, .inl ⟨rfl, _, SqL.of el⟩, _, rfl, _, rfl, _, _, rfl, rfl, .inl ⟨by decide, by decide⟩, _, _, rfl, rfl, z, _, _, _, rfl, rfl, SqL.of (s2 _ _ hz), e1, _, rfl, l, _, rfl, .inl (SqL.of el), _, _, rfl, rfl, hpos,
      l, _, _, _, _, rfl, rfl, el, by omega, by omega, seqIndex_of m0 m1, e3, r, _, _, rfl, rfl, by rw [upd_ne hlr.symm]; exact er, by rw [len_int]; exact small1000 (by omega), ?_⟩
    refine ⟨_, left.eraseIdx (zv % ((left.map V.int).length : Int)).toNat, acc ++ [y], rfl, (s2.own hl _).own hr0 _, ?_, by rw [upd_same, map_snoc], ?_, by simp [la]⟩
    · rw [upd_ne hlr, upd_same, map_eraseIdx']
    · refine List.Perm.trans ?_ pm
      rw [List.append_assoc]
      exact List.Perm.append_left _ (perm_erase e2)
  · rintro σ H2 ⟨kk, left, acc, rfl, s2, el, er, pm, la⟩
    have hpl := pm.length_eq
    rw [List.length_append] at hpl
    have : left = [] := List.eq_nil_of_length_eq_zero (by omega)
    subst this
    rw [List.append_nil] at pm
    exact ⟨_, rfl, q r acc H2 s2 hr0 er pm⟩
theorem sc_any : FnScope ["_law_names", "_law_some", "_law_rings", "_law_left", "_law_one", "_law_walks", "_law_k", "_law_at", "_law_passage"] ["_law_names", "_law_some", "_law_rings"] (defScope s_any) := ⟨rfl, rfl, rfl, by decide +kernel, rfl, by decide +kernel, by decide +kernel⟩
set_option maxHeartbeats 4000000 in
theorem ok_any (D : Def K mg "_law_any" s_any ["_law_names", "_law_some", "_law_rings"])  (Z : Blt mg) : Fn P w K mg base 1 "_law_any" ["_law_names", "_law_some", "_law_rings"] (sp_any K) := by
  refine fn_mk D sc_any (fun vs H Q E h => ?_) (fun f cdv A outer s H vs Q E hr h => ?_)
  · obtain ⟨a, names, z, zs, rings, rfl, _⟩ := h; rfl
  obtain ⟨a, names, z, zs, rings, rfl, ha, hz, hn, hzs, g0, g1, g2, q⟩ := h
  have hu := hu8 hr
  have hu1 := hu_of hr
  refine ⟨_, (pss_cons (ps_set (i := 3) sc_any.nd rfl (Or.inl rfl) (pe_lst pa_nil))
    (pss_cons (ps_for PassesOwn.never rfl (pi_list (pv 0)) (pg_name (i := 4) sc_any.nd rfl (Or.inl rfl))
      (pss_one (ps_expr (pe_bm PySem.F.plainAttrs_list PySem.F.slot_list_extend PySem.F.type_list_extend mt_extend (pv 3) (pa_cons (pe_lst (pa_cons (pv 4) (pa_cons (pe_un un_neg (pv 4)) pa_nil))) pa_nil)))))
    (pss_cons (ps_comp 5 (defScope s_any) ["_law_names", "_law_some", "_law_rings", "_law_left", "_law_one", "_law_walks", "_law_k", "_law_at", "_law_passage"] ["_law_k"] [] rfl sc_any.nd rfl rfl (pi_range1 rfl Z.b_range (pa_cons (pv 2) pa_nil)) (gk_name (by decide)) (fun cl C s H ex E => ⟨pg_name (i := 0) (show List.Nodup (["_law_k"] : List Str) by decide +kernel) rfl (Or.inl rfl), pts_nil, (pe_lst pa_nil)⟩))
    (pss_cons (ps_for PassesOwn.never rfl (pi_range1 rfl Z.b_range (pa_cons (pe_op op_mul pe_int (pe_callB call_len_seq rfl Z.b_len PySem.boot_len (pa_cons (pv 0) pa_nil))) pa_nil)) (pg_name (i := 6) sc_any.nd rfl (Or.inl rfl))
      (pss_cons (ps_set (i := 7) sc_any.nd rfl (Or.inl rfl) (pe_op op_add (pe_op op_mul pe_int (pv 6)) pe_int))
      (pss_cons (ps_set (i := 8) sc_any.nd rfl (Or.inl rfl) (pe_bm PySem.F.plainAttrs_list PySem.F.slot_list_pop PySem.F.type_list_pop mt_popAt (pv 3) (pa_cons (pe_op op_mod (pe_ix ix_list (pv 1) (pv 7) (fun _ _ => rfl)) (pe_callB call_len_seq rfl Z.b_len PySem.boot_len (pa_cons (pv 3) pa_nil))) pa_nil)))
      (pss_one (ps_expr (pe_bm PySem.F.plainAttrs_list PySem.F.slot_list_append PySem.F.type_list_append mt_append (pe_ix ix_list (pv 5) (pe_op op_mod (pe_ix ix_list (pv 1) (pe_op op_add (pv 7) pe_int) (fun _ _ => rfl)) (pv 2)) (fun _ _ => rfl)) (pa_cons (pv 8) pa_nil)))))))
    (pss_one (ps_ret (pv 5))))))), ?_⟩

  have hln := len_int names
  have hlz := len_int zs
  refine ⟨sz0, fun l hl => ?_⟩
  have s0 : Same H (upd H l (.lst ([] : List V))) := same_new hl _
  refine ⟨_, rfl, a, rfl, ⟨_, SqL.of (s0 _ _ ha)⟩, ?_⟩
  refine for_list (K := K) (a := a) (xs := names.map V.int) (fun i σ H2 => ∃ (on : Option V), σ = [some (.ref a), some (.ref z), some (.int rings), some (.ref l), on, none, none, none, none] ∧ Same H H2 ∧ H2 l = some (.lst (((names.take i).flatMap fun x => [x, -x]).map V.int)))
    ⟨none, rfl, s0, upd_same⟩ (fun i σ H2 _ ⟨_, _, s2, _⟩ => SqL.of (s2 _ _ ha)) ?_ ?_
  · rintro i y σ H2 hi ⟨on, rfl, s2, el⟩
    obtain ⟨x, rfl, hx⟩ := int_at hi
    have hi' : i < names.length := (List.getElem?_eq_some_iff.mp hx).1
    have hle : ((names.take i).flatMap fun x => [x, -x]).length ≤ 2 * names.length := by
      rw [flat2_length, List.length_take]; omega
    refine ⟨_, rfl, .inl ⟨rfl, _, SqL.of el⟩, _, rfl, _, rfl, _, rfl, (by show 2 ≤ sizeLine; decide), fun t ht => ?_⟩
    have htl : l ≠ t := ne_of_none el ht
    refine ⟨l, t, _, _, rfl, rfl, by rw [upd_ne htl]; exact el, upd_same, by rw [len_int]; exact szle (by show _ + 2 ≤ 1000; omega), ?_⟩
    refine ⟨_, rfl, (s2.new ht _).own hl _, ?_⟩
    rw [upd_same, List.take_add_one, hx]
    simp
  · rintro σ H2 ⟨on, rfl, s2, el⟩
    rw [hln, List.take_length] at el
    have hfl : (names.flatMap fun x => [x, -x]).length = 2 * names.length := flat2_length names
    refine ⟨_, rfl, _, rfl, by omega, by omega, ?_⟩
    refine comp_range (k := rings.toNat) (fun i ys H3 => ∃ ads : List Addr, ys = ads.map V.ref ∧ ads.length = i ∧ Same H H3 ∧ H3 l = some (.lst ((names.flatMap fun x => [x, -x]).map V.int)) ∧ WsAt H3 ads (List.replicate i []) ∧ (∀ x ∈ ads, H x = none) ∧ ads.Nodup ∧ l ∉ ads)
      ⟨[], rfl, rfl, s2, el, .nil, fun x h => by simp at h, List.nodup_nil, by simp⟩ (fun i ys H3 hi ⟨ads, e, la, _⟩ => by rw [e, len_ref]; exact szle (by omega)) ?_ ?_
    · rintro i ys H3 hi ⟨ads, rfl, la, s3, el3, wa, fr, nd, hla⟩
      refine turn0 ?_
      refine ⟨sz0, fun t ht => ?_⟩
      refine ⟨ads ++ [t], by rw [ref_snoc], by simp [la], s3.new ht _, by rw [upd_ne (ne_of_none el3 ht)]; exact el3, ?_, fresh_snoc fr (s3.free ht), nodup_snoc nd (wa.fresh ht), notin_snoc hla (ne_of_none el3 ht)⟩
      rw [List.replicate_succ']
      exact Paired.app (wa.keep (same_new ht _)) (.cons upd_same .nil)
    · rintro ys H3 r ⟨ads, rfl, la, s3, el3, wa, fr, nd, hla⟩ hr3
      have hr0 : H r = none := s3.free hr3
      have hrl : l ≠ r := ne_of_none el3 hr3
      have hra : r ∉ ads := wa.fresh hr3
      have s4 : Same H (upd H3 r (.lst (ads.map V.ref))) := s3.new hr3 _
      refine ⟨_, rfl, a, _, rfl, .inl (SqL.of (s4 _ _ ha)), _, _, rfl, rfl, .inl ⟨by decide, by decide⟩, _, rfl, by omega, by omega, ?_⟩
      refine for_range (n := (2 * ((names.map V.int).length : Int)).toNat) (fun i σ H4 => ∃ (kk at' ps : Option V) (left : List Int) (ws : List (List Int)), σ = [some (.ref a), some (.ref z), some (.int rings), some (.ref l), on, some (.ref r), kk, at', ps] ∧ Same H H4 ∧
        H4 l = some (.lst (left.map V.int)) ∧ H4 r = some (.lst (ads.map V.ref)) ∧ WsAt H4 ads ws ∧ (ws.flatten ++ left).Perm (names.flatMap fun x => [x, -x]) ∧ left.length + i = 2 * names.length ∧ (∀ w ∈ ws, w.length ≤ i))
        ⟨none, none, none, _, _, rfl, s4, by rw [upd_ne hrl]; exact el3, upd_same, wa.keep (same_new hr3 _), by rw [flatten_rep]; exact List.Perm.refl _, by rw [hfl]; rfl, fun w hw => by rw [List.eq_of_mem_replicate hw]; exact Nat.le_refl _⟩ ?_ ?_
      · rintro i σ H4 hi ⟨kk, at', ps, left, ws, rfl, s5, el5, er5, wa5, pm, hlen, hws⟩
        have hll := len_int left
        have hlw : ads.length = ws.length := Paired.len wa5
        have hn0 : 0 < names.length := by omega
        have hrp := g2 hn0
        obtain ⟨zv, e1, _⟩ := atM (ns := zs) (i := 4 * (0 + (i : Int)) + 5) (by omega) (by omega)
        obtain ⟨zw, e2, _⟩ := atM (ns := zs) (i := 4 * (0 + (i : Int)) + 5 + 1) (by omega) (by omega)
        have hpos : (0 : Int) < ((left.map V.int).length : Int) := by omega
        have m0 := Int.emod_nonneg zv (show ((left.map V.int).length : Int) ≠ 0 by omega)
        have m1 := Int.emod_lt_of_pos zv hpos
        obtain ⟨y, _, e3⟩ := atM (ns := left) (i := zv % ((left.map V.int).length : Int)) m0 (by omega)
        have e4 : (left.map V.int)[(zv % ((left.map V.int).length : Int)).toNat]? = some (.int y) := by rw [List.getElem?_map, e3]; rfl
        have k0 := Int.emod_nonneg zw (show rings ≠ 0 by omega)
        have k1 := Int.emod_lt_of_pos zw hrp
        have hj : (zw % rings).toNat < ads.length := by omega
        obtain ⟨b, eb⟩ : ∃ b, ads[(zw % rings).toNat]? = some b := ⟨_, List.getElem?_eq_getElem hj⟩
        obtain ⟨w, ew, hw⟩ := wa5.get eb
        have hbl : b ≠ l := fun e => hla (by rw [← e]; exact List.mem_of_getElem? eb)
        have hbr : b ≠ r := fun e => hra (by rw [← e]; exact List.mem_of_getElem? eb)
        have hwl := hws w (List.mem_of_getElem? ew)
        refine ⟨_, rfl, _, _, rfl, rfl, .inl ⟨by decide, by decide⟩, _, _, rfl, rfl, ?_⟩
        refine ⟨_, rfl, .inl ⟨rfl, _, SqL.of el5⟩, _, rfl, _, rfl, z, _, _, _, rfl, rfl, SqL.of (s5 _ _ hz), e1, _, rfl, l, _, rfl, .inl (SqL.of el5), _, _, rfl, rfl, hpos, l, _, _, _, _, rfl, rfl, el5, by omega, by omega, seqIndex_of m0 m1, e4, ?_⟩
        have s6 : Same H (upd H4 l (.lst ((left.map V.int).eraseIdx (zv % ((left.map V.int).length : Int)).toNat))) := s5.own hl _
        refine ⟨_, rfl, _, rfl, _, rfl, _, _, rfl, rfl, z, _, _, _, rfl, rfl, SqL.of (s6 _ _ hz), e2, _, rfl, _, _, rfl, rfl, hrp, r, _, _, _, rfl, rfl, SqL.of (by rw [upd_ne hrl.symm]; exact er5), at_ref eb (by omega), .inl ⟨rfl, _, SqL.of (by rw [upd_ne hbl]; exact hw)⟩, _, rfl, b, _, _, rfl, rfl, by rw [upd_ne hbl]; exact hw, by rw [len_int]; exact small1000 (by omega), ?_⟩
        refine ⟨_, _, _, left.eraseIdx (zv % ((left.map V.int).length : Int)).toNat, ws.set (zw % rings).toNat (w ++ [y]), rfl, s6.own (fr b (List.mem_of_getElem? eb)) _, ?_, ?_, ?_, ?_, ?_, ?_⟩
        · rw [upd_ne hbl.symm, upd_same, map_eraseIdx']
        · rw [upd_ne hbr.symm, upd_ne hrl.symm]; exact er5
        · rw [map_snoc]
          exact (wa5.other hla).set nd eb
        · refine List.Perm.trans ?_ pm
          exact perm_move ew e3
        · have := erase_length e3
          omega
        · intro x hx
          rcases mem_set hx with h | h
          · have := hws x h; omega
          · subst h; simp; omega
      · rintro σ H4 ⟨kk, at', ps, left, ws, rfl, s5, el5, er5, wa5, pm, hlen, hws⟩
        have : left = [] := List.eq_nil_of_length_eq_zero (by omega)
        subst this
        rw [List.append_nil] at pm
        have hlw : ads.length = ws.length := Paired.len wa5
        exact ⟨_, rfl, q r ads ws H4 s5 ⟨hr0, er5, wa5, fr, hra⟩ (by omega) (fun w hw => by have := hws w hw; omega) pm⟩
theorem sc_plaited : FnScope ["_law_names", "_law_signs", "_law_some", "_law_strands", "_law_seen", "_law_walks", "_law_start", "_law_walk", "_law_at", "_law_k", "_law_low"] ["_law_names", "_law_signs", "_law_some", "_law_strands"] (defScope s_plaited) := ⟨rfl, rfl, rfl, by decide +kernel, rfl, by decide +kernel, by decide +kernel⟩
set_option maxHeartbeats 4000000 in
theorem ok_plaited (D : Def K mg "_law_plaited" s_plaited ["_law_names", "_law_signs", "_law_some", "_law_strands"])  (Z : Blt mg) : Fn P w K mg base 1 "_law_plaited" ["_law_names", "_law_signs", "_law_some", "_law_strands"] (sp_plaited K) := by
  refine fn_mk D sc_plaited (fun vs H Q E h => ?_) (fun f cdv A outer s H vs Q E hr h => ?_)
  · obtain ⟨a, names, d, kvs, z, zs, strands, rfl, _⟩ := h; rfl
  obtain ⟨a, names, d, kvs, z, zs, strands, rfl, ha, hd, hz, hn, hzs, g0, g1, hsg, q⟩ := h
  have hu := hu8 hr
  have hu1 := hu_of hr
  refine ⟨_, (pss_cons (ps_set (i := 4) sc_plaited.nd rfl (Or.inl rfl) (pe_op op_rep (pe_lst (pa_cons pe_bl pa_nil)) (pv 3)))
    (pss_cons (ps_set (i := 5) sc_plaited.nd rfl (Or.inl rfl) (pe_lst pa_nil))
    (pss_cons (ps_for PassesOwn.never rfl (pi_range1 rfl Z.b_range (pa_cons (pv 3) pa_nil)) (pg_name (i := 6) sc_plaited.nd rfl (Or.inl rfl))
      (pss_one (ps_if (pt_not (pt_val (pe_ix ix_list (pv 4) (pv 6) (fun _ _ => rfl))))
        (pss_cons (ps_set (i := 7) sc_plaited.nd rfl (Or.inl rfl) (pe_lst pa_nil))
        (pss_cons (ps_set (i := 8) sc_plaited.nd rfl (Or.inl rfl) (pv 6))
        (pss_cons (ps_while PassesOwn.never (pt_not (pt_val (pe_ix ix_list (pv 4) (pv 8) (fun _ _ => rfl))))
          (pss_cons (ps_asg pe_bl (pg_sub (pv 4) (pv 8) set_list))
          (pss_one (ps_for PassesOwn.never rfl (pi_range1 rfl Z.b_range (pa_cons (pe_callB call_len_seq rfl Z.b_len PySem.boot_len (pa_cons (pv 0) pa_nil)) pa_nil)) (pg_name (i := 9) sc_plaited.nd rfl (Or.inl rfl))
            (pss_cons (ps_set (i := 10) sc_plaited.nd rfl (Or.inl rfl) (pe_op op_mod (pe_ix ix_list (pv 2) (pe_op op_add (pe_op op_mul pe_int (pv 9)) pe_int) (fun _ _ => rfl)) (pe_op op_sub (pv 3) pe_int)))
            (pss_one (ps_if (pt_cmpR op_eq (pv 8) (pv 10) (nomark _))
              (pss_cons (ps_expr (pe_bm PySem.F.plainAttrs_list PySem.F.slot_list_append PySem.F.type_list_append mt_append (pv 7) (pa_cons (pe_op op_mul (pe_ix ix_list (pv 0) (pv 9) (fun _ _ => rfl)) (pe_dget hu1 (pv 1) (pe_ix ix_list (pv 0) (pv 9) (fun _ _ => rfl)) (fun _ _ => rfl))) pa_nil)))
              (pss_one (ps_set (i := 8) sc_plaited.nd rfl (Or.inl rfl) (pe_op op_add (pv 10) pe_int))))
              (pss_one (ps_if (pt_cmpR op_eq (pv 8) (pe_op op_add (pv 10) pe_int) (nomark _))
                (pss_cons (ps_expr (pe_bm PySem.F.plainAttrs_list PySem.F.slot_list_append PySem.F.type_list_append mt_append (pv 7) (pa_cons (pe_op op_mul (pe_un un_neg (pe_ix ix_list (pv 0) (pv 9) (fun _ _ => rfl))) (pe_dget hu1 (pv 1) (pe_ix ix_list (pv 0) (pv 9) (fun _ _ => rfl)) (fun _ _ => rfl))) pa_nil)))
                (pss_one (ps_set (i := 8) sc_plaited.nd rfl (Or.inl rfl) (pv 10))))
                pss_nil)))))))))
        (pss_one (ps_expr (pe_bm PySem.F.plainAttrs_list PySem.F.slot_list_append PySem.F.type_list_append mt_append (pv 5) (pa_cons (pv 7) pa_nil)))))))
        pss_nil)))
    (pss_one (ps_ret (pv 5)))))), ?_⟩

  have hln := len_int names
  have hrl := rowsOf_length names zs kvs strands
  have hlz := len_int zs
  refine ⟨(by show 1 ≤ sizeLine; decide), fun t0 ht0 => ?_⟩
  refine ⟨_, rfl, t0, _, _, rfl, rfl, upd_same, by omega, by omega, by show 1 * strands.toNat ≤ sizeLine; exact szle (by omega), fun sn hsn => ?_⟩
  have s1 : Same H (upd H t0 (.lst [.bl false])) := same_new ht0 _
  have hsn0 : H sn = none := s1.free hsn
  rw [rep_bl]
  refine ⟨sz0, fun r hr => ?_⟩
  have s2 := s1.new hsn (.lst ((List.replicate strands.toNat false).map V.bl))
  have hr0 : H r = none := s2.free hr
  have hsr : sn ≠ r := ne_of_none upd_same hr
  refine ⟨_, rfl, _, rfl, by omega, by omega, ?_⟩
  refine for_range (n := strands.toNat) (fun i σ H2 => ∃ (st wk at' kk lw : Option V) (seen : List Bool) (ads : List Addr) (ws : List (List Int)), σ = [some (.ref a), some (.ref d), some (.ref z), some (.int strands), some (.ref sn), some (.ref r), st, wk, at', kk, lw] ∧ Same H H2 ∧
    H2 sn = some (.lst (seen.map V.bl)) ∧ seen.length = strands.toNat ∧ H2 r = some (.lst (ads.map V.ref)) ∧ WsAt H2 ads ws ∧ (∀ x ∈ ads, H x = none) ∧ sn ∉ ads ∧ r ∉ ads ∧ ws.length ≤ i ∧ (∀ w ∈ ws, w.length ≤ 100) ∧ ∃ ps : List Int, Done strands seen ps ∧ ws.flatten.Perm (ps.flatMap (trkC (rowsOf names zs kvs strands))) ∧ ∀ q : Nat, q < i → seen[q]? = some true)
    ⟨none, none, none, none, none, _, [], [], rfl, s2.new hr _, by rw [upd_ne hsr, upd_same], by simp, upd_same, .nil, by simp, by simp, by simp, Nat.le_refl _, by simp, [], Done.none _ _, List.Perm.refl _, fun q hq => by omega⟩ ?_ ?_
  · rintro i σ H2 hi ⟨st, wk, at', kk, lw, seen, ads, ws, rfl, s3, es, ls, er, wa, fr, hsa, hra, hlw, hws, ps, hdn, hpm, hall⟩
    obtain ⟨c, ec, ec'⟩ := atB (bs := seen) (i := 0 + (i : Int)) (by omega) (by omega)
    refine ⟨_, rfl, _, rfl, sn, _, _, _, rfl, rfl, SqL.of es, ec, _, rfl, ?_⟩
    cases c with
    | true => exact iteF ⟨_, _, _, _, _, seen, ads, ws, rfl, s3, es, ls, er, wa, fr, hsa, hra, by omega, hws, ps, hdn, hpm, all_succ hall (by rw [show i = (0 + (i : Int)).toNat by omega]; exact ec')⟩
    | false =>
      refine iteT ?_
      refine ⟨sz0, fun wl hwl => ?_⟩
      have hwl0 : H wl = none := s3.free hwl
      have hsw : sn ≠ wl := ne_of_none es hwl
      have hrw : r ≠ wl := ne_of_none er hwl
      refine ⟨_, rfl, ?_⟩
      refine while_by (fun σ H3 => ∃ (kk lw : Option V) (seen : List Bool) (w : List Int) (at' : Int), σ = [some (.ref a), some (.ref d), some (.ref z), some (.int strands), some (.ref sn), some (.ref r), some (.int (0 + (i : Int))), some (.ref wl), some (.int at'), kk, lw] ∧ Same H H3 ∧
        H3 sn = some (.lst (seen.map V.bl)) ∧ seen.length = strands.toNat ∧ H3 r = some (.lst (ads.map V.ref)) ∧ WsAt H3 ads ws ∧ H3 wl = some (.lst (w.map V.int)) ∧ 0 ≤ at' ∧ at' < strands ∧ w.length + names.length * seen.count false ≤ names.length * strands.toNat ∧ (∃ ps : List Int, Done strands seen ps ∧ (ws.flatten ++ w).Perm (ps.flatMap (trkC (rowsOf names zs kvs strands)))) ∧ (∀ q : Nat, q < i → seen[q]? = some true) ∧ (at' = (i : Int) ∨ seen[i]? = some true))
        (fun σ H3 => match H3 sn with | some (.lst xs) => xs.count (V.bl false) | _ => 0)
        ⟨kk, lw, seen, [], _, rfl, s3.new hwl _, by rw [upd_ne hsw]; exact es, ls, by rw [upd_ne hrw]; exact er, wa.keep (same_new hwl _), upd_same, by omega, by omega, by
          have := List.count_le_length (a := false) (l := seen)
          rw [ls] at this
          simpa using Nat.mul_le_mul_left names.length this, ⟨ps, hdn, by rw [List.append_nil]; exact hpm⟩, hall, .inl (by omega)⟩ ?_ ?_
      · rintro σ H3 ⟨kk, lw, seen, w, at', rfl, s4, es4, ls4, er4, wa4, ew4, a0, a1, hb4, ⟨ps, hdn, hpm⟩, hall, hat⟩
        obtain ⟨c, ec, ec'⟩ := atB (bs := seen) (i := at') a0 (by omega)
        refine ⟨_, rfl, _, rfl, sn, _, _, _, rfl, rfl, SqL.of es4, ec, _, rfl, ?_⟩
        cases c with
        | true =>
          refine iteF ?_
          have hw100 : w.length ≤ 100 := by
            have : names.length * strands.toNat ≤ 20 * 4 := Nat.mul_le_mul hn (by omega)
            omega
          refine ⟨_, rfl, .inl ⟨rfl, _, SqL.of er4⟩, _, rfl, r, _, _, rfl, rfl, er4, by rw [len_ref, Paired.len wa]; exact small1000 (by omega), ?_⟩
          refine ⟨_, _, _, _, _, seen, ads ++ [wl], ws ++ [w], rfl, s4.own hr0 _, by rw [upd_ne hsr]; exact es4, ls4, by rw [upd_same, ref_snoc], ?_, fresh_snoc fr hwl0, notin_snoc hsa hsw, notin_snoc hra hrw, by simp; omega, ?_, ps, hdn, by rw [List.flatten_append]; simpa using hpm, ?_⟩
          · exact WsAt.other (Paired.app wa4 (.cons ew4 .nil)) (notin_snoc hra hrw)
          · intro x hx
            rcases List.mem_append.mp hx with h | h
            · exact hws x h
            · rw [List.mem_singleton.mp h]; exact hw100
          · refine all_succ hall ?_
            rcases hat with e | e
            · rw [show i = at'.toNat by omega]; exact ec'
            · exact e
        | false =>
          refine iteT ?_
          have hcnt := count_set ec'
          have s5 : Same H (upd H3 sn (.lst ((seen.map V.bl).set at'.toNat (.bl true)))) := s4.own hsn0 _
          refine ⟨_, rfl, _, rfl, sn, _, _, _, rfl, rfl, es4, ixN_of a0 (by rw [List.length_map]; omega), ?_⟩
          refine ⟨_, rfl, a, _, rfl, .inl (SqL.of (s5 _ _ ha)), _, rfl, by omega, by omega, ?_⟩
          refine for_range (n := ((names.map V.int).length : Int).toNat) (fun j σ H4 => ∃ (kk lw : Option V) (w2 : List Int) (at2 : Int), σ = [some (.ref a), some (.ref d), some (.ref z), some (.int strands), some (.ref sn), some (.ref r), some (.int (0 + (i : Int))), some (.ref wl), some (.int at2), kk, lw] ∧ Same H H4 ∧
            H4 sn = some (.lst ((seen.set at'.toNat true).map V.bl)) ∧ H4 r = some (.lst (ads.map V.ref)) ∧ WsAt H4 ads ws ∧ H4 wl = some (.lst (w2.map V.int)) ∧ 0 ≤ at2 ∧ at2 < strands ∧ w2.length ≤ w.length + j ∧ w2 = w ++ trkC ((rowsOf names zs kvs strands).take j) at' ∧ at2 = trkP ((rowsOf names zs kvs strands).take j) at')
            ⟨kk, lw, w, at', rfl, s5, by rw [upd_same, List.map_set], by rw [upd_ne hsr.symm]; exact er4, wa4.other hsa, by rw [upd_ne hsw.symm]; exact ew4, a0, a1, Nat.le_refl _, by simp [trkC], rfl⟩ ?_ ?_
          · rintro j σ H4 hj ⟨kk, lw, w2, at2, rfl, s6, es6, er6, wa6, ew6, b0, b1, hb6, hw2e, hat2⟩
            have hj' : j < names.length := by omega
            obtain ⟨zv, e1, e1'⟩ := atM (ns := zs) (i := 8 * (0 + (j : Int)) + 10) (by omega) (by omega)
            have m0 := Int.emod_nonneg zv (show strands - 1 ≠ 0 by omega)
            have m1 := Int.emod_lt_of_pos zv (show 0 < strands - 1 by omega)
            obtain ⟨x, e2, e2'⟩ := atM (ns := names) (i := 0 + (j : Int)) (by omega) (by omega)
            obtain ⟨sg, e3, e4⟩ := hsg x (List.mem_of_getElem? e2')
            have hrow := rowsOf_get (kvs := kvs) (S := strands) (j := j) (x := x) (zv := zv) (by rw [show j = (0 + (j : Int)).toNat by omega]; exact e2') (by rw [show 8 * j + 10 = (8 * (0 + (j : Int)) + 10).toNat by omega]; exact e1')
            rw [sgnOf_eq e3] at hrow
            have htk := take_succ' hrow
            have hw2 : (w2.map V.int).length < sizeLine := by
              rw [len_int]
              have : names.length * strands.toNat ≤ 20 * 4 := Nat.mul_le_mul hn (by omega)
              exact small1000 (by omega)
            have hsgb : CMul x sg := .inr (by rcases e4 with e | e <;> subst e <;> exact ⟨by decide, by decide⟩)
            have hsgb' : CMul (-x) sg := .inr (by rcases e4 with e | e <;> subst e <;> exact ⟨by decide, by decide⟩)
            refine ⟨_, rfl, _, rfl, _, _, rfl, rfl, .inl ⟨by decide, by decide⟩, _, _, rfl, rfl, z, _, _, _, rfl, rfl, SqL.of (s6 _ _ hz), e1, _, rfl, _, _, rfl, rfl, _, _, rfl, rfl, (by show 0 < strands - 1; omega), ?_⟩
            refine ⟨_, rfl, _, rfl, rfl, _, rfl, ?_⟩
            rw [eqI]
            refine ite2 (fun c1 => ?_) (fun c1 => ?_)
            · refine ⟨_, rfl, .inl ⟨rfl, _, SqL.of ew6⟩, _, rfl, _, rfl, a, _, _, _, rfl, rfl, SqL.of (s6 _ _ ha), e2, _, rfl, _, rfl, _, rfl, a, _, _, _, rfl, rfl, SqL.of (s6 _ _ ha), e2, d, _, rfl, dget (s6 _ _ hd) e3, _, _, rfl, rfl, hsgb, wl, _, _, rfl, rfl, ew6, hw2, ?_⟩
              refine ⟨_, rfl, _, _, rfl, rfl, ?_⟩
              exact ⟨_, _, w2 ++ [x * sg], _, rfl, s6.own hwl0 _, by rw [upd_ne hsw]; exact es6, by rw [upd_ne hrw]; exact er6, wa6.other (wa.fresh hwl), by rw [upd_same, map_snoc], by omega, by omega, by simp; omega, by rw [htk, trkC_snoc, ← hat2, hw2e, rowC_lo (of_decide_eq_true c1), List.append_assoc], by rw [htk, trkP_snoc, ← hat2, rowP_lo (of_decide_eq_true c1)]⟩
            · refine ⟨_, rfl, _, rfl, _, _, rfl, rfl, rfl, _, rfl, ?_⟩
              rw [eqI]
              refine ite2 (fun c2 => ?_) (fun c2 => ?_)
              · refine ⟨_, rfl, .inl ⟨rfl, _, SqL.of ew6⟩, _, rfl, _, rfl, a, _, _, _, rfl, rfl, SqL.of (s6 _ _ ha), e2, _, rfl, _, rfl, _, rfl, _, rfl, a, _, _, _, rfl, rfl, SqL.of (s6 _ _ ha), e2, d, _, rfl, dget (s6 _ _ hd) e3, _, _, rfl, rfl, hsgb', wl, _, _, rfl, rfl, ew6, hw2, ?_⟩
                refine ⟨_, rfl, ?_⟩
                exact ⟨_, _, w2 ++ [-x * sg], _, rfl, s6.own hwl0 _, by rw [upd_ne hsw]; exact es6, by rw [upd_ne hrw]; exact er6, wa6.other (wa.fresh hwl), by rw [upd_same, map_snoc], m0, by omega, by simp; omega, by rw [htk, trkC_snoc, ← hat2, hw2e, rowC_hi (of_decide_eq_true c2), List.append_assoc, Int.neg_mul], by rw [htk, trkP_snoc, ← hat2, rowP_hi (of_decide_eq_true c2)]⟩
              · exact ⟨_, _, w2, _, rfl, s6, es6, er6, wa6, ew6, b0, b1, by omega, by rw [htk, trkC_snoc, ← hat2, hw2e, rowC_no (fun e => c1 (decide_eq_true e)) (fun e => c2 (decide_eq_true e)), List.append_nil], by rw [htk, trkP_snoc, ← hat2, rowP_no (fun e => c1 (decide_eq_true e)) (fun e => c2 (decide_eq_true e))]⟩
          · rintro σ H4 ⟨kk, lw, w2, at2, rfl, s6, es6, er6, wa6, ew6, b0, b1, hb6, hw2e, hat2⟩
            rw [hln, Int.toNat_natCast, List.take_of_length_le (by omega)] at hw2e
            refine ⟨⟨_, _, seen.set at'.toNat true, w2, at2, rfl, s6, es6, by simp [ls4], er6, wa6, ew6, b0, b1, ?_, ⟨ps ++ [at'], hdn.snoc a0 a1 ec', ?_⟩, fun q hq => set_true (hall q hq), .inr ?_⟩, ?_⟩
            · have h1 : names.length * seen.count false = names.length * ((seen.set at'.toNat true).count false) + names.length := by rw [← hcnt, Nat.mul_add, Nat.mul_one]
              omega
            · rw [hw2e, List.flatMap_append, ← List.append_assoc]
              refine List.Perm.append hpm ?_
              simp
            · rcases hat with e | e
              · rw [show i = at'.toNat by omega, List.getElem?_set_self (by omega)]
              · exact set_true e
            · rw [es6, es4]
              simp only [count_bl]
              omega
      · intro σ H Q Q' hq h
        obtain ⟨v, e1, v', e2, p, xs, i, w, e3, e4, e5, e6, cc, e7, q⟩ := h
        exact ⟨v, e1, v', e2, p, xs, i, w, e3, e4, e5, e6, cc, e7, hq _ _ q⟩
  · rintro σ H2 ⟨st, wk, at', kk, lw, seen, ads, ws, rfl, s3, es, ls, er, wa, fr, hsa, hra, hlw, hws, ps, hdn, hpm, hall⟩
    refine ⟨_, rfl, q r ads ws H2 s3 ⟨hr0, er, wa, fr, hra⟩ (by omega) hws ?_⟩
    refine hpm.trans ((flatMap_perm _ (hdn.all ls (by omega) hall)).trans ?_)
    exact (trkC_all (by rw [show ((strands.toNat : Nat) : Int) = strands by omega]; exact rowsOf_in g0)).trans (rowsOf_all hsg)
theorem sc_drawn : FnScope ["_law_script", "_law_place", "_law_most", "_law_sizes", "_law_some", "_law_names", "_law_signs", "_law_last", "_law_k", "_law_step", "_law_walks", "_law_rings"] ["_law_script", "_law_place", "_law_most"] (defScope s_drawn) := ⟨rfl, rfl, rfl, by decide +kernel, rfl, by decide +kernel, by decide +kernel⟩
set_option maxHeartbeats 4000000 in
theorem ok_drawn (D : Def K mg "_law_drawn" s_drawn ["_law_script", "_law_place", "_law_most"]) (g_row : Fn P w K mg base 2 "_law_row" ["_law_script", "_law_place", "_law_sizes"] (sp_row K)) (g_plaited : Fn P w K mg base 1 "_law_plaited" ["_law_names", "_law_signs", "_law_some", "_law_strands"] (sp_plaited K)) (g_any : Fn P w K mg base 1 "_law_any" ["_law_names", "_law_some", "_law_rings"] (sp_any K)) (g_mixed : Fn P w K mg base 1 "_law_mixed" ["_law_names", "_law_some"] (sp_mixed K)) (Z : Blt mg) : Fn P w K mg base 3 "_law_drawn" ["_law_script", "_law_place", "_law_most"] (sp_drawn K) := by
  refine fn_mk D sc_drawn (fun vs H Q E h => ?_) (fun f cdv A outer s H vs Q E hr h => ?_)
  · obtain ⟨a, ns, p, most, rfl, _⟩ := h; rfl
  obtain ⟨a, ns, p, most, rfl, hS, h63, h0, h1, g0, g1, q⟩ := h
  have hu := hu8 hr
  have hu1 := hu_of hr
  refine ⟨_, (pss_cons (ps_set (i := 3) sc_drawn.nd rfl (Or.inl rfl) (pe_lst (pa_cons (pe_op op_add (pv 2) pe_int) (pa_cons pe_int (pa_cons pe_int (pa_cons pe_int (pa_cons pe_int pa_nil)))))))
    (pss_cons (ps_set (i := 4) sc_drawn.nd rfl (Or.inl rfl) (pe_fn g_row hr (by decide) (pa_cons (pv 0) (pa_cons (pv 1) (pa_cons (pe_op op_cat (pv 3) (pe_op op_rep (pe_lst (pa_cons pe_int (pa_cons pe_int (pa_cons pe_int (pa_cons pe_int pa_nil))))) (pe_op op_mul pe_int (pv 2)))) pa_nil)))))
    (pss_cons (ps_set (i := 5) sc_drawn.nd rfl (Or.inl rfl) (pe_lst pa_nil))
    (pss_cons (ps_set (i := 6) sc_drawn.nd rfl (Or.inr rfl) pe_dnewK)
    (pss_cons (ps_set (i := 7) sc_drawn.nd rfl (Or.inl rfl) pe_int)
    (pss_cons (ps_for PassesOwn.never rfl (pi_range1 rfl Z.b_range (pa_cons (pe_ix ix_list (pv 4) pe_int (fun _ _ => rfl)) pa_nil)) (pg_name (i := 8) sc_drawn.nd rfl (Or.inl rfl))
      (pss_cons (ps_set (i := 9) sc_drawn.nd rfl (Or.inl rfl) (pe_op op_mul (pe_ix ix_list (pv 4) (pe_op op_add (pe_op op_mul pe_int (pv 8)) pe_int) (fun _ _ => rfl)) (pe_ix ix_list (pe_lst (pa_cons pe_int (pa_cons pe_int (pa_cons (pe_op op_pow pe_int pe_int) pa_nil)))) (pe_ix ix_list (pv 4) pe_int (fun _ _ => rfl)) (fun _ _ => rfl))))
      (pss_cons (ps_set (i := 7) sc_drawn.nd rfl (Or.inl rfl) (pe_op op_add (pe_op op_add (pv 7) pe_int) (pv 9)))
      (pss_cons (ps_expr (pe_bm PySem.F.plainAttrs_list PySem.F.slot_list_append PySem.F.type_list_append mt_append (pv 5) (pa_cons (pv 7) pa_nil)))
      (pss_one (ps_dput hu1 (pv 6) (pv 7) (pe_op op_sub (pe_op op_mul pe_int (pe_ix ix_list (pv 4) (pe_op op_add (pe_op op_mul pe_int (pv 8)) pe_int) (fun _ _ => rfl))) pe_int) rfl))))))
    (pss_cons (ps_if (pt_cmpR op_lt (pe_ix ix_list (pv 4) pe_int (fun _ _ => rfl)) pe_int (nomark _))
      (pss_one (ps_set (i := 10) sc_drawn.nd rfl (Or.inl rfl) (pe_fn g_plaited hr (by decide) (pa_cons (pe_fn g_mixed hr (by decide) (pa_cons (pv 5) (pa_cons (pv 4) pa_nil))) (pa_cons (pv 6) (pa_cons (pv 4) (pa_cons (pe_op op_add pe_int (pe_ix ix_list (pv 4) pe_int (fun _ _ => rfl))) pa_nil)))))))
      (pss_cons (ps_set (i := 11) sc_drawn.nd rfl (Or.inl rfl) (pe_callB (call_max2 rfl) rfl Z.b_max PyProof.Rows.boot_max (pa_cons (pe_ix ix_list (pv 4) pe_int (fun _ _ => rfl)) (pa_cons (pe_callB (call_min2 rfl) rfl Z.b_min PyProof.Rows.boot_min (pa_cons (pe_callB call_len_seq rfl Z.b_len PySem.boot_len (pa_cons (pv 5) pa_nil)) (pa_cons pe_int pa_nil))) pa_nil))))
      (pss_one (ps_set (i := 10) sc_drawn.nd rfl (Or.inl rfl) (pe_fn g_any hr (by decide) (pa_cons (pv 5) (pa_cons (pv 4) (pa_cons (pv 11) pa_nil))))))))
    (pss_one (ps_ret (pe_tup (pa_cons (pv 10) (pa_cons (pe_comp (defScope s_drawn) ["_law_script", "_law_place", "_law_most", "_law_sizes", "_law_some", "_law_names", "_law_signs", "_law_last", "_law_k", "_law_step", "_law_walks", "_law_rings"] ["_law_one"] [(6, "_law_signs")] rfl (pi_list (pv 5)) (gk_name (by decide)) (fun cl C s H ex E => ⟨pg_name (i := 0) (show List.Nodup (["_law_one", "_law_signs"] : List Str) by decide +kernel) rfl (Or.inl rfl), pts_nil, (pe_tup (pa_cons (pv 0) (pa_cons (pe_dget hu1 (pv 1) (pv 0) (fun _ _ => rfl)) pa_nil)))⟩)) pa_nil)))))))))))), ?_⟩

  have hszl := szs_length most
  refine ⟨_, rfl, _, _, rfl, rfl, (by show 5 ≤ sizeLine; decide), fun z0 hz0 => ?_⟩
  have t1 : Same H (upd H z0 (.lst [.int (most + 1), .int 5, .int 4, .int 3, .int 3])) := same_new hz0 _
  refine ⟨_, rfl, _, rfl, _, rfl, (by show 4 ≤ sizeLine; decide), fun z1 hz1 => ?_⟩
  have t2 := t1.new hz1 (.lst [.int 80, .int 5, .int 2, .int 3])
  refine ⟨_, rfl, _, _, rfl, rfl, .inl ⟨by decide, by decide⟩, z1, _, _, rfl, rfl, upd_same, by omega, by omega, (by show 4 * (2 * most).toNat ≤ sizeLine; exact szle (by omega)), fun z2 hz2 => ?_⟩
  refine ⟨z0, z2, _, _, rfl, rfl, by rw [upd_ne (ne_of_none (by rw [upd_ne (ne_of_none upd_same hz1)]; exact upd_same) hz2), upd_ne (ne_of_none upd_same hz1)]; exact upd_same, upd_same, (by rw [len_rep]; show 5 + (2 * most).toNat * 4 ≤ sizeLine; exact szle (by omega)), fun z3 hz3 => ?_⟩
  rw [szs_map]
  have t3 := (t2.new hz2 (.lst (List.replicate (2 * most).toNat [V.int 80, V.int 5, V.int 2, V.int 3]).flatten)).new hz3 (.lst ((szs most).map V.int))
  refine ⟨a, ns, p, z3, szs most, rfl, t3.seq hS, h63, h0, h1, upd_same, by omega, szs_pos most g0 g1, fun zr zs H2 s2 hzr ezr lz hb => ?_⟩
  have sH2 : Same H H2 := t3.trans s2
  refine ⟨sz0, fun nm hnm => ?_⟩
  intro d hd
  have hnd : nm ≠ d := ne_of_none upd_same hd
  have sH3 := (sH2.new hnm (.lst ([] : List V))).new hd (.dK [])
  have hnm0 : H nm = none := sH2.free hnm
  have hd0 : H d = none := (sH2.new hnm (.lst ([] : List V))).free hd
  have hznm : zr ≠ nm := ne_of_none ezr hnm
  have hzd : zr ≠ d := ne_of_none ((same_new hnm (.lst ([] : List V))) _ _ ezr) hd
  obtain ⟨v0, e0, e0'⟩ := atM (ns := zs) (i := 0) (by decide) (by omega)
  obtain ⟨b0, b0'⟩ := hb 0 (most + 1) v0 rfl e0'
  obtain ⟨v1, e1, e1'⟩ := atM (ns := zs) (i := 1) (by decide) (by omega)
  obtain ⟨b1, b1'⟩ := hb 1 5 v1 rfl e1'
  obtain ⟨v2, e2, e2'⟩ := atM (ns := zs) (i := 2) (by decide) (by omega)
  obtain ⟨v3, e3, e3'⟩ := atM (ns := zs) (i := 3) (by decide) (by omega)
  obtain ⟨b3, b3'⟩ := hb 3 3 v3 rfl e3'
  obtain ⟨v4, e4, e4'⟩ := atM (ns := zs) (i := 4) (by decide) (by omega)
  obtain ⟨b4, b4'⟩ := hb 4 3 v4 rfl e4'
  have ezr3 : (upd (upd H2 nm (.lst ([] : List V))) d (.dK [])) zr = some (.lst (zs.map V.int)) := by rw [upd_ne hzd, upd_ne hznm]; exact ezr
  refine ⟨_, rfl, zr, _, _, _, rfl, rfl, SqL.of ezr3, e0, _, rfl, by omega, by omega, ?_⟩
  refine for_range (n := v0.toNat) (fun i σ H3 => ∃ (last : Int) (kk stp : Option V) (names : List Int) (kvs : List (Key × V)), σ = [some (.ref a), some (.int p), some (.int most), some (.ref z0), some (.ref zr), some (.ref nm), some (.ref d), some (.int last), kk, stp, none, none] ∧ Same H H3 ∧
    H3 zr = some (.lst (zs.map V.int)) ∧ H3 nm = some (.lst (names.map V.int)) ∧ H3 d = some (.dK kvs) ∧ names.length = i ∧ kvs.length ≤ i ∧ SignsOf kvs names ∧ names.Pairwise (· < ·) ∧ (∀ x ∈ names, 1 ≤ x ∧ x ≤ last) ∧ 0 ≤ last)
    ⟨0, none, none, [], [], rfl, sH3, ezr3, by rw [upd_ne hnd, upd_same]; rfl, upd_same, rfl, Nat.le_refl _, fun x hx => (by simp at hx), List.Pairwise.nil, fun x hx => (by simp at hx), Int.le_refl 0⟩ ?_ ?_
  · rintro i σ H3 hi ⟨last, kk, stp, names, kvs, rfl, s3, ez, enm, ed, ln, lk, hso, hri, hpo, hl0⟩
    have hq : 2 * i < (2 * most).toNat := by omega
    obtain ⟨v8, e8, e8'⟩ := atM (ns := zs) (i := 8 * (0 + (i : Int)) + 8) (by omega) (by omega)
    obtain ⟨b8, b8'⟩ := hb (5 + (4 * (2 * i) + 3)) 3 v8 (by rw [szs_get most (2 * i) 3 hq (by decide)]; rfl) (by rw [show 5 + (4 * (2 * i) + 3) = (8 * (0 + (i : Int)) + 8).toNat by omega]; exact e8')
    obtain ⟨v7, e7, e7'⟩ := atM (ns := zs) (i := 8 * (0 + (i : Int)) + 7) (by omega) (by omega)
    obtain ⟨b7, b7'⟩ := hb (5 + (4 * (2 * i) + 2)) 2 v7 (by rw [szs_get most (2 * i) 2 hq (by decide)]; rfl) (by rw [show 5 + (4 * (2 * i) + 2) = (8 * (0 + (i : Int)) + 7).toNat by omega]; exact e7')
    obtain ⟨f, ef, ef'⟩ := atM (ns := [0, 1, (10 : Int) ^ (58 : Int).toNat]) (i := v3) b3 b3'
    have hf0 : 0 ≤ f := f_nonneg ef'
    have hst : 0 ≤ v8 * f := Int.mul_nonneg b8 hf0
    refine ⟨_, rfl, _, rfl, _, _, rfl, rfl, .inl ⟨by decide, by decide⟩, _, _, rfl, rfl, zr, _, _, _, rfl, rfl, SqL.of ez, e8, _, _, rfl, rfl, ⟨by decide, by decide, by decide⟩, (by show 3 ≤ sizeLine; decide), fun t ht => ?_⟩
    have s4 := s3.new ht (.lst [.int 0, .int 1, .int ((10 : Int) ^ (58 : Int).toNat)])
    have ez4 := (same_new ht (.lst [.int 0, .int 1, .int ((10 : Int) ^ (58 : Int).toNat)])) _ _ ez
    have en4 := (same_new ht (.lst [.int 0, .int 1, .int ((10 : Int) ^ (58 : Int).toNat)])) _ _ enm
    have ed4 := (same_new ht (.lst [.int 0, .int 1, .int ((10 : Int) ^ (58 : Int).toNat)])) _ _ ed
    refine ⟨_, rfl, zr, _, _, _, rfl, rfl, SqL.of ez4, e3, t, _, _, _, rfl, rfl, SqL.of upd_same, ef, _, _, rfl, rfl, .inl ⟨by omega, by omega⟩, ?_⟩
    refine ⟨_, rfl, _, _, rfl, rfl, _, rfl, _, _, rfl, rfl, ?_⟩
    refine ⟨_, rfl, .inl ⟨rfl, _, SqL.of en4⟩, _, rfl, nm, _, _, rfl, rfl, en4, by rw [len_int]; exact small1000 (by omega), ?_⟩
    refine ⟨_, rfl, _, rfl, _, _, rfl, rfl, .inl ⟨by decide, by decide⟩, _, _, rfl, rfl, zr, _, _, _, rfl, rfl, SqL.of (by rw [upd_ne hznm]; exact ez4), e7, _, _, rfl, rfl, .inl ⟨by decide, by decide⟩, _, _, rfl, rfl, _, rfl, _, rfl, d, _, rfl, DPut.k (k := Sum.inl (last + 1 + v8 * f)) (by rw [upd_ne hnd.symm]; exact ed4) (small1000 (by omega)), ?_⟩
    refine ⟨_, _, _, names ++ [last + 1 + v8 * f], _, rfl, (s4.own hnm0 _).own hd0 _, by rw [upd_ne hzd, upd_ne hznm]; exact ez4, by rw [upd_ne hnd, upd_same, map_snoc], upd_same, by simp [ln], Nat.le_trans (length_putK _ _ _) (by omega), ?_, ?_, ?_, ?_⟩
    · intro x hx
      rw [valV_put]
      by_cases ex : (Sum.inl x : Key) = Sum.inl (last + 1 + v8 * f)
      · rw [if_pos ex]
        exact ⟨_, rfl, by omega⟩
      · rw [if_neg ex]
        rcases List.mem_append.mp hx with hx | hx
        · exact hso x hx
        · exact absurd (by rw [List.mem_singleton.mp hx]) ex
    · rw [List.pairwise_append]
      refine ⟨hri, List.pairwise_singleton _ _, fun x hx y hy => ?_⟩
      rw [List.mem_singleton.mp hy]
      have := (hpo x hx).2
      have := hst
      omega
    · intro x hx
      have := hst
      rcases List.mem_append.mp hx with hx | hx
      · have := hpo x hx; omega
      · rw [List.mem_singleton.mp hx]; omega
    · have := hst
      omega
  · rintro σ H3 ⟨last, kk, stp, names, kvs, rfl, s3, ez, enm, ed, ln, lk, hso, hri, hpo, hl0⟩
    have hlen : names.length ≤ 20 := by omega
    have hlen2 : 8 * names.length + 3 ≤ zs.length := by omega
    refine ⟨_, rfl, zr, _, _, _, rfl, rfl, SqL.of ez, e2, _, _, rfl, rfl, _, rfl, ?_⟩
    refine ite2 (fun c => ?_) (fun c => ?_)
    · refine ⟨_, rfl, _, rfl, nm, names, zr, zs, rfl, enm, ez, hlen, hlen2, fun mr ms H4 s4 hmr emr pm => ?_⟩
      refine ⟨_, rfl, _, rfl, _, rfl, zr, _, _, _, rfl, rfl, SqL.of (s4 _ _ ez), e4, _, _, rfl, rfl, mr, ms, d, kvs, zr, zs, _, rfl, emr, s4 _ _ ed, s4 _ _ ez, by rw [pm.length_eq]; exact hlen, by rw [pm.length_eq]; exact hlen2, by omega, by omega, fun x hx => hso x (pm.mem_iff.mp hx), fun r ads ws H5 s45 nw0 l1 l2 hpw0 => ?_⟩
      have hpw := hpw0.trans (flatMap_perm (fun x => [x, -x]) pm)
      have s5 : Same H3 H5 := s4.trans s45
      have nw : NewWs H3 H5 r ads ws := ⟨s4.free nw0.n0, nw0.la, nw0.wa, fun x hx => s4.free (nw0.fr x hx), nw0.nr⟩
      refine ⟨_, rfl, _, rfl, nm, rfl, ⟨_, SqL.of (s5 _ _ enm)⟩, ?_⟩
      refine comp_list (K := K) (a := nm) (xs := names.map V.int) (fun i ys H6 => ∃ tds : List Addr, ys = tds.map V.ref ∧ tds.length = i ∧ Same H5 H6 ∧ SgAt H6 tds ((names.map fun x => (x, sgnOf kvs x)).take i))
        ⟨[], rfl, rfl, Same.refl _, .nil⟩ (fun i ys H6 hi ⟨tds, e, lt, s6, _⟩ => ⟨SqL.of (s6 _ _ (s5 _ _ enm)), by rw [e, len_ref]; exact szle (by rw [len_int] at hi; omega)⟩) ?_ ?_
      · rintro i y ys H6 hi ⟨tds, rfl, lt, s6, sa⟩
        obtain ⟨x, rfl, hx⟩ := int_at hi
        obtain ⟨sg, e3, _⟩ := hso x (List.mem_of_getElem? hx)
        refine turn0 ?_
        refine ⟨_, rfl, _, rfl, _, rfl, d, _, rfl, dget (s6 _ _ (s5 _ _ ed)) e3, (by show 2 ≤ sizeLine; decide), fun t ht => ?_⟩
        refine ⟨tds ++ [t], by rw [ref_snoc], by simp [lt], s6.new ht _, ?_⟩
        rw [take_succ' (x := (x, sgnOf kvs x)) (by rw [List.getElem?_map, hx]; rfl)]
        refine Paired.app (sa.keep (same_new ht _)) (.cons ?_ .nil)
        rw [upd_same, sgnOf_eq e3]
      · rintro ys H6 b ⟨tds, rfl, lt, s6, sa⟩ hb
        rw [len_int] at sa
        have sa' : SgAt H6 tds (names.map fun x => (x, sgnOf kvs x)) := by
          rw [List.take_of_length_le (by rw [List.length_map]; exact Nat.le_refl _)] at sa
          exact sa
        have er6 := s6 _ _ nw.la
        have hrb : r ≠ b := ne_of_none er6 hb
        refine ⟨(by show 2 ≤ sizeLine; decide), fun tp htp => ?_⟩
        have s7 : Same H6 (upd (upd H6 b (.lst (tds.map V.ref))) tp (.tup [.ref r, .ref b])) := (same_new hb _).trans (same_new htp _)
        have s35 : Same H H5 := s3.trans s5
        refine q tp ws _ _ (s35.trans (s6.trans s7)) ⟨r, b, ads, tds, ⟨upd_same, s7 _ _ er6, by rw [upd_ne (ne_of_none upd_same htp), upd_same], (nw.wa.keep s6).keep s7, sa'.keep s7, hrb, nw.nr, (nw.wa.keep s6).fresh hb⟩, s3.free nw.n0, (s35.trans s6).free hb, fun x hx => s3.free (nw.fr x hx)⟩
          ⟨by omega, fun w hw => by have := l2 w hw; omega, by rw [List.length_map]; omega⟩ ⟨by rw [fst_map]; exact hri, fun e he => sg_pos hso hpo he, by rw [fst_map]; exact hpw⟩
    · refine ⟨_, rfl, zr, _, _, _, rfl, rfl, SqL.of ez, e1, _, rfl, nm, _, rfl, .inl (SqL.of enm), _, _, rfl, _, _, rfl, ?_⟩
      have hln := len_int names
      refine ⟨_, rfl, _, rfl, _, rfl, nm, names, zr, zs, _, rfl, enm, ez, hlen, hlen2, by split <;> omega, by split <;> (try split) <;> omega, fun hp => by split <;> (try split) <;> omega, fun r ads ws H5 s5 nw l1 l2 hpw => ?_⟩
      have l1 : ws.length ≤ 12 := by
        have : (ws.length : Int) ≤ 12 := by rw [l1]; split <;> (try split) <;> omega
        omega
      refine ⟨_, rfl, _, rfl, nm, rfl, ⟨_, SqL.of (s5 _ _ enm)⟩, ?_⟩
      refine comp_list (K := K) (a := nm) (xs := names.map V.int) (fun i ys H6 => ∃ tds : List Addr, ys = tds.map V.ref ∧ tds.length = i ∧ Same H5 H6 ∧ SgAt H6 tds ((names.map fun x => (x, sgnOf kvs x)).take i))
        ⟨[], rfl, rfl, Same.refl _, .nil⟩ (fun i ys H6 hi ⟨tds, e, lt, s6, _⟩ => ⟨SqL.of (s6 _ _ (s5 _ _ enm)), by rw [e, len_ref]; exact szle (by rw [len_int] at hi; omega)⟩) ?_ ?_
      · rintro i y ys H6 hi ⟨tds, rfl, lt, s6, sa⟩
        obtain ⟨x, rfl, hx⟩ := int_at hi
        obtain ⟨sg, e3, _⟩ := hso x (List.mem_of_getElem? hx)
        refine turn0 ?_
        refine ⟨_, rfl, _, rfl, _, rfl, d, _, rfl, dget (s6 _ _ (s5 _ _ ed)) e3, (by show 2 ≤ sizeLine; decide), fun t ht => ?_⟩
        refine ⟨tds ++ [t], by rw [ref_snoc], by simp [lt], s6.new ht _, ?_⟩
        rw [take_succ' (x := (x, sgnOf kvs x)) (by rw [List.getElem?_map, hx]; rfl)]
        refine Paired.app (sa.keep (same_new ht _)) (.cons ?_ .nil)
        rw [upd_same, sgnOf_eq e3]
      · rintro ys H6 b ⟨tds, rfl, lt, s6, sa⟩ hb
        rw [len_int] at sa
        have sa' : SgAt H6 tds (names.map fun x => (x, sgnOf kvs x)) := by
          rw [List.take_of_length_le (by rw [List.length_map]; exact Nat.le_refl _)] at sa
          exact sa
        have er6 := s6 _ _ nw.la
        have hrb : r ≠ b := ne_of_none er6 hb
        refine ⟨(by show 2 ≤ sizeLine; decide), fun tp htp => ?_⟩
        have s7 : Same H6 (upd (upd H6 b (.lst (tds.map V.ref))) tp (.tup [.ref r, .ref b])) := (same_new hb _).trans (same_new htp _)
        have s35 : Same H H5 := s3.trans s5
        refine q tp ws _ _ (s35.trans (s6.trans s7)) ⟨r, b, ads, tds, ⟨upd_same, s7 _ _ er6, by rw [upd_ne (ne_of_none upd_same htp), upd_same], (nw.wa.keep s6).keep s7, sa'.keep s7, hrb, nw.nr, (nw.wa.keep s6).fresh hb⟩, s3.free nw.n0, (s35.trans s6).free hb, fun x hx => s3.free (nw.fr x hx)⟩
          ⟨by omega, fun w hw => by have := l2 w hw; omega, by rw [List.length_map]; omega⟩ ⟨by rw [fst_map]; exact hri, fun e he => sg_pos hso hpo he, by rw [fst_map]; exact hpw⟩
theorem sc_copy : FnScope ["_law_drawing"] ["_law_drawing"] (defScope s_copy) := ⟨rfl, rfl, rfl, by decide +kernel, rfl, by decide +kernel, by decide +kernel⟩
set_option maxHeartbeats 4000000 in
theorem ok_copy (D : Def K mg "_law_copy" s_copy ["_law_drawing"])  (Z : Blt mg) : Fn P w K mg base 1 "_law_copy" ["_law_drawing"] (sp_copy K) := by
  refine fn_mk D sc_copy (fun vs H Q E h => ?_) (fun f cdv A outer s H vs Q E hr h => ?_)
  · obtain ⟨p, ws, sg, rfl, _⟩ := h; rfl
  obtain ⟨p, ws, sg, rfl, hd, hs, q⟩ := h
  have hu := hu8 hr
  have hu1 := hu_of hr
  refine ⟨_, (pss_one (ps_ret (pe_tup (pa_cons (pe_comp (defScope s_copy) ["_law_drawing"] ["_law_walk"] [] rfl (pi_list (pe_ix ix_tup (pv 0) pe_int (fun _ _ => rfl))) (gk_name (by decide)) (fun cl C s H ex E => ⟨pg_name (i := 0) (show List.Nodup (["_law_walk"] : List Str) by decide +kernel) rfl (Or.inl rfl), pts_nil, (pe_callTy (call_list_ofK K rfl) rfl Z.b_list PyProof.Rows.boot_list (pa_cons (pv 0) pa_nil))⟩)) (pa_cons (pe_callTy call_list_of rfl Z.b_list PyProof.Rows.boot_list (pa_cons (pe_ix ix_tup (pv 0) pe_int (fun _ _ => rfl)) pa_nil)) pa_nil))))), ?_⟩
  obtain ⟨a, b, ads, tds, d⟩ := id hd
  have hla := len_ref ads
  have hlw := d.wa.len
  have hls := d.sa.len
  have hsw := hs.w
  have hss := hs.s
  refine ⟨_, rfl, p, _, _, _, rfl, rfl, SqT.of d.tp, at2_0 _ _, a, rfl, ⟨_, SqL.of d.la⟩, ?_⟩
  refine comp_list (K := K) (a := a) (xs := ads.map V.ref) (fun i ys H2 => ∃ nads : List Addr, ys = nads.map V.ref ∧ nads.length = i ∧ Same H H2 ∧ WsAt H2 nads (ws.take i) ∧ (∀ x ∈ nads, H x = none))
    ⟨[], rfl, rfl, Same.refl _, .nil, by simp⟩ (fun i ys H2 hi ⟨nads, e, ln, s2, _⟩ => ⟨SqL.of (s2 _ _ d.la), by rw [e, len_ref]; exact szle (by omega)⟩) ?_ ?_
  · rintro i y ys H2 hi ⟨nads, rfl, ln, s2, wa, fr⟩
    obtain ⟨bi, rfl, hbi⟩ := ref_at hi
    obtain ⟨w, hw, ew⟩ := d.wa.get hbi
    refine turn0 ?_
    refine ⟨_, rfl, bi, _, rfl, .inl (SqL.of (s2 _ _ ew)), fun t ht => ?_⟩
    refine ⟨nads ++ [t], by rw [ref_snoc], by simp [ln], s2.new ht _, ?_, fresh_snoc fr (s2.free ht)⟩
    rw [take_succ' hw]
    exact Paired.app (wa.keep (same_new ht _)) (.cons upd_same .nil)
  · rintro ys H2 r ⟨nads, rfl, ln, s2, wa, fr⟩ hr
    rw [List.take_of_length_le (by omega)] at wa
    have s3 := s2.new hr (.lst (nads.map V.ref))
    have hr0 : H r = none := s2.free hr
    have hrn : r ∉ nads := wa.fresh hr
    have wa3 := wa.keep (same_new hr (.lst (nads.map V.ref)))
    refine ⟨_, rfl, p, _, _, _, rfl, rfl, SqT.of (s3 _ _ d.tp), at2_1 _ _, b, _, rfl, .inl (SqL.of (s3 _ _ d.lb)), fun l hl => ?_⟩
    have hrl : r ≠ l := ne_of_none upd_same hl
    refine ⟨(by show 2 ≤ sizeLine; decide), fun tp htp => ?_⟩
    have s4 := (s3.new hl (.lst (tds.map V.ref))).new htp (.tup [.ref r, .ref l])
    have s34 := (same_new hl (.lst (tds.map V.ref))).trans (same_new htp (.tup [.ref r, .ref l]))
    exact q tp _ s4 ⟨r, l, nads, tds, ⟨upd_same, s34 _ _ upd_same, (same_new htp _) _ _ upd_same, wa3.keep s34, d.sa.keep s4, hrl, hrn, wa3.fresh hl⟩, hr0, s3.free hl, fr⟩
theorem sc_is_whole : FnScope ["_law_one"] ["_law_one"] (defScope s_is_whole) := ⟨rfl, rfl, rfl, by decide +kernel, rfl, by decide +kernel, by decide +kernel⟩
set_option maxHeartbeats 4000000 in
theorem ok_is_whole (D : Def K mg "_law_is_whole" s_is_whole ["_law_one"])  (Z : Blt mg) : Fn P w K mg base 1 "_law_is_whole" ["_law_one"] (sp_is_whole K) := by
  refine fn_mk D sc_is_whole (fun vs H Q E h => ?_) (fun f cdv A outer s H vs Q E hr h => ?_)
  · obtain ⟨i, rfl, _⟩ := h; rfl
  obtain ⟨i, rfl, q⟩ := h
  have hu := hu8 hr
  have hu1 := hu_of hr
  refine ⟨_, (pss_one (ps_ret (pe_and (pe_callB call_isinst rfl Z.b_isinstance PyProof.Rows.boot_isinstance (pa_cons (pv 0) (pa_cons (pe_bltn (v := V.ty "int") rfl Z.b_int PyProof.Rows.boot_int rfl) pa_nil))) (pe_one (pe_not (pe_callB call_isinst rfl Z.b_isinstance PyProof.Rows.boot_isinstance (pa_cons (pv 0) (pa_cons (pe_bltn (v := V.ty "bool") rfl Z.b_bool PyProof.Rows.boot_bool rfl) pa_nil)))))))), ?_⟩

  refine ⟨_, rfl, _, _, _, _, rfl, .int i, kit_same K "int", _, rfl, iteT ?_⟩
  exact ⟨_, rfl, _, _, _, _, rfl, .int i, kit_int_bool K, _, rfl, q⟩
theorem sc_is_wholes : FnScope ["_law_found", "_law_one"] ["_law_found"] (defScope s_is_wholes) := ⟨rfl, rfl, rfl, by decide +kernel, rfl, by decide +kernel, by decide +kernel⟩
set_option maxHeartbeats 4000000 in
theorem ok_is_wholes (D : Def K mg "_law_is_wholes" s_is_wholes ["_law_found"]) (g_is_whole : Fn P w K mg base 1 "_law_is_whole" ["_law_one"] (sp_is_whole K)) (Z : Blt mg) : Fn P w K mg base 2 "_law_is_wholes" ["_law_found"] (sp_is_wholes K) := by
  refine fn_mk D sc_is_wholes (fun vs H Q E h => ?_) (fun f cdv A outer s H vs Q E hr h => ?_)
  · obtain ⟨a, w, rfl, _⟩ := h; rfl
  obtain ⟨a, w, rfl, ha, q⟩ := h
  have hu := hu8 hr
  have hu1 := hu_of hr
  refine ⟨_, (pss_cons (ps_if (pt_not (pt_val (pe_callB call_isinst rfl Z.b_isinstance PyProof.Rows.boot_isinstance (pa_cons (pv 0) (pa_cons (pe_bltn (v := V.ty "list") rfl Z.b_list PyProof.Rows.boot_list rfl) pa_nil)))))
      (pss_one (ps_ret pe_bl))
      pss_nil)
    (pss_cons (ps_for PassesOwn.never rfl (pi_list (pv 0)) (pg_name (i := 1) sc_is_wholes.nd rfl (Or.inl rfl))
      (pss_one (ps_if (pt_not (pt_val (pe_fn g_is_whole hr (by decide) (pa_cons (pv 1) pa_nil))))
        (pss_one (ps_ret pe_bl))
        pss_nil)))
    (pss_one (ps_ret pe_bl)))), ?_⟩

  refine ⟨_, rfl, _, _, _, _, rfl, .lst ha, kit_same K "list", _, rfl, iteF ?_⟩
  refine ⟨_, rfl, a, rfl, ⟨_, SqL.of ha⟩, ?_⟩
  refine for_list (K := K) (a := a) (xs := w.map V.int) (fun i σ H3 => H3 = H ∧ ∃ on, σ = [some (.ref a), on]) ⟨rfl, _, rfl⟩ (fun i σ H2 _ ⟨e, _⟩ => by rw [e]; exact SqL.of ha) ?_ ?_
  · rintro k y σ H3 hk ⟨rfl, on, rfl⟩
    obtain ⟨z, rfl, hz⟩ := int_at hk
    exact ⟨_, rfl, z, rfl, _, rfl, iteF ⟨rfl, _, rfl⟩⟩
  · rintro σ H3 ⟨rfl, on, rfl⟩
    exact q
theorem sc_is_drawing : FnScope ["_law_found", "_law_walk", "_law_one", "_law_entry"] ["_law_found"] (defScope s_is_drawing) := ⟨rfl, rfl, rfl, by decide +kernel, rfl, by decide +kernel, by decide +kernel⟩
set_option maxHeartbeats 4000000 in
theorem ok_is_drawing (D : Def K mg "_law_is_drawing" s_is_drawing ["_law_found"]) (g_is_whole : Fn P w K mg base 1 "_law_is_whole" ["_law_one"] (sp_is_whole K)) (Z : Blt mg) : Fn P w K mg base 2 "_law_is_drawing" ["_law_found"] (sp_is_drawing K) := by
  refine fn_mk D sc_is_drawing (fun vs H Q E h => ?_) (fun f cdv A outer s H vs Q E hr h => ?_)
  · obtain ⟨p, ws, sg, rfl, _⟩ := h; rfl
  obtain ⟨p, ws, sg, rfl, hd, q⟩ := h
  have hu := hu8 hr
  have hu1 := hu_of hr
  refine ⟨_, (pss_cons (ps_if (PW.pt (pw_or (pt_not (pt_val (pe_callB call_isinst rfl Z.b_isinstance PyProof.Rows.boot_isinstance (pa_cons (pv 0) (pa_cons (pe_bltn (v := V.ty "tuple") rfl Z.b_tuple PyProof.Rows.boot_tuple rfl) pa_nil))))) (pw_or1 (pt_cmpR op_ne (pe_callB call_len_seq rfl Z.b_len PySem.boot_len (pa_cons (pv 0) pa_nil)) pe_int (nomark _)))))
      (pss_one (ps_ret pe_bl))
      pss_nil)
    (pss_cons (ps_if (PW.pt (pw_or (pt_not (pt_val (pe_callB call_isinst rfl Z.b_isinstance PyProof.Rows.boot_isinstance (pa_cons (pe_ix ix_tup (pv 0) pe_int (fun _ _ => rfl)) (pa_cons (pe_bltn (v := V.ty "list") rfl Z.b_list PyProof.Rows.boot_list rfl) pa_nil))))) (pw_or1 (pt_not (pt_val (pe_callB call_isinst rfl Z.b_isinstance PyProof.Rows.boot_isinstance (pa_cons (pe_ix ix_tup (pv 0) pe_int (fun _ _ => rfl)) (pa_cons (pe_bltn (v := V.ty "list") rfl Z.b_list PyProof.Rows.boot_list rfl) pa_nil))))))))
      (pss_one (ps_ret pe_bl))
      pss_nil)
    (pss_cons (ps_for PassesOwn.never rfl (pi_list (pe_ix ix_tup (pv 0) pe_int (fun _ _ => rfl))) (pg_name (i := 1) sc_is_drawing.nd rfl (Or.inl rfl))
      (pss_cons (ps_if (pt_not (pt_val (pe_callB call_isinst rfl Z.b_isinstance PyProof.Rows.boot_isinstance (pa_cons (pv 1) (pa_cons (pe_bltn (v := V.ty "list") rfl Z.b_list PyProof.Rows.boot_list rfl) pa_nil)))))
        (pss_one (ps_ret pe_bl))
        pss_nil)
      (pss_one (ps_for PassesOwn.never rfl (pi_list (pv 1)) (pg_name (i := 2) sc_is_drawing.nd rfl (Or.inl rfl))
        (pss_one (ps_if (pt_not (pt_val (pe_fn g_is_whole hr (by decide) (pa_cons (pv 2) pa_nil))))
          (pss_one (ps_ret pe_bl))
          pss_nil))))))
    (pss_cons (ps_for PassesOwn.never rfl (pi_list (pe_ix ix_tup (pv 0) pe_int (fun _ _ => rfl))) (pg_name (i := 3) sc_is_drawing.nd rfl (Or.inl rfl))
      (pss_cons (ps_if (PW.pt (pw_or (pt_not (pt_val (pe_callB call_isinst rfl Z.b_isinstance PyProof.Rows.boot_isinstance (pa_cons (pv 3) (pa_cons (pe_bltn (v := V.ty "tuple") rfl Z.b_tuple PyProof.Rows.boot_tuple rfl) pa_nil))))) (pw_or1 (pt_cmpR op_ne (pe_callB call_len_seq rfl Z.b_len PySem.boot_len (pa_cons (pv 3) pa_nil)) pe_int (nomark _)))))
        (pss_one (ps_ret pe_bl))
        pss_nil)
      (pss_one (ps_if (PW.pt (pw_or (pt_not (pt_val (pe_fn g_is_whole hr (by decide) (pa_cons (pe_ix ix_tup (pv 3) pe_int (fun _ _ => rfl)) pa_nil)))) (pw_or1 (pt_not (pt_val (pe_fn g_is_whole hr (by decide) (pa_cons (pe_ix ix_tup (pv 3) pe_int (fun _ _ => rfl)) pa_nil)))))))
        (pss_one (ps_ret pe_bl))
        pss_nil))))
    (pss_one (ps_ret pe_bl)))))), ?_⟩

  obtain ⟨a, b, ads, tds, d⟩ := id hd
  refine ⟨_, rfl, _, _, _, _, rfl, .tup d.tp, kit_same K "tuple", _, rfl, iteF ?_⟩
  refine ⟨_, rfl, p, _, rfl, .inr (SqT.of d.tp), rfl, _, rfl, iteNS rfl ?_⟩
  refine ⟨_, rfl, p, _, _, _, rfl, rfl, SqT.of d.tp, at2_0 _ _, _, _, _, _, rfl, .lst d.la, kit_same K "list", _, rfl, iteF ?_⟩
  refine ⟨_, rfl, p, _, _, _, rfl, rfl, SqT.of d.tp, at2_1 _ _, _, _, _, _, rfl, .lst d.lb, kit_same K "list", _, rfl, iteF ?_⟩
  refine ⟨_, rfl, p, _, _, _, rfl, rfl, SqT.of d.tp, at2_0 _ _, a, rfl, ⟨_, SqL.of d.la⟩, ?_⟩
  refine for_list (K := K) (a := a) (xs := ads.map V.ref) (fun i σ H2 => H2 = H ∧ ∃ wk on, σ = [some (.ref p), wk, on, none]) ⟨rfl, _, _, rfl⟩ (fun i σ H2 _ ⟨e, _⟩ => by rw [e]; exact SqL.of d.la) ?_ ?_
  · rintro i y σ H2 hi ⟨rfl, wk, on, rfl⟩
    obtain ⟨bi, rfl, hbi⟩ := ref_at hi
    obtain ⟨w, hw, ew⟩ := d.wa.get hbi
    refine ⟨_, rfl, _, _, _, _, rfl, .lst ew, kit_same K "list", _, rfl, iteF ?_⟩
    refine ⟨_, rfl, bi, rfl, ⟨_, SqL.of ew⟩, ?_⟩
    refine for_list (K := K) (a := bi) (xs := w.map V.int) (fun i σ H3 => H3 = H2 ∧ ∃ wk on, σ = [some (.ref p), wk, on, none]) ⟨rfl, _, _, rfl⟩ (fun i σ H2 _ ⟨e, _⟩ => by rw [e]; exact SqL.of ew) ?_ ?_
    · rintro k y σ H3 hk ⟨rfl, wk, on, rfl⟩
      obtain ⟨z, rfl, hz⟩ := int_at hk
      refine ⟨_, rfl, z, rfl, _, rfl, iteF ?_⟩
      exact ⟨rfl, _, _, rfl⟩
    · rintro σ H3 ⟨rfl, wk, on, rfl⟩
      exact ⟨rfl, _, _, rfl⟩
  · rintro σ H2 ⟨rfl, wk, on, rfl⟩
    refine ⟨_, rfl, p, _, _, _, rfl, rfl, SqT.of d.tp, at2_1 _ _, b, rfl, ⟨_, SqL.of d.lb⟩, ?_⟩
    refine for_list (K := K) (a := b) (xs := tds.map V.ref) (fun i σ H3 => H3 = H2 ∧ ∃ en, σ = [some (.ref p), wk, on, en]) ⟨rfl, _, rfl⟩ (fun i σ H2 _ ⟨e, _⟩ => by rw [e]; exact SqL.of d.lb) ?_ ?_
    · rintro i y σ H3 hi ⟨rfl, en, rfl⟩
      obtain ⟨ti, rfl, hti⟩ := ref_at hi
      obtain ⟨e, he, et⟩ := d.sa.get hti
      refine ⟨_, rfl, _, _, _, _, rfl, .tup et, kit_same K "tuple", _, rfl, iteF ?_⟩
      refine ⟨_, rfl, ti, _, rfl, .inr (SqT.of et), rfl, _, rfl, iteNS rfl ?_⟩
      refine ⟨_, rfl, ti, _, _, _, rfl, rfl, SqT.of et, at2_0 _ _, e.1, rfl, _, rfl, iteF ?_⟩
      refine ⟨_, rfl, ti, _, _, _, rfl, rfl, SqT.of et, at2_1 _ _, e.2, rfl, _, rfl, iteF ?_⟩
      exact ⟨rfl, _, rfl⟩
    · rintro σ H3 ⟨rfl, en, rfl⟩
      exact q
theorem sc_rows : FnScope ["_law_drawing", "_law_rows_here", "_law_k"] ["_law_drawing"] (defScope s_rows) := ⟨rfl, rfl, rfl, by decide +kernel, rfl, by decide +kernel, by decide +kernel⟩
set_option maxHeartbeats 4000000 in
theorem ok_rows (D : Def K mg "_law_rows" s_rows ["_law_drawing"]) (g_arcs : Fn P w K mg base 3 "arcs" ["drawing"] (sp_arcs K)) (g_copy : Fn P w K mg base 1 "_law_copy" ["_law_drawing"] (sp_copy K)) (g_is_wholes : Fn P w K mg base 2 "_law_is_wholes" ["_law_found"] (sp_is_wholes K)) (Z : Blt mg) : Fn P w K mg base 4 "_law_rows" ["_law_drawing"] (sp_rows K) := by
  refine fn_mk D sc_rows (fun vs H Q E h => ?_) (fun f cdv A outer s H vs Q E hr h => ?_)
  · obtain ⟨p, ws, sg, rfl, _⟩ := h; rfl
  obtain ⟨p, ws, sg, rfl, hd, hs, q⟩ := h
  have hu := hu8 hr
  have hu1 := hu_of hr
  refine ⟨_, (pss_cons (ps_set (i := 1) sc_rows.nd rfl (Or.inl rfl) (pe_fn g_arcs hr (by decide) (pa_cons (pe_fn g_copy hr (by decide) (pa_cons (pv 0) pa_nil)) pa_nil)))
    (pss_cons (ps_if (PW.pt (pw_or (pt_not (pt_val (pe_callB call_isinst rfl Z.b_isinstance PyProof.Rows.boot_isinstance (pa_cons (pv 1) (pa_cons (pe_bltn (v := V.ty "list") rfl Z.b_list PyProof.Rows.boot_list rfl) pa_nil))))) (pw_or1 (pt_cmpR op_ne (pe_callB call_len_seq rfl Z.b_len PySem.boot_len (pa_cons (pv 1) pa_nil)) (pe_callB call_len_seq rfl Z.b_len PySem.boot_len (pa_cons (pe_ix ix_tup (pv 0) pe_int (fun _ _ => rfl)) pa_nil)) (nomark _)))))
      (pss_one (ps_ret pe_non))
      pss_nil)
    (pss_cons (ps_for PassesOwn.never rfl (pi_range1 rfl Z.b_range (pa_cons (pe_callB call_len_seq rfl Z.b_len PySem.boot_len (pa_cons (pv 1) pa_nil)) pa_nil)) (pg_name (i := 2) sc_rows.nd rfl (Or.inl rfl))
      (pss_cons (ps_if (pt_not (pt_val (pe_fn g_is_wholes hr (by decide) (pa_cons (pe_ix ix_list (pv 1) (pv 2) (fun _ _ => rfl)) pa_nil))))
        (pss_one (ps_ret pe_non))
        pss_nil)
      (pss_one (ps_if (pt_cmpR op_ne (pe_callB call_len_seq rfl Z.b_len PySem.boot_len (pa_cons (pe_ix ix_list (pv 1) (pv 2) (fun _ _ => rfl)) pa_nil)) (pe_callB (call_max2 rfl) rfl Z.b_max PyProof.Rows.boot_max (pa_cons pe_int (pa_cons (pe_callB call_len_seq rfl Z.b_len PySem.boot_len (pa_cons (pe_ix ix_list (pe_ix ix_tup (pv 0) pe_int (fun _ _ => rfl)) (pv 2) (fun _ _ => rfl)) pa_nil)) pa_nil))) (nomark _))
        (pss_one (ps_ret pe_non))
        pss_nil))))
    (pss_one (ps_ret (pv 1)))))), ?_⟩

  obtain ⟨a, b, ads, tds, d⟩ := id hd
  have hla := len_ref ads
  have hlw := d.wa.len
  have hsw := hs.w
  refine ⟨_, rfl, p, ws, sg, rfl, hd, hs, fun cp H1 s1 nd1 => ?_⟩
  refine ⟨cp, ws, sg, rfl, nd1.is, hs, fun r nads H2 s2 nw => ?_⟩
  have c2 := s1.trans s2
  have hln := nw.wa.len
  rw [arcsOf_length] at hln
  have hnr := len_ref nads
  refine ⟨_, rfl, _, _, _, _, rfl, .lst nw.la, kit_same K "list", _, rfl, iteF ?_⟩
  refine ⟨_, rfl, r, _, rfl, .inl (SqL.of nw.la), _, rfl, p, _, _, _, rfl, rfl, SqT.of (c2 _ _ d.tp), at2_0 _ _, a, _, rfl, .inl (SqL.of (c2 _ _ d.la)), rfl, _, rfl, iteNS (by rw [len_ref, len_ref, hln, hlw]) ?_⟩
  refine ⟨_, rfl, r, _, rfl, .inl (SqL.of nw.la), _, rfl, by omega, by omega, ?_⟩
  refine for_range (n := ((nads.map V.ref).length : Int).toNat) (fun i σ H3 => H3 = H2 ∧ ∃ kk : Option V, σ = [some (.ref p), some (.ref r), kk]) ⟨rfl, none, rfl⟩ ?_ ?_
  · rintro i σ H3 hi ⟨rfl, kk, rfl⟩
    have hi' : i < nads.length := by omega
    obtain ⟨bi, hbi⟩ : ∃ bi, nads[i]? = some bi := ⟨_, List.getElem?_eq_getElem hi'⟩
    obtain ⟨w, hw⟩ : ∃ w, ws[i]? = some w := ⟨_, List.getElem?_eq_getElem (by omega)⟩
    obtain ⟨ai, hai, ew⟩ := Paired.getR d.wa hw
    obtain ⟨row, hrow, erow⟩ := nw.wa.get hbi
    rw [arcsOf_get hw 0] at hrow
    cases hrow
    refine ⟨_, rfl, _, rfl, r, _, _, _, rfl, rfl, SqL.of nw.la, at_ref hbi (by omega), bi, _, rfl, erow, _, rfl, iteF ?_⟩
    refine ⟨_, rfl, _, rfl, r, _, _, _, rfl, rfl, SqL.of nw.la, at_ref hbi (by omega), bi, _, rfl, .inl (SqL.of erow), _, rfl, p, _, _, _, rfl, rfl, SqT.of (c2 _ _ d.tp), at2_0 _ _, _, rfl, a, _, _, _, rfl, rfl, SqL.of (c2 _ _ d.la), at_ref hai (by omega), ai, _, rfl, .inl (SqL.of (c2 _ _ ew)), _, _, rfl, rfl, _, rfl, iteNS (by rw [len_int, len_int, waysOf_length, max1']) ?_⟩
    exact ⟨rfl, _, rfl⟩
  · rintro σ H3 ⟨rfl, kk, rfl⟩
    exact ⟨_, rfl, q r nads H3 c2 nw.ls⟩
theorem sc_carries : FnScope ["_law_old", "_law_new", "_law_pairs_here", "_law_there", "_law_back_there", "_law_one", "_law_other", "_law_first", "_law_second"] ["_law_old", "_law_new", "_law_pairs_here"] (defScope s_carries) := ⟨rfl, rfl, rfl, by decide +kernel, rfl, by decide +kernel, by decide +kernel⟩
set_option maxHeartbeats 4000000 in
theorem ok_carries (D : Def K mg "_law_carries" s_carries ["_law_old", "_law_new", "_law_pairs_here"])  (Z : Blt mg) : Fn P w K mg base 1 "_law_carries" ["_law_old", "_law_new", "_law_pairs_here"] (sp_carries K) := by
  refine fn_mk D sc_carries (fun vs H Q E h => ?_) (fun f cdv A outer s H vs Q E hr h => ?_)
  · obtain ⟨ro, rn, rp, oads, nads, pads, old, new, prs, rfl, _⟩ := h; rfl
  obtain ⟨ro, rn, rp, oads, nads, pads, old, new, prs, rfl, hO, hN, hP, hpa, hlen, R, hfn, hin, hpr, q⟩ := h
  have hu := hu8 hr
  have hu1 := hu_of hr
  refine ⟨_, (pss_cons (ps_set (i := 3) sc_carries.nd rfl (Or.inl rfl) pe_dnewK)
    (pss_cons (ps_set (i := 4) sc_carries.nd rfl (Or.inl rfl) pe_dnewK)
    (pss_cons (ps_for PassesOwn.never rfl (pi_list (pv 2)) (pg_tup rfl (pgs_cons (pg_name (i := 5) sc_carries.nd rfl (Or.inl rfl)) (pgs_cons (pg_name (i := 6) sc_carries.nd rfl (Or.inl rfl)) pgs_nil)))
      (pss_cons (ps_set (i := 7) sc_carries.nd rfl (Or.inl rfl) (pe_ix ix_list (pe_ix ix_list (pv 0) (pe_ix ix_tup (pv 5) pe_int (fun _ _ => rfl)) (fun _ _ => rfl)) (pe_ix ix_tup (pv 5) pe_int (fun _ _ => rfl)) (fun _ _ => rfl)))
      (pss_cons (ps_set (i := 8) sc_carries.nd rfl (Or.inl rfl) (pe_ix ix_list (pe_ix ix_list (pv 1) (pe_ix ix_tup (pv 6) pe_int (fun _ _ => rfl)) (fun _ _ => rfl)) (pe_ix ix_tup (pv 6) pe_int (fun _ _ => rfl)) (fun _ _ => rfl)))
      (pss_cons (ps_if (pt_cmpR op_ne (pe_dsetd (pv 3) (pv 7) (pv 8) ⟨rfl, rfl, rfl, rfl⟩) (pv 8) (nomark _))
        (pss_one (ps_ret pe_non))
        pss_nil)
      (pss_one (ps_if (pt_cmpR op_ne (pe_dsetd (pv 4) (pv 8) (pv 7) ⟨rfl, rfl, rfl, rfl⟩) (pv 7) (nomark _))
        (pss_one (ps_ret pe_non))
        pss_nil))))))
    (pss_one (ps_ret (pv 3)))))), ?_⟩

  have hlp := len_ref pads
  have hl2 := Paired.len hpa
  intro dd hdd
  intro bb hbb
  have hbd : bb ≠ dd := fun e => by rw [e, upd_same] at hbb; cases hbb
  have s1 := same_new hdd (.dK [])
  have hbb0 : H bb = none := s1.free hbb
  have s0 := s1.new hbb (.dK [])
  refine ⟨_, rfl, rp, rfl, ⟨_, SqL.of (s0 _ _ hP)⟩, ?_⟩
  refine for_list (K := K) (a := rp) (xs := pads.map V.ref) (fun i σ H2 => ∃ (on ot fi se : Option V) (es : List (Int × Int)), σ = [some (.ref ro), some (.ref rn), some (.ref rp), some (.ref dd), some (.ref bb), on, ot, fi, se] ∧ Same H H2 ∧ H2 dd = some (.dK (dOf es)) ∧ H2 bb = some (.dK (dBk es)) ∧ es.length ≤ i ∧ (es.map (·.1)).Nodup ∧ (∀ e ∈ es, R e.1 e.2) ∧ (∀ (j : Nat) q, j < i → prs[j]? = some q → ∀ x, ValAt old q.1 x → ∃ y, (x, y) ∈ es))
    ⟨none, none, none, none, [], rfl, s0, by rw [upd_ne hbd.symm, upd_same]; rfl, by rw [upd_same]; rfl, Nat.le_refl _, List.nodup_nil, by simp, fun j q h => by omega⟩ (fun i σ H2 _ ⟨_, _, _, _, _, _, s2, _⟩ => SqL.of (s2 _ _ hP)) ?_ ?_
  · rintro i y σ H2 hi ⟨on, ot, fi, se, es, rfl, s2, ed, eb, hle, nd, hRe, cov⟩
    obtain ⟨ti, rfl, hti⟩ := ref_at hi
    have hil := (List.getElem?_eq_some_iff.mp hti).1
    obtain ⟨pr, hpr1, t1, t2, et, e1, e2⟩ := Paired.getL hpa hti
    obtain ⟨x, y, vx, vy, hR⟩ := hpr pr (List.mem_of_getElem? hpr1)
    obtain ⟨i1, k1, r1, p1, h1, g1⟩ := id vx
    obtain ⟨i2, k2, r2, p2, h2, g2⟩ := id vy
    obtain ⟨b1, hb1, eb1⟩ := Paired.getR hO.wa h1
    obtain ⟨b2, hb2, eb2⟩ := Paired.getR hN.wa h2
    have e1' : H2 t1 = some (.tup [.int (i1 : Int), .int (k1 : Int)]) := by rw [s2 _ _ e1, p1]
    have e2' : H2 t2 = some (.tup [.int (i2 : Int), .int (k2 : Int)]) := by rw [s2 _ _ e2, p2]
    refine ⟨ti, _, rfl, SqT.of (s2 _ _ et), rfl, _, _, rfl, _, _, rfl, rfl, ?_⟩
    refine ⟨_, rfl, _, rfl, t1, _, _, _, rfl, rfl, SqT.of e1', at2_0 _ _, ro, _, _, _, rfl, rfl, SqL.of (s2 _ _ hO.la), at_ref hb1 rfl, _, rfl, t1, _, _, _, rfl, rfl, SqT.of e1', at2_1 _ _, b1, _, _, _, rfl, rfl, SqL.of (s2 _ _ eb1), at_of g1 rfl, ?_⟩
    refine ⟨_, rfl, _, rfl, t2, _, _, _, rfl, rfl, SqT.of e2', at2_0 _ _, rn, _, _, _, rfl, rfl, SqL.of (s2 _ _ hN.la), at_ref hb2 rfl, _, rfl, t2, _, _, _, rfl, rfl, SqT.of e2', at2_1 _ _, b2, _, _, _, rfl, rfl, SqL.of (s2 _ _ eb2), at_of g2 rfl, ?_⟩
    have cov2 : ∀ es' : List (Int × Int), (∀ e ∈ es, e ∈ es') → (x, y) ∈ es' → ∀ (j : Nat) q, j < i + 1 → prs[j]? = some q → ∀ x, ValAt old q.1 x → ∃ y, (x, y) ∈ es' := fun es' hs hm j q hj hq x' hx' => by
      by_cases e : j = i
      · subst e
        rw [hpr1] at hq; cases hq
        rw [hx'.uniq vx]
        exact ⟨y, hm⟩
      · obtain ⟨y', hy'⟩ := cov j q (by omega) hq x' hx'
        exact ⟨y', hs _ hy'⟩
    refine ⟨_, rfl, dd, rfl, .inl ⟨_, Rd.of ed⟩, _, rfl, _, rfl, dOf es, Sum.inl x, ed, rfl, by rw [dOf_len]; exact small30 (by omega), fun v hv => ?_, fun hn => ?_⟩
    · obtain ⟨y', hm, rfl⟩ := dOf_some hv
      have ey : y' = y := hfn _ _ _ (hRe _ hm) hR
      subst ey
      refine ⟨_, rfl, rfl, _, rfl, iteNS rfl ?_⟩
      refine ⟨_, rfl, bb, rfl, .inl ⟨_, Rd.of eb⟩, _, rfl, _, rfl, dBk es, Sum.inl y', eb, rfl, by rw [dBk_len]; exact small30 (by omega), fun v hv2 => ?_, fun hn2 => absurd hm (dBk_none hn2 x)⟩
      obtain ⟨x', hm2, rfl⟩ := dBk_some hv2
      have ex : x' = x := hin _ _ _ (hRe _ hm2) hR
      subst ex
      refine ⟨_, rfl, rfl, _, rfl, iteNS rfl ?_⟩
      exact ⟨_, _, _, _, es, rfl, s2, ed, eb, by omega, nd, hRe, cov2 es (fun _ z => z) hm⟩
    · rw [putK_new _ hn]
      refine ⟨_, rfl, rfl, _, rfl, iteNS rfl ?_⟩
      have eb' : (upd H2 dd (.dK (dOf es ++ [((Sum.inl x : Key), V.int y)]))) bb = some (.dK (dBk es)) := by rw [upd_ne hbd]; exact eb
      refine ⟨_, rfl, bb, rfl, .inl ⟨_, Rd.of eb'⟩, _, rfl, _, rfl, dBk es, Sum.inl y, eb', rfl, by rw [dBk_len]; exact small30 (by omega), fun v hv2 => ?_, fun hn2 => ?_⟩
      · obtain ⟨x', hm2, rfl⟩ := dBk_some hv2
        have ex : x' = x := hin _ _ _ (hRe _ hm2) hR
        subst ex
        exact absurd hm2 (dOf_none hn y)
      · rw [putK_new _ hn2]
        refine ⟨_, rfl, rfl, _, rfl, iteNS rfl ?_⟩
        refine ⟨_, _, _, _, es ++ [(x, y)], rfl, (s2.own hdd _).own hbb0 _, by rw [upd_ne hbd.symm, upd_same, dOf_snoc], by rw [upd_same, dBk_snoc], by rw [List.length_append]; simp; omega, ?_, fun e he => ?_, cov2 _ (fun e he => List.mem_append_left _ he) (List.mem_append_right _ (List.mem_singleton.mpr rfl))⟩
        · rw [List.map_append]
          refine nodup_snoc nd fun m => ?_
          obtain ⟨e, he, ee⟩ := List.mem_map.mp m
          have ee' : e.1 = x := ee
          exact dOf_none hn e.2 (by rw [← ee']; exact he)
        · rcases List.mem_append.mp he with h | h
          · exact hRe e h
          · rw [List.mem_singleton.mp h]; exact hR
  · rintro σ H2 ⟨on, ot, fi, se, es, rfl, s2, ed, eb, hle, nd, hRe, cov⟩
    refine ⟨_, rfl, q dd es H2 s2 ed nd hRe fun pr hp x hx => ?_⟩
    obtain ⟨j, hj⟩ := List.mem_iff_getElem?.mp hp
    have := (List.getElem?_eq_some_iff.mp hj).1
    exact cov j pr (by omega) hj x hx
theorem sc_met : FnScope ["_law_drawing", "_law_new", "_law_there", "_law_swaps", "_law_found", "_law_due", "_law_crossing", "_law_sign", "_law_over", "_law_inward", "_law_outward", "_law_one", "_law_other"] ["_law_drawing", "_law_new", "_law_there", "_law_swaps"] (defScope s_met) := ⟨rfl, rfl, rfl, by decide +kernel, rfl, by decide +kernel, by decide +kernel⟩
set_option maxHeartbeats 4000000 in
theorem ok_met (D : Def K mg "_law_met" s_met ["_law_drawing", "_law_new", "_law_there", "_law_swaps"]) (g_meets : Fn P w K mg base 4 "meets" ["drawing"] (sp_meets K)) (g_copy : Fn P w K mg base 1 "_law_copy" ["_law_drawing"] (sp_copy K)) (Z : Blt mg) : Fn P w K mg base 5 "_law_met" ["_law_drawing", "_law_new", "_law_there", "_law_swaps"] (sp_met K) := by
  refine fn_mk D sc_met (fun vs H Q E h => ?_) (fun f cdv A outer s H vs Q E hr h => ?_)
  · obtain ⟨p, n, d, ws, ws2, sg, es, sw, rfl, _⟩ := h; rfl
  obtain ⟨p, n, d, ws, ws2, sg, es, sw, rfl, hd, hdn, hs, hsn, hg, hgn, ed, hmv, q⟩ := h
  have hu := hu8 hr
  have hu1 := hu_of hr
  refine ⟨_, (pss_cons (ps_set (i := 4) sc_met.nd rfl (Or.inl rfl) (pe_fn g_meets hr (by decide) (pa_cons (pe_fn g_copy hr (by decide) (pa_cons (pv 1) pa_nil)) pa_nil)))
    (pss_cons (ps_set (i := 5) sc_met.nd rfl (Or.inl rfl) (pe_lst pa_nil))
    (pss_cons (ps_for PassesOwn.never rfl (pi_list (pe_fn g_meets hr (by decide) (pa_cons (pe_fn g_copy hr (by decide) (pa_cons (pv 0) pa_nil)) pa_nil))) (pg_tup rfl (pgs_cons (pg_name (i := 6) sc_met.nd rfl (Or.inl rfl)) (pgs_cons (pg_name (i := 7) sc_met.nd rfl (Or.inl rfl)) (pgs_cons (pg_name (i := 8) sc_met.nd rfl (Or.inl rfl)) (pgs_cons (pg_name (i := 9) sc_met.nd rfl (Or.inl rfl)) (pgs_cons (pg_name (i := 10) sc_met.nd rfl (Or.inl rfl)) pgs_nil))))))
      (pss_cons (ps_par (i := 11) (j := 12) rfl sc_met.nd rfl rfl (by decide) rfl rfl (pa_cons (pe_dget hu1 (pv 2) (pv 9) (fun _ _ => rfl)) (pa_cons (pe_dget hu1 (pv 2) (pv 10) (fun _ _ => rfl)) pa_nil)) rfl)
      (pss_cons (ps_if (pt_val (pv 3))
        (pss_one (ps_par (i := 11) (j := 12) rfl sc_met.nd rfl rfl (by decide) rfl rfl (pa_cons (pv 12) (pa_cons (pv 11) pa_nil)) rfl))
        pss_nil)
      (pss_one (ps_expr (pe_bm PySem.F.plainAttrs_list PySem.F.slot_list_append PySem.F.type_list_append mt_append (pv 5) (pa_cons (pe_tup (pa_cons (pv 6) (pa_cons (pv 7) (pa_cons (pe_dget hu1 (pv 2) (pv 8) (fun _ _ => rfl)) (pa_cons (pv 11) (pa_cons (pv 12) pa_nil)))))) pa_nil)))))))
    (pss_one (ps_ret (pe_cmpR (op_eqE (eq_list (eq_tupL eq_int)) (le_hu (by decide) hu)) (pv 4) (pv 5) (nomark _))))))), ?_⟩

  refine ⟨_, rfl, n, ws2, sg, rfl, hdn, hsn, fun c1 H1 s1 nd1 => ?_⟩
  refine ⟨c1, ws2, sg, rfl, nd1.is, hsn, hgn, fun f tds1 ms1 H2 s2 hf tl1 pm1 => ?_⟩
  have c2 := s1.trans s2
  refine ⟨sz0, fun r hr => ?_⟩
  have s3 := same_new hr (.lst ([] : List V))
  have c3 := c2.trans s3
  refine ⟨_, rfl, p, ws, sg, rfl, hd.keep c3, hs, fun cc H4 s4 nd4 => ?_⟩
  refine ⟨cc, ws, sg, rfl, nd4.is, hs, hg, fun g tds2 ms2 H5 s5 hg5 tl2 pm2 => ?_⟩
  have er4 := s4 _ _ (upd_same (H := H2) (a := r) (o := .lst ([] : List V)))
  have er5 := s5 _ _ er4
  have hgr : g ≠ r := fun e => by rw [e, er4] at hg5; cases hg5
  have hfr : f ≠ r := ne_of_none tl1.la hr
  have hdr : d ≠ r := ne_of_none (c2 _ _ ed) hr
  have c35 := s3.trans (s4.trans s5)
  have hlt := len_ref tds2
  have hl1 := Paired.len tl2.ta
  have hl2 := Paired.len pm2
  have hss := hs.s
  refine ⟨g, rfl, ⟨_, SqL.of tl2.la⟩, ?_⟩
  refine for_list (K := K) (a := g) (xs := tds2.map V.ref) (fun i σ H6 => ∃ (x1 x2 x3 x4 x5 x6 x7 : Option V) (ts : List Addr) (ms : List (List Int)), σ = [some (.ref p), some (.ref n), some (.ref d), some (.bl sw), some (.ref f), some (.ref r), x1, x2, x3, x4, x5, x6, x7] ∧ (∀ b o, b ≠ r → H5 b = some o → H6 b = some o) ∧ H6 r = some (.lst (ts.map V.ref)) ∧ TsAt H6 ts ms ∧ Paired (MeetIs ws2) (sg.take i) ms)
    ⟨none, none, none, none, none, none, none, [], [], rfl, fun _ _ _ e => e, er5, .nil, .nil⟩ (fun i σ H6 _ ⟨_, _, _, _, _, _, _, _, _, _, s6, _⟩ => SqL.of (s6 _ _ hgr tl2.la)) ?_ ?_
  · rintro i y σ H6 hi ⟨x1, x2, x3, x4, x5, x6, x7, ts, ms, rfl, s6, er6, ta, pm⟩
    obtain ⟨ti, rfl, hti⟩ := ref_at hi
    have hil := (List.getElem?_eq_some_iff.mp hti).1
    obtain ⟨m, hm, em⟩ := Paired.getL tl2.ta hti
    obtain ⟨e, he, hmt⟩ := Paired.getR pm2 hm
    obtain ⟨o, a, b, o', a', b', rfl, v1, v2, v3, hmt'⟩ := hmv e (List.mem_of_getElem? he) m hmt
    have hlm := Paired.len pm
    have hlt2 := Paired.len ta
    rw [List.length_take] at hlm
    have ed6 : H6 d = some (.dK (dOf es)) := s6 _ _ hdr (c35 _ _ (c2 _ _ ed))
    have em6 := s6 _ _ (fun z => by rw [z, er5] at em; cases em) em
    refine ⟨ti, _, rfl, SqT.of em6, rfl, _, _, rfl, _, _, rfl, _, _, rfl, _, _, rfl, _, _, rfl, rfl, ?_⟩
    refine ⟨_, rfl, _, rfl, d, _, rfl, dget ed6 v2, _, rfl, _, rfl, d, _, rfl, dget ed6 v3, _, _, rfl, ?_⟩
    have fin : ∀ (x1 x2 x3 x4 x5 x6 x7 : Option V) (c1 c2 : Int) (t : Addr), H6 t = none → MeetIs ws2 e [e.1, e.2, o', c1, c2] → ∃ (y1 y2 y3 y4 y5 y6 y7 : Option V) (ts2 : List Addr) (ms2 : List (List Int)), [some (.ref p), some (.ref n), some (.ref d), some (.bl sw), some (.ref f), some (.ref r), x1, x2, x3, x4, x5, x6, x7] = [some (.ref p), some (.ref n), some (.ref d), some (.bl sw), some (.ref f), some (.ref r), y1, y2, y3, y4, y5, y6, y7] ∧ (∀ b o, b ≠ r → H5 b = some o → (upd (upd H6 t (.tup [.int e.1, .int e.2, .int o', .int c1, .int c2])) r (.lst (ts.map V.ref ++ [.ref t]))) b = some o) ∧ (upd (upd H6 t (.tup [.int e.1, .int e.2, .int o', .int c1, .int c2])) r (.lst (ts.map V.ref ++ [.ref t]))) r = some (.lst (ts2.map V.ref)) ∧ TsAt (upd (upd H6 t (.tup [.int e.1, .int e.2, .int o', .int c1, .int c2])) r (.lst (ts.map V.ref ++ [.ref t]))) ts2 ms2 ∧ Paired (MeetIs ws2) (sg.take (i + 1)) ms2 := fun x1 x2 x3 x4 x5 x6 x7 c1 c2 t ht hmm => by
      have htr : t ≠ r := fun z => by rw [z, er6] at ht; cases ht
      refine ⟨x1, x2, x3, x4, x5, x6, x7, ts ++ [t], ms ++ [[e.1, e.2, o', c1, c2]], rfl, fun b o hb eb => ?_, by rw [upd_same, ref_snoc], ?_, ?_⟩
      · rw [upd_ne hb]
        exact (same_new ht _) _ _ (s6 _ _ hb eb)
      · refine TsAt.upd ((same_new ht _) _ _ er6) (Paired.app (ta.keep (same_new ht _)) (.cons upd_same .nil))
      · rw [take_succ' he]
        exact Paired.app pm (.cons hmm .nil)
    refine ⟨_, rfl, _, rfl, ?_⟩
    cases sw with
    | true =>
      refine iteT ?_
      refine ⟨_, rfl, _, rfl, _, _, rfl, ?_⟩
      refine ⟨_, rfl, .inl ⟨rfl, _, SqL.of er6⟩, _, rfl, _, rfl, _, rfl, _, rfl, d, _, rfl, dget ed6 v1, _, rfl, _, rfl, (by show 5 ≤ sizeLine; decide), fun t ht => ?_⟩
      refine ⟨r, _, _, rfl, rfl, (same_new ht _) _ _ er6, by rw [len_ref]; exact small1000 (by omega), ?_⟩
      exact fin _ _ _ _ _ _ _ _ _ t ht (by simpa using hmt')
    | false =>
      refine iteF ?_
      refine ⟨_, rfl, .inl ⟨rfl, _, SqL.of er6⟩, _, rfl, _, rfl, _, rfl, _, rfl, d, _, rfl, dget ed6 v1, _, rfl, _, rfl, (by show 5 ≤ sizeLine; decide), fun t ht => ?_⟩
      refine ⟨r, _, _, rfl, rfl, (same_new ht _) _ _ er6, by rw [len_ref]; exact small1000 (by omega), ?_⟩
      exact fin _ _ _ _ _ _ _ _ _ t ht (by simpa using hmt')
  · rintro σ H6 ⟨x1, x2, x3, x4, x5, x6, x7, ts, ms, rfl, s6, er6, ta, pm⟩
    rw [List.take_of_length_le (by omega)] at pm
    cases meets_uniq pm1 pm
    have tl6 : TlAt H6 f tds1 ms1 := ⟨s6 _ _ hfr (c35 _ _ tl1.la), Paired.imp2 (fun t v e => s6 _ _ (ne_of_none e hr) (c35 _ _ e)) tl1.ta⟩
    refine ⟨_, rfl, _, rfl, ms1, ms1, tl6.enc, TlAt.enc ⟨er6, ta⟩, ?_⟩
    rw [decide_eq_true rfl]
    exact q H6 fun b o e => s6 b o (ne_of_none (c2 _ _ e) hr) (c35 _ _ (c2 _ _ e))
theorem sc_alike : FnScope ["_law_drawing", "_law_new", "_law_pairs_here", "_law_swaps", "_law_old_rows", "_law_new_rows", "_law_there", "_law_count"] ["_law_drawing", "_law_new", "_law_pairs_here", "_law_swaps"] (defScope s_alike) := ⟨rfl, rfl, rfl, by decide +kernel, rfl, by decide +kernel, by decide +kernel⟩
set_option maxHeartbeats 4000000 in
theorem ok_alike (D : Def K mg "_law_alike" s_alike ["_law_drawing", "_law_new", "_law_pairs_here", "_law_swaps"]) (g_rows : Fn P w K mg base 4 "_law_rows" ["_law_drawing"] (sp_rows K)) (g_carries : Fn P w K mg base 1 "_law_carries" ["_law_old", "_law_new", "_law_pairs_here"] (sp_carries K)) (g_arc_count : Fn P w K mg base 2 "arc_count" ["drawing"] (sp_arc_count K)) (g_copy : Fn P w K mg base 1 "_law_copy" ["_law_drawing"] (sp_copy K)) (g_met : Fn P w K mg base 5 "_law_met" ["_law_drawing", "_law_new", "_law_there", "_law_swaps"] (sp_met K)) (Z : Blt mg) : Fn P w K mg base 6 "_law_alike" ["_law_drawing", "_law_new", "_law_pairs_here", "_law_swaps"] (sp_alike K) := by
  refine fn_mk D sc_alike (fun vs H Q E h => ?_) (fun f cdv A outer s H vs Q E hr h => ?_)
  · obtain ⟨p, n, rp, pads, prs, ws, ws2, sg, sw, ε, cs, to, rfl, _⟩ := h; rfl
  obtain ⟨p, n, rp, pads, prs, ws, ws2, sg, sw, ε, cs, to, rfl, hd, hdn, hs, hsn, hg, hgn, eP, hpa, hpo, C, hmv, q⟩ := h
  have hu := hu8 hr
  have hu1 := hu_of hr
  refine ⟨_, (pss_cons (ps_set (i := 4) sc_alike.nd rfl (Or.inl rfl) (pe_fn g_rows hr (by decide) (pa_cons (pv 0) pa_nil)))
    (pss_cons (ps_set (i := 5) sc_alike.nd rfl (Or.inl rfl) (pe_fn g_rows hr (by decide) (pa_cons (pv 1) pa_nil)))
    (pss_cons (ps_if (PW.pt (pw_or (pt_cmpR op_isN (pv 4) pe_non (nomark _)) (pw_or1 (pt_cmpR op_isN (pv 5) pe_non (nomark _)))))
      (pss_one (ps_ret pe_bl))
      pss_nil)
    (pss_cons (ps_set (i := 6) sc_alike.nd rfl (Or.inl rfl) (pe_fn g_carries hr (by decide) (pa_cons (pv 4) (pa_cons (pv 5) (pa_cons (pv 2) pa_nil)))))
    (pss_cons (ps_if (PW.pt (pw_or (pt_cmpR op_isN (pv 6) pe_non (nomark _)) (pw_or1 (pt_not (pt_val (pe_fn g_met hr (by decide) (pa_cons (pv 0) (pa_cons (pv 1) (pa_cons (pv 6) (pa_cons (pv 3) pa_nil))))))))))
      (pss_one (ps_ret pe_bl))
      pss_nil)
    (pss_cons (ps_set (i := 7) sc_alike.nd rfl (Or.inl rfl) (pe_fn g_arc_count hr (by decide) (pa_cons (pe_fn g_copy hr (by decide) (pa_cons (pv 0) pa_nil)) pa_nil)))
    (pss_one (ps_ret (pe_and (pe_cmpR op_eq (pe_fn g_arc_count hr (by decide) (pa_cons (pe_fn g_copy hr (by decide) (pa_cons (pv 1) pa_nil)) pa_nil)) (pv 7) (nomark _)) (pe_one (pe_cmpR op_eq (pe_callB call_lenD rfl Z.b_len PySem.boot_len (pa_cons (pv 6) pa_nil)) (pv 7) (nomark _)))))))))))), ?_⟩

  refine ⟨_, rfl, p, ws, sg, rfl, hd, hs, fun ro oads H1 s1 lo => ?_⟩
  refine ⟨_, rfl, n, ws2, sg, rfl, hdn.keep s1, hsn, fun rn nads H2 s2 ln => ?_⟩
  have c2 := s1.trans s2
  refine ⟨_, rfl, rfl, _, rfl, iteDN (fun z => by cases z) ?_⟩
  refine ⟨_, rfl, rfl, _, rfl, iteDN (fun z => by cases z) ?_⟩
  have hfn : ∀ x y y', Rel ws ε cs x y → Rel ws ε cs x y' → y = y' := fun _ _ _ h h' => h.fn h'
  have hva : ∀ (i k : Nat) (w : List Int), ws[i]? = some w → k < max w.length 1 → ∃ x y, ValAt (arcsOf ws 0) ((i : Int), (k : Int)) x ∧ ValAt (arcsOf ws2 0) ((i : Int), (to i k : Int)) y ∧ Rel ws ε cs x y := fun i k w hw hk => by
    obtain ⟨r1, r2, x, y, a1, a2, a3, a4, a5⟩ := C.row hw hk
    exact ⟨x, y, ⟨i, k, r1, rfl, a1, a2⟩, ⟨i, to i k, r2, rfl, a3, a4⟩, a5⟩
  refine ⟨_, rfl, _, rfl, _, rfl, ro, rn, rp, oads, nads, pads, arcsOf ws 0, arcsOf ws2 0, prs, rfl, lo.keep s2, ln, c2 _ _ eP, hpa.keep c2, hpo.len, Rel ws ε cs, hfn, fun _ _ _ h h' => Rel.inj C.eps h h', fun pr hp => ?_, fun d es H3 s3 ed nd hR cov => ?_⟩
  · obtain ⟨i, k, w, hw, hk, rfl⟩ := hpo.of pr hp
    exact hva i k w hw hk
  have hall : ∀ x, 0 ≤ x → x < arcSum ws → ∃ y, (x, y) ∈ es := fun x x0 x1 => by
    obtain ⟨i, k, w, r, a1, a2, a3, a4⟩ := all_arcs (ws := ws) (f := 0) x0 (by omega)
    exact cov _ (hpo.all i k w a1 a2) x ⟨i, k, r, rfl, a3, a4⟩
  have c3 := c2.trans s3
  refine ⟨_, rfl, rfl, _, rfl, iteDN (fun z => by cases z) ?_⟩
  have hval : ∀ x y, Rel ws ε cs x y → valV (dOf es) (Sum.inl x : Key) = some (.int y) := fun x y h => dOf_val hfn hR (hall x h.bound.1 h.bound.2) h
  refine ⟨_, rfl, _, rfl, _, rfl, _, rfl, p, n, d, ws, ws2, sg, es, sw, rfl, hd.keep c3, hdn.keep c3, hs, hsn, hg, hgn, ed, fun e he v hv => ?_, fun H4 s4 => ?_⟩
  · obtain ⟨o, a, b, o', a', b', h0, h1, h2, h3, h4⟩ := hmv e he v hv
    exact ⟨o, a, b, o', a', b', h0, hval _ _ h1, hval _ _ h2, hval _ _ h3, h4⟩
  refine ⟨_, rfl, iteF ?_⟩
  have c4 := c3.trans s4
  refine ⟨_, rfl, p, ws, sg, rfl, hd.keep c4, hs, fun x1 H5 s5 nd5 => ?_⟩
  refine ⟨x1, ws, sg, rfl, nd5.is, hs, fun H6 s6 => ?_⟩
  have c6 := c4.trans (s5.trans s6)
  refine ⟨_, rfl, n, ws2, sg, rfl, hdn.keep c6, hsn, fun x2 H7 s7 nd7 => ?_⟩
  refine ⟨x2, ws2, sg, rfl, nd7.is, hsn, fun H8 s8 => ?_⟩
  refine ⟨_, rfl, rfl, _, rfl, ?_⟩
  rw [C.all, decide_eq_true rfl]
  refine iteT ?_
  have c8 := c6.trans (s7.trans s8)
  have ed8 := (s4.trans ((s5.trans s6).trans (s7.trans s8))) _ _ ed
  refine ⟨_, rfl, d, _, rfl, ed8, _, rfl, rfl, ?_⟩
  rw [dOf_len, es_count nd hR hall, decide_eq_true rfl]
  exact q H8 c8
theorem sc_begun : FnScope ["_law_drawing", "_law_walk", "_law_steps", "_law_found", "_law_old"] ["_law_drawing", "_law_walk", "_law_steps"] (defScope s_begun) := ⟨rfl, rfl, rfl, by decide +kernel, rfl, by decide +kernel, by decide +kernel⟩
set_option maxHeartbeats 4000000 in
theorem ok_begun (D : Def K mg "_law_begun" s_begun ["_law_drawing", "_law_walk", "_law_steps"]) (g_copy : Fn P w K mg base 1 "_law_copy" ["_law_drawing"] (sp_copy K)) (Z : Blt mg) : Fn P w K mg base 2 "_law_begun" ["_law_drawing", "_law_walk", "_law_steps"] (sp_begun18 K) := by
  refine fn_mk D sc_begun (fun vs H Q E h => ?_) (fun f cdv A outer s H vs Q E hr h => ?_)
  · obtain ⟨p, ws, sg, i, w, n, rfl, _⟩ := h; rfl
  obtain ⟨p, ws, sg, j, wj, n, rfl, hd, hs, hj, q⟩ := h
  have hu := hu8 hr
  have hu1 := hu_of hr
  refine ⟨_, (pss_cons (ps_set (i := 3) sc_begun.nd rfl (Or.inl rfl) (pe_fn g_copy hr (by decide) (pa_cons (pv 0) pa_nil)))
    (pss_cons (ps_set (i := 4) sc_begun.nd rfl (Or.inr rfl) (pe_ix ix_list (pe_ix ix_tup (pv 0) pe_int (fun _ _ => rfl)) (pv 1) (fun _ _ => rfl)))
    (pss_cons (ps_asg (pe_comp (defScope s_begun) ["_law_drawing", "_law_walk", "_law_steps", "_law_found", "_law_old"] ["_law_k"] [(4, "_law_old"), (2, "_law_steps")] rfl (pi_range1 rfl Z.b_range (pa_cons (pe_callB call_len_seq rfl Z.b_len PySem.boot_len (pa_cons (pv 4) pa_nil)) pa_nil)) (gk_name (by decide)) (fun cl C s H ex E => ⟨pg_name (i := 0) (show List.Nodup (["_law_k", "_law_old", "_law_steps"] : List Str) by decide +kernel) rfl (Or.inl rfl), pts_nil, (pe_ix (ix_listK K rfl) (pv 1) (pe_op op_mod (pe_op op_add (pv 0) (pv 2)) (pe_callB (call_len_seqK K rfl) rfl Z.b_len PySem.boot_len (pa_cons (pv 1) pa_nil))) (fun _ _ => rfl))⟩)) (pg_sub (pe_ix ix_tup (pv 3) pe_int (fun _ _ => rfl)) (pv 1) set_list))
    (pss_one (ps_ret (pv 3)))))), ?_⟩

  obtain ⟨a, b, ads, tds, d⟩ := id hd
  have hlw := len_int wj
  have hw4 := mem_small hs hj
  refine ⟨_, rfl, p, ws, sg, rfl, hd, hs, fun cp H1 s1 nd1 => ?_⟩
  obtain ⟨a1, b1, ads1, tds1, d1, f1, f2, f3⟩ := nd1
  obtain ⟨aj, haj, eaj⟩ := Paired.getR d.wa hj
  have ej := s1 _ _ eaj
  refine ⟨_, rfl, p, _, _, _, rfl, rfl, SqT.of (s1 _ _ d.tp), at2_0 _ _, _, rfl, a, _, _, _, rfl, rfl, SqL.of (s1 _ _ d.la), at_ref haj rfl, ?_⟩
  refine ⟨_, rfl, aj, _, rfl, .inl (SqL.of ej), _, rfl, by omega, by omega, ?_⟩
  refine comp_range (k := (((wj.map V.int).length : Int)).toNat) (fun i ys H2 => H2 = H1 ∧ ys = ((rot wj n).take i).map V.int) ⟨rfl, rfl⟩ (fun i ys H2 hi ⟨_, e⟩ => by rw [e, len_int, List.length_take]; exact szle (by omega)) ?_ ?_
  · rintro i ys H2 hi ⟨rfl, rfl⟩
    have hpos : (0 : Int) < ((wj.map V.int).length : Int) := by omega
    have m0 := Int.emod_nonneg (0 + (i : Int) + n) (show ((wj.map V.int).length : Int) ≠ 0 by omega)
    have m1 := Int.emod_lt_of_pos (0 + (i : Int) + n) hpos
    obtain ⟨v, ev, ev'⟩ := atM (ns := wj) (i := (0 + (i : Int) + n) % ((wj.map V.int).length : Int)) m0 (by omega)
    refine turn0 ?_
    refine ⟨_, rfl, _, rfl, _, rfl, _, _, rfl, rfl, _, rfl, aj, _, rfl, .inl (SqL.of ej), _, _, rfl, rfl, hpos, aj, _, _, _, rfl, rfl, SqL.of ej, ev, ?_⟩
    refine ⟨rfl, ?_⟩
    rw [map_snoc, ← take_succ']
    rw [rot_get wj n i (by omega)]
    rw [hlw] at ev'
    rw [show (0 + (i : Int) + n) = (i : Int) + n by omega] at ev'
    exact ev'
  · rintro ys H2 r2 ⟨rfl, rfl⟩ hr2
    rw [List.take_of_length_le (by rw [rot_length]; omega)]
    have s2 := same_new hr2 (.lst ((rot wj n).map V.int))
    have d2 := d1.keep s2
    have hjl : j < ads1.length := by
      have h1 := d1.wa.len
      have h2 := (List.getElem?_eq_some_iff.mp hj).1
      omega
    refine ⟨_, rfl, cp, _, _, _, rfl, rfl, SqT.of d2.tp, at2_0 _ _, _, rfl, a1, _, _, _, rfl, rfl, d2.la, ixN_of (by omega) (by rw [len_ref]; omega), ?_⟩
    rw [Int.toNat_natCast, ← List.map_set]
    have hra : r2 ≠ a1 := fun e => by rw [e, d1.la] at hr2; cases hr2
    have hrb : r2 ≠ b1 := fun e => by rw [e, d1.lb] at hr2; cases hr2
    have hna : a1 ∉ ads1.set j r2 := fun m => (mem_set m).elim d1.na fun e => hra e.symm
    have hnb : b1 ∉ ads1.set j r2 := fun m => (mem_set m).elim d1.nb fun e => hrb e.symm
    have wa5 := WsAt.other (b := a1) (o := .lst ((ads1.set j r2).map V.ref)) (WsAt.put (upd_same (H := H2) (a := r2) (o := .lst ((rot wj n).map V.int))) j d2.wa) hna
    refine ⟨_, rfl, q cp _ ((s1.trans s2).own f1 _) ⟨a1, b1, ads1.set j r2, tds1, ⟨?_, upd_same, ?_, wa5, ?_, d1.nab, hna, hnb⟩, f1, f2, fun x hx => (mem_set hx).elim (f3 x) fun e => by rw [e]; exact s1.free hr2⟩⟩
    · rw [upd_ne fun e => by have := d2.tp; rw [e, d2.la] at this; cases this]
      exact d2.tp
    · rw [upd_ne d1.nab.symm]; exact d2.lb
    · exact Paired.imp2 (fun t e et => by rw [upd_ne fun z => by rw [z, d2.la] at et; cases et]; exact et) d2.sa
theorem sc_pairs : FnScope ["_law_drawing", "_law_walk", "_law_steps", "_law_turns_round", "_law_pairs_here", "_law_at", "_law_count", "_law_k", "_law_to"] ["_law_drawing", "_law_walk", "_law_steps", "_law_turns_round"] (defScope s_pairs) := ⟨rfl, rfl, rfl, by decide +kernel, rfl, by decide +kernel, by decide +kernel⟩
set_option maxHeartbeats 4000000 in
theorem ok_pairs (D : Def K mg "_law_pairs" s_pairs ["_law_drawing", "_law_walk", "_law_steps", "_law_turns_round"])  (Z : Blt mg) : Fn P w K mg base 1 "_law_pairs" ["_law_drawing", "_law_walk", "_law_steps", "_law_turns_round"] (sp_pairs K) := by
  refine fn_mk D sc_pairs (fun vs H Q E h => ?_) (fun f cdv A outer s H vs Q E hr h => ?_)
  · obtain ⟨p, ws, sg, wk, st, tr, rfl, _⟩ := h; rfl
  obtain ⟨p, ws, sg, wk, st, tr, rfl, hd, hs, q⟩ := h
  have hu := hu8 hr
  have hu1 := hu_of hr
  refine ⟨_, (pss_cons (ps_set (i := 4) sc_pairs.nd rfl (Or.inl rfl) (pe_lst pa_nil))
    (pss_cons (ps_for PassesOwn.never rfl (pi_range1 rfl Z.b_range (pa_cons (pe_callB call_len_seq rfl Z.b_len PySem.boot_len (pa_cons (pe_ix ix_tup (pv 0) pe_int (fun _ _ => rfl)) pa_nil)) pa_nil)) (pg_name (i := 5) sc_pairs.nd rfl (Or.inl rfl))
      (pss_cons (ps_set (i := 6) sc_pairs.nd rfl (Or.inl rfl) (pe_callB (call_max2 rfl) rfl Z.b_max PyProof.Rows.boot_max (pa_cons pe_int (pa_cons (pe_callB call_len_seq rfl Z.b_len PySem.boot_len (pa_cons (pe_ix ix_list (pe_ix ix_tup (pv 0) pe_int (fun _ _ => rfl)) (pv 5) (fun _ _ => rfl)) pa_nil)) pa_nil))))
      (pss_one (ps_for PassesOwn.never rfl (pi_range1 rfl Z.b_range (pa_cons (pv 6) pa_nil)) (pg_name (i := 7) sc_pairs.nd rfl (Or.inl rfl))
        (pss_cons (ps_set (i := 8) sc_pairs.nd rfl (Or.inl rfl) (pv 7))
        (pss_cons (ps_if (pt_val (pv 3))
          (pss_one (ps_set (i := 8) sc_pairs.nd rfl (Or.inl rfl) (pe_op op_mod (pe_op op_sub (pv 6) (pv 7)) (pv 6))))
          (pss_one (ps_if (pt_cmpR op_eq (pv 5) (pv 1) (nomark _))
            (pss_one (ps_set (i := 8) sc_pairs.nd rfl (Or.inl rfl) (pe_op op_mod (pe_op op_sub (pv 7) (pv 2)) (pv 6))))
            pss_nil)))
        (pss_one (ps_expr (pe_bm PySem.F.plainAttrs_list PySem.F.slot_list_append PySem.F.type_list_append mt_append (pv 4) (pa_cons (pe_tup (pa_cons (pe_tup (pa_cons (pv 5) (pa_cons (pv 7) pa_nil))) (pa_cons (pe_tup (pa_cons (pv 5) (pa_cons (pv 8) pa_nil))) pa_nil))) pa_nil))))))))))
    (pss_one (ps_ret (pv 4))))), ?_⟩

  obtain ⟨a, b, ads, tds, d⟩ := id hd
  have hla := len_ref ads
  have hlw := d.wa.len
  have hsw := hs.w
  refine ⟨sz0, fun r hr => ?_⟩
  have s0 := same_new hr (.lst ([] : List V))
  refine ⟨_, rfl, p, _, _, _, rfl, rfl, SqT.of (s0 _ _ d.tp), at2_0 _ _, a, _, rfl, .inl (SqL.of (s0 _ _ d.la)), _, rfl, by omega, by omega, ?_⟩
  refine for_range (n := ((ads.map V.ref).length : Int).toNat) (fun i σ H2 => ∃ (x1 x2 x3 x4 : Option V) (pads : List Addr) (prs : List Pr), σ = [some (.ref p), some (.int wk), some (.int st), some (.bl tr), some (.ref r), x1, x2, x3, x4] ∧ Same H H2 ∧ H2 r = some (.lst (pads.map V.ref)) ∧ PrsAt H2 pads prs ∧ prs.length ≤ 400 * i ∧ PrsTo ws (toOf ws wk st tr) i 0 prs)
    ⟨none, none, none, none, [], [], rfl, s0, upd_same, .nil, by simp, PrsTo.zero _ _⟩ ?_ ?_
  · rintro i σ H2 hi ⟨x1, x2, x3, x4, pads, prs, rfl, s2, er, pa, hl, pt⟩
    have hi' : i < ads.length := by omega
    obtain ⟨w, hw⟩ : ∃ w, ws[i]? = some w := ⟨_, List.getElem?_eq_getElem (by omega)⟩
    obtain ⟨ai, hai, ew⟩ := Paired.getR d.wa hw
    have hw4 := mem_small hs hw
    refine ⟨_, rfl, p, _, _, _, rfl, rfl, SqT.of (s2 _ _ d.tp), at2_0 _ _, _, rfl, a, _, _, _, rfl, rfl, SqL.of (s2 _ _ d.la), at_ref hai (by omega), ai, _, rfl, .inl (SqL.of (s2 _ _ ew)), _, _, rfl, ?_⟩
    rw [len_int, max1']
    refine ⟨_, rfl, _, rfl, by omega, by omega, ?_⟩
    refine for_range (n := ((max w.length 1 : Nat) : Int).toNat) (fun j σ H3 => ∃ (x3 x4 : Option V) (pads : List Addr) (prs : List Pr), σ = [some (.ref p), some (.int wk), some (.int st), some (.bl tr), some (.ref r), some (.int (0 + (i : Int))), some (.int ((max w.length 1 : Nat) : Int)), x3, x4] ∧ Same H H3 ∧ H3 r = some (.lst (pads.map V.ref)) ∧ PrsAt H3 pads prs ∧ prs.length ≤ 400 * i + j ∧ PrsTo ws (toOf ws wk st tr) i j prs)
      ⟨x3, x4, pads, prs, rfl, s2, er, pa, by omega, pt⟩ ?_ ?_
    · rintro j σ H3 hj ⟨x3, x4, pads2, prs2, rfl, s3, er3, pa2, hl2, pt2⟩
      have hlp := Paired.len pa2
      have hpos : (0 : Int) < ((max w.length 1 : Nat) : Int) := by omega
      refine ⟨_, rfl, ?_⟩
      refine ⟨_, rfl, _, rfl, ?_⟩
      cases tr with
      | true =>
        refine iteT ?_
        refine ⟨_, rfl, _, rfl, _, _, rfl, rfl, _, rfl, _, _, rfl, rfl, hpos, ?_⟩
        refine ⟨_, rfl, .inl ⟨rfl, _, SqL.of er3⟩, _, rfl, _, rfl, (by show 2 ≤ sizeLine; decide), fun t1 ht1 => ?_⟩
        have sa := same_new ht1 (.tup [.int (0 + (i : Int)), .int (0 + (j : Int))])
        refine ⟨_, rfl, _, rfl, (by show 2 ≤ sizeLine; decide), fun t2 ht2 => ?_⟩
        have sb := fun o => same_new ht2 (.tup [.int (0 + (i : Int)), .int o])
        refine ⟨(by show 2 ≤ sizeLine; decide), fun t ht => ?_⟩
        have hv := show (((max w.length 1 : Nat) : Int) - (0 + (j : Int))) % ((max w.length 1 : Nat) : Int) = (toOf ws wk st true i j : Int) from by
          rw [toOf_rev hw]; unfold toRev; rw [Int.natCast_emod]; congr 1; omega
        refine ⟨r, _, _, rfl, rfl, (same_new ht _) _ _ ((sb _) _ _ (sa _ _ er3)), by rw [len_ref]; exact small30 (by omega), ?_⟩
        have sc := sa.trans ((sb _).trans (same_new ht (.tup [.ref t1, .ref t2])))
        refine ⟨_, _, pads2 ++ [t], prs2 ++ [(((i : Int), (j : Int)), ((i : Int), (toOf ws wk st true i j : Int)))], rfl, (s3.trans sc).own hr _, by rw [upd_same, ref_snoc], ?_, by rw [List.length_append]; simp; omega, pt2.snoc hw (by omega)⟩
        refine PrsAt.upd (sc _ _ er3) (Paired.app (pa2.keep sc) (.cons ⟨t1, t2, upd_same, ?_, ?_⟩ .nil))
        · rw [(same_new ht _) _ _ ((sb _) _ _ upd_same), Int.zero_add, Int.zero_add]
        · rw [(same_new ht _) _ _ upd_same, Int.zero_add]
          exact congrArg (fun z => some (HO.tup [V.int (i : Int), V.int z])) hv
      | false =>
        refine iteF ?_
        refine ⟨_, rfl, _, rfl, rfl, _, rfl, ?_⟩
        rw [eqI]
        refine ite2 (fun c => ?_) (fun c => ?_)
        · have c' := of_decide_eq_true c
          refine ⟨_, rfl, _, rfl, _, _, rfl, rfl, _, rfl, _, _, rfl, rfl, hpos, ?_⟩
          refine ⟨_, rfl, .inl ⟨rfl, _, SqL.of er3⟩, _, rfl, _, rfl, (by show 2 ≤ sizeLine; decide), fun t1 ht1 => ?_⟩
          have sa := same_new ht1 (.tup [.int (0 + (i : Int)), .int (0 + (j : Int))])
          refine ⟨_, rfl, _, rfl, (by show 2 ≤ sizeLine; decide), fun t2 ht2 => ?_⟩
          have sb := fun o => same_new ht2 (.tup [.int (0 + (i : Int)), .int o])
          refine ⟨(by show 2 ≤ sizeLine; decide), fun t ht => ?_⟩
          have hv := show ((0 + (j : Int)) - st) % ((max w.length 1 : Nat) : Int) = (toOf ws wk st false i j : Int) from by
            rw [toOf_rot hw (by omega)]; unfold toRot; rw [Int.toNat_of_nonneg (Int.emod_nonneg _ (by omega)), Int.zero_add]
          refine ⟨r, _, _, rfl, rfl, (same_new ht _) _ _ ((sb _) _ _ (sa _ _ er3)), by rw [len_ref]; exact small30 (by omega), ?_⟩
          have sc := sa.trans ((sb _).trans (same_new ht (.tup [.ref t1, .ref t2])))
          refine ⟨_, _, pads2 ++ [t], prs2 ++ [(((i : Int), (j : Int)), ((i : Int), (toOf ws wk st false i j : Int)))], rfl, (s3.trans sc).own hr _, by rw [upd_same, ref_snoc], ?_, by rw [List.length_append]; simp; omega, pt2.snoc hw (by omega)⟩
          refine PrsAt.upd (sc _ _ er3) (Paired.app (pa2.keep sc) (.cons ⟨t1, t2, upd_same, ?_, ?_⟩ .nil))
          · rw [(same_new ht _) _ _ ((sb _) _ _ upd_same), Int.zero_add, Int.zero_add]
          · rw [(same_new ht _) _ _ upd_same, Int.zero_add]
            exact congrArg (fun z => some (HO.tup [V.int (i : Int), V.int z])) hv
        · have c' : ¬ (0 + (i : Int)) = wk := fun z => c (decide_eq_true z)
          refine ⟨_, rfl, .inl ⟨rfl, _, SqL.of er3⟩, _, rfl, _, rfl, (by show 2 ≤ sizeLine; decide), fun t1 ht1 => ?_⟩
          have sa := same_new ht1 (.tup [.int (0 + (i : Int)), .int (0 + (j : Int))])
          refine ⟨_, rfl, _, rfl, (by show 2 ≤ sizeLine; decide), fun t2 ht2 => ?_⟩
          have sb := fun o => same_new ht2 (.tup [.int (0 + (i : Int)), .int o])
          refine ⟨(by show 2 ≤ sizeLine; decide), fun t ht => ?_⟩
          have hv := show 0 + (j : Int) = (toOf ws wk st false i j : Int) from by
            rw [toOf_id hw (by omega), Int.zero_add]
          refine ⟨r, _, _, rfl, rfl, (same_new ht _) _ _ ((sb _) _ _ (sa _ _ er3)), by rw [len_ref]; exact small30 (by omega), ?_⟩
          have sc := sa.trans ((sb _).trans (same_new ht (.tup [.ref t1, .ref t2])))
          refine ⟨_, _, pads2 ++ [t], prs2 ++ [(((i : Int), (j : Int)), ((i : Int), (toOf ws wk st false i j : Int)))], rfl, (s3.trans sc).own hr _, by rw [upd_same, ref_snoc], ?_, by rw [List.length_append]; simp; omega, pt2.snoc hw (by omega)⟩
          refine PrsAt.upd (sc _ _ er3) (Paired.app (pa2.keep sc) (.cons ⟨t1, t2, upd_same, ?_, ?_⟩ .nil))
          · rw [(same_new ht _) _ _ ((sb _) _ _ upd_same), Int.zero_add, Int.zero_add]
          · rw [(same_new ht _) _ _ upd_same, Int.zero_add]
            exact congrArg (fun z => some (HO.tup [V.int (i : Int), V.int z])) hv
    · rintro σ H3 ⟨x3, x4, pads2, prs2, rfl, s3, er3, pa2, hl2, pt2⟩
      rw [Int.toNat_natCast] at pt2 hl2
      exact ⟨_, _, _, _, pads2, prs2, rfl, s3, er3, pa2, by omega, pt2.next hw⟩
  · rintro σ H2 ⟨x1, x2, x3, x4, pads, prs, rfl, s2, er, pa, hl, pt⟩
    exact ⟨_, rfl, q r pads prs H2 s2 er pa (pt.done (by omega) (by omega))⟩
theorem sc_great : FnScope ["_law_some", "_law_rings", "_law_walks", "_law_signs", "_law_k"] ["_law_some"] (defScope s_great) := ⟨rfl, rfl, rfl, by decide +kernel, rfl, by decide +kernel, by decide +kernel⟩
set_option maxHeartbeats 4000000 in
theorem ok_great (D : Def K mg "_law_great" s_great ["_law_some"])  (Z : Blt mg) : Fn P w K mg base 1 "_law_great" ["_law_some"] (sp_great K) := by
  refine fn_mk D sc_great (fun vs H Q E h => ?_) (fun f cdv A outer s H vs Q E hr h => ?_)
  · obtain ⟨z, r0, r1, r2, rfl, _⟩ := h; rfl
  obtain ⟨z, r0, r1, r2, rfl, hz, a0, a1, b0, b1, c0, c1, q⟩ := h
  have hu := hu8 hr
  have hu1 := hu_of hr
  refine ⟨_, (pss_cons (ps_set (i := 1) sc_great.nd rfl (Or.inl rfl) (pe_op op_add pe_int (pe_ix ix_list (pv 0) pe_int (fun _ _ => rfl))))
    (pss_cons (ps_comp 2 (defScope s_great) ["_law_some", "_law_rings", "_law_walks", "_law_signs", "_law_k"] ["_law_k"] [] rfl sc_great.nd rfl rfl (pi_range1 rfl Z.b_range (pa_cons (pe_op op_add (pv 1) (pe_ix ix_list (pv 0) pe_int (fun _ _ => rfl))) pa_nil)) (gk_name (by decide)) (fun cl C s H ex E => ⟨pg_name (i := 0) (show List.Nodup (["_law_k"] : List Str) by decide +kernel) rfl (Or.inl rfl), pts_nil, (pe_lst pa_nil)⟩))
    (pss_cons (ps_set (i := 3) sc_great.nd rfl (Or.inl rfl) (pe_lst pa_nil))
    (pss_cons (ps_for PassesOwn.never rfl (pi_range1 rfl Z.b_range (pa_cons (pe_op op_add pe_int (pe_ix ix_list (pv 0) pe_int (fun _ _ => rfl))) pa_nil)) (pg_name (i := 4) sc_great.nd rfl (Or.inl rfl))
      (pss_cons (ps_expr (pe_bm PySem.F.plainAttrs_list PySem.F.slot_list_append PySem.F.type_list_append mt_append (pe_ix ix_list (pv 2) (pe_op op_mod (pv 4) (pv 1)) (fun _ _ => rfl)) (pa_cons (pe_op op_add (pv 4) pe_int) pa_nil)))
      (pss_cons (ps_expr (pe_bm PySem.F.plainAttrs_list PySem.F.slot_list_append PySem.F.type_list_append mt_append (pe_ix ix_list (pv 2) (pe_op op_mod (pe_op op_mul (pv 4) (pv 4)) (pv 1)) (fun _ _ => rfl)) (pa_cons (pe_op op_sub (pe_un un_neg (pv 4)) pe_int) pa_nil)))
      (pss_one (ps_expr (pe_bm PySem.F.plainAttrs_list PySem.F.slot_list_append PySem.F.type_list_append mt_append (pv 3) (pa_cons (pe_tup (pa_cons (pe_op op_add (pv 4) pe_int) (pa_cons (pe_op op_sub pe_int (pe_op op_mul pe_int (pe_op op_mod (pv 4) pe_int))) pa_nil))) pa_nil)))))))
    (pss_one (ps_ret (pe_tup (pa_cons (pv 2) (pa_cons (pv 3) pa_nil))))))))), ?_⟩

  have at0 : atI ([r0, r1, r2].map V.int) 0 = some (.int r0) := at_of (j := 0) rfl rfl
  have at1 : atI ([r0, r1, r2].map V.int) 1 = some (.int r1) := at_of (j := 1) rfl rfl
  have at2 : atI ([r0, r1, r2].map V.int) 2 = some (.int r2) := at_of (j := 2) rfl rfl
  refine ⟨_, rfl, z, _, _, _, rfl, rfl, SqL.of hz, at1, _, _, rfl, rfl, ?_⟩
  refine ⟨_, rfl, _, rfl, z, _, _, _, rfl, rfl, SqL.of hz, at2, _, _, rfl, rfl, _, rfl, by omega, by omega, ?_⟩
  refine comp_range (k := (1 + r1 + r2).toNat) (fun i ys H3 => ∃ ads : List Addr, ys = ads.map V.ref ∧ ads.length = i ∧ Same H H3 ∧ WsAt H3 ads (List.replicate i []) ∧ (∀ x ∈ ads, H x = none) ∧ ads.Nodup)
    ⟨[], rfl, rfl, Same.refl _, .nil, fun x h => by simp at h, List.nodup_nil⟩ (fun i ys H3 hi ⟨ads, e, la, _⟩ => by rw [e, len_ref]; exact szle (by omega)) ?_ ?_
  · rintro i ys H3 hi ⟨ads, rfl, la, s3, wa, fr, nd⟩
    refine turn0 ?_
    refine ⟨sz0, fun t ht => ?_⟩
    refine ⟨ads ++ [t], by rw [ref_snoc], by simp [la], s3.new ht _, ?_, fresh_snoc fr (s3.free ht), nodup_snoc nd (wa.fresh ht)⟩
    rw [List.replicate_succ']
    exact Paired.app (wa.keep (same_new ht _)) (.cons upd_same .nil)
  · rintro ys H3 r ⟨ads, rfl, la, s3, wa, fr, nd⟩ hr3
    have hr0 : H r = none := s3.free hr3
    have hra : r ∉ ads := wa.fresh hr3
    refine ⟨sz0, fun b hb => ?_⟩
    have s4 := (s3.new hr3 (.lst (ads.map V.ref))).new hb (.lst ([] : List V))
    have hb0 : H b = none := (s3.new hr3 (.lst (ads.map V.ref))).free hb
    have hrb : r ≠ b := ne_of_none upd_same hb
    have hba : b ∉ ads := (wa.keep (same_new hr3 (.lst (ads.map V.ref)))).fresh hb
    refine ⟨_, rfl, z, _, _, _, rfl, rfl, SqL.of (s4 _ _ hz), at0, _, _, rfl, rfl, _, rfl, by omega, by omega, ?_⟩
    refine for_range (n := (36 + r0).toNat) (fun i σ H4 => ∃ (kk : Option V) (ws : List (List Int)) (tds : List Addr) (sg : List (Int × Int)), σ = [some (.ref z), some (.int (1 + r1)), some (.ref r), some (.ref b), kk] ∧ Same H H4 ∧ H4 r = some (.lst (ads.map V.ref)) ∧ WsAt H4 ads ws ∧
      H4 b = some (.lst (tds.map V.ref)) ∧ SgAt H4 tds sg ∧ sg.length = i ∧ (∀ w ∈ ws, w.length ≤ 2 * i) ∧ ws.flatten.Perm ((sg.map (·.1)).flatMap fun x => [x, -x]) ∧ (sg.map (·.1)).Pairwise (· < ·) ∧ (∀ e ∈ sg, 1 ≤ e.1 ∧ e.1 ≤ (i : Int) ∧ (e.2 = 1 ∨ e.2 = -1)))
      ⟨none, _, [], [], rfl, s4, by rw [upd_ne hrb, upd_same], (wa.keep (same_new hr3 _)).keep (same_new hb _), upd_same, .nil, rfl, fun w hw => (by rw [List.eq_of_mem_replicate hw]; exact Nat.le_refl _), by rw [flatten_rep]; exact List.Perm.refl _, List.Pairwise.nil, fun e he => (by simp at he)⟩ ?_ ?_
    · rintro i σ H4 hi ⟨kk, ws, tds, sg, rfl, s5, er, wa5, eb, sa, lsg, hws, hpm, hri, hpo⟩
      have hlw : ads.length = ws.length := Paired.len wa5
      have hlt : tds.length = sg.length := Paired.len sa
      have hpos : (0 : Int) < 1 + r1 := by omega
      have k0 := Int.emod_nonneg (0 + (i : Int)) (show 1 + r1 ≠ 0 by omega)
      have k1 := Int.emod_lt_of_pos (0 + (i : Int)) hpos
      obtain ⟨x1, ex1⟩ : ∃ x, ads[((0 + (i : Int)) % (1 + r1)).toNat]? = some x := ⟨_, List.getElem?_eq_getElem (by omega)⟩
      obtain ⟨w1, ew1, hw1⟩ := wa5.get ex1
      have hx1r : r ≠ x1 := fun e => hra (by rw [e]; exact List.mem_of_getElem? ex1)
      have hx1b : b ≠ x1 := fun e => hba (by rw [e]; exact List.mem_of_getElem? ex1)
      have hw1l := hws w1 (List.mem_of_getElem? ew1)
      refine ⟨_, rfl, _, rfl, _, rfl, _, _, rfl, rfl, hpos, r, _, _, _, rfl, rfl, SqL.of er, at_ref ex1 (by omega), .inl ⟨rfl, _, SqL.of hw1⟩, _, rfl, _, _, rfl, rfl, x1, _, _, rfl, rfl, hw1, by rw [len_int]; exact small1000 (by omega), ?_⟩
      rw [map_snoc]
      have wa6 := WsAt.set (w' := w1 ++ [0 + (i : Int) + 1]) wa5 nd ex1
      have s6 := s5.own (fr x1 (List.mem_of_getElem? ex1)) (.lst ((w1 ++ [0 + (i : Int) + 1]).map V.int))
      have m0 := Int.emod_nonneg ((0 + (i : Int)) * (0 + (i : Int))) (show 1 + r1 ≠ 0 by omega)
      have m1 := Int.emod_lt_of_pos ((0 + (i : Int)) * (0 + (i : Int))) hpos
      obtain ⟨x2, ex2⟩ : ∃ x, ads[((0 + (i : Int)) * (0 + (i : Int)) % (1 + r1)).toNat]? = some x := ⟨_, List.getElem?_eq_getElem (by omega)⟩
      obtain ⟨w2, ew2, hw2⟩ := wa6.get ex2
      have hx2r : r ≠ x2 := fun e => hra (by rw [e]; exact List.mem_of_getElem? ex2)
      have hx2b : b ≠ x2 := fun e => hba (by rw [e]; exact List.mem_of_getElem? ex2)
      have hws2 : ∀ w ∈ ws.set ((0 + (i : Int)) % (1 + r1)).toNat (w1 ++ [0 + (i : Int) + 1]), w.length ≤ 2 * i + 1 := fun w hw => by
        rcases mem_set hw with h | h
        · have := hws w h; omega
        · subst h; simp; omega
      have hw2l := hws2 w2 (List.mem_of_getElem? ew2)
      refine ⟨_, rfl, _, rfl, _, rfl, _, _, rfl, rfl, .inl ⟨by omega, by omega⟩, _, rfl, _, _, rfl, rfl, hpos, r, _, _, _, rfl, rfl, SqL.of (by rw [upd_ne hx1r]; exact er), at_ref ex2 (by omega), .inl ⟨rfl, _, SqL.of hw2⟩, _, rfl, _, rfl, _, _, rfl, rfl, x2, _, _, rfl, rfl, hw2, by rw [len_int]; exact small1000 (by omega), ?_⟩
      rw [map_snoc]
      have wa7 := WsAt.set (w' := w2 ++ [-(0 + (i : Int)) - 1]) wa6 nd ex2
      have s7 := s6.own (fr x2 (List.mem_of_getElem? ex2)) (.lst ((w2 ++ [-(0 + (i : Int)) - 1]).map V.int))
      have er7 : (upd (upd H4 x1 (.lst ((w1 ++ [0 + (i : Int) + 1]).map V.int))) x2 (.lst ((w2 ++ [-(0 + (i : Int)) - 1]).map V.int))) r = some (.lst (ads.map V.ref)) := by rw [upd_ne hx2r, upd_ne hx1r]; exact er
      have eb7 : (upd (upd H4 x1 (.lst ((w1 ++ [0 + (i : Int) + 1]).map V.int))) x2 (.lst ((w2 ++ [-(0 + (i : Int)) - 1]).map V.int))) b = some (.lst (tds.map V.ref)) := by rw [upd_ne hx2b, upd_ne hx1b]; exact eb
      have sa7 : SgAt (upd (upd H4 x1 (.lst ((w1 ++ [0 + (i : Int) + 1]).map V.int))) x2 (.lst ((w2 ++ [-(0 + (i : Int)) - 1]).map V.int))) tds sg := by
        exact sg_other (sg_other sa hw1) hw2
      refine ⟨_, rfl, .inl ⟨rfl, _, SqL.of eb7⟩, _, rfl, _, _, rfl, rfl, _, rfl, _, _, rfl, rfl, (by show (0 : Int) < 2; decide), _, _, rfl, rfl, .inl ⟨by decide, by decide⟩, _, _, rfl, rfl, (by show 2 ≤ sizeLine; decide), fun t ht => ?_⟩
      refine ⟨b, _, _, rfl, rfl, (same_new ht _) _ _ eb7, by rw [len_ref]; exact small1000 (by omega), ?_⟩
      have htb : t ≠ b := fun e => by rw [e, eb7] at ht; cases ht
      refine ⟨_, _, tds ++ [t], sg ++ [(0 + (i : Int) + 1, 1 - 2 * ((0 + (i : Int)) % 2))], rfl, (s7.new ht _).own hb0 _, by rw [upd_ne hrb]; exact (same_new ht _) _ _ er7, (wa7.keep (same_new ht _)).other hba, by rw [upd_same, ref_snoc], ?_, by simp [lsg], ?_, ?_, ?_, ?_⟩
      · refine sg_other (xs := tds.map V.ref) (Paired.app (sa7.keep (same_new ht _)) (.cons ?_ .nil)) ((same_new ht _) _ _ eb7)
        exact upd_same
      · intro w hw
        rcases mem_set hw with h | h
        · have := hws2 w h; omega
        · subst h; simp; omega
      · refine (perm_set (y := -(0 + (i : Int)) - 1) ew2).trans ?_
        refine (List.Perm.cons _ ((perm_set (y := 0 + (i : Int) + 1) ew1).trans (List.Perm.cons _ hpm))).trans ?_
        rw [List.map_append, List.flatMap_append]
        rw [show -(0 + (i : Int)) - 1 = -(0 + (i : Int) + 1) by omega]
        exact (List.Perm.swap _ _ _).trans (List.perm_append_comm (l₁ := [0 + (i : Int) + 1, -(0 + (i : Int) + 1)]))
      · rw [List.map_append, List.pairwise_append]
        refine ⟨hri, List.pairwise_singleton _ _, fun x hx y hy => ?_⟩
        rw [List.mem_singleton.mp hy]
        obtain ⟨e, he, rfl⟩ := List.mem_map.mp hx
        have := (hpo e he).2.1
        show e.1 < 0 + (i : Int) + 1
        omega
      · intro e he
        rcases List.mem_append.mp he with he | he
        · have := hpo e he
          exact ⟨this.1, by omega, this.2.2⟩
        · rw [List.mem_singleton.mp he]
          exact ⟨by show 1 ≤ 0 + (i : Int) + 1; omega, by show 0 + (i : Int) + 1 ≤ _; omega, by show 1 - 2 * ((0 + (i : Int)) % 2) = 1 ∨ 1 - 2 * ((0 + (i : Int)) % 2) = -1; omega⟩
    · rintro σ H4 ⟨kk, ws, tds, sg, rfl, s5, er, wa5, eb, sa, lsg, hws, hpm, hri, hpo⟩
      have hlw : ads.length = ws.length := Paired.len wa5
      refine ⟨_, rfl, _, rfl, (by show 2 ≤ sizeLine; decide), fun tp htp => ?_⟩
      have s6 : Same H4 (upd H4 tp (.tup [.ref r, .ref b])) := same_new htp _
      exact q tp ws sg _ (s5.trans s6) ⟨r, b, ads, tds, ⟨upd_same, s6 _ _ er, s6 _ _ eb, wa5.keep s6, sa.keep s6, hrb, hra, hba⟩, hr0, hb0, fr⟩ ⟨by omega, fun w hw => (by have := hws w hw; omega), by omega⟩ ⟨hri, fun e he => ⟨(hpo e he).1, (hpo e he).2.2⟩, hpm⟩
theorem sc_law : FnScope ["_law_script", "_law_drawing", "_law_great_here", "_law_some", "_law_walk", "_law_steps", "_law_new", "_law_found"] ["_law_script"] (defScope s_law) := ⟨rfl, rfl, rfl, by decide +kernel, rfl, by decide +kernel, by decide +kernel⟩
set_option maxHeartbeats 4000000 in
theorem ok_law {f : Addr} {fd : FuncData} (F : Fun K "law" "law" s_law f fd) (g_drawn : Fn P w K mg base 3 "_law_drawn" ["_law_script", "_law_place", "_law_most"] (sp_drawn K)) (g_row : Fn P w K mg base 2 "_law_row" ["_law_script", "_law_place", "_law_sizes"] (sp_row K)) (g_backward : Fn P w K mg base 1 "backward" ["drawing"] (sp_backward K)) (g_alike : Fn P w K mg base 6 "_law_alike" ["_law_drawing", "_law_new", "_law_pairs_here", "_law_swaps"] (sp_alike K)) (g_great : Fn P w K mg base 1 "_law_great" ["_law_some"] (sp_great K)) (g_begun : Fn P w K mg base 2 "_law_begun" ["_law_drawing", "_law_walk", "_law_steps"] (sp_begun18 K)) (g_turned : Fn P w K mg base 2 "turned" ["drawing", "walk", "by"] (sp_turned K)) (g_copy : Fn P w K mg base 1 "_law_copy" ["_law_drawing"] (sp_copy K)) (g_pairs : Fn P w K mg base 1 "_law_pairs" ["_law_drawing", "_law_walk", "_law_steps", "_law_turns_round"] (sp_pairs K)) (g_is_drawing : Fn P w K mg base 2 "_law_is_drawing" ["_law_found"] (sp_is_drawing K)) (Z : Blt mg) : FnOk P w K mg base CX0 7 f fd ["_law_script"] (sp_law K) := by
  refine F.ok sc_law (fun vs H Q E h => ?_) (fun cdv A outer s H vs Q E hr h => ?_)
  · obtain ⟨a, ns, rfl, _⟩ := h; rfl
  obtain ⟨a, ns, rfl, hS, h63, k⟩ := h
  have hu := hu8 hr
  have hu1 := hu_of hr
  obtain ⟨u_1, hu_1, r_1⟩ : ∃ u, PSs (cxOf CX0 P w K mg base ["_law_script", "_law_drawing", "_law_great_here", "_law_some", "_law_walk", "_law_steps", "_law_new", "_law_found"] "law" (defScope s_law) f cdv A outer s H E).nox ((defBody s_law).drop 5) u ∧ ∀ (gr so p : Addr) (ws : List (List Int)) (sg : List (Int × Int)) (Hc : Hp) (wk st nw fo : Option V), Same H Hc → IsDr Hc p ws sg → Small ws sg → Good ws sg → u ({ nx := fun _ H' => Q .non H', rt := Q } : Ends) [some (.ref a), some (.ref p), some (.ref gr), some (.ref so), wk, st, nw, fo] Hc := by
    refine ⟨_, (pss_cons (ps_set (i := 6) sc_law.nd rfl (Or.inl rfl) (pe_tup (pa_cons (pe_comp (defScope s_law) ["_law_script", "_law_drawing", "_law_great_here", "_law_some", "_law_walk", "_law_steps", "_law_new", "_law_found"] ["_law_walk"] [] rfl (pi_list (pe_ix ix_tup (pv 1) pe_int (fun _ _ => rfl))) (gk_name (by decide)) (fun cl C s H ex E => ⟨pg_name (i := 0) (show List.Nodup (["_law_walk"] : List Str) by decide +kernel) rfl (Or.inl rfl), pts_nil, (pe_sliceR K rfl (pv 0) (pe_un un_neg pe_int))⟩)) (pa_cons (pe_callTy call_list_of rfl Z.b_list PyProof.Rows.boot_list (pa_cons (pe_ix ix_tup (pv 1) pe_int (fun _ _ => rfl)) pa_nil)) pa_nil))))
    (pss_cons (ps_set (i := 7) sc_law.nd rfl (Or.inl rfl) (pe_fn g_backward hr (by decide) (pa_cons (pe_fn g_copy hr (by decide) (pa_cons (pv 1) pa_nil)) pa_nil)))
    (pss_cons (ps_if (PW.pt (pw_or (pt_not (pt_val (pe_fn g_is_drawing hr (by decide) (pa_cons (pv 7) pa_nil)))) (pw_or1 (pt_cmpR (op_neE (eq_tup2 (eq_list (eq_list eq_int)) (eq_list (eq_tup2 eq_int eq_int))) (le_hu (by decide) hu)) (pv 7) (pv 6) (nomark _)))))
      (pss_one (ps_ret pe_bl))
      pss_nil)
    (pss_one (ps_ret (pe_fn g_alike hr (by decide) (pa_cons (pv 1) (pa_cons (pv 6) (pa_cons (pe_fn g_pairs hr (by decide) (pa_cons (pv 1) (pa_cons pe_int (pa_cons pe_int (pa_cons pe_bl pa_nil))))) (pa_cons pe_bl pa_nil)))))))))), ?_⟩

    intro gr so p ws sg Hc wk st nw0 fo0 sC hd hs hg
    obtain ⟨a0, b0, ads, tds, d⟩ := id hd
    have hla := len_ref ads
    have hlw := d.wa.len
    have hsw := hs.w
    refine ⟨_, rfl, p, _, _, _, rfl, rfl, SqT.of d.tp, at2_0 _ _, a0, rfl, ⟨_, SqL.of d.la⟩, ?_⟩
    refine comp_list (K := K) (a := a0) (xs := ads.map V.ref) (fun i ys H6 => ∃ nads : List Addr, ys = nads.map V.ref ∧ nads.length = i ∧ Same Hc H6 ∧ WsAt H6 nads ((ws.map List.reverse).take i))
      ⟨[], rfl, rfl, Same.refl _, .nil⟩ (fun i ys H6 hi ⟨nads, e, ln, s6, _⟩ => ⟨SqL.of (s6 _ _ d.la), by rw [e, len_ref]; exact szle (by omega)⟩) ?_ ?_
    · rintro i y ys H6 hi ⟨nads, rfl, ln, s6, wa⟩
      obtain ⟨bi, rfl, hbi⟩ := ref_at hi
      obtain ⟨w, hw, ew⟩ := d.wa.get hbi
      refine turn0 ?_
      refine ⟨_, rfl, _, rfl, rfl, bi, _, rfl, SqL.of (s6 _ _ ew), fun t ht => ?_⟩
      refine ⟨nads ++ [t], by rw [ref_snoc], by simp [ln], s6.new ht _, ?_⟩
      rw [take_succ' (x := w.reverse) (by rw [List.getElem?_map, hw]; rfl), ← List.map_reverse]
      exact Paired.app (wa.keep (same_new ht _)) (.cons upd_same .nil)
    rintro ys H6 r ⟨nads, rfl, ln, s6, wa⟩ hr
    rw [List.take_of_length_le (by rw [List.length_map]; omega)] at wa
    have hrn : r ∉ nads := wa.fresh hr
    have s6r := same_new hr (.lst (nads.map V.ref))
    have c6 := s6.trans s6r
    refine ⟨_, rfl, p, _, _, _, rfl, rfl, SqT.of (c6 _ _ d.tp), at2_1 _ _, b0, _, rfl, .inl (SqL.of (c6 _ _ d.lb)), fun l hl => ?_⟩
    have hrl : r ≠ l := ne_of_none upd_same hl
    refine ⟨(by show 2 ≤ sizeLine; decide), fun nw hnw => ?_⟩
    have s67 := (same_new hl (.lst (tds.map V.ref))).trans (same_new hnw (.tup [.ref r, .ref l]))
    have c7 := c6.trans s67
    have Dn : IsDr (upd (upd (upd H6 r (.lst (nads.map V.ref))) l (.lst (tds.map V.ref))) nw (.tup [.ref r, .ref l])) nw (ws.map List.reverse) sg :=
      ⟨r, l, nads, tds, upd_same, s67 _ _ upd_same, (same_new hnw _) _ _ upd_same, wa.keep (s6r.trans s67), d.sa.keep c7, hrl, hrn, (wa.keep s6r).fresh hl⟩
    generalize upd (upd (upd H6 r (.lst (nads.map V.ref))) l (.lst (tds.map V.ref))) nw (.tup [.ref r, .ref l]) = H7 at s67 c7 Dn ⊢
    have hsn : Small (ws.map List.reverse) sg := ⟨by rw [List.length_map]; exact hs.w, fun x hx => by
      obtain ⟨y, hy, e⟩ := List.mem_map.mp hx
      rw [← e, List.length_reverse]; exact hs.p y hy, hs.s⟩
    have hgn : Good (ws.map List.reverse) sg := hg.perm (revs_perm ws)
    refine ⟨_, rfl, p, ws, sg, rfl, hd.keep c7, hs, fun cp H8 s8 nd8 => ?_⟩
    refine ⟨cp, ws, sg, rfl, nd8.is, hs, fun fo H9 s9 nd9 => ?_⟩
    have s79 := s8.trans s9
    refine ⟨_, rfl, fo, _, _, rfl, nd9.is, _, rfl, iteF ?_⟩
    refine ⟨_, rfl, _, rfl, (_, sg), (_, sg), nd9.is.enc, (Dn.keep s79).enc, _, rfl, iteNS rfl ?_⟩
    have c9 := c7.trans s79
    refine ⟨_, rfl, _, rfl, _, rfl, p, ws, sg, 0, 0, true, rfl, hd.keep c9, hs, fun rp pads prs H10 s10 eP hpa hpo => ?_⟩
    refine ⟨p, nw, rp, pads, prs, ws, ws.map List.reverse, sg, true, -1, _, _, rfl, hd.keep (c9.trans s10), Dn.keep (s79.trans s10), hs, hsn, hg, hgn, eP, hpa, hpo, carry_rev ws 0 0, fun e he v hv => ?_, fun H11 s11 => ?_⟩
    · obtain ⟨o, x, y, o', x', y', h0, h1, h2, h3, h4⟩ := meet_rev (fun i k w h => toOf_rev h) (carry_rev ws 0 0) (good_nodup hgn) (hg.pos e he).1 hv
      exact ⟨o, x, y, o', x', y', h0, h1, h2, h3, by simpa using h4⟩
    exact k _
  obtain ⟨u_0, hu_0, r_0⟩ : ∃ u, PSs (cxOf CX0 P w K mg base ["_law_script", "_law_drawing", "_law_great_here", "_law_some", "_law_walk", "_law_steps", "_law_new", "_law_found"] "law" (defScope s_law) f cdv A outer s H E).nox ((defBody s_law).drop 3) u ∧ ∀ (gr p : Addr) (ws : List (List Int)) (sg : List (Int × Int)) (Hc : Hp), Same H Hc → IsDr Hc p ws sg → Small ws sg → Good ws sg → u ({ nx := fun _ H' => Q .non H', rt := Q } : Ends) [some (.ref a), some (.ref p), some (.ref gr), none, none, none, none, none] Hc := by
    refine ⟨_, (pss_cons (ps_set (i := 3) sc_law.nd rfl (Or.inl rfl) (pe_fn g_row hr (by decide) (pa_cons (pv 0) (pa_cons pe_int (pa_cons (pe_lst (pa_cons pe_int (pa_cons pe_int pa_nil))) pa_nil)))))
    (pss_cons (ps_if (pt_cmpR op_gt (pe_callB call_len_seq rfl Z.b_len PySem.boot_len (pa_cons (pe_ix ix_tup (pv 1) pe_int (fun _ _ => rfl)) pa_nil)) pe_int (nomark _))
      (pss_cons (ps_set (i := 4) sc_law.nd rfl (Or.inl rfl) (pe_op op_mod (pe_ix ix_list (pv 3) pe_int (fun _ _ => rfl)) (pe_callB call_len_seq rfl Z.b_len PySem.boot_len (pa_cons (pe_ix ix_tup (pv 1) pe_int (fun _ _ => rfl)) pa_nil))))
      (pss_cons (ps_set (i := 5) sc_law.nd rfl (Or.inl rfl) (pe_op op_sub (pe_ix ix_list (pv 3) pe_int (fun _ _ => rfl)) pe_int))
      (pss_cons (ps_set (i := 6) sc_law.nd rfl (Or.inl rfl) (pe_fn g_begun hr (by decide) (pa_cons (pv 1) (pa_cons (pv 4) (pa_cons (pv 5) pa_nil)))))
      (pss_cons (ps_set (i := 7) sc_law.nd rfl (Or.inl rfl) (pe_fn g_turned hr (by decide) (pa_cons (pe_fn g_copy hr (by decide) (pa_cons (pv 1) pa_nil)) (pa_cons (pv 4) (pa_cons (pv 5) pa_nil)))))
      (pss_cons (ps_if (PW.pt (pw_or (pt_not (pt_val (pe_fn g_is_drawing hr (by decide) (pa_cons (pv 7) pa_nil)))) (pw_or1 (pt_cmpR (op_neE (eq_tup2 (eq_list (eq_list eq_int)) (eq_list (eq_tup2 eq_int eq_int))) (le_hu (by decide) hu)) (pv 7) (pv 6) (nomark _)))))
        (pss_one (ps_ret pe_bl))
        pss_nil)
      (pss_one (ps_if (pt_not (pt_val (pe_fn g_alike hr (by decide) (pa_cons (pv 1) (pa_cons (pv 6) (pa_cons (pe_fn g_pairs hr (by decide) (pa_cons (pv 1) (pa_cons (pv 4) (pa_cons (pv 5) (pa_cons pe_bl pa_nil))))) (pa_cons pe_bl pa_nil)))))))
        (pss_one (ps_ret pe_bl))
        pss_nil)))))))
      pss_nil)
    hu_1)), ?_⟩

    intro gr p ws sg Hc sC hd hs hg
    refine ⟨_, rfl, (by show 2 ≤ sizeLine; decide), fun z1 hz1 => ?_⟩
    have s1 := same_new hz1 (.lst [V.int 12, V.int 41])
    refine ⟨a, ns, 1, z1, [12, 41], rfl, (sC.trans s1).seq hS, h63, by decide, by decide, upd_same, by decide, by decide +kernel, fun so acc H2 s2 hso eso ls hb => ?_⟩
    obtain ⟨r0, r1, rfl⟩ := list2 ls
    have c2 := s1.trans s2
    obtain ⟨a0, b0, ads, tds, d⟩ := id hd
    have hla := len_ref ads
    have hlw := d.wa.len
    refine ⟨_, rfl, p, _, _, _, rfl, rfl, SqT.of (c2 _ _ d.tp), at2_0 _ _, a0, _, rfl, .inl (SqL.of (c2 _ _ d.la)), _, _, rfl, rfl, _, rfl, ?_⟩
    refine ite2 (fun c => ?_) (fun c => ?_)
    · have c' := of_decide_eq_true c
      have hpos : (0 : Int) < ((ads.map V.ref).length : Int) := by omega
      have m0 := Int.emod_nonneg r0 (show ((ads.map V.ref).length : Int) ≠ 0 by omega)
      have m1 := Int.emod_lt_of_pos r0 hpos
      refine ⟨_, rfl, so, _, _, _, rfl, rfl, SqL.of eso, at_of (ns := [r0, r1]) (j := 0) rfl rfl, _, rfl, p, _, _, _, rfl, rfl, SqT.of (c2 _ _ d.tp), at2_0 _ _, a0, _, rfl, .inl (SqL.of (c2 _ _ d.la)), _, _, rfl, rfl, hpos, ?_⟩
      obtain ⟨n, hn⟩ : ∃ n : Nat, r0 % ((ads.map V.ref).length : Int) = (n : Int) := ⟨_, (Int.toNat_of_nonneg m0).symm⟩
      have hvs : ∀ x : Addr, [V.ref x, V.int (r0 % ((ads.map V.ref).length : Int)), V.int (r1 - 20)] = [V.ref x, V.int (n : Int), V.int (r1 - 20)] := fun x => by rw [hn]
      refine ⟨_, rfl, so, _, _, _, rfl, rfl, SqL.of eso, at_of (ns := [r0, r1]) (j := 1) rfl rfl, _, _, rfl, rfl, ?_⟩
      obtain ⟨w, hw⟩ : ∃ w, ws[n]? = some w := ⟨_, List.getElem?_eq_getElem (by omega)⟩
      obtain ⟨cs, C⟩ := carry_rot hw (r1 - 20)
      have hsn : Small (ws.set n (rot w (r1 - 20))) sg := ⟨by rw [List.length_set]; exact hs.w, fun x hx => (mem_set hx).elim (hs.p x) (fun e => by rw [e, rot_length]; exact mem_small hs hw), hs.s⟩
      have hgn : Good (ws.set n (rot w (r1 - 20))) sg := hg.perm (set_perm hw (rot_perm _ _))
      refine ⟨_, rfl, _, rfl, _, rfl, p, ws, sg, n, w, r1 - 20, hvs p, hd.keep c2, hs, hw, fun nw H3 s3 nd3 => ?_⟩
      refine ⟨_, rfl, p, ws, sg, rfl, hd.keep (c2.trans s3), hs, fun cp H4 s4 nd4 => ?_⟩
      refine ⟨_, rfl, _, rfl, cp, ws, sg, n, w, r1 - 20, hvs cp, nd4.is, hs, hw, fun fo H5 s5 nd5 => ?_⟩
      have s35 := s4.trans s5
      have c5 := c2.trans (s3.trans s35)
      refine ⟨_, rfl, fo, _, _, rfl, nd5.is, _, rfl, iteF ?_⟩
      refine ⟨_, rfl, _, rfl, (_, sg), (_, sg), nd5.is.enc, (nd3.is.keep s35).enc, _, rfl, iteNS rfl ?_⟩
      refine ⟨_, rfl, _, rfl, _, rfl, _, rfl, _, rfl, p, ws, sg, r0 % ((ads.map V.ref).length : Int), r1 - 20, false, rfl, hd.keep c5, hs, fun rp pads prs H6 s6 eP hpa hpo => ?_⟩
      rw [hn] at hpo
      refine ⟨p, nw, rp, pads, prs, ws, ws.set n (rot w (r1 - 20)), sg, false, 1, cs, _, rfl, hd.keep (c5.trans s6), nd3.is.keep (s35.trans s6), hs, hsn, hg, hgn, eP, hpa, hpo, C, fun e he v hv => ?_, fun H7 s7 => ?_⟩
      · obtain ⟨o, x, y, o', x', y', h0, h1, h2, h3, h4⟩ := meet_rot C (good_nodup hgn) (rot_passage hw _) hv
        exact ⟨o, x, y, o', x', y', h0, h1, h2, h3, by simpa using h4⟩
      refine ⟨_, rfl, iteF ?_⟩
      have c7 := c5.trans (s6.trans s7)
      exact r_1 gr so p ws sg H7 _ _ _ _ (sC.trans c7) (hd.keep c7) hs hg
    · exact r_1 gr so p ws sg H2 _ _ _ _ (sC.trans c2) (hd.keep c2) hs hg
  refine ⟨_, (pss_cons (ps_set (i := 1) sc_law.nd rfl (Or.inl rfl) (pe_fn g_drawn hr (by decide) (pa_cons (pv 0) (pa_cons pe_int (pa_cons pe_int pa_nil)))))
    (pss_cons (ps_set (i := 2) sc_law.nd rfl (Or.inl rfl) (pe_fn g_row hr (by decide) (pa_cons (pv 0) (pa_cons pe_int (pa_cons (pe_lst (pa_cons pe_int (pa_cons pe_int (pa_cons pe_int (pa_cons pe_int pa_nil))))) pa_nil)))))
    (pss_cons (ps_if (pt_cmpR op_eq (pe_ix ix_list (pv 2) pe_int (fun _ _ => rfl)) pe_int (nomark _))
      (pss_one (ps_set (i := 1) sc_law.nd rfl (Or.inl rfl) (pe_fn g_great hr (by decide) (pa_cons (pe_slice sl_list (pv 2) (po_some pe_int) po_none) pa_nil))))
      pss_nil)
    hu_0))), ?_⟩

  refine ⟨_, rfl, a, ns, 0, 12, rfl, hS, h63, by decide, by decide, by decide, by decide, fun p ws sg H1 s1 nd1 hs1 hg1 => ?_⟩
  refine ⟨_, rfl, (by show 4 ≤ sizeLine; decide), fun z0 hz0 => ?_⟩
  have s2 := same_new hz0 (.lst [V.int 8, V.int 5, V.int 4, V.int 9])
  refine ⟨a, ns, 9, z0, [8, 5, 4, 9], rfl, (s1.trans s2).seq hS, h63, by decide, by decide, upd_same, by decide, by decide +kernel, fun gr acc H2 s3 hgr egr lg hb => ?_⟩
  obtain ⟨g0, g1, g2, g3, rfl⟩ := list4 lg
  have b1 := hb 1 5 g1 rfl rfl
  have b2 := hb 2 4 g2 rfl rfl
  have b3 := hb 3 9 g3 rfl rfl
  have c2 := s2.trans s3
  refine ⟨_, rfl, gr, _, _, _, rfl, rfl, SqL.of egr, at_of (ns := [g0, g1, g2, g3]) (j := 0) rfl rfl, rfl, _, rfl, ?_⟩
  rw [eqI]
  refine ite2 (fun c => ?_) (fun c => ?_)
  · refine ⟨_, rfl, _, rfl, gr, _, rfl, SqL.of egr, fun t ht => ?_⟩
    refine ⟨t, g1, g2, g3, rfl, upd_same, b1.1, b1.2, b2.1, b2.2, b3.1, b3.2, fun p2 ws2 sg2 H3 s4 nd3 hs3 hg3 => ?_⟩
    exact r_0 gr p2 ws2 sg2 H3 (s1.trans (c2.trans ((same_new ht _).trans s4))) nd3.is hs3 hg3
  · exact r_0 gr p ws sg H2 (s1.trans c2) (nd1.is.keep c2) hs1 hg1
end
theorem all_mk {l : PySem.W.OpenLaw} {w : World} {K : PySem.W.Frag} {h : Heap} {mg : Str → Option Value} {fa f1 f2 f3 f4 f5 f6 f7 f8 f9 f10 f11 f12 f13 f14 f15 f16 f17 f18 f19 f20 f21 f22 f23 f24 f25 f26 f27 f28 : Addr} (X : K.In h) (G : h.Ns mainGlobals mg) (hfa : mg "law" = some (.ref fa))
    {od1 an1 od2 an2 od3 an3 od4 an4 od5 an5 od6 an6 od7 an7 od8 an8 od9 an9 od10 an10 od11 an11 od12 an12 od13 an13 od14 an14 od15 an15 od16 an16 od17 an17 od18 an18 od19 an19 od20 an20 od21 an21 od22 an22 od23 an23 od24 an24 od25 an25 od26 an26 od27 an27 od28 an28 : Option Addr} {sl1 sl2 sl3 sl4 sl5 sl6 sl7 sl8 sl9 sl10 sl11 sl12 sl13 sl14 sl15 sl16 sl17 sl18 sl19 sl20 sl21 sl22 sl23 sl24 sl25 sl26 sl27 sl28 : Array (Option Value)} {oc1 kV1 dc1 pm1 cd1 ct1 oc2 kV2 dc2 pm2 cd2 ct2 oc3 kV3 dc3 pm3 cd3 ct3 oc4 kV4 dc4 pm4 cd4 ct4 oc5 kV5 dc5 pm5 cd5 ct5 oc6 kV6 dc6 pm6 cd6 ct6 oc7 kV7 dc7 pm7 cd7 ct7 oc8 kV8 dc8 pm8 cd8 ct8 oc9 kV9 dc9 pm9 cd9 ct9 oc10 kV10 dc10 pm10 cd10 ct10 oc11 kV11 dc11 pm11 cd11 ct11 oc12 kV12 dc12 pm12 cd12 ct12 oc13 kV13 dc13 pm13 cd13 ct13 oc14 kV14 dc14 pm14 cd14 ct14 oc15 kV15 dc15 pm15 cd15 ct15 oc16 kV16 dc16 pm16 cd16 ct16 oc17 kV17 dc17 pm17 cd17 ct17 oc18 kV18 dc18 pm18 cd18 ct18 oc19 kV19 dc19 pm19 cd19 ct19 oc20 kV20 dc20 pm20 cd20 ct20 oc21 kV21 dc21 pm21 cd21 ct21 oc22 kV22 dc22 pm22 cd22 ct22 oc23 kV23 dc23 pm23 cd23 ct23 oc24 kV24 dc24 pm24 cd24 ct24 oc25 kV25 dc25 pm25 cd25 ct25 oc26 kV26 dc26 pm26 cd26 ct26 oc27 kV27 dc27 pm27 cd27 ct27 oc28 kV28 dc28 pm28 cd28 ct28 : Value}
    (a1 : PySem.W.nsIn K mainGlobals "spot" = some (some (.ref f1))) (l1 : K.lookup f1 = some ⟨oc1, od1, .func (PySem.W.fnOf "spot" "spot" (defArgs s_spot) (defBody s_spot) (defScope s_spot) .none kV1 dc1 pm1 an1 cd1 ct1), sl1⟩) (c1 : PySem.W.codeIn K cd1 "spot" = true) (k1 : PySem.W.keepIn K (.ref f1) = true)
    (a2 : PySem.W.nsIn K mainGlobals "arcs" = some (some (.ref f2))) (l2 : K.lookup f2 = some ⟨oc2, od2, .func (PySem.W.fnOf "arcs" "arcs" (defArgs s_arcs) (defBody s_arcs) (defScope s_arcs) .none kV2 dc2 pm2 an2 cd2 ct2), sl2⟩) (c2 : PySem.W.codeIn K cd2 "arcs" = true) (k2 : PySem.W.keepIn K (.ref f2) = true)
    (a3 : PySem.W.nsIn K mainGlobals "arc_count" = some (some (.ref f3))) (l3 : K.lookup f3 = some ⟨oc3, od3, .func (PySem.W.fnOf "arc_count" "arc_count" (defArgs s_arc_count) (defBody s_arc_count) (defScope s_arc_count) .none kV3 dc3 pm3 an3 cd3 ct3), sl3⟩) (c3 : PySem.W.codeIn K cd3 "arc_count" = true) (k3 : PySem.W.keepIn K (.ref f3) = true)
    (a4 : PySem.W.nsIn K mainGlobals "arcs_of_walk" = some (some (.ref f4))) (l4 : K.lookup f4 = some ⟨oc4, od4, .func (PySem.W.fnOf "arcs_of_walk" "arcs_of_walk" (defArgs s_arcs_of_walk) (defBody s_arcs_of_walk) (defScope s_arcs_of_walk) .none kV4 dc4 pm4 an4 cd4 ct4), sl4⟩) (c4 : PySem.W.codeIn K cd4 "arcs_of_walk" = true) (k4 : PySem.W.keepIn K (.ref f4) = true)
    (a5 : PySem.W.nsIn K mainGlobals "arcs_of_ways" = some (some (.ref f5))) (l5 : K.lookup f5 = some ⟨oc5, od5, .func (PySem.W.fnOf "arcs_of_ways" "arcs_of_ways" (defArgs s_arcs_of_ways) (defBody s_arcs_of_ways) (defScope s_arcs_of_ways) .none kV5 dc5 pm5 an5 cd5 ct5), sl5⟩) (c5 : PySem.W.codeIn K cd5 "arcs_of_ways" = true) (k5 : PySem.W.keepIn K (.ref f5) = true)
    (a6 : PySem.W.nsIn K mainGlobals "meets" = some (some (.ref f6))) (l6 : K.lookup f6 = some ⟨oc6, od6, .func (PySem.W.fnOf "meets" "meets" (defArgs s_meets) (defBody s_meets) (defScope s_meets) .none kV6 dc6 pm6 an6 cd6 ct6), sl6⟩) (c6 : PySem.W.codeIn K cd6 "meets" = true) (k6 : PySem.W.keepIn K (.ref f6) = true)
    (a7 : PySem.W.nsIn K mainGlobals "turned" = some (some (.ref f7))) (l7 : K.lookup f7 = some ⟨oc7, od7, .func (PySem.W.fnOf "turned" "turned" (defArgs s_turned) (defBody s_turned) (defScope s_turned) .none kV7 dc7 pm7 an7 cd7 ct7), sl7⟩) (c7 : PySem.W.codeIn K cd7 "turned" = true) (k7 : PySem.W.keepIn K (.ref f7) = true)
    (a8 : PySem.W.nsIn K mainGlobals "begun_later" = some (some (.ref f8))) (l8 : K.lookup f8 = some ⟨oc8, od8, .func (PySem.W.fnOf "begun_later" "begun_later" (defArgs s_begun_later) (defBody s_begun_later) (defScope s_begun_later) .none kV8 dc8 pm8 an8 cd8 ct8), sl8⟩) (c8 : PySem.W.codeIn K cd8 "begun_later" = true) (k8 : PySem.W.keepIn K (.ref f8) = true)
    (a9 : PySem.W.nsIn K mainGlobals "backward" = some (some (.ref f9))) (l9 : K.lookup f9 = some ⟨oc9, od9, .func (PySem.W.fnOf "backward" "backward" (defArgs s_backward) (defBody s_backward) (defScope s_backward) .none kV9 dc9 pm9 an9 cd9 ct9), sl9⟩) (c9 : PySem.W.codeIn K cd9 "backward" = true) (k9 : PySem.W.keepIn K (.ref f9) = true)
    (a10 : PySem.W.nsIn K mainGlobals "_law_cell" = some (some (.ref f10))) (l10 : K.lookup f10 = some ⟨oc10, od10, .func (PySem.W.fnOf "_law_cell" "_law_cell" (defArgs s_cell) (defBody s_cell) (defScope s_cell) .none kV10 dc10 pm10 an10 cd10 ct10), sl10⟩) (c10 : PySem.W.codeIn K cd10 "_law_cell" = true) (k10 : PySem.W.keepIn K (.ref f10) = true)
    (a11 : PySem.W.nsIn K mainGlobals "_law_mix" = some (some (.ref f11))) (l11 : K.lookup f11 = some ⟨oc11, od11, .func (PySem.W.fnOf "_law_mix" "_law_mix" (defArgs s_mix) (defBody s_mix) (defScope s_mix) .none kV11 dc11 pm11 an11 cd11 ct11), sl11⟩) (c11 : PySem.W.codeIn K cd11 "_law_mix" = true) (k11 : PySem.W.keepIn K (.ref f11) = true)
    (a12 : PySem.W.nsIn K mainGlobals "_law_row" = some (some (.ref f12))) (l12 : K.lookup f12 = some ⟨oc12, od12, .func (PySem.W.fnOf "_law_row" "_law_row" (defArgs s_row) (defBody s_row) (defScope s_row) .none kV12 dc12 pm12 an12 cd12 ct12), sl12⟩) (c12 : PySem.W.codeIn K cd12 "_law_row" = true) (k12 : PySem.W.keepIn K (.ref f12) = true)
    (a13 : PySem.W.nsIn K mainGlobals "_law_mixed" = some (some (.ref f13))) (l13 : K.lookup f13 = some ⟨oc13, od13, .func (PySem.W.fnOf "_law_mixed" "_law_mixed" (defArgs s_mixed) (defBody s_mixed) (defScope s_mixed) .none kV13 dc13 pm13 an13 cd13 ct13), sl13⟩) (c13 : PySem.W.codeIn K cd13 "_law_mixed" = true) (k13 : PySem.W.keepIn K (.ref f13) = true)
    (a14 : PySem.W.nsIn K mainGlobals "_law_any" = some (some (.ref f14))) (l14 : K.lookup f14 = some ⟨oc14, od14, .func (PySem.W.fnOf "_law_any" "_law_any" (defArgs s_any) (defBody s_any) (defScope s_any) .none kV14 dc14 pm14 an14 cd14 ct14), sl14⟩) (c14 : PySem.W.codeIn K cd14 "_law_any" = true) (k14 : PySem.W.keepIn K (.ref f14) = true)
    (a15 : PySem.W.nsIn K mainGlobals "_law_plaited" = some (some (.ref f15))) (l15 : K.lookup f15 = some ⟨oc15, od15, .func (PySem.W.fnOf "_law_plaited" "_law_plaited" (defArgs s_plaited) (defBody s_plaited) (defScope s_plaited) .none kV15 dc15 pm15 an15 cd15 ct15), sl15⟩) (c15 : PySem.W.codeIn K cd15 "_law_plaited" = true) (k15 : PySem.W.keepIn K (.ref f15) = true)
    (a16 : PySem.W.nsIn K mainGlobals "_law_drawn" = some (some (.ref f16))) (l16 : K.lookup f16 = some ⟨oc16, od16, .func (PySem.W.fnOf "_law_drawn" "_law_drawn" (defArgs s_drawn) (defBody s_drawn) (defScope s_drawn) .none kV16 dc16 pm16 an16 cd16 ct16), sl16⟩) (c16 : PySem.W.codeIn K cd16 "_law_drawn" = true) (k16 : PySem.W.keepIn K (.ref f16) = true)
    (a17 : PySem.W.nsIn K mainGlobals "_law_copy" = some (some (.ref f17))) (l17 : K.lookup f17 = some ⟨oc17, od17, .func (PySem.W.fnOf "_law_copy" "_law_copy" (defArgs s_copy) (defBody s_copy) (defScope s_copy) .none kV17 dc17 pm17 an17 cd17 ct17), sl17⟩) (c17 : PySem.W.codeIn K cd17 "_law_copy" = true) (k17 : PySem.W.keepIn K (.ref f17) = true)
    (a18 : PySem.W.nsIn K mainGlobals "_law_is_whole" = some (some (.ref f18))) (l18 : K.lookup f18 = some ⟨oc18, od18, .func (PySem.W.fnOf "_law_is_whole" "_law_is_whole" (defArgs s_is_whole) (defBody s_is_whole) (defScope s_is_whole) .none kV18 dc18 pm18 an18 cd18 ct18), sl18⟩) (c18 : PySem.W.codeIn K cd18 "_law_is_whole" = true) (k18 : PySem.W.keepIn K (.ref f18) = true)
    (a19 : PySem.W.nsIn K mainGlobals "_law_is_wholes" = some (some (.ref f19))) (l19 : K.lookup f19 = some ⟨oc19, od19, .func (PySem.W.fnOf "_law_is_wholes" "_law_is_wholes" (defArgs s_is_wholes) (defBody s_is_wholes) (defScope s_is_wholes) .none kV19 dc19 pm19 an19 cd19 ct19), sl19⟩) (c19 : PySem.W.codeIn K cd19 "_law_is_wholes" = true) (k19 : PySem.W.keepIn K (.ref f19) = true)
    (a20 : PySem.W.nsIn K mainGlobals "_law_is_drawing" = some (some (.ref f20))) (l20 : K.lookup f20 = some ⟨oc20, od20, .func (PySem.W.fnOf "_law_is_drawing" "_law_is_drawing" (defArgs s_is_drawing) (defBody s_is_drawing) (defScope s_is_drawing) .none kV20 dc20 pm20 an20 cd20 ct20), sl20⟩) (c20 : PySem.W.codeIn K cd20 "_law_is_drawing" = true) (k20 : PySem.W.keepIn K (.ref f20) = true)
    (a21 : PySem.W.nsIn K mainGlobals "_law_rows" = some (some (.ref f21))) (l21 : K.lookup f21 = some ⟨oc21, od21, .func (PySem.W.fnOf "_law_rows" "_law_rows" (defArgs s_rows) (defBody s_rows) (defScope s_rows) .none kV21 dc21 pm21 an21 cd21 ct21), sl21⟩) (c21 : PySem.W.codeIn K cd21 "_law_rows" = true) (k21 : PySem.W.keepIn K (.ref f21) = true)
    (a22 : PySem.W.nsIn K mainGlobals "_law_carries" = some (some (.ref f22))) (l22 : K.lookup f22 = some ⟨oc22, od22, .func (PySem.W.fnOf "_law_carries" "_law_carries" (defArgs s_carries) (defBody s_carries) (defScope s_carries) .none kV22 dc22 pm22 an22 cd22 ct22), sl22⟩) (c22 : PySem.W.codeIn K cd22 "_law_carries" = true) (k22 : PySem.W.keepIn K (.ref f22) = true)
    (a23 : PySem.W.nsIn K mainGlobals "_law_met" = some (some (.ref f23))) (l23 : K.lookup f23 = some ⟨oc23, od23, .func (PySem.W.fnOf "_law_met" "_law_met" (defArgs s_met) (defBody s_met) (defScope s_met) .none kV23 dc23 pm23 an23 cd23 ct23), sl23⟩) (c23 : PySem.W.codeIn K cd23 "_law_met" = true) (k23 : PySem.W.keepIn K (.ref f23) = true)
    (a24 : PySem.W.nsIn K mainGlobals "_law_alike" = some (some (.ref f24))) (l24 : K.lookup f24 = some ⟨oc24, od24, .func (PySem.W.fnOf "_law_alike" "_law_alike" (defArgs s_alike) (defBody s_alike) (defScope s_alike) .none kV24 dc24 pm24 an24 cd24 ct24), sl24⟩) (c24 : PySem.W.codeIn K cd24 "_law_alike" = true) (k24 : PySem.W.keepIn K (.ref f24) = true)
    (a25 : PySem.W.nsIn K mainGlobals "_law_begun" = some (some (.ref f25))) (l25 : K.lookup f25 = some ⟨oc25, od25, .func (PySem.W.fnOf "_law_begun" "_law_begun" (defArgs s_begun) (defBody s_begun) (defScope s_begun) .none kV25 dc25 pm25 an25 cd25 ct25), sl25⟩) (c25 : PySem.W.codeIn K cd25 "_law_begun" = true) (k25 : PySem.W.keepIn K (.ref f25) = true)
    (a26 : PySem.W.nsIn K mainGlobals "_law_pairs" = some (some (.ref f26))) (l26 : K.lookup f26 = some ⟨oc26, od26, .func (PySem.W.fnOf "_law_pairs" "_law_pairs" (defArgs s_pairs) (defBody s_pairs) (defScope s_pairs) .none kV26 dc26 pm26 an26 cd26 ct26), sl26⟩) (c26 : PySem.W.codeIn K cd26 "_law_pairs" = true) (k26 : PySem.W.keepIn K (.ref f26) = true)
    (a27 : PySem.W.nsIn K mainGlobals "_law_great" = some (some (.ref f27))) (l27 : K.lookup f27 = some ⟨oc27, od27, .func (PySem.W.fnOf "_law_great" "_law_great" (defArgs s_great) (defBody s_great) (defScope s_great) .none kV27 dc27 pm27 an27 cd27 ct27), sl27⟩) (c27 : PySem.W.codeIn K cd27 "_law_great" = true) (k27 : PySem.W.keepIn K (.ref f27) = true)
    (a28 : PySem.W.nsIn K mainGlobals "law" = some (some (.ref f28))) (l28 : K.lookup f28 = some ⟨oc28, od28, .func (PySem.W.fnOf "law" "law" (defArgs s_law) (defBody s_law) (defScope s_law) .none kV28 dc28 pm28 an28 cd28 ct28), sl28⟩) (c28 : PySem.W.codeIn K cd28 "law" = true) (k28 : PySem.W.keepIn K (.ref f28) = true)
    (z1 : PySem.W.nsIn K mainGlobals "bool" = some none)
    (z2 : PySem.W.nsIn K mainGlobals "enumerate" = some none)
    (z3 : PySem.W.nsIn K mainGlobals "int" = some none)
    (z4 : PySem.W.nsIn K mainGlobals "isinstance" = some none)
    (z5 : PySem.W.nsIn K mainGlobals "len" = some none)
    (z6 : PySem.W.nsIn K mainGlobals "list" = some none)
    (z7 : PySem.W.nsIn K mainGlobals "max" = some none)
    (z8 : PySem.W.nsIn K mainGlobals "min" = some none)
    (z9 : PySem.W.nsIn K mainGlobals "range" = some none)
    (z10 : PySem.W.nsIn K mainGlobals "reversed" = some none)
    (z11 : PySem.W.nsIn K mainGlobals "sum" = some none)
    (z12 : PySem.W.nsIn K mainGlobals "tuple" = some none)
    : ∃ fd : FuncData, (∀ (s : Shared) (v : Value), BindsTo s fd ⟨[v], []⟩ [("_law_script", v)]) ∧ ∀ base : Heap, K.In base → base.Ns mainGlobals mg → FnOk l.prog w K mg base CX0 7 fa fd ["_law_script"] (sp_law K) := by
  have e := hfa.symm.trans (PySem.W.mg_of X G a28)
  cases e
  have Z : Blt mg := ⟨PySem.W.mg_none_of X G z1, PySem.W.mg_none_of X G z2, PySem.W.mg_none_of X G z3, PySem.W.mg_none_of X G z4, PySem.W.mg_none_of X G z5, PySem.W.mg_none_of X G z6, PySem.W.mg_none_of X G z7, PySem.W.mg_none_of X G z8, PySem.W.mg_none_of X G z9, PySem.W.mg_none_of X G z10, PySem.W.mg_none_of X G z11, PySem.W.mg_none_of X G z12⟩
  have D1 : Def K mg "spot" s_spot ["drawing", "passage"] := ⟨f1, _, fun_mk (st := s_spot) l1 c1 k1, (fun_mk (st := s_spot) l1 c1 k1).binds (ps := ["drawing", "passage"]) fun _ _ _ _ _ _ us hl => match us, hl with | [_, _], _ => rfl, PySem.W.mg_of X G a1⟩
  have D2 : Def K mg "arcs" s_arcs ["drawing"] := ⟨f2, _, fun_mk (st := s_arcs) l2 c2 k2, (fun_mk (st := s_arcs) l2 c2 k2).binds (ps := ["drawing"]) fun _ _ _ _ _ _ us hl => match us, hl with | [_], _ => rfl, PySem.W.mg_of X G a2⟩
  have D3 : Def K mg "arc_count" s_arc_count ["drawing"] := ⟨f3, _, fun_mk (st := s_arc_count) l3 c3 k3, (fun_mk (st := s_arc_count) l3 c3 k3).binds (ps := ["drawing"]) fun _ _ _ _ _ _ us hl => match us, hl with | [_], _ => rfl, PySem.W.mg_of X G a3⟩
  have D4 : Def K mg "arcs_of_walk" s_arcs_of_walk ["walk"] := ⟨f4, _, fun_mk (st := s_arcs_of_walk) l4 c4 k4, (fun_mk (st := s_arcs_of_walk) l4 c4 k4).binds (ps := ["walk"]) fun _ _ _ _ _ _ us hl => match us, hl with | [_], _ => rfl, PySem.W.mg_of X G a4⟩
  have D5 : Def K mg "arcs_of_ways" s_arcs_of_ways ["walk", "first"] := ⟨f5, _, fun_mk (st := s_arcs_of_ways) l5 c5 k5, (fun_mk (st := s_arcs_of_ways) l5 c5 k5).binds (ps := ["walk", "first"]) fun _ _ _ _ _ _ us hl => match us, hl with | [_, _], _ => rfl, PySem.W.mg_of X G a5⟩
  have D6 : Def K mg "meets" s_meets ["drawing"] := ⟨f6, _, fun_mk (st := s_meets) l6 c6 k6, (fun_mk (st := s_meets) l6 c6 k6).binds (ps := ["drawing"]) fun _ _ _ _ _ _ us hl => match us, hl with | [_], _ => rfl, PySem.W.mg_of X G a6⟩
  have D7 : Def K mg "turned" s_turned ["drawing", "walk", "by"] := ⟨f7, _, fun_mk (st := s_turned) l7 c7 k7, (fun_mk (st := s_turned) l7 c7 k7).binds (ps := ["drawing", "walk", "by"]) fun _ _ _ _ _ _ us hl => match us, hl with | [_, _, _], _ => rfl, PySem.W.mg_of X G a7⟩
  have D8 : Def K mg "begun_later" s_begun_later ["passages", "by"] := ⟨f8, _, fun_mk (st := s_begun_later) l8 c8 k8, (fun_mk (st := s_begun_later) l8 c8 k8).binds (ps := ["passages", "by"]) fun _ _ _ _ _ _ us hl => match us, hl with | [_, _], _ => rfl, PySem.W.mg_of X G a8⟩
  have D9 : Def K mg "backward" s_backward ["drawing"] := ⟨f9, _, fun_mk (st := s_backward) l9 c9 k9, (fun_mk (st := s_backward) l9 c9 k9).binds (ps := ["drawing"]) fun _ _ _ _ _ _ us hl => match us, hl with | [_], _ => rfl, PySem.W.mg_of X G a9⟩
  have D10 : Def K mg "_law_cell" s_cell ["_law_script", "_law_place"] := ⟨f10, _, fun_mk (st := s_cell) l10 c10 k10, (fun_mk (st := s_cell) l10 c10 k10).binds (ps := ["_law_script", "_law_place"]) fun _ _ _ _ _ _ us hl => match us, hl with | [_, _], _ => rfl, PySem.W.mg_of X G a10⟩
  have D11 : Def K mg "_law_mix" s_mix ["_law_cell_here", "_law_k"] := ⟨f11, _, fun_mk (st := s_mix) l11 c11 k11, (fun_mk (st := s_mix) l11 c11 k11).binds (ps := ["_law_cell_here", "_law_k"]) fun _ _ _ _ _ _ us hl => match us, hl with | [_, _], _ => rfl, PySem.W.mg_of X G a11⟩
  have D12 : Def K mg "_law_row" s_row ["_law_script", "_law_place", "_law_sizes"] := ⟨f12, _, fun_mk (st := s_row) l12 c12 k12, (fun_mk (st := s_row) l12 c12 k12).binds (ps := ["_law_script", "_law_place", "_law_sizes"]) fun _ _ _ _ _ _ us hl => match us, hl with | [_, _, _], _ => rfl, PySem.W.mg_of X G a12⟩
  have D13 : Def K mg "_law_mixed" s_mixed ["_law_names", "_law_some"] := ⟨f13, _, fun_mk (st := s_mixed) l13 c13 k13, (fun_mk (st := s_mixed) l13 c13 k13).binds (ps := ["_law_names", "_law_some"]) fun _ _ _ _ _ _ us hl => match us, hl with | [_, _], _ => rfl, PySem.W.mg_of X G a13⟩
  have D14 : Def K mg "_law_any" s_any ["_law_names", "_law_some", "_law_rings"] := ⟨f14, _, fun_mk (st := s_any) l14 c14 k14, (fun_mk (st := s_any) l14 c14 k14).binds (ps := ["_law_names", "_law_some", "_law_rings"]) fun _ _ _ _ _ _ us hl => match us, hl with | [_, _, _], _ => rfl, PySem.W.mg_of X G a14⟩
  have D15 : Def K mg "_law_plaited" s_plaited ["_law_names", "_law_signs", "_law_some", "_law_strands"] := ⟨f15, _, fun_mk (st := s_plaited) l15 c15 k15, (fun_mk (st := s_plaited) l15 c15 k15).binds (ps := ["_law_names", "_law_signs", "_law_some", "_law_strands"]) fun _ _ _ _ _ _ us hl => match us, hl with | [_, _, _, _], _ => rfl, PySem.W.mg_of X G a15⟩
  have D16 : Def K mg "_law_drawn" s_drawn ["_law_script", "_law_place", "_law_most"] := ⟨f16, _, fun_mk (st := s_drawn) l16 c16 k16, (fun_mk (st := s_drawn) l16 c16 k16).binds (ps := ["_law_script", "_law_place", "_law_most"]) fun _ _ _ _ _ _ us hl => match us, hl with | [_, _, _], _ => rfl, PySem.W.mg_of X G a16⟩
  have D17 : Def K mg "_law_copy" s_copy ["_law_drawing"] := ⟨f17, _, fun_mk (st := s_copy) l17 c17 k17, (fun_mk (st := s_copy) l17 c17 k17).binds (ps := ["_law_drawing"]) fun _ _ _ _ _ _ us hl => match us, hl with | [_], _ => rfl, PySem.W.mg_of X G a17⟩
  have D18 : Def K mg "_law_is_whole" s_is_whole ["_law_one"] := ⟨f18, _, fun_mk (st := s_is_whole) l18 c18 k18, (fun_mk (st := s_is_whole) l18 c18 k18).binds (ps := ["_law_one"]) fun _ _ _ _ _ _ us hl => match us, hl with | [_], _ => rfl, PySem.W.mg_of X G a18⟩
  have D19 : Def K mg "_law_is_wholes" s_is_wholes ["_law_found"] := ⟨f19, _, fun_mk (st := s_is_wholes) l19 c19 k19, (fun_mk (st := s_is_wholes) l19 c19 k19).binds (ps := ["_law_found"]) fun _ _ _ _ _ _ us hl => match us, hl with | [_], _ => rfl, PySem.W.mg_of X G a19⟩
  have D20 : Def K mg "_law_is_drawing" s_is_drawing ["_law_found"] := ⟨f20, _, fun_mk (st := s_is_drawing) l20 c20 k20, (fun_mk (st := s_is_drawing) l20 c20 k20).binds (ps := ["_law_found"]) fun _ _ _ _ _ _ us hl => match us, hl with | [_], _ => rfl, PySem.W.mg_of X G a20⟩
  have D21 : Def K mg "_law_rows" s_rows ["_law_drawing"] := ⟨f21, _, fun_mk (st := s_rows) l21 c21 k21, (fun_mk (st := s_rows) l21 c21 k21).binds (ps := ["_law_drawing"]) fun _ _ _ _ _ _ us hl => match us, hl with | [_], _ => rfl, PySem.W.mg_of X G a21⟩
  have D22 : Def K mg "_law_carries" s_carries ["_law_old", "_law_new", "_law_pairs_here"] := ⟨f22, _, fun_mk (st := s_carries) l22 c22 k22, (fun_mk (st := s_carries) l22 c22 k22).binds (ps := ["_law_old", "_law_new", "_law_pairs_here"]) fun _ _ _ _ _ _ us hl => match us, hl with | [_, _, _], _ => rfl, PySem.W.mg_of X G a22⟩
  have D23 : Def K mg "_law_met" s_met ["_law_drawing", "_law_new", "_law_there", "_law_swaps"] := ⟨f23, _, fun_mk (st := s_met) l23 c23 k23, (fun_mk (st := s_met) l23 c23 k23).binds (ps := ["_law_drawing", "_law_new", "_law_there", "_law_swaps"]) fun _ _ _ _ _ _ us hl => match us, hl with | [_, _, _, _], _ => rfl, PySem.W.mg_of X G a23⟩
  have D24 : Def K mg "_law_alike" s_alike ["_law_drawing", "_law_new", "_law_pairs_here", "_law_swaps"] := ⟨f24, _, fun_mk (st := s_alike) l24 c24 k24, (fun_mk (st := s_alike) l24 c24 k24).binds (ps := ["_law_drawing", "_law_new", "_law_pairs_here", "_law_swaps"]) fun _ _ _ _ _ _ us hl => match us, hl with | [_, _, _, _], _ => rfl, PySem.W.mg_of X G a24⟩
  have D25 : Def K mg "_law_begun" s_begun ["_law_drawing", "_law_walk", "_law_steps"] := ⟨f25, _, fun_mk (st := s_begun) l25 c25 k25, (fun_mk (st := s_begun) l25 c25 k25).binds (ps := ["_law_drawing", "_law_walk", "_law_steps"]) fun _ _ _ _ _ _ us hl => match us, hl with | [_, _, _], _ => rfl, PySem.W.mg_of X G a25⟩
  have D26 : Def K mg "_law_pairs" s_pairs ["_law_drawing", "_law_walk", "_law_steps", "_law_turns_round"] := ⟨f26, _, fun_mk (st := s_pairs) l26 c26 k26, (fun_mk (st := s_pairs) l26 c26 k26).binds (ps := ["_law_drawing", "_law_walk", "_law_steps", "_law_turns_round"]) fun _ _ _ _ _ _ us hl => match us, hl with | [_, _, _, _], _ => rfl, PySem.W.mg_of X G a26⟩
  have D27 : Def K mg "_law_great" s_great ["_law_some"] := ⟨f27, _, fun_mk (st := s_great) l27 c27 k27, (fun_mk (st := s_great) l27 c27 k27).binds (ps := ["_law_some"]) fun _ _ _ _ _ _ us hl => match us, hl with | [_], _ => rfl, PySem.W.mg_of X G a27⟩
  refine ⟨PySem.W.fnOf "law" "law" (defArgs s_law) (defBody s_law) (defScope s_law) .none kV28 dc28 pm28 an28 cd28 ct28, fun s v => .of_eq rfl, fun base _ _ => ?_⟩
  have g_cell := ok_cell (P := l.prog) (w := w) (base := base) D10  Z
  have g_mix := ok_mix (P := l.prog) (w := w) (base := base) D11  Z
  have g_row := ok_row (P := l.prog) (w := w) (base := base) D12 g_cell g_mix Z
  have g_plaited := ok_plaited (P := l.prog) (w := w) (base := base) D15  Z
  have g_any := ok_any (P := l.prog) (w := w) (base := base) D14  Z
  have g_mixed := ok_mixed (P := l.prog) (w := w) (base := base) D13  Z
  have g_drawn := ok_drawn (P := l.prog) (w := w) (base := base) D16 g_row g_plaited g_any g_mixed Z
  have g_backward := ok_backward (P := l.prog) (w := w) (base := base) D9  Z
  have g_arcs_of_walk := ok_arcs_of_walk (P := l.prog) (w := w) (base := base) D4  Z
  have g_arcs_of_ways := ok_arcs_of_ways (P := l.prog) (w := w) (base := base) D5 g_arcs_of_walk Z
  have g_arcs := ok_arcs (P := l.prog) (w := w) (base := base) D2 g_arcs_of_walk g_arcs_of_ways Z
  have g_copy := ok_copy (P := l.prog) (w := w) (base := base) D17  Z
  have g_is_whole := ok_is_whole (P := l.prog) (w := w) (base := base) D18  Z
  have g_is_wholes := ok_is_wholes (P := l.prog) (w := w) (base := base) D19 g_is_whole Z
  have g_rows := ok_rows (P := l.prog) (w := w) (base := base) D21 g_arcs g_copy g_is_wholes Z
  have g_carries := ok_carries (P := l.prog) (w := w) (base := base) D22  Z
  have g_arc_count := ok_arc_count (P := l.prog) (w := w) (base := base) D3 g_arcs_of_walk Z
  have g_spot := ok_spot (P := l.prog) (w := w) (base := base) D1  Z
  have g_meets := ok_meets (P := l.prog) (w := w) (base := base) D6 g_arcs g_spot Z
  have g_met := ok_met (P := l.prog) (w := w) (base := base) D23 g_meets g_copy Z
  have g_alike := ok_alike (P := l.prog) (w := w) (base := base) D24 g_rows g_carries g_arc_count g_copy g_met Z
  have g_great := ok_great (P := l.prog) (w := w) (base := base) D27  Z
  have g_begun := ok_begun (P := l.prog) (w := w) (base := base) D25 g_copy Z
  have g_begun_later := ok_begun_later (P := l.prog) (w := w) (base := base) D8  Z
  have g_turned := ok_turned (P := l.prog) (w := w) (base := base) D7 g_begun_later Z
  have g_pairs := ok_pairs (P := l.prog) (w := w) (base := base) D26  Z
  have g_is_drawing := ok_is_drawing (P := l.prog) (w := w) (base := base) D20 g_is_whole Z
  exact ok_law (P := l.prog) (w := w) (base := base) (fun_mk (st := s_law) l28 c28 k28) g_drawn g_row g_backward g_alike g_great g_begun g_turned g_copy g_pairs g_is_drawing Z
theorem walk {l : PySem.W.OpenLaw} {q : Program} {loose : List Str} {XP : (Str → Option Value) → Heap → Prop} {YP : World → Heap → Prop} {d : DefRec} {K : Params → PySem.W.Frag} (hn : l.most = some 63) (hdf : d.params.defaults = [])
    (hY : ∀ (w : World) (h : Heap), YP w h → (K w.params).In h)
    (F : ∀ (w : World) (mg : Str → Option Value) (fa : Addr) (h : Heap), (K w.params).In h → h.Ns mainGlobals mg → mg d.name = some (.ref fa) →
      ∃ fd : FuncData, (∀ (s : Shared) (u : Value), BindsTo s fd ⟨[u], []⟩ [("_law_script", u)]) ∧ ∀ base : Heap, (K w.params).In base → base.Ns mainGlobals mg → FnOk l.prog w (K w.params) mg base CX0 7 fa fd ["_law_script"] (sp_law (K w.params))) :
    PySem.W.WalkO q loose XP YP l.row.toRowW d [] (fun f vs => PySem.call f vs) :=
  L2.walk_of (n := 63) (k := 7) (x := "_law_script") (CX := fun _ => CX0) (sp := fun w => sp_law (K w.params)) hn (by decide) hdf ⟨rfl, by decide, by decide⟩ hY F (fun _ _ a ns hl _ hS => ⟨a, ns, rfl, hS, hl, fun _ => rfl⟩) fun _ _ _ _ _ z => z
end My
open PySem PySem.W PyProof.Rows
set_option maxRecDepth 100000 in
set_option maxHeartbeats 0 in
theorem PySem.Challenge.cw_plait_k18_whole_arcs_stay_holds : PySem.Challenge.rw_plait_k18_whole_arcs_stay.Holds := by
  w_on; o_law; k_head; (case hw => w_witness2)
  k_fill
  refine My.walk (l := PySem.Challenge.rw_plait_k18_whole_arcs_stay) rfl rfl (fun w h Y => PySem.W.kIn_of Y) ?F
  case F =>
    intro w mg fa h KX G hmg
    refine' My.all_mk KX G hmg ?a1 ?l1 ?c1 ?k1 ?a2 ?l2 ?c2 ?k2 ?a3 ?l3 ?c3 ?k3 ?a4 ?l4 ?c4 ?k4 ?a5 ?l5 ?c5 ?k5 ?a6 ?l6 ?c6 ?k6 ?a7 ?l7 ?c7 ?k7 ?a8 ?l8 ?c8 ?k8 ?a9 ?l9 ?c9 ?k9 ?a10 ?l10 ?c10 ?k10 ?a11 ?l11 ?c11 ?k11 ?a12 ?l12 ?c12 ?k12 ?a13 ?l13 ?c13 ?k13 ?a14 ?l14 ?c14 ?k14 ?a15 ?l15 ?c15 ?k15 ?a16 ?l16 ?c16 ?k16 ?a17 ?l17 ?c17 ?k17 ?a18 ?l18 ?c18 ?k18 ?a19 ?l19 ?c19 ?k19 ?a20 ?l20 ?c20 ?k20 ?a21 ?l21 ?c21 ?k21 ?a22 ?l22 ?c22 ?k22 ?a23 ?l23 ?c23 ?k23 ?a24 ?l24 ?c24 ?k24 ?a25 ?l25 ?c25 ?k25 ?a26 ?l26 ?c26 ?k26 ?a27 ?l27 ?c27 ?k27 ?a28 ?l28 ?c28 ?k28 ?z1 ?z2 ?z3 ?z4 ?z5 ?z6 ?z7 ?z8 ?z9 ?z10 ?z11 ?z12
    (case a1 => k_is); (case l1 => k_is); (case c1 => k_is); (case k1 => k_is); (case a2 => k_is); (case l2 => k_is); (case c2 => k_is); (case k2 => k_is); (case a3 => k_is); (case l3 => k_is); (case c3 => k_is); (case k3 => k_is); (case a4 => k_is); (case l4 => k_is); (case c4 => k_is); (case k4 => k_is); (case a5 => k_is); (case l5 => k_is); (case c5 => k_is); (case k5 => k_is); (case a6 => k_is); (case l6 => k_is); (case c6 => k_is); (case k6 => k_is); (case a7 => k_is); (case l7 => k_is); (case c7 => k_is); (case k7 => k_is); (case a8 => k_is); (case l8 => k_is); (case c8 => k_is); (case k8 => k_is); (case a9 => k_is); (case l9 => k_is); (case c9 => k_is); (case k9 => k_is); (case a10 => k_is); (case l10 => k_is); (case c10 => k_is); (case k10 => k_is); (case a11 => k_is); (case l11 => k_is); (case c11 => k_is); (case k11 => k_is); (case a12 => k_is); (case l12 => k_is); (case c12 => k_is); (case k12 => k_is); (case a13 => k_is); (case l13 => k_is); (case c13 => k_is); (case k13 => k_is); (case a14 => k_is); (case l14 => k_is); (case c14 => k_is); (case k14 => k_is); (case a15 => k_is); (case l15 => k_is); (case c15 => k_is); (case k15 => k_is); (case a16 => k_is); (case l16 => k_is); (case c16 => k_is); (case k16 => k_is); (case a17 => k_is); (case l17 => k_is); (case c17 => k_is); (case k17 => k_is); (case a18 => k_is); (case l18 => k_is); (case c18 => k_is); (case k18 => k_is); (case a19 => k_is); (case l19 => k_is); (case c19 => k_is); (case k19 => k_is); (case a20 => k_is); (case l20 => k_is); (case c20 => k_is); (case k20 => k_is); (case a21 => k_is); (case l21 => k_is); (case c21 => k_is); (case k21 => k_is); (case a22 => k_is); (case l22 => k_is); (case c22 => k_is); (case k22 => k_is); (case a23 => k_is); (case l23 => k_is); (case c23 => k_is); (case k23 => k_is); (case a24 => k_is); (case l24 => k_is); (case c24 => k_is); (case k24 => k_is); (case a25 => k_is); (case l25 => k_is); (case c25 => k_is); (case k25 => k_is); (case a26 => k_is); (case l26 => k_is); (case c26 => k_is); (case k26 => k_is); (case a27 => k_is); (case l27 => k_is); (case c27 => k_is); (case k27 => k_is); (case a28 => k_is); (case l28 => k_is); (case c28 => k_is); (case k28 => k_is); (case z1 => k_is); (case z2 => k_is); (case z3 => k_is); (case z4 => k_is); (case z5 => k_is); (case z6 => k_is); (case z7 => k_is); (case z8 => k_is); (case z9 => k_is); (case z10 => k_is); (case z11 => k_is); (case z12 => k_is)
