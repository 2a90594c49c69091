import PyProof.Rows.All
import Wide.All
import OpenK.AllK
import Wide.FinOn
import Lean
import PyProof.EqAt
import PyProof.EqKinds
import PyProof.TupleCall
import PySem.Challenge.RW_plait_k48_images_that_keep
set_option Elab.async false
set_option linter.all false
set_option maxRecDepth 100000
/-! THE HAND LAYER, for ints, bools, texts, own classes, LISTS and tuples (index, slices, in, append, pop ..), calls, loops. Paste it whole ahead of your own text; what your proof does not reach may be deleted. -/
namespace L2
open PySem PySem.Spec PyProof.Rows

/-- a key: an int or a str -/
abbrev Key := Sum Int Str
def keyIs : Key → Value → Bool
  | .inl k, v => Value.isInt k v
  | .inr x, v => Value.isStrOf x v
def keyH (w : World) : Key → Int
  | .inl k => hashInt k
  | .inr x => hashStr w x
theorem keyIs_shape : ∀ {k : Key} {v : Value}, keyIs k v = true → (∃ i t, k = Sum.inl i ∧ v = Value.int i t) ∨ (∃ x t, k = Sum.inr x ∧ v = Value.str x t)
  | .inl i, v, h => by
    obtain ⟨t, e⟩ := Value.isInt_shape (k := i) (v := v) h
    exact .inl ⟨i, t, rfl, e⟩
  | .inr x, v, h => by
    obtain ⟨t, e⟩ := Value.isStrOf_shape (x := x) (v := v) h
    exact .inr ⟨x, t, rfl, e⟩
theorem key_ll (a b : Int) : decide ((Sum.inl a : Key) = Sum.inl b) = (a == b) := by
  by_cases e : a = b
  · subst e; simp
  · have h : ¬ (Sum.inl a : Key) = Sum.inl b := fun q => e (Sum.inl.inj q)
    rw [decide_eq_false h]
    exact (beq_eq_false_iff_ne.mpr e).symm
theorem key_rr (a b : Str) : decide ((Sum.inr a : Key) = Sum.inr b) = decide (a = b) := by
  by_cases e : a = b
  · subst e; simp
  · have h : ¬ (Sum.inr a : Key) = Sum.inr b := fun q => e (Sum.inr.inj q)
    rw [decide_eq_false h, decide_eq_false e]
theorem key_lr (a : Int) (b : Str) : decide ((Sum.inl a : Key) = Sum.inr b) = false := decide_eq_false (fun q => nomatch q)
theorem key_rl (a : Str) (b : Int) : decide ((Sum.inr a : Key) = Sum.inl b) = false := decide_eq_false (fun q => nomatch q)

def mixKind (prog : Program) (w : World) : PySem.KeyKind prog w Key where
  is := keyIs
  hash := keyH w
  inj := fun v a b ha hb => by
    rcases keyIs_shape ha with ⟨i, t, rfl, rfl⟩ | ⟨x, t, rfl, rfl⟩
    · rcases keyIs_shape hb with ⟨j, u, rfl, e⟩ | ⟨y, u, rfl, e⟩
      · injection e with e1 _; rw [e1]
      · exact nomatch e
    · rcases keyIs_shape hb with ⟨j, u, rfl, e⟩ | ⟨y, u, rfl, e⟩
      · exact nomatch e
      · injection e with e1 _; rw [e1]
  byValue := fun k v h => by
    rcases keyIs_shape h with ⟨i, t, rfl, rfl⟩ | ⟨x, t, rfl, rfl⟩ <;> rfl
  pyHash := fun hv h => by
    rcases keyIs_shape hv with ⟨i, t, rfl, rfl⟩ | ⟨x, t, rfl, rfl⟩
    · exact wpAny_pyHash_int h
    · exact wpAny_pyHash_str h
  eqBool := fun hu hv h => by
    rcases keyIs_shape hu with ⟨i, t, rfl, rfl⟩ | ⟨x, t, rfl, rfl⟩
    · rcases keyIs_shape hv with ⟨j, u, rfl, rfl⟩ | ⟨y, u, rfl, rfl⟩
      · rw [key_ll] at h; exact wpAny_eqBool_int h
      · rw [key_lr] at h; exact SeqAt.EqAt.int_str i t y u _ _ _ _ h
    · rcases keyIs_shape hv with ⟨j, u, rfl, rfl⟩ | ⟨y, u, rfl, rfl⟩
      · rw [key_rl] at h; exact SeqAt.EqAt.str_int x t j u _ _ _ _ h
      · rw [key_rr] at h; exact wpAny_eqBool_str h
  «strs» := fun k x t v h => by
    rcases keyIs_shape h with ⟨i, u, rfl, e⟩ | ⟨y, u, rfl, e⟩
    · exact nomatch e
    · injection e with e1 _
      subst e1
      cases v <;> rfl

end L2

namespace L2
open PySem PySem.Spec PyProof.Rows

/-- a value, without the heap -/
inductive V where
  | non | bl (b : Bool) | int (i : Int) | str (x : Str) | byt (b : Array UInt8) | flt (b : UInt64) | ref (a : Addr) | ty (n : String)
  deriving DecidableEq

def RelV : V → Value → Prop
  | .non, u => u = Value.none
  | .bl b, u => u = Value.bool b
  | .int i, u => ∃ t, u = Value.int i t
  | .str x, u => ∃ t, u = Value.str x t
  | .byt b, u => ∃ t, u = Value.bytes b t
  | .flt b, u => ∃ t, u = Value.float b t
  | .ref a, u => u = Value.ref a
  | .ty n, u => u = Value.type n

abbrev Vals : List V → List Value → Prop := Paired RelV
theorem Vals.length {xs : List V} {us : List Value} (r : Vals xs us) : xs.length = us.length := Paired.length r
theorem Vals.get : ∀ {xs : List V} {us : List Value} {i : Nat} {x : V}, Vals xs us → xs[i]? = some x → ∃ u, us[i]? = some u ∧ RelV x u
  | _, _, _, _, .nil, e => by simp at e
  | _, _, 0, _, .cons r _, e => by simp at e; subst e; exact ⟨_, rfl, r⟩
  | _, _, i + 1, x, .cons _ t, e => by
    obtain ⟨u, h1, h2⟩ := Vals.get (i := i) (x := x) t (by simpa using e)
    exact ⟨u, by simpa using h1, h2⟩
theorem Vals.set {x : V} {u : Value} (r : RelV x u) : ∀ {xs : List V} {us : List Value} (i : Nat), Vals xs us → Vals (xs.set i x) (us.set i u)
  | _, _, _, .nil => .nil
  | _, _, 0, .cons _ t => .cons r t
  | _, _, i + 1, .cons q t => .cons q (Vals.set r i t)
theorem Vals.append : ∀ {xs ys : List V} {us ws : List Value}, Vals xs us → Vals ys ws → Vals (xs ++ ys) (us ++ ws)
  | _, _, _, _, .nil, s => s
  | _, _, _, _, .cons r t, s => .cons r (Vals.append t s)
theorem Vals.take : ∀ {xs : List V} {us : List Value} (n : Nat), Vals xs us → Vals (xs.take n) (us.take n)
  | _, _, 0, _ => .nil
  | _, _, _ + 1, .nil => .nil
  | _, _, n + 1, .cons r t => .cons r (Vals.take n t)
theorem Vals.drop : ∀ {xs : List V} {us : List Value} (n : Nat), Vals xs us → Vals (xs.drop n) (us.drop n)
  | _, _, 0, r => r
  | _, _, _ + 1, .nil => .nil
  | _, _, n + 1, .cons _ t => Vals.drop n t
def RelO : Option V → Option Value → Prop
  | some v, some u => RelV v u
  | none, none => True
  | _, _ => False
def KV {κ : Type} : List (κ × V) → List (κ × Value) → Prop := Paired fun (p : κ × V) (q : κ × Value) => p.1 = q.1 ∧ RelV p.2 q.2

/-- a key of a dict (00_mix): an int or a text -/
def kV : Key → V
  | .inl i => .int i
  | .inr x => .str x

/-- what stands at a tracked address -/
inductive HO where
  /-- a list -/
  | lst (xs : List V)
  /-- a tuple (never changes) -/
  | tup (xs : List V)
  /-- a dict whose keys are ints and texts; one whose keys are tuples of ints and texts (the empty one is both) -/
  | dK (kvs : List (Key × V)) | dT (kvs : List (List Key × V))
  /-- a set of ints: its members, its size -/
  | set (S : Int → Bool) (n : Nat)
  /-- an instance of the class at C, its dict at dx, its attributes -/
  | ins (C dx : Addr) (fs : List (Str × V))
  /-- the dict of the instance at x -/
  | own (x : Addr)
  /-- the dict of an exception -/
  | xd (fs : List (Str × V))
  /-- a bound method, f of x -/
  | met (f x : Addr)
  /-- a range object lo, lo + 1, .. below hi -/
  | rng (lo hi : Int)
  /-- a thing that is known to the object (the script; a dict while a loop walks it): read, never written while it is so -/
  | frz (o : Obj) (u : HO)
  /-- a code object's table -/
  | tbl (ps : Array Value)
  /-- any other thing, by what is true of its one object (a def of one's own: SetO a S n := HO.ext fun h => ..) -/
  | ext (φ : Heap → Prop)

abbrev Hp := Addr → Option HO
def upd (H : Hp) (a : Addr) (o : HO) : Hp := fun b => if b = a then some o else H b
theorem upd_same {H : Hp} {a : Addr} {o : HO} : upd H a o a = some o := by unfold upd; rw [if_pos rfl]
theorem upd_ne {H : Hp} {a b : Addr} {o : HO} (h : b ≠ a) : upd H a o b = H b := by unfold upd; rw [if_neg h]
theorem ne_of_none {H : Hp} {a b : Addr} {o : HO} (h : H a = some o) (h' : H b = none) : a ≠ b := by
  intro e; subst e; rw [h] at h'; cases h'

section
variable (P : Program) (w : World)
def ObjOk (H : Hp) (h : Heap) (a : Addr) : HO → Prop
  | .lst xs => xs.length ≤ sizeLine ∧ ∃ (its : List Value) (n : Nat), Vals xs its ∧ h.get? a = some { cls := .type "list", data := .seq its.toArray n }
  | .tup xs => xs.length ≤ sizeLine ∧ ∃ its : List Value, Vals xs its ∧ IsTup h a its.toArray
  | .dK kvs => kvs.length ≤ sizeLine ∧ (a == sysModules) = false ∧ ∃ vs, KV kvs vs ∧ h.DictOf (mixKind P w) a vs
  | .dT kvs => kvs.length ≤ sizeLine ∧ (a == sysModules) = false ∧ ∃ xs : List (List Key × Addr × Value),
      Paired (fun (p : List Key × V) (q : List Key × Addr × Value) => p.1 = q.1 ∧ H q.2.1 = some (.tup (p.1.map kV)) ∧ RelV p.2 q.2.2) kvs xs ∧
      ∃ o es ep, h.get? a = some o ∧ o.ExactDict ∧ o.data = .dict es ep ∧ es.toList = xs.map (entryOfKey (tupleKind (mixKind P w))) ∧ (xs.map (·.1)).Nodup
  | .set S n => h.SetOf (intKind P w) a S n
  | .ins C dx fs => H dx = some (.own a) ∧ fs.length ≤ 1000 ∧ dx ≠ a ∧ h.get? a = some (PySem.W.instObj C dx) ∧
      ∃ mA, h.Ns1 dx mA ∧ (∀ f, RelO (fs.lookup f) (mA f)) ∧ PySem.Within mA (fs.map (·.1))
  | .own _ => ∃ o, h.get? a = some o
  | .xd fs => ∃ mA, h.Ns1 a mA ∧ ∀ f, RelO (fs.lookup f) (mA f)
  | .rng lo hi => ∃ t u v, h.get? a = some { cls := .type "range", data := .fields #[.int lo t, .int hi u, .int 1 v] }
  | .frz o u => h.get? a = some o ∧ ObjOk H h a u
  | .tbl ps => h.get? a = some { cls := .none, data := .fields ps }
  | .met f x => h.get? a = some (PySem.W.methodObj (.ref f) (.ref x))
  | .ext φ => φ h ∧ (∃ o, h.get? a = some o) ∧ ∀ h1 h2 : Heap, φ h1 → (∀ o, h1.get? a = some o → h2.get? a = some o) → φ h2
/-- the abstract heap is held -/
def HOk (H : Hp) (h : Heap) : Prop := ∀ a o, H a = some o → ObjOk P w H h a o
end

section
variable {P : Program} {w : World} {H H' : Hp} {h h' : Heap} {a : Addr} {o : HO}
theorem ObjOk.lt (x : ObjOk P w H h a o) : a < h.objs.size := by
  cases o with
  | lst xs => obtain ⟨_, _, _, _, e⟩ := x; exact Heap.lt_size e
  | tup xs => obtain ⟨_, _, _, p⟩ := x; exact p.lt
  | dK kvs => obtain ⟨_, _, _, _, o, _, _, e, _⟩ := x; exact Heap.lt_size e
  | dT kvs => obtain ⟨_, _, _, _, o, _, _, e, _⟩ := x; exact Heap.lt_size e
  | set S n => obtain ⟨o, _, _, _, e, _⟩ := x; exact Heap.lt_size e
  | ins C dx fs => obtain ⟨_, _, _, e, _⟩ := x; exact Heap.lt_size e
  | own y => obtain ⟨_, e⟩ := x; exact Heap.lt_size e
  | xd fs => obtain ⟨_, ⟨_, _, _, e, _⟩, _⟩ := x; exact Heap.lt_size e
  | rng lo hi => obtain ⟨_, _, _, e⟩ := x; exact Heap.lt_size e
  | frz ob u => obtain ⟨e, _⟩ := x; exact Heap.lt_size e
  | tbl ps => exact Heap.lt_size (show h.get? a = some _ from x)
  | met f y => exact Heap.lt_size (show h.get? a = some _ from x)
  | ext φ => obtain ⟨_, ⟨_, e⟩, _⟩ := x; exact Heap.lt_size e
theorem Paired.mapP {α β : Type} {F G : α → β → Prop} : ∀ {l₁ : List α} {l₂ : List β}, Paired F l₁ l₂ → (∀ a b, F a b → G a b) → Paired G l₁ l₂
  | _, _, .nil, _ => .nil
  | _, _, .cons r t, f => .cons (f _ _ r) (Paired.mapP t f)
/-- what an object's description leans on: its own object, its own dict, the tuples -/
theorem ObjOk.stay (x : ObjOk P w H h a o) (k : ∀ b u, (b = a ∨ H b = some (.own a)) → h.get? b = some u → h'.get? b = some u)
    (ho : ∀ b, H b = some (.own a) → H' b = some (.own a)) (ht : ∀ b xs, H b = some (.tup xs) → H' b = some (.tup xs)) : ObjOk P w H' h' a o := by
  induction o with
  | lst xs => obtain ⟨z, its, n, r, e⟩ := x; exact ⟨z, its, n, r, k _ _ (.inl rfl) e⟩
  | tup xs => obtain ⟨z, its, r, ob, e, c⟩ := x; exact ⟨z, its, r, ob, k _ _ (.inl rfl) e, c⟩
  | dK kvs => obtain ⟨z, y, vs, r, ob, es, ep, e, c⟩ := x; exact ⟨z, y, vs, r, ob, es, ep, k _ _ (.inl rfl) e, c⟩
  | dT kvs =>
    obtain ⟨z, y, xs, r, ob, es, ep, e, c⟩ := x
    exact ⟨z, y, xs, Paired.mapP r fun p q z => ⟨z.1, ht _ _ z.2.1, z.2.2⟩, ob, es, ep, k _ _ (.inl rfl) e, c⟩
  | set S n => obtain ⟨ob, es, ep, t, e, c⟩ := x; exact ⟨ob, es, ep, t, k _ _ (.inl rfl) e, c⟩
  | ins C dx fs =>
    obtain ⟨d, z, ne, e, mA, ⟨od, es, ep, e2, c⟩, r⟩ := x
    exact ⟨ho _ d, z, ne, k _ _ (.inl rfl) e, mA, ⟨od, es, ep, k _ _ (.inr d) e2, c⟩, r⟩
  | own y => obtain ⟨ob, e⟩ := x; exact ⟨ob, k _ _ (.inl rfl) e⟩
  | xd fs => obtain ⟨mA, ⟨od, es, ep, e, c⟩, r⟩ := x; exact ⟨mA, ⟨od, es, ep, k _ _ (.inl rfl) e, c⟩, r⟩
  | rng lo hi => obtain ⟨t, u, v, e⟩ := x; exact ⟨t, u, v, k _ _ (.inl rfl) e⟩
  | frz ob u ih => obtain ⟨e, q⟩ := x; exact ⟨k _ _ (.inl rfl) e, ih q⟩
  | tbl ps =>
    have e : h.get? a = some { cls := .none, data := .fields ps } := x
    show h'.get? a = some { cls := .none, data := .fields ps }
    exact k a _ (.inl rfl) e
  | met f y =>
    have e : h.get? a = some (PySem.W.methodObj (.ref f) (.ref y)) := x
    show h'.get? a = some (PySem.W.methodObj (.ref f) (.ref y))
    exact k a _ (.inl rfl) e
  | ext φ => obtain ⟨p, ⟨o, e⟩, st⟩ := x; exact ⟨st _ _ p fun o q => k _ _ (.inl rfl) q, ⟨o, k _ _ (.inl rfl) e⟩, st⟩
theorem HOk.lt (x : HOk P w H h) (e : H a = some o) : a < h.objs.size := (x a o e).lt
theorem HOk.fresh (x : HOk P w H h) (e : h.objs.size ≤ a) : H a = none := by
  cases q : H a with
  | none => rfl
  | some u => exact absurd (Nat.lt_of_lt_of_le (x.lt q) e) (Nat.lt_irrefl _)
/-- every object of the heap is kept -/
theorem HOk.kept (x : HOk P w H h) (k : ∀ b u, h.get? b = some u → h'.get? b = some u) : HOk P w H h' := fun a o e =>
  (x a o e).stay (fun b u _ q => k b u q) (fun _ q => q) fun _ _ q => q
/-- a new object is laid and tracked -/
theorem HOk.laid (x : HOk P w H h) (k : ∀ b u, h.get? b = some u → h'.get? b = some u) (hp : h.objs.size ≤ a) (new : ObjOk P w (upd H a o) h' a o) : HOk P w (upd H a o) h' := fun b u e => by
  have hn := x.fresh hp
  by_cases hb : b = a
  · subst hb; rw [upd_same] at e; cases e; exact new
  · rw [upd_ne hb] at e
    exact (x b u e).stay (fun c v _ q => k c v q) (fun c q => by rw [upd_ne (ne_of_none q hn)]; exact q) fun c xs q => by rw [upd_ne (ne_of_none q hn)]; exact q
end

/-- what may be read as u: it is u, or a known u -/
def Rd (H : Hp) (a : Addr) (u : HO) : Prop := H a = some u ∨ ∃ o, H a = some (.frz o u)
theorem Rd.of {H : Hp} {a : Addr} {u : HO} (h : H a = some u) : Rd H a u := .inl h
theorem Rd.ok {P : Program} {w : World} {H : Hp} {h : Heap} {a : Addr} {u : HO} (r : Rd H a u) (x : HOk P w H h) : ObjOk P w H h a u := by
  rcases r with r | ⟨o, r⟩
  · exact x a u r
  · obtain ⟨_, q⟩ := x a _ r
    exact q
/-- what may be written -/
def Mut : Option HO → Prop
  | some (.lst _) => True
  | some (.dK _) => True
  | some (.dT _) => True
  | some (.set _ _) => True
  | some (.ins _ _ _) => True
  | some (.ext _) => True
  | _ => False
section
variable {P : Program} {w : World} {H : Hp} {h h' : Heap} {x e : Addr} {o' : HO}
/-- the object at e is changed: x itself, or the dict of the instance x -/
theorem HOk.write (ok : HOk P w H h) (mu : Mut (H x)) (he : e = x ∨ H e = some (.own x)) (k : ∀ b u, b ≠ e → h.get? b = some u → h'.get? b = some u) (heo : ∃ u, h'.get? e = some u)
    (new : ObjOk P w (upd H x o') h' x o') : HOk P w (upd H x o') h' := fun b u q => by
  have nown : ∀ c y, H c = some (.own y) → c ≠ x := fun c y r z => by subst z; rw [r] at mu; exact mu
  have ntup : ∀ c xs, H c = some (.tup xs) → c ≠ x := fun c xs r z => by subst z; rw [r] at mu; exact mu
  by_cases hb : b = x
  · subst hb; rw [upd_same] at q; cases q; exact new
  · rw [upd_ne hb] at q
    by_cases hbe : b = e
    · have q' : H b = some (.own x) := by
        rcases he with z | z
        · exact absurd (hbe.trans z) hb
        · rw [hbe]; exact z
      rw [q] at q'; cases q'
      obtain ⟨v, hv⟩ := heo
      exact ⟨v, by rw [hbe]; exact hv⟩
    · refine (ok b u q).stay (fun c v hc r => k c v ?_ r) (fun c r => by rw [upd_ne (nown c b r)]; exact r) fun c xs r => by rw [upd_ne (ntup c xs r)]; exact r
      rcases hc with rfl | hc
      · exact hbe
      · rintro rfl
        rcases he with z | z
        · exact nown c b hc z
        · rw [hc] at z; cases z; exact hb rfl
end

/-! ### kept unless tracked; of the frames at fs (the callers') the slots may change (an exception that passes writes there); of the records at ex (iterators) nothing is said -/
structure Un (fs ex : List Addr) (H H' : Hp) (h h' : Heap) : Prop where
  keep : ∀ b o, h.get? b = some o → H b = none → b ∉ fs → b ∉ ex → h'.get? b = some o
  slot : ∀ b o, h.get? b = some o → H b = none → b ∈ fs → b ∉ ex → ∃ sl, h'.get? b = some { o with slots := sl }
  free : ∀ b o, h.get? b = some o → H b = none → b ∉ ex → H' b = none
  there : ∀ b o, h.get? b = some o → b ∉ ex → ∃ o', h'.get? b = some o'
  tups : ∀ b xs, H b = some (.tup xs) → H' b = some (.tup xs)
  frzs : ∀ b o u, H b = some (.frz o u) → H' b = some (.frz o u)
  tbls : ∀ b ps, H b = some (.tbl ps) → ∃ more, H' b = some (.tbl (ps ++ more))
section
variable {fs fs' ex ex' : List Addr} {H H1 H2 : Hp} {h h1 h2 h' : Heap} {a x e : Addr} {o : HO}
theorem Un.any (u : Un fs ex H H1 h h1) {b : Addr} {ob : Obj} (q : h.get? b = some ob) (n : H b = none) (hx : b ∉ ex) : ∃ sl, h1.get? b = some { ob with slots := sl } := by
  by_cases hb : b ∈ fs
  · exact u.slot b ob q n hb hx
  · exact ⟨ob.slots, u.keep b ob q n hb hx⟩
theorem Un.trans (a : Un fs ex H H1 h h1) (b : Un fs ex H1 H2 h1 h2) : Un fs ex H H2 h h2 where
  keep := fun c ob q n hc hx => b.keep c ob (a.keep c ob q n hc hx) (a.free c ob q n hx) hc hx
  slot := fun c ob q n hc hx => by
    obtain ⟨sl, e1⟩ := a.slot c ob q n hc hx
    obtain ⟨sl', e2⟩ := b.slot c _ e1 (a.free c ob q n hx) hc hx
    exact ⟨sl', e2⟩
  free := fun c ob q n hx => by
    obtain ⟨o', e1⟩ := a.there c ob q hx
    exact b.free c o' e1 (a.free c ob q n hx) hx
  there := fun c ob q hx => by
    obtain ⟨o', e1⟩ := a.there c ob q hx
    exact b.there c o' e1 hx
  tups := fun c xs q => b.tups c xs (a.tups c xs q)
  frzs := fun c ob xs q => b.frzs c ob xs (a.frzs c ob xs q)
  tbls := fun c ps q => by
    obtain ⟨m1, e1⟩ := a.tbls c ps q
    obtain ⟨m2, e2⟩ := b.tbls c _ e1
    exact ⟨m1 ++ m2, by rw [e2, Array.append_assoc]⟩
theorem Un.kept (k : ∀ b u, h.get? b = some u → h'.get? b = some u) : Un fs ex H H h h' :=
  ⟨fun b ob q _ _ _ => k b ob q, fun b ob q _ _ _ => ⟨ob.slots, k b ob q⟩, fun _ _ _ n _ => n, fun b ob q _ => ⟨ob, k b ob q⟩, fun _ _ q => q, fun _ _ _ q => q, fun _ ps q => ⟨#[], by rw [q]; simp⟩⟩
theorem Un.refl : Un fs ex H H h h := Un.kept fun _ _ q => q
theorem Un.laid (k : ∀ b u, h.get? b = some u → h'.get? b = some u) (hp : h.objs.size ≤ a) (hn : H a = none) : Un fs ex H (upd H a o) h h' where
  keep := fun b u q _ _ _ => k b u q
  slot := fun b u q _ _ _ => ⟨u.slots, k b u q⟩
  free := fun b u q n _ => by rw [upd_ne (Nat.ne_of_lt (Nat.lt_of_lt_of_le (Heap.lt_size q) hp))]; exact n
  there := fun b u q _ => ⟨u, k b u q⟩
  tups := fun b xs q => by rw [upd_ne (ne_of_none q hn)]; exact q
  frzs := fun b u xs q => by rw [upd_ne (ne_of_none q hn)]; exact q
  tbls := fun b ps q => ⟨#[], by rw [upd_ne (ne_of_none q hn), q]; simp⟩
theorem Un.write (mu : Mut (H x)) (he : e = x ∨ H e = some (.own x)) (k : ∀ b u, b ≠ e → h.get? b = some u → h'.get? b = some u) (heo : ∃ u, h'.get? e = some u) : Un fs ex H (upd H x o) h h' := by
  have hx : ∀ b, H b = none → b ≠ x := fun b n z => by subst z; rw [n] at mu; exact mu
  have hb : ∀ b, H b = none → b ≠ e := fun b n z => by
    subst z
    rcases he with r | r
    · exact hx b n r
    · rw [n] at r; cases r
  have hm : ∀ b u, H b = some u → ¬ Mut (some u) → b ≠ x := fun b u q nm z => by subst z; rw [q] at mu; exact nm mu
  refine ⟨fun b u q n _ _ => k b u (hb b n) q, fun b u q n _ _ => ⟨u.slots, k b u (hb b n) q⟩, fun b u q n _ => by rw [upd_ne (hx b n)]; exact n, fun b u q _ => ?_,
    fun b xs q => by rw [upd_ne (hm b _ q fun z => z)]; exact q, fun b u xs q => by rw [upd_ne (hm b _ q fun z => z)]; exact q, fun b ps q => ⟨#[], by rw [upd_ne (hm b _ q fun z => z), q]; simp⟩⟩
  by_cases hbe : b = e
  · subst hbe; exact heo
  · exact ⟨u, k b u hbe q⟩
theorem Un.mono (u : Un fs ex H H1 h h1) (hs : ∀ b ∈ fs, b ∈ fs') (hx : ∀ b ∈ ex, b ∈ ex') : Un fs' ex' H H1 h h1 :=
  ⟨fun b ob q n hb he => u.keep b ob q n (fun z => hb (hs b z)) fun z => he (hx b z), fun _ _ q n _ he => u.any q n fun z => he (hx _ z), fun b ob q n he => u.free b ob q n fun z => he (hx b z), fun b ob q he => u.there b ob q fun z => he (hx b z), u.tups, u.frzs, u.tbls⟩
end

/-! ### the heap without what is tracked -/
def trk (h : Heap) (H : Hp) : List Addr := (List.range h.objs.size).filter fun a => (H a).isSome
def hidT (h : Heap) (H : Hp) : Heap := PySem.W.hideAll h (trk h H)
theorem hidT_size (h : Heap) (H : Hp) : (hidT h H).objs.size = h.objs.size := PySem.W.hideAll_size _ _
theorem hidT_get {h : Heap} {H : Hp} {b : Addr} {o : Obj} (e : h.get? b = some o) (n : H b = none) : (hidT h H).get? b = some o :=
  PySem.W.hideAll_get _ e fun hm => by
    have q : (H b).isSome = true := (List.mem_filter.mp hm).2
    rw [n] at q; simp at q
theorem of_hidT {h : Heap} {H : Hp} {b : Addr} {o : Obj} (e : (hidT h H).get? b = some o) : h.get? b = some o ∧ H b = none := by
  have e' : h.get? b = some o := PySem.W.of_hideAll (trk h H) e
  refine ⟨e', ?_⟩
  cases q : H b with
  | none => rfl
  | some x =>
    have hm : b ∈ trk h H := List.mem_filter.mpr ⟨List.mem_range.mpr (Heap.lt_size e'), by simp [q]⟩
    have z : (hidT h H).get? b = none := PySem.W.hideAll_none (trk h H) hm
    rw [z] at e; cases e

/-! ### OpenK's ledger, filled with every new object but one -/
def allNews (g h : Heap) (L : Addr) : List (Addr × Obj) := (List.range h.objs.size).filterMap fun a => if a = L ∨ (g.get? a).isSome = true then none else (h.get? a).map fun o => (a, o)
def rest (g h : Heap) (L d : Addr) : List (Addr × Obj) := (allNews g h L).filter fun p => decide (p.1 ≠ d)
end L2

namespace L2
open PySem PySem.Spec PyProof.Rows

/-- the module's facts, over the base: the heap at the law's entry without what is tracked there -/
structure Mod (K : PySem.W.Frag) (mg : Str → Option Value) (base : Heap) : Prop where
  kin : K.In base
  glob : base.Ns mainGlobals mg
  blt : ∃ mb, base.Ns builtinsNs mb ∧ ∀ x : Str, x ≠ "__name__" → mb x = bootBuiltins x
  nolimit : base.NoLimit

/-- the context: a def's body (or a comprehension's block) running. base: fixed through the whole law; s₀, H₀: the entry; outer: the frames whose slots others may change (a def's callers); stack: all frames that run;
   ex: iterators that were made ahead of the entry and are walked here (a comprehension's); fn: the names whose cells were made at the entry (a def: all; a comprehension's block: its own); calm: not within an except suite; pn: pins that every state bears; xe: what is wanted of an exception that leaves the code -/
structure Cx where
  prog : Program
  w : World
  K : PySem.W.Frag
  mg : Str → Option Value
  base : Heap
  A : Around
  N : List Str
  s₀ : Shared
  H₀ : Hp
  env : Env
  outer : List Env
  stack : List Env
  ex : List Addr
  fn : Str → Bool
  calm : Bool
  pn : List (Addr × Obj)
  xe : Value → Shared → Prop
/-- the callers' frames -/
def frs (l : List Env) : List Addr := l.filterMap (·.frame)
abbrev Cx.fs (X : Cx) : List Addr := frs X.outer

def Vis (sc : Scope) (x : Str) : Prop := sc.names.lookup x = some .local ∨ sc.names.lookup x = some .cell ∨ sc.names.lookup x = some .free
def Loc (sc : Scope) (x : Str) : Prop := sc.names.lookup x = some .local ∨ sc.names.lookup x = some .cell
def Look (env : Env) (h : Heap) (m : Str → Option Value) (x : Str) (u : Value) : Prop :=
  (env.kindOf x = some .local ∧ m x = some u) ∨ ((env.kindOf x = some .cell ∨ env.kindOf x = some .free) ∧ ∃ c, env.cells.lookup x = some c ∧ h.IsCell c (some u))

structure Cx.Ok (X : Cx) : Prop where
  mod : Mod X.K X.mg X.base
  kind : X.env.scope.kind = .function
  glob : X.env.globals = mainGlobals
  blt : X.env.builtins = builtinsNs
  above : X.s₀.heap.objs.size ≤ X.env.locals
  inj : ∀ x y c, X.env.cells.lookup x = some c → X.env.cells.lookup y = some c → x = y
  has : ∀ x, (X.env.kindOf x = some .cell ∨ X.env.kindOf x = some .free) → ∃ c, X.env.cells.lookup x = some c
  cab : ∀ x c, X.fn x = true → X.env.cells.lookup x = some c → X.s₀.heap.objs.size ≤ c
  hd : X.calm = true → X.A.handled = none
  frames : X.A.frames = some X.stack
  stk : X.stack = X.outer ∨ (X.stack = X.env :: X.outer ∧ X.env.frame = some X.env.locals)
  exf : ∀ b ∈ X.ex, b ≠ X.env.locals ∧ ∀ x c, X.env.cells.lookup x = some c → c ≠ b
  bs : ∀ b o, X.base.get? b = some o → X.s₀.heap.get? b = some o ∧ X.H₀ b = none
  bsz : X.base.objs.size ≤ X.s₀.heap.objs.size
  noex : ∀ b o, X.base.get? b = some o → b ∉ X.ex
  exfs : ∀ b ∈ X.ex, b ∉ X.fs
  funs : X.s₀.heap.FunFrames X.base X.outer
  frf : ∀ b ∈ X.fs, X.H₀ b = none

structure Inv (X : Cx) (pins : List (Addr × Obj)) (σ : List (Option V)) (H : Hp) (s : Shared) : Prop where
  ok : X.Ok
  os : s.os = X.s₀.os
  bare : AllBare s.gens
  base : Un X.fs X.ex X.H₀ H X.s₀.heap s.heap
  loc : ∃ m, s.heap.Ns X.env.locals m ∧ ∀ (i : Nat) (x : Str) (v : V), X.N[i]? = some x → σ[i]? = some (some v) → Vis X.env.scope x → ∃ u, RelV v u ∧ Look X.env s.heap m x u
  cell : ∀ x c, X.env.cells.lookup x = some c → ∃ v, s.heap.IsCell c v
  free : H X.env.locals = none
  freeC : ∀ x c, X.env.cells.lookup x = some c → H c = none
  pin : ∀ p ∈ X.pn ++ pins, s.heap.get? p.1 = some p.2 ∧ H p.1 = none ∧ p.1 ≠ X.env.locals ∧ p.1 ∉ X.fs ∧ ∀ v, p.2.data ≠ .cell v
  hok : HOk X.prog X.w H s.heap
  len : σ.length = X.N.length

section
variable {X : Cx} {pins : List (Addr × Obj)} {σ : List (Option V)} {H H' : Hp} {s : Shared} {h' : Heap}

theorem Cx.Ok.nofr (ok : X.Ok) {b : Addr} {o : Obj} (e : X.base.get? b = some o) : b ∉ X.fs := fun hb => by
  have := (ok.funs.mem hb).1
  rw [e] at this; cases this
theorem Inv.bs (I : Inv X pins σ H s) : ∀ b o, X.base.get? b = some o → s.heap.get? b = some o ∧ H b = none := fun b o e =>
  ⟨I.base.keep b o (I.ok.bs b o e).1 (I.ok.bs b o e).2 (I.ok.nofr e) (I.ok.noex b o e), I.base.free b o (I.ok.bs b o e).1 (I.ok.bs b o e).2 (I.ok.noex b o e)⟩
theorem Inv.bk (I : Inv X pins σ H s) : ∀ b o, X.base.get? b = some o → s.heap.get? b = some o := fun b o e => (I.bs b o e).1
theorem Inv.mod (I : Inv X pins σ H s) : Mod X.K X.mg X.base := I.ok.mod
theorem Inv.kIn (I : Inv X pins σ H s) : X.K.In s.heap := I.ok.mod.kin.keeps I.bk
theorem Inv.nolimit (I : Inv X pins σ H s) : s.heap.NoLimit := I.ok.mod.nolimit.keeps I.bk
/-- the frame over the base: for OpenK's rules (K.In X.base is I.mod.kin) -/
theorem Inv.fr (I : Inv X pins σ H s) : ∃ m, Fr X.base X.env.locals s.heap m :=
  let ⟨m, hn, _⟩ := I.loc
  ⟨m, hn, I.bk, Nat.le_trans I.ok.bsz I.ok.above⟩
theorem Inv.lt (I : Inv X pins σ H s) : X.env.locals < s.heap.objs.size := let ⟨_, hn, _⟩ := I.loc; hn.lt
theorem Inv.sz (I : Inv X pins σ H s) : X.s₀.heap.objs.size ≤ s.heap.objs.size := Nat.le_trans I.ok.above (Nat.le_of_lt I.lt)
theorem Inv.nofs (I : Inv X pins σ H s) {a : Addr} (h : s.heap.objs.size ≤ a) : a ∉ X.fs := fun hb => by
  obtain ⟨_, o, ho, _⟩ := I.ok.funs.mem hb
  exact absurd (Nat.lt_of_lt_of_le (Heap.lt_size ho) (Nat.le_trans I.sz h)) (Nat.lt_irrefl _)
theorem Inv.cne (I : Inv X pins σ H s) : ∀ x c, X.env.cells.lookup x = some c → c ≠ X.env.locals := fun x c e z => by
  obtain ⟨v, o, ho, hd⟩ := I.cell x c e
  obtain ⟨m, ⟨o', es, ep, ho', hd', _⟩, _⟩ := I.loc
  rw [z, ho'] at ho; cases ho; rw [hd'] at hd; cases hd
theorem Inv.funs (I : Inv X pins σ H s) : s.heap.FunFrames X.base X.outer := by
  have all : ∀ (l : List Env), (∀ b ∈ frs l, b ∈ X.fs) → X.s₀.heap.FunFrames X.base l → s.heap.FunFrames X.base l := by
    intro l
    induction l with
    | nil => intro _ _; trivial
    | cons env r ih =>
      intro hs hl
      obtain ⟨hk, ⟨L, o, hf, hn, ho, hd⟩, hr⟩ := hl
      have hL : L ∈ X.fs := hs L (by unfold frs; rw [List.filterMap_cons, hf]; exact List.mem_cons_self)
      obtain ⟨sl, e⟩ := I.base.slot L o ho (I.ok.frf L hL) hL fun z => I.ok.exfs L z hL
      exact ⟨hk, ⟨L, _, hf, hn, e, hd⟩, ih (fun b hb => hs b (by unfold frs; rw [List.filterMap_cons, hf]; exact List.mem_cons_of_mem _ hb)) hr⟩
  exact all X.outer (fun _ hb => hb) I.ok.funs

/-- the frames that run, for a call -/
theorem Inv.stack (I : Inv X pins σ H s) : s.heap.FunFrames X.base X.stack := by
  rcases I.ok.stk with e | ⟨e, hf⟩
  · rw [e]; exact I.funs
  · rw [e]
    obtain ⟨m, hn, _⟩ := I.loc
    refine .cons (by rw [I.ok.kind]; decide) hf hn ?_ I.funs
    exact Heap.get?_none_of_le (Nat.le_trans I.ok.bsz I.ok.above)
theorem Inv.stkSub (I : Inv X pins σ H s) : ∀ b ∈ frs X.stack, b ∈ X.env.locals :: X.fs := fun b hb => by
  rcases I.ok.stk with e | ⟨e, hf⟩
  · rw [e] at hb; exact List.mem_cons_of_mem _ hb
  · rw [e] at hb
    unfold frs at hb
    rw [List.filterMap_cons, hf] at hb
    exact hb
theorem Inv.stkFree (I : Inv X pins σ H s) : ∀ b ∈ frs X.stack, H b = none := fun b hb => by
  rcases List.mem_cons.mp (I.stkSub b hb) with e | hb
  · rw [e]; exact I.free
  · obtain ⟨_, o, ho, _⟩ := I.ok.funs.mem hb
    exact I.base.free b o ho (I.ok.frf b hb) fun z => I.ok.exfs b z hb

/-- THE STEP: the untracked objects but the frame and the records at ch are kept (the callers' frames up to slots), the frame's map is kept, the new abstract heap is held -/
theorem Inv.step {g' : Array GenState} {t' : Nat} {d' : Drawn} {ch : List Addr} (I : Inv X pins σ H s)
    (hch : ∀ b ∈ ch, (b ∈ X.ex ∨ X.s₀.heap.objs.size ≤ b) ∧ b ≠ X.env.locals ∧ (∀ x c, X.env.cells.lookup x = some c → c ≠ b) ∧ ∀ p ∈ X.pn ++ pins, p.1 ≠ b)
    (keep : ∀ b o, b ≠ X.env.locals → b ∉ X.fs → b ∉ ch → s.heap.get? b = some o → H b = none → h'.get? b = some o)
    (slot : ∀ b o, b ≠ X.env.locals → b ∈ X.fs → b ∉ ch → s.heap.get? b = some o → H b = none → ∃ sl, h'.get? b = some { o with slots := sl }) (free : ∀ b o, b ∉ ch → s.heap.get? b = some o → H b = none → H' b = none)
    (there : ∀ b o, b ∉ ch → s.heap.get? b = some o → ∃ o', h'.get? b = some o')
    (tups : ∀ b xs, H b = some (.tup xs) → H' b = some (.tup xs)) (frzs : ∀ b o u, H b = some (.frz o u) → H' b = some (.frz o u)) (tbls : ∀ b ps, H b = some (.tbl ps) → ∃ more, H' b = some (.tbl (ps ++ more)))
    (ns : ∀ m, s.heap.Ns X.env.locals m → h'.Ns X.env.locals m) (hok : HOk X.prog X.w H' h') (hg : AllBare g') :
    Inv X pins σ H' { s with heap := h', gens := g', drawn := d', toks := t' } := by
  have neL : ∀ b o, X.s₀.heap.get? b = some o → b ≠ X.env.locals := fun b o e => Nat.ne_of_lt (Nat.lt_of_lt_of_le (Heap.lt_size e) I.ok.above)
  have neC : ∀ b o, X.s₀.heap.get? b = some o → b ∉ X.ex → b ∉ ch := fun b o e hx hb => by
    rcases (hch b hb).1 with z | z
    · exact hx z
    · exact absurd (Nat.lt_of_lt_of_le (Heap.lt_size e) z) (Nat.lt_irrefl _)
  have cellK : ∀ x c, X.env.cells.lookup x = some c → ∀ v, s.heap.IsCell c v → h'.IsCell c v := fun x c e v ⟨o, ho, hd⟩ => by
    have nch : c ∉ ch := fun z => (hch c z).2.2.1 x c e rfl
    by_cases hc : c ∈ X.fs
    · obtain ⟨sl, q⟩ := slot c o (I.cne x c e) hc nch ho (I.freeC x c e)
      exact ⟨_, q, hd⟩
    · exact ⟨o, keep c o (I.cne x c e) hc nch ho (I.freeC x c e), hd⟩
  refine ⟨I.ok, I.os, hg, ⟨fun b o e n hb hx => ?_, fun b o e n hb hx => ?_, fun b o e n hx => ?_, fun b o e hx => ?_, fun b xs e => tups b xs (I.base.tups b xs e), fun b o xs e => frzs b o xs (I.base.frzs b o xs e), fun b ps e => ?_⟩, ?_, fun x c e => ?_, ?_, fun x c e => ?_, fun p hp => ?_, hok, I.len⟩
  · exact keep b o (neL b o e) hb (neC b o e hx) (I.base.keep b o e n hb hx) (I.base.free b o e n hx)
  · obtain ⟨sl, e1⟩ := I.base.slot b o e n hb hx
    obtain ⟨sl', e2⟩ := slot b _ (neL b o e) hb (neC b o e hx) e1 (I.base.free b o e n hx)
    exact ⟨sl', e2⟩
  · obtain ⟨o', e1⟩ := I.base.there b o e hx
    exact free b o' (neC b o e hx) e1 (I.base.free b o e n hx)
  · obtain ⟨o', e1⟩ := I.base.there b o e hx
    exact there b o' (neC b o e hx) e1
  · obtain ⟨m1, e1⟩ := I.base.tbls b ps e
    obtain ⟨m2, e2⟩ := tbls b _ e1
    exact ⟨m1 ++ m2, by rw [e2, Array.append_assoc]⟩
  · obtain ⟨m, hn, hl⟩ := I.loc
    refine ⟨m, ns m hn, fun i x v e1 e2 e3 => ?_⟩
    obtain ⟨u, r, l⟩ := hl i x v e1 e2 e3
    refine ⟨u, r, ?_⟩
    rcases l with l | ⟨k, c, e, z⟩
    · exact .inl l
    · exact .inr ⟨k, c, e, cellK x c e _ z⟩
  · obtain ⟨v, z⟩ := I.cell x c e
    exact ⟨v, cellK x c e v z⟩
  · obtain ⟨m, ⟨o, _, _, ho, _⟩, _⟩ := I.loc
    exact free _ o (fun z => (hch _ z).2.1 rfl) ho I.free
  · obtain ⟨v, o, ho, hd⟩ := I.cell x c e
    exact free c o (fun z => (hch c z).2.2.1 x c e rfl) ho (I.freeC x c e)
  · obtain ⟨e, n, ne, nf, d⟩ := I.pin p hp
    have nch : p.1 ∉ ch := fun z => (hch p.1 z).2.2.2 p hp rfl
    exact ⟨keep p.1 p.2 ne nf nch e n, free p.1 p.2 nch e n, ne, nf, d⟩
/-- .. where the frame's own object is kept too -/
theorem Inv.un {t' : Nat} (I : Inv X pins σ H s) (u : Un X.fs [] H H' s.heap h') (hok : HOk X.prog X.w H' h') : Inv X pins σ H' { s with heap := h', toks := t' } := by
  obtain ⟨m, ⟨o, es, ep, ho, r⟩, _⟩ := id I.loc
  obtain ⟨sl, hL⟩ := u.any ho I.free (by simp)
  exact I.step (g' := s.gens) (d' := s.drawn) (ch := []) (fun _ z => nomatch z) (fun b o _ hb _ e n => u.keep b o e n hb (by simp)) (fun b o _ hb _ e n => u.slot b o e n hb (by simp)) (fun b o _ e n => u.free b o e n (by simp)) (fun b o _ e => u.there b o e (by simp)) u.tups u.frzs u.tbls (fun m' hm => by
    obtain ⟨o', es', ep', ho', r'⟩ := hm
    rw [ho] at ho'; cases ho'
    exact ⟨_, es', ep', hL, r'⟩) hok I.bare
/-- behind a call (or a comprehension's block): the slots of this frame may have changed too, the records at ch may have turned -/
theorem Inv.call {g' : Array GenState} {t' : Nat} {d' : Drawn} {ch : List Addr} (I : Inv X pins σ H s) (u : Un (frs X.stack) ch H H' s.heap h') (hok : HOk X.prog X.w H' h') (hg : AllBare g')
    (hch : ∀ b ∈ ch, (b ∈ X.ex ∨ X.s₀.heap.objs.size ≤ b) ∧ b ≠ X.env.locals ∧ (∀ x c, X.env.cells.lookup x = some c → c ≠ b) ∧ ∀ p ∈ X.pn ++ pins, p.1 ≠ b) :
    Inv X pins σ H' { s with heap := h', gens := g', drawn := d', toks := t' } := by
  obtain ⟨m, ⟨o, es, ep, ho, r⟩, _⟩ := id I.loc
  obtain ⟨sl, hL⟩ := u.any ho I.free fun z => (hch _ z).2.1 rfl
  exact I.step (ch := ch) hch (fun b o hL hb hc e n => u.keep b o e n (fun z => (List.mem_cons.mp (I.stkSub b z)).elim hL hb) hc) (fun b o _ _ hc e n => u.any e n hc) (fun b o hc e n => u.free b o e n hc) (fun b o hc e => u.there b o e hc) u.tups u.frzs u.tbls (fun m' hm => by
    obtain ⟨o', es', ep', ho', r'⟩ := hm
    rw [ho] at ho'; cases ho'
    exact ⟨_, es', ep', hL, r'⟩) hok hg
/-- an untracked record of ours (an iterator) has turned -/
theorem Inv.turned {t' : Nat} {it : Addr} (I : Inv X pins σ H s) (k : ∀ b o, b ≠ it → s.heap.get? b = some o → h'.get? b = some o) (hn : H it = none) (hL : it ≠ X.env.locals)
    (h1 : it ∈ X.ex ∨ X.s₀.heap.objs.size ≤ it) (h2 : ∀ x c, X.env.cells.lookup x = some c → c ≠ it) (h3 : ∀ p ∈ X.pn ++ pins, p.1 ≠ it) : Inv X pins σ H { s with heap := h', toks := t' } := by
  have nit : ∀ b u, H b = some u → b ≠ it := fun b u e z => by rw [z, hn] at e; cases e
  refine I.step (g' := s.gens) (d' := s.drawn) (ch := [it]) (fun b hb => ?_) (fun b o _ _ hc e _ => k b o (fun z => hc (by simp [z])) e) (fun b o _ _ hc e _ => ⟨o.slots, k b o (fun z => hc (by simp [z])) e⟩) (fun _ _ _ _ n => n)
    (fun b o hc e => ⟨o, k b o (fun z => hc (by simp [z])) e⟩) (fun _ _ e => e) (fun _ _ _ e => e) (fun b ps e => ⟨#[], by rw [e]; simp⟩) (fun m hm => ?_) (fun b u e => ?_) I.bare
  · have e : b = it := by simpa using hb
    subst e
    exact ⟨h1, hL, h2, h3⟩
  · obtain ⟨o, es, ep, ho, r⟩ := hm
    exact ⟨o, es, ep, k _ o (Ne.symm hL) ho, r⟩
  · refine (I.hok b u e).stay (fun c v hc q => k c v ?_ q) (fun _ q => q) fun _ _ q => q
    rcases hc with z | z
    · rw [z]; exact nit b u e
    · exact nit c _ z
theorem Inv.tok (I : Inv X pins σ H s) (t : Nat) : Inv X pins σ H { s with toks := t } := I.un (h' := s.heap) (t' := t) Un.refl I.hok
/-- all objects kept -/
theorem Inv.kept {t' : Nat} (I : Inv X pins σ H s) (k : ∀ b u, s.heap.get? b = some u → h'.get? b = some u) : Inv X pins σ H { s with heap := h', toks := t' } := I.un (Un.kept k) (I.hok.kept k)
/-- a new object laid and tracked -/
theorem Inv.laid {a : Addr} {o : HO} {t' : Nat} (I : Inv X pins σ H s) (k : ∀ b u, s.heap.get? b = some u → h'.get? b = some u) (hp : s.heap.objs.size ≤ a) (new : ObjOk X.prog X.w (upd H a o) h' a o) :
    Inv X pins σ (upd H a o) { s with heap := h', toks := t' } := I.un (Un.laid k hp (I.hok.fresh hp)) (I.hok.laid k hp new)
/-- an object written -/
theorem Inv.write {x e : Addr} {o : HO} {t' : Nat} (I : Inv X pins σ H s) (mu : Mut (H x)) (he : e = x ∨ H e = some (.own x)) (k : ∀ b u, b ≠ e → s.heap.get? b = some u → h'.get? b = some u) (heo : ∃ u, h'.get? e = some u)
    (new : ObjOk X.prog X.w (upd H x o) h' x o) : Inv X pins σ (upd H x o) { s with heap := h', toks := t' } := I.un (Un.write mu he k heo) (I.hok.write mu he k heo new)
/-- forgetting slots, pins -/
theorem Inv.weak {σ' : List (Option V)} (I : Inv X pins σ H s) (hl : σ'.length = σ.length) (w : ∀ (i : Nat) v, σ'[i]? = some (some v) → σ[i]? = some (some v)) : Inv X pins σ' H s :=
  ⟨I.ok, I.os, I.bare, I.base, let ⟨m, hn, hl'⟩ := I.loc; ⟨m, hn, fun i x v e1 e2 e3 => hl' i x v e1 (w i v e2) e3⟩, I.cell, I.free, I.freeC, I.pin, I.hok, hl.trans I.len⟩
theorem Inv.pins_of {pins' : List (Addr × Obj)} (I : Inv X pins σ H s) (h : ∀ p ∈ pins', s.heap.get? p.1 = some p.2 ∧ H p.1 = none ∧ p.1 ≠ X.env.locals ∧ p.1 ∉ X.fs ∧ ∀ v, p.2.data ≠ .cell v) : Inv X pins' σ H s :=
  ⟨I.ok, I.os, I.bare, I.base, I.loc, I.cell, I.free, I.freeC, fun p hp => (List.mem_append.mp hp).elim (fun z => I.pin p (List.mem_append_left _ z)) (h p), I.hok, I.len⟩

theorem nodup_ix {N : List Str} (hN : N.Nodup) {i j : Nat} {x : Str} (a : N[i]? = some x) (b : N[j]? = some x) : i = j := by
  obtain ⟨h1, e1⟩ := List.getElem?_eq_some_iff.mp a
  obtain ⟨h2, e2⟩ := List.getElem?_eq_some_iff.mp b
  exact (List.getElem_inj hN).mp (e1.trans e2.symm)

/-- a name is stored; what changed -/
theorem store_ok2 {M : Model} {A : Around} {E : Value → Shared → Prop} {i : Nat} {x : Str} {v : V} {u : Value} {Q : Unit → Shared → Prop} (I : Inv X pins σ H s) (hN : X.N.Nodup) (hi : X.N[i]? = some x) (hx : Loc X.env.scope x) (r : RelV v u)
    (h : ∀ s', Inv X pins (σ.set i (some v)) H s' → (∃ a, Heap.SameBut a s.heap s'.heap ∧ (a = X.env.locals ∨ X.env.cells.lookup x = some a)) → Q () s') (hf : X.fn x = true ∨ X.env.scope.names.lookup x = some .local := by first | exact .inl rfl | exact .inr rfl | assumption) : wpAny M A (storeName X.env x u) Q E s := by
  obtain ⟨m, hn, hl⟩ := id I.loc
  have hcls : (X.env.scope.kind == .class || (X.env.scope.kind == .module && X.env.locals != X.env.globals)) = false := by rw [I.ok.kind]; rfl
  have hiσ : i < σ.length := by rw [I.len]; exact (List.getElem?_eq_some_iff.mp hi).1
  have cne := I.cne
  have tracked : ∀ {a : Addr} {h' : Heap}, (∃ o, s.heap.get? a = some o ∧ H a = none) → Heap.SameBut a s.heap h' → HOk X.prog X.w H h' := fun {a h'} ha hs b ob e => by
    obtain ⟨_, _, hfree⟩ := ha
    refine (I.hok b ob e).stay (fun c w' hc q => (hs.2 c ?_).trans q) (fun _ q => q) fun _ _ q => q
    rintro rfl
    rcases hc with rfl | hc
    · rw [hfree] at e; cases e
    · rw [hfree] at hc; cases hc
  rcases hx with hk | hk
  · refine wpAny_storeName_local hk hn (fun h' hn' hs => ?_) hcls
    obtain ⟨oL, _, _, hoL, _⟩ := id hn
    refine h _ ⟨I.ok, I.os, I.bare, ⟨fun b o e n hb hx => ?_, fun b o e n hb hx => ?_, I.base.free, fun b o e hx => ?_, I.base.tups, I.base.frzs, I.base.tbls⟩, ⟨_, hn', fun j y v' e1 e2 e3 => ?_⟩, fun y c e => ?_, I.free, I.freeC, fun p hp => ?_, tracked ⟨oL, hoL, I.free⟩ hs, by simpa using I.len⟩ ⟨_, hs, .inl rfl⟩
    · exact (hs.2 b (Nat.ne_of_lt (Nat.lt_of_lt_of_le (Heap.lt_size e) I.ok.above))).trans (I.base.keep b o e n hb hx)
    · obtain ⟨sl, e1⟩ := I.base.slot b o e n hb hx
      exact ⟨sl, (hs.2 b (Nat.ne_of_lt (Nat.lt_of_lt_of_le (Heap.lt_size e) I.ok.above))).trans e1⟩
    · obtain ⟨o', e1⟩ := I.base.there b o e hx
      exact ⟨o', (hs.2 b (Nat.ne_of_lt (Nat.lt_of_lt_of_le (Heap.lt_size e) I.ok.above))).trans e1⟩
    · by_cases hj : j = i
      · subst hj
        rw [hi] at e1; cases e1
        rw [List.getElem?_set_self hiσ] at e2
        cases e2
        exact ⟨u, r, .inl ⟨hk, by simp⟩⟩
      · rw [List.getElem?_set_ne (Ne.symm hj)] at e2
        obtain ⟨u', r', q⟩ := hl j y v' e1 e2 e3
        refine ⟨u', r', ?_⟩
        rcases q with ⟨k, e⟩ | ⟨k, c, e, z⟩
        · refine .inl ⟨k, ?_⟩
          have : y ≠ x := fun e => hj (nodup_ix hN e1 (e ▸ hi))
          simp [this, e]
        · exact .inr ⟨k, c, e, z.sameBut hs (cne y c e)⟩
    · obtain ⟨w', z⟩ := I.cell y c e
      exact ⟨w', z.sameBut hs (cne y c e)⟩
    · obtain ⟨e, n, ne, nf, d⟩ := I.pin p hp
      exact ⟨(hs.2 p.1 ne).trans e, n, ne, nf, d⟩
  · have hfn : X.fn x = true := by
      rcases hf with z | z
      · exact z
      · rw [z] at hk; cases hk
    obtain ⟨c, hc⟩ := I.ok.has x (.inl hk)
    obtain ⟨w', z⟩ := I.cell x c hc
    refine wpAny_storeName_cell I.ok.kind hk hc z (fun h' hc' hs => ?_)
    obtain ⟨oc, hoc, hocd⟩ := id z
    refine h { s with heap := h' } ⟨I.ok, I.os, I.bare, ⟨fun b o e n hb hx => ?_, fun b o e n hb hx => ?_, I.base.free, fun b o e hx => ?_, I.base.tups, I.base.frzs, I.base.tbls⟩, ⟨m, hn.sameBut hs (Ne.symm (cne x c hc)), fun j y v' e1 e2 e3 => ?_⟩, fun y c' e => ?_, I.free, I.freeC, fun p hp => ?_, tracked ⟨oc, hoc, I.freeC x c hc⟩ hs, by simpa using I.len⟩ ⟨c, hs, .inr hc⟩
    · exact (hs.2 b (Nat.ne_of_lt (Nat.lt_of_lt_of_le (Heap.lt_size e) (I.ok.cab x c hfn hc)))).trans (I.base.keep b o e n hb hx)
    · obtain ⟨sl, e1⟩ := I.base.slot b o e n hb hx
      exact ⟨sl, (hs.2 b (Nat.ne_of_lt (Nat.lt_of_lt_of_le (Heap.lt_size e) (I.ok.cab x c hfn hc)))).trans e1⟩
    · obtain ⟨o', e1⟩ := I.base.there b o e hx
      exact ⟨o', (hs.2 b (Nat.ne_of_lt (Nat.lt_of_lt_of_le (Heap.lt_size e) (I.ok.cab x c hfn hc)))).trans e1⟩
    · by_cases hj : j = i
      · subst hj
        rw [hi] at e1; cases e1
        rw [List.getElem?_set_self hiσ] at e2
        cases e2
        exact ⟨u, r, .inr ⟨.inl hk, c, hc, hc'⟩⟩
      · rw [List.getElem?_set_ne (Ne.symm hj)] at e2
        obtain ⟨u', r', q⟩ := hl j y v' e1 e2 e3
        refine ⟨u', r', ?_⟩
        rcases q with q | ⟨k, c', e, z'⟩
        · exact .inl q
        · refine .inr ⟨k, c', e, z'.sameBut hs ?_⟩
          rintro rfl
          exact hj (nodup_ix hN e1 (I.ok.inj _ _ _ e hc ▸ hi))
    · by_cases hcc : c' = c
      · subst hcc; exact ⟨_, hc'⟩
      · obtain ⟨w2, z2⟩ := I.cell y c' e
        exact ⟨w2, z2.sameBut hs hcc⟩
    · obtain ⟨e, n, ne, nf, d⟩ := I.pin p hp
      refine ⟨(hs.2 p.1 ?_).trans e, n, ne, nf, d⟩
      intro q
      rw [q, hoc] at e
      have q' : oc = p.2 := Option.some.inj e
      exact d w' (by rw [← q']; exact hocd)
theorem store_ok {M : Model} {A : Around} {E : Value → Shared → Prop} {i : Nat} {x : Str} {v : V} {u : Value} {Q : Unit → Shared → Prop} (I : Inv X pins σ H s) (hN : X.N.Nodup) (hi : X.N[i]? = some x) (hx : Loc X.env.scope x) (r : RelV v u)
    (h : ∀ s', Inv X pins (σ.set i (some v)) H s' → Q () s') (hf : X.fn x = true ∨ X.env.scope.names.lookup x = some .local := by first | exact .inl rfl | exact .inr rfl | assumption) : wpAny M A (storeName X.env x u) Q E s :=
  store_ok2 I hN hi hx r (fun s' I' _ => h s' I') hf
/-- behind a call or a block, the state as it is -/
theorem Inv.call' {s' : Shared} {ch : List Addr} (I : Inv X pins σ H s) (ho : s'.os = s.os) (u : Un (frs X.stack) ch H H' s.heap s'.heap) (hok : HOk X.prog X.w H' s'.heap) (hg : AllBare s'.gens)
    (hch : ∀ b ∈ ch, (b ∈ X.ex ∨ X.s₀.heap.objs.size ≤ b) ∧ b ≠ X.env.locals ∧ (∀ x c, X.env.cells.lookup x = some c → c ≠ b) ∧ ∀ p ∈ X.pn ++ pins, p.1 ≠ b) : Inv X pins σ H' s' := by
  obtain ⟨h', g', d', t', o'⟩ := s'
  have e : o' = s.os := ho
  subst e
  exact I.call (g' := g') (t' := t') (d' := d') u hok hg hch
end

/-! ### the judgements -/
/-- an exception: its class, its own dict's address (where it has one), the abstract heap behind it -/
abbrev XK := Value → Option Addr → Hp → Prop
abbrev St := List (Option V)
abbrev VK := V → Hp → Prop
/-- an expression's reading; a test's; an argument list's -/
abbrev TE := St → Hp → VK → Prop
abbrev TT := St → Hp → (Bool → Hp → Prop) → Prop
abbrev TA := St → Hp → (List V → Hp → Prop) → Prop
/-- what is wanted behind a statement -/
structure Ends where
  nx : St → Hp → Prop
  rt : VK
  bk : St → Hp → Prop := fun _ _ => False
  ct : St → Hp → Prop := fun _ _ => False
abbrev TS := Ends → St → Hp → Prop

def EP (X : Cx) (pins : List (Addr × Obj)) (σ : St) (Q : VK) (u : Value) (s' : Shared) : Prop := ∃ v H', Inv X pins σ H' s' ∧ RelV v u ∧ Q v H'
def TP (X : Cx) (pins : List (Addr × Obj)) (σ : St) (Q : Bool → Hp → Prop) (b : Bool) (s' : Shared) : Prop := ∃ H', Inv X pins σ H' s' ∧ Q b H'
def AP (X : Cx) (pins : List (Addr × Obj)) (σ : St) (Q : List V → Hp → Prop) (us : List Value) (s' : Shared) : Prop := ∃ vs H', Inv X pins σ H' s' ∧ Vals vs us ∧ Q vs H'
def SP (X : Cx) (pins : List (Addr × Obj)) (D : Ends) (f : Flow) (s' : Shared) : Prop :=
  match f with
  | .next => ∃ σ' H', Inv X pins σ' H' s' ∧ D.nx σ' H'
  | .brk => ∃ σ' H', Inv X pins σ' H' s' ∧ D.bk σ' H'
  | .cont => ∃ σ' H', Inv X pins σ' H' s' ∧ D.ct σ' H'
  | .ret u => ∃ v σ' H', Inv X pins σ' H' s' ∧ RelV v u ∧ D.rt v H'

def PE (X : Cx) (e : Expr) (t : TE) : Prop :=
  ∀ (pins : List (Addr × Obj)) (s : Shared) (σ : St) (H : Hp) (Q : VK), Inv X pins σ H s → t σ H Q → wpAny (model X.prog X.w) X.A (eval e X.env) (EP X pins σ Q) X.xe s
def PT (X : Cx) (e : Expr) (t : TT) : Prop :=
  ∀ (pins : List (Addr × Obj)) (s : Shared) (σ : St) (H : Hp) (Q : Bool → Hp → Prop), Inv X pins σ H s → t σ H Q → wpAny (model X.prog X.w) X.A (isTrue e X.env (eval e X.env)) (TP X pins σ Q) X.xe s
/-- a test whatever its 'whole' is (and, or) -/
def PW (X : Cx) (e : Expr) (t : TT) : Prop :=
  ∀ (whole : Sem Value) (pins : List (Addr × Obj)) (s : Shared) (σ : St) (H : Hp) (Q : Bool → Hp → Prop), Inv X pins σ H s → t σ H Q → wpAny (model X.prog X.w) X.A (isTrue e X.env whole) (TP X pins σ Q) X.xe s
theorem PW.pt {X : Cx} {e : Expr} {t : TT} (h : PW X e t) : PT X e t := h _
/-- an argument list (no star), from the left -/
def PA (X : Cx) (es : List Expr) (t : TA) : Prop :=
  ∀ (pos : Pos) (pins : List (Addr × Obj)) (s : Shared) (σ : St) (H : Hp) (Q : List V → Hp → Prop), Inv X pins σ H s → t σ H Q → wpAny (model X.prog X.w) X.A (spliced (backTo pos (starEach es X.env))) (AP X pins σ Q) X.xe s
def PS (X : Cx) (st : Stmt) (t : TS) : Prop :=
  ∀ (pins : List (Addr × Obj)) (s : Shared) (σ : St) (H : Hp) (D : Ends), Inv X pins σ H s → t D σ H → wpAny (model X.prog X.w) X.A (exec st X.env) (SP X pins D) X.xe s
def PSs (X : Cx) (st : List Stmt) (t : TS) : Prop :=
  ∀ (pins : List (Addr × Obj)) (s : Shared) (σ : St) (H : Hp) (D : Ends), Inv X pins σ H s → t D σ H → wpAny (model X.prog X.w) X.A (execs st X.env) (SP X pins D) X.xe s
/-- weaken the end -/
theorem thn {α : Type} {t : Sem α} {Q Q' : α → Shared → Prop} {M : Model} {A : Around} {E : Value → Shared → Prop} {s : Shared} (h : wpAny M A t Q E s) (hQ : ∀ a s, Q a s → Q' a s) : wpAny M A t Q' E s := wpAny_mono h hQ fun _ _ x => x
end L2

namespace L2
open PySem PySem.Spec PyProof.Rows
section
variable {X : Cx}

/-! ### names and constants -/
def tVar (i : Nat) : TE := fun σ H Q => ∃ v, σ[i]? = some (some v) ∧ Q v H
def tC (v : V) : TE := fun _ H Q => Q v H
theorem pe_var {i : Nat} {x : Str} {pos : Pos} (hN : X.N[i]? = some x) (hv : Vis X.env.scope x) (hd : (x == ("__debug__" : Str)) = false := by decide) (hcd : (x == ("__classdict__" : Str)) = false := by decide) : PE X (.Name x pos) (tVar i) := by
  intro pins s σ H Q I h
  obtain ⟨v, e, h⟩ := h
  obtain ⟨m, hn, hl⟩ := I.loc
  obtain ⟨u, r, l⟩ := hl i x v hN e hv
  have fin : EP X pins σ Q u s := ⟨v, H, I, r, h⟩
  rcases l with ⟨hk, hm⟩ | ⟨hk, c, hc, hcell⟩
  · exact wpAny_Name (wpAny_loadName_local I.ok.kind hk hn hm fin) hd
  · rcases hk with hk | hk
    · exact wpAny_Name (wpAny_loadName_cell I.ok.kind hk hc hcell fin) hd
    · exact wpAny_Name (wpAny_loadName_free I.ok.kind hk hc hcell fin hcd) hd
theorem pe_int {i j pos} : PE X (.Constant (.int i) j pos) (tC (.int i)) := fun _ _ _ H _ I h => wpAny_Constant_int ⟨.int i, H, I.tok _, ⟨_, rfl⟩, h⟩
theorem pe_bl {b j pos} : PE X (.Constant (.bool b) j pos) (tC (.bl b)) := fun _ _ _ H _ I h => Constant_bool ⟨.bl b, H, I, rfl, h⟩
theorem pe_non {j pos} : PE X (.Constant .none j pos) (tC .non) := fun _ _ _ H _ I h => Constant_none ⟨.non, H, I, rfl, h⟩
/-- a global name of the def -/
def Gl (X : Cx) (x : Str) : Prop := X.env.kindOf x = some .globalImplicit
theorem ld_glob {E : Value → Shared → Prop} {pins : List (Addr × Obj)} {s : Shared} {σ : St} {H : Hp} {x : Str} {u : Value} {pos : Pos} {Q : Value → Shared → Prop} (I : Inv X pins σ H s) (hg : Gl X x) (hm : X.mg x = some u) (h : Q u s)
    (hd : (x == ("__debug__" : Str)) = false := by decide) : wpAny (model X.prog X.w) X.A (eval (.Name x pos) X.env) Q E s :=
  Calls.Name_function_global I.ok.kind hg (Calls.loadGlobal_global (by rw [I.ok.glob]; exact I.mod.glob.keeps I.bk) hm h) hd
theorem ld_blt {E : Value → Shared → Prop} {pins : List (Addr × Obj)} {s : Shared} {σ : St} {H : Hp} {x : Str} {u : Value} {pos : Pos} {Q : Value → Shared → Prop} (I : Inv X pins σ H s) (hg : Gl X x) (hm : X.mg x = none) (hv : bootBuiltins x = some u) (h : Q u s)
    (hn : x ≠ "__name__" := by decide) (hd : (x == ("__debug__" : Str)) = false := by decide) : wpAny (model X.prog X.w) X.A (eval (.Name x pos) X.env) Q E s := by
  obtain ⟨mb, h1, h2⟩ := I.mod.blt
  exact Calls.Name_function_global I.ok.kind hg (Calls.loadGlobal_builtin (by rw [I.ok.glob]; exact I.mod.glob.keeps I.bk) hm (by rw [I.ok.blt]; exact h1.keeps I.bk) ((h2 x hn).trans hv) h) hd
theorem pe_bltn {x : Str} {v : V} {u : Value} {pos : Pos} (hg : Gl X x) (hm : X.mg x = none) (hv : bootBuiltins x = some u) (r : RelV v u) (hn : x ≠ "__name__" := by decide) (hd : (x == ("__debug__" : Str)) = false := by decide) : PE X (.Name x pos) (tC v) :=
  fun _ _ _ H _ I h => ld_blt I hg hm hv ⟨v, H, I, r, h⟩ hn hd

/-! ### arithmetic -/
variable {a b : Expr} {ta tb : TE} {pos : Pos}
/-! ### comparisons -/
/-- a comparison as a value, as a test -/
def tB (t : TE) : TT := fun σ H Q => t σ H fun x H1 => ∃ c, x = .bl c ∧ Q c H1
/-- an expression whose value is a bool, as a test -/
theorem pt_val {e : Expr} {t : TE} (h : PE X e t) (he : ∀ whole, isTrue e X.env whole = (do let v ← whole; standAt e.pos; holding [v] (truthy v)) := by intro _; rfl) : PT X e (tB t) := by
  intro pins s σ H Q I hw
  refine isTrue_plain (thn (h pins s σ H _ I hw) fun v s1 ⟨x, H1, I1, r1, q1⟩ => ?_) (he _)
  obtain ⟨d, rfl, q⟩ := q1
  cases r1
  exact wpAny_truthy_bool ⟨H1, I1, q⟩

/-! ### and, or, not -/
variable {tA tB' : TT} {rest : List Expr}
def tAnd (t u : TT) : TT := fun σ H Q => t σ H fun c H1 => if c = true then u σ H1 Q else Q false H1
def tOr (t u : TT) : TT := fun σ H Q => t σ H fun c H1 => if c = true then Q true H1 else u σ H1 Q
def tNot (t : TT) : TT := fun σ H Q => t σ H fun c H1 => Q (!c) H1
theorem pw_and1 (ha : PT X a tA) : PW X (.BoolOp .And [a] pos) tA := by
  intro wh pins s σ H Q I h
  refine isTrue_and (thn (ha pins s σ H Q I h) fun c s1 e => ?_)
  cases c with
  | true => exact isTrue_and_nil e
  | false => exact e
theorem pw_or1 (ha : PT X a tA) : PW X (.BoolOp .Or [a] pos) tA := by
  intro wh pins s σ H Q I h
  refine isTrue_or (thn (ha pins s σ H Q I h) fun c s1 e => ?_)
  cases c with
  | false => exact isTrue_or_nil e
  | true => exact e
theorem pw_and (ha : PT X a tA) (hb : PW X (.BoolOp .And (b :: rest) pos) tB') : PW X (.BoolOp .And (a :: b :: rest) pos) (tAnd tA tB') := by
  intro wh pins s σ H Q I h
  refine isTrue_and (thn (ha pins s σ H _ I h) fun c s1 ⟨H1, I1, q1⟩ => ?_)
  cases c with
  | true => exact hb wh pins s1 σ H1 Q I1 q1
  | false => exact ⟨H1, I1, q1⟩
theorem pw_or (ha : PT X a tA) (hb : PW X (.BoolOp .Or (b :: rest) pos) tB') : PW X (.BoolOp .Or (a :: b :: rest) pos) (tOr tA tB') := by
  intro wh pins s σ H Q I h
  refine isTrue_or (thn (ha pins s σ H _ I h) fun c s1 ⟨H1, I1, q1⟩ => ?_)
  cases c with
  | true => exact ⟨H1, I1, q1⟩
  | false => exact hb wh pins s1 σ H1 Q I1 q1
theorem pt_not (ha : PT X a tA) : PT X (.UnaryOp .Not a pos) (tNot tA) := by
  intro pins s σ H Q I h
  exact isTrue_not (ha pins s σ H (fun c H1 => Q (!c) H1) I h)
/-- .. as values (bools) -/
def tAndV (ta tb : TE) : TE := fun σ H Q => ta σ H fun x H1 => ∃ c, x = .bl c ∧ if c = true then tb σ H1 Q else Q (.bl false) H1
theorem pe_one {op} {t : TE} (h : PE X a t) : PE X (.BoolOp op [a] pos) t := fun pins s σ H Q I hw => BoolOp_one (h pins s σ H Q I hw)
theorem pe_and (ha : PE X a ta) (hb : PE X (.BoolOp .And (b :: rest) pos) tb) : PE X (.BoolOp .And (a :: b :: rest) pos) (tAndV ta tb) := by
  intro pins s σ H Q I h
  refine BoolOp_and (thn (ha pins s σ H _ I h) fun v s1 ⟨x, H1, I1, r1, q1⟩ => ?_)
  obtain ⟨c, rfl, q1⟩ := q1
  cases r1
  refine wpAny_truthy_bool ?_
  cases c with
  | true => exact hb pins s1 σ H1 Q I1 q1
  | false => exact ⟨.bl false, H1, I1, rfl, q1⟩
end
end L2

namespace L2
open PySem PySem.Spec PyProof.Rows

/-! ### a list, a tuple that is read: tracked, frozen, or an object of the module -/
def SqL (K : PySem.W.Frag) (H : Hp) (a : Addr) (xs : List V) : Prop :=
  Rd H a (.lst xs) ∨
    ∃ (o : Obj) (its : Array Value) (n : Nat), K.lookup a = some o ∧ o.cls = .type "list" ∧ o.dict = none ∧ o.data = .seq its n ∧ its.size ≤ sizeLine ∧ Vals xs its.toList
def SqT (K : PySem.W.Frag) (H : Hp) (a : Addr) (xs : List V) : Prop :=
  Rd H a (.tup xs) ∨
    ∃ (o : Obj) (its : Array Value) (n : Nat), K.lookup a = some o ∧ o.cls = .type "tuple" ∧ o.data = .seq its n ∧ its.size ≤ sizeLine ∧ Vals xs its.toList
def absV : Value → Option V
  | .none => some .non
  | .bool b => some (.bl b)
  | .int i _ => some (.int i)
  | .str x _ => some (.str x)
  | .bytes b _ => some (.byt b)
  | .float b _ => some (.flt b)
  | .ref a => some (.ref a)
  | .type n => some (.ty n)
  | _ => none
theorem RelV.abs {x : V} {u : Value} (r : RelV x u) : absV u = some x := by
  cases x with
  | non => cases r; rfl
  | bl _ => cases r; rfl
  | int _ => obtain ⟨t, rfl⟩ := r; rfl
  | str _ => obtain ⟨t, rfl⟩ := r; rfl
  | byt _ => obtain ⟨t, rfl⟩ := r; rfl
  | flt _ => obtain ⟨t, rfl⟩ := r; rfl
  | ref _ => cases r; rfl
  | ty _ => cases r; rfl
theorem RelV.inj {x y : V} {u : Value} (r : RelV x u) (q : RelV y u) : x = y := Option.some.inj (r.abs.symm.trans q.abs)
theorem Vals.inj : ∀ {xs ys : List V} {us : List Value}, Vals xs us → Vals ys us → xs = ys
  | _, _, _, .nil, .nil => rfl
  | _, _, _, .cons r t, .cons r' t' => by rw [r.inj r', Vals.inj t t']
section
variable {X : Cx} {pins : List (Addr × Obj)} {σ : St} {H : Hp} {s : Shared} {a : Addr} {xs ys : List V}
theorem SqL.of {K : PySem.W.Frag} (h : H a = some (.lst xs)) : SqL K H a xs := .inl (.inl h)
theorem SqT.of {K : PySem.W.Frag} (h : H a = some (.tup xs)) : SqT K H a xs := .inl (.inl h)
theorem Inv.list (I : Inv X pins σ H s) (h : SqL X.K H a xs) : ∃ its : List Value, Vals xs its ∧ PlainL s.heap a its.toArray ∧ xs.length ≤ sizeLine := by
  rcases h with h | ⟨o, its, n, hk, hc, hd, hs, hz, r⟩
  · obtain ⟨z, its, n, r, e⟩ := h.ok I.hok
    exact ⟨its, r, ⟨_, n, e, rfl, rfl, rfl⟩, z⟩
  · refine ⟨its.toList, r, ⟨o, n, I.kIn a o hk, hc, hd, by simpa using hs⟩, ?_⟩
    have e := r.length
    simp only [Array.length_toList] at e
    omega
theorem Inv.tuple (I : Inv X pins σ H s) (h : SqT X.K H a xs) : ∃ its : List Value, Vals xs its ∧ IsTup s.heap a its.toArray ∧ xs.length ≤ sizeLine := by
  rcases h with h | ⟨o, its, n, hk, hc, hs, hz, r⟩
  · obtain ⟨z, its, r, p⟩ := h.ok I.hok
    exact ⟨its, r, p, z⟩
  · refine ⟨its.toList, r, ⟨o, I.kIn a o hk, hc, n, by simpa using hs⟩, ?_⟩
    have e := r.length
    simp only [Array.length_toList] at e
    omega
theorem Inv.list_inj (I : Inv X pins σ H s) (h : SqL X.K H a xs) (h' : SqL X.K H a ys) : xs = ys := by
  obtain ⟨its, r, ⟨o, n, e, _, _, d⟩, _⟩ := I.list h
  obtain ⟨its', r', ⟨o', n', e', _, _, d'⟩, _⟩ := I.list h'
  rw [e] at e'; cases e'
  rw [d] at d'
  injection d' with d1 _
  have : its = its' := by simpa using congrArg Array.toList d1
  subst this
  exact r.inj r'
end

/-! ### another wish about exceptions -/
abbrev Cx.wish (X : Cx) (E : Value → Shared → Prop) : Cx := { X with xe := E }
/-- no exception leaves -/
abbrev Cx.nox (X : Cx) : Cx := X.wish fun _ _ => False
theorem Cx.Ok.wish {X : Cx} (ok : X.Ok) (E : Value → Shared → Prop) : (X.wish E).Ok :=
  ⟨ok.mod, ok.kind, ok.glob, ok.blt, ok.above, ok.inj, ok.has, ok.cab, ok.hd, ok.frames, ok.stk, ok.exf, ok.bs, ok.bsz, ok.noex, ok.exfs, ok.funs, ok.frf⟩
theorem Cx.Ok.unwish {X : Cx} {E : Value → Shared → Prop} (ok : (X.wish E).Ok) : X.Ok :=
  ⟨ok.mod, ok.kind, ok.glob, ok.blt, ok.above, ok.inj, ok.has, ok.cab, ok.hd, ok.frames, ok.stk, ok.exf, ok.bs, ok.bsz, ok.noex, ok.exfs, ok.funs, ok.frf⟩
section
variable {X : Cx} {pins : List (Addr × Obj)} {σ : St} {H : Hp} {s : Shared} {E : Value → Shared → Prop}
theorem Inv.wish (I : Inv X pins σ H s) (E : Value → Shared → Prop) : Inv (X.wish E) pins σ H s := ⟨I.ok.wish E, I.os, I.bare, I.base, I.loc, I.cell, I.free, I.freeC, I.pin, I.hok, I.len⟩
theorem Inv.unwish (I : Inv (X.wish E) pins σ H s) : Inv X pins σ H s := ⟨I.ok.unwish, I.os, I.bare, I.base, I.loc, I.cell, I.free, I.freeC, I.pin, I.hok, I.len⟩
theorem SP.unwish {D : Ends} {f : Flow} {s' : Shared} (h : SP (X.wish E) pins D f s') : SP X pins D f s' := by
  cases f with
  | next => obtain ⟨σ', H', I, q⟩ := h; exact ⟨σ', H', I.unwish, q⟩
  | brk => obtain ⟨σ', H', I, q⟩ := h; exact ⟨σ', H', I.unwish, q⟩
  | cont => obtain ⟨σ', H', I, q⟩ := h; exact ⟨σ', H', I.unwish, q⟩
  | ret u => obtain ⟨v, σ', H', I, r, q⟩ := h; exact ⟨v, σ', H', I.unwish, r, q⟩
theorem PE.nox {e : Expr} {t : TE} (h : PE X.nox e t) : PE X e t := fun pins s σ H Q I hw =>
  wpAny_mono (h pins s σ H Q (I.wish _) hw) (fun _ _ ⟨v, H', I', r, q⟩ => ⟨v, H', I'.unwish, r, q⟩) fun _ _ z => False.elim z
theorem PT.nox {e : Expr} {t : TT} (h : PT X.nox e t) : PT X e t := fun pins s σ H Q I hw =>
  wpAny_mono (h pins s σ H Q (I.wish _) hw) (fun _ _ ⟨H', I', q⟩ => ⟨H', I'.unwish, q⟩) fun _ _ z => False.elim z
theorem PSs.nox {st : List Stmt} {t : TS} (h : PSs X.nox st t) : PSs X st t := fun pins s σ H D I hw =>
  wpAny_mono (h pins s σ H D (I.wish _) hw) (fun _ _ q => q.unwish) fun _ _ z => False.elim z
end

/-! ### blocks and small statements -/
section
variable {X : Cx} {st : Stmt} {rest : List Stmt} {t u : TS} {e : Expr} {te : TE} {pos : Pos}
def tNext : TS := fun D σ H => D.nx σ H
def tSeq (t u : TS) : TS := fun D σ H => t { D with nx := u D } σ H
theorem pss_nil : PSs X [] tNext := fun _ _ σ H _ I h => wpAny_execs_nil ⟨σ, H, I, h⟩
theorem pss_cons (h1 : PS X st t) (h2 : PSs X rest u) : PSs X (st :: rest) (tSeq t u) := by
  intro pins s σ H D I h
  refine wpAny_execs_cons (thn (h1 pins s σ H { D with nx := u D } I h) fun f s1 q => ?_)
  cases f with
  | next =>
    obtain ⟨σ', H', I', q⟩ := q
    exact h2 pins s1 σ' H' D I' q
  | ret v => exact q
  | brk => exact q
  | cont => exact q
theorem pss_one (h1 : PS X st t) : PSs X [st] t := by
  intro pins s σ H D I h
  refine wpAny_execs_cons (thn (h1 pins s σ H D I h) fun f s1 q => ?_)
  cases f with
  | next => exact wpAny_execs_nil q
  | ret v => exact q
  | brk => exact q
  | cont => exact q
/-- in a def's body nothing is shown -/
theorem Inv.quiet {pins : List (Addr × Obj)} {σ : St} {H : Hp} {s : Shared} (I : Inv X pins σ H s) : interactive X.env = false := by simp [interactive, I.ok.kind]
/-- an expression whose value is dropped -/
def tDrop (te : TE) : TS := fun D σ H => te σ H fun _ H1 => D.nx σ H1
theorem ps_expr (he : PE X e te) (hs : swapsWith e none pos.line X.env = pure false := by rfl) : PS X (.Expr e pos) (tDrop te) := by
  intro pins s σ H D I h
  exact wpAny_Expr_any (thn (he pins s σ H _ I h) fun v s1 ⟨x, H1, I1, r1, q1⟩ => ⟨σ, H1, I1, q1⟩) I.quiet hs
def tRet (te : TE) : TS := fun D σ H => te σ H D.rt
theorem ps_ret (he : PE X e te) : PS X (.Return (some e) pos) (tRet te) := by
  intro pins s σ H D I h
  exact wpAny_Return_some (thn (he pins s σ H _ I h) fun v s1 ⟨x, H1, I1, r1, q1⟩ => ⟨x, σ, H1, I1, r1, q1⟩)
def tIfS (c : TT) (t u : TS) : TS := fun D σ H => c σ H fun b H1 => if b = true then t D σ H1 else u D σ H1
theorem ps_if {c : Expr} {a b : List Stmt} {tc : TT} (hc : PT X c tc) (ha : PSs X a t) (hb : PSs X b u) : PS X (.If c a b pos) (tIfS tc t u) := by
  intro pins s σ H D I h
  refine wpAny_If (thn (hc pins s σ H _ I h) fun d s1 ⟨H1, I1, q1⟩ => ?_)
  cases d with
  | true => exact ha pins s1 σ H1 D I1 q1
  | false => exact hb pins s1 σ H1 D I1 q1
end

/-! ### targets -/
abbrev TG := V → St → Hp → (St → Hp → Prop) → Prop
abbrev TGs := List V → St → Hp → (St → Hp → Prop) → Prop
def PG (X : Cx) (target : Expr) (t : TG) : Prop :=
  ∀ (pins : List (Addr × Obj)) (s : Shared) (σ : St) (H : Hp) (v : V) (u : Value) (Q : St → Hp → Prop), Inv X pins σ H s → RelV v u → t v σ H Q →
    wpAny (model X.prog X.w) X.A (assign target X.env u) (fun _ s' => ∃ σ' H', Inv X pins σ' H' s' ∧ Q σ' H') X.xe s
/-- several targets, one after another -/
def PGs (X : Cx) (ts : List Expr) (t : TGs) : Prop :=
  ∀ (pins : List (Addr × Obj)) (s : Shared) (σ : St) (H : Hp) (vs : List V) (us : List Value) (Q : St → Hp → Prop), Inv X pins σ H s → Vals vs us → t vs σ H Q →
    wpAny (model X.prog X.w) X.A (assignInOrder ((assignEach ts X.env).map (·.2)) us) (fun _ s' => ∃ σ' H', Inv X pins σ' H' s' ∧ Q σ' H') X.xe s
/-- o[i] = v, by values -/
abbrev TSet := V → V → V → Hp → (Hp → Prop) → Prop
def PSet (X : Cx) (t : TSet) : Prop :=
  ∀ (pins : List (Addr × Obj)) (s : Shared) (σ : St) (H : Hp) (o i v : V) (ov iv u : Value) (Q : Hp → Prop), Inv X pins σ H s → RelV o ov → RelV i iv → RelV v u → t o i v H Q →
    wpAny (model X.prog X.w) X.A (setItem ov iv u) (fun _ s' => ∃ H', Inv X pins σ H' s' ∧ Q H') X.xe s
section
variable {X : Cx} {pos : Pos}
def gName (i : Nat) : TG := fun v σ H Q => Q (σ.set i (some v)) H
theorem pg_name {i : Nat} {x : Str} (hN : X.N.Nodup) (hi : X.N[i]? = some x) (hx : Loc X.env.scope x) (hf : X.fn x = true ∨ X.env.scope.names.lookup x = some .local := by first | exact .inl rfl | exact .inr rfl | assumption) : PG X (.Name x pos) (gName i) := by
  intro pins s σ H v u Q I r h
  exact wpAny_assign_Name (store_ok I hN hi hx r (fun s' I' => ⟨_, H, I', h⟩) hf)
def gNil : TGs := fun vs σ H Q => vs = [] ∧ Q σ H
def gCons (t : TG) (u : TGs) : TGs := fun vs σ H Q => ∃ v r, vs = v :: r ∧ t v σ H fun σ' H' => u r σ' H' Q
theorem pgs_nil : PGs X [] gNil := by
  intro pins s σ H vs us Q I r h
  obtain ⟨e, h⟩ := h
  subst e
  cases r
  exact assignInOrder_nil ⟨σ, H, I, h⟩
theorem pgs_cons {e : Expr} {es : List Expr} {t : TG} {u : TGs} (h1 : PG X e t) (h2 : PGs X es u)
    (hs : (assignEach (e :: es) X.env).map (·.2) = assign e X.env :: (assignEach es X.env).map (·.2) := by rfl) : PGs X (e :: es) (gCons t u) := by
  intro pins s σ H vs us Q I r h
  obtain ⟨v, vr, e1, h⟩ := h
  subst e1
  cases r with
  | cons r rr =>
    rw [hs]
    refine assignInOrder_cons (thn (h1 pins s σ H _ _ _ I r h) fun _ s1 ⟨σ1, H1, I1, q1⟩ => ?_)
    exact h2 pins s1 σ1 H1 _ _ Q I1 rr q1
/-- (a, b, ..) = a tuple of that length -/
def gTup (K : PySem.W.Frag) (n : Nat) (t : TGs) : TG := fun v σ H Q => ∃ a xs, v = .ref a ∧ SqT K H a xs ∧ xs.length = n ∧ t xs σ H Q
theorem pg_tup {es : List Expr} {k : Nat} {t : TGs} {n : Nat} (hc : X.calm = true) (h : PGs X es t)
    (hn : (assignEach es X.env).length = n := by rfl) (hst : (assignEach es X.env).findIdx? (·.1) = none := by rfl) : PG X (.Tuple es k pos) (gTup X.K n t) := by
  intro pins s σ H v u Q I r hw
  obtain ⟨a, xs, e1, hq, hl, hw⟩ := hw
  subst e1
  cases r
  obtain ⟨its, rv, ht, hz⟩ := I.tuple hq
  refine assign_Tuple_tuple (I.ok.hd hc) ht (by simp [hn, ← hl, rv.length]) hst fun h' hx => ?_
  have I1 : Inv X pins σ H { s with heap := h' } := I.kept (t' := s.toks) fun b o e => hx b o (Nat.ne_of_lt (Heap.lt_size e)) e
  exact h pins _ σ H xs _ Q I1 (by simpa using rv) hw
/-- o[i] = .. -/
def gSub (to ti : TE) (t : TSet) : TG := fun v σ H Q => to σ H fun o H1 => ti σ H1 fun i H2 => t o i v H2 fun H3 => Q σ H3
theorem pg_sub {o i : Expr} {to ti : TE} {t : TSet} (ho : PE X o to) (hi : PE X i ti) (hs : PSet X t)
    (ha : ∀ v, assign (.Subscript o i pos) X.env v = (do
      let ov ← holding [v] (eval o X.env)
      let iv ← holding [v, ov] (eval i X.env)
      standAt pos
      holding [v, ov, iv] (setItem ov iv v)
      release [v, ov, iv] []) := by intro _; rfl) : PG X (.Subscript o i pos) (gSub to ti t) := by
  intro pins s σ H v u Q I r h
  rw [ha]
  refine wpAny_bind (wpAny_holding (thn (ho pins s σ H _ I h) fun ov s1 ⟨x, H1, I1, r1, q1⟩ => ?_))
  refine wpAny_bind (wpAny_holding (thn (hi pins s1 σ H1 _ I1 q1) fun iv s2 ⟨y, H2, I2, r2, q2⟩ => ?_))
  refine wpAny_bind (wpAny_standAt (wpAny_bind (wpAny_holding (thn (hs pins s2 σ H2 x y v ov iv u _ I2 r1 r2 r q2) fun _ s3 ⟨H3, I3, q3⟩ => ?_))))
  exact wpAny_release ⟨σ, H3, I3, q3⟩
/-- target = value -/
def tAsg (te : TE) (g : TG) : TS := fun D σ H => te σ H fun x H1 => g x σ H1 D.nx
theorem ps_asg {tg e : Expr} {te : TE} {g : TG} (he : PE X e te) (hg : PG X tg g) (hs : swapsWithSole [tg] e pos.line X.env = pure false := by rfl) (hw : swappedStores [tg] e X.env = pure none := by rfl)
    (h1 : (assignEach [tg] X.env).map (·.2) = [assign tg X.env] := by rfl) : PS X (.Assign [tg] e pos) (tAsg te g) := by
  intro pins s σ H D I h
  refine wpAny_Assign_stores (thn (he pins s σ H _ I h) fun v s1 ⟨x, H1, I1, r1, q1⟩ => ?_) hs hw
  rw [h1]
  exact thn (hg pins s1 σ H1 x v _ I1 r1 q1) fun _ s2 q => q
/-- name = value -/
theorem ps_set {i : Nat} {x : Str} {e : Expr} {te : TE} {pos' : Pos} (hN : X.N.Nodup) (hi : X.N[i]? = some x) (hx : Loc X.env.scope x) (he : PE X e te) (hs : swapsWith e (some (.Name x pos')) pos.line X.env = pure false := by rfl) (hf : X.fn x = true ∨ X.env.scope.names.lookup x = some .local := by first | exact .inl rfl | exact .inr rfl | assumption) :
    PS X (.Assign [.Name x pos'] e pos) (tAsg te (gName i)) := by
  intro pins s σ H D I h
  refine wpAny_Assign_Name (thn (he pins s σ H _ I h) fun v s1 ⟨y, H1, I1, r1, q1⟩ => ?_) hs
  exact store_ok I1 hN hi hx r1 (fun s2 I2 => ⟨_, H1, I2, q1⟩) hf
/-- a, b = x, y with plain local names: stored from the right; the pair itself is not tracked (the opening rows as in PyProof/Rows/TupAssign.lean:23) -/
def tPar (i j : Nat) (ta : TA) : TS := fun D σ H => ta σ H fun vs H1 => ∃ v w, vs = [v, w] ∧ D.nx ((σ.set i (some v)).set j (some w)) H1
theorem ps_par {i j : Nat} {x y : Str} {a b : Expr} {ta : TA} {px py pt : Pos} {kt k2 pt2} (hc : X.calm = true) (hN : X.N.Nodup) (hi : X.N[i]? = some x) (hj : X.N[j]? = some y) (hij : i ≠ j)
    (hx : X.env.scope.names.lookup x = some .local) (hy : X.env.scope.names.lookup y = some .local) (ha : PA X [a, b] ta)
    (hw : swappedStores [.Tuple [.Name x px, .Name y py] kt pt] (.Tuple [a, b] k2 pt2) X.env = pure (some [x, y]))
    (hs : swapsWithSole [.Tuple [.Name x px, .Name y py] kt pt] (.Tuple [a, b] k2 pt2) pos.line X.env = pure false := by rfl) :
    PS X (.Assign [.Tuple [.Name x px, .Name y py] kt pt] (.Tuple [a, b] k2 pt2) pos) (tPar i j ta) := by
  intro pins s σ H D I h
  rw [exec_Assign_arm]
  refine wpAny_bind (wpAny_standAt ?_)
  rw [hs]
  refine wpAny_bind (wpAny_pure ?_)
  rw [if_neg (by decide)]
  refine wpAny_bind (Tuple_ (thn (ha _ pins s σ H _ I h) fun us s1 ⟨vs, H1, I1, r1, q1⟩ => ?_))
  obtain ⟨v, w, e1, q1⟩ := q1
  subst e1
  obtain ⟨u1, u2, rfl, rv, rw'⟩ : ∃ u1 u2, us = [u1, u2] ∧ RelV v u1 ∧ RelV w u2 := by
    cases r1 with
    | cons p q =>
      cases q with
      | cons p' q' =>
        cases q'
        exact ⟨_, _, rfl, p, p'⟩
  refine wpAny_newObj_type ?_ (by show 2 ≤ sizeLine; decide)
  have I2 : Inv X pins σ H1 { s1 with heap := s1.heap.push { cls := .type "tuple", data := .seq [u1, u2].toArray } } := I1.kept (t' := s1.toks) fun b o e => Heap.get?_push_of_some _ e
  rw [hw]
  refine wpAny_bind (wpAny_pure ?_)
  show wpAny (model X.prog X.w) X.A (do rule "assign.swapped-stores"; let items ← unpackItems (.ref s1.heap.objs.size) 2 none; assignInOrder [fun v => bindName X.env y v, fun v => bindName X.env x v] items.reverse; pure Flow.next) _ _ _
  refine wpAny_bind (wpAny_rule (wpAny_bind (unpackItems_tuple (items := #[u1, u2]) (I.ok.hd hc) (IsTup.new s1.heap _) fun h' hx' => ?_)))
  have I3 := I2.kept (h' := h') (t' := s1.toks) fun b o e => hx' b o (Nat.ne_of_lt (Heap.lt_size e)) e
  show wpAny _ _ (assignInOrder [fun v => bindName X.env y v, fun v => bindName X.env x v] [u2, u1] >>= fun _ => pure Flow.next) _ _ _
  refine wpAny_bind (assignInOrder_cons (wpAny_bindName (store_ok I3 hN hj (.inl hy) rw' (fun s2 I4 => ?_) (.inr hy))))
  refine assignInOrder_cons (wpAny_bindName (store_ok I4 hN hi (.inl hx) rv (fun s3 I5 => assignInOrder_nil (wpAny_pure ?_)) (.inr hx)))
  rw [List.set_comm _ _ (Ne.symm hij)] at I5
  exact ⟨_, H1, I5, q1⟩
end

/-! ### while -/
section
variable {X : Cx} {pos : Pos}
/-- the invariant W with its measure -/
def tWhile (c : TT) (tb : TS) : TS := fun D σ H => ∃ W : Nat → St → Hp → Prop, (∃ m, W m σ H) ∧ ∀ m σ H, W m σ H →
  c σ H fun b H1 => if b = true then ∃ N : St → Hp → Prop, (∀ σ' H', N σ' H' → ∃ m', m' < m ∧ W m' σ' H') ∧ tb { D with nx := N, ct := N, bk := D.nx } σ H1 else D.nx σ H1
theorem ps_while {c : Expr} {body : List Stmt} {tc : TT} {tb : TS} (hp : PassesOwn (model X.prog X.w) X.A X.env X.xe) (hc : PT X c tc) (hb : PSs X body tb) : PS X (.While c body [] pos) (tWhile tc tb) := by
  intro pins s σ H D I h
  obtain ⟨W, ⟨m0, w0⟩, turn⟩ := h
  refine wpAny_While (codeAny_whileLoop (fun n s' => ∃ σ' H', Inv X pins σ' H' s' ∧ W n σ' H') ?_ m0 ⟨σ, H, I, w0⟩)
  rintro n s1 ⟨σ1, H1, I1, w1⟩
  refine wpAny_passesOwn hp (thn (hc pins s1 σ1 H1 _ I1 (turn n σ1 H1 w1)) fun b s2 ⟨H2, I2, q2⟩ => ?_)
  cases b with
  | true =>
    obtain ⟨N, hN, q2⟩ := q2
    rw [if_pos rfl]
    refine wpAny_passesOwn hp (thn (hb pins s2 σ1 H2 _ I2 q2) fun f s3 q3 => ?_)
    cases f with
    | next =>
      obtain ⟨σ3, H3, I3, n3⟩ := q3
      obtain ⟨m', hm, w3⟩ := hN σ3 H3 n3
      exact ⟨m', hm, σ3, H3, I3, w3⟩
    | cont =>
      obtain ⟨σ3, H3, I3, n3⟩ := q3
      obtain ⟨m', hm, w3⟩ := hN σ3 H3 n3
      exact ⟨m', hm, σ3, H3, I3, w3⟩
    | brk => exact q3
    | ret v => exact q3
  | false =>
    rw [if_neg Bool.false_ne_true]
    exact wpAny_execs_nil ⟨σ1, H2, I2, q2⟩
end

/-! ### what a loop or a comprehension walks -/
/-- at turn i: it yields x (the heap may grow), or it stops -/
structure It where
  go : Nat → Hp → Prop
  yld : Nat → Hp → V → Hp → Prop
  stop : Nat → Hp → Prop
/-- the iterator's own objects may turn: they are not the frame's, not pinned, younger than the entry (or a comprehension's own) -/
def FpOk (X : Cx) (pins : List (Addr × Obj)) (H : Hp) (b : Addr) : Prop :=
  H b = none ∧ b ≠ X.env.locals ∧ b ∉ X.fs ∧ (b ∈ X.ex ∨ X.s₀.heap.objs.size ≤ b) ∧ (∀ x c, X.env.cells.lookup x = some c → c ≠ b) ∧ ∀ p ∈ X.pn ++ pins, p.1 ≠ b
theorem Inv.fpOk {X : Cx} {pins : List (Addr × Obj)} {σ : St} {H H' : Hp} {s : Shared} {b : Addr} (I : Inv X pins σ H s) (hb : s.heap.objs.size ≤ b) (hn : H' b = none) : FpOk X pins H' b := by
  refine ⟨hn, Nat.ne_of_gt (Nat.lt_of_lt_of_le I.lt hb), I.nofs hb, .inr (Nat.le_trans I.sz hb), fun x c e z => ?_, fun p hp z => ?_⟩
  · obtain ⟨v, q⟩ := I.cell x c e
    exact absurd (Nat.lt_of_lt_of_le q.lt (by rw [z]; exact hb)) (Nat.lt_irrefl _)
  · exact absurd (Nat.lt_of_lt_of_le (Heap.lt_size (I.pin p hp).1) (by rw [z]; exact hb)) (Nat.lt_irrefl _)
structure Turn (P : Program) (w : World) (K : PySem.W.Frag) (tg : Expr) (J : It) (fp : List Addr) (it : Addr) (tn : Nat → Heap → Prop) : Prop where
  mem : it ∈ fp
  obj : ∀ i h, tn i h → ∀ b ∈ fp, ∃ o, h.get? b = some o ∧ ∀ v, o.data ≠ .cell v
  keep : ∀ i h h', tn i h → (∀ b ∈ fp, ∀ o, h.get? b = some o → h'.get? b = some o) → tn i h'
  item : ∀ (X : Cx), X.prog = P → X.w = w → X.K = K → X.calm = true → ∀ (i : Nat) (pins : List (Addr × Obj)) (s : Shared) (σ : St) (H : Hp) (E : Value → Shared → Prop), Inv X pins σ H s → (∀ b ∈ fp, FpOk X pins H b) → tn i s.heap → J.go i H →
    wpAny (model P w) X.A (pyNext (.ref it)) (fun r s1 => ∃ u, r = some u ∧
      wpAny (model P w) X.A (letOwnedTupleGo tg (.ref it) u) (fun _ s2 => ∃ x H', Inv X pins σ H' s2 ∧ RelV x u ∧ J.yld i H x H' ∧ tn (i + 1) s2.heap ∧ ∀ b ∈ fp, H' b = none) E s1) E s
  done : ∀ (X : Cx), X.prog = P → X.w = w → X.K = K → X.calm = true → ∀ (i : Nat) (pins : List (Addr × Obj)) (s : Shared) (σ : St) (H : Hp) (E : Value → Shared → Prop), Inv X pins σ H s → (∀ b ∈ fp, FpOk X pins H b) → tn i s.heap → J.stop i H →
    wpAny (model P w) X.A (pyNext (.ref it)) (fun r s1 => r = none ∧ Inv X pins σ H s1) E s
  self : ∀ (A : Around) (i : Nat) (s : Shared) (Q : Value → Shared → Prop) (E : Value → Shared → Prop), tn i s.heap → Q (.ref it) s → wpAny (model P w) A (pyIter (.ref it)) Q E s
abbrev TI := St → Hp → (It → Hp → Prop) → Prop
/-- an iterator has come -/
def PIE (X : Cx) (pins : List (Addr × Obj)) (σ : St) (tg : Expr) (R : It → Hp → Prop) (itv : Value) (s2 : Shared) : Prop :=
  ∃ (it : Addr) (fp : List Addr) (tn : Nat → Heap → Prop) (J : It) (H' : Hp), itv = .ref it ∧ Inv X pins σ H' s2 ∧ Turn X.prog X.w X.K tg J fp it tn ∧ tn 0 s2.heap ∧ (∀ b ∈ fp, FpOk X pins H' b) ∧ R J H'
def PI (X : Cx) (tg iter : Expr) (wi : TI) : Prop :=
  ∀ (pins : List (Addr × Obj)) (s : Shared) (σ : St) (H : Hp) (R : It → Hp → Prop), Inv X pins σ H s → wi σ H R →
    wpAny (model X.prog X.w) X.A (eval iter X.env) (fun v s1 => wpAny (model X.prog X.w) X.A (pyIter v) (PIE X pins σ tg R) X.xe s1) X.xe s

/-- the step ahead of the store is nothing for an iterator that keeps no tuple -/
theorem go_of {M : Model} {A : Around} {E : Value → Shared → Prop} {s : Shared} {tg : Expr} {it : Addr} {u : Value} {o : Obj} {n : String} {vs : Array Value} {Q : Unit → Shared → Prop} (ho : s.heap.get? it = some o) (hc : o.cls = .type n) (hd : o.data = .fields vs)
    (hn : ["enumerate", "zip", "dict_itemiterator", "dict_reverseitemiterator", "odict_iterator", "itertools.zip_longest", "itertools.pairwise"].contains n = false) (hQ : Q () s) : wpAny M A (letOwnedTupleGo tg (.ref it) u) Q E s := by
  unfold letOwnedTupleGo
  cases tg <;> first
    | exact wpAny_pure hQ
    | (cases u <;> first
        | exact wpAny_pure hQ
        | (refine wpAny_bind (wpAny_load ho ?_)
           rw [hc, hd]
           show wpAny M A (if (["enumerate", "zip", "dict_itemiterator", "dict_reverseitemiterator", "odict_iterator", "itertools.zip_longest", "itertools.pairwise"].contains n && vs[0]? == some (rawInt _)) = true then _ else _) Q E s
           rw [if_neg (by intro h; rw [hn, Bool.false_and] at h; cases h)]
           exact wpAny_pure hQ))

/-- the list at a, as it stands at each turn (a loop may append to it) -/
def Itl (K : PySem.W.Frag) (a : Addr) : It :=
  ⟨fun i H => ∃ xs x, SqL K H a xs ∧ xs[i]? = some x, fun i H x H' => H' = H ∧ ∀ xs, SqL K H a xs → xs[i]? = some x, fun i H => ∃ xs, SqL K H a xs ∧ xs.length ≤ i⟩
/-- lo, lo + 1, .. (n of them) -/
def Itr (lo : Int) (n : Nat) : It := ⟨fun i _ => i < n, fun i H x H' => H' = H ∧ x = .int (lo + i), fun i _ => n ≤ i⟩
theorem turn_list {P : Program} {w : World} {K : PySem.W.Frag} {tg : Expr} (a it : Addr) : Turn P w K tg (Itl K a) [it] it (fun i h => h.IsListIter it a i) where
  mem := by simp
  obj := fun i h st b hb => by
    have e : b = it := by simpa using hb
    subst e
    obtain ⟨o, e, c, d⟩ := st
    exact ⟨o, e, fun v z => by rw [d] at z; cases z⟩
  keep := fun i h h' st k => st.at fun o e => k it (by simp) o e
  item := by
    intro X hP hw hK hc i pins s σ H E I hf st hg
    subst hP hw hK
    obtain ⟨xs, x, hq, hx⟩ := hg
    obtain ⟨its, rv, p, hz⟩ := I.list hq
    obtain ⟨u, hu, ru⟩ := rv.get hx
    obtain ⟨f0, f1, f2, f3, f4, f5⟩ := hf it (by simp)
    refine wpAny_pyNext_list_item st p.isList (x := u) (by simpa using hu) fun h' st' sb => ?_
    have I1 : Inv X pins σ H { s with heap := h' } := I.turned (t' := s.toks) (fun b o hb e => (sb.2 b hb).trans e) f0 f1 f3 f4 f5
    obtain ⟨o, e, c, d⟩ := id st'
    exact ⟨u, rfl, go_of (s := { s with heap := h' }) e c d (by decide) ⟨x, H, I1, ru, ⟨rfl, fun ys hy => by rw [I.list_inj hy hq]; exact hx⟩, st', fun b hb => (hf b hb).1⟩⟩
  done := by
    intro X hP hw hK hc i pins s σ H E I hf st hg
    subst hP hw hK
    obtain ⟨xs, hq, hx⟩ := hg
    obtain ⟨its, rv, p, hz⟩ := I.list hq
    obtain ⟨f0, f1, f2, f3, f4, f5⟩ := hf it (by simp)
    have hl := rv.length
    exact wpAny_pyNext_list_end (I.ok.hd hc) st p.isList (by simp; omega) fun h' eb => ⟨rfl, I.turned (t' := s.toks) (fun b o hb e => eb b o hb e) f0 f1 f3 f4 f5⟩
  self := fun _ _ _ _ _ st h => wpAny_pyIter_listiter st h
theorem turn_range {P : Program} {w : World} {K : PySem.W.Frag} {tg : Expr} (it : Addr) (lo : Int) (n : Nat) : Turn P w K tg (Itr lo n) [it] it (fun i h => IsRangeIter h it (lo + (i : Nat) * 1) ((n : Int) - (i : Nat)) 1) where
  mem := by simp
  obj := fun i h st b hb => by
    have e : b = it := by simpa using hb
    subst e
    exact ⟨_, st, fun v z => by
      have z' : Data.fields _ = Data.cell v := z
      cases z'⟩
  keep := fun i h h' st k => k it (by simp) _ st
  item := by
    intro X hP hw hK hc i pins s σ H E I hf st hg
    subst hP hw hK
    obtain ⟨f0, f1, f2, f3, f4, f5⟩ := hf it (by simp)
    have W := Walks.range (prog := X.prog) (w := X.w) (I.ok.hd hc) it lo 1 n
    refine W.item i s _ _ hg st fun v h' tk hv st' kk => ?_
    obtain ⟨t, rfl⟩ := hv
    have I1 : Inv X pins σ H { s with heap := h', toks := tk } := I.turned (fun b o hb e => kk b o (by simpa using hb) e) f0 f1 f3 f4 f5
    refine ⟨_, rfl, go_of (s := { s with heap := h', toks := tk }) (n := "range_iterator") st' rfl rfl (by decide) ⟨.int (lo + i), H, I1, ⟨t, ?_⟩, ⟨rfl, rfl⟩, st', fun b hb => (hf b hb).1⟩⟩
    rw [Int.mul_one]
  done := by
    intro X hP hw hK hc i pins s σ H E I hf st hg
    subst hP hw hK
    obtain ⟨f0, f1, f2, f3, f4, f5⟩ := hf it (by simp)
    exact wpAny_pyNext_range_end (I.ok.hd hc) st (by have : n ≤ i := hg; omega) fun h' eb => ⟨rfl, I.turned (t' := s.toks) (fun b o hb e => eb b o hb e) f0 f1 f3 f4 f5⟩
  self := fun _ _ _ _ _ st h => wpAny_pyIter_rangeiter st h
end L2

namespace L2
open PySem PySem.Spec PyProof.Rows
section
variable {X : Cx} {tg : Expr}
def iList (K : PySem.W.Frag) (tl : TE) : TI := fun σ H R => tl σ H fun x H1 => ∃ a, x = .ref a ∧ (∃ xs, SqL K H1 a xs) ∧ R (Itl K a) H1
theorem pi_list {l : Expr} {tl : TE} (hl : PE X l tl) : PI X tg l (iList X.K tl) := by
  intro pins s σ H R I h
  refine thn (hl pins s σ H _ I h) fun v s1 ⟨x, H1, I1, r1, q1⟩ => ?_
  obtain ⟨a, e, ⟨xs, hq⟩, q⟩ := q1
  subst e
  cases r1
  obtain ⟨its, rv, p, hz⟩ := I1.list hq
  refine wpAny_pyIter_list p.isList ?_
  refine ⟨s1.heap.objs.size, [s1.heap.objs.size], _, _, H1, rfl, I1.kept (t' := s1.toks) fun b o e => Heap.get?_push_of_some _ e, turn_list a _, ⟨_, Heap.get?_push_size _ rfl, rfl, rfl⟩, fun b hb => ?_, q⟩
  have e : b = s1.heap.objs.size := by simpa using hb
  subst e
  exact I1.fpOk (Nat.le_refl _) (I1.hok.fresh (Nat.le_refl _))
/-- a range object just made, walked -/
theorem range_it {pins : List (Addr × Obj)} {σ : St} {H : Hp} {s : Shared} {R : It → Hp → Prop} {E : Value → Shared → Prop} {lo hi : Int} {t u v : Tok} {tk : Nat} (I : Inv X pins σ H s) (h1 : -(2 ^ 62) ≤ lo) (h2 : lo < 2 ^ 62) (h3 : -(2 ^ 62) ≤ hi) (h4 : hi < 2 ^ 62)
    (q : R (Itr lo (hi - lo).toNat) H) : wpAny (model X.prog X.w) X.A (pyIter (.ref s.heap.objs.size)) (PIE X pins σ tg R) E { s with heap := s.heap.push { cls := .type "range", data := .fields #[.int lo t, .int hi u, .int 1 v] }, toks := tk } := by
  refine wpAny_pyIter_range (IsRange.new ..) (small_one h1 h2 h3 h4) ?_
  have I1 : Inv X pins σ H { s with heap := s.heap.push { cls := .type "range", data := .fields #[.int lo t, .int hi u, .int 1 v] }, toks := tk } := I.kept fun b o e => Heap.get?_push_of_some _ e
  refine ⟨(s.heap.push { cls := .type "range", data := .fields #[.int lo t, .int hi u, .int 1 v] }).objs.size, [(s.heap.push { cls := .type "range", data := .fields #[.int lo t, .int hi u, .int 1 v] }).objs.size], _, _, H, rfl,
    I1.kept (t' := tk) fun b o e => Heap.get?_push_of_some _ e, turn_range _ lo (hi - lo).toNat, ?_, fun b hb => ?_, q⟩
  · have e1 : lo + ((0 : Nat) : Int) * 1 = lo := by simp
    have e2 : (((hi - lo).toNat : Nat) : Int) - ((0 : Nat) : Int) = Builtin.Range.rangeSize lo hi 1 := by rw [rangeSize_one]; split <;> omega
    show IsRangeIter _ _ (lo + ((0 : Nat) : Int) * 1) ((((hi - lo).toNat : Nat) : Int) - ((0 : Nat) : Int)) 1
    rw [e1, e2]
    exact Heap.get?_push_size _ rfl
  · have e : b = (s.heap.push { cls := .type "range", data := .fields #[.int lo t, .int hi u, .int 1 v] }).objs.size := by simpa using hb
    subst e
    exact I1.fpOk (Nat.le_refl _) (I1.hok.fresh (Nat.le_refl _))
def iRng1 (ta : TA) : TI := fun σ H R => ta σ H fun vs H1 => ∃ j : Int, vs = [.int j] ∧ -(2 ^ 62) ≤ j ∧ j < 2 ^ 62 ∧ R (Itr 0 j.toNat) H1
theorem pi_range1 {a : Expr} {ta : TA} {p pos : Pos} (hg : Gl X "range") (hm : X.mg "range" = none) (ha : PA X [a] ta) (hs : starEach [a] X.env = [(false, eval a X.env)] := by rfl) : PI X tg (.Call (.Name "range" p) [a] [] pos) (iRng1 ta) := by
  intro pins s σ H R I h
  refine Call_ (ld_blt I hg hm boot_range (PyProof.Rows.callWith_type1 (thn (ha pos pins s σ H _ I h) fun us s1 ⟨vs, H1, I1, r1, q1⟩ => ?_) hs rfl))
  obtain ⟨j, e, q1, q2, q⟩ := q1
  subst e
  cases r1 with
  | cons r rr =>
    cases rr
    obtain ⟨t, rfl⟩ := r
    exact call_range_1 (range_it I1 (by omega) (by omega) q1 q2 (by simpa using q))
/-! ### for -/
/-- W: the invariant by the turn and a measure; N: what the body is to reach -/
def tFor (wi : TI) (g : TG) (tb : TS) : TS := fun D σ H => wi σ H fun J H1 => ∃ W : Nat → Nat → St → Hp → Prop, (∃ m, W 0 m σ H1) ∧ ∀ i m σ H, W i m σ H →
  (J.stop i H ∧ D.nx σ H) ∨ (J.go i H ∧ ∃ N : St → Hp → Prop, (∀ σ' H', N σ' H' → ∃ m', m' < m ∧ W (i + 1) m' σ' H') ∧ ∀ x H', J.yld i H x H' → g x σ H' fun σ2 H2 => tb { D with nx := N, ct := N, bk := D.nx } σ2 H2)
/-- the records at fp as they stand -/
def pinsAt (fp : List Addr) (h : Heap) : List (Addr × Obj) := fp.filterMap fun b => (h.get? b).map fun o => (b, o)
theorem mem_pinsAt {fp : List Addr} {h : Heap} {b : Addr} {o : Obj} (hb : b ∈ fp) (e : h.get? b = some o) : (b, o) ∈ pinsAt fp h := List.mem_filterMap.mpr ⟨b, hb, by rw [e]; rfl⟩
theorem of_pinsAt {fp : List Addr} {h : Heap} {p : Addr × Obj} (hp : p ∈ pinsAt fp h) : p.1 ∈ fp ∧ h.get? p.1 = some p.2 := by
  obtain ⟨b, hb, e⟩ := List.mem_filterMap.mp hp
  cases q : h.get? b with
  | none => rw [q] at e; cases e
  | some o =>
    rw [q] at e
    have e' : (b, o) = p := Option.some.inj e
    subst e'
    exact ⟨hb, q⟩
theorem Inv.pinned {pins : List (Addr × Obj)} {σ : St} {H : Hp} {s : Shared} {fp : List Addr} (I : Inv X pins σ H s) (hf : ∀ b ∈ fp, FpOk X pins H b) (ho : ∀ b ∈ fp, ∃ o, s.heap.get? b = some o ∧ ∀ v, o.data ≠ .cell v) : Inv X (pins ++ pinsAt fp s.heap) σ H s :=
  I.pins_of fun p hp => (List.mem_append.mp hp).elim (fun z => I.pin p (List.mem_append_right _ z)) fun z => by
    obtain ⟨hb, e⟩ := of_pinsAt z
    obtain ⟨f0, f1, f2, _⟩ := hf p.1 hb
    obtain ⟨o, e', d⟩ := ho p.1 hb
    rw [e] at e'; cases e'
    exact ⟨e, f0, f1, f2, d⟩
theorem Inv.unpinned {pins pl : List (Addr × Obj)} {σ : St} {H : Hp} {s : Shared} (I : Inv X (pins ++ pl) σ H s) : Inv X pins σ H s := I.pins_of fun p hp => I.pin p (List.mem_append_right _ (List.mem_append_left _ hp))
theorem ps_for {iter : Expr} {body : List Stmt} {wi : TI} {g : TG} {tb : TS} {pos : Pos} (hp : PassesOwn (model X.prog X.w) X.A X.env X.xe) (hc : X.calm = true) (hi : PI X tg iter wi) (hg : PG X tg g) (hb : PSs X body tb)
    (hs : ∀ x, foldedSetIterable iter X.env x = pure x := by intro _; rfl) : PS X (.For tg iter body [] pos) (tFor wi g tb) := by
  intro pins s σ H D I h
  refine wpAny_For (thn (hi pins s σ H _ I h) fun v s1 h1 => thn h1 fun itv s2 h2 => ?_) hs
  obtain ⟨it, fp, tn, J, H2, e, I2, T, st2, f2, W, ⟨m0, w0⟩, turn⟩ := h2
  subst e
  -- what stays true of the iterator's objects through the loop
  have stat : ∀ {H' : Hp}, (∀ b ∈ fp, H' b = none) → ∀ b ∈ fp, FpOk X pins H' b := fun hn b hb => ⟨hn b hb, (f2 b hb).2⟩
  refine codeAny_forLoop_any (fun n s' => ∃ i σ' H', Inv X pins σ' H' s' ∧ tn i s'.heap ∧ (∀ b ∈ fp, H' b = none) ∧ W i n σ' H') ?_ m0 ⟨0, σ, H2, I2, st2, fun b hb => (f2 b hb).1, w0⟩
  rintro n s3 ⟨i, σ3, H3, I3, st3, fr3, w3⟩
  rcases turn i n σ3 H3 w3 with ⟨stop, qn⟩ | ⟨go, N, hN, step⟩
  · refine wpAny_passesOwn hp (thn (T.done X rfl rfl rfl hc i pins s3 σ3 H3 X.xe I3 (stat fr3) st3 stop) fun r s4 ⟨hr, I4⟩ => ?_)
    subst hr
    exact wpAny_execs_nil ⟨σ3, H3, I4, qn⟩
  · refine wpAny_passesOwn hp (thn (T.item X rfl rfl rfl hc i pins s3 σ3 H3 X.xe I3 (stat fr3) st3 go) fun r s4 ⟨u, hr, h4⟩ => ?_)
    subst hr
    refine wpAny_passesOwn hp (thn h4 fun _ s5 ⟨x, H5, I5, r5, y5, st5, fr5⟩ => ?_)
    have I5' := I5.pinned (stat fr5) (T.obj _ _ st5)
    refine wpAny_passesOwn hp (thn (hg _ s5 σ3 H5 x u _ I5' r5 (step x H5 y5)) fun _ s6 ⟨σ6, H6, I6, q6⟩ => ?_)
    refine wpAny_passesOwn hp (thn (hb _ s6 σ6 H6 _ I6 q6) fun f s7 q7 => ?_)
    have again : ∀ {σ7 : St} {H7 : Hp}, Inv X (pins ++ pinsAt fp s5.heap) σ7 H7 s7 → N σ7 H7 → ∃ m, m < n ∧ ∃ i σ' H', Inv X pins σ' H' s7 ∧ tn i s7.heap ∧ (∀ b ∈ fp, H' b = none) ∧ W i m σ' H' := fun {σ7 H7} I7 n7 => by
      obtain ⟨m', hm, w7⟩ := hN σ7 H7 n7
      refine ⟨m', hm, i + 1, σ7, H7, I7.unpinned, T.keep _ _ _ st5 fun b hb o e => (I7.pin (b, o) (List.mem_append_right _ (List.mem_append_right _ (mem_pinsAt hb e)))).1, fun b hb => ?_, w7⟩
      obtain ⟨o, e, d⟩ := T.obj _ _ st5 b hb
      exact (I7.pin (b, o) (List.mem_append_right _ (List.mem_append_right _ (mem_pinsAt hb e)))).2.1
    cases f with
    | next => obtain ⟨σ7, H7, I7, n7⟩ := q7; exact again I7 n7
    | cont => obtain ⟨σ7, H7, I7, n7⟩ := q7; exact again I7 n7
    | brk => obtain ⟨σ7, H7, I7, q7⟩ := q7; exact ⟨σ7, H7, I7.unpinned, q7⟩
    | ret v => obtain ⟨x7, σ7, H7, I7, r7, q7⟩ := q7; exact ⟨x7, σ7, H7, I7.unpinned, r7, q7⟩
end

/-! ### the forms one uses -/
/-- over a list that the body leaves as it is -/
theorem for_list {K : PySem.W.Frag} {a : Addr} {xs : List V} {g : TG} {tb : TS} {D : Ends} {σ : St} {H : Hp} (Pv : Nat → St → Hp → Prop) (h0 : Pv 0 σ H) (hl : ∀ i σ H, i ≤ xs.length → Pv i σ H → SqL K H a xs)
    (hs : ∀ i x σ H, xs[i]? = some x → Pv i σ H → g x σ H fun σ2 H2 => tb { D with nx := Pv (i + 1), ct := Pv (i + 1), bk := D.nx } σ2 H2) (hd : ∀ σ H, Pv xs.length σ H → D.nx σ H) :
    ∃ W : Nat → Nat → St → Hp → Prop, (∃ m, W 0 m σ H) ∧ ∀ i m σ H, W i m σ H →
      ((Itl K a).stop i H ∧ D.nx σ H) ∨ ((Itl K a).go i H ∧ ∃ N : St → Hp → Prop, (∀ σ' H', N σ' H' → ∃ m', m' < m ∧ W (i + 1) m' σ' H') ∧ ∀ x H', (Itl K a).yld i H x H' → g x σ H' fun σ2 H2 => tb { D with nx := N, ct := N, bk := D.nx } σ2 H2) := by
  refine ⟨fun i m σ H => m = xs.length - i ∧ i ≤ xs.length ∧ Pv i σ H, ⟨xs.length, by simp, Nat.zero_le _, h0⟩, ?_⟩
  rintro i m σ H ⟨rfl, hi, p⟩
  have q := hl i σ H hi p
  by_cases hlt : i < xs.length
  · refine .inr ⟨⟨xs, xs[i], q, by simp [hlt]⟩, Pv (i + 1), fun σ' H' p' => ⟨xs.length - (i + 1), by omega, rfl, hlt, p'⟩, fun x H' y => ?_⟩
    obtain ⟨e, y⟩ := y
    subst e
    exact hs i x σ _ (y xs q) p
  · have e : i = xs.length := by omega
    subst e
    exact .inl ⟨⟨xs, q, Nat.le_refl _⟩, hd σ H p⟩
theorem for_range {lo : Int} {n : Nat} {g : TG} {tb : TS} {D : Ends} {σ : St} {H : Hp} (Pv : Nat → St → Hp → Prop) (h0 : Pv 0 σ H)
    (hs : ∀ i σ H, i < n → Pv i σ H → g (.int (lo + i)) σ H fun σ2 H2 => tb { D with nx := Pv (i + 1), ct := Pv (i + 1), bk := D.nx } σ2 H2) (hd : ∀ σ H, Pv n σ H → D.nx σ H) :
    ∃ W : Nat → Nat → St → Hp → Prop, (∃ m, W 0 m σ H) ∧ ∀ i m σ H, W i m σ H →
      ((Itr lo n).stop i H ∧ D.nx σ H) ∨ ((Itr lo n).go i H ∧ ∃ N : St → Hp → Prop, (∀ σ' H', N σ' H' → ∃ m', m' < m ∧ W (i + 1) m' σ' H') ∧ ∀ x H', (Itr lo n).yld i H x H' → g x σ H' fun σ2 H2 => tb { D with nx := N, ct := N, bk := D.nx } σ2 H2) := by
  refine ⟨fun i m σ H => m = n - i ∧ i ≤ n ∧ Pv i σ H, ⟨n, by simp, Nat.zero_le _, h0⟩, ?_⟩
  rintro i m σ H ⟨rfl, hi, p⟩
  by_cases hlt : i < n
  · refine .inr ⟨hlt, Pv (i + 1), fun σ' H' p' => ⟨n - (i + 1), by omega, rfl, hlt, p'⟩, fun x H' y => ?_⟩
    obtain ⟨e, y⟩ := y
    subst e y
    exact hs i σ _ hlt p
  · have e : i = n := by omega
    subst e
    exact .inl ⟨Nat.le_refl _, hd σ H p⟩
end L2

namespace L2
open PySem PySem.Spec PyProof.Rows

abbrev R2 := V → V → Hp → VK → Prop
/-- a two-place operation on values: f is binaryOp op, inplaceOp op or compareOp op -/
def OpR (X : Cx) (f : Value → Value → Sem Value) (r : R2) : Prop :=
  ∀ (pins : List (Addr × Obj)) (s : Shared) (σ : St) (H : Hp) (x y : V) (v u : Value) (Q : VK), Inv X pins σ H s → RelV x v → RelV y u → r x y H Q →
    wpAny (model X.prog X.w) X.A (f v u) (EP X pins σ Q) X.xe s
/-- a one-place operation -/
def UnR (X : Cx) (f : Value → Sem Value) (r : V → Hp → VK → Prop) : Prop :=
  ∀ (pins : List (Addr × Obj)) (s : Shared) (σ : St) (H : Hp) (x : V) (v : Value) (Q : VK), Inv X pins σ H s → RelV x v → r x H Q →
    wpAny (model X.prog X.w) X.A (f v) (EP X pins σ Q) X.xe s
/-- a call of a value that is known (a builtin, a type) with values -/
def CallR (X : Cx) (f : Value) (r : List V → Hp → VK → Prop) : Prop :=
  ∀ (pins : List (Addr × Obj)) (s : Shared) (σ : St) (H : Hp) (xs : List V) (us : List Value) (Q : VK), Inv X pins σ H s → Vals xs us → r xs H Q →
    wpAny (model X.prog X.w) X.A (call f us) (EP X pins σ Q) X.xe s
def tOp (r : R2) (ta tb : TE) : TE := fun σ H Q => ta σ H fun x H1 => tb σ H1 fun y H2 => r x y H2 Q
def tUn (r : V → Hp → VK → Prop) (ta : TE) : TE := fun σ H Q => ta σ H fun x H1 => r x H1 Q
/-- ints in, under C, and a value out -/
def rI (C : Int → Int → Prop) (g : Int → Int → V) : R2 := fun x y H Q => ∃ i j, x = .int i ∧ y = .int j ∧ C i j ∧ Q (g i j) H
def rI0 (g : Int → Int → V) : R2 := fun x y H Q => ∃ i j, x = .int i ∧ y = .int j ∧ Q (g i j) H
def rU (g : Int → V) : V → Hp → VK → Prop := fun x H Q => ∃ i, x = .int i ∧ Q (g i) H

section
variable {X : Cx} {a b c : Expr} {ta tb tc : TE} {pos : Pos}

theorem binT (ha : PE X a ta) (hb : PE X b tb) {pins : List (Addr × Obj)} {s : Shared} {σ : St} {H : Hp} {R : V → V → Hp → Prop} (I : Inv X pins σ H s)
    (h : ta σ H fun x H1 => tb σ H1 fun y H2 => R x y H2) {Q : Value → Shared → Prop} {f : Value → Value → Sem Value}
    (hf : ∀ v u s2 x y H2, Inv X pins σ H2 s2 → RelV x v → RelV y u → R x y H2 → wpAny (model X.prog X.w) X.A (f v u) Q X.xe s2) :
    wpAny (model X.prog X.w) X.A (eval a X.env) (fun v s₁ => wpAny (model X.prog X.w) X.A (eval b X.env) (fun u s₂ => wpAny (model X.prog X.w) X.A (f v u) Q X.xe s₂) X.xe s₁) X.xe s := by
  refine thn (ha pins s σ H _ I h) fun v s1 ⟨x, H1, I1, r1, q1⟩ => ?_
  refine thn (hb pins s1 σ H1 _ I1 q1) fun u s2 ⟨y, H2, I2, r2, q2⟩ => ?_
  exact hf v u s2 x y H2 I2 r1 r2 q2

theorem pe_op {op : Operator} {r : R2} (ho : OpR X (binaryOp op) r) (ha : PE X a ta) (hb : PE X b tb) : PE X (.BinOp a op b pos) (tOp r ta tb) := by
  intro pins s σ H Q I h
  exact wpAny_BinOp (binT ha hb I h fun v u s2 x y H2 I2 rx ry q => ho pins s2 σ H2 x y v u Q I2 rx ry q)
theorem pe_un {op : UnaryOp} {r : V → Hp → VK → Prop} (ho : UnR X (unaryOp op) r) (ha : PE X a ta) : PE X (.UnaryOp op a pos) (tUn r ta) := by
  intro pins s σ H Q I h
  exact UnaryOp_ (thn (ha pins s σ H _ I h) fun v s1 ⟨x, H1, I1, r1, q1⟩ => ho pins s1 σ H1 x v Q I1 r1 q1)
/-! ### ints -/
theorem opI {f : Value → Value → Sem Value} {C : Int → Int → Prop} {g : Int → Int → Int}
    (rule : ∀ (i j : Int) (t u : Tok) (s : Shared) (Q : Value → Shared → Prop) (E : Value → Shared → Prop), C i j → Q (.int (g i j) s.toks) { s with toks := s.toks + 1 } → wpAny (model X.prog X.w) X.A (f (.int i t) (.int j u)) Q E s) :
    OpR X f (rI C fun i j => .int (g i j)) := by
  intro pins s σ H x y v u Q I rx ry h
  obtain ⟨i, j, rfl, rfl, hc, q⟩ := h
  obtain ⟨t, rfl⟩ := rx
  obtain ⟨t', rfl⟩ := ry
  exact rule i j t t' s _ _ hc ⟨.int (g i j), H, I.tok _, ⟨_, rfl⟩, q⟩
theorem opI0 {f : Value → Value → Sem Value} {g : Int → Int → Int}
    (rule : ∀ (i j : Int) (t u : Tok) (s : Shared) (Q : Value → Shared → Prop) (E : Value → Shared → Prop), Q (.int (g i j) s.toks) { s with toks := s.toks + 1 } → wpAny (model X.prog X.w) X.A (f (.int i t) (.int j u)) Q E s) :
    OpR X f (rI0 fun i j => .int (g i j)) := by
  intro pins s σ H x y v u Q I rx ry h
  obtain ⟨i, j, rfl, rfl, q⟩ := h
  obtain ⟨t, rfl⟩ := rx
  obtain ⟨t', rfl⟩ := ry
  exact rule i j t t' s _ _ ⟨.int (g i j), H, I.tok _, ⟨_, rfl⟩, q⟩
theorem opB0 {f : Value → Value → Sem Value} {g : Int → Int → Bool}
    (rule : ∀ (i j : Int) (t u : Tok) (s : Shared) (Q : Value → Shared → Prop) (E : Value → Shared → Prop), Q (.bool (g i j)) s → wpAny (model X.prog X.w) X.A (f (.int i t) (.int j u)) Q E s) :
    OpR X f (rI0 fun i j => .bl (g i j)) := by
  intro pins s σ H x y v u Q I rx ry h
  obtain ⟨i, j, rfl, rfl, q⟩ := h
  obtain ⟨t, rfl⟩ := rx
  obtain ⟨t', rfl⟩ := ry
  exact rule i j t t' s _ _ ⟨.bl (g i j), H, I, rfl, q⟩

def CPow (i j : Int) : Prop := 0 ≤ j ∧ j ≤ 1000000 ∧ i.natAbs < 2 ^ 64
def CMul (i j : Int) : Prop := (-(2 ^ 64) < i ∧ i < 2 ^ 64) ∨ (-(2 ^ 64) < j ∧ j < 2 ^ 64)
theorem CMul.ok {i j : Int} (h : CMul i j) : IntMulOk i j := by
  rcases h with ⟨h1, h2⟩ | ⟨h1, h2⟩
  · exact .of_left (intBits_le_64 h1 h2)
  · exact .of_right (intBits_le_64 h1 h2)
theorem op_add : OpR X (binaryOp .Add) (rI0 fun i j => .int (i + j)) := opI0 fun _ _ _ _ _ _ _ q => add_int q
theorem op_sub : OpR X (binaryOp .Sub) (rI0 fun i j => .int (i - j)) := opI0 fun _ _ _ _ _ _ _ q => sub_int q
theorem op_mul : OpR X (binaryOp .Mult) (rI CMul fun i j => .int (i * j)) := opI fun _ _ _ _ _ _ _ hc q => mul_int q hc.ok
/-- % by a positive divisor of any size -/
theorem op_mod : OpR X (binaryOp .Mod) (rI (fun _ j => 0 < j) fun i j => .int (i % j)) := opI fun i j _ _ _ _ _ hc q => by
  have h1 : (0 : Int) < j := hc
  exact mod_int' (by omega) (by rw [Int.fmod_eq_emod_of_nonneg i (by omega)]; exact q)
theorem op_pow : OpR X (binaryOp .Pow) (rI CPow fun i j => .int (i ^ j.toNat)) := opI fun _ _ _ _ _ _ _ hc q => pow_int_small hc.1 hc.2.1 hc.2.2 q
theorem unI {f : Value → Sem Value} {g : Int → Int}
    (rule : ∀ (i : Int) (t : Tok) (s : Shared) (Q : Value → Shared → Prop) (E : Value → Shared → Prop), Q (.int (g i) s.toks) { s with toks := s.toks + 1 } → wpAny (model X.prog X.w) X.A (f (.int i t)) Q E s) :
    UnR X f (rU fun i => .int (g i)) := by
  intro pins s σ H x v Q I rx h
  obtain ⟨i, rfl, q⟩ := h
  obtain ⟨t, rfl⟩ := rx
  exact rule i t s _ _ ⟨.int (g i), H, I.tok _, ⟨_, rfl⟩, q⟩
theorem un_neg : UnR X (unaryOp .USub) (rU fun i => .int (-i)) := unI fun _ _ _ _ _ q => neg_int q
/-! ### bools among ints: n += (a < b) -/
end

/-! ### comparisons -/
/-- the scalars that == tells apart as data does -/
def scal : V → V → Bool
  | .non, .non => true | .non, .int _ => true | .int _, .non => true | .non, .bl _ => true | .bl _, .non => true | .non, .str _ => true | .str _, .non => true
  | .int _, .int _ => true | .bl _, .bl _ => true | .str _, .str _ => true | .byt _, .byt _ => true
  | .int _, .str _ => true | .str _, .int _ => true | .bl _, .str _ => true | .str _, .bl _ => true
  | _, _ => false
def rEq : R2 := fun x y H Q => scal x y = true ∧ Q (.bl (decide (x = y))) H
def rNe : R2 := fun x y H Q => scal x y = true ∧ Q (.bl (!decide (x = y))) H

theorem dec_int {i j : Int} : decide (V.int i = V.int j) = (i == j) := by
  rw [Bool.eq_iff_iff]
  simp
theorem dec_bl {i j : Bool} : decide (V.bl i = V.bl j) = (i == j) := by
  rw [Bool.eq_iff_iff]
  simp
theorem dec_str {i j : Str} : decide (V.str i = V.str j) = (i == j) := by
  rw [Bool.eq_iff_iff]
  simp
theorem dec_byt {i j : Array UInt8} : decide (V.byt i = V.byt j) = (i.toList == j.toList) := by
  rw [Bool.eq_iff_iff]
  cases i
  cases j
  simp

section
variable {X : Cx} {a b c : Expr} {ta tb tc : TE} {pos : Pos}
theorem fin_bl {pins : List (Addr × Obj)} {σ : St} {H : Hp} {s : Shared} {Q : VK} {k k' : Bool} (I : Inv X pins σ H s) (q : Q (.bl k) H) (e : k = k') : EP X pins σ Q (.bool k') s := by
  subst e
  exact ⟨.bl k, H, I, rfl, q⟩
theorem op_eq : OpR X (compareOp .Eq) rEq := by
  intro pins s σ H x y v u Q I rx ry h
  obtain ⟨hs, q⟩ := h
  cases x with
  | non =>
    cases rx
    cases y with
    | non => cases ry; exact PySem.EqNone.eq_none_none (fin_bl I q (by simp))
    | bl j => cases ry; exact PySem.EqNone.eq_none_bool (fin_bl I q (by simp))
    | int j => obtain ⟨t', rfl⟩ := ry; exact PySem.EqNone.eq_none_int (fin_bl I q (by simp))
    | str j => obtain ⟨t', rfl⟩ := ry; exact PySem.EqNone.eq_none_str (fin_bl I q (by simp))
    | _ => exact absurd (show false = true from hs) Bool.false_ne_true
  | bl i =>
    cases rx
    cases y with
    | non => cases ry; exact PySem.EqNone.eq_bool_none (fin_bl I q (by simp))
    | bl j => cases ry; exact eq_bool (fin_bl I q dec_bl)
    | str j => obtain ⟨t', rfl⟩ := ry; exact PySem.EqMixed.eq_bool_str (fin_bl I q (by simp))
    | _ => exact absurd (show false = true from hs) Bool.false_ne_true
  | int i =>
    obtain ⟨t, rfl⟩ := rx
    cases y with
    | non => cases ry; exact PySem.EqNone.eq_int_none (fin_bl I q (by simp))
    | int j => obtain ⟨t', rfl⟩ := ry; exact eq_int (fin_bl I q dec_int)
    | str j => obtain ⟨t', rfl⟩ := ry; exact PySem.EqMixed.eq_int_str (fin_bl I q (by simp))
    | _ => exact absurd (show false = true from hs) Bool.false_ne_true
  | str i =>
    obtain ⟨t, rfl⟩ := rx
    cases y with
    | non => cases ry; exact PySem.EqNone.eq_str_none (fin_bl I q (by simp))
    | bl j => cases ry; exact PySem.EqMixed.eq_str_bool (fin_bl I q (by simp))
    | int j => obtain ⟨t', rfl⟩ := ry; exact PySem.EqMixed.eq_str_int (fin_bl I q (by simp))
    | str j => obtain ⟨t', rfl⟩ := ry; exact eq_str (fin_bl I q dec_str)
    | _ => exact absurd (show false = true from hs) Bool.false_ne_true
  | byt i =>
    obtain ⟨t, rfl⟩ := rx
    cases y with
    | byt j => obtain ⟨t', rfl⟩ := ry; exact PySem.W.eq_bytes (fin_bl I q dec_byt)
    | _ => exact absurd (show false = true from hs) Bool.false_ne_true
  | _ => cases y <;> exact absurd (show false = true from hs) Bool.false_ne_true
theorem op_ne : OpR X (compareOp .NotEq) rNe := by
  intro pins s σ H x y v u Q I rx ry h
  obtain ⟨hs, q⟩ := h
  cases x with
  | non =>
    cases rx
    cases y with
    | non => cases ry; exact PySem.EqNone.ne_none_none (fin_bl I q (by simp))
    | bl j => cases ry; exact PySem.EqNone.ne_none_bool (fin_bl I q (by simp))
    | int j => obtain ⟨t', rfl⟩ := ry; exact PySem.EqNone.ne_none_int (fin_bl I q (by simp))
    | str j => obtain ⟨t', rfl⟩ := ry; exact PySem.EqNone.ne_none_str (fin_bl I q (by simp))
    | _ => exact absurd (show false = true from hs) Bool.false_ne_true
  | bl i =>
    cases rx
    cases y with
    | non => cases ry; exact PySem.EqNone.ne_bool_none (fin_bl I q (by simp))
    | bl j => cases ry; exact ne_bool (fin_bl I q (congrArg not dec_bl))
    | str j => obtain ⟨t', rfl⟩ := ry; exact PySem.EqMixed.ne_bool_str (fin_bl I q (by simp))
    | _ => exact absurd (show false = true from hs) Bool.false_ne_true
  | int i =>
    obtain ⟨t, rfl⟩ := rx
    cases y with
    | non => cases ry; exact PySem.EqNone.ne_int_none (fin_bl I q (by simp))
    | int j => obtain ⟨t', rfl⟩ := ry; exact ne_int (fin_bl I q (congrArg not dec_int))
    | str j => obtain ⟨t', rfl⟩ := ry; exact PySem.EqMixed.ne_int_str (fin_bl I q (by simp))
    | _ => exact absurd (show false = true from hs) Bool.false_ne_true
  | str i =>
    obtain ⟨t, rfl⟩ := rx
    cases y with
    | non => cases ry; exact PySem.EqNone.ne_str_none (fin_bl I q (by simp))
    | bl j => cases ry; exact PySem.EqMixed.ne_str_bool (fin_bl I q (by simp))
    | int j => obtain ⟨t', rfl⟩ := ry; exact PySem.EqMixed.ne_str_int (fin_bl I q (by simp))
    | str j => obtain ⟨t', rfl⟩ := ry; exact ne_str (fin_bl I q (congrArg not dec_str))
    | _ => exact absurd (show false = true from hs) Bool.false_ne_true
  | byt i =>
    obtain ⟨t, rfl⟩ := rx
    cases y with
    | byt j => obtain ⟨t', rfl⟩ := ry; exact PySem.W.ne_bytes (fin_bl I q (congrArg not dec_byt))
    | _ => exact absurd (show false = true from hs) Bool.false_ne_true
  | _ => cases y <;> exact absurd (show false = true from hs) Bool.false_ne_true

theorem op_lt : OpR X (compareOp .Lt) (rI0 fun i j => .bl (decide (i < j))) := opB0 fun _ _ _ _ _ _ _ q => lt_int q
theorem op_le : OpR X (compareOp .LtE) (rI0 fun i j => .bl (decide (i ≤ j))) := opB0 fun _ _ _ _ _ _ _ q => le_int q
theorem op_gt : OpR X (compareOp .Gt) (rI0 fun i j => .bl (decide (j < i))) := opB0 fun _ _ _ _ _ _ _ q => gt_int q
theorem op_ge : OpR X (compareOp .GtE) (rI0 fun i j => .bl (decide (j ≤ i))) := opB0 fun _ _ _ _ _ _ _ q => ge_int q
/-- is None, is not None: the right side a value none -/
theorem op_isN : OpR X (compareOp .Is) (fun x y H Q => y = .non ∧ Q (.bl (decide (x = .non))) H) := by
  intro pins s σ H x y v u Q I rx ry h
  obtain ⟨rfl, q⟩ := h
  cases ry
  refine is_none_gen (fin_bl I q ?_)
  cases x <;> first
    | (cases rx; rfl)
    | (obtain ⟨t, rfl⟩ := rx; rfl)
/-- two rules for one operation: by cases -/
theorem OpR.or {f : Value → Value → Sem Value} {r r' : R2} (h : OpR X f r) (h' : OpR X f r') : OpR X f (fun x y H Q => r x y H Q ∨ r' x y H Q) := by
  intro pins s σ H x y v u Q I rx ry q
  rcases q with q | q
  · exact h pins s σ H x y v u Q I rx ry q
  · exact h' pins s σ H x y v u Q I rx ry q

theorem nomark (b : Expr) {op : CmpOp} (h : op ≠ .In := by decide) (h2 : op ≠ .NotIn := by decide) : behindInMarks op b = false := by
  have e1 : (op == CmpOp.In) = false := by cases op <;> first | rfl | exact absurd rfl h
  have e2 : (op == CmpOp.NotIn) = false := by cases op <;> first | rfl | exact absurd rfl h2
  cases b <;> simp [behindInMarks, e1, e2]
/-- a comparison as a value; hm: nomark b, or (for in, not in) by with_unfolding_all rfl -/
theorem pe_cmpR {op : CmpOp} {r : R2} (ho : OpR X (compareOp op) r) (ha : PE X a ta) (hb : PE X b tb) (hm : behindInMarks op b = false) : PE X (.Compare a [op] [b] pos) (tOp r ta tb) := by
  intro pins s σ H Q I h
  exact wpAny_Compare1 (binT ha hb I h fun v u s2 x y H2 I2 rx ry q => ho pins s2 σ H2 x y v u Q I2 rx ry q) hm
/-- a reading of a value as a test -/
def tTest (t : TE) : TT := fun σ H Q => t σ H fun x H' => ∃ k, x = .bl k ∧ Q k H'
theorem pt_cmpR {op : CmpOp} {r : R2} (ho : OpR X (compareOp op) r) (ha : PE X a ta) (hb : PE X b tb) (hm : behindInMarks op b = false) : PT X (.Compare a [op] [b] pos) (tTest (tOp r ta tb)) := by
  intro pins s σ H Q I h
  refine wpAny_isTrue_Compare1 (thn (ha pins s σ H _ I h) fun v s1 ⟨x, H1, I1, r1, q1⟩ => thn (hb pins s1 σ H1 _ I1 q1) fun u s2 ⟨y, H2, I2, r2, q2⟩ =>
    thn (ho pins s2 σ H2 x y v u _ I2 r1 r2 q2) fun c s3 ⟨z, H3, I3, r3, k, e, q3⟩ => ?_) hm
  subst e
  cases r3
  exact wpAny_truthy_bool ⟨H3, I3, q3⟩
/-- a op1 b op2 c -/
def tChain (r r' : R2) (ta tb tc : TE) : TE := fun σ H Q => ta σ H fun x H1 => tb σ H1 fun y H2 => r x y H2 fun z H3 => ∃ k, z = .bl k ∧
  (if k = true then tc σ H3 fun w' H4 => r' y w' H4 Q else Q (.bl false) H3)
theorem pe_chain {op op' : CmpOp} {r r' : R2} (ho : OpR X (compareOp op) r) (ho' : OpR X (compareOp op') r') (ha : PE X a ta) (hb : PE X b tb) (hc : PE X c tc)
    (hm : lastMarks [op, op'] [b, c] = false := by with_unfolding_all rfl) : PE X (.Compare a [op, op'] [b, c] pos) (tChain r r' ta tb tc) := by
  intro pins s σ H Q I h
  refine Compare_chain (thn (ha pins s σ H _ I h) fun v s1 ⟨x, H1, I1, r1, q1⟩ => chain_link (thn (hb pins s1 σ H1 _ I1 q1) fun u s2 ⟨y, H2, I2, r2, q2⟩ =>
    thn (ho pins s2 σ H2 x y v u _ I2 r1 r2 q2) fun d s3 ⟨z, H3, I3, r3, k, e, q3⟩ => ?_)) hm
  subst e
  cases r3
  refine wpAny_truthy_bool ?_
  cases k with
  | false => exact ite_ff ⟨.bl false, H3, I3, rfl, q3⟩
  | true => exact ite_tt (chain_last (thn (hc pins s3 σ H3 _ I3 q3) fun w' s4 ⟨z', H4, I4, r4, q4⟩ => ho' pins s4 σ H4 y z' u w' Q I4 r2 r4 q4))
theorem pt_chain {op op' : CmpOp} {r r' : R2} (ho : OpR X (compareOp op) r) (ho' : OpR X (compareOp op') r') (ha : PE X a ta) (hb : PE X b tb) (hc : PE X c tc)
    (hm : lastMarks [op, op'] [b, c] = false := by with_unfolding_all rfl) : PT X (.Compare a [op, op'] [b, c] pos) (tTest (tChain r r' ta tb tc)) := by
  intro pins s σ H Q I h
  refine isTrue_chain (thn (ha pins s σ H _ I h) fun v s1 ⟨x, H1, I1, r1, q1⟩ => test_link (thn (hb pins s1 σ H1 _ I1 q1) fun u s2 ⟨y, H2, I2, r2, q2⟩ =>
    thn (ho pins s2 σ H2 x y v u _ I2 r1 r2 q2) fun d s3 ⟨z, H3, I3, r3, k, e, q3⟩ => ?_)) hm
  subst e
  cases r3
  refine wpAny_truthy_bool ?_
  cases k with
  | false =>
    obtain ⟨k', e', q'⟩ := q3
    cases e'
    exact ite_ff ⟨H3, I3, q'⟩
  | true =>
    refine ite_tt (test_last (thn (hc pins s3 σ H3 _ I3 q3) fun w' s4 ⟨z', H4, I4, r4, q4⟩ => thn (ho' pins s4 σ H4 y z' u w' _ I4 r2 r4 q4) fun d' s5 ⟨z2, H5, I5, r5, k2, e2, q5⟩ => ?_))
    subst e2
    cases r5
    exact wpAny_truthy_bool ⟨H5, I5, q5⟩

/-! ### truth -/
theorem line63 : (sizeLine : Nat) < 2 ^ 63 := by rw [sizeLine_eq]; decide
/-! ### strs and bytes -/
/-! ### scalar builtins, by CallR -/
theorem vals1 {x : V} {us : List Value} (r : Vals [x] us) : ∃ u, us = [u] ∧ RelV x u := by
  cases r with
  | cons r1 r2 => cases r2; exact ⟨_, rfl, r1⟩
theorem call_abs : CallR X (.builtin "abs") (fun xs H Q => ∃ i, xs = [.int i] ∧ Q (.int (if i < 0 then -i else i)) H) := by
  intro pins s σ H xs us Q I r h
  obtain ⟨i, rfl, q⟩ := h
  obtain ⟨u, rfl, t, rfl⟩ := vals1 r
  exact call_abs_int fun u tk => ⟨.int (if i < 0 then -i else i), H, I.tok _, ⟨_, rfl⟩, q⟩
theorem call_int1 : CallR X (.type "int") (fun xs H Q => (∃ i, xs = [.int i] ∧ Q (.int i) H) ∨ ∃ k, xs = [.bl k] ∧ Q (.int (if k then 1 else 0)) H) := by
  intro pins s σ H xs us Q I r h
  rcases h with ⟨i, rfl, q⟩ | ⟨k, rfl, q⟩
  · obtain ⟨u, rfl, t, rfl⟩ := vals1 r
    exact call_int_int ⟨.int i, H, I, ⟨_, rfl⟩, q⟩
  · obtain ⟨u, rfl, r1⟩ := vals1 r
    cases r1
    exact call_int_bool ⟨.int (if k then 1 else 0), H, I.tok _, ⟨_, rfl⟩, q⟩
end
end L2

namespace L2
open PySem PySem.Spec PyProof.Rows

/-! ### an instance, its attributes a map -/
structure ObjM (h : Heap) (x dx C : Addr) (mA : Str → Option Value) : Prop where
  obj : h.get? x = some (PySem.W.instObj C dx)
  ns : h.Ns1 dx mA
  ne : dx ≠ x

theorem lookIn_ns {h : Heap} {dx : Addr} {mA : Str → Option Value} (n : h.Ns1 dx mA) : ∃ od, h.get? dx = some od ∧ ∀ name, PySem.W.lookIn name od = some (mA name) := by
  obtain ⟨o, es, ep, ho, hd, hk, _, hm⟩ := n
  refine ⟨o, ho, fun name => ?_⟩
  have e := hm name
  unfold nsFind findBy at e
  rw [← Array.find?_toList] at e
  unfold PySem.W.lookIn
  rw [hd]
  dsimp only
  split
  · rename_i y q
    rw [q] at e
    exact congrArg some e
  · rename_i q
    rw [q] at e
    have a : es.toList.any (·.refKey) = false := by
      rw [List.any_eq_false]
      intro y hy
      obtain ⟨z, t, hkey⟩ := hk y (Array.mem_toList_iff.mp hy)
      simp [DictEntry.refKey, hkey]
    have a' : ¬ es.toList.any (·.refKey) = true := by rw [a]; exact Bool.false_ne_true
    rw [if_neg a']
    exact congrArg some e

theorem ObjM.look {h : Heap} {x dx C : Addr} {mA : Str → Option Value} (I : ObjM h x dx C mA) : ∃ od, PySem.W.InstAt h x (PySem.W.instObj C dx) C (some od) ∧ ∀ name, PySem.W.lookIn name od = some (mA name) :=
  let ⟨od, ho, hl⟩ := lookIn_ns I.ns
  ⟨od, ⟨I.obj, rfl, rfl, ho⟩, hl⟩

section
variable {prog : Program} {w : World} {A : Around} {E : Value → Shared → Prop} {s : Shared} {K : PySem.W.Frag} {x dx C f : Addr} {mA : Str → Option Value} {name : Str} {v : Value}

end

/-! ### the attributes as a list of pairs -/
section
variable {P : Program} {w : World} {H H' : Hp} {h h' : Heap} {a C dx : Addr} {fs fs' : List (Str × V)}
theorem ins_get (hok : HOk P w H h) (e : H a = some (.ins C dx fs)) : ∃ mA, ObjM h a dx C mA ∧ (∀ f, RelO (fs.lookup f) (mA f)) ∧ PySem.Within mA (fs.map (·.1)) ∧ fs.length ≤ 1000 ∧ H dx = some (.own a) := by
  obtain ⟨d, z, ne, ob, mA, n, r, q⟩ := (show ObjOk P w H h a (.ins C dx fs) from hok a _ e)
  exact ⟨mA, ⟨ob, n, ne⟩, r, q, z, d⟩
end

/-! ### what of the text a class must have -/
structure Cls (K : PySem.W.Frag) (C : Addr) : Prop where
  pg : PySem.W.plainGet K C Str.empty = true
  hd : PySem.W.hasDictIn K C = true
  po : PySem.W.plainOver K C = true
  sa : PySem.W.findIn K (.ref C) "__setattr__" = some (some (.builtin "object.__setattr__"))
theorem Cls.get {K : PySem.W.Frag} {C : Addr} (c : Cls K C) (f : Str) : PySem.W.plainGet K C f = true := c.pg
section
variable {X : Cx} {pins : List (Addr × Obj)} {σ : St} {H : Hp} {s : Shared} {a C dx : Addr} {fs : List (Str × V)} {f : Str} {v : V} {A : Around} {E : Value → Shared → Prop}

/-- a new instance, tracked, without attributes -/
theorem Inv.made (I : Inv X pins σ H s) : Inv X pins σ (upd (upd H s.heap.objs.size (.own (s.heap.objs.size + 1))) (s.heap.objs.size + 1) (.ins C s.heap.objs.size []))
    { s with heap := (s.heap.push PySem.W.emptyDict).push (PySem.W.instObj C s.heap.objs.size) } := by
  have e1 : (s.heap.push PySem.W.emptyDict).get? s.heap.objs.size = some PySem.W.emptyDict := Heap.get?_push_size s.heap rfl
  have e2 : ((s.heap.push PySem.W.emptyDict).push (PySem.W.instObj C s.heap.objs.size)).get? (s.heap.objs.size + 1) = some (PySem.W.instObj C s.heap.objs.size) := by
    have := Heap.get?_push_size (s.heap.push PySem.W.emptyDict) (o := PySem.W.instObj C s.heap.objs.size) rfl
    rwa [Heap.size_push] at this
  have e3 : (s.heap.push PySem.W.emptyDict).Ns s.heap.objs.size (fun _ => none) := ⟨PySem.W.emptyDict, #[], _, e1, rfl, (fun e he => absurd he (by simp)), fun _ => rfl⟩
  have I1 := I.laid (a := s.heap.objs.size) (o := .own (s.heap.objs.size + 1)) (h' := s.heap.push PySem.W.emptyDict) (t' := s.toks) (fun b u q => Heap.get?_push_of_some _ q) (Nat.le_refl _) ⟨_, e1⟩
  refine I1.laid (a := s.heap.objs.size + 1) (o := .ins C s.heap.objs.size []) (t' := s.toks) (fun b u q => Heap.get?_push_of_some _ q) (Nat.le_of_eq (Heap.size_push _ _)) ?_
  have ne : s.heap.objs.size ≠ s.heap.objs.size + 1 := Nat.ne_of_lt (Nat.lt_succ_self _)
  refine ⟨by rw [upd_ne ne, upd_same], Nat.zero_le _, ne, e2, fun _ => none, (Heap.Ns1.of_empty e3).at fun o q => Heap.get?_push_of_some _ q, fun _ => True.intro, fun y hy => absurd rfl hy⟩

end

/-! ### readings and rules -/
section
variable {X : Cx} {o e value : Expr} {f : Str} {pos pos' tpos : Pos} {ta tv : TE}
end

/-! ### isinstance -/
section
variable {X : Cx} {pins : List (Addr × Obj)} {σ : St} {H : Hp} {s : Shared} {A : Around} {E : Value → Shared → Prop} {Q : Value → Shared → Prop} {c : Value} {b : Bool}
/-- the type of a value, as the fragment's deciders take it; for an instance its class -/
inductive TyOf (K : PySem.W.Frag) (H : Hp) : V → Value → Prop where
  | non : TyOf K H .non (.type "NoneType")
  | bl (x : Bool) : TyOf K H (.bl x) (.type "bool")
  | int (i : Int) : TyOf K H (.int i) (.type "int")
  | str (x : Str) : TyOf K H (.str x) (.type "str")
  | flt (x : UInt64) : TyOf K H (.flt x) (.type "float")
  | lst {a : Addr} {xs : List V} (e : H a = some (.lst xs)) : TyOf K H (.ref a) (.type "list")
  | frz {a : Addr} {o : Obj} {xs : List V} (e : H a = some (.frz o (.lst xs))) : TyOf K H (.ref a) (.type "list")
  | tup {a : Addr} {xs : List V} (e : H a = some (.tup xs)) : TyOf K H (.ref a) (.type "tuple")
  | dK {a : Addr} {kvs : List (Key × V)} (e : H a = some (.dK kvs)) : TyOf K H (.ref a) (.type "dict")
  | dT {a : Addr} {kvs : List (List Key × V)} (e : H a = some (.dT kvs)) : TyOf K H (.ref a) (.type "dict")
  | ins {a C dx : Addr} {fs : List (Str × V)} (e : H a = some (.ins C dx fs)) (cl : Cls K C) (ha : PySem.W.findIn K (.ref C) "__class__" = some (some (.builtin "object.__class__")))
      (hn : PySem.W.specialIn K (.builtin "object.__class__") "__get__" = some (some (.builtin "getset_descriptor.__get__"))) (htk : PySem.W.takesIn K (.builtin "object.__class__") = some true)
      (hm : PySem.W.mroIn K C (.type "object") = some true) : TyOf K H (.ref a) (.ref C)
/-- isinstance(x, c) for one class c, a built-in or an own one: kitOne's answer -/
theorem isinst_ok {x : V} {u t : Value} (I : Inv X pins σ H s) (rx : RelV x u) (ty : TyOf X.K H x t) (e : PySem.W.kitOne X.K t c = some b) (h : ∀ tk, Q (.bool b) { s with toks := tk }) :
    wpAny (model X.prog X.w) A (call (.builtin "isinstance") [u, c]) Q E s := by
  cases ty with
  | non => cases (show u = Value.none from rx); exact PySem.W.kia_one PySem.W.kitx_none I.kIn True.intro e (fun z => nomatch z) h
  | bl y => cases (show u = Value.bool y from rx); exact PySem.W.kia_one PySem.W.kitx_bool I.kIn True.intro e (fun z => nomatch z) h
  | int i => obtain ⟨t, q⟩ := (show ∃ t, u = Value.int i t from rx); cases q; exact PySem.W.kia_one PySem.W.kitx_int I.kIn True.intro e (fun z => nomatch z) h
  | str y => obtain ⟨t, q⟩ := (show ∃ t, u = Value.str y t from rx); cases q; exact PySem.W.kia_one PySem.W.kitx_str I.kIn True.intro e (fun z => nomatch z) h
  | flt y => obtain ⟨t, q⟩ := (show ∃ t, u = Value.float y t from rx); cases q; exact PySem.W.kia_one PySem.W.kitx_float I.kIn True.intro e (fun z => nomatch z) h
  | @lst a xs ea =>
    cases (show u = Value.ref a from rx)
    obtain ⟨_, _, n, _, h1⟩ := (show ObjOk X.prog X.w H s.heap a (.lst xs) from I.hok a _ ea)
    exact PySem.W.kia_one PySem.W.kitx_list I.kIn ⟨_, h1, rfl⟩ e (fun z => nomatch z) h
  | @frz a ob xs ea =>
    cases (show u = Value.ref a from rx)
    obtain ⟨_, _, _, n, _, h1⟩ := (show ObjOk X.prog X.w H s.heap a (.frz ob (.lst xs)) from I.hok a _ ea)
    exact PySem.W.kia_one PySem.W.kitx_list I.kIn ⟨_, h1, rfl⟩ e (fun z => nomatch z) h
  | @tup a xs ea =>
    cases (show u = Value.ref a from rx)
    obtain ⟨_, _, _, p⟩ := (show ObjOk X.prog X.w H s.heap a (.tup xs) from I.hok a _ ea)
    obtain ⟨o, h1, h2, _⟩ := p
    exact PySem.W.kia_one PySem.W.kitx_tuple I.kIn ⟨o, h1, h2⟩ e (fun z => nomatch z) h
  | @dK a kvs ea =>
    cases (show u = Value.ref a from rx)
    obtain ⟨_, _, vs, _, p⟩ := (show ObjOk X.prog X.w H s.heap a (.dK kvs) from I.hok a _ ea)
    obtain ⟨o, es, ep, h1, h2, _⟩ := p
    exact PySem.W.kia_one PySem.W.kitx_dict I.kIn ⟨o, h1, h2.1⟩ e (fun z => nomatch z) h
  | @dT a kvs ea =>
    cases (show u = Value.ref a from rx)
    obtain ⟨_, _, xs, _, o, es, ep, h1, h2, _⟩ := (show ObjOk X.prog X.w H s.heap a (.dT kvs) from I.hok a _ ea)
    exact PySem.W.kia_one PySem.W.kitx_dict I.kIn ⟨o, h1, h2.1⟩ e (fun z => nomatch z) h
  | @ins a C dx fs ea cl ha hn htk hm =>
    cases (show u = Value.ref a from rx)
    obtain ⟨mA, O, _⟩ := ins_get I.hok ea
    obtain ⟨od, J, _⟩ := O.look
    exact PySem.W.kia_one (PySem.W.kitx_own (cl.get _) cl.hd ha hn htk hm) I.kIn J e (fun z => nomatch z) h
end
end L2

namespace L2
open PySem PySem.Spec PyProof.Rows

/-! ### room -/
structure Room (k : Nat) (A : Around) : Prop where
  hd : A.handled = none
  dp : A.depth + 3 * k + 5 < recursionLimit
  un : A.units + 16 * k + 200 < cLine
theorem Room.mono {j k : Nat} {A : Around} (r : Room k A) (h : j ≤ k) : Room j A := ⟨r.hd, by have := r.dp; omega, by have := r.un; omega⟩
theorem Room.deeper {k : Nat} {A : Around} (r : Room (k + 1) A) (env : Env) : Room k (A.deeper env) :=
  ⟨r.hd, by have := r.dp; show A.depth + 1 + 3 * k + 5 < _; omega, by have := r.un; show A.units + 3 + 16 * k + 200 < _; omega⟩
theorem Room.in1 {k : Nat} {A : Around} (r : Room (k + 1) A) : Room k A.in1 :=
  ⟨r.hd, by have := r.dp; show A.depth + 3 * k + 5 < _; omega, by have := r.un; show A.units + 1 + 16 * k + 200 < _; omega⟩
theorem Room.depth {k : Nat} {A : Around} (r : Room k A) : A.depth < recursionLimit := by have := r.dp; omega
theorem Room.units {k : Nat} {A : Around} (r : Room k A) : A.units + 64 < cLine := by have := r.un; omega
/-! ### argument lists and displays -/
def tNil : TA := fun _ H Q => Q [] H
def tCons (ta : TE) (tr : TA) : TA := fun σ H Q => ta σ H fun x H1 => tr σ H1 fun xs H2 => Q (x :: xs) H2
section
variable {X : Cx} {e : Expr} {es : List Expr} {te : TE} {t : TA} {pos : Pos}
theorem pa_nil : PA X [] tNil := fun _ _ _ _ H Q I h => Calls.spliced_nil ⟨[], H, I, .nil, h⟩
theorem pa_cons (ha : PE X e te) (hr : PA X es t) (hs : starEach (e :: es) X.env = (false, eval e X.env) :: starEach es X.env := by rfl) : PA X (e :: es) (tCons te t) := by
  intro pos pins s σ H Q I h
  rw [hs]
  show wpAny _ _ (spliced ((false, eval e X.env) :: backTo pos (starEach es X.env))) _ _ s
  refine Calls.spliced_cons (thn (ha pins s σ H _ I h) fun u s1 ⟨x, H1, I1, r1, q1⟩ => ?_)
  exact thn (hr pos pins s1 σ H1 _ I1 q1) fun us s2 ⟨xs, H2, I2, r2, q2⟩ => ⟨x :: xs, H2, I2, .cons r1 r2, q2⟩

/-- a tuple, a list of written items -/
def tTup (t : TA) : TE := fun σ H Q => t σ H fun xs H1 => xs.length ≤ sizeLine ∧ ∀ p, H1 p = none → Q (.ref p) (upd H1 p (.tup xs))
def tLst (t : TA) : TE := fun σ H Q => t σ H fun xs H1 => xs.length ≤ sizeLine ∧ ∀ p, H1 p = none → Q (.ref p) (upd H1 p (.lst xs))
theorem pe_tup {x1} (h : PA X es t) : PE X (.Tuple es x1 pos) (tTup t) := by
  intro pins s σ H Q I hq
  refine wpAny_Tuple_spliced (thn (h pos pins s σ H _ I hq) fun us s1 ⟨xs, H1, I1, r, z, q⟩ => ⟨by rw [← r.length]; exact z, ?_⟩)
  have hf : H1 s1.heap.objs.size = none := I1.hok.fresh (Nat.le_refl _)
  refine ⟨.ref s1.heap.objs.size, upd H1 s1.heap.objs.size (.tup xs), I1.laid (t' := s1.toks) (fun b u e => Heap.get?_push_of_some _ e) (Nat.le_refl _) ?_, rfl, q _ hf⟩
  exact ⟨z, us, r, ⟨_, Heap.get?_push_size _ rfl, rfl, _, rfl⟩⟩
theorem pe_lst (h : PA X es t) : PE X (.List es pos) (tLst t) := by
  intro pins s σ H Q I hq
  refine wpAny_List_spliced (thn (h pos pins s σ H _ I hq) fun us s1 ⟨xs, H1, I1, r, z, q⟩ => ⟨by rw [← r.length]; exact z, ?_⟩)
  have hf : H1 s1.heap.objs.size = none := I1.hok.fresh (Nat.le_refl _)
  refine ⟨.ref s1.heap.objs.size, upd H1 s1.heap.objs.size (.lst xs), I1.laid (t' := s1.toks) (fun b u e => Heap.get?_push_of_some _ e) (Nat.le_refl _) ?_, rfl, q _ hf⟩
  exact ⟨z, us, 0, r, Heap.get?_push_size _ rfl⟩
end

/-! ### what a def promises -/
/-- a def's promise: the bound arguments in the parameters' order, the heap, the wanted end, the wanted exception -/
abbrev Sp := List V → Hp → VK → XK → Prop
/-- how an exception lies behind a call (file 08 gives it): the callers' frames, abstract heap and state ahead of the call, the wish, the exception, the state -/
abbrev CXT := List Env → Hp → Shared → XK → Value → Shared → Prop

/-- the state at a call -/
structure Env0 (P : Program) (w : World) (K : PySem.W.Frag) (mg : Str → Option Value) (base : Heap) (A : Around) (outer : List Env) (s : Shared) (H : Hp) : Prop where
  frames : A.frames = some outer
  mod : Mod K mg base
  bs : ∀ b o, base.get? b = some o → s.heap.get? b = some o ∧ H b = none
  bsz : base.objs.size ≤ s.heap.objs.size
  funs : s.heap.FunFrames base outer
  frf : ∀ b ∈ frs outer, H b = none
  hok : HOk P w H s.heap
  bare : AllBare s.gens
/-- a call's end -/
def CE (outer : List Env) (P : Program) (w : World) (H : Hp) (s : Shared) (Q : VK) (u : Value) (s' : Shared) : Prop :=
  ∃ v H', s'.os = s.os ∧ AllBare s'.gens ∧ Un (frs outer) [] H H' s.heap s'.heap ∧ HOk P w H' s'.heap ∧ RelV v u ∧ Q v H'
def CR (CX : CXT) (outer : List Env) (P : Program) (w : World) (H : Hp) (s : Shared) (Q : VK) (E : XK) (r : Result) (s' : Shared) : Prop :=
  match r with
  | .ok (.ret u) => CE outer P w H s Q u s'
  | .ok _ => False
  | .error e => CX outer H s E e s'
structure FnOk (P : Program) (w : World) (K : PySem.W.Frag) (mg : Str → Option Value) (base : Heap) (CX : CXT) (k : Nat) (f : Addr) (fd : FuncData) (ps : List Str) (sp : Sp) : Prop where
  len : ∀ vs H Q E, sp vs H Q E → vs.length = ps.length
  run : ∀ (A : Around) (outer : List Env) (s : Shared) (H : Hp) (args : Args) (us : List Value) (vs : List V) (Q : VK) (E : XK), Room k A → Env0 P w K mg base A outer s H → BindsTo s fd args (ps.zip us) → Vals vs us → sp vs H Q E →
    codeAny (model P w) A (.call (.ref f) args) (CR CX outer P w H s Q E) s
theorem FnOk.mono {P : Program} {w : World} {K : PySem.W.Frag} {mg : Str → Option Value} {base : Heap} {CX : CXT} {j k : Nat} {f : Addr} {fd : FuncData} {ps : List Str} {sp : Sp} (F : FnOk P w K mg base CX j f fd ps sp) (h : j ≤ k) :
    FnOk P w K mg base CX k f fd ps sp := ⟨F.len, fun A outer s H args us vs Q E hr => F.run A outer s H args us vs Q E (hr.mono h)⟩
/-- a weaker promise -/
theorem FnOk.imp {P : Program} {w : World} {K : PySem.W.Frag} {mg : Str → Option Value} {base : Heap} {CX : CXT} {k : Nat} {f : Addr} {fd : FuncData} {ps : List Str} {sp sp' : Sp} (F : FnOk P w K mg base CX k f fd ps sp)
    (h : ∀ vs H Q E, sp' vs H Q E → sp vs H Q E) : FnOk P w K mg base CX k f fd ps sp' :=
  ⟨fun vs H Q E q => F.len vs H Q E (h _ _ _ _ q), fun A outer s H args us vs Q E hr he hb hv hs => F.run A outer s H args us vs Q E hr he hb hv (h _ _ _ _ hs)⟩

theorem Env0.in1 {P : Program} {w : World} {K : PySem.W.Frag} {mg : Str → Option Value} {base : Heap} {A : Around} {outer : List Env} {s : Shared} {H : Hp} (e : Env0 P w K mg base A outer s H) :
    Env0 P w K mg base A.in1 outer s H := ⟨e.frames, e.mod, e.bs, e.bsz, e.funs, e.frf, e.hok, e.bare⟩

section
variable {X : Cx} {pins : List (Addr × Obj)} {σ : St} {H : Hp} {s s' : Shared}
/-- from a body: what a callee wants -/
theorem Inv.env0 (I : Inv X pins σ H s) : Env0 X.prog X.w X.K X.mg X.base X.A X.stack s H :=
  ⟨I.ok.frames, I.ok.mod, I.bs, Nat.le_trans I.ok.bsz I.sz, I.stack, I.stkFree, I.hok, I.bare⟩
/-- behind a call -/
theorem Inv.after {Q : VK} {u : Value} (I : Inv X pins σ H s) (h : CE X.stack X.prog X.w H s Q u s') : EP X pins σ Q u s' := by
  obtain ⟨v, H', os, bare, un, hok, r, q⟩ := h
  obtain ⟨hh, g, d, t, os'⟩ := s'
  obtain rfl : os' = s.os := os
  exact ⟨v, H', I.call (h' := hh) (g' := g) (d' := d) (t' := t) (ch := []) un hok bare (fun b z => absurd z (by simp)), r, q⟩
end

/-! ### calls -/
/-- f(..): the written arguments, then the defaults dvs; E: what is wanted of an exception -/
def tCall (sp : Sp) (dvs : List V) (E : XK) (t : TA) : TE := fun σ H Q => t σ H fun vs H1 => sp (vs ++ dvs) H1 Q E
/-- how the parameters are bound: us the positional arguments, kw the keywords' values by name, ds the defaults that fill up -/
def Binds (K : PySem.W.Frag) (fd : FuncData) (ps : List Str) (ds : List Value) : Prop :=
  ∀ (s : Shared) (us : List Value), K.In s.heap → (us ++ ds).length = ps.length → BindsTo s fd ⟨us, []⟩ (ps.zip (us ++ ds))
/-- every parameter is given -/
theorem Binds.all {K : PySem.W.Frag} {fd : FuncData} {ps : List Str} (h : ∀ us : List Value, us.length = ps.length → bindArgs fd ⟨us, []⟩ = pure (ps.zip us)) : Binds K fd ps [] := fun s us _ hl => by
  rw [List.append_nil] at hl ⊢
  exact .of_eq (h us hl)

/-- an exception of a callee reaches what this body wants of exceptions -/
def Passes (CX : CXT) (X : Cx) (E : XK) : Prop := ∀ (pins : List (Addr × Obj)) (σ : St) (H : Hp) (s : Shared) (e : Value) (s' : Shared), Inv X pins σ H s → CX X.stack H s E e s' → X.xe e s'

section
variable {X : Cx} {CX : CXT} {k : Nat} {f C : Addr} {fd : FuncData} {ps : List Str} {sp : Sp} {dvs : List V} {ds : List Value} {E : XK} {x m : Str} {p pos apos : Pos} {e o : Expr} {es : List Expr} {ta : TE} {t : TA}

/-- the callee runs -/
theorem run_fn {pins : List (Addr × Obj)} {σ : St} {H : Hp} {s : Shared} {Q : VK} {us : List Value} {vs : List V} (F : FnOk X.prog X.w X.K X.mg X.base CX k f fd ps sp) (hr : Room k X.A) (hb : Binds X.K fd ps ds) (hd : Vals dvs ds) (hx : Passes CX X E)
    (I : Inv X pins σ H s) (r : Vals vs us) (h : sp (vs ++ dvs) H Q E) : wpAny (model X.prog X.w) X.A (call (.ref f) us) (EP X pins σ Q) X.xe s := by
  have r2 : Vals (vs ++ dvs) (us ++ ds) := r.append hd
  have hl : (us ++ ds).length = ps.length := by rw [← r2.length]; exact F.len _ _ _ _ h
  refine wpAny_call (codeAny_mono (F.run X.A X.stack s H ⟨us, []⟩ (us ++ ds) (vs ++ dvs) Q E hr I.env0 (hb s us I.kIn hl) r2 h) fun r s' hq => ?_)
  cases r with
  | error e => exact hx pins σ H s e s' I hq
  | ok fl =>
    cases fl with
    | ret u => exact I.after hq
    | next => exact False.elim hq
    | brk => exact False.elim hq
    | cont => exact False.elim hq

theorem pe_call (F : FnOk X.prog X.w X.K X.mg X.base CX k f fd ps sp) (hr : Room k X.A) (hg : Gl X x) (hm : X.mg x = some (.ref f)) (hk : PySem.W.keepIn X.K (.ref f) = true) (hb : Binds X.K fd ps ds) (hd : Vals dvs ds) (hx : Passes CX X E)
    (ha : PA X (e :: es) t) (hdb : (x == ("__debug__" : Str)) = false := by decide) (he : starEach (e :: es) X.env = (false, eval e X.env) :: starEach es X.env := by rfl) (hpl : (backTo pos (starEach es X.env)).any (·.1) = false := by rfl) :
    PE X (.Call (.Name x p) (e :: es) [] pos) (tCall sp dvs E t) := by
  intro pins s σ H Q I h
  refine wpAny_Call_Name_kw (ld_glob I hg hm ?_ hdb)
  refine PySem.W.callWith_K (h₀ := X.base) I.ok.mod.kin hk (thn (ha pos pins s σ H _ I h) fun us s1 ⟨vs, H1, I1, r, q⟩ => ⟨I1.kIn, ?_⟩) he hpl
  exact run_fn F hr hb hd hx I1 r q
end

/-! ### keywords -/
section
variable {X : Cx} {CX : CXT} {k : Nat} {f C : Addr} {fd : FuncData} {ps ks : List Str} {sp : Sp} {E : XK} {x m : Str} {p pos apos kpos : Pos} {e o : Expr} {es : List Expr} {kws : List Keyword} {te ta : TE} {t tk : TA} {nm : Option Str}
variable {g : List Value → List Value → List Value} {gV : List V → List V → List V}
end

/-! ### a def's body keeps its promise -/
/-- names: the parameters first -/
structure FnScope (N P : List Str) (sc : Scope) : Prop where
  kind : sc.kind = .function
  co : sc.isCoroutine = false
  gen : sc.isGenerator = false
  nd : N.Nodup
  pre : N.take P.length = P
  par : ∀ x ∈ P, sc.names.lookup x = some .local ∨ sc.names.lookup x = some .cell
  nofree : ∀ y ∈ sc.names, y.2 ≠ .free

theorem bindL_out {kindOf : Str → Option NameKind} {x : Str} : ∀ {binds : List (Str × Value)} {m : Str → Option Value}, (∀ v, (x, v) ∉ binds) → bindL kindOf binds m x = m x
  | [], _, _ => rfl
  | (n, v) :: r, m, h => by
    unfold bindL
    rw [bindL_out fun w hw => h w (List.mem_cons_of_mem _ hw)]
    split
    · have : x ≠ n := by rintro rfl; exact h v List.mem_cons_self
      simp [this]
    · rfl
theorem bindC_out {kindOf : Str → Option NameKind} {x : Str} : ∀ {binds : List (Str × Value)} {m : Str → Option Value}, (∀ v, (x, v) ∉ binds) → bindC kindOf binds m x = m x
  | [], _, _ => rfl
  | (n, v) :: r, m, h => by
    unfold bindC
    rw [bindC_out fun w hw => h w (List.mem_cons_of_mem _ hw)]
    split
    · rfl
    · have : x ≠ n := by rintro rfl; exact h v List.mem_cons_self
      simp [this]
theorem bindL_get {kindOf : Str → Option NameKind} {x : Str} {v : Value} : ∀ {P : List Str} {vs : List Value} {i : Nat} {m : Str → Option Value}, P.Nodup → P[i]? = some x → vs[i]? = some v → kindOf x = some .local →
    bindL kindOf (P.zip vs) m x = some v
  | [], _, _, _, _, h, _, _ => by simp at h
  | _ :: _, [], _, _, _, _, h, _ => by simp at h
  | p :: P, w :: vs, 0, m, nd, h1, h2, hk => by
    simp at h1 h2; subst h1; subst h2
    show bindL kindOf ((p, w) :: P.zip vs) m p = _
    unfold bindL
    rw [bindL_out fun v hv => (List.nodup_cons.mp nd).1 (List.of_mem_zip hv).1, if_pos hk]
    simp
  | p :: P, w :: vs, i + 1, m, nd, h1, h2, hk => by
    show bindL kindOf ((p, w) :: P.zip vs) m x = _
    unfold bindL
    exact bindL_get (i := i) (List.nodup_cons.mp nd).2 (by simpa using h1) (by simpa using h2) hk
theorem bindC_get {kindOf : Str → Option NameKind} {x : Str} {v : Value} : ∀ {P : List Str} {vs : List Value} {i : Nat} {m : Str → Option Value}, P.Nodup → P[i]? = some x → vs[i]? = some v → kindOf x ≠ some .local →
    bindC kindOf (P.zip vs) m x = some v
  | [], _, _, _, _, h, _, _ => by simp at h
  | _ :: _, [], _, _, _, _, h, _ => by simp at h
  | p :: P, w :: vs, 0, m, nd, h1, h2, hk => by
    simp at h1 h2; subst h1; subst h2
    show bindC kindOf ((p, w) :: P.zip vs) m p = _
    unfold bindC
    rw [bindC_out fun v hv => (List.nodup_cons.mp nd).1 (List.of_mem_zip hv).1, if_neg hk]
    simp
  | p :: P, w :: vs, i + 1, m, nd, h1, h2, hk => by
    show bindC kindOf ((p, w) :: P.zip vs) m x = _
    unfold bindC
    exact bindC_get (i := i) (List.nodup_cons.mp nd).2 (by simpa using h1) (by simpa using h2) hk

/-- the names' values at the entry -/
def start (N : List Str) (vs : List V) : St := vs.map some ++ List.replicate (N.length - vs.length) none

/-- the context of a def's body, at its entry; an exception leaves the frame, then lies as CX says -/
def cxOf (CX : CXT) (P : Program) (w : World) (K : PySem.W.Frag) (mg : Str → Option Value) (base : Heap) (N : List Str) (qual : Str) (scope : Scope) (f : Addr) (cd : Value) (A : Around) (outer : List Env) (s : Shared) (H : Hp) (E : XK) : Cx where
  prog := P
  w := w
  K := K
  mg := mg
  base := base
  A := A.deeper (envOfC qual scope s.heap.objs.size f cd)
  N := N
  s₀ := s
  H₀ := H
  env := envOfC qual scope s.heap.objs.size f cd
  outer := outer
  stack := envOfC qual scope s.heap.objs.size f cd :: outer
  ex := []
  calm := true
  fn := fun _ => true
  pn := []
  xe := fun e s' => wpAny (model P w) (A.deeper (envOfC qual scope s.heap.objs.size f cd)) (leaving (envOfC qual scope s.heap.objs.size f cd) e) (fun _ s'' => CX outer H s E e s'') (fun e' s'' => CX outer H s E e' s'') s'

theorem cell_has {sc : Scope} {n : Nat} {x : Str} (h : sc.names.lookup x = some .cell) : ∃ c, (cellsFrom n sc.names []).lookup x = some c := by
  have q := PySem.W.cellsFrom_some sc.names n [] (.inl h)
  exact Option.isSome_iff_exists.mp q

theorem inv_start {CX : CXT} {P : Program} {w : World} {K : PySem.W.Frag} {mg : Str → Option Value} {base : Heap} {N ps : List Str} {qual : Str} {scope : Scope} {f : Addr} {cd : Value} {A : Around} {outer : List Env} {s s1 : Shared} {H : Hp} {E : XK} {us : List Value} {vs : List V}
    (S : FnScope N ps scope) (hd : A.handled = none) (e0 : Env0 P w K mg base A outer s H) (hl : vs.length = ps.length) (r : Vals vs us)
    (x : InCallC s s.heap.objs.size (bindL (envOfC qual scope s.heap.objs.size f cd).kindOf (ps.zip us) fun _ => none) (cellsFrom (s.heap.objs.size + 1) scope.names []) (bindC (envOfC qual scope s.heap.objs.size f cd).kindOf (ps.zip us) fun _ => none) s1) :
    Inv (cxOf CX P w K mg base N qual scope f cd A outer s H E) [] (start N vs) H s1 := by
  have hpl : ps.length ≤ N.length := by have := congrArg List.length S.pre; rw [List.length_take] at this; omega
  obtain ⟨h1, tk, rfl, hk⟩ := x.done
  have noA : ∀ b : Addr, b ∉ (cxOf CX P w K mg base N qual scope f cd A outer s H E).ex := fun b z => absurd (show b ∈ ([] : List Addr) from z) (by simp)
  refine ⟨⟨e0.mod, S.kind, rfl, rfl, Nat.le_refl _, fun y z c h1 h2 => ?_, fun y hy => ?_, fun y c _ h => ?_, fun _ => hd, Around.frames_deeper e0.frames, .inr ⟨rfl, rfl⟩, fun b z => absurd z (noA b), e0.bs, e0.bsz, fun b _ _ => noA b, fun b z => absurd z (noA b), e0.funs, e0.frf⟩,
    rfl, e0.bare, Un.kept hk, ⟨_, x.toInCall.ns, fun i y v h1 h2 h3 => ?_⟩, fun y c h => ⟨_, x.cell y c h⟩, e0.hok.fresh (Nat.le_refl _), fun y c h => ?_, fun p hp => absurd (show p ∈ ([] : List (Addr × Obj)) from hp) (by simp), e0.hok.kept hk, ?_⟩
  · exact name_of_addr x.apart (PySem.mem_of_lookup h1) (PySem.mem_of_lookup h2)
  · have hy : scope.names.lookup y = some .cell ∨ scope.names.lookup y = some .free := hy
    rcases hy with hy | hy
    · exact cell_has hy
    · exact absurd rfl (S.nofree _ (PySem.mem_of_lookup hy))
  · exact Nat.le_of_lt (x.above y c (PySem.mem_of_lookup h))
  · have hi : i < vs.length := by
      unfold start at h2
      by_cases hi : i < vs.length
      · exact hi
      · rw [List.getElem?_append_right (by simpa using hi)] at h2
        rw [List.getElem?_replicate] at h2
        split at h2 <;> cases h2
    have ha : vs[i]? = some v := by
      unfold start at h2
      rw [List.getElem?_append_left (by simpa using hi), List.getElem?_map] at h2
      cases e : vs[i]? with
      | none => rw [e] at h2; cases h2
      | some a => rw [e] at h2; cases h2; rfl
    obtain ⟨u, hu, rv⟩ := r.get ha
    have hp : ps[i]? = some y := by
      rw [← S.pre, List.getElem?_take_of_lt (by omega)]; exact h1
    have ndP : ps.Nodup := by rw [← S.pre]; exact S.nd.sublist (List.take_sublist _ _)
    refine ⟨u, rv, ?_⟩
    rcases S.par y (List.mem_of_getElem? hp) with k | k
    · exact .inl ⟨k, bindL_get ndP hp hu k⟩
    · obtain ⟨c, e⟩ := cell_has (n := s.heap.objs.size + 1) k
      refine .inr ⟨.inl k, c, e, ?_⟩
      have q := x.cell y c e
      rw [bindC_get ndP hp hu (by show scope.names.lookup y ≠ _; rw [k]; decide)] at q
      exact q
  · exact e0.hok.fresh (Nat.le_of_lt (x.above y c (PySem.mem_of_lookup h)))
  · unfold start
    show _ = N.length
    rw [List.length_append, List.length_map, List.length_replicate]
    omega

/-- THE RULE: a def (or a method) of the text, by its body. The body's reading t is chosen for each entry; it is run at the parameters' values -/
theorem fn_of {CX : CXT} {P : Program} {w : World} {K : PySem.W.Frag} {mg : Str → Option Value} {base : Heap} {k : Nat} {f : Addr} {name qual : Str} {params : Arguments} {body : List Stmt} {scope : Scope} {dV kV doc pm cdv ct oc : Value} {an od : Option Addr}
    {osl : Array (Option Value)} {N ps : List Str} {sp : Sp} (lk : K.lookup f = some ⟨oc, od, .func (PySem.W.fnOf name qual params body scope dV kV doc pm an cdv ct), osl⟩) (hcd : PySem.W.codeIn K cdv qual = true) (S : FnScope N ps scope)
    (len : ∀ vs H Q E, sp vs H Q E → vs.length = ps.length)
    (hbody : ∀ (A : Around) (outer : List Env) (s : Shared) (H : Hp) (vs : List V) (Q : VK) (E : XK), Room k (A.deeper (envOfC qual scope s.heap.objs.size f cdv)) → sp vs H Q E →
      ∃ t, PSs (cxOf CX P w K mg base N qual scope f cdv A outer s H E) body t ∧ t { nx := fun _ H' => Q .non H', rt := Q } (start N vs) H) :
    FnOk P w K mg base CX (k + 1) f (PySem.W.fnOf name qual params body scope dV kV doc pm an cdv ct) ps sp := by
  refine ⟨len, fun A outer s H args us vs Q E hr e0 hb r hsp => ?_⟩
  have hl := len _ _ _ _ hsp
  have KX : K.In s.heap := e0.mod.kin.keeps fun b o e => (e0.bs b o e).1
  have lim : s.heap.NoLimit := e0.mod.nolimit.keeps fun b o e => (e0.bs b o e).1
  have hkind : ∀ y ∈ ps.zip us, scope.names.lookup y.1 = some .local ∨ (scope.names.lookup y.1 = some .cell ∧ ((cellsFrom (s.heap.objs.size + 1) scope.names []).lookup y.1).isSome = true) := fun ⟨n, v⟩ hy => by
    rcases S.par n (List.of_mem_zip hy).1 with q | q
    · exact .inl q
    · exact .inr ⟨q, PySem.W.cellsFrom_some _ _ _ (.inl q)⟩
  refine codeAny_call_function hr.depth (KX _ _ lk) rfl S.co S.gen rfl (PySem.W.codeRec_of KX hcd) (hb _ _ _ _ ?_)
  refine wpAny_newFunctionEnv_cells S.kind hkind fun env he s1 x => ?_
  subst he
  refine ⟨lim.keeps x.toInCall.keep, codeAny_func ?_⟩
  obtain ⟨t, ht, hq⟩ := hbody A outer s H vs Q E (hr.deeper _) hsp
  have I : Inv (cxOf CX P w K mg base N qual scope f cdv A outer s H E) [] (start N vs) H s1 := inv_start S hr.hd e0 hl r x
  refine wpAny_mono (ht [] s1 (start N vs) H _ I hq) (fun fl s' hs => ?_) fun e s' hs => hs
  have fin : ∀ {σ' : St} {H' : Hp} {v : V} {u : Value}, Inv (cxOf CX P w K mg base N qual scope f cdv A outer s H E) [] σ' H' s' → RelV v u → Q v H' → CE outer P w H s Q u s' :=
    fun {σ' H' v u} J rv q => ⟨v, H', J.os, J.bare, J.base, J.hok, rv, q⟩
  cases fl with
  | ret u =>
    obtain ⟨v, σ', H', J, rv, q⟩ := hs
    exact fin J rv q
  | next =>
    obtain ⟨σ', H', J, q⟩ := hs
    exact fin (v := V.non) (u := Value.none) J rfl q
  | brk =>
    obtain ⟨_, _, _, q⟩ := hs
    exact False.elim q
  | cont =>
    obtain ⟨_, _, _, q⟩ := hs
    exact False.elim q
end L2

namespace L2
open PySem PySem.Spec PyProof.Rows
section
variable {X : Cx} {x : Str} {p pos : Pos} {e : Expr} {es : List Expr} {t : TA} {id T : String} {r : List V → Hp → VK → Prop}

def tCB (r : List V → Hp → VK → Prop) (t : TA) : TE := fun σ H Q => t σ H fun vs H1 => r vs H1 Q
/-- f(e, ..), f a built-in function -/
theorem pe_callB (hc : CallR X (.builtin id) r) (hg : Gl X x) (hm : X.mg x = none) (hv : bootBuiltins x = some (.builtin id)) (ha : PA X (e :: es) t) (hn : x ≠ "__name__" := by decide) (hdb : (x == ("__debug__" : Str)) = false := by decide)
    (he : starEach (e :: es) X.env = (false, eval e X.env) :: starEach es X.env := by rfl) (hpl : (backTo pos (starEach es X.env)).any (·.1) = false := by rfl) : PE X (.Call (.Name x p) (e :: es) [] pos) (tCB r t) := by
  intro pins s σ H Q I h
  refine wpAny_Call_Name_kw (ld_blt I hg hm hv ?_ hn hdb)
  exact PyProof.Rows.callWith_builtin1 (thn (ha pos pins s σ H _ I h) fun us s1 ⟨vs, H1, I1, r1, q1⟩ => hc pins s1 σ H1 vs us Q I1 r1 q1) he hpl
/-- T(e, ..), T a built-in type -/
theorem pe_callTy (hc : CallR X (.type T) r) (hg : Gl X x) (hm : X.mg x = none) (hv : bootBuiltins x = some (.type T)) (ha : PA X (e :: es) t) (hn : x ≠ "__name__" := by decide) (hdb : (x == ("__debug__" : Str)) = false := by decide)
    (he : starEach (e :: es) X.env = (false, eval e X.env) :: starEach es X.env := by rfl) (hpl : (backTo pos (starEach es X.env)).any (·.1) = false := by rfl) : PE X (.Call (.Name x p) (e :: es) [] pos) (tCB r t) := by
  intro pins s σ H Q I h
  refine wpAny_Call_Name_kw (ld_blt I hg hm hv ?_ hn hdb)
  exact PyProof.Rows.callWith_type1 (thn (ha pos pins s σ H _ I h) fun us s1 ⟨vs, H1, I1, r1, q1⟩ => hc pins s1 σ H1 vs us Q I1 r1 q1) he hpl
end
end L2

namespace HT
open PySem PyProof.Rows

section
open PySem.SeqAt
open PySem.AutoSeq1 (wpAny_loadPart')
open PySem.MeetsSeq PySem.MeetsSeq2 PySem.MeetsSeq3

end

section
variable {prog : Program} {w : World} {A : Around} {E : Value → Shared → Prop} {s : Shared}

/-! ### t[a:b], not the whole -/
/-- a slice's bound as a place among n (d where it is left out) -/
def sIx (n d : Nat) : Option Int → Nat
  | none => d
  | some v => if v < 0 then (v + (n : Int)).toNat else min v.toNat n
theorem sIx_none (n d : Nat) : sIx n d none = d := rfl
theorem sIx_nat (n d k : Nat) : sIx n d (some (k : Int)) = min k n := by
  show (if (k : Int) < 0 then ((k : Int) + (n : Int)).toNat else min (k : Int).toNat n) = min k n
  rw [if_neg (by omega), Int.toNat_natCast]
end
end HT

namespace L2
open PySem PySem.Spec PyProof.Rows

/-! ### the parts of a slice -/
abbrev TO := St → Hp → (Option Int → Hp → Prop) → Prop
/-- a slice's part (left out, or an int) -/
def PO (X : Cx) (e : Option Expr) (t : TO) : Prop :=
  ∀ (pins : List (Addr × Obj)) (s : Shared) (σ : St) (H : Hp) (Q : Option Int → Hp → Prop), Inv X pins σ H s → t σ H Q →
    wpAny (model X.prog X.w) X.A (evalPart e X.env) (fun u s' => ∃ o H', Inv X pins σ H' s' ∧ IsPart u o ∧ Q o H') X.xe s
def tNoPart : TO := fun _ H Q => Q none H
def tPart (t : TE) : TO := fun σ H Q => t σ H fun x H1 => ∃ i, x = .int i ∧ Q (some i) H1

section
variable {X : Cx} {e : Expr} {te : TE} {lo hi : Option Expr} {tl th : TO} {pos p2 : Pos}

theorem po_none : PO X none tNoPart := by
  intro pins s σ H Q I h
  rw [evalPart_none]
  exact wpAny_pure ⟨none, H, I, .none, h⟩
theorem po_some (h : PE X e te) : PO X (some e) (tPart te) := by
  intro pins s σ H Q I hw
  rw [evalPart_some]
  refine thn (h pins s σ H _ I hw) fun u s1 ⟨x, H1, I1, r1, q1⟩ => ?_
  obtain ⟨i, rfl, q⟩ := q1
  obtain ⟨t, rfl⟩ := r1
  exact ⟨some i, H1, I1, .int i t, q⟩

/-- what a slice of a value is, by values: the slice object stands at sl -/
def SlR (X : Cx) (r : V → Option Int → Option Int → Hp → VK → Prop) : Prop :=
  ∀ (pins : List (Addr × Obj)) (s : Shared) (σ : St) (H : Hp) (x : V) (v vl vu : Value) (lo hi : Option Int) (sl : Addr) (Q : VK), Inv X pins σ H s → RelV x v → s.heap.IsSliceOf sl vl vu .none → IsPart vl lo → IsPart vu hi → r x lo hi H Q →
    ∃ T id, typeLookup (.type T) "__getitem__" = pure (some (.builtin id)) ∧ s.TypeIs v T ∧ wpAny (model X.prog X.w) X.A (getItem v (.ref sl)) (EP X pins σ Q) X.xe s
theorem SlR.or {r r' : V → Option Int → Option Int → Hp → VK → Prop} (h : SlR X r) (h' : SlR X r') : SlR X (fun x lo hi H Q => r x lo hi H Q ∨ r' x lo hi H Q) := by
  intro pins s σ H x v vl vu lo hi sl Q I rx hs pl pu q
  rcases q with q | q
  · exact h pins s σ H x v vl vu lo hi sl Q I rx hs pl pu q
  · exact h' pins s σ H x v vl vu lo hi sl Q I rx hs pl pu q
def tSl (r : V → Option Int → Option Int → Hp → VK → Prop) (te : TE) (tl th : TO) : TE := fun σ H Q => te σ H fun x H1 => tl σ H1 fun l H2 => th σ H2 fun u H3 => r x l u H3 Q
/-- a[lo:hi], any a -/
theorem pe_slice {r : V → Option Int → Option Int → Hp → VK → Prop} (hr : SlR X r) (he : PE X e te) (hl : PO X lo tl) (hu : PO X hi th) : PE X (.Subscript e (.Slice lo hi none p2) pos) (tSl r te tl th) := by
  intro pins s σ H Q I h
  refine Subscript_ (thn (he pins s σ H _ I h) fun v s1 ⟨x, H1, I1, r1, q1⟩ => ?_)
  refine wpAny_Slice (thn (hl pins s1 σ H1 _ I1 q1) fun vl s2 ⟨l, H2, I2, pl, q2⟩ => thn (hu pins s2 σ H2 _ I2 q2) fun vu s3 ⟨u, H3, I3, pu, q3⟩ => ?_)
  rw [evalPart_none]
  refine wpAny_pure ?_
  have I4 : Inv X pins σ H3 { s3 with heap := s3.heap.push { cls := .type "slice", data := .fields #[vl, vu, .none] } } := I3.kept (t' := s3.toks) fun b ob q => Heap.get?_push_of_some _ q
  obtain ⟨T, id, hT, ht, hg⟩ := hr pins { s3 with heap := s3.heap.push { cls := .type "slice", data := .fields #[vl, vu, .none] } } σ H3 x v vl vu l u s3.heap.objs.size Q I4 r1 (Heap.IsSliceOf.new ..) pl pu q3
  show wpAny (model X.prog X.w) X.A (subscriptTail e (.Slice lo hi none p2) v (.ref s3.heap.objs.size)) (EP X pins σ Q) X.xe { s3 with heap := s3.heap.push { cls := .type "slice", data := .fields #[vl, vu, .none] } }
  exact tail_any (ops := [.ref s3.heap.objs.size, v]) ht hT hg (by with_unfolding_all rfl)

/-- the items of xs[lo:hi] -/
def cutV (xs : List V) (lo hi : Option Int) : List V := (xs.drop (HT.sIx xs.length 0 lo)).take (HT.sIx xs.length xs.length hi - HT.sIx xs.length 0 lo)
theorem cutV_length (xs : List V) (lo hi : Option Int) : (cutV xs lo hi).length ≤ xs.length := by
  unfold cutV
  rw [List.length_take, List.length_drop]
  omega
/-! ### t < u, t + u -/
end
end L2

namespace L2
open PySem PySem.Spec PyProof.Rows

/-! ### places -/
/-- the place that an index of any sign means -/
def ixN (n : Nat) (i : Int) : Option Nat := if 0 ≤ i then (if i < n then some i.toNat else none) else if -(n : Int) ≤ i then some (i + n).toNat else none
def atI {α : Type} (xs : List α) (i : Int) : Option α := (ixN xs.length i).bind fun j => xs[j]?
theorem ixN_seq {n : Nat} {i : Int} {j : Nat} (h : ixN n i = some j) : seqIndex? i n = some j ∧ j < n ∧ -(n : Int) ≤ i ∧ i < n := by
  unfold ixN at h
  by_cases h0 : 0 ≤ i
  · rw [if_pos h0] at h
    by_cases h1 : i < n
    · rw [if_pos h1] at h
      have e : i.toNat = j := Option.some.inj h
      exact ⟨by rw [seqIndex_of h0 h1, e], by omega, by omega, h1⟩
    · rw [if_neg h1] at h; cases h
  · rw [if_neg h0] at h
    by_cases h1 : -(n : Int) ≤ i
    · rw [if_pos h1] at h
      have e : (i + n).toNat = j := Option.some.inj h
      exact ⟨by rw [seqIndex_neg (by omega) h1, e], by omega, h1, by omega⟩
    · rw [if_neg h1] at h; cases h
theorem atI_get {α : Type} {xs : List α} {i : Int} {v : α} (h : atI xs i = some v) : ∃ j, seqIndex? i xs.length = some j ∧ xs[j]? = some v ∧ j < xs.length ∧ -(xs.length : Int) ≤ i ∧ i < xs.length := by
  unfold atI at h
  cases e : ixN xs.length i with
  | none => rw [e] at h; cases h
  | some j =>
    rw [e] at h
    obtain ⟨h1, h2, h3, h4⟩ := ixN_seq e
    exact ⟨j, h1, h, h2, h3, h4⟩
theorem atI_nat {α : Type} {xs : List α} {j : Nat} {v : α} (h : xs[j]? = some v) : atI xs (j : Int) = some v := by
  have hj : j < xs.length := (List.getElem?_eq_some_iff.mp h).1
  have e : ixN xs.length (j : Int) = some j := by
    unfold ixN
    rw [if_pos (by omega), if_pos (by omega)]; simp
  unfold atI; rw [e]; exact h
/-! ### what may be subscripted -/
/-- what stands as an index of a plain subscript -/
def PlainIx (b : Expr) : Prop := ∀ o i, subscripted b false o i = operate [o, i] (getItem o i)
/-- a subscript by values -/
def IxR (X : Cx) (r : R2) : Prop :=
  ∀ (value slice : Expr) (pins : List (Addr × Obj)) (s : Shared) (σ : St) (H : Hp) (x y : V) (v u : Value) (Q : VK), Inv X pins σ H s → RelV x v → RelV y u → r x y H Q →
    subscripted slice false v u = operate [v, u] (getItem v u) → wpAny (model X.prog X.w) X.A (subscriptTail value slice v u) (EP X pins σ Q) X.xe s
/-- a call of a builtin's method by values: the receiver, the arguments -/
def MtR (X : Cx) (id : String) (r : V → List V → Hp → VK → Prop) : Prop :=
  ∀ (pins : List (Addr × Obj)) (s : Shared) (σ : St) (H : Hp) (x : V) (xs : List V) (v : Value) (us : List Value) (Q : VK), Inv X pins σ H s → RelV x v → Vals xs us → r x xs H Q →
    wpAny (model X.prog X.w) X.A (call (.builtin id) (v :: us)) (EP X pins σ Q) X.xe s
section
variable {X : Cx} {a b : Expr} {ta tb : TE} {pos : Pos}
theorem IxR.or {r r' : R2} (h : IxR X r) (h' : IxR X r') : IxR X (fun x y H Q => r x y H Q ∨ r' x y H Q) := by
  intro value slice pins s σ H x y v u Q I rx ry q hs
  rcases q with q | q
  · exact h value slice pins s σ H x y v u Q I rx ry q hs
  · exact h' value slice pins s σ H x y v u Q I rx ry q hs
theorem MtR.or {id : String} {r r' : V → List V → Hp → VK → Prop} (h : MtR X id r) (h' : MtR X id r') : MtR X id (fun x xs H Q => r x xs H Q ∨ r' x xs H Q) := by
  intro pins s σ H x xs v us Q I rx rs q
  rcases q with q | q
  · exact h pins s σ H x xs v us Q I rx rs q
  · exact h' pins s σ H x xs v us Q I rx rs q
/-- a[b] -/
theorem pe_ix {r : R2} (hr : IxR X r) (ha : PE X a ta) (hb : PE X b tb) (hs : PlainIx b) : PE X (.Subscript a b pos) (tOp r ta tb) := by
  intro pins s σ H Q I h
  exact Subscript_ (binT ha hb I h fun v u s2 x y H2 I2 rx ry q => hr a b pins s2 σ H2 x y v u Q I2 rx ry q (hs _ _))

def rIxL (K : PySem.W.Frag) : R2 := fun x y H Q => ∃ p xs i v, x = .ref p ∧ y = .int i ∧ SqL K H p xs ∧ atI xs i = some v ∧ Q v H
theorem ix_list : IxR X (rIxL X.K) := by
  intro value slice pins s σ H x y v u Q I rx ry h hs
  obtain ⟨p, xs, i, z, rfl, rfl, hq, he, q⟩ := h
  cases rx
  obtain ⟨t, rfl⟩ := ry
  obtain ⟨its, r, pl, hz⟩ := I.list hq
  obtain ⟨j, h1, h2, h3, h4, h5⟩ := atI_get he
  obtain ⟨w, ew, rw'⟩ := r.get h2
  have hl := r.length
  have hn := line63
  have fin : EP X pins σ Q w s := ⟨z, H, I, rw', q⟩
  by_cases h0 : 0 ≤ i
  · have hj : i.toNat = j := by
      rw [seqIndex_of h0 h5] at h1
      exact Option.some.inj h1
    exact item_listR pl.isList h0 (by omega) (by rw [hj]; simpa using ew) fin hs
  · have hj : (i + (its.toArray.size : Int)).toNat = j := by
      rw [seqIndex_neg (by omega) h4] at h1
      rw [List.size_toArray, ← hl]
      exact Option.some.inj h1
    exact subscriptTail_builtinR (x := w) pl.isList.typeIs slot_list_getitem.lookup
      (wpAny_getItem_list_neg (Q := fun r s' => r = w ∧ EP X pins σ Q r s') pl.isList (by omega) (by rw [List.size_toArray] <;> omega) (by omega) (by rw [hj]; simpa using ew) ⟨rfl, fin⟩) hs
/-! ### xs[i] = v, any sign -/
/-- the list's object behind a store -/
theorem mapSeq_set (its : List Value) (n j : Nat) (u : Value) : Obj.mapSeq (·.setIfInBounds j u) { cls := .type "list", data := .seq its.toArray n } = { cls := .type "list", data := .seq (its.set j u).toArray n } := by
  simp [Obj.mapSeq]
theorem Inv.lst {pins : List (Addr × Obj)} {σ : St} {H : Hp} {s : Shared} {p : Addr} {xs : List V} (I : Inv X pins σ H s) (h : H p = some (.lst xs)) :
    ∃ (its : List Value) (n : Nat), Vals xs its ∧ s.heap.get? p = some { cls := .type "list", data := .seq its.toArray n } ∧ xs.length ≤ sizeLine := by
  obtain ⟨z, its, n, r, e⟩ := I.hok p _ h
  exact ⟨its, n, r, e, z⟩
/-- the list at p is written by an update of its object -/
theorem Inv.lstUpd {pins : List (Addr × Obj)} {σ : St} {H : Hp} {s : Shared} {p : Addr} {xs ys : List V} {its its' : List Value} {n n' : Nat} {f : Obj → Obj} (I : Inv X pins σ H s) (h : H p = some (.lst xs))
    (ho : s.heap.get? p = some { cls := .type "list", data := .seq its.toArray n }) (hf : f { cls := .type "list", data := .seq its.toArray n } = { cls := .type "list", data := .seq its'.toArray n' }) (r : Vals ys its') (hz : ys.length ≤ sizeLine) (t : Nat) :
    Inv X pins σ (upd H p (.lst ys)) { s with heap := s.heap.update p f, toks := t } := by
  have e : (s.heap.update p f).get? p = some { cls := .type "list", data := .seq its'.toArray n' } := by
    rw [Heap.get?_update_self f ho (by rw [hf] <;> rfl), hf]
  refine I.write (x := p) (e := p) (by rw [h]; trivial) (.inl rfl) (fun b u hb q => (Heap.get?_update_other _ _ (Ne.symm hb)).trans q) ⟨_, e⟩ ?_
  exact ⟨hz, its', n', r, e⟩
def rSetL : V → V → V → Hp → (Hp → Prop) → Prop := fun o i v H Q => ∃ p xs k j, o = .ref p ∧ i = .int k ∧ H p = some (.lst xs) ∧ ixN xs.length k = some j ∧ Q (upd H p (.lst (xs.set j v)))
theorem set_list : PSet X rSetL := by
  intro pins s σ H o i v ov iv u Q I ro ri rv h
  obtain ⟨p, xs, k, j, rfl, rfl, hp, hj, q⟩ := h
  cases ro
  obtain ⟨t, rfl⟩ := ri
  obtain ⟨its, n, r, ho, hz⟩ := I.lst hp
  obtain ⟨h1, h2, h3, h4⟩ := ixN_seq hj
  have hl := r.length
  have hn := line63
  have I' : Inv X pins σ (upd H p (.lst (xs.set j v))) { s with heap := s.heap.update p (Obj.mapSeq (·.setIfInBounds j u)) } :=
    I.lstUpd hp ho (mapSeq_set its n j u) (r.set rv j) (by rw [List.length_set]; exact hz) s.toks
  by_cases h0 : 0 ≤ k
  · have hk : k.toNat = j := by
      rw [seqIndex_of h0 h4] at h1
      exact Option.some.inj h1
    exact PySem.W.ki_setAt ho h0 (by omega) (by rw [List.size_toArray, ← hl]; exact h4) (by rw [hk]; exact ⟨_, I', q⟩)
  · have hk : (k + (its.toArray.size : Int)).toNat = j := by
      rw [seqIndex_neg (by omega) h3] at h1
      rw [List.size_toArray, ← hl]
      exact Option.some.inj h1
    exact PySem.W.ki_setBack ho (by omega) (by rw [List.size_toArray, ← hl]; exact h3) (by omega) (by rw [hk]; exact ⟨_, I', q⟩)

/-! ### slices -/
theorem slice_bounds (lo hi : Option Int) (n : Nat) : (sliceBounds lo hi none n).1 = ((HT.sIx n 0 lo : Nat) : Int) ∧ (sliceBounds lo hi none n).2.1 = ((HT.sIx n n hi : Nat) : Int) ∧ (sliceBounds lo hi none n).2.2 = 1 := by
  refine ⟨?_, ?_, rfl⟩
  · cases lo with
    | none => simp [sliceBounds, HT.sIx]
    | some i =>
      simp only [sliceBounds, HT.sIx, Option.getD_none, show (1 : Int) > 0 by decide, if_true]
      by_cases h : i < 0
      · simp only [h, if_true] <;> omega
      · simp only [h, if_false] <;> omega
  · cases hi with
    | none => simp [sliceBounds, HT.sIx]
    | some i =>
      simp only [sliceBounds, HT.sIx, Option.getD_none, show (1 : Int) > 0 by decide, if_true]
      by_cases h : i < 0
      · simp only [h, if_true] <;> omega
      · simp only [h, if_false] <;> omega
theorem slicePick_cut (its : List Value) (lo hi : Option Int) : slicePick its.toArray lo hi none = ((its.drop (HT.sIx its.length 0 lo)).take (HT.sIx its.length its.length hi - HT.sIx its.length 0 lo)).toArray := by
  obtain ⟨h1, h2, h3⟩ := slice_bounds lo hi its.toArray.size
  unfold slicePick
  rw [h1, h2, h3]
  simp only [sliceRange_one, pick_run, List.size_toArray] <;> rfl
/-- xs[lo:hi] of a list: a new list -/
def rSlL (K : PySem.W.Frag) : V → Option Int → Option Int → Hp → VK → Prop := fun x lo hi H Q => ∃ a xs, x = .ref a ∧ SqL K H a xs ∧ ∀ p, H p = none → Q (.ref p) (upd H p (.lst (cutV xs lo hi)))
theorem sl_list : SlR X (rSlL X.K) := by
  intro pins s σ H x v vl vu lo hi sl Q I rx hs pl pu h
  obtain ⟨a, xs, rfl, hx, q⟩ := h
  cases rx
  obtain ⟨its, r, ht, hz⟩ := I.list hx
  have hlen := r.length
  refine ⟨"list", _, slot_list_getitem.lookup, ht.isList.typeIs, ?_⟩
  refine wpAny_getItem_list_slice ht.isList hs pl pu .none (by simp) ?_ (by rw [List.size_toArray] <;> omega)
  rw [slicePick_cut, ← hlen]
  refine ⟨.ref s.heap.objs.size, _, I.laid (t' := s.toks) (o := .lst (cutV xs lo hi)) (fun b ob q => Heap.get?_push_of_some _ q) (Nat.le_refl _) ?_, rfl, q _ (I.hok.fresh (Nat.le_refl _))⟩
  exact ⟨Nat.le_trans (cutV_length xs lo hi) hz, _, 0, (r.drop (HT.sIx xs.length 0 lo)).take (HT.sIx xs.length xs.length hi - HT.sIx xs.length 0 lo), Heap.get?_push_size _ rfl⟩

/-! ### in, not in: flat items -/
/-! ### len, list(x), tuple(x) of any list or tuple that is read -/
theorem call_len_seq : CallR X (.builtin "len") (fun xs H Q => ∃ p ys, xs = [.ref p] ∧ (SqL X.K H p ys ∨ SqT X.K H p ys) ∧ Q (.int ys.length) H) := by
  intro pins s σ H xs us Q I r h
  obtain ⟨p, ys, rfl, hq, q⟩ := h
  obtain ⟨u, rfl, rx⟩ := vals1 r
  cases rx
  have hn := line63
  rcases hq with hq | hq
  · obtain ⟨its, r', pl, hz⟩ := I.list hq
    have hlen := r'.length
    exact Calls.call_len_list pl.isList (by simp only [List.size_toArray] <;> omega) ⟨.int ys.length, H, I.tok _, ⟨s.toks + 1, by rw [List.size_toArray, hlen]⟩, q⟩
  · obtain ⟨its, r', pl, hz⟩ := I.tuple hq
    have hlen := r'.length
    exact len_tuple pl (by simp only [List.size_toArray] <;> omega) ⟨.int ys.length, H, I.tok _, ⟨s.toks + 1, by rw [List.size_toArray, hlen]⟩, q⟩
theorem CallR.or {f : Value} {r r' : List V → Hp → VK → Prop} (h : CallR X f r) (h' : CallR X f r') : CallR X f (fun xs H Q => r xs H Q ∨ r' xs H Q) := by
  intro pins s σ H xs us Q I rs q
  rcases q with q | q
  · exact h pins s σ H xs us Q I rs q
  · exact h' pins s σ H xs us Q I rs q
theorem call_list_of : CallR X (.type "list") (fun xs H Q => ∃ p ys, xs = [.ref p] ∧ (SqL X.K H p ys ∨ SqT X.K H p ys) ∧ ∀ l, H l = none → Q (.ref l) (upd H l (.lst ys))) := by
  intro pins s σ H xs us Q I r h
  obtain ⟨p, ys, rfl, hq, q⟩ := h
  obtain ⟨u, rfl, rx⟩ := vals1 r
  cases rx
  have fin : ∀ (its : List Value), Vals ys its → ys.length ≤ sizeLine → ∀ (h' : Heap) (c' : Nat), (∀ b o', s.heap.get? b = some o' → h'.get? b = some o') →
      h'.get? s.heap.objs.size = some { cls := .type "list", dict := none, data := .seq its.toArray c', slots := #[] } → EP X pins σ Q (.ref s.heap.objs.size) { s with heap := h' } := fun its r' hz h' c' kp e =>
    ⟨.ref s.heap.objs.size, _, I.laid (t' := s.toks) kp (Nat.le_refl _) (show ObjOk X.prog X.w _ h' _ (.lst ys) from ⟨hz, its, c', r', e⟩), rfl, q _ (I.hok.fresh (Nat.le_refl _))⟩
  rcases hq with hq | hq
  · obtain ⟨its, r', pl, hz⟩ := I.list hq
    have hlen := r'.length
    obtain ⟨o, ho, hc, n, hd⟩ := pl.isList
    exact call_list_seq p (.inl rfl) ho hc hd (fun h' c' kp e => fin its r' hz h' c' kp e) (by simp only [List.size_toArray] <;> omega)
  · obtain ⟨its, r', pl, hz⟩ := I.tuple hq
    have hlen := r'.length
    obtain ⟨o, ho, hc, n, hd⟩ := pl
    exact call_list_seq p (.inr rfl) ho hc hd (fun h' c' kp e => fin its r' hz h' c' kp e) (by simp only [List.size_toArray] <;> omega)
/-! ### the call of a builtin's method: o.m(..) -/
/-- the value is of that builtin type -/
def tyV (K : PySem.W.Frag) (T : String) (x : V) (H : Hp) : Prop := match x with
  | .str _ => T = "str"
  | .int _ => T = "int"
  | .ref p => (T = "list" ∧ ∃ xs, SqL K H p xs) ∨ (T = "tuple" ∧ ∃ o, K.lookup p = some o ∧ o.cls = .type "tuple" ∧ o.dict = none) ∨
      (T = "dict" ∧ ((∃ kvs, H p = some (.dK kvs)) ∨ ∃ kvs, H p = some (.dT kvs))) ∨ (T = "set" ∧ ∃ S n, H p = some (.set S n))
  | _ => False
theorem tyV_is {pins : List (Addr × Obj)} {σ : St} {H : Hp} {s : Shared} {T : String} {x : V} {v : Value} (I : Inv X pins σ H s) (r : RelV x v) (ty : tyV X.K T x H) :
    s.TypeIs v T ∧ ∀ a, v = .ref a → ∃ ob, s.heap.get? a = some ob ∧ ob.dict = none := by
  cases x with
  | str z =>
    obtain ⟨t, rfl⟩ := r
    cases (show T = "str" from ty)
    exact ⟨typeIs_str s z t, fun _ e => nomatch e⟩
  | int i =>
    obtain ⟨t, rfl⟩ := r
    cases (show T = "int" from ty)
    exact ⟨typeIs_int s i t, fun _ e => nomatch e⟩
  | ref p =>
    cases r
    rcases ty with ⟨rfl, xs, hq⟩ | ⟨rfl, o, hk, hc, hd⟩ | ⟨rfl, hk⟩ | ⟨rfl, S, n, hk⟩
    · obtain ⟨its, _, pl, _⟩ := I.list hq
      refine ⟨pl.isList.typeIs, fun a e => ?_⟩
      cases e
      obtain ⟨o, n, e, c, hd, _⟩ := pl
      exact ⟨o, e, hd⟩
    · refine ⟨⟨o, I.kIn p o hk, hc⟩, fun a e => ?_⟩
      cases e
      exact ⟨o, I.kIn _ o hk, hd⟩
    · have z : ∃ o, s.heap.get? p = some o ∧ o.ExactDict := by
        rcases hk with ⟨kvs, hk⟩ | ⟨kvs, hk⟩
        · obtain ⟨_, _, _, _, o, _, _, e, ex, _⟩ := I.hok p _ hk
          exact ⟨o, e, ex⟩
        · obtain ⟨_, _, _, _, o, _, _, e, ex, _⟩ := I.hok p _ hk
          exact ⟨o, e, ex⟩
      obtain ⟨o, e, ex⟩ := z
      refine ⟨⟨o, e, ex.1⟩, fun a e2 => ?_⟩
      cases e2
      exact ⟨o, e, ex.2.1⟩
    · obtain ⟨o, _, _, _, e, ex, _⟩ := I.hok p _ hk
      refine ⟨⟨o, e, ex.1⟩, fun a e2 => ?_⟩
      cases e2
      exact ⟨o, e, ex.2.1⟩
  | _ => exact False.elim ty
def tBM (K : PySem.W.Frag) (T : String) (r : V → List V → Hp → VK → Prop) (to : TE) (t : TA) : TE := fun σ H Q => to σ H fun x H1 => tyV K T x H1 ∧ t σ H1 fun xs H2 => r x xs H2 Q
variable {o e : Expr} {es : List Expr} {to : TE} {t : TA} {name : Str} {apos cpos : Pos} {T id : String} {r : V → List V → Hp → VK → Prop}
theorem pe_bm (pa : PlainAttrs T) (slot : Slot T name id) (hty : typeOf (.builtin id) = pure (.type "method_descriptor")) (hm : MtR X id r) (ho : PE X o to) (ha : PA X (e :: es) t)
    (hbase : attributeBase o name X.env (eval o X.env) = eval o X.env := by rfl)
    (hfew : ((backTo cpos (starEach (e :: es) X.env)).all (fun x => !x.1) && (backToKw cpos (keywordEach [] X.env)).all (fun x => x.1.isSome)
      && decide ((e :: es).length + ([] : List Keyword).length + (if ([] : List Keyword).isEmpty then 0 else 1) < 30)) = true := by rfl)
    (hline : (apos.endLine == cpos.line) = true := by rfl) (hs : starEach (e :: es) X.env = (false, eval e X.env) :: starEach es X.env := by rfl) (hplain : (backTo cpos (starEach es X.env)).any (·.1) = false := by rfl) :
    PE X (.Call (.Attribute o name apos) (e :: es) [] cpos) (tBM X.K T r to t) := by
  intro pins s σ H Q I h
  refine wpAny_Call_method_late hbase hfew hline rfl (thn (ho pins s σ H _ I h) fun v s1 ⟨x, H1, I1, r1, ty, q1⟩ => ?_)
  obtain ⟨h1, h2⟩ := tyV_is I1 r1 ty
  refine ⟨T, id, pa, slot, hty, h1, h2, ?_⟩
  have hA := ha cpos pins s1 σ H1 _ I1 q1
  rw [hs] at hA ⊢
  refine Calls.callWith_builtin (by show (false || (backTo cpos (starEach es X.env)).any (·.1)) = false; rw [hplain] <;> rfl) (Calls.evalArgs_plain ?_)
  exact thn hA fun us s2 ⟨vs, H2, I2, r2, q2⟩ => hm pins s2 σ H2 x vs v us Q I2 r1 r2 q2
/- xs.append(e), list.index on a module's tuple .. are MtR facts of 06m -/
end
end L2

namespace L2
open PySem PySem.Spec PyProof.Rows

def MtM (X : Cx) (id : String) (r : V → List V → Hp → VK → Prop) : Prop :=
  ∀ (pins : List (Addr × Obj)) (s : Shared) (σ : St) (H : Hp) (x : V) (xs : List V) (v : Value) (us : List Value) (Q : VK), Inv X pins σ H s → RelV x v → Vals xs us → r x xs H Q →
    wpAny (model X.prog X.w) X.A (call (.builtin id) (v :: us)) (EP X pins σ Q) X.xe s

/-! ### lists of values -/
theorem Vals.one : ∀ {x : V} {us : List Value}, Vals [x] us → ∃ u, us = [u] ∧ RelV x u
  | _, _, .cons r .nil => ⟨_, rfl, r⟩
theorem Vals.two : ∀ {x y : V} {us : List Value}, Vals [x, y] us → ∃ u v, us = [u, v] ∧ RelV x u ∧ RelV y v
  | _, _, _, .cons r (.cons q .nil) => ⟨_, _, rfl, r, q⟩
theorem Vals.zero : ∀ {us : List Value}, Vals [] us → us = []
  | _, .nil => rfl
theorem Vals.eraseIdx : ∀ {xs : List V} {us : List Value} (i : Nat), Vals xs us → Vals (xs.eraseIdx i) (us.eraseIdx i)
  | _, _, _, .nil => .nil
  | _, _, 0, .cons _ t => t
  | _, _, i + 1, .cons r t => .cons r (Vals.eraseIdx i t)
theorem Vals.reverse {xs : List V} {us : List Value} (h : Vals xs us) : Vals xs.reverse us.reverse := by
  induction h with
  | nil => exact .nil
  | cons r t ih => rw [List.reverse_cons, List.reverse_cons]; exact Vals.append ih (.cons r .nil)
theorem Vals.rep {xs : List V} {us : List Value} (h : Vals xs us) : ∀ k : Nat, Vals (List.replicate k xs).flatten (List.replicate k us).flatten
  | 0 => .nil
  | k + 1 => by
    rw [List.replicate_succ, List.replicate_succ, List.flatten_cons, List.flatten_cons]
    exact Vals.append h (Vals.rep h k)
theorem len_erase {α : Type} : ∀ (l : List α) (i : Nat), (l.eraseIdx i).length ≤ l.length
  | [], _ => Nat.le_refl _
  | _ :: _, 0 => Nat.le_succ _
  | _ :: r, i + 1 => Nat.succ_le_succ (len_erase r i)
theorem foldl_rep (its : List Value) : ∀ (k : Nat) (acc : List Value),
    List.foldl (fun x1 x2 => x1 ++ x2) acc.toArray (List.replicate k its.toArray) = (acc ++ (List.replicate k its).flatten).toArray
  | 0, acc => by simp
  | k + 1, acc => by
    have e : acc.toArray ++ its.toArray = (acc ++ its).toArray := by simp
    have e2 : (acc ++ its) ++ (List.replicate k its).flatten = acc ++ (List.replicate (k + 1) its).flatten := by
      rw [List.replicate_succ, List.flatten_cons, List.append_assoc]
    rw [← e2, ← foldl_rep its k (acc ++ its), ← e, List.replicate_succ, List.foldl_cons]

section
variable {X : Cx} {pins : List (Addr × Obj)} {σ : St} {H : Hp} {s : Shared} {l b : Addr} {xs ys zs : List V}

/-! ### the two steps: a tracked list is rewritten, a new list is laid -/
theorem Inv.lset {its its' : List Value} {n : Nat} {f : Array Value → Array Value} {t' : Nat} (I : Inv X pins σ H s) (hH : H l = some (.lst xs))
    (e : s.heap.get? l = some { cls := .type "list", data := .seq its.toArray n }) (hf : f its.toArray = its'.toArray) (hv : Vals ys its') (hz : ys.length ≤ sizeLine) :
    Inv X pins σ (upd H l (.lst ys)) { s with heap := s.heap.update l (Obj.mapSeq f), toks := t' } := by
  have q := PySem.IsL.update e f
  rw [hf] at q
  refine I.write (x := l) (e := l) (by rw [hH]; exact trivial) (.inl rfl) (fun b' u hb hu => (Heap.get?_update_other s.heap (Obj.mapSeq f) (Ne.symm hb)).trans hu) ⟨_, q⟩ ?_
  exact ⟨hz, its', _, hv, q⟩
theorem Inv.lnew {its : List Value} {t' : Nat} (I : Inv X pins σ H s) (hv : Vals ys its) (hz : ys.length ≤ sizeLine) :
    Inv X pins σ (upd H s.heap.objs.size (.lst ys)) { s with heap := s.heap.push { cls := .type "list", data := .seq its.toArray }, toks := t' } :=
  I.laid (fun _ _ q => Heap.get?_push_of_some _ q) (Nat.le_refl _) ⟨hz, its, 0, hv, Heap.get?_push_size _ rfl⟩
theorem Inv.fresh (I : Inv X pins σ H s) : H s.heap.objs.size = none := I.hok.fresh (Nat.le_refl _)
theorem Inv.lstM (I : Inv X pins σ H s) (hH : H l = some (.lst xs)) : xs.length ≤ sizeLine ∧ ∃ (its : List Value) (n : Nat), Vals xs its ∧ xs.length = its.length ∧ s.heap.get? l = some { cls := .type "list", data := .seq its.toArray n } := by
  obtain ⟨z, its, n, r, e⟩ := I.hok l _ hH
  exact ⟨z, its, n, r, r.length, e⟩

theorem notLongL {n : Nat} (h : n ≤ sizeLine) : Builtin.List.listTooLong n = false := by
  unfold Builtin.List.listTooLong
  exact decide_eq_false (by omega)
end

section
variable {X : Cx}

/-! ### methods -/
def rAppend : V → List V → Hp → VK → Prop := fun x vs H Q => ∃ l xs y, x = .ref l ∧ vs = [y] ∧ H l = some (.lst xs) ∧ xs.length < sizeLine ∧ Q .non (upd H l (.lst (xs ++ [y])))
theorem mt_append : MtM X "list.append" rAppend := by
  intro pins s σ H x vs v us Q I rx rv h
  obtain ⟨l, xs, y, rfl, rfl, hH, hz, q⟩ := h
  cases rx
  obtain ⟨u, rfl, ru⟩ := rv.one
  obtain ⟨z, its, n, r, hl, e⟩ := I.lstM hH
  refine call_meets F.slot_list_append ⟨_, e, rfl⟩ F.entry_list_append (F.args_list_append_2 _ _) (PySem.list_append l its.toArray n u (by rw [List.size_toArray]; omega)) ⟨e, ?_⟩
  refine ⟨.non, _, I.lset (its' := its ++ [u]) hH e (by simp) (r.append (.cons ru .nil)) ?_, rfl, q⟩
  rw [List.length_append, List.length_singleton]
  omega

def rPopAt : V → List V → Hp → VK → Prop := fun x vs H Q => ∃ l xs i k y, x = .ref l ∧ vs = [.int i] ∧ H l = some (.lst xs) ∧ -(2 ^ 63) ≤ i ∧ i < 2 ^ 63 ∧ seqIndex? i xs.length = some k ∧ xs[k]? = some y ∧ Q y (upd H l (.lst (xs.eraseIdx k)))
theorem mt_popAt : MtM X "list.pop" rPopAt := by
  intro pins s σ H x vs v us Q I rx rv h
  obtain ⟨l, xs, i, k, y, rfl, rfl, hH, h1, h2, hk, hy, q⟩ := h
  cases rx
  obtain ⟨u, rfl, ru⟩ := rv.one
  obtain ⟨t, rfl⟩ := ru
  obtain ⟨z, its, n, r, hl, e⟩ := I.lstM hH
  obtain ⟨w, hw, rw'⟩ := r.get hy
  refine call_meets F.slot_list_pop ⟨_, e, rfl⟩ F.entry_list_pop (F.args_list_pop_2 _ _)
    (MeetsSeq.list_pop_at l its.toArray n i t k w (fitsIndex_both h1 h2) (by rw [List.size_toArray, ← hl]; exact hk) (by rw [← Array.getElem?_toList]; exact hw) (by rw [List.size_toArray]; omega)) ⟨e, ?_⟩
  refine ⟨y, _, I.lset (its' := its.eraseIdx k) hH e ?_ (r.eraseIdx k) ?_, rw', q⟩
  · show its.toArray.eraseIdxIfInBounds k = (its.eraseIdx k).toArray
    rw [List.eraseIdxIfInBounds_toArray]
  · have := len_erase xs k
    omega

/-! ### list + list, list += list, list * int -/
def rCat : R2 := fun x y H Q => ∃ l b xs zs, x = .ref l ∧ y = .ref b ∧ H l = some (.lst xs) ∧ H b = some (.lst zs) ∧ xs.length + zs.length ≤ sizeLine ∧ ∀ p, H p = none → Q (.ref p) (upd H p (.lst (xs ++ zs)))
theorem op_cat : OpR X (binaryOp .Add) rCat := by
  intro pins s σ H x y v u Q I rx ry h
  obtain ⟨l, b, xs, zs, rfl, rfl, hH, hB, hz, q⟩ := h
  cases rx
  cases ry
  obtain ⟨z, its, n, r, hl, e⟩ := I.lstM hH
  obtain ⟨z2, its2, n2, r2, hl2, e2⟩ := I.lstM hB
  refine PySem.P.add_list e e2 ?_ (by rw [List.size_toArray, List.size_toArray]; omega)
  have ea : its.toArray ++ its2.toArray = (its ++ its2).toArray := by simp
  rw [ea]
  exact ⟨.ref _, _, I.lnew (t' := s.toks) (r.append r2) (by rw [List.length_append]; omega), rfl, q _ I.fresh⟩
/-- a list times an int (a negative one is nothing) -/
def rRep : R2 := fun x y H Q => ∃ l k xs, x = .ref l ∧ y = .int k ∧ H l = some (.lst xs) ∧ -(2 ^ 63) ≤ k ∧ k < 2 ^ 63 ∧ xs.length * k.toNat ≤ sizeLine ∧
  ∀ p, H p = none → Q (.ref p) (upd H p (.lst (List.replicate k.toNat xs).flatten))
theorem len_rep {α : Type} (xs : List α) (k : Nat) : (List.replicate k xs).flatten.length = k * xs.length := by
  induction k with
  | zero => simp
  | succ k ih => rw [List.replicate_succ, List.flatten_cons, List.length_append, ih, Nat.succ_mul, Nat.add_comm]
theorem op_rep : OpR X (binaryOp .Mult) rRep := by
  intro pins s σ H x y v u Q I rx ry h
  obtain ⟨l, k, xs, rfl, rfl, hH, h1, h2, hz, q⟩ := h
  cases rx
  obtain ⟨t, rfl⟩ := ry
  obtain ⟨z, its, n, r, hl, e⟩ := I.lstM hH
  have hlen : its.toArray.size * k.toNat ≤ sizeLine := by rw [List.size_toArray, ← hl]; exact hz
  have hcap : ¬ its.toArray.size * k.toNat > (2 ^ 63 - 1) / 8 := by
    have : (sizeLine : Nat) ≤ (2 ^ 63 - 1) / 8 := by decide
    omega
  have hfit : ¬ (!Builtin.List.listFitsIndex k) = true := by
    rw [fitsIndex_both h1 h2]
    exact Bool.false_ne_true
  have hlong : ¬ Builtin.List.listTooLong (its.toArray.size * k.toNat) = true := by
    rw [notLongL hlen]
    exact Bool.false_ne_true
  have hnew : List.foldl (fun x1 x2 => x1 ++ x2) #[] (List.replicate (if its.toArray.isEmpty = true then 0 else k.toNat) its.toArray) = (List.replicate k.toNat its).flatten.toArray := by
    have f0 : ∀ m : Nat, List.foldl (fun x1 x2 => x1 ++ x2) #[] (List.replicate m its.toArray) = (List.replicate m its).flatten.toArray := fun m => by
      have := foldl_rep its m []
      rw [List.nil_append] at this
      exact this
    rw [f0]
    cases its with
    | nil => simp
    | cons a r' => rw [if_neg (by simp)]
  refine wpAny_binaryOp_repeat_ref (T := "list") (U := "int") (by decide) ⟨_, e, rfl⟩ (fun s' => typeIs_int s' k t) noFill_list_mul F.fills_int_mul F.slot_int_rmul repeat_list F.slot_int_index.lookup
    (call_meets F.slot_int_rmul (typeIs_int s k t) F.entry_int_rmul (F.args_int_rmul_2 _ _) (int___rmul___int_list k t l its.toArray n)
      ⟨e, rfl, ⟨_, e, rfl⟩, call_meets F.slot_list_mul ⟨_, e, rfl⟩ F.entry_list_mul (F.args_list_mul_2 _ _) (AutoListH.list___mul___list_int_3 l its.toArray n k t hfit hcap hlong) ⟨e, ?_⟩⟩)
  rw [hnew]
  exact ⟨.ref _, _, I.lnew (t' := s.toks) (r.rep k.toNat) (by rw [len_rep, Nat.mul_comm]; exact hz), rfl, q _ I.fresh⟩

/-! ### del xs[i] -/
end

/-! ### xs[a:b] = ys -/
section
variable {prog : Program} {w : World} {A : Around} {E : Value → Shared → Prop} {s : Shared}
end

section
variable {X : Cx}
end
end L2

namespace Att
open PySem PySem.W PySem.Calls PyProof.Rows

/-! ### the script -/
theorem ints_of_wellAll {P : Params} {h : Heap} : ∀ (ns : List Int) (vs : List Value), WellAll P h vs (ns.map WData.int) → IntsAre vs ns := by
  intro ns
  induction ns with
  | nil =>
    intro vs w
    rw [List.map_nil] at w
    cases w
    exact .nil
  | cons n ns ih =>
    intro vs w
    rw [List.map_cons] at w
    cases w with
    | cons a b =>
      cases a
      exact .cons _ _ (ih _ b)

theorem script_of {l : OpenLaw} {n : Nat} (hn : l.most = some n) {P : Params} {h : Heap} {args : List WData} {vals : List Value}
    (hpre : l.row.toRowW.claim.pre args = true) (hwl : WellAll P h vals args) :
    ∃ a vs ns, vals = [Value.ref a] ∧ args = [WData.list (ns.map WData.int)] ∧ h.get? a = some { cls := .type "list", data := .seq vs.toArray } ∧ IntsAre vs ns ∧ ns.length ≤ n := by
  have hsh : WShape.hasAll [] args [.list .int] = true := (pre_splitW hpre).1
  have hc : l.pre.holds [] { args := args } = true := (pre_splitW hpre).2
  obtain ⟨d, r, rfl, h1, h2⟩ := hasAllW_cons hsh
  obtain rfl := hasAllW_nil h2
  obtain ⟨xs, rfl, h3⟩ := hasW_list h1
  obtain ⟨ns, rfl⟩ := items_int h3
  have hlen : ns.length ≤ n := by
    unfold OpenLaw.pre at hc
    have h4 : (WTm.not (.lt (.lit (.int (n : Int))) (.len (.arg 0)))).holds [] { args := [.list (ns.map .int)] } = true := by
      have h4 := (holds_andW hc).1
      rw [hn] at h4
      exact h4
    have h5 := condW_of h4 (w_not (w_lt w_lit (w_len_list (w_arg rfl))))
    rw [List.length_map] at h5
    refine Nat.le_of_not_lt fun q => ?_
    have q' : (n : Int) < ((ns.length : Nat) : Int) := by omega
    first
      | (rw [decide_eq_true q'] at h5; exact absurd h5 (by decide))
      | (simp at h5; omega)
  cases hwl with
  | cons w1 w2 =>
    cases w2
    cases w1 with
    | list ho hall => exact ⟨_, _, ns, rfl, rfl, ho, ints_of_wellAll ns _ hall, hlen⟩

theorem post_true (l : OpenLaw) (args : List WData) : l.row.toRowW.claim.post args (.bool true) args = true :=
  postW_of (r := l.row.toRowW) (X := (true == true))
    (show WShape.has [] (.bool true) .bool = true by first | rfl | decide | simp [WShape.has, WShape.arms, WShape.armsAll])
    (show (WTm.eq .res (.lit (.bool true))).value [] { args := args, res := some (.bool true), after := args } = some (.bool (true == true)) from w_eq_bool (w_res rfl) w_lit) rfl

/-! ### the attachment: holds_open's last premise (the goal 'hc' behind k_head) from a wpAny of the law's body -/
/-- the same from a codeAny of the CALL (for a layer whose function contracts speak of calls) -/
theorem attach_call {l : OpenLaw} {n : Nat} {q : Program} {loose : List Str} {XP : (Str → Option Value) → Heap → Prop} {YP : World → Heap → Prop} {d : DefRec}
    (hn : l.most = some n) (hdf : d.params.defaults = [])
    (call : ∀ (w : World) (s₀ s₁ : Shared) (mg mb : Str → Option Value) (fa : Addr) (o : Obj) (pm cd doc : Value) (a : Addr) (vs : List Value) (ns : List Int),
      Ground q loose [] XP w s₀ mg mb s₁.heap → YP w s₁.heap →
      s₁.heap.get? fa = some o → o.data = .func (docDef d.name d.params d.body d.scope pm cd doc) → s₁.heap.CodeRec cd d.name → mg d.name = some (.ref fa) →
      s₁.heap.get? a = some { cls := .type "list", data := .seq vs.toArray } → IntsAre vs ns → ns.length ≤ n → s₁.gens = #[] →
      codeAny (model l.prog w) callerA (.call (.ref fa) ⟨[.ref a], []⟩) (fun r s' => r = .ok (.ret (.bool true)) ∧ OldK s₁.heap s'.heap ∧ s'.os = s₁.os ∧ AllBare s'.gens) s₁) :
    WalkO q loose XP YP l.row.toRowW d [] (fun f vs => PySem.call f vs) := by
  intro w s₀ s₁ mg mb G Y fa o pm cd doc dV kV ho hd hcd hD hmg hg args vals as hpre hlay hrd hwl hlo
  obtain rfl : dV = .none := Dflts.none hD hdf
  obtain rfl : kV = .none := Dflts.noKw hD
  obtain ⟨a, vs, ns, rfl, rfl, hobj, hints, hlen⟩ := script_of hn hpre hwl
  refine enter_call (codeAny_mono (call w s₀ s₁ mg mb fa o pm cd doc a vs ns G Y ho (fd_plain hd) hcd hmg hobj hints hlen hg) fun r s' hq => ?_)
  obtain ⟨rfl, h2, h3, h4⟩ := hq
  exact ⟨.inl ⟨.bool true, .bool true, [], rfl, fun _ => rfl, .bool true, post_true l _, fun _ => ⟨List.Pairwise.nil, fun _ hm => (nomatch hm)⟩⟩, h2, h3, h4⟩

/-! ### rules over ANY heap (no ledger) from facts about the written part K: the library's own take a ledger (News) for what they write -/
section
variable {prog : Program} {w : World} {A : Around} {E : Value → Shared → Prop} {s : Shared} {K : Frag}

/-! the whole heap as the ledger: makes every rule that writes through a ledger a rule over any heap -/
def ledger (h : Heap) (L d : Addr) : List (Addr × Obj) := (List.range h.objs.size).filterMap fun a => if a = L ∨ a = d then none else (h.get? a).map fun o => (a, o)
end
end Att

namespace L2
open PySem PySem.Spec PyProof.Rows

theorem vals_ints : ∀ {vs : List Value} {ns : List Int}, IntsAre vs ns → Vals (ns.map V.int) vs
  | _, _, .nil => .nil
  | _, _, .cons n t h => .cons ⟨t, rfl⟩ (vals_ints h)

/-- nothing is tracked but the script, known to the object (or it is an object of the module) -/
def Only (H : Hp) : Prop := ∀ b, H b = none ∨ ∃ o xs, H b = some (.frz o (.lst xs))

/-- THE HEAD: the law's promise, at the heap behind the top. F, the promise of the law's def, may use that base is part of the heap (so K.In base, base.Ns mainGlobals mg stand in Mod) -/
theorem law_call {P : Program} {w : World} {K : PySem.W.Frag} {mg mb : Str → Option Value} {CX : CXT} {k : Nat} {fa a : Addr} {fd : FuncData} {x : Str} {sp : Sp} {s₁ : Shared} {vs : List Value} {ns : List Int}
    (KX : K.In s₁.heap) (hns : s₁.heap.Ns mainGlobals mg) (hb : s₁.heap.Ns builtinsNs mb) (hbb : ∀ x : Str, x ≠ "__name__" → mb x = bootBuiltins x) (hlim : s₁.heap.NoLimit) (hg : s₁.gens = #[])
    (ha : s₁.heap.get? a = some { cls := .type "list", data := .seq vs.toArray }) (hi : IntsAre vs ns) (hl : ns.length ≤ sizeLine) (hr : Room k callerA)
    (F : ∀ base : Heap, K.In base → base.Ns mainGlobals mg → FnOk P w K mg base CX k fa fd [x] sp) (hbind : ∀ (s : Shared) (u : Value), BindsTo s fd ⟨[u], []⟩ [(x, u)])
    (hsp : ∀ H : Hp, Only H → SqL K H a (ns.map V.int) → sp [.ref a] H (fun v _ => v = .bl true) fun _ _ _ => False)
    (hCX : ∀ H e s', CX [] H s₁ (fun _ _ _ => False) e s' → False) :
    codeAny (model P w) callerA (.call (.ref fa) ⟨[.ref a], []⟩) (fun r s' => r = .ok (.ret (.bool true)) ∧ OldK s₁.heap s'.heap ∧ s'.os = s₁.os ∧ AllBare s'.gens) s₁ := by
  have rv := vals_ints hi
  have lenV := hi.length
  -- from an abstract heap in which nothing but the script may be tracked
  have core : ∀ H : Hp, Only H → SqL K H a (ns.map V.int) → HOk P w H s₁.heap → (∀ b, H b ≠ none → b = a) → (H a ≠ none → K.lookup a = none) →
      codeAny (model P w) callerA (.call (.ref fa) ⟨[.ref a], []⟩) (fun r s' => r = .ok (.ret (.bool true)) ∧ OldK s₁.heap s'.heap ∧ s'.os = s₁.os ∧ AllBare s'.gens) s₁ := by
    intro H hO hS hok hA hK
    have base_of : ∀ {b : Addr} {o : Obj}, s₁.heap.get? b = some o → H b = none → (hidT s₁.heap H).get? b = some o := fun e n => hidT_get e n
    have noA : ∀ {b : Addr} {o : Obj} {es : Array DictEntry} {ep : Nat}, s₁.heap.get? b = some o → o.data = .dict es ep → H b = none := fun {b o es ep} e d => by
      cases q : H b with
      | none => rfl
      | some u =>
        have e' : b = a := hA b (by rw [q]; simp)
        subst e'
        rw [ha] at e; cases e
        have d' : Data.seq vs.toArray _ = Data.dict es ep := d
        cases d'
    have nsK : ∀ {b : Addr} {m : Str → Option Value}, s₁.heap.Ns b m → (hidT s₁.heap H).Ns b m := fun {b m} ⟨o, es, ep, e, d, r⟩ => ⟨o, es, ep, base_of e (noA e d), d, r⟩
    have hKb : K.In (hidT s₁.heap H) := fun b o e => base_of (KX b o e) (by
      cases q : H b with
      | none => rfl
      | some u =>
        have e' : b = a := hA b (by rw [q]; simp)
        subst e'
        rw [hK (by rw [q]; simp)] at e; cases e)
    have hM : Mod K mg (hidT s₁.heap H) := ⟨hKb, nsK hns, ⟨mb, nsK hb, hbb⟩, let ⟨mc, h1, h2⟩ := hlim; ⟨mc, nsK h1, h2⟩⟩
    have e0 : Env0 P w K mg (hidT s₁.heap H) callerA [] s₁ H := ⟨rfl, hM, fun b o e => of_hidT e, Nat.le_of_eq (hidT_size _ _), trivial, fun b hb => absurd (show b ∈ ([] : List Addr) from hb) (by simp), hok, .of_eq hg⟩
    refine codeAny_mono ((F _ hKb (nsK hns)).run callerA [] s₁ H ⟨[.ref a], []⟩ [.ref a] [.ref a] _ _ hr e0 (hbind s₁ (.ref a)) (.cons rfl .nil) (hsp H hO hS)) fun r s' h => ?_
    cases r with
    | error e => exact (hCX H e s' h).elim
    | ok fl =>
      cases fl with
      | next => exact False.elim h
      | brk => exact False.elim h
      | cont => exact False.elim h
      | ret u =>
        obtain ⟨v, H', os, bare, un, hok', r', q⟩ := h
        have q' : v = .bl true := q
        subst q'
        obtain rfl : u = Value.bool true := r'
        refine ⟨rfl, OldK.of_keep fun b o e => ?_, os, bare⟩
        cases q : H b with
        | none => exact un.keep b o e q (by intro z; exact absurd (show b ∈ ([] : List Addr) from z) (by simp)) (by simp)
        | some u =>
          rcases hO b with z | ⟨ob, xs, z⟩
          · rw [q] at z; cases z
          · have z2 := un.frzs b ob _ z
            obtain ⟨e1, _⟩ := hok b _ z
            obtain ⟨e2, _⟩ := hok' b _ z2
            rw [e] at e1; cases e1
            exact e2
  cases hk : K.lookup a with
  | some o =>
    -- the script is one of the module's own objects
    have e := KX a o hk
    rw [ha] at e
    cases e
    refine core (fun _ => none) (fun _ => .inl rfl) (.inr ⟨_, vs.toArray, _, hk, rfl, rfl, rfl, by rw [List.size_toArray, lenV]; exact hl, by simpa using rv⟩) (fun b u z => by have z' : (none : Option HO) = some u := z; cases z') (fun b z => absurd rfl z) fun z => absurd rfl z
  | none =>
    refine core (fun b => if b = a then some (.frz { cls := .type "list", data := .seq vs.toArray } (.lst (ns.map V.int))) else none) (fun b => ?_) (.inl (.inr ⟨{ cls := .type "list", data := .seq vs.toArray }, if_pos rfl⟩)) (fun b u z => ?_) (fun b z => ?_) fun _ => hk
    · by_cases hb : b = a
      · exact .inr ⟨_, _, if_pos hb⟩
      · exact .inl (if_neg hb)
    · by_cases hb : b = a
      · have z' := (if_pos hb).symm.trans z
        cases z'
        subst hb
        exact ⟨ha, by rw [List.length_map]; exact hl, vs, _, rv, ha⟩
      · have z' := (if_neg hb).symm.trans z
        cases z'
    · by_cases hb : b = a
      · exact hb
      · exact absurd (if_neg hb) z
end L2

namespace L2
open PySem PySem.Spec PyProof.Rows

/-- the goal that k_head leaves (case hc), from the law's promise. F gives the function object fd (K's own) once, then the promise over every base -/
theorem walk_of {l : PySem.W.OpenLaw} {n k : Nat} {q : Program} {loose : List Str} {XP : (Str → Option Value) → Heap → Prop} {YP : World → Heap → Prop} {d : DefRec} {K : Params → PySem.W.Frag} {CX : World → CXT} {sp : World → Sp} {x : Str}
    (hn : l.most = some n) (hn2 : n ≤ sizeLine) (hdf : d.params.defaults = []) (hr : Room k callerA)
    (hY : ∀ (w : World) (h : Heap), YP w h → (K w.params).In h)
    (F : ∀ (w : World) (mg : Str → Option Value) (fa : Addr) (h : Heap), (K w.params).In h → h.Ns mainGlobals mg → mg d.name = some (.ref fa) →
      ∃ fd : FuncData, (∀ (s : Shared) (u : Value), BindsTo s fd ⟨[u], []⟩ [(x, u)]) ∧
        ∀ base : Heap, (K w.params).In base → base.Ns mainGlobals mg → FnOk l.prog w (K w.params) mg base (CX w) k fa fd [x] (sp w))
    (hsp : ∀ (w : World) (H : Hp) (a : Addr) (ns : List Int), ns.length ≤ n → Only H → SqL (K w.params) H a (ns.map V.int) → sp w [.ref a] H (fun v _ => v = .bl true) fun _ _ _ => False)
    (hCX : ∀ (w : World) (H : Hp) (s : Shared) (e : Value) (s' : Shared), CX w [] H s (fun _ _ _ => False) e s' → False) :
    PySem.W.WalkO q loose XP YP l.row.toRowW d [] (fun f vs => PySem.call f vs) := by
  refine Att.attach_call hn hdf fun w s₀ s₁ mg mb fa o pm cd doc a vs ns G Y ho hd hcd hmg hobj hints hlen hg => ?_
  have KX := hY w _ Y
  obtain ⟨fd, hb, hF⟩ := F w mg fa _ KX G.T.g hmg
  exact law_call KX G.T.g G.T.b G.T.builtins G.T.nolimit hg hobj hints (Nat.le_trans hlen hn2) hr hF hb (fun H hO hS => hsp w H a ns hlen hO hS) fun H e s' => hCX w H s₁ e s'
end L2

/-! SHORT WORDS over the layer: a def of the text, its body, what a loop and a test want. -/
namespace L2
open PySem PySem.Spec PyProof.Rows

/-! ### the text by places -/
def defArgs (s : Stmt) : Arguments := match s with
  | .FunctionDef _ a _ _ _ _ _ _ _ _ => a
  | _ => { posonlyargs := [], args := [], vararg := none, kwonlyargs := [], kw_defaults := [], kwarg := none, defaults := [] }
def defBody (s : Stmt) : List Stmt := match s with
  | .FunctionDef _ _ b _ _ _ _ _ _ _ => b
  | _ => []
def defScope (s : Stmt) : Scope := match s with
  | .FunctionDef _ _ _ _ _ _ sc _ _ _ => sc
  | _ => { kind := .function, names := [], isGenerator := false, isCoroutine := false }

/-! ### no exception leaves a def -/
abbrev CX0 : CXT := fun _ _ _ _ _ _ => False
abbrev E0 : XK := fun _ _ _ => False
theorem pass0 {X : Cx} : Passes CX0 X E0 := fun _ _ _ _ _ _ _ h => h.elim

/-! ### a def (or method) of the text as it stands behind the top -/
structure Fun (K : PySem.W.Frag) (x qual : Str) (st : Stmt) (f : Addr) (fd : FuncData) : Prop where
  ex : ∃ (oc : Value) (od : Option Addr) (kV doc pm : Value) (an : Option Addr) (cdv ct : Value) (osl : Array (Option Value)),
    fd = PySem.W.fnOf x qual (defArgs st) (defBody st) (defScope st) .none kV doc pm an cdv ct ∧ K.lookup f = some ⟨oc, od, .func fd, osl⟩ ∧ PySem.W.codeIn K cdv qual = true
  kp : PySem.W.keepIn K (.ref f) = true
section
variable {P : Program} {w : World} {K : PySem.W.Frag} {mg : Str → Option Value} {base : Heap}
/-- THE RULE for a def: its body as a term of rules, and the reading of that term -/
theorem Fun.ok {x qual : Str} {st : Stmt} {f : Addr} {fd : FuncData} {N ps : List Str} {k : Nat} {sp : Sp} (F : Fun K x qual st f fd) (S : FnScope N ps (defScope st)) (len : ∀ vs H Q E, sp vs H Q E → vs.length = ps.length)
    (hbody : ∀ (cdv : Value) (A : Around) (outer : List Env) (s : Shared) (H : Hp) (vs : List V) (Q : VK) (E : XK), Room k (A.deeper (envOfC qual (defScope st) s.heap.objs.size f cdv)) → sp vs H Q E →
      ∃ t, PSs (cxOf CX0 P w K mg base N qual (defScope st) f cdv A outer s H E).nox (defBody st) t ∧ t { nx := fun _ H' => Q .non H', rt := Q } (start N vs) H) : FnOk P w K mg base CX0 (k + 1) f fd ps sp := by
  obtain ⟨oc, od, kV, doc, pm, an, cdv, ct, osl, rfl, lk, hcd⟩ := F.ex
  refine fn_of lk hcd S len fun A outer s H vs Q E hr hsp => ?_
  obtain ⟨t, h, q⟩ := hbody cdv A outer s H vs Q E hr hsp
  exact ⟨t, h.nox, q⟩
/-- how its arguments bind (no defaults): h is «fun _ _ _ _ _ _ us hl => match us, hl with | [_, _], _ => rfl», one _ a parameter -/
theorem Fun.binds {x qual : Str} {st : Stmt} {f : Addr} {fd : FuncData} {ps : List Str} (F : Fun K x qual st f fd)
    (h : ∀ (kV doc pm : Value) (an : Option Addr) (cdv ct : Value) (us : List Value), us.length = ps.length → bindArgs (PySem.W.fnOf x qual (defArgs st) (defBody st) (defScope st) .none kV doc pm an cdv ct) ⟨us, []⟩ = pure (ps.zip us)) : Binds K fd ps [] := by
  obtain ⟨oc, od, kV, doc, pm, an, cdv, ct, osl, rfl, lk, hcd⟩ := F.ex
  exact .all (h kV doc pm an cdv ct)
theorem fun_mk {x qual : Str} {st : Stmt} {f : Addr} {oc : Value} {od an : Option Addr} {osl : Array (Option Value)} {kV doc pm cdv ct : Value} (l : K.lookup f = some ⟨oc, od, .func (PySem.W.fnOf x qual (defArgs st) (defBody st) (defScope st) .none kV doc pm an cdv ct), osl⟩)
    (c : PySem.W.codeIn K cdv qual = true) (k : PySem.W.keepIn K (.ref f) = true) : Fun K x qual st f (PySem.W.fnOf x qual (defArgs st) (defBody st) (defScope st) .none kV doc pm an cdv ct) := ⟨⟨oc, od, kV, doc, pm, an, cdv, ct, osl, rfl, l, c⟩, k⟩
end
theorem hu_of {A : Around} {k : Nat} (hr : Room k A) : A.units + 1 < cLine := Nat.lt_of_le_of_lt (Nat.add_le_add_left (by decide : 1 ≤ 64) _) hr.units
theorem small1000 {n : Nat} (h : n ≤ 1000) : n < sizeLine := Nat.lt_of_le_of_lt h (by decide)

/-! ### expressions in short: the name that stands in the i-th slot -/
section
variable {X : Cx}
theorem pv (i : Nat) {x : Str} {pos : Pos} (hN : X.N[i]? = some x := by rfl) (hv : Vis X.env.scope x := by first | exact Or.inl rfl | exact Or.inr (Or.inl rfl) | exact Or.inr (Or.inr rfl)) (hd : (x == ("__debug__" : Str)) = false := by decide)
    (hcd : (x == ("__classdict__" : Str)) = false := by decide) : PE X (.Name x pos) (tVar i) := pe_var hN hv hd hcd
end

/-! ### tests -/
theorem iteF {A B : Prop} (h : B) : if false = true then A else B := by
  rw [if_neg Bool.false_ne_true]
  exact h
theorem iteT {A B : Prop} (h : A) : if true = true then A else B := by
  rw [if_pos rfl]
  exact h
theorem ite2 {c A B : Prop} [Decidable c] (h1 : c → A) (h2 : ¬ c → B) : if c then A else B := by
  by_cases h : c
  · rw [if_pos h]
    exact h1 h
  · rw [if_neg h]
    exact h2 h
theorem iteNS {c A B : Prop} [Decidable c] (hc : c) (h : B) : if (!decide c) = true then A else B := by
  rw [decide_eq_true hc]
  exact iteF h

/-! ### heaps -/
/-- all that was tracked is as it was -/
def Same (H H' : Hp) : Prop := ∀ b o, H b = some o → H' b = some o
theorem Same.refl (H : Hp) : Same H H := fun _ _ h => h
theorem Same.trans {H H1 H2 : Hp} (a : Same H H1) (b : Same H1 H2) : Same H H2 := fun c o h => b c o (a c o h)
theorem Same.free {H H' : Hp} (e : Same H H') {l : Addr} (h : H' l = Option.none) : H l = Option.none := by
  cases q : H l with
  | none => rfl
  | some o =>
    rw [e l o q] at h
    cases h
theorem Same.seq {K : PySem.W.Frag} {H H' : Hp} {a : Addr} {xs : List V} (e : Same H H') (h : SqL K H a xs) : SqL K H' a xs := by
  rcases h with (h | ⟨o, h⟩) | h
  · exact .inl (.inl (e _ _ h))
  · exact .inl (.inr ⟨o, e _ _ h⟩)
  · exact .inr h

end L2

namespace L2
open PySem PySem.Spec PyProof.Rows

/-! ### lists of pairs as tables -/
section
variable {κ : Type} [DecidableEq κ]
def valV (kvs : List (κ × V)) (k : κ) : Option V := (kvs.find? fun kv => decide (kv.1 = k)).map (·.2)
/-- in its place, or at the end -/
def putK (kvs : List (κ × V)) (k : κ) (v : V) : List (κ × V) :=
  if (kvs.any fun kv => decide (kv.1 = k)) = true then kvs.map (fun kv => if kv.1 = k then (kv.1, v) else kv) else kvs ++ [(k, v)]
def dropK (kvs : List (κ × V)) (k : κ) : List (κ × V) := kvs.filter fun kv => decide (kv.1 ≠ k)

theorem valV_pos {p : κ × V} {r : List (κ × V)} {k : κ} (e : p.1 = k) : valV (p :: r) k = some p.2 := by simp [valV, List.find?_cons, e]
theorem valV_neg {p : κ × V} {r : List (κ × V)} {k : κ} (e : ¬ p.1 = k) : valV (p :: r) k = valV r k := by simp [valV, List.find?_cons, e]
theorem valV_any (k : κ) : ∀ kvs : List (κ × V), (kvs.any fun kv => decide (kv.1 = k)) = (valV kvs k).isSome
  | [] => rfl
  | p :: r => by
    rw [List.any_cons]
    by_cases e : p.1 = k
    · simp only [valV_pos e, decide_eq_true e, Bool.true_or, Option.isSome_some]
    · rw [valV_neg e, decide_eq_false e, Bool.false_or]; exact valV_any k r
theorem RelO.isSome_eq {o : Option V} {u : Option Value} (r : RelO o u) : o.isSome = u.isSome := by
  cases o with
  | none => cases u with
    | none => rfl
    | some _ => exact (show False from r).elim
  | some _ => cases u with
    | none => exact (show False from r).elim
    | some _ => rfl
theorem RelO.getD {o : Option V} {u : Option Value} {d : V} {d' : Value} (r : RelO o u) (rd : RelV d d') : RelV (o.getD d) (u.getD d') := by
  cases o with
  | none => cases u with
    | none => exact rd
    | some _ => exact (show False from r).elim
  | some _ => cases u with
    | none => exact (show False from r).elim
    | some _ => exact r

/-- raw tables of the same keys -/
theorem KV.val {kvs : List (κ × V)} {vs : List (κ × Value)} (r : KV kvs vs) (k : κ) : RelO (valV kvs k) (valueAt vs k) := by
  unfold KV at r
  induction r with
  | nil => exact True.intro
  | @cons p q ps qs h t ih =>
    obtain ⟨h1, h2⟩ := h
    by_cases e : p.1 = k
    · have e' : q.1 = k := h1.symm.trans e
      have b : valueAt (q :: qs) k = some q.2 := by simp [valueAt, List.find?_cons, e']
      rw [valV_pos e, b]; exact h2
    · have e' : ¬ q.1 = k := fun z => e (h1.trans z)
      have b : valueAt (q :: qs) k = valueAt qs k := by simp [valueAt, List.find?_cons, e']
      rw [valV_neg e, b]; exact ih
theorem KV.any {kvs : List (κ × V)} {vs : List (κ × Value)} (r : KV kvs vs) (k : κ) : (kvs.any fun kv => decide (kv.1 = k)) = vs.any fun kv => decide (kv.1 = k) := by
  unfold KV at r
  induction r with
  | nil => rfl
  | cons h t ih => rw [List.any_cons, List.any_cons, ih, h.1]
theorem KV.repl {kvs : List (κ × V)} {vs : List (κ × Value)} (r : KV kvs vs) (k : κ) {y : V} {u : Value} (ry : RelV y u) :
    KV (kvs.map fun kv => if kv.1 = k then (kv.1, y) else kv) (vs.map fun kv => if kv.1 = k then (kv.1, u) else kv) := by
  unfold KV at r ⊢
  induction r with
  | nil => exact .nil
  | @cons p q ps qs h t ih =>
    rw [List.map_cons, List.map_cons]
    refine .cons ?_ ih
    obtain ⟨h1, h2⟩ := h
    by_cases e : p.1 = k
    · rw [if_pos e, if_pos (h1.symm.trans e)]; exact ⟨h1, ry⟩
    · rw [if_neg e, if_neg (fun z => e (h1.trans z))]; exact ⟨h1, h2⟩
theorem KV.put {kvs : List (κ × V)} {vs : List (κ × Value)} (r : KV kvs vs) (k : κ) {y : V} {u : Value} (ry : RelV y u) : KV (putK kvs k y) (stored vs k u) := by
  unfold putK stored
  rw [r.any k]
  by_cases e : (vs.any fun kv => decide (kv.1 = k)) = true
  · rw [if_pos e, if_pos e]; exact r.repl k ry
  · rw [if_neg e, if_neg e]; exact Paired.snoc r ⟨rfl, ry⟩
theorem KV.drop {kvs : List (κ × V)} {vs : List (κ × Value)} (r : KV kvs vs) (k : κ) : KV (dropK kvs k) (without vs k) := by
  unfold KV at r ⊢
  unfold dropK without
  induction r with
  | nil => exact .nil
  | @cons p q ps qs h t ih =>
    obtain ⟨h1, h2⟩ := h
    rw [List.filter_cons, List.filter_cons]
    by_cases e : p.1 = k
    · have a : ¬ decide (p.1 ≠ k) = true := by simp [e]
      have b : ¬ decide (q.1 ≠ k) = true := by simp [h1.symm.trans e]
      rw [if_neg a, if_neg b]; exact ih
    · have e' : ¬ q.1 = k := fun z => e (h1.trans z)
      have a : decide (p.1 ≠ k) = true := by simp [e]
      have b : decide (q.1 ≠ k) = true := by simp [e']
      rw [if_pos a, if_pos b]; exact .cons ⟨h1, h2⟩ ih
theorem KV.keys {kvs : List (κ × V)} {vs : List (κ × Value)} (r : KV kvs vs) : kvs.map (·.1) = vs.map (·.1) := by
  unfold KV at r
  induction r with
  | nil => rfl
  | cons h t ih => rw [List.map_cons, List.map_cons, ih, h.1]
theorem KV.length {kvs : List (κ × V)} {vs : List (κ × Value)} (r : KV kvs vs) : kvs.length = vs.length := Paired.length r
end


/-! ### a tracked dict, its keys ints and texts or tuples of these -/
/-- raw entries of a dict with tuple keys -/
abbrev KT (H : Hp) : List (List Key × V) → List (List Key × Addr × Value) → Prop := Paired fun p q => p.1 = q.1 ∧ H q.2.1 = some (.tup (p.1.map kV)) ∧ RelV p.2 q.2.2
theorem KT.val {H : Hp} {kvs : List (List Key × V)} {xs : List (List Key × Addr × Value)} (r : KT H kvs xs) (k : List Key) : RelO (valV kvs k) ((atKey xs k).map (·.2)) := by
  induction r with
  | nil => exact True.intro
  | @cons p q ps qs h t ih =>
    obtain ⟨h1, _, h2⟩ := h
    by_cases e : p.1 = k
    · have e' : q.1 = k := h1.symm.trans e
      have b : atKey (q :: qs) k = some q.2 := by simp [atKey, List.find?_cons, e']
      rw [valV_pos e, b]; exact h2
    · have e' : ¬ q.1 = k := fun z => e (h1.trans z)
      have b : atKey (q :: qs) k = atKey qs k := by simp [atKey, List.find?_cons, e']
      rw [valV_neg e, b]; exact ih
theorem KT.repl {H : Hp} {kvs : List (List Key × V)} {xs : List (List Key × Addr × Value)} (r : KT H kvs xs) (k : List Key) {y : V} {u : Value} (ry : RelV y u) :
    KT H (kvs.map fun kv => if kv.1 = k then (kv.1, y) else kv) (xs.map (putAt k u)) := by
  induction r with
  | nil => exact .nil
  | @cons p q ps qs h t ih =>
    rw [List.map_cons, List.map_cons]
    refine .cons ?_ ih
    obtain ⟨h1, h2, h3⟩ := h
    unfold putAt
    by_cases e : p.1 = k
    · rw [if_pos e, if_pos (h1.symm.trans e)]; exact ⟨h1, h2, ry⟩
    · rw [if_neg e, if_neg (fun z => e (h1.trans z))]; exact ⟨h1, h2, h3⟩
theorem KT.put {H : Hp} {kvs : List (List Key × V)} {xs : List (List Key × Addr × Value)} (r : KT H kvs xs) (k : List Key) {b : Addr} {y : V} {u : Value} (hb : H b = some (.tup (k.map kV))) (ry : RelV y u) :
    KT H (putK kvs k y) (storedH xs k b u) := by
  have e : (kvs.any fun kv => decide (kv.1 = k)) = (atKey xs k).isSome := by
    rw [valV_any, (r.val k).isSome_eq, Option.isSome_map]
  unfold putK storedH
  rw [e]
  by_cases q : (atKey xs k).isSome = true
  · rw [if_pos q, if_pos q]; exact r.repl k ry
  · rw [if_neg q, if_neg q]; exact Paired.snoc r ⟨rfl, hb, ry⟩
theorem KT.keeps {H H' : Hp} {kvs : List (List Key × V)} {xs : List (List Key × Addr × Value)} (r : KT H kvs xs) (ht : ∀ b ys, H b = some (.tup ys) → H' b = some (.tup ys)) : KT H' kvs xs :=
  Paired.mapP r fun _ _ z => ⟨z.1, ht _ _ z.2.1, z.2.2⟩

section
variable {P : Program} {w : World} {H : Hp} {h : Heap} {a : Addr}
end

/-- what the dict at a holds at the key y -/
def DGet (H : Hp) (a : Addr) (y : V) (r : Option V) : Prop :=
  (∃ kvs k, Rd H a (.dK kvs) ∧ y = kV k ∧ r = valV kvs k) ∨ ∃ kvs k b, Rd H a (.dT kvs) ∧ y = .ref b ∧ H b = some (.tup (k.map kV)) ∧ r = valV kvs k
/-- the heap behind a[y] = v -/
def DPut (H : Hp) (a : Addr) (y v : V) (H' : Hp) : Prop :=
  (∃ kvs k, H a = some (.dK kvs) ∧ y = kV k ∧ kvs.length < sizeLine ∧ H' = upd H a (.dK (putK kvs k v))) ∨
  ∃ kvs k b, H a = some (.dT kvs) ∧ y = .ref b ∧ H b = some (.tup (k.map kV)) ∧ kvs.length < sizeLine ∧ H' = upd H a (.dT (putK kvs k v))
theorem DGet.k {H : Hp} {a : Addr} {kvs : List (Key × V)} {k : Key} (e : H a = some (.dK kvs)) : DGet H a (kV k) (valV kvs k) := .inl ⟨kvs, k, .inl e, rfl, rfl⟩
theorem DGet.t {H : Hp} {a b : Addr} {kvs : List (List Key × V)} {k : List Key} (e : H a = some (.dT kvs)) (eb : H b = some (.tup (k.map kV))) : DGet H a (.ref b) (valV kvs k) := .inr ⟨kvs, k, b, .inl e, rfl, eb, rfl⟩
theorem DPut.k {H : Hp} {a : Addr} {kvs : List (Key × V)} {k : Key} {v : V} (e : H a = some (.dK kvs)) (hl : kvs.length < sizeLine) : DPut H a (kV k) v (upd H a (.dK (putK kvs k v))) := .inl ⟨kvs, k, e, rfl, hl, rfl⟩
theorem DPut.t {H : Hp} {a b : Addr} {kvs : List (List Key × V)} {k : List Key} {v : V} (e : H a = some (.dT kvs)) (eb : H b = some (.tup (k.map kV))) (hl : kvs.length < sizeLine) :
    DPut H a (.ref b) v (upd H a (.dT (putK kvs k v))) := .inr ⟨kvs, k, b, e, rfl, eb, hl, rfl⟩


section
variable {X : Cx} {pins : List (Addr × Obj)} {σ : St} {H : Hp} {s : Shared} {a : Addr} {y v : V} {u r : Value} {o : Option V} {A : Around} {E : Value → Shared → Prop}

end

section
variable {X : Cx} {pins : List (Addr × Obj)} {σ : St} {H : Hp} {s : Shared} {a : Addr} {kvs : List (Key × V)} {k : Key} {u : Value} {A : Around} {E : Value → Shared → Prop}
end


/-! ### readings and rules -/
section
variable {X : Cx} {o i e value : Expr} {pos pos' tpos : Pos} {td ty tv : TE}
end


/-! ### displays -/
section
variable {X : Cx} {pos : Pos}
end

/-! ### methods -/
section
variable {X : Cx} {pins : List (Addr × Obj)} {σ : St} {H : Hp} {s : Shared} {a : Addr} {y d : V} {u r : Value} {o : Option V} {A : Around} {E : Value → Shared → Prop}
end

section
variable {X : Cx} {o e f : Expr} {apos cpos : Pos} {td ty tx : TE}
end

/-! ### dict(d): a copy -/
section
variable {X : Cx} {pins : List (Addr × Obj)} {σ : St} {H : Hp} {s : Shared} {a : Addr} {kvs : List (Key × V)} {A : Around} {E : Value → Shared → Prop}
end


section
variable {X : Cx} {pins : List (Addr × Obj)} {σ : St} {H : Hp} {s : Shared} {a : Addr} {y : V} {u : Value} {A : Around} {E : Value → Shared → Prop}
end
end L2
namespace L2
open PySem PySem.Spec PyProof.Rows
section
variable {X : Cx}
end
/-! ### a dict's pairs: keys that differ -/
section
variable {κ : Type} [DecidableEq κ]
end
end L2


/-! ### list comprehensions over the layer -/
namespace L2
open PySem PySem.Spec PyProof.Rows

theorem closGo {env : Env} : ∀ (names : List (Str × NameKind)), (∀ x ∈ names, x.2 = NameKind.free → ∃ c, env.cells.lookup x.1 = some c) →
    ∀ cs : List (Str × Addr), (∀ x c, cs.lookup x = some c → env.cells.lookup x = some c) →
    ∃ cl : List (Str × Addr), (forIn names cs (fun (x : Str × NameKind) (r : List (Str × Addr)) => (if (x.2 == NameKind.free) = true then do let a ← cellOf env x.1; pure (ForInStep.yield ((x.1, a) :: r)) else pure (ForInStep.yield r) : Sem (ForInStep (List (Str × Addr)))))) = (pure cl : Sem (List (Str × Addr))) ∧
      (∀ x c, cl.lookup x = some c → env.cells.lookup x = some c) ∧ (∀ x, ((x, NameKind.free) ∈ names ∨ ∃ c, cs.lookup x = some c) → ∃ c, cl.lookup x = some c)
  | [], _, cs, hs => ⟨cs, by rw [List.forIn_nil], hs, fun x h => h.elim (fun z => nomatch z) id⟩
  | (n, k) :: r, hf, cs, hs => by
    have hr : ∀ x ∈ r, x.2 = NameKind.free → ∃ c, env.cells.lookup x.1 = some c := fun x hx => hf x (List.mem_cons_of_mem _ hx)
    by_cases hk : k = NameKind.free
    · subst hk
      obtain ⟨a, ha⟩ := hf (n, NameKind.free) List.mem_cons_self rfl
      have hs' : ∀ x c, ((n, a) :: cs).lookup x = some c → env.cells.lookup x = some c := fun x c h => by
        rw [List.lookup_cons] at h
        by_cases hx : x = n
        · subst hx
          simp only [beq_self_eq_true] at h
          rw [← h]; exact ha
        · have : (x == n) = false := beq_eq_false_iff_ne.mpr hx
          rw [this] at h
          exact hs x c h
      obtain ⟨cl, e, h1, h2⟩ := closGo r hr ((n, a) :: cs) hs'
      refine ⟨cl, ?_, h1, fun x h => h2 x ?_⟩
      · rw [List.forIn_cons]
        have e1 : cellOf env n = pure a := by unfold cellOf; rw [show env.cells.lookup n = some a from ha]
        simp only [beq_self_eq_true, if_true, e1]
        exact e
      · rcases h with h | ⟨c, h⟩
        · rcases List.mem_cons.mp h with h | h
          · have : x = n := congrArg Prod.fst h
            subst this
            exact .inr ⟨a, by rw [List.lookup_cons]; simp⟩
          · exact .inl h
        · by_cases hx : x = n
          · subst hx; exact .inr ⟨a, by rw [List.lookup_cons]; simp⟩
          · exact .inr ⟨c, by rw [List.lookup_cons, beq_eq_false_iff_ne.mpr hx]; exact h⟩
    · obtain ⟨cl, e, h1, h2⟩ := closGo r hr cs hs
      refine ⟨cl, ?_, h1, fun x h => h2 x ?_⟩
      · rw [List.forIn_cons]
        have hb : (k == NameKind.free) = false := by simpa using hk
        simp only [hb, Bool.false_eq_true, if_false]
        exact e
      · rcases h with h | h
        · rcases List.mem_cons.mp h with h | h
          · exact absurd (congrArg Prod.snd h).symm hk
          · exact .inl h
        · exact .inr h
theorem clos_of {scope : Scope} {env : Env} (hf : ∀ x ∈ scope.names, x.2 = NameKind.free → ∃ c, env.cells.lookup x.1 = some c) :
    ∃ cl : List (Str × Addr), closureFor scope env = pure cl ∧ (∀ x c, cl.lookup x = some c → env.cells.lookup x = some c) ∧ (∀ x, (x, NameKind.free) ∈ scope.names → ∃ c, cl.lookup x = some c) := by
  obtain ⟨cl, e, h1, h2⟩ := closGo scope.names hf [] (fun x c h => by simp at h)
  refine ⟨cl, ?_, h1, fun x h => h2 x (.inl h)⟩
  unfold closureFor
  show ((forIn scope.names [] (fun (x : Str × NameKind) (r : List (Str × Addr)) => (if (x.2 == NameKind.free) = true then do let a ← cellOf env x.1; pure (ForInStep.yield ((x.1, a) :: r)) else pure (ForInStep.yield r) : Sem (ForInStep (List (Str × Addr)))))) >>= fun s => pure s) = pure cl
  rw [e]
  rfl

/-- names behind relabel -/
theorem relabel_out {env : Env} : ∀ {names : List (Str × NameKind)} {x : Str} {k : NameKind}, (∀ y ∈ names, y.2 ≠ NameKind.cell) →
    (names.map fun (n, k) => if (k == NameKind.free && env.scope.kind == .function && env.kindOf n == some .cell) then (n, NameKind.cell) else (n, k)).lookup x = some k → (k = .cell ∨ k = .free) → (x, NameKind.free) ∈ names
  | [], _, _, _, h, _ => by simp at h
  | (n, kk) :: r, x, k, hc, h, hk => by
    have ih := @relabel_out env r x k (fun y hy => hc y (List.mem_cons_of_mem _ hy))
    have hh := hc (n, kk) List.mem_cons_self
    simp only [List.map_cons] at h
    by_cases hcond : (kk == NameKind.free && env.scope.kind == .function && env.kindOf n == some .cell) = true
    · rw [if_pos hcond, List.lookup_cons] at h
      have hfree : kk = NameKind.free := by
        rw [Bool.and_eq_true, Bool.and_eq_true] at hcond
        simpa using hcond.1.1
      cases hx : x == n with
      | true =>
        have : x = n := by simpa using hx
        subst this; subst hfree
        exact List.mem_cons_self
      | false => rw [hx] at h; exact List.mem_cons_of_mem _ (ih h hk)
    · rw [if_neg hcond, List.lookup_cons] at h
      cases hx : x == n with
      | true =>
        rw [hx] at h
        have hkk : kk = k := Option.some.inj h
        have : x = n := by simpa using hx
        subst this; subst hkk
        rcases hk with z | z
        · exact absurd z hh
        · subst z; exact List.mem_cons_self
      | false => rw [hx] at h; exact List.mem_cons_of_mem _ (ih h hk)
theorem relabel_free {env : Env} : ∀ {names : List (Str × NameKind)} {x : Str}, names.lookup x = some .free →
    let l := (names.map fun (n, k) => if (k == NameKind.free && env.scope.kind == .function && env.kindOf n == some .cell) then (n, NameKind.cell) else (n, k))
    l.lookup x = some .cell ∨ l.lookup x = some .free
  | [], _, h => by simp at h
  | (n, kk) :: r, x, h => by
    have ih := @relabel_free env r x
    simp only [List.map_cons]
    rw [List.lookup_cons] at h
    by_cases hcond : (kk == NameKind.free && env.scope.kind == .function && env.kindOf n == some .cell) = true
    · rw [if_pos hcond, List.lookup_cons]
      cases hx : x == n with
      | true => exact .inl rfl
      | false => rw [hx] at h; exact ih h
    · rw [if_neg hcond, List.lookup_cons]
      cases hx : x == n with
      | true => rw [hx] at h; exact .inr h
      | false => rw [hx] at h; exact ih h

/-- the block's context: names N, the iterator's records at ex -/
abbrev Cx.comp (X : Cx) (N : List Str) (scope : Scope) (cl : List (Str × Addr)) (C : Addr) (s : Shared) (H : Hp) (ex : List Addr) (E : Value → Shared → Prop) : Cx :=
  { X with N := N, s₀ := s, H₀ := H, env := compEnvC scope cl C X.env, outer := X.stack, ex := ex, fn := fun _ => false, pn := [], xe := E }

/-- the tests of a comprehension -/
def PTs (X : Cx) (ifs : List Expr) (t : TT) : Prop :=
  ∀ (pins : List (Addr × Obj)) (s : Shared) (σ : St) (H : Hp) (Q : Bool → Hp → Prop), Inv X pins σ H s → t σ H Q →
    wpAny (model X.prog X.w) X.A (forIn ifs true fun c r => if r = true then do let ok ← isTrue c X.env (eval c X.env); pure (ForInStep.yield ok) else pure (ForInStep.yield r)) (TP X pins σ Q) X.xe s
def tTests0 : TT := fun _ H Q => Q true H
theorem pts_nil {X : Cx} : PTs X [] tTests0 := fun _ _ _ H _ I h => wpAny_tests_nil ⟨H, I, h⟩
/-- the target writes below n alone -/
def GKeep (n : Nat) (g : TG) : Prop := ∀ x σ H Q, g x σ H Q → g x σ H fun σ2 H2 => Q σ2 H2 ∧ σ2.length = σ.length ∧ ∀ i, n ≤ i → σ2[i]? = σ[i]?
theorem gk_name {n i : Nat} (h : i < n) : GKeep n (gName i) := fun x σ H Q q => ⟨q, by simp, fun j hj => by rw [List.getElem?_set_ne (by omega)]⟩
/-- the block's names at the entry: the targets without a value, then what is taken from around -/
def compSt (n : Nat) (caps : List (Nat × Str)) (σ : St) : St := List.replicate n none ++ caps.map fun p => (σ[p.1]?).join
/-- the block's turns over the iterator J, from the heap H1; Q of the new list -/
def CompGo (n : Nat) (caps : List (Nat × Str)) (g : TG) (tt : TT) (te : TE) (σ : St) (Q : VK) (J : It) (H1 : Hp) : Prop :=
  ∃ W : Nat → Nat → List V → Hp → Prop, (∃ m, W 0 m [] H1) ∧ ∀ i m ys H2, W i m ys H2 → ys.length ≤ sizeLine ∧
    ((J.stop i H2 ∧ ∀ p, H2 p = none → Q (.ref p) (upd H2 p (.lst ys))) ∨
    (J.go i H2 ∧ ∃ N : List V → Hp → Prop, (∀ ys' H', N ys' H' → ∃ m', m' < m ∧ W (i + 1) m' ys' H') ∧ ∀ x H3, J.yld i H2 x H3 → g x (compSt n caps σ) H3 fun σ4 H4 => tt σ4 H4 fun c H5 =>
      if c = true then te σ4 H5 fun v H6 => N (ys ++ [v]) H6 else N ys H5))
def tComp (n : Nat) (caps : List (Nat × Str)) (wi : TI) (g : TG) (tt : TT) (te : TE) : TE := fun σ H Q => wi σ H fun J H1 => CompGo n caps g tt te σ Q J H1

/-- a turn of a block without tests whose target is a name -/
theorem turn0 {i : Nat} {x : V} {σ : St} {H : Hp} {A B : St → Hp → Prop} (h : A (σ.set i (some x)) H) : gName i x σ H fun σ4 H4 => tTests0 σ4 H4 fun c H5 => if c = true then A σ4 H5 else B σ4 H5 := by
  show if true = true then A (σ.set i (some x)) H else B (σ.set i (some x)) H
  rw [if_pos rfl]
  exact h
/-- what the scopes must say: of the def (or block) around, of the block -/
def compOk (sc scope : Scope) (N0 tns : List Str) (caps : List (Nat × Str)) : Bool :=
  scope.kind == .function && scope.names.all (fun y => !(y.2 == .cell)) && scope.names.all (fun y => !(y.2 == .local) || scope.names.lookup y.1 == some .local) &&
  scope.names.all (fun y => !(y.2 == .free) || sc.names.lookup y.1 == some .cell) && caps.all (fun p => N0[p.1]? == some p.2 && sc.names.lookup p.2 == some .cell && scope.names.lookup p.2 == some .free)

section
variable {prog : Program} {w : World} {A : Around} {R : Result → Shared → Prop} {s : Shared}
theorem compLoop_gen {elt target iter : Expr} {ifs : List Expr} {scope : Scope} {pos : Pos} {it acc : Value} {env : Env} (I : Nat → Shared → Prop)
    (turn : ∀ n s, I n s → wpAny (model prog w) A (pyNext it) (fun r s₁ => match r with
      | none => R (.ok .next) s₁
      | some v => wpAny (model prog w) A (letOwnedTupleGo target it v) (fun _ s₁ => wpAny (model prog w) A (assign target env v) (fun _ s₂ =>
          wpAny (model prog w) A (forIn ifs true fun c r => if r = true then do let ok ← isTrue c env (eval c env); pure (ForInStep.yield ok) else pure (ForInStep.yield r)) (fun ok s₃ =>
            if ok = true then wpAny (model prog w) A (eval elt env) (fun x s₄ =>
              wpAny (model prog w) A (call (.builtin "list.append") [acc, x]) (fun _ s₅ => ∃ m, m < n ∧ I m s₅) (notedBy (model prog w) A env fun e s' => R (.error e) s') s₄) (notedBy (model prog w) A env fun e s' => R (.error e) s') s₃
            else ∃ m, m < n ∧ I m s₃) (notedBy (model prog w) A env fun e s' => R (.error e) s') s₂) (notedBy (model prog w) A env fun e s' => R (.error e) s') s₁)
            (notedBy (model prog w) A env fun e s' => R (.error e) s') s₁) (notedBy (model prog w) A env fun e s' => R (.error e) s') s)
    (n : Nat) (h : I n s) :
    codeAny (model prog w) A (.compLoop (.ListComp elt [⟨target, iter, ifs, 0⟩] scope pos) 0 it acc env) R s := by
  refine codeAny_loop rfl I (fun n s hI => ?_) n h
  show wpAny _ A ((compTurn (.ListComp elt [⟨target, iter, ifs, 0⟩] scope pos) 0 it acc env).onRaise (fun x => do noteFrame x env; theTreesLotGoes x)) _ _ s
  refine wpAny_noted ?_
  rw [compTurn_list]
  refine wpAny_bind (wpAny_standAt (wpAny_bind (wpAny_mono (turn n s hI) (fun r s₁ h₁ => ?_) fun _ _ h' => h')))
  cases r with
  | none => exact wpAny_pure h₁
  | some v =>
    refine wpAny_bind (wpAny_mono h₁ (fun _ s₁' h₁' => ?_) fun _ _ h' => h')
    refine wpAny_bind (wpAny_mono h₁' (fun _ s₂ h₂ => wpAny_bind (wpAny_mono h₂ (fun ok s₃ h₃ => ?_) fun _ _ h' => h')) fun _ _ h' => h')
    cases ok with
    | false => exact wpAny_pure ⟨rfl, h₃⟩
    | true =>
      exact wpAny_bind (wpAny_bind (wpAny_mono h₃ (fun x s₄ h₄ => wpAny_bind (wpAny_mono h₄ (fun _ s₅ h₅ => wpAny_pure (wpAny_pure ⟨rfl, h₅⟩)) fun _ _ h' => h')) fun _ _ h' => h'))
end

section
variable {X : Cx} {elt tg iter : Expr} {ifs : List Expr} {scope sc : Scope} {pos : Pos} {n : Nat} {tns : List Str} {caps : List (Nat × Str)} {wi : TI} {g : TG} {tt : TT} {te : TE}

/-- what holds behind the block, over the context around: the new list at D, the block's frame at C -/
structure CompEnd (X : Cx) (pins : List (Addr × Obj)) (σ : St) (H3 : Hp) (D C : Addr) (ys : List V) (s' : Shared) : Prop where
  inv : Inv X pins σ (upd H3 D (.lst ys)) s'
  fresh : H3 D = none
  fp : FpOk X pins (upd H3 D (.lst ys)) C
  ns : ∃ m, s'.heap.Ns C m

theorem comp_block {N0 : List Str} (hc : X.calm = true) (hsc : X.env.scope = sc) (hN0 : X.N = N0) (ok : compOk sc scope N0 tns caps = true) (hn : tns.length = n) (hG : GKeep n g)
    (hb : ∀ cl C s H ex E, PG (X.comp (tns ++ caps.map (·.2)) scope cl C s H ex E) tg g ∧ PTs (X.comp (tns ++ caps.map (·.2)) scope cl C s H ex E) ifs tt ∧ PE (X.comp (tns ++ caps.map (·.2)) scope cl C s H ex E) elt te)
    {pins : List (Addr × Obj)} {σ : St} {H : Hp} {s : Shared} {J : It} {fp : List Addr} {it : Addr} {tn : Nat → Heap → Prop} {cl : List (Str × Addr)} {Q : V → Hp → Prop} {RR : Value → Addr → Result → Shared → Prop}
    (I : Inv X pins σ H s) (T : Turn X.prog X.w X.K tg J fp it tn) (t0 : tn 0 s.heap) (hf : ∀ b ∈ fp, FpOk X pins H b)
    (hsub : ∀ x c, cl.lookup x = some c → X.env.cells.lookup x = some c) (hall : ∀ x, (x, NameKind.free) ∈ scope.names → ∃ c, cl.lookup x = some c)
    (W : Nat → Nat → List V → Hp → Prop) {m0 : Nat} (w0 : W 0 m0 [] H)
    (turn : ∀ i m ys H2, W i m ys H2 → ys.length ≤ sizeLine ∧
      ((J.stop i H2 ∧ ∀ p, H2 p = none → Q (.ref p) (upd H2 p (.lst ys))) ∨
      (J.go i H2 ∧ ∃ N : List V → Hp → Prop, (∀ ys' H', N ys' H' → ∃ m', m' < m ∧ W (i + 1) m' ys' H') ∧ ∀ x H3, J.yld i H2 x H3 → g x (compSt n caps σ) H3 fun σ4 H4 => tt σ4 H4 fun c H5 =>
        if c = true then te σ4 H5 fun v H6 => N (ys ++ [v]) H6 else N ys H5)))
    (hRR : ∀ D C ys H3 s', CompEnd X pins σ H3 D C ys s' → Q (.ref D) (upd H3 D (.lst ys)) → RR (.ref D) C (.ok .next) s') {E : Value → Shared → Prop} :
    wpAny (model X.prog X.w) X.A (newList []) (fun acc s₃ => wpAny (model X.prog X.w) X.A (newFunctionEnv scope X.env.globals cl [] X.env.qual none .none (some X.env)) (fun cenv s₄ =>
      codeAny (model X.prog X.w) X.A (.compStart (.ListComp elt [⟨tg, iter, ifs, 0⟩] scope pos) 0 (.ref it) acc { cenv with scope := relabel scope X.env }) (RR acc cenv.locals) s₄) E s₃) E s := by
  subst hsc
  subst hN0
  unfold compOk at ok
  simp only [Bool.and_eq_true, List.all_eq_true] at ok
  obtain ⟨⟨⟨⟨ok1, ok2⟩, ok3⟩, ok4⟩, ok5⟩ := ok
  have hkind : scope.kind = .function := by simpa using ok1
  have hcell : ∀ y ∈ scope.names, y.2 ≠ NameKind.cell := fun y hy => by simpa using ok2 y hy
  refine wpAny_newObj_type (wpAny_newFunctionEnv hcell (by intro y hy; simp at hy) (fun h₁ hns₁ hsb₁ => ?_) hkind)
  dsimp only at hns₁ hsb₁ ⊢
  generalize hH2 : s.heap.push { cls := .type "list", dict := none, data := .seq ([] : List Value).toArray } = H2 at hns₁ hsb₁ ⊢
  have hC : H2.objs.size = s.heap.objs.size + 1 := by rw [← hH2, Heap.size_push]
  have hDC : s.heap.objs.size ≠ H2.objs.size := by rw [hC]; exact Nat.ne_of_lt (Nat.lt_succ_self _)
  have hCle : s.heap.objs.size ≤ H2.objs.size := by rw [hC]; exact Nat.le_succ _
  have below : ∀ b, b < s.heap.objs.size → b ≠ H2.objs.size ∧ b ≠ s.heap.objs.size := fun b hb => ⟨by rw [hC]; exact Nat.ne_of_lt (Nat.lt_succ_of_lt hb), Nat.ne_of_lt hb⟩
  have old : ∀ b o, s.heap.get? b = some o → h₁.get? b = some o := fun b o e => hsb₁.extBut b o (below b (Heap.lt_size e)).1 (Heap.get?_push_of_some _ (hH2 ▸ Heap.get?_push_of_some _ e))
  have hacc : h₁.get? s.heap.objs.size = some { cls := .type "list", data := .seq ([] : List Value).toArray 0 } := hsb₁.extBut _ _ hDC (Heap.get?_push_of_some _ (hH2 ▸ Heap.get?_push_size _ rfl))
  have hst₁ : tn 0 h₁ := T.keep _ _ _ t0 fun b _ o e => old b o e
  -- addresses
  generalize hD : s.heap.objs.size = D at *
  generalize hCe : H2.objs.size = C at *
  have fpLt : ∀ b ∈ fp, b < D := fun b hb => by
    obtain ⟨o, e, _⟩ := T.obj _ _ t0 b hb
    rw [← hD]; exact Heap.lt_size e
  have cellLt : ∀ x c, cl.lookup x = some c → c < D := fun x c e => by
    obtain ⟨v, z⟩ := I.cell x c (hsub x c e)
    rw [← hD]; exact z.lt
  have hDlt : D < C := by omega
  let X' : Cx := X.comp (tns ++ caps.map (·.2)) scope cl C s H fp (notedBy (model X.prog X.w) X.A (compEnvC scope cl C X.env) fun e s' => RR (.ref D) C (.error e) s')
  have okX : X'.Ok := by
    refine ⟨I.ok.mod, hkind, I.ok.glob, I.ok.blt, by show s.heap.objs.size ≤ C; omega, fun x y c h1 h2 => I.ok.inj x y c (hsub x c h1) (hsub y c h2), fun x hx => ?_, fun x c hx => (by cases hx), I.ok.hd, I.ok.frames, .inl rfl, fun b hb => ?_, I.bs, Nat.le_trans I.ok.bsz I.sz, fun b o e hb => ?_, fun b hb hz => ?_, I.stack, I.stkFree⟩
    · have hx' : (relabel scope X.env).names.lookup x = some .cell ∨ (relabel scope X.env).names.lookup x = some .free := hx
      rcases hx' with z | z
      · exact hall x (relabel_out hcell z (.inl rfl))
      · exact hall x (relabel_out hcell z (.inr rfl))
    · refine ⟨Nat.ne_of_lt (Nat.lt_trans (fpLt b hb) hDlt), fun x c e z => ?_⟩
      exact (hf b hb).2.2.2.2.1 x c (hsub x c e) z
    · rcases (hf b hb).2.2.2.1 with z | z
      · exact I.ok.noex b o e z
      · exact absurd (Nat.lt_of_lt_of_le (Heap.lt_size e) (Nat.le_trans I.ok.bsz z)) (Nat.lt_irrefl _)
    · rcases List.mem_cons.mp (I.stkSub b hz) with z | z
      · exact (hf b hb).2.1 z
      · exact (hf b hb).2.2.1 z
  have lenc : (compSt n caps σ).length = (tns ++ caps.map (·.2)).length := by unfold compSt; simp [hn]
  have I1 : ∀ tk, Inv X' [] (compSt n caps σ) H { s with heap := h₁, toks := tk } := fun tk => by
    refine ⟨okX, rfl, I.bare, Un.kept old, ⟨_, hns₁, fun i x v e1 e2 e3 => ?_⟩, fun x c e => ?_, I.hok.fresh (by rw [hD]; exact Nat.le_of_lt hDlt), fun x c e => I.freeC x c (hsub x c e), fun p hp => absurd (show p ∈ ([] : List (Addr × Obj)) from hp) (by simp), I.hok.kept old, lenc⟩
    · have hi : n ≤ i := by
        by_cases h : n ≤ i
        · exact h
        · have e2' : (compSt n caps σ)[i]? = some (some v) := e2
          unfold compSt at e2'
          rw [List.getElem?_append_left (by simp; omega), List.getElem?_replicate] at e2'
          split at e2' <;> cases e2'
      have e2' : (compSt n caps σ)[i]? = some (some v) := e2
      unfold compSt at e2'
      rw [List.getElem?_append_right (by simpa using hi), List.length_replicate, List.getElem?_map] at e2'
      have e1' : (tns ++ caps.map (·.2))[i]? = some x := e1
      rw [List.getElem?_append_right (by rw [hn]; exact hi), hn, List.getElem?_map] at e1'
      cases hcp : caps[i - n]? with
      | none => rw [hcp] at e2'; cases e2'
      | some p =>
        rw [hcp] at e2' e1'
        simp only [Option.map_some, Option.some.injEq] at e2' e1'
        have hp5 := ok5 p (List.mem_of_getElem? hcp)
        simp only [beq_iff_eq] at hp5
        obtain ⟨⟨p1, p2⟩, p3⟩ := hp5
        have hσ : σ[p.1]? = some (some v) := by
          cases hq : σ[p.1]? with
          | none => rw [hq] at e2'; cases e2'
          | some o => rw [hq] at e2'; simp at e2'; rw [e2']
        subst e1'
        obtain ⟨m, hm, hl⟩ := I.loc
        obtain ⟨u, r, l⟩ := hl p.1 p.2 v p1 hσ (.inr (.inl p2))
        refine ⟨u, r, .inr ?_⟩
        rcases l with ⟨k, _⟩ | ⟨k, c, e, z⟩
        · have k' : X.env.scope.names.lookup p.2 = some .local := k
          rw [p2] at k'; cases k'
        · obtain ⟨c', e'⟩ := hall p.2 (PySem.mem_of_lookup p3)
          have := hsub _ _ e'
          rw [e] at this; cases this
          obtain ⟨o, ho, hd⟩ := z
          exact ⟨relabel_free (env := X.env) p3, c, e', ⟨o, old _ _ ho, hd⟩⟩
    · obtain ⟨v, o, ho, hd⟩ := I.cell x c (hsub x c e)
      exact ⟨v, o, old _ _ ho, hd⟩
  obtain ⟨hg, ht, he⟩ := hb cl C s H fp X'.xe
  have hg : PG X' tg g := hg
  have ht : PTs X' ifs tt := ht
  have he : PE X' elt te := he
  have FD : ∀ (H' : Hp) (obj : Obj), H' D = none → (∀ b ∈ fp, H' b = none) → ∀ b ∈ fp, FpOk X' [(D, obj)] H' b := fun H' obj hD' hn' b hb => by
    refine ⟨hn' b hb, Nat.ne_of_lt (Nat.lt_trans (fpLt b hb) hDlt), fun hz => ?_, .inl hb, fun x c e z => (hf b hb).2.2.2.2.1 x c (hsub x c e) z, fun p hp z => ?_⟩
    · exact okX.exfs b hb hz
    · have hp' : p = (D, obj) := by simpa using (show p ∈ [] ++ [(D, obj)] from hp)
      subst hp'
      have := fpLt b hb
      exact Nat.lt_irrefl b (by rw [← z] at this; exact absurd this (Nat.lt_irrefl _))
  have fsLt : ∀ b ∈ X'.fs, b < D := fun b hb => by
    obtain ⟨_, o, ho, _⟩ := I.stack.mem hb
    rw [← hD]; exact Heap.lt_size ho
  have loop : ∀ s₃ : Shared, (∃ tk, s₃ = { s with heap := h₁, toks := tk }) →
      codeAny (model X.prog X.w) X.A (.compLoop (.ListComp elt [⟨tg, iter, ifs, 0⟩] scope pos) 0 (.ref it) (.ref D) (compEnvC scope cl C X.env)) (RR (.ref D) C) s₃ := by
    rintro s₃ ⟨tk, rfl⟩
    refine compLoop_gen (env := compEnvC scope cl C X.env)
      (fun m s' => ∃ i H' ys its k, Inv X' [] (compSt n caps σ) H' s' ∧ tn i s'.heap ∧ (∀ b ∈ fp, H' b = none) ∧ s'.heap.get? D = some { cls := .type "list", data := .seq (List.toArray its) k } ∧ H' D = none ∧ Vals ys its ∧ W i m ys H') ?_ m0
      ⟨0, H, [], [], 0, I1 tk, hst₁, fun b hb => (hf b hb).1, hacc, I.hok.fresh (by rw [hD]; exact Nat.le_refl _), .nil, w0⟩
    rintro m s3 ⟨i, H3, ys, its, k, I3, st3, fr3, hL, hDn, rv, w3⟩
    have hne : D ≠ C := Nat.ne_of_lt hDlt
    have I3' : Inv X' [(D, { cls := .type "list", data := .seq (List.toArray its) k })] (compSt n caps σ) H3 s3 := I3.pins_of fun p hp => by
      have hp' : p = (D, { cls := .type "list", data := .seq (List.toArray its) k }) := by simpa using hp
      subst hp'
      exact ⟨hL, hDn, hne, fun hz => absurd (fsLt _ hz) (Nat.lt_irrefl _), fun v z => by cases z⟩
    obtain ⟨hz, cs⟩ := turn i m ys H3 w3
    rcases cs with ⟨stop, qn⟩ | ⟨go, NN, hNN, step⟩
    · refine thn (T.done X' rfl rfl rfl hc i _ s3 _ H3 X'.xe I3' (FD H3 _ hDn fr3) st3 stop) fun r s4 ⟨hr, I4⟩ => ?_
      subst hr
      have hL4 := (I4.pin (D, { cls := .type "list", data := .seq (List.toArray its) k }) (List.mem_append_right _ List.mem_cons_self)).1
      obtain ⟨mm, hnsC, _⟩ := id I4.loc
      refine hRR D C ys H3 s4 ⟨?_, hDn, ?_, mm, hnsC⟩ (qn D hDn)
      · refine I.call' (ch := fp) I4.os ?_ ?_ I4.bare fun b hb => ⟨(hf b hb).2.2.2.1, (hf b hb).2.1, (hf b hb).2.2.2.2.1, (hf b hb).2.2.2.2.2⟩
        · have u : Un (frs X.stack) fp H H3 s.heap s4.heap := I4.base
          refine ⟨u.keep, u.slot, fun b o e nn hx => ?_, u.there, fun b xs e => ?_, fun b o xs e => ?_, fun b ps e => ?_⟩
          · rw [upd_ne (Nat.ne_of_lt (show b < D by rw [← hD]; exact Heap.lt_size e))]; exact u.free b o e nn hx
          · have := u.tups b xs e
            rw [upd_ne (ne_of_none this hDn)]; exact this
          · have := u.frzs b o xs e
            rw [upd_ne (ne_of_none this hDn)]; exact this
          · obtain ⟨more, this⟩ := u.tbls b ps e
            exact ⟨more, by rw [upd_ne (ne_of_none this hDn)]; exact this⟩
        · intro a o e
          by_cases ha : a = D
          · subst ha
            rw [upd_same] at e; cases e
            exact ⟨hz, its, k, rv, hL4⟩
          · rw [upd_ne ha] at e
            exact (I4.hok a o e).stay (fun b u _ q => q) (fun b q => by rw [upd_ne (ne_of_none q hDn)]; exact q) fun b xs q => by rw [upd_ne (ne_of_none q hDn)]; exact q
      · refine ⟨by rw [upd_ne (Ne.symm hne)]; exact I4.free, Nat.ne_of_gt (Nat.lt_trans (show X.env.locals < D by rw [← hD]; exact I.lt) hDlt), fun hz => ?_, .inr (Nat.le_trans I.sz (Nat.le_of_lt (by rw [hD]; exact hDlt))), fun x c e z => ?_, fun p hp z => ?_⟩
        · obtain ⟨_, o, ho, _⟩ := I.ok.funs.mem hz
          exact absurd (Nat.lt_trans hDlt (show C < D from Nat.lt_of_lt_of_le (Heap.lt_size ho) (by rw [← hD]; exact I.sz))) (Nat.lt_irrefl _)
        · obtain ⟨v, q⟩ := I.cell x c e
          exact absurd (Nat.lt_trans hDlt (show C < D by rw [← hD, ← z]; exact q.lt)) (Nat.lt_irrefl _)
        · exact absurd (Nat.lt_trans hDlt (show C < D by rw [← hD, ← z]; exact Heap.lt_size (I.pin p hp).1)) (Nat.lt_irrefl _)
    · refine thn (T.item X' rfl rfl rfl hc i _ s3 _ H3 X'.xe I3' (FD H3 _ hDn fr3) st3 go) fun r s4 ⟨u, hr, h4⟩ => ?_
      subst hr
      refine thn h4 fun _ s5 ⟨x, H5, I5, r5, y5, st5, fr5⟩ => ?_
      have hD5 : H5 D = none := (I5.pin (D, { cls := .type "list", data := .seq (List.toArray its) k }) (List.mem_append_right _ List.mem_cons_self)).2.1
      have I5' := I5.pinned (FD H5 _ hD5 fr5) (T.obj _ _ st5)
      refine thn (hg _ s5 _ H5 x u _ I5' r5 (hG _ _ _ _ (step x H5 y5))) fun _ s6 ⟨σ6, H6, I6, q6, l6, k6⟩ => ?_
      refine thn (ht _ s6 σ6 H6 _ I6 q6) fun c s7 ⟨H7, I7, q7⟩ => ?_
      have wk : ∀ (j : Nat) v, (compSt n caps σ)[j]? = some (some v) → σ6[j]? = some (some v) := fun j v e => by
        by_cases hj : n ≤ j
        · rw [k6 j hj]; exact e
        · unfold compSt at e
          rw [List.getElem?_append_left (by simp; omega), List.getElem?_replicate] at e
          split at e <;> cases e
      have keepT : ∀ {h' : Heap}, (∀ b ∈ fp, ∀ o, s5.heap.get? b = some o → h'.get? b = some o) → tn (i + 1) h' := fun kk => T.keep _ _ _ st5 kk
      cases c with
      | false =>
        rw [if_neg Bool.false_ne_true] at q7
        rw [if_neg Bool.false_ne_true]
        obtain ⟨m', hm, w7⟩ := hNN _ _ q7
        refine ⟨m', hm, i + 1, H7, ys, its, k, ((I7.pins_of (pins' := []) fun p hp => by simp at hp).weak l6.symm wk), keepT fun b hb o e => (I7.pin (b, o) (List.mem_append_right _ (List.mem_append_right _ (mem_pinsAt hb e)))).1, fun b hb => ?_, (I7.pin (D, { cls := .type "list", data := .seq (List.toArray its) k }) (List.mem_append_right _ (List.mem_append_left _ List.mem_cons_self))).1, (I7.pin (D, { cls := .type "list", data := .seq (List.toArray its) k }) (List.mem_append_right _ (List.mem_append_left _ List.mem_cons_self))).2.1, rv, w7⟩
        obtain ⟨o, e, _⟩ := T.obj _ _ st5 b hb
        exact (I7.pin (b, o) (List.mem_append_right _ (List.mem_append_right _ (mem_pinsAt hb e)))).2.1
      | true =>
        rw [if_pos rfl] at q7
        rw [if_pos rfl]
        refine thn (he _ s7 σ6 H7 _ I7 q7) fun v8 s8 ⟨y8, H8, I8, r8, n8⟩ => ?_
        obtain ⟨m', hm, w8⟩ := hNN _ _ n8
        have hL8 := (I8.pin (D, { cls := .type "list", data := .seq (List.toArray its) k }) (List.mem_append_right _ (List.mem_append_left _ List.mem_cons_self))).1
        have hD8 := (I8.pin (D, { cls := .type "list", data := .seq (List.toArray its) k }) (List.mem_append_right _ (List.mem_append_left _ List.mem_cons_self))).2.1
        refine call_meets F.slot_list_append ⟨_, hL8, rfl⟩ F.entry_list_append (F.args_list_append_2 _ _) (PySem.list_append D (List.toArray its) k v8 (by rw [List.size_toArray, ← rv.length]; exact hz)) ⟨hL8, ?_⟩
        have q := PySem.IsL.update hL8 (·.push v8)
        have I9 : Inv X' (pinsAt fp s5.heap) σ6 H8 s8 := I8.pins_of fun p hp => I8.pin p (List.mem_append_right _ (List.mem_append_right _ hp))
        have I10 := I9.turned (t' := s8.toks) (h' := s8.heap.update D (Obj.mapSeq (·.push v8))) (it := D) (fun b o hb' e => (Heap.get?_update_other s8.heap _ (Ne.symm hb')).trans e) hD8 hne (.inr (by show s.heap.objs.size ≤ D; omega))
          (fun x c e => Nat.ne_of_lt (cellLt x c e)) (fun p hp z => by
            have hp' : p ∈ pinsAt fp s5.heap := (List.mem_append.mp hp).elim (fun q => absurd (show p ∈ ([] : List (Addr × Obj)) from q) (by simp)) id
            have := fpLt p.1 (of_pinsAt hp').1
            rw [z] at this
            exact absurd this (Nat.lt_irrefl _))
        refine ⟨m', hm, i + 1, H8, ys ++ [y8], its ++ [v8], (if (its ++ [v8]).toArray.size == (List.toArray its).size then k else k + 1), ((I10.pins_of (pins' := []) fun p hp => by simp at hp).weak l6.symm wk), keepT fun b hb o e => (I10.pin (b, o) (List.mem_append_right _ (mem_pinsAt hb e))).1, fun b hb => ?_, ?_, hD8, rv.append (.cons r8 .nil), w8⟩
        · obtain ⟨o, e, _⟩ := T.obj _ _ st5 b hb
          exact (I10.pin (b, o) (List.mem_append_right _ (mem_pinsAt hb e))).2.1
        · have e : (List.toArray its).push v8 = (its ++ [v8]).toArray := by simp
          have q' : (s8.heap.update D (Obj.mapSeq (·.push v8))).get? D = some { cls := .type "list", data := .seq ((List.toArray its).push v8) (if ((List.toArray its).push v8).size == (List.toArray its).size then k else k + 1) } := q
          rw [e] at q'
          exact q'
  exact codeAny_compStart_list (loop _ ⟨_, rfl⟩) (T.self _ 0 _ _ _ hst₁ (loop _ ⟨_, rfl⟩))

/-- [e for t in i if c] -/
theorem pe_comp (sc : Scope) (N0 : List Str) (tns : List Str) (caps : List (Nat × Str)) (hc : X.calm = true) (hi : PI X tg iter wi) (hG : GKeep tns.length g)
    (hb : ∀ cl C s H ex E, PG (X.comp (tns ++ caps.map (·.2)) scope cl C s H ex E) tg g ∧ PTs (X.comp (tns ++ caps.map (·.2)) scope cl C s H ex E) ifs tt ∧ PE (X.comp (tns ++ caps.map (·.2)) scope cl C s H ex E) elt te)
    (hsc : X.env.scope = sc := by rfl) (hN0 : X.N = N0 := by rfl) (ok : compOk sc scope N0 tns caps = true := by decide +kernel)
    (hs : ∀ x, foldedSetIterable iter X.env x = pure x := by intro _; rfl) :
    PE X (.ListComp elt [⟨tg, iter, ifs, 0⟩] scope pos) (tComp tns.length caps wi g tt te) := by
  intro pins s σ H Q I h
  have ok' := ok
  unfold compOk at ok'
  simp only [Bool.and_eq_true, List.all_eq_true] at ok'
  obtain ⟨⟨⟨⟨ok1, ok2⟩, ok3⟩, ok4⟩, ok5⟩ := ok'
  obtain ⟨cl, ecl, hsub, hall⟩ := clos_of (scope := scope) (env := X.env) fun x hx hfr => by
    have := ok4 x hx
    rw [hfr] at this
    have z : sc.names.lookup x.1 = some .cell := by simpa using this
    exact I.ok.has x.1 (.inl (by show X.env.scope.names.lookup x.1 = _; rw [hsc]; exact z))
  rw [eval_ListComp]
  refine wpAny_comprehension_free (use := none) rfl hs ecl (by simpa using ok1) (fun x hx hl => by have := ok3 x hx; rw [hl] at this; simpa using this) (thn (hi pins s σ H _ I h) fun xv s₁ h₁ => thn h₁ fun itv s₂ h₂ => ?_)
  obtain ⟨it, fp, tn, J, H', rfl, I2, T, st2, f2, W, ⟨m0, w0⟩, turn⟩ := h₂
  refine comp_block (RR := fun acc C => compPost (model X.prog X.w) X.A X.xe none (EP X pins σ Q) acc C) hc hsc hN0 ok rfl hG hb I2 T st2 f2 hsub hall W w0 turn ?_
  intro D C ys H3 s' ce q
  obtain ⟨mm, hns⟩ := ce.ns
  refine ⟨mm, hns, fun h' hs' => ⟨.ref D, _, ?_, rfl, q⟩⟩
  obtain ⟨c0, c1, c2, c3, c4, c5⟩ := ce.fp
  exact ce.inv.turned (t' := s'.toks) (fun b o hb' e => (hs'.extBut b o hb' e)) c0 c1 c3 c4 c5

/-- x = [e for t in i if c] -/
theorem ps_comp {x : Str} {px spos : Pos} (j : Nat) (sc : Scope) (N0 : List Str) (tns : List Str) (caps : List (Nat × Str)) (hc : X.calm = true) (hN : X.N.Nodup) (hj : X.N[j]? = some x) (hx : X.env.scope.names.lookup x = some .local) (hi : PI X tg iter wi) (hG : GKeep tns.length g)
    (hb : ∀ cl C s H ex E, PG (X.comp (tns ++ caps.map (·.2)) scope cl C s H ex E) tg g ∧ PTs (X.comp (tns ++ caps.map (·.2)) scope cl C s H ex E) ifs tt ∧ PE (X.comp (tns ++ caps.map (·.2)) scope cl C s H ex E) elt te)
    (hsc : X.env.scope = sc := by rfl) (hN0 : X.N = N0 := by rfl) (ok : compOk sc scope N0 tns caps = true := by decide +kernel)
    (hsw : swapsWith (.ListComp elt [⟨tg, iter, ifs, 0⟩] scope pos) (some (.Name x px)) spos.line X.env = pure true := by rfl)
    (hs : ∀ x, foldedSetIterable iter X.env x = pure x := by intro _; rfl) :
    PS X (.Assign [.Name x px] (.ListComp elt [⟨tg, iter, ifs, 0⟩] scope pos) spos) (tAsg (tComp tns.length caps wi g tt te) (gName j)) := by
  intro pins s σ H D I h
  have ok' := ok
  unfold compOk at ok'
  simp only [Bool.and_eq_true, List.all_eq_true] at ok'
  obtain ⟨⟨⟨⟨ok1, ok2⟩, ok3⟩, ok4⟩, ok5⟩ := ok'
  obtain ⟨cl, ecl, hsub, hall⟩ := clos_of (scope := scope) (env := X.env) fun x hx hfr => by
    have := ok4 x hx
    rw [hfr] at this
    have z : sc.names.lookup x.1 = some .cell := by simpa using this
    exact I.ok.has x.1 (.inl (by show X.env.scope.names.lookup x.1 = _; rw [hsc]; exact z))
  rw [exec_Assign_Name_used _ _ _ _ hsw]
  refine wpAny_bind (wpAny_standAt (wpAny_bind ?_))
  show wpAny _ _ (do let _ ← comprehension (.ListComp elt [⟨tg, iter, ifs, 0⟩] scope pos) scope X.env _ (newList []) false (eval iter X.env) (some (assign (.Name x px) X.env))) _ _ s
  refine wpAny_bind (thn (wpAny_comprehension_free (use := some (assign (.Name x px) X.env)) (Q := fun _ s' => SP X pins D .next s') rfl hs ecl (by simpa using ok1) (fun x hx hl => by have := ok3 x hx; rw [hl] at this; simpa using this)
    (thn (hi pins s σ H _ I h) fun xv s₁ h₁ => thn h₁ fun itv s₂ h₂ => ?_)) fun _ s' hq => wpAny_pure (wpAny_pure hq))
  obtain ⟨it, fp, tn, J, H', rfl, I2, T, st2, f2, W, ⟨m0, w0⟩, turn⟩ := h₂
  refine comp_block (Q := fun v H1 => gName j v σ H1 D.nx) (RR := fun acc C => compPost (model X.prog X.w) X.A X.xe (some (assign (.Name x px) X.env)) (fun _ s' => SP X pins D .next s') acc C) hc hsc hN0 ok rfl hG hb I2 T st2 f2 hsub hall W w0 turn ?_
  intro DD C ys H3 s' ce q
  obtain ⟨mm, hns⟩ := ce.ns
  obtain ⟨c0, c1, c2, c3, c4, c5⟩ := ce.fp
  show wpAny _ _ (assign (.Name x px) X.env (.ref DD)) _ _ _
  refine wpAny_assign_Name (store_ok2 ce.inv hN hj (.inl hx) (v := .ref DD) rfl (fun s2 I2 chg => ?_) (.inr hx))
  obtain ⟨c, hsb, hcc⟩ := chg
  have hCc : C ≠ c := by
    rcases hcc with z | z
    · rw [z]; exact c1
    · exact fun e => c4 x c z e.symm
  refine ⟨mm, ?_, fun h' hs' => ?_⟩
  · obtain ⟨o, es, ep, ho, r⟩ := hns
    exact ⟨o, es, ep, (hsb.2 C hCc).trans ho, r⟩
  · exact ⟨_, _, I2.turned (t' := s2.toks) (fun b o hb' e => (hs'.extBut b o hb' e)) c0 c1 c3 c4 c5, q⟩
end

/-! ### the forms one uses -/
section
variable {K : PySem.W.Frag} {a : Addr} {xs : List V} {n : Nat} {caps : List (Nat × Str)} {g : TG} {tt : TT} {te : TE} {σ : St} {H : Hp} {Q : V → Hp → Prop}
theorem comp_list (Pv : Nat → List V → Hp → Prop) (h0 : Pv 0 [] H) (hl : ∀ i ys H, i ≤ xs.length → Pv i ys H → SqL K H a xs ∧ ys.length ≤ sizeLine)
    (hs : ∀ i x ys H, xs[i]? = some x → Pv i ys H → g x (compSt n caps σ) H fun σ4 H4 => tt σ4 H4 fun c H5 => if c = true then te σ4 H5 fun v H6 => Pv (i + 1) (ys ++ [v]) H6 else Pv (i + 1) ys H5)
    (hd : ∀ ys H p, Pv xs.length ys H → H p = none → Q (.ref p) (upd H p (.lst ys))) :
    CompGo n caps g tt te σ Q (Itl K a) H := by
  refine ⟨fun i m ys H => m = xs.length - i ∧ i ≤ xs.length ∧ Pv i ys H, ⟨xs.length, by simp, Nat.zero_le _, h0⟩, ?_⟩
  rintro i m ys H2 ⟨rfl, hi, p⟩
  obtain ⟨q, hz⟩ := hl i ys H2 hi p
  refine ⟨hz, ?_⟩
  by_cases hlt : i < xs.length
  · refine .inr ⟨⟨xs, xs[i], q, by simp [hlt]⟩, Pv (i + 1), fun ys' H' p' => ⟨xs.length - (i + 1), by omega, rfl, hlt, p'⟩, fun x H' y => ?_⟩
    obtain ⟨e, y⟩ := y
    subst e
    exact hs i x ys _ (y xs q) p
  · have e : i = xs.length := by omega
    subst e
    exact .inl ⟨⟨xs, q, Nat.le_refl _⟩, fun p' hp' => hd ys H2 p' p hp'⟩
theorem comp_range {lo : Int} {k : Nat} (Pv : Nat → List V → Hp → Prop) (h0 : Pv 0 [] H) (hl : ∀ i ys H, i ≤ k → Pv i ys H → ys.length ≤ sizeLine)
    (hs : ∀ i ys H, i < k → Pv i ys H → g (.int (lo + i)) (compSt n caps σ) H fun σ4 H4 => tt σ4 H4 fun c H5 => if c = true then te σ4 H5 fun v H6 => Pv (i + 1) (ys ++ [v]) H6 else Pv (i + 1) ys H5)
    (hd : ∀ ys H p, Pv k ys H → H p = none → Q (.ref p) (upd H p (.lst ys))) :
    CompGo n caps g tt te σ Q (Itr lo k) H := by
  refine ⟨fun i m ys H => m = k - i ∧ i ≤ k ∧ Pv i ys H, ⟨k, by simp, Nat.zero_le _, h0⟩, ?_⟩
  rintro i m ys H2 ⟨rfl, hi, p⟩
  refine ⟨hl i ys H2 hi p, ?_⟩
  by_cases hlt : i < k
  · refine .inr ⟨hlt, Pv (i + 1), fun ys' H' p' => ⟨k - (i + 1), by omega, rfl, hlt, p'⟩, fun x H' y => ?_⟩
    obtain ⟨e, y⟩ := y
    subst e y
    exact hs i ys _ hlt p
  · have e : i = k := by omega
    subst e
    exact .inl ⟨Nat.le_refl _, fun p' hp' => hd ys H2 p' p hp'⟩
end

/-! ### rules whose reading names the written part: for use within a block -/
section
variable {X : Cx} {pos : Pos}
def rListOf (K : PySem.W.Frag) : List V → Hp → VK → Prop := fun xs H Q => ∃ p ys, xs = [.ref p] ∧ (SqL K H p ys ∨ SqT K H p ys) ∧ ∀ l, H l = none → Q (.ref l) (upd H l (.lst ys))
def rLenOf (K : PySem.W.Frag) : List V → Hp → VK → Prop := fun xs H Q => ∃ p ys, xs = [.ref p] ∧ (SqL K H p ys ∨ SqT K H p ys) ∧ Q (.int ys.length) H
theorem call_list_ofK (K : PySem.W.Frag) (h : X.K = K) : CallR X (.type "list") (rListOf K) := by subst h; exact call_list_of
theorem call_len_seqK (K : PySem.W.Frag) (h : X.K = K) : CallR X (.builtin "len") (rLenOf K) := by subst h; exact call_len_seq
end
end L2

/-! ### defs in a bundle, plain data at values, == and != of plain data -/
namespace L2
open PySem PySem.Spec PyProof.Rows

/-- a def that stands at a global name -/
structure Fn (P : Program) (w : World) (K : PySem.W.Frag) (mg : Str → Option Value) (base : Heap) (k : Nat) (x : Str) (ps : List Str) (sp : Sp) : Prop where
  ex : ∃ f fd, FnOk P w K mg base CX0 k f fd ps sp ∧ Binds K fd ps [] ∧ PySem.W.keepIn K (.ref f) = true ∧ mg x = some (.ref f)
section
variable {X : Cx} {k j : Nat} {x : Str} {ps : List Str} {sp : Sp} {e : Expr} {es : List Expr} {t : TA} {p pos : Pos}
theorem pe_fn (G : Fn X.prog X.w X.K X.mg X.base k x ps sp) (hr : Room j X.A) (hj : k ≤ j) (ha : PA X (e :: es) t) (hg : Gl X x := by rfl) (hdb : (x == ("__debug__" : Str)) = false := by decide)
    (he : starEach (e :: es) X.env = (false, eval e X.env) :: starEach es X.env := by rfl) (hpl : (backTo pos (starEach es X.env)).any (·.1) = false := by rfl) :
    PE X (.Call (.Name x p) (e :: es) [] pos) (tCall sp [] E0 t) := by
  obtain ⟨f, fd, F, b, kp, m⟩ := G.ex
  exact pe_call F (hr.mono hj) hg m kp b .nil pass0 ha hdb he hpl
end

/-- a def of the text as it stands behind the top, at its name -/
def Def (K : PySem.W.Frag) (mg : Str → Option Value) (x : Str) (st : Stmt) (ps : List Str) : Prop := ∃ f fd, Fun K x x st f fd ∧ Binds K fd ps [] ∧ mg x = some (.ref f)
theorem fn_mk {P : Program} {w : World} {K : PySem.W.Frag} {mg : Str → Option Value} {base : Heap} {x : Str} {st : Stmt} {N ps : List Str} {k : Nat} {sp : Sp} (D : Def K mg x st ps) (S : FnScope N ps (defScope st)) (len : ∀ vs H Q E, sp vs H Q E → vs.length = ps.length)
    (hbody : ∀ (f : Addr) (cdv : Value) (A : Around) (outer : List Env) (s : Shared) (H : Hp) (vs : List V) (Q : VK) (E : XK), Room k (A.deeper (envOfC x (defScope st) s.heap.objs.size f cdv)) → sp vs H Q E →
      ∃ t, PSs (cxOf CX0 P w K mg base N x (defScope st) f cdv A outer s H E).nox (defBody st) t ∧ t { nx := fun _ H' => Q .non H', rt := Q } (start N vs) H) : Fn P w K mg base (k + 1) x ps sp := by
  obtain ⟨f, fd, F, b, m⟩ := D
  exact ⟨f, fd, F.ok S len (hbody f), b, F.kp, m⟩
theorem le_hu {a d c : Nat} (h : d ≤ 8) (hu : a + 8 < c) : a + d < c := by omega

theorem same_new {H : Hp} {p : Addr} (h : H p = none) (o : HO) : Same H (upd H p o) := fun b u q => by rw [upd_ne (ne_of_none q h)]; exact q
theorem Same.own {H H2 : Hp} {p : Addr} (s : Same H H2) (h : H p = none) (o : HO) : Same H (upd H2 p o) := fun b u q => by rw [upd_ne (ne_of_none q h)]; exact s b u q
theorem Same.new {H H2 : Hp} {p : Addr} (s : Same H H2) (h : H2 p = none) (o : HO) : Same H (upd H2 p o) := s.trans (same_new h o)
theorem hu8 {A : Around} {k : Nat} (hr : Room k A) : A.units + 8 < cLine := Nat.lt_of_le_of_lt (Nat.add_le_add_left (by decide : 8 ≤ 64) _) hr.units

/-! plain data at a value -/
abbrev Enc (α : Type) := PySem.W.Frag → Hp → V → α → Prop
def rInt : Enc Int := fun _ _ v i => v = .int i
def rL {α : Type} (r : Enc α) : Enc (List α) := fun K H v as => ∃ a xs, v = .ref a ∧ SqL K H a xs ∧ Paired (r K H) xs as
def rT2 {α β : Type} (r : Enc α) (q : Enc β) : Enc (α × β) := fun K H v p => ∃ a x y, v = .ref a ∧ SqT K H a [x, y] ∧ r K H x p.1 ∧ q K H y p.2

theorem Paired.getL {α β : Type} {F : α → β → Prop} : ∀ {l : List α} {m : List β} {i : Nat} {a : α}, Paired F l m → l[i]? = some a → ∃ b, m[i]? = some b ∧ F a b
  | _, _, _, _, .nil, e => by simp at e
  | _, _, 0, _, .cons r _, e => by simp at e; subst e; exact ⟨_, rfl, r⟩
  | _, _, i + 1, a, .cons _ t, e => by
    obtain ⟨b, h1, h2⟩ := Paired.getL (i := i) (a := a) t (by simpa using e)
    exact ⟨b, by simpa using h1, h2⟩
theorem Paired.getR {α β : Type} {F : α → β → Prop} : ∀ {l : List α} {m : List β} {i : Nat} {b : β}, Paired F l m → m[i]? = some b → ∃ a, l[i]? = some a ∧ F a b
  | _, _, _, _, .nil, e => by simp at e
  | _, _, 0, _, .cons r _, e => by simp at e; subst e; exact ⟨_, rfl, r⟩
  | _, _, i + 1, b, .cons _ t, e => by
    obtain ⟨a, h1, h2⟩ := Paired.getR (i := i) (b := b) t (by simpa using e)
    exact ⟨a, by simpa using h1, h2⟩
theorem Paired.len {α β : Type} {F : α → β → Prop} {l : List α} {m : List β} (h : Paired F l m) : l.length = m.length := Paired.length h
theorem Paired.app {α β : Type} {F : α → β → Prop} : ∀ {l l' : List α} {m m' : List β}, Paired F l m → Paired F l' m' → Paired F (l ++ l') (m ++ m')
  | _, _, _, _, .nil, h => h
  | _, _, _, _, .cons r t, h => .cons r (Paired.app t h)
theorem paired_ints (ns : List Int) : ∀ {K : PySem.W.Frag} {H : Hp}, Paired (rInt K H) (ns.map V.int) ns := by
  intro K H
  induction ns with
  | nil => exact .nil
  | cons n r ih => exact .cons rfl ih
/-- == is equality of the data; d: how deep it goes -/
structure EqOk {α : Type} [DecidableEq α] (r : Enc α) (d : Nat) : Prop where
  uniq : ∀ {X : Cx} {pins : List (Addr × Obj)} {σ : St} {H : Hp} {s : Shared} {x : V} {a b : α}, Inv X pins σ H s → r X.K H x a → r X.K H x b → a = b
  eq : ∀ {X : Cx} {pins : List (Addr × Obj)} {σ : St} {H : Hp} {s : Shared} {x y : V} {v u : Value} {a b : α} {A : Around}, Inv X pins σ H s → RelV x v → RelV y u → r X.K H x a → r X.K H y b → A.units + d < cLine → SeqAt.EqAt A s v u (decide (a = b))
  rc : ∀ {X : Cx} {pins : List (Addr × Obj)} {σ : St} {H : Hp} {s : Shared} {x y : V} {v u : Value} {a b : α} {A : Around}, Inv X pins σ H s → RelV x v → RelV y u → r X.K H x a → r X.K H y b → A.units + d < cLine → SeqAt.RcAt A s v u (decide (a = b))
  ne : ∀ {X : Cx} {pins : List (Addr × Obj)} {σ : St} {H : Hp} {s : Shared} {x y : V} {v u : Value} {a b : α} {A : Around}, Inv X pins σ H s → RelV x v → RelV y u → r X.K H x a → r X.K H y b → A.units + d < cLine → SeqAt.RcNeAt A s v u (!decide (a = b))
  keep : ∀ {K : PySem.W.Frag} {H H' : Hp} {x : V} {a : α}, Same H H' → r K H x a → r K H' x a

theorem EqOk.up {α : Type} [DecidableEq α] {r : Enc α} {d e : Nat} (E : EqOk r d) (h : d ≤ e) : EqOk r e :=
  ⟨E.uniq, fun I rx ry h1 h2 hu => E.eq I rx ry h1 h2 (by omega), fun I rx ry h1 h2 hu => E.rc I rx ry h1 h2 (by omega), fun I rx ry h1 h2 hu => E.ne I rx ry h1 h2 (by omega), E.keep⟩
theorem in1_units (A : Around) : A.in1.units = A.units + 1 := rfl
theorem dec_i {a b : Int} : (a == b) = decide (a = b) := by rw [Bool.eq_iff_iff]; simp
theorem eq_int : EqOk rInt 0 where
  uniq := fun _ h1 h2 => by
    have h1' : _ = V.int _ := h1
    have h2' : _ = V.int _ := h2
    rw [h1'] at h2'; injection h2'
  eq := fun {X pins σ H s x y v u a b A} I rx ry h1 h2 _ => by
    have h1' : x = V.int a := h1
    have h2' : y = V.int b := h2
    subst h1' h2'
    obtain ⟨t, rfl⟩ := rx
    obtain ⟨t', rfl⟩ := ry
    rw [← dec_i]; exact SeqAt.EqAt.int_int a t b t'
  rc := fun {X pins σ H s x y v u a b A} I rx ry h1 h2 _ => by
    have h1' : x = V.int a := h1
    have h2' : y = V.int b := h2
    subst h1' h2'
    obtain ⟨t, rfl⟩ := rx
    obtain ⟨t', rfl⟩ := ry
    rw [← dec_i]; exact SeqAt.RcAt.int_int a t b t'
  ne := fun {X pins σ H s x y v u a b A} I rx ry h1 h2 _ => by
    have h1' : x = V.int a := h1
    have h2' : y = V.int b := h2
    subst h1' h2'
    obtain ⟨t, rfl⟩ := rx
    obtain ⟨t', rfl⟩ := ry
    rw [← dec_i]; exact SeqAt.RcNeAt.int_int a t b t'
  keep := fun _ h => h

theorem all_dec {α : Type} [DecidableEq α] {as bs : List α} (h : as.length = bs.length) : (List.range as.length).all (fun j => decide (as[j]? = bs[j]?)) = decide (as = bs) := by
  rw [Bool.eq_iff_iff]
  simp only [List.all_eq_true, List.mem_range, decide_eq_true_eq]
  constructor
  · intro hh
    apply List.ext_getElem?
    intro i
    by_cases hi : i < as.length
    · exact hh i hi
    · rw [List.getElem?_eq_none (by omega), List.getElem?_eq_none (by omega)]
  · rintro rfl; intros; rfl

theorem Paired.uniq {α β : Type} {F : α → β → Prop} (hu : ∀ a b c, F a b → F a c → b = c) : ∀ {l : List α} {m m' : List β}, Paired F l m → Paired F l m' → m = m'
  | _, _, _, .nil, .nil => rfl
  | _, _, _, .cons r t, .cons r' t' => by rw [hu _ _ _ r r', Paired.uniq hu t t']
theorem Paired.imp2 {α β : Type} {F G : α → β → Prop} (h : ∀ a b, F a b → G a b) : ∀ {l : List α} {m : List β}, Paired F l m → Paired G l m
  | _, _, .nil => .nil
  | _, _, .cons r t => .cons (h _ _ r) (Paired.imp2 h t)

section
variable {α : Type} [DecidableEq α] {r : Enc α} {d : Nat}
theorem list_items (E : EqOk r d) {X : Cx} {pins : List (Addr × Obj)} {σ : St} {H : Hp} {s : Shared} {A : Around} (I : Inv X pins σ H s) (hu : A.units + (d + 1) < cLine) {xs ys : List V} {as bs : List α} {its its2 : List Value}
    (r1 : Vals xs its) (r2 : Vals ys its2) (p1 : Paired (r X.K H) xs as) (p2 : Paired (r X.K H) ys bs) :
    ∀ j (h1 : j < its.toArray.size) (h2 : j < its2.toArray.size), SeqAt.EqAt A.in1 s its.toArray[j] its2.toArray[j] (decide (as[j]? = bs[j]?)) := by
  intro j h1 h2
  have h1' : j < its.length := by simpa using h1
  have h2' : j < its2.length := by simpa using h2
  obtain ⟨x, ex, rx⟩ := Paired.getR (i := j) (b := its[j]) r1 (by simp [h1'])
  obtain ⟨y, ey, ry⟩ := Paired.getR (i := j) (b := its2[j]) r2 (by simp [h2'])
  obtain ⟨a, ea, ra⟩ := Paired.getL p1 ex
  obtain ⟨b, eb, rb⟩ := Paired.getL p2 ey
  have := E.eq (A := A.in1) I rx ry ra rb (by rw [in1_units]; omega)
  rw [ea, eb]
  simpa using this
theorem eq_list (E : EqOk r d) : EqOk (rL r) (d + 1) := by
  have un : ∀ {X : Cx} {pins : List (Addr × Obj)} {σ : St} {H : Hp} {s : Shared} {x : V} {a b : List α}, Inv X pins σ H s → rL r X.K H x a → rL r X.K H x b → a = b := by
    intro X pins σ H s x as bs I h1 h2
    obtain ⟨a, xs, rfl, q1, p1⟩ := h1
    obtain ⟨b, ys, e, q2, p2⟩ := h2
    cases e
    cases I.list_inj q1 q2
    exact Paired.uniq (F := r X.K H) (fun _ _ _ z z' => E.uniq I z z') p1 p2
  have rc : ∀ {X : Cx} {pins : List (Addr × Obj)} {σ : St} {H : Hp} {s : Shared} {x y : V} {v u : Value} {a b : List α} {A : Around}, Inv X pins σ H s → RelV x v → RelV y u → rL r X.K H x a → rL r X.K H y b → A.units + (d + 1) < cLine → SeqAt.RcAt A s v u (decide (a = b)) := by
    intro X pins σ H s x y v u as bs A I rx ry h1 h2 hu
    obtain ⟨a, xs, rfl, q1, p1⟩ := h1
    obtain ⟨b, ys, rfl, q2, p2⟩ := h2
    cases rx; cases ry
    obtain ⟨its, r1, l1, _⟩ := I.list q1
    obtain ⟨its2, r2, l2, _⟩ := I.list q2
    have n1 := r1.length
    have n2 := r2.length
    have m1 := Paired.len p1
    have m2 := Paired.len p2
    by_cases hl : as.length = bs.length
    · have := SeqAt.RcAt.lists (A := A) (e := fun j => decide (as[j]? = bs[j]?)) l1.isList l2.isList (by simp only [List.size_toArray]; omega) (by omega) (list_items E I hu r1 r2 p1 p2)
      rw [show its.toArray.size = as.length by simp only [List.size_toArray]; omega, all_dec hl] at this
      exact this
    · rw [decide_eq_false (fun e => hl (congrArg List.length e))]
      exact SeqAt.RcAt.lists_lengths l1.isList l2.isList (by simp only [List.size_toArray, bne_iff_ne]; omega) (by omega)
  refine ⟨un, ?_, rc, ?_, ?_⟩
  · intro X pins σ H s x y v u as bs A I rx ry h1 h2 hu
    obtain ⟨a, xs, rfl, q1, p1⟩ := id h1
    obtain ⟨b, ys, rfl, q2, p2⟩ := id h2
    have R := rc (A := A) I rx ry h1 h2 hu
    cases rx; cases ry
    by_cases e : a = b
    · subst e
      rw [decide_eq_true (un I h1 h2)]
      exact SeqAt.EqAt.same _
    · exact SeqAt.EqAt.of_refs e R
  · intro X pins σ H s x y v u as bs A I rx ry h1 h2 hu
    obtain ⟨a, xs, rfl, q1, p1⟩ := h1
    obtain ⟨b, ys, rfl, q2, p2⟩ := h2
    cases rx; cases ry
    obtain ⟨its, r1, l1, _⟩ := I.list q1
    obtain ⟨its2, r2, l2, _⟩ := I.list q2
    have n1 := r1.length
    have n2 := r2.length
    have m1 := Paired.len p1
    have m2 := Paired.len p2
    by_cases hl : as.length = bs.length
    · have := SeqAt.RcNeAt.lists (A := A) (e := fun j => decide (as[j]? = bs[j]?)) l1.isList l2.isList (by simp only [List.size_toArray]; omega) (by omega) (list_items E I hu r1 r2 p1 p2)
      rw [show its.toArray.size = as.length by simp only [List.size_toArray]; omega, all_dec hl] at this
      exact this
    · rw [decide_eq_false (fun e => hl (congrArg List.length e))]
      exact SeqAt.RcNeAt.lists_lengths l1.isList l2.isList (by simp only [List.size_toArray, bne_iff_ne]; omega) (by omega)
  · intro K H H' x as e h
    obtain ⟨a, xs, rfl, q1, p1⟩ := h
    exact ⟨a, xs, rfl, e.seq q1, Paired.imp2 (fun _ _ z => E.keep e z) p1⟩
end

section
variable {α β : Type} [DecidableEq α] [DecidableEq β] {r : Enc α} {q : Enc β} {d : Nat}
end

section
variable {X : Cx} {α : Type} [DecidableEq α] {r : Enc α} {d : Nat}
def rNeE (K : PySem.W.Frag) (r : Enc α) : R2 := fun x y H Q => ∃ a b, r K H x a ∧ r K H y b ∧ Q (.bl (!decide (a = b))) H
theorem op_neE (E : EqOk r d) (hu : X.A.units + d < cLine) : OpR X (compareOp .NotEq) (rNeE X.K r) := by
  intro pins s σ H x y v u Q I rx ry h
  obtain ⟨a, b, h1, h2, q⟩ := h
  exact E.ne (A := X.A) I rx ry h1 h2 hu _ _ _ _ ⟨.bl _, H, I, rfl, q⟩
/-- isinstance(x, T), T a built-in type -/
theorem call_isinst : CallR X (.builtin "isinstance") (fun xs H Q => ∃ x n t b, xs = [x, .ty n] ∧ TyOf X.K H x t ∧ PySem.W.kitOne X.K t (.type n) = some b ∧ Q (.bl b) H) := by
  intro pins s σ H xs us Q I r h
  obtain ⟨x, n, t, b, rfl, ty, e, q⟩ := h
  obtain ⟨u, v, rfl, ru, rv⟩ := Vals.two r
  cases (show v = Value.type n from rv)
  exact isinst_ok I ru ty e fun tk => ⟨.bl b, H, I.tok tk, rfl, q⟩
/-- // by a number of many figures -/
theorem op_fdivB : OpR X (binaryOp .FloorDiv) (rI (fun _ j => 0 < j ∧ j.natAbs.log2 < 9000) fun i j => .int (i / j)) := opI fun i j _ _ _ _ _ hc q => by
  refine floordiv_int (by omega) ?_ (.inl (PyProof.noPylong_of_log2 hc.2))
  rw [Int.fdiv_eq_ediv_of_nonneg i (by omega)]
  exact q
end
end L2

/-! ### list(reversed(xs)), xs[::-1], sum(xs) -/
namespace PySem
open Sem (wp)
section
variable {prog : Program} {w : World} {A : Around} {E : Value → Shared → Prop} {s : Shared}
end
end PySem
namespace L2
open PySem PySem.Spec PyProof.Rows
theorem PairedR {α β : Type} {F : α → β → Prop} : ∀ {l : List α} {m : List β} {i : Nat} {b : β}, Paired F l m → m[i]? = some b → ∃ a, l[i]? = some a ∧ F a b
  | _, _, _, _, .nil, e => by simp at e
  | _, _, 0, _, .cons r _, e => by simp at e; subst e; exact ⟨_, rfl, r⟩
  | _, _, i + 1, b, .cons _ t, e => by
    obtain ⟨a, h1, h2⟩ := PairedR (i := i) (b := b) t (by simpa using e)
    exact ⟨a, by simpa using h1, h2⟩
section
variable {X : Cx} {e : Expr} {te : TE}
end
end L2

/-! ### enumerate, xs.index(x), tuples of many items of one kind -/
namespace L2
open PySem PySem.Spec PyProof.Rows
section
variable {X : Cx} {pins : List (Addr × Obj)} {σ : St} {H : Hp} {s : Shared} {h' : Heap}
end
section
variable {X : Cx} {elts : List Expr} {k : Nat} {pos0 : Pos}
end
section
variable {X : Cx}
end
section
variable {α : Type} [DecidableEq α] {r : Enc α} {d : Nat}
end
end L2

/-! ### list comprehensions within list comprehensions: a block whose targets are cells -/
namespace L2
open PySem PySem.Spec PyProof.Rows

section
variable {X : Cx} {elt tg iter : Expr} {ifs : List Expr} {scope sc : Scope} {pos : Pos} {n : Nat} {tns : List Str} {caps : List (Nat × Str)} {wi : TI} {g : TG} {tt : TT} {te : TE}
end
end L2

/-! ### list(range(n)) -/
namespace L2
open PySem PySem.Spec PyProof.Rows
theorem vals_of_get : ∀ (xs : List V) (us : List Value), xs.length = us.length → (∀ (j : Nat) x u, xs[j]? = some x → us[j]? = some u → RelV x u) → Vals xs us
  | [], [], _, _ => .nil
  | [], _ :: _, h, _ => by simp at h
  | _ :: _, [], h, _ => by simp at h
  | x :: xs, u :: us, h, r => .cons (r 0 x u rfl rfl) (vals_of_get xs us (by simpa using h) fun j y v e1 e2 => r (j + 1) y v (by simpa using e1) (by simpa using e2))
def tListRng (ta : TA) : TE := fun σ H Q => ta σ H fun vs H1 => ∃ j : Int, vs = [.int j] ∧ 0 ≤ j ∧ j ≤ 1000 ∧ ∀ p, H1 p = none → Q (.ref p) (upd H1 p (.lst ((List.range j.toNat).map fun i => V.int ((i : Nat) : Int))))
variable {X : Cx}
theorem pe_listrange {e : Expr} {ta : TA} {p q q2 pos : Pos} (hc : X.calm = true) (hg : Gl X "list") (hg2 : Gl X "range") (hm : X.mg "list" = none) (hm2 : X.mg "range" = none) (ha : PA X [e] ta)
    (hs : starEach [.Call (.Name "range" q) [e] [] q2] X.env = [(false, eval (.Call (.Name "range" q) [e] [] q2) X.env)] := by rfl) (hs2 : starEach [e] X.env = [(false, eval e X.env)] := by rfl) :
    PE X (.Call (.Name "list" p) [.Call (.Name "range" q) [e] [] q2] [] pos) (tListRng ta) := by
  intro pins s σ H Q I h
  refine wpAny_Call_Name_kw (ld_blt I hg hm PyProof.Rows.boot_list ?_)
  refine PyProof.Rows.callWith_type1 ?_ hs rfl
  rw [hs]
  show wpAny _ _ (spliced ((false, eval (.Call (.Name "range" q) [e] [] q2) X.env) :: backTo pos [])) _ _ s
  refine Calls.spliced_cons ?_
  refine wpAny_Call_Name_kw (ld_blt I hg2 hm2 boot_range ?_)
  refine PyProof.Rows.callWith_type1 (thn (ha q2 pins s σ H _ I h) fun us s1 ⟨vs, H1, I1, r1, q1⟩ => ?_) hs2 rfl
  obtain ⟨j, e, h0, h1, k⟩ := q1
  subst e
  cases r1 with
  | cons r rr =>
    cases rr
    obtain ⟨t, rfl⟩ := r
    refine call_range_1 ?_
    refine Calls.spliced_nil ?_
    refine call_list_range (n := j.toNat) (I.ok.hd hc) (IsRange.new ..) (small_one (by omega) (by omega) (by omega) (by omega)) (by rw [rangeSize_one]; split <;> omega) (by omega) fun h' tk acc' c' hk hS hacc => ?_
    refine ⟨.ref _, _, I1.laid (h' := h') (t' := tk) (o := .lst ((List.range j.toNat).map fun i => V.int ((i : Nat) : Int))) (fun b o e => hk b o (Heap.get?_push_of_some _ e)) (by rw [Heap.size_push]; exact Nat.le_succ _) ?_, rfl, k _ (I1.hok.fresh (by rw [Heap.size_push]; exact Nat.le_succ _))⟩
    refine ⟨by rw [List.length_map, List.length_range]; exact Nat.le_of_lt (small1000 (by omega)), acc'.toList, c', vals_of_get _ _ (by simp [hacc.1]) fun i x u e1 e2 => ?_, hS⟩
    have e2' : acc'[i]? = some u := by simpa using e2
    obtain ⟨tk, rfl⟩ := hacc.2 i u e2'
    rw [List.getElem?_map] at e1
    cases e3 : (List.range j.toNat)[i]? with
    | none => rw [e3] at e1; cases e1
    | some z =>
      rw [e3] at e1
      have hz : z = i := by
        have hi : i < j.toNat := by have := (List.getElem?_eq_some_iff.mp e3).1; simpa using this
        rw [List.getElem?_range hi] at e3
        exact (Option.some.inj e3).symm
      subst hz
      have : x = V.int (z : Int) := (Option.some.inj e1).symm
      subst this
      exact ⟨tk, by simp⟩
end L2
namespace L2
open PySem PySem.Spec PyProof.Rows
theorem star_list {l : List Expr} {p : Pos} {es : List Expr} {env : Env} : starEach (.List l p :: es) env = (false, eval (.List l p) env) :: starEach es env := rfl
theorem pa_list {X : Cx} {l : List Expr} {p : Pos} {es : List Expr} {te : TE} {t : TA} (ha : PE X (.List l p) te) (hr : PA X es t) : PA X (.List l p :: es) (tCons te t) := pa_cons ha hr star_list
end L2
namespace L2
open PySem PySem.Spec PyProof.Rows
end L2
namespace L2
open PySem PySem.Spec PyProof.Rows
variable {X : Cx} {o e : Expr} {es : List Expr} {to : TE} {t : TA} {name : Str} {apos cpos : Pos} {T id : String} {r : V → List V → Hp → VK → Prop}
end L2

/-! ### list.index with a first place -/
namespace PySem
open PySem.Spec
namespace SeqAt
open MeetsSeq
end SeqAt
end PySem
namespace L2
open PySem PySem.Spec PyProof.Rows
section
variable {X : Cx}
end
end L2

/-! ### all and any of a list of truths, is True, three names at once -/
namespace L2
open PySem PySem.Spec PyProof.Rows
def rAll (K : PySem.W.Frag) : List V → Hp → VK → Prop := fun xs H Q => ∃ (a : Addr) (bs : List Bool), xs = [.ref a] ∧ SqL K H a (bs.map V.bl) ∧ Q (.bl (bs.all id)) H
section
variable {X : Cx}
theorem all_id : ∀ (bs : List Bool), ((List.range bs.length).all fun i => (bs[i]?).getD true) = bs.all id := fun bs => by
  rw [Bool.eq_iff_iff, List.all_eq_true, List.all_eq_true]
  constructor
  · intro h b hb
    obtain ⟨i, hi, rfl⟩ := List.getElem_of_mem hb
    have := h i (List.mem_range.mpr hi)
    simpa [List.getElem?_eq_getElem hi] using this
  · intro h i hi
    have hi' := List.mem_range.mp hi
    simpa [List.getElem?_eq_getElem hi'] using h _ (List.getElem_mem hi')
theorem call_allL (hc : X.calm = true) : CallR X (.builtin "all") (rAll X.K) := by
  intro pins s σ H xs us Q I r h
  obtain ⟨a, bs, rfl, hq, q⟩ := h
  obtain ⟨u, rfl, ru⟩ := vals1 r
  cases ru
  obtain ⟨its, rv, pl, hz⟩ := I.list hq
  have hlen : bs.length = its.length := by have := rv.length; rwa [List.length_map] at this
  have hlt : a < s.heap.objs.size := by obtain ⟨o, n, ho, _⟩ := pl; exact Heap.lt_size ho
  refine call_all_walk (wpAny_pyIter_list pl.isList ?_)
  refine ⟨s.heap.objs.size, [s.heap.objs.size, a], [s.heap.objs.size], its.toArray.size, _, _, fun i => (bs[i]?).getD true, rfl, Walks.list (A := X.A.in1) (I.ok.hd hc) _ a (Nat.ne_of_lt hlt) its.toArray,
    ⟨⟨_, Heap.get?_push_size _ rfl, rfl, rfl⟩, pl.isList.at fun o e => Heap.get?_push_of_some _ e⟩, fun i v s' Q' E' hP hQ => ?_, fun h' tk hk => ?_⟩
  · have hv' : its[i]? = some v := by simpa using hP
    obtain ⟨x, ex, rx⟩ := PairedR rv hv'
    rw [List.getElem?_map] at ex
    cases e : bs[i]? with
    | none => rw [e] at ex; cases ex
    | some z =>
      rw [e] at ex
      have ex' : V.bl z = x := Option.some.inj ex
      subst ex'
      cases rx
      simp only [e, Option.getD_some] at hQ
      exact wpAny_truthy_bool hQ
  · have e : ((List.range its.toArray.size).all fun i => (bs[i]?).getD true) = bs.all id := by
      rw [List.size_toArray, ← hlen]; exact all_id bs
    rw [e]
    have I2 : Inv X pins σ H { s with heap := h', toks := tk } := I.kept (t' := tk) fun b o e => hk b o (fun hm => by
      rw [List.mem_singleton.mp hm] at e
      exact absurd (Heap.lt_size e) (Nat.lt_irrefl _)) (Heap.get?_push_of_some _ e)
    exact ⟨.bl (bs.all id), H, I2, rfl, q⟩
theorem op_isB : OpR X (compareOp .Is) (fun x y H Q => ∃ a b : Bool, x = .bl a ∧ y = .bl b ∧ Q (.bl (a == b)) H) := by
  intro pins s σ H x y v u Q I rx ry h
  obtain ⟨a, b, rfl, rfl, q⟩ := h
  cases rx
  cases ry
  refine wpAny_is_plain rfl ?_
  refine ⟨.bl (a == b), H, I, ?_, q⟩
  cases a <;> cases b <;> rfl
def tPar3 (i j k : Nat) (ta : TA) : TS := fun D σ H => ta σ H fun vs H1 => ∃ v w z, vs = [v, w, z] ∧ D.nx (((σ.set i (some v)).set j (some w)).set k (some z)) H1
theorem ps_par3 {i j k : Nat} {x y z : Str} {a b c : Expr} {ta : TA} {px py pz pt pos : Pos} {kt k2 pt2} (hc : X.calm = true) (hN : X.N.Nodup) (hi : X.N[i]? = some x) (hj : X.N[j]? = some y) (hk : X.N[k]? = some z) (hij : i ≠ j) (hik : i ≠ k) (hjk : j ≠ k)
    (hx : X.env.scope.names.lookup x = some .local) (hy : X.env.scope.names.lookup y = some .local) (hz : X.env.scope.names.lookup z = some .local) (ha : PA X [a, b, c] ta)
    (hw : swappedStores [.Tuple [.Name x px, .Name y py, .Name z pz] kt pt] (.Tuple [a, b, c] k2 pt2) X.env = pure (some [x, y, z]))
    (hs : swapsWithSole [.Tuple [.Name x px, .Name y py, .Name z pz] kt pt] (.Tuple [a, b, c] k2 pt2) pos.line X.env = pure false := by rfl) :
    PS X (.Assign [.Tuple [.Name x px, .Name y py, .Name z pz] kt pt] (.Tuple [a, b, c] k2 pt2) pos) (tPar3 i j k ta) := by
  intro pins s σ H D I h
  rw [exec_Assign_arm]
  refine wpAny_bind (wpAny_standAt ?_)
  rw [hs]
  refine wpAny_bind (wpAny_pure ?_)
  rw [if_neg (by decide)]
  refine wpAny_bind (Tuple_ (thn (ha _ pins s σ H _ I h) fun us s1 ⟨vs, H1, I1, r1, q1⟩ => ?_))
  obtain ⟨v, w, t, e1, q1⟩ := q1
  subst e1
  obtain ⟨u1, u2, u3, rfl, rv, rw', rt⟩ : ∃ u1 u2 u3, us = [u1, u2, u3] ∧ RelV v u1 ∧ RelV w u2 ∧ RelV t u3 := by
    cases r1 with
    | cons p q =>
      cases q with
      | cons p' q' =>
        cases q' with
        | cons p'' q'' =>
          cases q''
          exact ⟨_, _, _, rfl, p, p', p''⟩
  refine wpAny_newObj_type ?_ (by show 3 ≤ sizeLine; decide)
  have I2 : Inv X pins σ H1 { s1 with heap := s1.heap.push { cls := .type "tuple", data := .seq [u1, u2, u3].toArray } } := I1.kept (t' := s1.toks) fun b o e => Heap.get?_push_of_some _ e
  rw [hw]
  refine wpAny_bind (wpAny_pure ?_)
  show wpAny (model X.prog X.w) X.A (do rule "assign.swapped-stores"; let items ← unpackItems (.ref s1.heap.objs.size) 3 none; assignInOrder [fun v => bindName X.env z v, fun v => bindName X.env y v, fun v => bindName X.env x v] items.reverse; pure Flow.next) _ _ _
  refine wpAny_bind (wpAny_rule (wpAny_bind (unpackItems_tuple (items := #[u1, u2, u3]) (I.ok.hd hc) (IsTup.new s1.heap _) fun h' hx' => ?_)))
  have I3 := I2.kept (h' := h') (t' := s1.toks) fun b o e => hx' b o (Nat.ne_of_lt (Heap.lt_size e)) e
  show wpAny _ _ (assignInOrder [fun v => bindName X.env z v, fun v => bindName X.env y v, fun v => bindName X.env x v] [u3, u2, u1] >>= fun _ => pure Flow.next) _ _ _
  refine wpAny_bind (assignInOrder_cons (wpAny_bindName (store_ok I3 hN hk (.inl hz) rt (fun s2 I4 => ?_) (.inr hz))))
  refine assignInOrder_cons (wpAny_bindName (store_ok I4 hN hj (.inl hy) rw' (fun s3 I5 => ?_) (.inr hy)))
  refine assignInOrder_cons (wpAny_bindName (store_ok I5 hN hi (.inl hx) rv (fun s4 I6 => assignInOrder_nil (wpAny_pure ?_)) (.inr hx)))
  have e : (((σ.set k (some t)).set j (some w)).set i (some v)) = (((σ.set i (some v)).set j (some w)).set k (some t)) := by
    rw [List.set_comm _ _ hjk.symm, List.set_comm _ _ hik.symm, List.set_comm _ _ hij.symm]
  rw [e] at I6
  exact ⟨_, H1, I6, q1⟩
end
end L2

/-! walks turned -/
namespace My
theorem mod_lt {n : Nat} (h : 0 < n) (b : Int) : (b % (n : Int)).toNat < n := by
  have h1 := Int.emod_nonneg b (show (n : Int) ≠ 0 by omega)
  have h2 := Int.emod_lt_of_pos b (show (0 : Int) < n by omega)
  omega
end My

/-! lists -/
namespace My
theorem fresh_snoc {α β : Type} {H : α → Option β} {ads : List α} {t : α} (h : ∀ x ∈ ads, H x = none) (ht : H t = none) : ∀ x ∈ ads ++ [t], H x = none := fun x hx => by
  rcases List.mem_append.mp hx with h1 | h1
  · exact h x h1
  · rw [List.mem_singleton.mp h1]; exact ht
theorem notin_snoc {α : Type} {l t : α} {ads : List α} (h : l ∉ ads) (ht : l ≠ t) : l ∉ ads ++ [t] := fun hx => by
  rcases List.mem_append.mp hx with h1 | h1
  · exact h h1
  · exact ht (List.mem_singleton.mp h1)
theorem map_eraseIdx' {α β : Type} (f : α → β) : ∀ (l : List α) (k : Nat), (l.map f).eraseIdx k = (l.eraseIdx k).map f
  | [], _ => rfl
  | _ :: _, 0 => rfl
  | a :: r, k + 1 => by
    show f a :: (r.map f).eraseIdx k = f a :: (r.eraseIdx k).map f
    rw [map_eraseIdx' f r k]
theorem perm_erase {α : Type} : ∀ {l : List α} {k : Nat} {y : α}, l[k]? = some y → (y :: l.eraseIdx k).Perm l
  | [], _, _, e => by simp at e
  | a :: r, 0, y, e => by
    have e' : a = y := by simpa using e
    subst e'; exact List.Perm.refl _
  | a :: r, k + 1, y, e => by
    have e' : r[k]? = some y := by simpa using e
    show (y :: a :: r.eraseIdx k).Perm (a :: r)
    exact (List.Perm.swap a y _).trans (List.Perm.cons a (perm_erase e'))
end My

/-! closed plaits: every crossing is passed over once and under once -/
namespace My
def iota (S : Nat) : List Int := (List.range S).map fun (k : Nat) => (k : Int)
theorem mem_iota {S : Nat} {x : Int} : x ∈ iota S ↔ 0 ≤ x ∧ x < (S : Int) := by
  unfold iota
  rw [List.mem_map]
  constructor
  · rintro ⟨k, hk, rfl⟩
    have := List.mem_range.mp hk
    omega
  · rintro ⟨h0, h1⟩
    exact ⟨x.toNat, List.mem_range.mpr (by omega), by omega⟩
theorem nodup_map_inj {α β : Type} {f : α → β} : ∀ {l : List α}, (∀ a b, a ∈ l → b ∈ l → f a = f b → a = b) → l.Nodup → (l.map f).Nodup
  | [], _, _ => List.nodup_nil
  | a :: r, h, nd => by
    rw [List.map_cons, List.nodup_cons]
    refine ⟨fun m => ?_, nodup_map_inj (fun x y hx hy => h x y (List.mem_cons_of_mem _ hx) (List.mem_cons_of_mem _ hy)) (List.nodup_cons.mp nd).2⟩
    obtain ⟨b, hb, e⟩ := List.mem_map.mp m
    have := h b a (List.mem_cons_of_mem _ hb) List.mem_cons_self e
    exact (List.nodup_cons.mp nd).1 (by rw [← this]; exact hb)
theorem nodup_iota (S : Nat) : (iota S).Nodup := nodup_map_inj (fun a b _ _ e => by omega) List.nodup_range
theorem nodup_perm {α : Type} [DecidableEq α] : ∀ {l m : List α}, l.Nodup → m.Nodup → (∀ x, x ∈ l ↔ x ∈ m) → l.Perm m
  | [], m, _, _, h => by
    cases m with
    | nil => exact List.Perm.refl _
    | cons a r => exact absurd ((h a).mpr List.mem_cons_self) (by simp)
  | a :: r, m, nl, nm, h => by
    have ha : a ∈ m := (h a).mp List.mem_cons_self
    have hp : m.Perm (a :: m.erase a) := List.perm_cons_erase ha
    refine List.Perm.trans (List.Perm.cons a ?_) hp.symm
    have nd2 : (a :: m.erase a).Nodup := hp.nodup_iff.mp nm
    refine nodup_perm (List.nodup_cons.mp nl).2 (List.nodup_cons.mp nd2).2 fun x => ?_
    constructor
    · intro hx
      have hxa : x ≠ a := fun e => (List.nodup_cons.mp nl).1 (by rw [← e]; exact hx)
      have : x ∈ a :: m.erase a := hp.mem_iff.mp ((h x).mp (List.mem_cons_of_mem _ hx))
      exact (List.mem_cons.mp this).resolve_left hxa
    · intro hx
      have hxa : x ≠ a := fun e => (List.nodup_cons.mp nd2).1 (e ▸ hx)
      have : x ∈ a :: r := (h x).mpr (hp.mem_iff.mpr (List.mem_cons_of_mem _ hx))
      exact (List.mem_cons.mp this).resolve_left hxa
end My
namespace My
/-- the places ps are those that were seen -/
structure Done (S : Int) (seen : List Bool) (ps : List Int) : Prop where
  nd : ps.Nodup
  at' : ∀ p ∈ ps, 0 ≤ p ∧ p < S ∧ seen[p.toNat]? = some true
  of : ∀ q : Nat, seen[q]? = some true → (q : Int) ∈ ps
theorem Done.none (S : Int) (n : Nat) : Done S (List.replicate n false) [] :=
  ⟨List.nodup_nil, fun p h => by simp at h, fun q h => by
    rw [List.getElem?_replicate] at h
    split at h <;> cases h⟩
theorem set_true {l : List Bool} {j q : Nat} (h : l[q]? = some true) : (l.set j true)[q]? = some true := by
  by_cases e : j = q
  · subst e
    rw [List.getElem?_set_self (List.getElem?_eq_some_iff.mp h).1]
  · rw [List.getElem?_set_ne e]; exact h
theorem Done.snoc {S : Int} {seen : List Bool} {ps : List Int} {a : Int} (h : Done S seen ps) (a0 : 0 ≤ a) (a1 : a < S) (e : seen[a.toNat]? = some false) : Done S (seen.set a.toNat true) (ps ++ [a]) := by
  have hl : a.toNat < seen.length := (List.getElem?_eq_some_iff.mp e).1
  have hn : a ∉ ps := fun m => by
    have := (h.at' a m).2.2
    rw [e] at this; cases this
  refine ⟨?_, fun p hp => ?_, fun q hq => ?_⟩
  · rw [List.nodup_append]
    refine ⟨h.nd, by simp, fun x hx y hy => ?_⟩
    rw [List.mem_singleton.mp hy]
    exact fun e => hn (e ▸ hx)
  · rcases List.mem_append.mp hp with hp | hp
    · obtain ⟨h1, h2, h3⟩ := h.at' p hp
      exact ⟨h1, h2, set_true h3⟩
    · rw [List.mem_singleton.mp hp]
      exact ⟨a0, a1, by rw [List.getElem?_set_self hl]⟩
  · by_cases hqa : a.toNat = q
    · exact List.mem_append_right _ (List.mem_singleton.mpr (by omega))
    · rw [List.getElem?_set_ne hqa] at hq
      exact List.mem_append_left _ (h.of q hq)
theorem Done.all {S : Int} {seen : List Bool} {ps : List Int} (h : Done S seen ps) (hl : seen.length = S.toNat) (h0 : 0 ≤ S) (ha : ∀ q : Nat, q < S.toNat → seen[q]? = some true) : ps.Perm (iota S.toNat) := by
  refine nodup_perm h.nd (nodup_iota _) fun x => ?_
  rw [mem_iota]
  constructor
  · intro hx
    obtain ⟨h1, h2, _⟩ := h.at' x hx
    omega
  · rintro ⟨x0, x1⟩
    have := h.of x.toNat (ha x.toNat (by omega))
    rw [show ((x.toNat : Nat) : Int) = x by omega] at this
    exact this
end My

namespace My
open PySem L2

theorem sz0 : 0 ≤ sizeLine := by decide
theorem szle {n : Nat} (h : n ≤ 1000) : n ≤ sizeLine := Nat.le_of_lt (small1000 h)
theorem at_of {ns : List Int} {j : Nat} {v : Int} (h : ns[j]? = some v) {i : Int} (hi : i = (j : Int)) : atI (ns.map V.int) i = some (.int v) := by
  subst hi
  exact atI_nat (by rw [List.getElem?_map, h]; rfl)
theorem atM {ns : List Int} {i : Int} (h0 : 0 ≤ i) (h1 : i < (ns.length : Int)) : ∃ v, atI (ns.map V.int) i = some (.int v) ∧ ns[i.toNat]? = some v := by
  have hk : i.toNat < ns.length := by omega
  exact ⟨ns[i.toNat], at_of (List.getElem?_eq_getElem hk) (by omega), List.getElem?_eq_getElem hk⟩
theorem at_ref {ads : List Addr} {j : Nat} {b : Addr} (h : ads[j]? = some b) {i : Int} (hi : i = (j : Int)) : atI (ads.map V.ref) i = some (.ref b) := by
  subst hi
  exact atI_nat (by rw [List.getElem?_map, h]; rfl)
theorem ixN_of {n : Nat} {k : Int} (h0 : 0 ≤ k) (h1 : k < (n : Int)) : ixN n k = some k.toNat := by
  unfold ixN
  rw [if_pos h0, if_pos (by omega)]
theorem int_at {ms : List Int} {i : Nat} {y : V} (h : (ms.map V.int)[i]? = some y) : ∃ z, y = .int z ∧ ms[i]? = some z := by
  rw [List.getElem?_map] at h
  cases e : ms[i]? with
  | none => rw [e] at h; cases h
  | some z => rw [e] at h; exact ⟨z, (Option.some.inj h).symm, rfl⟩
theorem ref_at {ads : List Addr} {i : Nat} {y : V} (h : (ads.map V.ref)[i]? = some y) : ∃ b, y = .ref b ∧ ads[i]? = some b := by
  rw [List.getElem?_map] at h
  cases e : ads[i]? with
  | none => rw [e] at h; cases h
  | some z => rw [e] at h; exact ⟨z, (Option.some.inj h).symm, rfl⟩
theorem cutV_map (ns : List Int) (lo hi : Option Int) : cutV (ns.map V.int) lo hi = (((ns.drop (HT.sIx ns.length 0 lo)).take (HT.sIx ns.length ns.length hi - HT.sIx ns.length 0 lo)).map V.int) := by
  unfold cutV
  rw [List.length_map, ← List.map_drop, ← List.map_take]
theorem map_snoc (acc : List Int) (v : Int) : acc.map V.int ++ [.int v] = (acc ++ [v]).map V.int := by simp
theorem ref_snoc (acc : List Addr) (v : Addr) : acc.map V.ref ++ [.ref v] = (acc ++ [v]).map V.ref := by simp
theorem eqI {x y : Int} : decide (V.int x = V.int y) = decide (x = y) := by
  rw [Bool.eq_iff_iff]; simp
theorem len_int (ns : List Int) : (ns.map V.int).length = ns.length := List.length_map _
theorem len_ref (ns : List Addr) : (ns.map V.ref).length = ns.length := List.length_map _

/-! ### what the drawn numbers promise -/
/-- each number of acc below the one of sizes at its place -/
def Below (sizes acc : List Int) : Prop := ∀ (j : Nat) (s v : Int), sizes[j]? = some s → acc[j]? = some v → 0 ≤ v ∧ v < s
theorem Below.snoc {sizes acc : List Int} {i : Nat} {sz v : Int} (hb : Below sizes acc) (la : acc.length = i) (ez : sizes[i]? = some sz) (h : 0 ≤ v ∧ v < sz) : Below sizes (acc ++ [v]) := by
  intro j s w e1 e2
  by_cases hj : j < acc.length
  · rw [List.getElem?_append_left hj] at e2
    exact hb j s w e1 e2
  · rw [List.getElem?_append_right (by omega)] at e2
    by_cases hj2 : j = i
    · subst hj2
      rw [la, Nat.sub_self] at e2
      rw [ez] at e1
      cases e1
      have e2' : v = w := by simpa using e2
      subst e2'
      exact h
    · rw [List.getElem?_singleton, if_neg (by omega)] at e2
      cases e2
def sp_cell (K : PySem.W.Frag) : Sp := fun vs H Q _ => ∃ (a : Addr) (ns : List Int) (p : Int), vs = [.ref a, .int p] ∧ SqL K H a (ns.map V.int) ∧ ns.length ≤ 63 ∧ 0 ≤ p ∧ p ≤ 100 ∧
  ∀ (c : Int) (H' : Hp), Same H H' → Q (.int c) H'
def sp_mix (_ : PySem.W.Frag) : Sp := fun vs H Q _ => ∃ (c k : Int), vs = [.int c, .int k] ∧ 0 ≤ k ∧ k ≤ 1000 ∧ ∀ v : Int, Q (.int v) H
def sp_row (K : PySem.W.Frag) : Sp := fun vs H Q _ => ∃ (a : Addr) (ns : List Int) (p : Int) (z : Addr) (sizes : List Int), vs = [.ref a, .int p, .ref z] ∧ SqL K H a (ns.map V.int) ∧ ns.length ≤ 63 ∧ 0 ≤ p ∧ p ≤ 36 ∧
  H z = some (.lst (sizes.map V.int)) ∧ sizes.length ≤ 500 ∧ (∀ s ∈ sizes, 0 < s ∧ s.natAbs.log2 < 9000) ∧
  ∀ (r : Addr) (acc : List Int) (H' : Hp), Same H H' → H r = none → H' r = some (.lst (acc.map V.int)) → acc.length = sizes.length → Below sizes acc → Q (.ref r) H'

/-! ### drawings on the heap -/
def WsAt (H : Hp) (ads : List Addr) (ws : List (List Int)) : Prop := Paired (fun b w => H b = some (.lst (w.map V.int))) ads ws
def SgAt (H : Hp) (tds : List Addr) (sg : List (Int × Int)) : Prop := Paired (fun t e => H t = some (.tup [.int e.1, .int e.2])) tds sg
theorem WsAt.keep {H H' : Hp} {ads : List Addr} {ws : List (List Int)} (s : Same H H') (h : WsAt H ads ws) : WsAt H' ads ws := Paired.imp2 (fun _ _ z => s _ _ z) h
theorem SgAt.keep {H H' : Hp} {tds : List Addr} {sg : List (Int × Int)} (s : Same H H') (h : SgAt H tds sg) : SgAt H' tds sg := Paired.imp2 (fun _ _ z => s _ _ z) h
theorem WsAt.other {H : Hp} {b : Addr} {o : HO} : ∀ {ads : List Addr} {ws : List (List Int)}, WsAt H ads ws → b ∉ ads → WsAt (upd H b o) ads ws
  | _, _, .nil, _ => .nil
  | _, _, .cons r t, h => .cons (by rw [upd_ne (fun e => h (by rw [e]; exact List.mem_cons_self))]; exact r) (WsAt.other t fun z => h (List.mem_cons_of_mem _ z))
theorem WsAt.set {H : Hp} {b : Addr} {w' : List Int} : ∀ {ads : List Addr} {ws : List (List Int)} {j : Nat}, WsAt H ads ws → ads.Nodup → ads[j]? = some b → WsAt (upd H b (.lst (w'.map V.int))) ads (ws.set j w')
  | _, _, _, .nil, _, e => by simp at e
  | x :: ads, _ :: _, 0, .cons r t, nd, e => by
    have e' : x = b := by simpa using e
    subst e'
    exact .cons upd_same (WsAt.other t (List.nodup_cons.mp nd).1)
  | x :: ads, _ :: _, j + 1, .cons r t, nd, e => by
    have e' : ads[j]? = some b := by simpa using e
    refine .cons ?_ (WsAt.set t (List.nodup_cons.mp nd).2 e')
    rw [upd_ne (fun z => (List.nodup_cons.mp nd).1 (by rw [z]; exact List.mem_of_getElem? e'))]
    exact r
theorem WsAt.ex {H : Hp} : ∀ {ads : List Addr} {ws : List (List Int)} {b : Addr}, WsAt H ads ws → b ∈ ads → ∃ w ∈ ws, H b = some (.lst (w.map V.int))
  | _, _, _, .nil, h => by simp at h
  | _, _, _, .cons r t, h => by
    rcases List.mem_cons.mp h with rfl | h
    · exact ⟨_, List.mem_cons_self, r⟩
    · obtain ⟨w, h1, h2⟩ := WsAt.ex t h
      exact ⟨w, List.mem_cons_of_mem _ h1, h2⟩
theorem WsAt.fresh {H : Hp} {ads : List Addr} {ws : List (List Int)} {b : Addr} (h : WsAt H ads ws) (hb : H b = none) : b ∉ ads := fun m => by
  obtain ⟨w, _, e⟩ := h.ex m
  rw [hb] at e; cases e
theorem WsAt.get {H : Hp} {ads : List Addr} {ws : List (List Int)} {j : Nat} {b : Addr} (h : WsAt H ads ws) (e : ads[j]? = some b) : ∃ w, ws[j]? = some w ∧ H b = some (.lst (w.map V.int)) := Paired.getL h e
structure Dr (H : Hp) (p : Addr) (ws : List (List Int)) (sg : List (Int × Int)) (a b : Addr) (ads tds : List Addr) : Prop where
  tp : H p = some (.tup [.ref a, .ref b])
  la : H a = some (.lst (ads.map V.ref))
  lb : H b = some (.lst (tds.map V.ref))
  wa : WsAt H ads ws
  sa : SgAt H tds sg
  nab : a ≠ b
  na : a ∉ ads
  nb : b ∉ ads
def IsDr (H : Hp) (p : Addr) (ws : List (List Int)) (sg : List (Int × Int)) : Prop := ∃ a b ads tds, Dr H p ws sg a b ads tds
def NewDr (H0 H : Hp) (p : Addr) (ws : List (List Int)) (sg : List (Int × Int)) : Prop := ∃ a b ads tds, Dr H p ws sg a b ads tds ∧ H0 a = none ∧ H0 b = none ∧ ∀ x ∈ ads, H0 x = none
theorem NewDr.is {H0 H : Hp} {p : Addr} {ws : List (List Int)} {sg : List (Int × Int)} (h : NewDr H0 H p ws sg) : IsDr H p ws sg := by
  obtain ⟨a, b, ads, tds, d, _⟩ := h
  exact ⟨a, b, ads, tds, d⟩
theorem Dr.keep {H H' : Hp} {p : Addr} {ws : List (List Int)} {sg : List (Int × Int)} {a b : Addr} {ads tds : List Addr} (s : Same H H') (d : Dr H p ws sg a b ads tds) : Dr H' p ws sg a b ads tds :=
  ⟨s _ _ d.tp, s _ _ d.la, s _ _ d.lb, d.wa.keep s, d.sa.keep s, d.nab, d.na, d.nb⟩
theorem IsDr.keep {H H' : Hp} {p : Addr} {ws : List (List Int)} {sg : List (Int × Int)} (s : Same H H') (d : IsDr H p ws sg) : IsDr H' p ws sg := by
  obtain ⟨a, b, ads, tds, d⟩ := d
  exact ⟨a, b, ads, tds, d.keep s⟩
abbrev rDr : Enc (List (List Int) × List (Int × Int)) := rT2 (rL (rL rInt)) (rL (rT2 rInt rInt))
theorem WsAt.enc {K : PySem.W.Frag} {H : Hp} : ∀ {ads : List Addr} {ws : List (List Int)}, WsAt H ads ws → Paired (rL rInt K H) (ads.map V.ref) ws
  | _, _, .nil => .nil
  | _, _, .cons r t => .cons ⟨_, _, rfl, SqL.of r, paired_ints _⟩ (WsAt.enc t)
theorem SgAt.enc {K : PySem.W.Frag} {H : Hp} : ∀ {tds : List Addr} {sg : List (Int × Int)}, SgAt H tds sg → Paired (rT2 rInt rInt K H) (tds.map V.ref) sg
  | _, _, .nil => .nil
  | _, _, .cons r t => .cons ⟨_, _, _, rfl, SqT.of r, rfl, rfl⟩ (SgAt.enc t)
theorem IsDr.enc {K : PySem.W.Frag} {H : Hp} {p : Addr} {ws : List (List Int)} {sg : List (Int × Int)} (d : IsDr H p ws sg) : rDr K H (.ref p) (ws, sg) := by
  obtain ⟨a, b, ads, tds, d⟩ := d
  exact ⟨p, _, _, rfl, SqT.of d.tp, ⟨a, _, rfl, SqL.of d.la, d.wa.enc⟩, ⟨b, _, rfl, SqL.of d.lb, d.sa.enc⟩⟩
end My
namespace My
open PySem L2
theorem take_succ' {α : Type} {l : List α} {i : Nat} {x : α} (h : l[i]? = some x) : l.take (i + 1) = l.take i ++ [x] := by
  rw [List.take_add_one, h]; rfl
end My
namespace My
open PySem L2
end My
namespace My
open PySem L2
theorem WsAt.len {H : Hp} {ads : List Addr} {ws : List (List Int)} (h : WsAt H ads ws) : ads.length = ws.length := Paired.len h
theorem SgAt.len {H : Hp} {tds : List Addr} {sg : List (Int × Int)} (h : SgAt H tds sg) : tds.length = sg.length := Paired.len h
theorem SgAt.get {H : Hp} {tds : List Addr} {sg : List (Int × Int)} {j : Nat} {b : Addr} (h : SgAt H tds sg) (e : tds[j]? = some b) : ∃ w, sg[j]? = some w ∧ H b = some (.tup [.int w.1, .int w.2]) := Paired.getL h e
theorem Paired.put {α β : Type} {F : α → β → Prop} {a : α} {b : β} (h : F a b) : ∀ {l : List α} {m : List β} (i : Nat), Paired F l m → Paired F (l.set i a) (m.set i b)
  | _, _, _, .nil => .nil
  | _, _, 0, .cons _ t => .cons h t
  | _, _, i + 1, .cons q t => .cons q (Paired.put h i t)
theorem WsAt.put {H : Hp} {ads : List Addr} {ws : List (List Int)} {x : Addr} {w : List Int} (h : H x = some (.lst (w.map V.int))) (j : Nat) (wa : WsAt H ads ws) : WsAt H (ads.set j x) (ws.set j w) :=
  Paired.put (F := fun (b : Addr) (w : List Int) => H b = some (.lst (w.map V.int))) h j wa
end My
namespace My
open PySem L2
theorem cut_from (w : List Int) {s : Int} (h0 : 0 ≤ s) (h1 : s < (w.length : Int)) : (w.drop (HT.sIx w.length 0 (some s))).take (HT.sIx w.length w.length none - HT.sIx w.length 0 (some s)) = w.drop s.toNat := by
  have e : HT.sIx w.length 0 (some s) = s.toNat := by
    have : s = ((s.toNat : Nat) : Int) := by omega
    rw [this, HT.sIx_nat, Int.toNat_natCast]; omega
  rw [e, HT.sIx_none, List.take_of_length_le (by rw [List.length_drop]; omega)]
theorem kit_same (K : PySem.W.Frag) (T : String) : PySem.W.kitOne K (.type T) (.type T) = some true := by
  unfold PySem.W.kitOne
  rw [if_pos (beq_self_eq_true _)]
end My
namespace My
open PySem L2
theorem Paired.mem {α β : Type} {F G : α → β → Prop} : ∀ {l : List α} {m : List β}, Paired F l m → (∀ a b, a ∈ l → F a b → G a b) → Paired G l m
  | _, _, .nil, _ => .nil
  | _, _, .cons r t, h => .cons (h _ _ List.mem_cons_self r) (Paired.mem t fun a b ha => h a b (List.mem_cons_of_mem _ ha))
end My
namespace My
open PySem L2
end My

namespace My
open PySem L2
/-! ### the generators: what they promise -/
/-! ### rows of a plait -/
end My

/-! ### tables of colours, by themselves -/
namespace My
/-- row a of the table of the size n with the numbers f a b -/
def rowOf (n : Nat) (f : Nat → Nat → Nat) (a : Nat) : List Int := (List.range n).map fun b => (f a b : Int)
def tabOf (n : Nat) (f : Nat → Nat → Nat) : List (List Int) := (List.range n).map (rowOf n f)
theorem rowOf_length (n : Nat) (f : Nat → Nat → Nat) (a : Nat) : (rowOf n f a).length = n := by simp [rowOf]
theorem tabOf_length (n : Nat) (f : Nat → Nat → Nat) : (tabOf n f).length = n := by simp [tabOf]
theorem rowOf_get {n : Nat} {f : Nat → Nat → Nat} {a b : Nat} (h : b < n) : (rowOf n f a)[b]? = some (f a b : Int) := by
  unfold rowOf; rw [List.getElem?_map, List.getElem?_range h]; rfl
theorem tabOf_get {n : Nat} {f : Nat → Nat → Nat} {a : Nat} (h : a < n) : (tabOf n f)[a]? = some (rowOf n f a) := by
  unfold tabOf; rw [List.getElem?_map, List.getElem?_range h]; rfl
theorem tabOf_at {n : Nat} {f : Nat → Nat → Nat} {a : Nat} {r : List Int} (h : (tabOf n f)[a]? = some r) : a < n ∧ r = rowOf n f a := by
  have hb : a < n := by have := (List.getElem?_eq_some_iff.mp h).1; rwa [tabOf_length] at this
  rw [tabOf_get hb] at h
  exact ⟨hb, (Option.some.inj h).symm⟩
theorem rowOf_congr {n : Nat} {f g : Nat → Nat → Nat} {a : Nat} (h : ∀ b, b < n → f a b = g a b) : rowOf n f a = rowOf n g a := by
  unfold rowOf
  exact List.map_congr_left fun b hb => by rw [h b (List.mem_range.mp hb)]
theorem tabOf_congr {n : Nat} {f g : Nat → Nat → Nat} (h : ∀ a b, a < n → b < n → f a b = g a b) : tabOf n f = tabOf n g := by
  unfold tabOf
  exact List.map_congr_left fun a ha => rowOf_congr fun b hb => h a b (List.mem_range.mp ha) hb
theorem tab_mem {n : Nat} {f : Nat → Nat → Nat} {r : List Int} (h : r ∈ tabOf n f) : r.length = n := by
  unfold tabOf at h
  obtain ⟨a, _, rfl⟩ := List.mem_map.mp h
  exact rowOf_length n f a

/-- the numbers are colours, and no column has one twice -/
structure Col (n : Nat) (f : Nat → Nat → Nat) : Prop where
  lt : ∀ a b, a < n → b < n → f a b < n
  r2 : ∀ x y b, x < n → y < n → b < n → f x b = f y b → x = y
/-- the three rules -/
structure GoodF (n : Nat) (f : Nat → Nat → Nat) : Prop extends Col n f where
  r1 : ∀ a, a < n → f a a = a
  r3 : ∀ a b c, a < n → b < n → c < n → f (f a b) c = f (f a c) (f b c)
theorem GoodF.congr {n : Nat} {f g : Nat → Nat → Nat} (h : GoodF n f) (e : ∀ a b, a < n → b < n → g a b = f a b) : GoodF n g where
  lt a b ha hb := by rw [e a b ha hb]; exact h.lt a b ha hb
  r2 x y b hx hy hb q := by rw [e x b hx hb, e y b hy hb] at q; exact h.r2 x y b hx hy hb q
  r1 a ha := by rw [e a a ha ha]; exact h.r1 a ha
  r3 a b c ha hb hc := by
    rw [e a b ha hb, e a c ha hc, e b c hb hc, e _ c (h.lt a b ha hb) hc, e _ _ (h.lt a c ha hc) (h.lt b c hb hc)]
    exact h.r3 a b c ha hb hc

/-! pigeonhole: one to one among n is onto -/
theorem onto_of_inj : ∀ (n : Nat) (p : Nat → Nat), (∀ a, a < n → p a < n) → (∀ a b, a < n → b < n → p a = p b → a = b) → ∀ y, y < n → ∃ x, x < n ∧ p x = y
  | 0, _, _, _, y, hy => absurd hy (Nat.not_lt_zero _)
  | n + 1, p, hl, hi, y, hy => by
    by_cases hh : ∃ x, x < n + 1 ∧ p x = y
    · exact hh
    · exfalso
      -- send n to y, and y's place away
      have hne : ∀ x, x < n + 1 → p x ≠ y := fun x hx e => hh ⟨x, hx, e⟩
      -- among the first n: p', which skips y
      let s : Nat → Nat := fun v => if v < y then v else v - 1
      have hs : ∀ a, a < n + 1 → s (p a) < n := fun a ha => by
        have h1 := hl a ha; have h2 := hne a ha
        show (if p a < y then p a else p a - 1) < n
        split <;> omega
      have hsi : ∀ a b, a < n + 1 → b < n + 1 → s (p a) = s (p b) → a = b := fun a b ha hb e => by
        have h1 := hne a ha; have h2 := hne b hb
        refine hi a b ha hb ?_
        have e' : (if p a < y then p a else p a - 1) = (if p b < y then p b else p b - 1) := e
        split at e' <;> split at e' <;> omega
      obtain ⟨x, hx, ex⟩ := onto_of_inj n (fun a => s (p a)) (fun a ha => hs a (by omega)) (fun a b ha hb e => hsi a b (by omega) (by omega) e) (s (p n)) (hs n (by omega))
      have := hsi x n (by omega) (by omega) ex
      omega

/-! the ways back -/
/-! called otherwise -/
structure PermN (n : Nat) (p q : Nat → Nat) : Prop where
  lt : ∀ a, a < n → p a < n
  qlt : ∀ a, a < n → q a < n
  pq : ∀ a, a < n → p (q a) = a
  qp : ∀ a, a < n → q (p a) = a
theorem PermN.good {n : Nat} {p q : Nat → Nat} {f : Nat → Nat → Nat} (h : PermN n p q) (g : GoodF n f) : GoodF n (fun x y => p (f (q x) (q y))) where
  lt a b ha hb := h.lt _ (g.lt _ _ (h.qlt a ha) (h.qlt b hb))
  r2 x y b hx hy hb e := by
    have e1 : q (p (f (q x) (q b))) = q (p (f (q y) (q b))) := congrArg q e
    rw [h.qp _ (g.lt _ _ (h.qlt x hx) (h.qlt b hb)), h.qp _ (g.lt _ _ (h.qlt y hy) (h.qlt b hb))] at e1
    have := g.r2 _ _ _ (h.qlt x hx) (h.qlt y hy) (h.qlt b hb) e1
    rw [← h.pq x hx, ← h.pq y hy, this]
  r1 a ha := by
    show p (f (q a) (q a)) = a
    rw [g.r1 _ (h.qlt a ha), h.pq a ha]
  r3 a b c ha hb hc := by
    have l1 := g.lt _ _ (h.qlt a ha) (h.qlt b hb)
    have l2 := g.lt _ _ (h.qlt a ha) (h.qlt c hc)
    have l3 := g.lt _ _ (h.qlt b hb) (h.qlt c hc)
    show p (f (q (p (f (q a) (q b)))) (q c)) = p (f (q (p (f (q a) (q c)))) (q (p (f (q b) (q c)))))
    rw [h.qp _ l1, h.qp _ l2, h.qp _ l3, g.r3 _ _ _ (h.qlt a ha) (h.qlt b hb) (h.qlt c hc)]
/-- one to one among n has a way back -/
theorem perm_of {n : Nat} {p : Nat → Nat} (hl : ∀ a, a < n → p a < n) (hi : ∀ a b, a < n → b < n → p a = p b → a = b) : ∃ q, PermN n p q := by
  have ho := onto_of_inj n p hl hi
  refine ⟨fun y => if h : y < n then Classical.choose (ho y h) else 0, hl, fun a ha => ?_, fun a ha => ?_, fun a ha => ?_⟩
  · simp only [dif_pos ha]; exact (Classical.choose_spec (ho a ha)).1
  · simp only [dif_pos ha]; exact (Classical.choose_spec (ho a ha)).2
  · simp only [dif_pos (hl a ha)]
    have := Classical.choose_spec (ho (p a) (hl a ha))
    exact hi _ _ this.1 ha this.2

/-! the tables that are drawn -/
theorem emod_of_sub {A B n z : Int} (h : A - B = n * z) : A % n = B % n := by
  have : A = B + n * z := by omega
  rw [this, Int.add_mul_emod_self_left]
def linI (k n a b : Int) : Int := (k * a + (1 - k) * b) % n
def linF (k : Int) (n : Nat) (a b : Nat) : Nat := (linI k n a b).toNat
theorem linF_cast {k : Int} {n : Nat} (hn : 0 < n) (a b : Nat) : ((linF k n a b : Nat) : Int) = linI k n a b := by
  unfold linF
  have := Int.emod_nonneg (k * a + (1 - k) * b) (show (n : Int) ≠ 0 by omega)
  unfold linI
  omega
theorem lin_good {k : Int} {n : Nat} (hn : 0 < n) (hk : ∀ x : Int, (n : Int) ∣ k * x → (n : Int) ∣ x) : GoodF n (linF k n) where
  lt a b _ _ := by
    have h := linF_cast (k := k) hn a b
    have := Int.emod_lt_of_pos (k * a + (1 - k) * b) (show 0 < (n : Int) by omega)
    unfold linI at h
    omega
  r1 a ha := by
    have h := linF_cast (k := k) hn a a
    have e : k * (a : Int) + (1 - k) * a = a := by grind
    unfold linI at h
    rw [e, Int.emod_eq_of_lt (by omega) (by omega)] at h
    omega
  r2 x y b hx hy hb e := by
    have h1 := linF_cast (k := k) hn x b
    have h2 := linF_cast (k := k) hn y b
    rw [e, h2] at h1
    unfold linI at h1
    have := Int.emod_eq_emod_iff_emod_sub_eq_zero.mp h1
    have hd : (n : Int) ∣ k * ((y : Int) - x) := by
      have := Int.dvd_of_emod_eq_zero this
      have e2 : (k * (y : Int) + (1 - k) * b) - (k * x + (1 - k) * b) = k * ((y : Int) - x) := by grind
      rwa [e2] at this
    obtain ⟨z, hz⟩ := hk _ hd
    have hz1 : z < 1 := by
      apply Int.lt_of_mul_lt_mul_left (a := (n : Int)) _ (by omega)
      omega
    have hz2 : -1 < z := by
      apply Int.lt_of_mul_lt_mul_left (a := (n : Int)) _ (by omega)
      omega
    have : z = 0 := by omega
    subst this
    omega
  r3 a b c _ _ _ := by
    have e1 := linF_cast (k := k) hn a b
    have e2 := linF_cast (k := k) hn a c
    have e3 := linF_cast (k := k) hn b c
    have e4 := linF_cast (k := k) hn (linF k n a b) c
    have e5 := linF_cast (k := k) hn (linF k n a c) (linF k n b c)
    have hh : linI k n (linF k n a b : Nat) c = linI k n (linF k n a c : Nat) (linF k n b c : Nat) := by
      rw [e1, e2, e3]
      unfold linI
      have q1 := Int.emod_add_mul_ediv (k * (a : Int) + (1 - k) * b) n
      have q2 := Int.emod_add_mul_ediv (k * (a : Int) + (1 - k) * c) n
      have q3 := Int.emod_add_mul_ediv (k * (b : Int) + (1 - k) * c) n
      generalize (k * (a : Int) + (1 - k) * b) / n = d1 at q1
      generalize (k * (a : Int) + (1 - k) * c) / n = d2 at q2
      generalize (k * (b : Int) + (1 - k) * c) / n = d3 at q3
      generalize (k * (a : Int) + (1 - k) * b) % n = m1 at *
      generalize (k * (a : Int) + (1 - k) * c) % n = m2 at *
      generalize (k * (b : Int) + (1 - k) * c) % n = m3 at *
      refine emod_of_sub (z := -k * d1 + k * d2 + (1 - k) * d3) ?_
      grind
    omega
theorem dvd_of_gcd {k : Int} {n : Nat} (h : Int.gcd k n = 1) (x : Int) (hd : (n : Int) ∣ k * x) : (n : Int) ∣ x := by
  have h1 := Int.natAbs_dvd_natAbs.mpr hd
  rw [Int.natAbs_mul, Int.natAbs_natCast] at h1
  have h2 : Nat.Coprime n k.natAbs := by
    have : Nat.gcd k.natAbs n = 1 := h
    rw [Nat.gcd_comm] at this
    exact this
  exact Int.natAbs_dvd_natAbs.mp (by rw [Int.natAbs_natCast]; exact h2.dvd_of_dvd_mul_left h1)
theorem dvd_neg1 {n : Nat} (x : Int) (hd : (n : Int) ∣ (-1) * x) : (n : Int) ∣ x := by
  have : (-1) * x = -x := by omega
  rw [this] at hd
  exact Int.dvd_neg.mp hd
theorem still_good (n : Nat) : GoodF n (fun a _ => a) := ⟨⟨fun _ _ h _ => h, fun _ _ _ _ _ _ e => e⟩, fun _ _ => rfl, fun _ _ _ _ _ _ => rfl⟩
theorem swap_good (n : Nat) : GoodF n (fun a b => if 2 < n ∧ a < 2 ∧ b + 1 = n then 1 - a else a) where
  lt a b ha hb := by split <;> omega
  r1 a ha := by split <;> omega
  r2 x y b hx hy hb e := by split at e <;> split at e <;> omega
  r3 a b c ha hb hc := by repeat' split
                          all_goals omega
theorem round_good (n : Nat) : GoodF n (fun a b => if a + 1 < n ∧ b + 1 = n then (if a + 2 < n then a + 1 else 0) else a) where
  lt a b ha hb := by repeat' split
                     all_goals omega
  r1 a ha := by repeat' split
                all_goals omega
  r2 x y b hx hy hb e := by repeat' split at e
                            all_goals omega
  r3 a b c ha hb hc := by repeat' split
                          all_goals omega
/-- side by side -/
def sideF (h : Nat) (f g : Nat → Nat → Nat) (a b : Nat) : Nat := if a < h ∧ b < h then f a b else if h ≤ a ∧ h ≤ b then h + g (a - h) (b - h) else a
theorem side_good {h m : Nat} {f g : Nat → Nat → Nat} (F : GoodF h f) (G : GoodF m g) : GoodF (h + m) (sideF h f g) := by
  have s1 : ∀ a b, a < h → b < h → sideF h f g a b = f a b := fun a b ha hb => by unfold sideF; rw [if_pos ⟨ha, hb⟩]
  have s2 : ∀ a b, sideF h f g (h + a) (h + b) = h + g a b := fun a b => by unfold sideF; rw [if_neg (by omega), if_pos (by omega), Nat.add_sub_cancel_left, Nat.add_sub_cancel_left]
  have s3 : ∀ a b, a < h → sideF h f g a (h + b) = a := fun a b ha => by unfold sideF; rw [if_neg (by omega), if_neg (by omega)]
  have s4 : ∀ a b, b < h → sideF h f g (h + a) b = h + a := fun a b ha => by unfold sideF; rw [if_neg (by omega), if_neg (by omega)]
  have up : ∀ a, h ≤ a → ∃ a', a = h + a' := fun a ha => ⟨a - h, by omega⟩
  refine ⟨⟨fun a b ha hb => ?_, fun x y b hx hy hb e => ?_⟩, fun a ha => ?_, fun a b c ha hb hc => ?_⟩
  · by_cases h1 : a < h <;> by_cases h2 : b < h
    · rw [s1 a b h1 h2]; have := F.lt a b h1 h2; omega
    · obtain ⟨b, rfl⟩ := up b (by omega); rw [s3 a b h1]; omega
    · obtain ⟨a, rfl⟩ := up a (by omega); rw [s4 a b h2]; omega
    · obtain ⟨a, rfl⟩ := up a (by omega); obtain ⟨b, rfl⟩ := up b (by omega)
      rw [s2]; have := G.lt a b (by omega) (by omega); omega
  · by_cases h1 : x < h <;> by_cases h2 : y < h <;> by_cases h3 : b < h
    · rw [s1 _ _ h1 h3, s1 _ _ h2 h3] at e; exact F.r2 x y b h1 h2 h3 e
    · obtain ⟨b, rfl⟩ := up b (by omega); rw [s3 _ _ h1, s3 _ _ h2] at e; exact e
    · obtain ⟨y, rfl⟩ := up y (by omega); rw [s1 _ _ h1 h3, s4 _ _ h3] at e; have := F.lt x b h1 h3; omega
    · obtain ⟨y, rfl⟩ := up y (by omega); obtain ⟨b, rfl⟩ := up b (by omega); rw [s3 _ _ h1, s2] at e; omega
    · obtain ⟨x, rfl⟩ := up x (by omega); rw [s4 _ _ h3, s1 _ _ h2 h3] at e; have := F.lt y b h2 h3; omega
    · obtain ⟨x, rfl⟩ := up x (by omega); obtain ⟨b, rfl⟩ := up b (by omega); rw [s2, s3 _ _ h2] at e; omega
    · obtain ⟨x, rfl⟩ := up x (by omega); obtain ⟨y, rfl⟩ := up y (by omega); rw [s4 _ _ h3, s4 _ _ h3] at e; exact e
    · obtain ⟨x, rfl⟩ := up x (by omega); obtain ⟨y, rfl⟩ := up y (by omega); obtain ⟨b, rfl⟩ := up b (by omega)
      rw [s2, s2] at e
      rw [G.r2 x y b (by omega) (by omega) (by omega) (by omega)]
  · by_cases h1 : a < h
    · rw [s1 _ _ h1 h1, F.r1 a h1]
    · obtain ⟨a, rfl⟩ := up a (by omega); rw [s2, G.r1 a (by omega)]
  · by_cases h1 : a < h <;> by_cases h2 : b < h <;> by_cases h3 : c < h
    · rw [s1 a b h1 h2, s1 a c h1 h3, s1 b c h2 h3, s1 _ _ (F.lt a b h1 h2) h3, s1 _ _ (F.lt a c h1 h3) (F.lt b c h2 h3)]; exact F.r3 a b c h1 h2 h3
    · obtain ⟨c, rfl⟩ := up c (by omega)
      rw [s1 a b h1 h2, s3 a c h1, s3 b c h2, s3 _ c (F.lt a b h1 h2), s1 a b h1 h2]
    · obtain ⟨b, rfl⟩ := up b (by omega)
      rw [s3 a b h1, s4 b c h3, s1 a c h1 h3, s3 _ b (F.lt a c h1 h3)]
    · obtain ⟨b, rfl⟩ := up b (by omega); obtain ⟨c, rfl⟩ := up c (by omega)
      rw [s3 a b h1, s3 a c h1, s2 b c, s3 _ _ h1]
    · obtain ⟨a, rfl⟩ := up a (by omega)
      rw [s4 a b h2, s4 a c h3, s1 b c h2 h3, s4 _ _ (F.lt b c h2 h3)]
    · obtain ⟨a, rfl⟩ := up a (by omega); obtain ⟨c, rfl⟩ := up c (by omega)
      rw [s4 a b h2, s2 a c, s3 b c h2, s4 _ _ h2]
    · obtain ⟨a, rfl⟩ := up a (by omega); obtain ⟨b, rfl⟩ := up b (by omega)
      rw [s2 a b, s4 _ c h3, s4 a c h3, s4 b c h3, s2 a b]
    · obtain ⟨a, rfl⟩ := up a (by omega); obtain ⟨b, rfl⟩ := up b (by omega); obtain ⟨c, rfl⟩ := up c (by omega)
      rw [s2 a b, s2 a c, s2 b c, s2, s2, G.r3 a b c (by omega) (by omega) (by omega)]
/-- the number that is drawn at a, b -/
def cellI (way n k a b : Int) : Int :=
  if way = 1 then (2 * b - a) % n else if way = 2 then (k * a + (1 - k) * b) % n else if way = 3 ∧ n > 2 ∧ a < 2 ∧ b = n - 1 then 1 - a else
  if way = 6 ∧ a < n - 1 ∧ b = n - 1 then (a + 1) % (n - 1) else if way = 4 ∧ a < n / 2 ∧ b < n / 2 then (2 * b - a) % (n / 2) else
  if way = 4 ∧ a ≥ n / 2 ∧ b ≥ n / 2 then n / 2 + (2 * b - a - n / 2) % (n - n / 2) else a
def cellF (way k : Int) (n a b : Nat) : Nat := (cellI way n k a b).toNat
theorem lin_neg1 (n : Int) (a b : Int) : (2 * b - a) % n = linI (-1) n a b := by
  unfold linI
  congr 1
  omega
theorem cell_good {way k : Int} {n : Nat} (hn : 0 < n) (hk : Int.gcd k n = 1) : GoodF n (cellF way k n) ∧ ∀ a b, a < n → b < n → ((cellF way k n a b : Nat) : Int) = cellI way n k a b := by
  suffices h : ∃ f, GoodF n f ∧ ∀ a b, a < n → b < n → ((f a b : Nat) : Int) = cellI way n k a b by
    obtain ⟨f, g, e⟩ := h
    have e2 : ∀ a b, a < n → b < n → cellF way k n a b = f a b := fun a b ha hb => by unfold cellF; rw [← e a b ha hb]; omega
    exact ⟨g.congr e2, fun a b ha hb => by rw [e2 a b ha hb]; exact e a b ha hb⟩
  unfold cellI
  by_cases w1 : way = 1
  · refine ⟨_, lin_good (k := -1) hn dvd_neg1, fun a b ha hb => ?_⟩
    rw [if_pos w1, linF_cast hn, lin_neg1]
  by_cases w2 : way = 2
  · refine ⟨_, lin_good (k := k) hn (dvd_of_gcd hk), fun a b ha hb => ?_⟩
    rw [if_neg w1, if_pos w2, linF_cast hn]; rfl
  by_cases w3 : way = 3
  · refine ⟨_, swap_good n, fun a b ha hb => ?_⟩
    rw [if_neg w1, if_neg w2]
    by_cases c : 2 < n ∧ a < 2 ∧ b + 1 = n
    · rw [if_pos c, if_pos ⟨w3, by omega, by omega, by omega⟩]; omega
    · rw [if_neg c, if_neg (fun z => c ⟨by omega, by omega, by omega⟩), if_neg (fun z => by omega), if_neg (fun z => by omega), if_neg (fun z => by omega)]
  by_cases w6 : way = 6
  · refine ⟨_, round_good n, fun a b ha hb => ?_⟩
    have n3 : ¬ (way = 3 ∧ (n : Int) > 2 ∧ (a : Int) < 2 ∧ (b : Int) = n - 1) := fun z => w3 z.1
    by_cases c : a + 1 < n ∧ b + 1 = n
    · have y6 : way = 6 ∧ (a : Int) < n - 1 ∧ (b : Int) = n - 1 := ⟨w6, by omega, by omega⟩
      rw [if_pos c, if_neg w1, if_neg w2, if_neg n3, if_pos y6]
      by_cases c2 : a + 2 < n
      · rw [if_pos c2, Int.emod_eq_of_lt (by omega) (by omega)]; omega
      · rw [if_neg c2]
        have : (a : Int) + 1 = (n : Int) - 1 := by omega
        rw [this, Int.emod_self]; rfl
    · rw [if_neg c, if_neg w1, if_neg w2, if_neg n3, if_neg (fun z => c ⟨by omega, by omega⟩), if_neg (fun z => by omega), if_neg (fun z => by omega)]
  by_cases w4 : way = 4
  · have hh : ∀ m : Nat, 0 < m → GoodF m (linF (-1) m) := fun m hm => lin_good hm dvd_neg1
    by_cases h0 : n / 2 = 0
    · have hn1 : n = 1 := by omega
      subst hn1
      refine ⟨_, still_good 1, fun a b ha hb => ?_⟩
      have : a = 0 := by omega
      have : b = 0 := by omega
      subst a b
      rw [if_neg w1, if_neg w2, if_neg (fun z => w3 z.1), if_neg (fun z => w6 z.1), if_neg (fun z => by omega), if_pos ⟨w4, by omega, by omega⟩]
      decide
    · have g := side_good (hh (n / 2) (by omega)) (hh (n - n / 2) (by omega))
      rw [show n / 2 + (n - n / 2) = n by omega] at g
      refine ⟨_, g, fun a b ha hb => ?_⟩
      have hc : ((n / 2 : Nat) : Int) = (n : Int) / 2 := by omega
      rw [if_neg w1, if_neg w2, if_neg (fun z => w3 z.1), if_neg (fun z => w6 z.1)]
      unfold sideF
      by_cases c1 : a < n / 2 ∧ b < n / 2
      · rw [if_pos c1, if_pos ⟨w4, by omega, by omega⟩, linF_cast (by omega), ← lin_neg1, hc]
      · have m4 : ¬ (way = 4 ∧ (a : Int) < (n : Int) / 2 ∧ (b : Int) < (n : Int) / 2) := fun z => c1 ⟨by omega, by omega⟩
        rw [if_neg c1, if_neg m4]
        by_cases c2 : n / 2 ≤ a ∧ n / 2 ≤ b
        · have y4 : way = 4 ∧ (a : Int) ≥ (n : Int) / 2 ∧ (b : Int) ≥ (n : Int) / 2 := ⟨w4, by omega, by omega⟩
          rw [if_pos c2, if_pos y4]
          have hm : (((n - n / 2 : Nat)) : Int) = (n : Int) - (n : Int) / 2 := by omega
          have := linF_cast (k := -1) (n := n - n / 2) (by omega) (a - n / 2) (b - n / 2)
          rw [← lin_neg1, hm] at this
          rw [show 2 * (b : Int) - a - (n : Int) / 2 = 2 * ((b - n / 2 : Nat) : Int) - ((a - n / 2 : Nat) : Int) by omega, ← this]
          omega
        · rw [if_neg c2, if_neg (fun z => c2 ⟨by omega, by omega⟩)]
  refine ⟨_, still_good n, fun a b ha hb => ?_⟩
  rw [if_neg w1, if_neg w2, if_neg (fun z => w3 z.1), if_neg (fun z => w6 z.1), if_neg (fun z => w4 z.1), if_neg (fun z => w4 z.1)]
/-- the field of four -/
def fourF (a b : Nat) : Nat := (([[0, 3, 1, 2], [2, 1, 3, 0], [3, 0, 2, 1], [1, 2, 0, 3]] : List (List Nat)).getD a []).getD b 0
theorem four_good : GoodF 4 fourF := by
  have h1 : ∀ a, a < 4 → ∀ b, b < 4 → fourF a b < 4 := by decide +kernel
  have h2 : ∀ b, b < 4 → ∀ x, x < 4 → ∀ y, y < 4 → fourF x b = fourF y b → x = y := by decide +kernel
  have h3 : ∀ a, a < 4 → fourF a a = a := by decide +kernel
  have h4 : ∀ a, a < 4 → ∀ b, b < 4 → ∀ c, c < 4 → fourF (fourF a b) c = fourF (fourF a c) (fourF b c) := by decide +kernel
  exact ⟨⟨fun a b ha hb => h1 a ha b hb, fun x y b hx hy hb => h2 b hb x hx y hy⟩, h3, fun a b c ha hb hc => h4 a ha b hb c hc⟩
theorem four_tab : tabOf 4 fourF = [[0, 3, 1, 2], [2, 1, 3, 0], [3, 0, 2, 1], [1, 2, 0, 3]] := by decide +kernel
end My

/-! ### tables of colours on the heap -/
namespace My
open PySem L2
theorem ite_bothT {c A B : Prop} [Decidable c] (h : B) (k : c → B → A) : if c then A else B := by
  by_cases e : c
  · rw [if_pos e]; exact k e h
  · rw [if_neg e]; exact h
theorem iteNE {c A B : Prop} [Decidable c] (hc : ¬ c) (h : A) : if (!decide c) = true then A else B := by
  rw [decide_eq_false hc]
  exact iteT h
structure TbAt (H : Hp) (r : Addr) (ads : List Addr) (n : Nat) (f : Nat → Nat → Nat) : Prop where
  la : H r = some (.lst (ads.map V.ref))
  wa : WsAt H ads (tabOf n f)
theorem TbAt.keep {H H' : Hp} {r : Addr} {ads : List Addr} {n : Nat} {f : Nat → Nat → Nat} (s : Same H H') (h : TbAt H r ads n f) : TbAt H' r ads n f := ⟨s _ _ h.la, h.wa.keep s⟩
theorem TbAt.len {H : Hp} {r : Addr} {ads : List Addr} {n : Nat} {f : Nat → Nat → Nat} (h : TbAt H r ads n f) : ads.length = n := by rw [h.wa.len, tabOf_length]
theorem TbAt.row {H : Hp} {r : Addr} {ads : List Addr} {n : Nat} {f : Nat → Nat → Nat} (h : TbAt H r ads n f) {a : Nat} (ha : a < n) : ∃ b, ads[a]? = some b ∧ H b = some (.lst ((rowOf n f a).map V.int)) :=
  Paired.getR (F := fun (b : Addr) (w : List Int) => H b = some (.lst (w.map V.int))) h.wa (tabOf_get ha)
theorem TbAt.rowAt {H : Hp} {r : Addr} {ads : List Addr} {n : Nat} {f : Nat → Nat → Nat} (h : TbAt H r ads n f) {a : Nat} {b : Addr} (e : ads[a]? = some b) : a < n ∧ H b = some (.lst ((rowOf n f a).map V.int)) := by
  obtain ⟨w, e1, e2⟩ := Paired.getL h.wa e
  obtain ⟨ha, rfl⟩ := tabOf_at e1
  exact ⟨ha, e2⟩
theorem TbAt.congr {H : Hp} {r : Addr} {ads : List Addr} {n : Nat} {f g : Nat → Nat → Nat} (h : TbAt H r ads n f) (e : ∀ a b, a < n → b < n → f a b = g a b) : TbAt H r ads n g := ⟨h.la, by rw [← tabOf_congr e]; exact h.wa⟩
theorem TbAt.enc {K : PySem.W.Frag} {H : Hp} {r : Addr} {ads : List Addr} {n : Nat} {f : Nat → Nat → Nat} (h : TbAt H r ads n f) : rL (rL rInt) K H (.ref r) (tabOf n f) := ⟨_, _, rfl, SqL.of h.la, h.wa.enc⟩
structure NewTb (H0 H : Hp) (r : Addr) (ads : List Addr) (n : Nat) (f : Nat → Nat → Nat) : Prop where
  n0 : H0 r = none
  la : H r = some (.lst (ads.map V.ref))
  wa : WsAt H ads (tabOf n f)
  fr : ∀ x ∈ ads, H0 x = none
  nr : r ∉ ads
  nd : ads.Nodup
theorem NewTb.at {H0 H : Hp} {r : Addr} {ads : List Addr} {n : Nat} {f : Nat → Nat → Nat} (h : NewTb H0 H r ads n f) : TbAt H r ads n f := ⟨h.la, h.wa⟩
theorem NewTb.old {H0 H1 H : Hp} {r : Addr} {ads : List Addr} {n : Nat} {f : Nat → Nat → Nat} (h : NewTb H1 H r ads n f) (s : Same H0 H1) : NewTb H0 H r ads n f := ⟨s.free h.n0, h.la, h.wa, fun x hx => s.free (h.fr x hx), h.nr, h.nd⟩
theorem nodup_snocT {α : Type} {l : List α} {x : α} (h : l.Nodup) (hx : x ∉ l) : (l ++ [x]).Nodup := by
  rw [List.nodup_append]
  exact ⟨h, by simp, fun a ha b hb e => hx (by rw [← List.mem_singleton.mp hb, ← e]; exact ha)⟩
/-- an order of the colours as a list -/
def ordL (n : Nat) (p : Nat → Nat) : List Int := (List.range n).map fun a => (p a : Int)
theorem ordL_length (n : Nat) (p : Nat → Nat) : (ordL n p).length = n := by simp [ordL]
theorem ordL_get {n : Nat} {p : Nat → Nat} {a : Nat} (h : a < n) : (ordL n p)[a]? = some (p a : Int) := by
  unfold ordL; rw [List.getElem?_map, List.getElem?_range h]; rfl
theorem perm_ordL {n : Nat} {ms : List Int} (h : ms.Perm ((List.range n).map fun i => ((i : Nat) : Int))) : ∃ p q, ms = ordL n p ∧ PermN n p q := by
  have hl : ms.length = n := by rw [h.length_eq]; simp
  have hget : ∀ a, a < n → ∃ v : Nat, ms[a]? = some (v : Int) ∧ v < n := fun a ha => by
    have hm : ms[a]'(by omega) ∈ (List.range n).map fun i => ((i : Nat) : Int) := h.mem_iff.mp (List.getElem_mem _)
    obtain ⟨v, hv, e⟩ := List.mem_map.mp hm
    exact ⟨v, by rw [List.getElem?_eq_getElem (by omega), e], List.mem_range.mp hv⟩
  have hnd : ms.Nodup := by
    refine h.nodup_iff.mpr ?_
    rw [List.nodup_iff_pairwise_ne, List.pairwise_map]
    refine List.Pairwise.imp (fun {a b} hab e => ?_) List.pairwise_lt_range
    have : a = b := by omega
    omega
  let p : Nat → Nat := fun a => ((ms[a]?).getD 0).toNat
  have hp : ∀ a, a < n → ms[a]? = some (p a : Int) ∧ p a < n := fun a ha => by
    obtain ⟨v, e, hv⟩ := hget a ha
    have : p a = v := by show ((ms[a]?).getD 0).toNat = v; rw [e]; rfl
    rw [this]; exact ⟨e, hv⟩
  obtain ⟨q, hq⟩ := perm_of (n := n) (p := p) (fun a ha => (hp a ha).2) fun a b ha hb e => by
    have e1 := (hp a ha).1
    have e2 := (hp b hb).1
    rw [← e] at e2
    have h1 : ms[a]'(by omega) = ms[b]'(by omega) := by
      rw [List.getElem?_eq_getElem (by omega)] at e1 e2
      rw [Option.some.inj e1, Option.some.inj e2]
    have hpw := List.pairwise_iff_getElem.mp hnd
    rcases Nat.lt_trichotomy a b with z | z | z
    · exact absurd h1 (hpw a b (by omega) (by omega) z)
    · exact z
    · exact absurd h1.symm (hpw b a (by omega) (by omega) z)
  refine ⟨p, q, ?_, hq⟩
  apply List.ext_getElem?
  intro a
  by_cases ha : a < n
  · rw [ordL_get ha, (hp a ha).1]
  · rw [List.getElem?_eq_none (by omega), List.getElem?_eq_none (by rw [ordL_length]; omega)]
/-! a table that is being relaid -/
def Ent (ws : List (List Int)) (i j : Nat) (v : Int) : Prop := ∃ row, ws[i]? = some row ∧ row[j]? = some v
structure Shape (n : Nat) (ws : List (List Int)) : Prop where
  len : ws.length = n
  row : ∀ r ∈ ws, r.length = n
def Laid (n : Nat) (ws : List (List Int)) (p : Nat → Nat) (f : Nat → Nat → Nat) (a b : Nat) : Prop := ∀ x y, x < n → y < n → (x < a ∨ (x = a ∧ y < b)) → Ent ws (p x) (p y) (p (f x y) : Int)
theorem Shape.tab (n : Nat) (f : Nat → Nat → Nat) : Shape n (tabOf n f) := ⟨tabOf_length n f, fun _ h => tab_mem h⟩
theorem Shape.get {n : Nat} {ws : List (List Int)} (h : Shape n ws) {i : Nat} (hi : i < n) : ∃ row, ws[i]? = some row ∧ row.length = n := by
  have hl := h.len
  exact ⟨_, List.getElem?_eq_getElem (by omega), h.row _ (List.getElem_mem _)⟩
theorem Shape.set {n : Nat} {ws : List (List Int)} (h : Shape n ws) {i j : Nat} {row : List Int} {v : Int} (e : ws[i]? = some row) : Shape n (ws.set i (row.set j v)) := by
  refine ⟨by rw [List.length_set]; exact h.len, fun r hr => ?_⟩
  rcases List.mem_or_eq_of_mem_set hr with h1 | h1
  · exact h.row r h1
  · rw [h1, List.length_set]; exact h.row row (List.mem_of_getElem? e)
theorem ent_set_same {n : Nat} {ws : List (List Int)} (h : Shape n ws) {i j : Nat} {row : List Int} {v : Int} (e : ws[i]? = some row) (hj : j < n) : Ent (ws.set i (row.set j v)) i j v := by
  have hi := (List.getElem?_eq_some_iff.mp e).1
  have hr := h.row row (List.mem_of_getElem? e)
  exact ⟨row.set j v, by rw [List.getElem?_set_self hi], by rw [List.getElem?_set_self (by omega)]⟩
theorem ent_set_other {ws : List (List Int)} {i j i' j' : Nat} {row : List Int} {v u : Int} (e : ws[i]? = some row) (h : Ent ws i' j' u) (ne : ¬ (i' = i ∧ j' = j)) : Ent (ws.set i (row.set j v)) i' j' u := by
  obtain ⟨r, e1, e2⟩ := h
  by_cases hi : i' = i
  · subst hi
    rw [e] at e1
    cases e1
    exact ⟨row.set j v, by rw [List.getElem?_set_self (List.getElem?_eq_some_iff.mp e).1], by rw [List.getElem?_set_ne (fun z => ne ⟨rfl, z.symm⟩)]; exact e2⟩
  · exact ⟨r, by rw [List.getElem?_set_ne (fun z => hi z.symm)]; exact e1, e2⟩
theorem Laid.step {n : Nat} {ws : List (List Int)} {p q : Nat → Nat} {f : Nat → Nat → Nat} {a b : Nat} {row : List Int} (hp : PermN n p q) (hs : Shape n ws) (d : Laid n ws p f a b) (ha : a < n) (hb : b < n) (e : ws[p a]? = some row) :
    Laid n (ws.set (p a) (row.set (p b) (p (f a b) : Int))) p f a (b + 1) := fun x y hx hy h => by
  by_cases hxy : x = a ∧ y = b
  · obtain ⟨rfl, rfl⟩ := hxy
    exact ent_set_same hs e (hp.lt _ hy)
  · refine ent_set_other e (d x y hx hy (by omega)) fun z => hxy ⟨?_, ?_⟩
    · rw [← hp.qp x hx, z.1, hp.qp a ha]
    · rw [← hp.qp y hy, z.2, hp.qp b hb]
theorem Laid.row {n : Nat} {ws : List (List Int)} {p : Nat → Nat} {f : Nat → Nat → Nat} {a : Nat} (d : Laid n ws p f a n) : Laid n ws p f (a + 1) 0 := fun x y hx hy h => d x y hx hy (by omega)
theorem Laid.tab {n : Nat} {ws : List (List Int)} {p q : Nat → Nat} {f : Nat → Nat → Nat} (hp : PermN n p q) (hs : Shape n ws) (d : Laid n ws p f n 0) : ws = tabOf n (fun x y => p (f (q x) (q y))) := by
  have hl := hs.len
  apply List.ext_getElem?
  intro i
  by_cases hi : i < n
  · rw [tabOf_get hi]
    obtain ⟨row, e, hr⟩ := hs.get hi
    rw [e]
    congr 1
    apply List.ext_getElem?
    intro j
    by_cases hj : j < n
    · rw [rowOf_get hj]
      obtain ⟨r2, e2, e3⟩ := d (q i) (q j) (hp.qlt i hi) (hp.qlt j hj) (.inl (hp.qlt i hi))
      rw [hp.pq i hi, e] at e2
      cases e2
      rw [hp.pq j hj] at e3
      exact e3
    · rw [List.getElem?_eq_none (by omega), List.getElem?_eq_none (by rw [rowOf_length]; omega)]
  · rw [List.getElem?_eq_none (by omega), List.getElem?_eq_none (by rw [tabOf_length]; omega)]
theorem four_new {H : Hp} {p1 p2 p3 p4 r : Addr} (g1 : H p1 = none) (g2 : (upd H p1 (.lst [V.int 0, V.int 3, V.int 1, V.int 2])) p2 = none) (g3 : (upd (upd H p1 (.lst [V.int 0, V.int 3, V.int 1, V.int 2])) p2 (.lst [V.int 2, V.int 1, V.int 3, V.int 0])) p3 = none) (g4 : (upd (upd (upd H p1 (.lst [V.int 0, V.int 3, V.int 1, V.int 2])) p2 (.lst [V.int 2, V.int 1, V.int 3, V.int 0])) p3 (.lst [V.int 3, V.int 0, V.int 2, V.int 1])) p4 = none) (g5 : (upd (upd (upd (upd H p1 (.lst [V.int 0, V.int 3, V.int 1, V.int 2])) p2 (.lst [V.int 2, V.int 1, V.int 3, V.int 0])) p3 (.lst [V.int 3, V.int 0, V.int 2, V.int 1])) p4 (.lst [V.int 1, V.int 2, V.int 0, V.int 3])) r = none) : Same H (upd (upd (upd (upd (upd H p1 (.lst [V.int 0, V.int 3, V.int 1, V.int 2])) p2 (.lst [V.int 2, V.int 1, V.int 3, V.int 0])) p3 (.lst [V.int 3, V.int 0, V.int 2, V.int 1])) p4 (.lst [V.int 1, V.int 2, V.int 0, V.int 3])) r (.lst [V.ref p1, V.ref p2, V.ref p3, V.ref p4])) ∧ NewTb H (upd (upd (upd (upd (upd H p1 (.lst [V.int 0, V.int 3, V.int 1, V.int 2])) p2 (.lst [V.int 2, V.int 1, V.int 3, V.int 0])) p3 (.lst [V.int 3, V.int 0, V.int 2, V.int 1])) p4 (.lst [V.int 1, V.int 2, V.int 0, V.int 3])) r (.lst [V.ref p1, V.ref p2, V.ref p3, V.ref p4])) r [p1, p2, p3, p4] 4 fourF := by
  have t1 := same_new g1 (.lst [V.int 0, V.int 3, V.int 1, V.int 2])
  have t2 := same_new g2 (.lst [V.int 2, V.int 1, V.int 3, V.int 0])
  have t3 := same_new g3 (.lst [V.int 3, V.int 0, V.int 2, V.int 1])
  have t4 := same_new g4 (.lst [V.int 1, V.int 2, V.int 0, V.int 3])
  have t5 := same_new g5 (.lst [V.ref p1, V.ref p2, V.ref p3, V.ref p4])
  have n12 : p1 ≠ p2 := ne_of_none upd_same g2
  have n13 : p1 ≠ p3 := ne_of_none (t2 _ _ upd_same) g3
  have n14 : p1 ≠ p4 := ne_of_none (t3 _ _ (t2 _ _ upd_same)) g4
  have n15 : p1 ≠ r := ne_of_none (t4 _ _ (t3 _ _ (t2 _ _ upd_same))) g5
  have n23 : p2 ≠ p3 := ne_of_none upd_same g3
  have n24 : p2 ≠ p4 := ne_of_none (t3 _ _ upd_same) g4
  have n25 : p2 ≠ r := ne_of_none (t4 _ _ (t3 _ _ upd_same)) g5
  have n34 : p3 ≠ p4 := ne_of_none upd_same g4
  have n35 : p3 ≠ r := ne_of_none (t4 _ _ upd_same) g5
  have n45 : p4 ≠ r := ne_of_none upd_same g5
  refine ⟨(((t1.trans t2).trans t3).trans t4).trans t5, ⟨(((t1.trans t2).trans t3).trans t4).free g5, upd_same, ?_, ?_, ?_, ?_⟩⟩
  · rw [four_tab]
    exact .cons (t5 _ _ (t4 _ _ (t3 _ _ (t2 _ _ upd_same)))) (.cons (t5 _ _ (t4 _ _ (t3 _ _ upd_same))) (.cons (t5 _ _ (t4 _ _ upd_same)) (.cons (t5 _ _ upd_same) .nil)))
  · intro x hx
    simp only [List.mem_cons, List.mem_nil_iff, or_false] at hx
    rcases hx with e | e | e | e
    · rw [e]; exact g1
    · rw [e]; exact t1.free g2
    · rw [e]; exact (t1.trans t2).free g3
    · rw [e]; exact ((t1.trans t2).trans t3).free g4
  · simp only [List.mem_cons, List.mem_nil_iff, or_false]
    rintro (e | e | e | e)
    · exact n15 e.symm
    · exact n25 e.symm
    · exact n35 e.symm
    · exact n45 e.symm
  · simp [n12, n13, n14, n23, n24, n34]
theorem coprime_far (n : Nat) : Int.gcd (30 * (n : Int) + 1) n = 1 := by
  have e : 30 * (n : Int) + 1 = ((30 * n + 1 : Nat) : Int) := by omega
  rw [e]
  show Nat.gcd (30 * n + 1) n = 1
  have h1 := Nat.gcd_dvd_left (30 * n + 1) n
  have h2 := Nat.gcd_dvd_right (30 * n + 1) n
  have h3 := (Nat.dvd_add_right (Nat.dvd_trans h2 (Nat.dvd_mul_left n 30))).mp h1
  exact Nat.dvd_one.mp h3
theorem V.iff {x y : Int} (h : V.int x = V.int y) : x = y := V.int.inj h

/-! ### what the generators promise -/
def sp_cell_of (_ : PySem.W.Frag) : Sp := fun vs H Q _ => ∃ (way k a b : Int) (n : Nat), vs = [.int way, .int n, .int k, .int a, .int b] ∧ 1 ≤ n ∧ n ≤ 24 ∧ 0 ≤ a ∧ a < n ∧ 0 ≤ b ∧ b < n ∧ 0 ≤ k ∧ k ≤ 1000 ∧ Q (.int (cellI way n k a b)) H
def sp_common (_ : PySem.W.Frag) : Sp := fun vs H Q _ => ∃ x y : Int, vs = [.int x, .int y] ∧ Q (.int (Int.gcd x y : Nat)) H
def sp_made (_ : PySem.W.Frag) : Sp := fun vs H Q _ => ∃ (way k : Int) (n : Nat), vs = [.int way, .int n, .int k] ∧ 1 ≤ n ∧ n ≤ 24 ∧ 0 ≤ k ∧ k ≤ 30 ∧
  ∀ (r : Addr) (ads : List Addr) (f : Nat → Nat → Nat) (H' : Hp), Same H H' → NewTb H H' r ads n f → GoodF n f → Q (.ref r) H'
def sp_ordered (_ : PySem.W.Frag) : Sp := fun vs H Q _ => ∃ (z : Addr) (zs : List Int) (n : Nat), vs = [.ref z, .int n] ∧ H z = some (.lst (zs.map V.int)) ∧ n ≤ zs.length ∧ n ≤ 24 ∧
  ∀ (r : Addr) (p q : Nat → Nat) (H' : Hp), Same H H' → H r = none → H' r = some (.lst ((ordL n p).map V.int)) → PermN n p q → Q (.ref r) H'
def sp_relaid (_ : PySem.W.Frag) : Sp := fun vs H Q _ => ∃ (t o : Addr) (ads : List Addr) (n : Nat) (f : Nat → Nat → Nat) (p q : Nat → Nat), vs = [.ref t, .ref o] ∧ TbAt H t ads n f ∧ H o = some (.lst ((ordL n p).map V.int)) ∧ PermN n p q ∧ (∀ a b, a < n → b < n → f a b < n) ∧ n ≤ 24 ∧
  ∀ (r : Addr) (ads' : List Addr) (H' : Hp), Same H H' → NewTb H H' r ads' n (fun x y => p (f (q x) (q y))) → Q (.ref r) H'
def sp_table (K : PySem.W.Frag) : Sp := fun vs H Q _ => ∃ (a : Addr) (ns : List Int) (p most : Int), vs = [.ref a, .int p, .int most] ∧ SqL K H a (ns.map V.int) ∧ ns.length ≤ 63 ∧ 0 ≤ p ∧ p ≤ 36 ∧ 1 ≤ most ∧ most ≤ 24 ∧
  ∀ (r : Addr) (ads : List Addr) (n : Nat) (f : Nat → Nat → Nat) (H' : Hp), Same H H' → NewTb H H' r ads n f → GoodF n f → 1 ≤ n → (n : Int) ≤ most → Q (.ref r) H'
def sp_law (K : PySem.W.Frag) : Sp := fun vs H Q _ => ∃ (a : Addr) (ns : List Int), vs = [.ref a] ∧ SqL K H a (ns.map V.int) ∧ ns.length ≤ 63 ∧ ∀ H', Q (.bl true) H'
end My

namespace My
open PySem L2
/-! ### the first breach -/
def fs {α : Type} (n : Nat) (g : Nat → Option α) : Option α := (List.range n).findSome? g
def g1 (f : Nat → Nat → Nat) (a : Nat) : Option (List Int) := if f a a = a then none else some [1, (a : Int)]
def gs (n : Nat) (c : Nat → Nat) (x : Nat) : Option (List Int) := fs n fun y => if x < y ∧ c x = c y then some [(x : Int), (y : Int)] else none
def sm (n : Nat) (c : Nat → Nat) : Option (List Int) := fs n (gs n c)
def g2 (n : Nat) (f : Nat → Nat → Nat) (b : Nat) : Option (List Int) := (sm n fun x => f x b).map fun l => 2 :: (b : Int) :: l
def g3 (f : Nat → Nat → Nat) (a b c : Nat) : Option (List Int) := if f (f a b) c = f (f a c) (f b c) then none else some [3, (a : Int), (b : Int), (c : Int)]
def b1 (n : Nat) (f : Nat → Nat → Nat) : Option (List Int) := fs n (g1 f)
def b2 (n : Nat) (f : Nat → Nat → Nat) : Option (List Int) := fs n (g2 n f)
def b3 (n : Nat) (f : Nat → Nat → Nat) : Option (List Int) := fs n fun a => fs n fun b => fs n (g3 f a b)
/-- None, or a tuple of ints -/
def OptT (H : Hp) (v : V) (o : Option (List Int)) : Prop := (o = none ∧ v = .non) ∨ ∃ l p, o = some l ∧ v = .ref p ∧ H p = some (.tup (l.map V.int))
theorem OptT.keep {H H' : Hp} {v : V} {o : Option (List Int)} (s : Same H H') (h : OptT H v o) : OptT H' v o := by
  rcases h with h | ⟨l, p, e1, e2, e3⟩
  · exact .inl h
  · exact .inr ⟨l, p, e1, e2, s _ _ e3⟩
/-! spoilt tables -/
def InR (n : Nat) (ws : List (List Int)) : Prop := ∀ r ∈ ws, ∀ v ∈ r, 0 ≤ v ∧ v < (n : Int)
theorem InR.tab {n : Nat} {f : Nat → Nat → Nat} (h : ∀ a b, a < n → b < n → f a b < n) : InR n (tabOf n f) := fun r hr v hv => by
  unfold tabOf at hr
  obtain ⟨a, ha, rfl⟩ := List.mem_map.mp hr
  unfold rowOf at hv
  obtain ⟨b, hb, rfl⟩ := List.mem_map.mp hv
  have := h a b (List.mem_range.mp ha) (List.mem_range.mp hb)
  omega
theorem InR.set {n : Nat} {ws : List (List Int)} (h : InR n ws) {i j : Nat} {row : List Int} {v : Int} (e : ws[i]? = some row) (hv : 0 ≤ v ∧ v < (n : Int)) : InR n (ws.set i (row.set j v)) := fun r hr u hu => by
  rcases List.mem_or_eq_of_mem_set hr with h1 | h1
  · exact h r h1 u hu
  · subst h1
    rcases List.mem_or_eq_of_mem_set hu with h2 | h2
    · exact h row (List.mem_of_getElem? e) u h2
    · subst h2; exact hv
theorem tab_of {n : Nat} {ws : List (List Int)} (sh : Shape n ws) (hr : InR n ws) : ∃ f, ws = tabOf n f ∧ ∀ a b, a < n → b < n → f a b < n := by
  have hl := sh.len
  refine ⟨fun a b => ((ws.getD a []).getD b 0).toNat, ?_, fun a b ha hb => ?_⟩
  · apply List.ext_getElem?
    intro i
    by_cases hi : i < n
    · rw [tabOf_get hi]
      obtain ⟨row, e, hrl⟩ := sh.get hi
      rw [e]
      congr 1
      apply List.ext_getElem?
      intro j
      by_cases hj : j < n
      · rw [rowOf_get hj]
        have hgd : ws.getD i [] = row := by simp [List.getD, e]
        have hjr : row[j]? = some row[j] := List.getElem?_eq_getElem (by omega)
        have hv := hr row (List.mem_of_getElem? e) row[j] (List.getElem_mem _)
        rw [hgd, hjr]
        congr 1
        simp only [List.getD, hjr, Option.getD_some]
        omega
      · rw [List.getElem?_eq_none (by omega), List.getElem?_eq_none (by rw [rowOf_length]; omega)]
    · rw [List.getElem?_eq_none (by omega), List.getElem?_eq_none (by rw [tabOf_length]; omega)]
  · obtain ⟨row, e, hrl⟩ := sh.get ha
    have hgd : ws.getD a [] = row := by simp [List.getD, e]
    have hjr : row[b]? = some row[b] := List.getElem?_eq_getElem (by omega)
    have hv := hr row (List.mem_of_getElem? e) row[b] (List.getElem_mem _)
    show ((ws.getD a []).getD b 0).toNat < n
    rw [hgd]
    simp only [List.getD, hjr, Option.getD_some]
    omega
end My
namespace My
open PySem L2
/-- a table that is being written: new lists, at r -/
structure Wk (H H3 : Hp) (r : Addr) (nads : List Addr) (n : Nat) (ws : List (List Int)) : Prop where
  s : Same H H3
  r0 : H r = none
  fr : ∀ x ∈ nads, H x = none
  nr : r ∉ nads
  nd : nads.Nodup
  er : H3 r = some (.lst (nads.map V.ref))
  wa : WsAt H3 nads ws
  sh : Shape n ws
  ir : InR n ws
theorem Wk.put {H H3 : Hp} {r : Addr} {nads : List Addr} {n : Nat} {ws : List (List Int)} (w : Wk H H3 r nads n ws) {a b : Nat} {v : Int} {bp : Addr} {row : List Int} (hbp : nads[a]? = some bp) (erow : ws[a]? = some row) (v0 : 0 ≤ v) (v1 : v < (n : Int)) :
    Wk H (upd H3 bp (.lst ((row.map V.int).set b (.int v)))) r nads n (ws.set a (row.set b v)) := by
  have hm := List.mem_of_getElem? hbp
  refine ⟨w.s.own (w.fr bp hm) _, w.r0, w.fr, w.nr, w.nd, by rw [upd_ne (fun e => w.nr (by rw [e]; exact hm))]; exact w.er, ?_, w.sh.set erow, w.ir.set erow ⟨v0, v1⟩⟩
  rw [← List.map_set]
  exact WsAt.set w.wa w.nd hbp
theorem Wk.fin {H H3 : Hp} {r : Addr} {nads : List Addr} {n : Nat} {ws : List (List Int)} (w : Wk H H3 r nads n ws) : ∃ f, NewTb H H3 r nads n f ∧ ∀ a b, a < n → b < n → f a b < n := by
  obtain ⟨f, rfl, hf⟩ := tab_of w.sh w.ir
  exact ⟨f, ⟨w.r0, w.er, w.wa, w.fr, w.nr, w.nd⟩, hf⟩
theorem at_toNat {ns : List Int} {i : Int} {v : Int} (h0 : 0 ≤ i) (h : ns[i.toNat]? = some v) : atI (ns.map V.int) i = some (.int v) := at_of h (by omega)
theorem at_refN {ads : List Addr} {i : Int} {b : Addr} (h0 : 0 ≤ i) (h : ads[i.toNat]? = some b) : atI (ads.map V.ref) i = some (.ref b) := at_ref h (by omega)
end My

namespace My
open PySem L2
def GoodAt (f g : Nat → Nat → Nat) (im : List Int) (a b : Nat) : Prop := ∀ x y z : Int, im[a]? = some x → im[b]? = some y → im[f a b]? = some z → (g x.toNat y.toNat : Int) = z
def E3 (n : Nat) (f g : Nat → Nat → Nat) (im : List Int) : Prop := ∀ a b, a < n → b < n → GoodAt f g im a b
def ColR (m : Nat) (im : List Int) : Prop := ∀ v ∈ im, 0 ≤ v ∧ v < (m : Int)
def KP (n : Nat) (f : Nat → Nat → Nat) (m : Nat) (g : Nat → Nat → Nat) (im : List Int) : Prop := im.length = n ∧ ColR m im ∧ E3 n f g im
def LtF (n : Nat) (f : Nat → Nat → Nat) : Prop := ∀ a b, a < n → b < n → f a b < n
theorem ColR.get {m : Nat} {im : List Int} (h : ColR m im) {a : Nat} {x : Int} (e : im[a]? = some x) : 0 ≤ x ∧ x < (m : Int) := h x (List.mem_of_getElem? e)
theorem get_ex {im : List Int} {a : Nat} (h : a < im.length) : ∃ x, im[a]? = some x := ⟨_, List.getElem?_eq_getElem h⟩
theorem goodAt_of {f g : Nat → Nat → Nat} {im : List Int} {a b : Nat} {x y z : Int} (h1 : im[a]? = some x) (h2 : im[b]? = some y) (h3 : im[f a b]? = some z) (h : (g x.toNat y.toNat : Int) = z) : GoodAt f g im a b := fun x' y' z' e1 e2 e3 => by
  rw [h1] at e1; rw [h2] at e2; rw [h3] at e3
  cases e1; cases e2; cases e3
  exact h
def sp_equation_broken (_ : PySem.W.Frag) : Sp := fun vs H Q _ => ∃ (t o i : Addr) (tads oads : List Addr) (n m : Nat) (f g : Nat → Nat → Nat) (im : List Int) (a b x y z : Int) (j k : Nat), vs = [.ref t, .ref o, .ref i, .int a, .int b] ∧ a = j ∧ b = k ∧ TbAt H t tads n f ∧ TbAt H o oads m g ∧
  H i = some (.lst (im.map V.int)) ∧ im.length = n ∧ LtF n f ∧ j < n ∧ k < n ∧ im[j]? = some x ∧ im[k]? = some y ∧ im[f j k]? = some z ∧ 0 ≤ x ∧ x < m ∧ 0 ≤ y ∧ y < m ∧ Q (.bl (!decide (V.int (g x.toNat y.toNat : Nat) = V.int z))) H
def sp_first_breach (_ : PySem.W.Frag) : Sp := fun vs H Q _ => ∃ (t o i : Addr) (tads oads : List Addr) (n m : Nat) (f g : Nat → Nat → Nat) (im : List Int), vs = [.ref t, .ref o, .ref i] ∧ TbAt H t tads n f ∧ TbAt H o oads m g ∧
  H i = some (.lst (im.map V.int)) ∧ im.length = n ∧ LtF n f ∧ ColR m im ∧ n ≤ 24 ∧ ∀ v H', Same H H' → ((v = .non ∧ E3 n f g im) ∨ (∃ p, v = .ref p ∧ ¬ E3 n f g im)) → Q v H'
def sp_all_colours (_ : PySem.W.Frag) : Sp := fun vs H Q _ => ∃ (i : Addr) (im : List Int) (m : Nat), vs = [.ref i, .int m] ∧ H i = some (.lst (im.map V.int)) ∧ im.length ≤ 100 ∧ ∀ b H', Same H H' → (b = true ↔ ColR m im) → Q (.bl b) H'
def sp_keeping (_ : PySem.W.Frag) : Sp := fun vs H Q _ => ∃ (t o i : Addr) (tads oads : List Addr) (n m : Nat) (f g : Nat → Nat → Nat) (im : List Int), vs = [.ref t, .ref o, .ref i] ∧ TbAt H t tads n f ∧ TbAt H o oads m g ∧
  H i = some (.lst (im.map V.int)) ∧ im.length ≤ 100 ∧ LtF n f ∧ n ≤ 24 ∧ ∀ b H', Same H H' → (b = true ↔ KP n f m g im) → Q (.bl b) H'
def sp_due (_ : PySem.W.Frag) : Sp := fun vs H Q _ => ∃ (t o i : Addr) (tads oads : List Addr) (n m : Nat) (f g : Nat → Nat → Nat) (im : List Int), vs = [.ref t, .ref o, .ref i] ∧ TbAt H t tads n f ∧ TbAt H o oads m g ∧
  H i = some (.lst (im.map V.int)) ∧ LtF n f ∧ n ≤ 24 ∧ ∀ b, (b = true ↔ KP n f m g im) → Q (.bl b) H
def sp_copied (_ : PySem.W.Frag) : Sp := fun vs H Q _ => ∃ (t : Addr) (ads : List Addr) (n : Nat) (f : Nat → Nat → Nat), vs = [.ref t] ∧ TbAt H t ads n f ∧ n ≤ 24 ∧ ∀ (r : Addr) (ads' : List Addr) (H' : Hp), Same H H' → TbAt H' r ads' n f → Q (.ref r) H'
def sp_rare (_ : PySem.W.Frag) : Sp := fun vs H Q _ => ∃ (way : Int) (n : Nat), vs = [.int way, .int n] ∧ 4 ≤ n ∧ n ≤ 24 ∧ ∀ (r : Addr) (ads : List Addr) (f : Nat → Nat → Nat) (H' : Hp), Same H H' → TbAt H' r ads n f → LtF n f → Q (.ref r) H'
def sp_pair (K : PySem.W.Frag) : Sp := fun vs H Q _ => ∃ (a : Addr) (ns : List Int) (most : Int), vs = [.ref a, .int most] ∧ SqL K H a (ns.map V.int) ∧ ns.length ≤ 63 ∧ 1 ≤ most ∧ most ≤ 24 ∧
  ∀ (r t o : Addr) (tads oads : List Addr) (n m : Nat) (f g : Nat → Nat → Nat) (H' : Hp), Same H H' → H' r = some (.tup [.ref t, .ref o]) → TbAt H' t tads n f → TbAt H' o oads m g → LtF n f → LtF m g → 1 ≤ n → n ≤ 24 → 1 ≤ m → m ≤ 24 → Q (.ref r) H'
def sp_images (_ : PySem.W.Frag) : Sp := fun vs H Q _ => ∃ (t o s d : Addr) (tads oads : List Addr) (n m : Nat) (f g : Nat → Nat → Nat) (zs ds : List Int), vs = [.ref t, .ref o, .ref s, .ref d] ∧ TbAt H t tads n f ∧ TbAt H o oads m g ∧ 1 ≤ n ∧ n ≤ 24 ∧ 1 ≤ m ∧ m ≤ 24 ∧
  H s = some (.lst (zs.map V.int)) ∧ zs.length = 27 ∧ H d = some (.lst (ds.map V.int)) ∧ ds.length = n ∧ ∀ (r : Addr) (im : List Int) (H' : Hp), Same H H' → H' r = some (.lst (im.map V.int)) → im.length ≤ 100 → Q (.ref r) H'
theorem bools_all {bs : List Bool} : bs.all id = true ↔ ∀ b ∈ bs, b = true := by rw [List.all_eq_true]; rfl
theorem li_enc {K : PySem.W.Frag} {H : Hp} {o : Addr} {l : List Int} (h : H o = some (.lst (l.map V.int))) : rL rInt K H (.ref o) l := ⟨_, _, rfl, SqL.of h, paired_ints _⟩
theorem KP_id {n : Nat} {f : Nat → Nat → Nat} (hf : LtF n f) : KP n f n f ((List.range n).map fun i => ((i : Nat) : Int)) := by
  have ge : ∀ i, i < n → ((List.range n).map fun i => ((i : Nat) : Int))[i]? = some (i : Int) := fun i hi => by rw [List.getElem?_map, List.getElem?_range hi]; rfl
  refine ⟨by simp, fun v hv => ?_, fun a b ha hb => goodAt_of (ge a ha) (ge b hb) (ge _ (hf a b ha hb)) (by simp)⟩
  obtain ⟨i, hi, rfl⟩ := List.mem_map.mp hv
  have := List.mem_range.mp hi
  omega
theorem map_blen {α : Type} (f : α → Bool) (l : List α) : ((l.map f).map V.bl).length = l.length := by simp
end My
namespace My
open PySem L2
theorem rep_flat (k : Nat) (v : Int) : (List.replicate k [V.int v]).flatten = (List.replicate k v).map V.int := by
  induction k with
  | zero => rfl
  | succ k ih => rw [List.replicate_succ, List.flatten_cons, ih, List.replicate_succ]; rfl
theorem rep_flatL (k : Nat) (im : List Int) : (List.replicate k (im.map V.int)).flatten = ((List.replicate k im).flatten).map V.int := by
  induction k with
  | zero => rfl
  | succ k ih => rw [List.replicate_succ, List.flatten_cons, ih, List.replicate_succ, List.flatten_cons, List.map_append]
theorem cut_any (im : List Int) (lo hi : Option Int) : ∃ w : List Int, cutV (im.map V.int) lo hi = w.map V.int ∧ w.length ≤ im.length := by
  refine ⟨_, cutV_map im lo hi, ?_⟩
  rw [List.length_take, List.length_drop]
  omega
theorem cut_upto (im : List Int) (k : Nat) : ∃ w : List Int, cutV (im.map V.int) none (some (k : Int)) = w.map V.int ∧ w.length ≤ k := by
  refine ⟨_, cutV_map im none (some (k : Int)), ?_⟩
  rw [List.length_take, HT.sIx_nat]
  omega
theorem cut_mid (im : List Int) (a n : Nat) (h : a + n ≤ im.length) : ∃ w : List Int, cutV (im.map V.int) (some (a : Int)) (some ((a + n : Nat) : Int)) = w.map V.int ∧ w.length = n := by
  refine ⟨_, cutV_map im _ _, ?_⟩
  rw [List.length_take, List.length_drop, HT.sIx_nat, HT.sIx_nat]
  omega
end My

namespace My
open PySem L2
def top (i : Nat) : Stmt := PySem.Challenge.pw_plait_k48_images_that_keep.main.body.getD i (.Pass ⟨0, 0, 0, 0⟩)
abbrev s_all_colours : Stmt := top 1
abbrev s_first_breach : Stmt := top 3
abbrev s_equation_broken : Stmt := top 4
abbrev s_keeping : Stmt := top 5
abbrev s_cell : Stmt := top 7
abbrev s_mix : Stmt := top 8
abbrev s_row : Stmt := top 9
abbrev s_cell_of : Stmt := top 10
abbrev s_common : Stmt := top 11
abbrev s_made : Stmt := top 12
abbrev s_ordered : Stmt := top 13
abbrev s_relaid : Stmt := top 14
abbrev s_table : Stmt := top 15
abbrev s_copied : Stmt := top 16
abbrev s_rare : Stmt := top 17
abbrev s_pair : Stmt := top 18
abbrev s_due : Stmt := top 19
abbrev s_images : Stmt := top 20
abbrev s_law : Stmt := top 21
theorem pe_li_66_15 {X : Cx} : PE X (.List [.List [.Constant (.int 0) 0 ⟨66, 17, 66, 18⟩, .Constant (.int 3) 0 ⟨66, 20, 66, 21⟩, .Constant (.int 1) 0 ⟨66, 23, 66, 24⟩, .Constant (.int 2) 0 ⟨66, 26, 66, 27⟩] ⟨66, 16, 66, 28⟩, .List [.Constant (.int 2) 0 ⟨66, 31, 66, 32⟩, .Constant (.int 1) 0 ⟨66, 34, 66, 35⟩, .Constant (.int 3) 0 ⟨66, 37, 66, 38⟩, .Constant (.int 0) 0 ⟨66, 40, 66, 41⟩] ⟨66, 30, 66, 42⟩, .List [.Constant (.int 3) 0 ⟨66, 45, 66, 46⟩, .Constant (.int 0) 0 ⟨66, 48, 66, 49⟩, .Constant (.int 2) 0 ⟨66, 51, 66, 52⟩, .Constant (.int 1) 0 ⟨66, 54, 66, 55⟩] ⟨66, 44, 66, 56⟩, .List [.Constant (.int 1) 0 ⟨66, 59, 66, 60⟩, .Constant (.int 2) 0 ⟨66, 62, 66, 63⟩, .Constant (.int 0) 0 ⟨66, 65, 66, 66⟩, .Constant (.int 3) 0 ⟨66, 68, 66, 69⟩] ⟨66, 58, 66, 70⟩] ⟨66, 15, 66, 71⟩) (tLst (tCons (tLst (tCons (tC (.int 0)) (tCons (tC (.int 3)) (tCons (tC (.int 1)) (tCons (tC (.int 2)) tNil))))) (tCons (tLst (tCons (tC (.int 2)) (tCons (tC (.int 1)) (tCons (tC (.int 3)) (tCons (tC (.int 0)) tNil))))) (tCons (tLst (tCons (tC (.int 3)) (tCons (tC (.int 0)) (tCons (tC (.int 2)) (tCons (tC (.int 1)) tNil))))) (tCons (tLst (tCons (tC (.int 1)) (tCons (tC (.int 2)) (tCons (tC (.int 0)) (tCons (tC (.int 3)) tNil))))) tNil))))) := by
  refine pe_lst ?_
  refine pa_list ?_ ?_
  · exact pe_lst (pa_cons pe_int (pa_cons pe_int (pa_cons pe_int (pa_cons pe_int pa_nil))))
  refine pa_list ?_ ?_
  · exact pe_lst (pa_cons pe_int (pa_cons pe_int (pa_cons pe_int (pa_cons pe_int pa_nil))))
  refine pa_list ?_ ?_
  · exact pe_lst (pa_cons pe_int (pa_cons pe_int (pa_cons pe_int (pa_cons pe_int pa_nil))))
  refine pa_list ?_ ?_
  · exact pe_lst (pa_cons pe_int (pa_cons pe_int (pa_cons pe_int (pa_cons pe_int pa_nil))))
  exact pa_nil
structure Blt (mg : Str → Option Value) : Prop where
  b_abs : mg "abs" = none
  b_all : mg "all" = none
  b_bool : mg "bool" = none
  b_int : mg "int" = none
  b_isinstance : mg "isinstance" = none
  b_len : mg "len" = none
  b_list : mg "list" = none
  b_range : mg "range" = none
section
variable {P : Program} {w : World} {K : PySem.W.Frag} {mg : Str → Option Value} {base : Heap}
theorem sc_all_colours : FnScope ["numbers", "size"] ["numbers", "size"] (defScope s_all_colours) := ⟨rfl, rfl, rfl, by decide +kernel, rfl, by decide +kernel, by decide +kernel⟩
set_option maxHeartbeats 4000000 in
theorem ok_all_colours (D : Def K mg "all_colours" s_all_colours ["numbers", "size"])  (Z : Blt mg) : Fn P w K mg base 1 "all_colours" ["numbers", "size"] (sp_all_colours K) := by
  refine fn_mk D sc_all_colours (fun vs H Q E h => ?_) (fun f cdv A outer s H vs Q E hr h => ?_)
  · obtain ⟨i, im, m, rfl, _⟩ := h; rfl
  obtain ⟨i, im, m, rfl, hi, h100, q⟩ := h
  have hu := hu8 hr
  have hu1 := hu_of hr
  refine ⟨_, (pss_one (ps_ret (pe_callB (call_allL rfl) rfl Z.b_all PyProof.Rows.boot_all (pa_cons (pe_comp (defScope s_all_colours) ["numbers", "size"] ["number"] [(1, "size")] rfl (pi_list (pv 0)) (gk_name (by decide)) (fun cl C s H ex E => ⟨pg_name (i := 0) (show List.Nodup (["number", "size"] : List Str) by decide +kernel) rfl (Or.inl rfl), pts_nil, (pe_chain op_le op_lt pe_int (pv 0) (pv 1))⟩)) pa_nil)))), ?_⟩

  have hli := len_int im
  refine ⟨_, rfl, i, rfl, ⟨_, SqL.of hi⟩, ?_⟩
  refine comp_list (K := K) (a := i) (xs := im.map V.int) (fun k ys H2 => H2 = H ∧ ys = ((im.take k).map fun v => decide (0 ≤ v) && decide (v < (m : Int))).map V.bl) ⟨rfl, rfl⟩
    (fun k ys H2 hk ⟨e1, e2⟩ => ⟨by rw [e1]; exact SqL.of hi, by rw [e2, map_blen, List.length_take]; exact szle (by omega)⟩) ?_ ?_
  · rintro k y ys H2 hk ⟨rfl, rfl⟩
    obtain ⟨v, rfl, hv⟩ := int_at hk
    refine turn0 ?_
    refine ⟨_, rfl, _, _, rfl, rfl, _, rfl, ?_⟩
    refine ite2 (fun c => ⟨_, rfl, _, _, rfl, rfl, rfl, ?_⟩) (fun c => ⟨rfl, ?_⟩)
    · rw [take_succ' hv]; simp only [List.map_append, List.map_cons, List.map_nil]; rw [c]; rfl
    · rw [take_succ' hv]; simp only [List.map_append, List.map_cons, List.map_nil]; rw [Bool.eq_false_iff.mpr c]; rfl
  · rintro ys H2 u ⟨rfl, rfl⟩ hu
    rw [List.take_of_length_le (by omega)]
    refine ⟨u, _, rfl, SqL.of upd_same, q _ _ (same_new hu _) ?_⟩
    rw [bools_all]
    constructor
    · intro h v hv
      have := h _ (List.mem_map.mpr ⟨v, hv, rfl⟩)
      rw [Bool.and_eq_true] at this
      exact ⟨of_decide_eq_true this.1, of_decide_eq_true this.2⟩
    · intro h b hb
      obtain ⟨v, hv, rfl⟩ := List.mem_map.mp hb
      rw [decide_eq_true (h v hv).1, decide_eq_true (h v hv).2]; rfl
theorem sc_first_breach : FnScope ["one", "other", "images", "a", "b"] ["one", "other", "images"] (defScope s_first_breach) := ⟨rfl, rfl, rfl, by decide +kernel, rfl, by decide +kernel, by decide +kernel⟩
set_option maxHeartbeats 4000000 in
theorem ok_first_breach (D : Def K mg "first_breach" s_first_breach ["one", "other", "images"]) (g_equation_broken : Fn P w K mg base 1 "equation_broken" ["one", "other", "images", "a", "b"] (sp_equation_broken K)) (Z : Blt mg) : Fn P w K mg base 2 "first_breach" ["one", "other", "images"] (sp_first_breach K) := by
  refine fn_mk D sc_first_breach (fun vs H Q E h => ?_) (fun f cdv A outer s H vs Q E hr h => ?_)
  · obtain ⟨t, o, i, tads, oads, n, m, f, g, im, rfl, _⟩ := h; rfl
  obtain ⟨t, o, i, tads, oads, n, m, f, g, im, rfl, ht, ho, hi, hl, hf, hc, h24, q⟩ := h
  have hu := hu8 hr
  have hu1 := hu_of hr
  refine ⟨_, (pss_cons (ps_for PassesOwn.never rfl (pi_range1 rfl Z.b_range (pa_cons (pe_callB call_len_seq rfl Z.b_len PySem.boot_len (pa_cons (pv 2) pa_nil)) pa_nil)) (pg_name (i := 3) sc_first_breach.nd rfl (Or.inl rfl))
      (pss_one (ps_for PassesOwn.never rfl (pi_range1 rfl Z.b_range (pa_cons (pe_callB call_len_seq rfl Z.b_len PySem.boot_len (pa_cons (pv 2) pa_nil)) pa_nil)) (pg_name (i := 4) sc_first_breach.nd rfl (Or.inl rfl))
        (pss_one (ps_if (pt_val (pe_fn g_equation_broken hr (by decide) (pa_cons (pv 0) (pa_cons (pv 1) (pa_cons (pv 2) (pa_cons (pv 3) (pa_cons (pv 4) pa_nil)))))))
          (pss_one (ps_ret (pe_tup (pa_cons (pv 3) (pa_cons (pv 4) pa_nil)))))
          pss_nil)))))
    (pss_one (ps_ret pe_non))), ?_⟩

  have hli := len_int im
  have hi1 := SqL.of (K := K) hi
  refine ⟨_, rfl, i, _, rfl, .inl hi1, _, rfl, by omega, by omega, ?_⟩
  refine for_range (n := ((im.map V.int).length : Int).toNat) (fun j σ H2 => ∃ aa bb : Option V, σ = [some (.ref t), some (.ref o), some (.ref i), aa, bb] ∧ H2 = H ∧ ∀ a b, a < j → b < n → GoodAt f g im a b) ⟨none, none, rfl, rfl, fun a b ha => by omega⟩ ?_ ?_
  · rintro j σ H2 hj ⟨aa, bb, rfl, rfl, hno⟩
    have hjn : j < n := by omega
    refine ⟨_, rfl, i, _, rfl, .inl hi1, _, rfl, by omega, by omega, ?_⟩
    refine for_range (n := ((im.map V.int).length : Int).toNat) (fun k σ H3 => ∃ bb : Option V, σ = [some (.ref t), some (.ref o), some (.ref i), some (.int (0 + (j : Int))), bb] ∧ H3 = H2 ∧ ∀ b, b < k → GoodAt f g im j b) ⟨bb, rfl, rfl, fun b hb => by omega⟩ ?_ ?_
    · rintro k σ H3 hk ⟨bb, rfl, rfl, hno2⟩
      have hkn : k < n := by omega
      have hfl := hf j k hjn hkn
      obtain ⟨x, ex⟩ := get_ex (im := im) (a := j) (by omega)
      obtain ⟨y, ey⟩ := get_ex (im := im) (a := k) (by omega)
      obtain ⟨z, ez⟩ := get_ex (im := im) (a := f j k) (by omega)
      have cx := hc.get ex
      have cy := hc.get ey
      refine ⟨_, rfl, _, rfl, _, rfl, _, rfl, _, rfl, t, o, i, tads, oads, n, m, f, g, im, _, _, x, y, z, j, k, rfl, by omega, by omega, ht, ho, hi, hl, hf, hjn, hkn, ex, ey, ez, cx.1, cx.2, cy.1, cy.2, _, rfl, ?_⟩
      by_cases c : ((g x.toNat y.toNat : Nat) : Int) = z
      · exact iteNS (by rw [c]) ⟨_, rfl, rfl, fun b hb => by
          by_cases e : b = k
          · subst e; exact goodAt_of ex ey ez c
          · exact hno2 b (by omega)⟩
      · refine iteNE (fun e => c (V.iff e)) ?_
        exact ⟨_, rfl, _, rfl, (by show 2 ≤ sizeLine; decide), fun p hp => q _ _ (same_new hp _) (.inr ⟨p, rfl, fun h => c (h j k hjn hkn x y z ex ey ez)⟩)⟩
    · rintro σ H3 ⟨bb, rfl, rfl, hno2⟩
      refine ⟨_, _, rfl, rfl, fun a b ha hb => ?_⟩
      by_cases e : a = j
      · subst e; exact hno2 b (by omega)
      · exact hno a b (by omega) hb
  · rintro σ H2 ⟨aa, bb, rfl, rfl, hno⟩
    exact q _ _ (Same.refl _) (.inl ⟨rfl, fun a b ha hb => hno a b (by omega) hb⟩)
theorem sc_equation_broken : FnScope ["one", "other", "images", "a", "b", "result"] ["one", "other", "images", "a", "b"] (defScope s_equation_broken) := ⟨rfl, rfl, rfl, by decide +kernel, rfl, by decide +kernel, by decide +kernel⟩
set_option maxHeartbeats 4000000 in
theorem ok_equation_broken (D : Def K mg "equation_broken" s_equation_broken ["one", "other", "images", "a", "b"])  (Z : Blt mg) : Fn P w K mg base 1 "equation_broken" ["one", "other", "images", "a", "b"] (sp_equation_broken K) := by
  refine fn_mk D sc_equation_broken (fun vs H Q E h => ?_) (fun f cdv A outer s H vs Q E hr h => ?_)
  · obtain ⟨t, o, i, tads, oads, n, m, f, g, im, a, b, x, y, z, j, k, rfl, _⟩ := h; rfl
  obtain ⟨t, o, i, tads, oads, n, m, f, g, im, a, b, x, y, z, j, k, rfl, ea, eb, ht, ho, hi, hl, hf, hj, hk, ex, ey, ez, x0, x1, y0, y1, q⟩ := h
  have hu := hu8 hr
  have hu1 := hu_of hr
  refine ⟨_, (pss_cons (ps_set (i := 5) sc_equation_broken.nd rfl (Or.inl rfl) (pe_ix ix_list (pe_ix ix_list (pv 0) (pv 3) (fun _ _ => rfl)) (pv 4) (fun _ _ => rfl)))
    (pss_one (ps_ret (pe_and (pe_cmpR op_lt (pv 5) (pe_callB call_len_seq rfl Z.b_len PySem.boot_len (pa_cons (pv 2) pa_nil)) (nomark _)) (pe_one (pe_cmpR op_ne (pe_ix ix_list (pe_ix ix_list (pv 1) (pe_ix ix_list (pv 2) (pv 3) (fun _ _ => rfl)) (fun _ _ => rfl)) (pe_ix ix_list (pv 2) (pv 4) (fun _ _ => rfl)) (fun _ _ => rfl)) (pe_ix ix_list (pv 2) (pv 5) (fun _ _ => rfl)) (nomark _))))))), ?_⟩

  obtain ⟨bj, hbj, ebj⟩ := ht.row hj
  obtain ⟨bx, hbx, ebx⟩ := ho.row (a := x.toNat) (by omega)
  have hli := len_int im
  have hi1 := SqL.of (K := K) hi
  have hfl := hf j k hj hk
  refine ⟨_, rfl, _, rfl, t, _, _, _, rfl, rfl, SqL.of ht.la, at_ref hbj ea, _, rfl, bj, _, _, _, rfl, rfl, SqL.of ebj, at_of (rowOf_get hk) eb, ?_⟩
  refine ⟨_, rfl, _, rfl, i, _, rfl, .inl hi1, _, _, rfl, rfl, _, rfl, ?_⟩
  rw [decide_eq_true (show ((f j k : Nat) : Int) < ((im.map V.int).length : Int) by omega)]
  refine iteT ?_
  exact ⟨_, rfl, _, rfl, _, rfl, i, _, _, _, rfl, rfl, hi1, at_of ex ea, o, _, _, _, rfl, rfl, SqL.of ho.la, at_refN x0 hbx, _, rfl, _, rfl, i, _, _, _, rfl, rfl, hi1, at_of ey eb, bx, _, _, _, rfl, rfl, SqL.of ebx, at_toNat y0 (rowOf_get (by omega)), _, rfl, _, rfl, i, _, _, _, rfl, rfl, hi1, at_of ez rfl, rfl, q⟩
theorem sc_keeping : FnScope ["one", "other", "images"] ["one", "other", "images"] (defScope s_keeping) := ⟨rfl, rfl, rfl, by decide +kernel, rfl, by decide +kernel, by decide +kernel⟩
set_option maxHeartbeats 4000000 in
theorem ok_keeping (D : Def K mg "keeping" s_keeping ["one", "other", "images"]) (g_first_breach : Fn P w K mg base 2 "first_breach" ["one", "other", "images"] (sp_first_breach K)) (g_all_colours : Fn P w K mg base 1 "all_colours" ["numbers", "size"] (sp_all_colours K)) (Z : Blt mg) : Fn P w K mg base 3 "keeping" ["one", "other", "images"] (sp_keeping K) := by
  refine fn_mk D sc_keeping (fun vs H Q E h => ?_) (fun f cdv A outer s H vs Q E hr h => ?_)
  · obtain ⟨t, o, i, tads, oads, n, m, f, g, im, rfl, _⟩ := h; rfl
  obtain ⟨t, o, i, tads, oads, n, m, f, g, im, rfl, ht, ho, hi, h100, hf, h24, q⟩ := h
  have hu := hu8 hr
  have hu1 := hu_of hr
  refine ⟨_, (pss_cons (ps_if (PW.pt (pw_or (pt_cmpR op_ne (pe_callB call_len_seq rfl Z.b_len PySem.boot_len (pa_cons (pv 2) pa_nil)) (pe_callB call_len_seq rfl Z.b_len PySem.boot_len (pa_cons (pv 0) pa_nil)) (nomark _)) (pw_or1 (pt_not (pt_val (pe_fn g_all_colours hr (by decide) (pa_cons (pv 2) (pa_cons (pe_callB call_len_seq rfl Z.b_len PySem.boot_len (pa_cons (pv 1) pa_nil)) pa_nil))))))))
      (pss_one (ps_ret pe_bl))
      pss_nil)
    (pss_one (ps_ret (pe_cmpR op_isN (pe_fn g_first_breach hr (by decide) (pa_cons (pv 0) (pa_cons (pv 1) (pa_cons (pv 2) pa_nil)))) pe_non (nomark _))))), ?_⟩

  have hli := len_int im
  have hlt := len_ref tads
  have hnt := ht.len
  have hlo := len_ref oads
  have hno := ho.len
  refine ⟨_, rfl, i, _, rfl, .inl (SqL.of hi), _, rfl, t, _, rfl, .inl (SqL.of ht.la), rfl, _, rfl, ?_⟩
  by_cases hl : ¬ im.length = n
  · exact iteNE (fun e => hl (by have := V.iff e; omega)) (q false H (Same.refl _) (by constructor <;> intro h; cases h; exact absurd h.1 hl))
  have hl := Classical.not_not.mp hl
  refine iteNS (by rw [hli, hlt, hl, hnt]) ?_
  refine ⟨_, rfl, _, rfl, o, _, rfl, .inl (SqL.of ho.la), ?_⟩
  rw [show ((oads.map V.ref).length : Int) = (m : Int) by omega]
  refine ⟨i, im, m, rfl, hi, h100, fun b1 H1 s1 hb1 => ⟨_, rfl, ?_⟩⟩
  cases b1 with
  | false =>
    refine iteT (q false H1 s1 ?_)
    constructor <;> intro h
    · cases h
    · exact absurd (hb1.mpr h.2.1) (by decide)
  | true =>
    refine iteF ?_
    have hc := hb1.mp rfl
    refine ⟨_, rfl, _, rfl, _, rfl, t, o, i, tads, oads, n, m, f, g, im, rfl, ht.keep s1, ho.keep s1, s1 _ _ hi, hl, hf, hc, h24, fun v H2 s2 hv => ?_⟩
    rcases hv with ⟨rfl, h3⟩ | ⟨p, rfl, h3⟩
    · exact ⟨rfl, q true H2 (s1.trans s2) ⟨fun _ => ⟨hl, hc, h3⟩, fun _ => rfl⟩⟩
    · exact ⟨rfl, q false H2 (s1.trans s2) ⟨fun h => (by cases h), fun h => absurd h.2.2 h3⟩⟩
theorem sc_cell : FnScope ["_law_script", "_law_place", "_law_seed", "_law_cell_here"] ["_law_script", "_law_place"] (defScope s_cell) := ⟨rfl, rfl, rfl, by decide +kernel, rfl, by decide +kernel, by decide +kernel⟩
set_option maxHeartbeats 4000000 in
theorem ok_cell (D : Def K mg "_law_cell" s_cell ["_law_script", "_law_place"])  (Z : Blt mg) : Fn P w K mg base 1 "_law_cell" ["_law_script", "_law_place"] (sp_cell K) := by
  refine fn_mk D sc_cell (fun vs H Q E h => ?_) (fun f cdv A outer s H vs Q E hr h => ?_)
  · obtain ⟨a, ns, p, rfl, _⟩ := h; rfl
  obtain ⟨a, ns, p, rfl, hS, h63, h0, h1, k⟩ := h
  have hu := hu8 hr
  have hu1 := hu_of hr
  refine ⟨_, (pss_cons (ps_if (pt_cmpR op_lt (pv 1) (pe_callB call_len_seq rfl Z.b_len PySem.boot_len (pa_cons (pv 0) pa_nil)) (nomark _))
      (pss_one (ps_ret (pe_ix ix_list (pv 0) (pv 1) (fun _ _ => rfl))))
      pss_nil)
    (pss_cons (ps_set (i := 2) sc_cell.nd rfl (Or.inl rfl) pe_int)
    (pss_cons (ps_for PassesOwn.never rfl (pi_list (pe_slice sl_list (pv 0) po_none (po_some pe_int))) (pg_name (i := 3) sc_cell.nd rfl (Or.inl rfl))
      (pss_one (ps_set (i := 2) sc_cell.nd rfl (Or.inl rfl) (pe_op op_mod (pe_op op_add (pe_op op_add (pe_op op_mul (pv 2) pe_int) (pe_op op_mod (pv 3) pe_int)) pe_int) pe_int))))
    (pss_one (ps_ret (pe_op op_mod (pe_op op_add (pv 2) (pe_op op_mul pe_int (pv 1))) pe_int)))))), ?_⟩

  refine ⟨_, rfl, _, rfl, a, _, rfl, .inl hS, _, _, rfl, rfl, _, rfl, ?_⟩
  refine ite2 (fun c => ?_) (fun c => ?_)
  · have c' := of_decide_eq_true c
    rw [len_int] at c'
    obtain ⟨v, e, _⟩ := atM (ns := ns) h0 c'
    exact ⟨_, rfl, _, rfl, a, _, _, _, rfl, rfl, hS, e, k v H (Same.refl H)⟩
  · refine ⟨_, rfl, _, rfl, a, _, rfl, hS, fun q hq => ?_⟩
    refine ⟨q, rfl, ⟨_, SqL.of upd_same⟩, ?_⟩
    refine for_list (K := K) (a := q) (xs := cutV (ns.map V.int) none (some 63)) (fun i σ H2 => ∃ (sd : Int) (v : Option V), σ = [some (.ref a), some (.int p), some (.int sd), v] ∧ H2 = upd H q (.lst (cutV (ns.map V.int) none (some 63))) ∧ 0 ≤ sd ∧ sd < 2147483647)
      ⟨5, none, rfl, rfl, by decide, by decide⟩ (fun i σ H2 _ ⟨_, _, _, e, _⟩ => by rw [e]; exact SqL.of upd_same) ?_ ?_
    · rintro i y σ H2 hi ⟨sd, v, rfl, rfl, s0, s1⟩
      rw [cutV_map] at hi
      obtain ⟨z, rfl, _⟩ := int_at hi
      refine ⟨_, rfl, _, _, rfl, rfl, .inl ⟨by omega, by omega⟩, _, rfl, _, _, rfl, rfl, (by show (0 : Int) < 1000003; decide), _, _, rfl, rfl, _, _, rfl, rfl, _, _, rfl, rfl, (by show (0 : Int) < 2147483647; decide), ?_⟩
      exact ⟨_, _, rfl, rfl, Int.emod_nonneg _ (by decide), Int.emod_lt_of_pos _ (by decide)⟩
    · rintro σ H2 ⟨sd, v, rfl, rfl, s0, s1⟩
      refine ⟨_, rfl, _, rfl, _, _, rfl, rfl, .inl ⟨by decide, by decide⟩, _, _, rfl, rfl, _, _, rfl, rfl, (by show (0 : Int) < 1000003; decide), ?_⟩
      exact k _ _ (same_new hq _)
theorem sc_mix : FnScope ["_law_cell_here", "_law_k", "_law_one", "_law_two"] ["_law_cell_here", "_law_k"] (defScope s_mix) := ⟨rfl, rfl, rfl, by decide +kernel, rfl, by decide +kernel, by decide +kernel⟩
set_option maxHeartbeats 4000000 in
theorem ok_mix (D : Def K mg "_law_mix" s_mix ["_law_cell_here", "_law_k"])  (Z : Blt mg) : Fn P w K mg base 1 "_law_mix" ["_law_cell_here", "_law_k"] (sp_mix K) := by
  refine fn_mk D sc_mix (fun vs H Q E h => ?_) (fun f cdv A outer s H vs Q E hr h => ?_)
  · obtain ⟨c, k, rfl, _⟩ := h; rfl
  obtain ⟨c, k, rfl, h0, h1, q⟩ := h
  have hu := hu8 hr
  have hu1 := hu_of hr
  refine ⟨_, (pss_cons (ps_set (i := 2) sc_mix.nd rfl (Or.inl rfl) (pe_op op_mod (pe_op op_pow (pe_op op_add (pe_op op_add (pe_op op_mod (pv 0) pe_int) (pe_op op_mul pe_int (pv 1))) pe_int) pe_int) pe_int))
    (pss_cons (ps_set (i := 3) sc_mix.nd rfl (Or.inl rfl) (pe_op op_mod (pe_op op_add (pe_op op_add (pe_op op_mul (pv 2) pe_int) (pe_op op_mul (pe_op op_mul pe_int (pv 1)) (pv 1))) pe_int) pe_int))
    (pss_one (ps_ret (pe_op op_fdivB (pv 3) pe_int))))), ?_⟩

  have b0 := Int.emod_nonneg c (show (2147483629 : Int) ≠ 0 by decide)
  have b1 := Int.emod_lt_of_pos c (show (0 : Int) < 2147483629 by decide)
  refine ⟨_, rfl, _, _, rfl, rfl, (by show (0 : Int) < 2147483629; decide), _, rfl, _, _, rfl, rfl, .inl ⟨by decide, by decide⟩, _, _, rfl, rfl, _, _, rfl, rfl, _, _, rfl, rfl, ⟨by decide, by decide, by omega⟩, _, _, rfl, rfl, (by show (0 : Int) < 2147483647; decide), ?_⟩
  refine ⟨_, rfl, _, _, rfl, rfl, .inr ⟨by decide, by decide⟩, _, rfl, _, _, rfl, rfl, .inl ⟨by decide, by decide⟩, _, rfl, _, _, rfl, rfl, .inr ⟨by omega, by omega⟩, _, _, rfl, rfl, _, _, rfl, rfl, _, _, rfl, rfl, (by show (0 : Int) < 2147483399; decide), ?_⟩
  refine ⟨_, rfl, _, _, rfl, rfl, (by show (0 : Int) < 101 ∧ (101 : Int).natAbs.log2 < 9000; decide +kernel), ?_⟩
  exact q _
theorem sc_row : FnScope ["_law_script", "_law_place", "_law_sizes", "_law_cell_here", "_law_left", "_law_some", "_law_k", "_law_other"] ["_law_script", "_law_place", "_law_sizes"] (defScope s_row) := ⟨rfl, rfl, rfl, by decide +kernel, rfl, by decide +kernel, by decide +kernel⟩
set_option maxHeartbeats 4000000 in
theorem ok_row (D : Def K mg "_law_row" s_row ["_law_script", "_law_place", "_law_sizes"]) (g_cell : Fn P w K mg base 1 "_law_cell" ["_law_script", "_law_place"] (sp_cell K)) (g_mix : Fn P w K mg base 1 "_law_mix" ["_law_cell_here", "_law_k"] (sp_mix K)) (Z : Blt mg) : Fn P w K mg base 2 "_law_row" ["_law_script", "_law_place", "_law_sizes"] (sp_row K) := by
  refine fn_mk D sc_row (fun vs H Q E h => ?_) (fun f cdv A outer s H vs Q E hr h => ?_)
  · obtain ⟨a, ns, p, z, sizes, rfl, _⟩ := h; rfl
  obtain ⟨a, ns, p, z, sizes, rfl, hS, h63, h0, h1, hz, hl, hp, q⟩ := h
  have hu := hu8 hr
  have hu1 := hu_of hr
  refine ⟨_, (pss_cons (ps_set (i := 3) sc_row.nd rfl (Or.inl rfl) (pe_fn g_cell hr (by decide) (pa_cons (pv 0) (pa_cons (pv 1) pa_nil))))
    (pss_cons (ps_set (i := 4) sc_row.nd rfl (Or.inl rfl) (pv 3))
    (pss_cons (ps_set (i := 5) sc_row.nd rfl (Or.inl rfl) (pe_lst pa_nil))
    (pss_cons (ps_for PassesOwn.never rfl (pi_range1 rfl Z.b_range (pa_cons (pe_callB call_len_seq rfl Z.b_len PySem.boot_len (pa_cons (pv 2) pa_nil)) pa_nil)) (pg_name (i := 6) sc_row.nd rfl (Or.inl rfl))
      (pss_one (ps_if (pt_cmpR op_lt (pv 3) (pe_op op_pow pe_int pe_int) (nomark _))
        (pss_one (ps_expr (pe_bm PySem.F.plainAttrs_list PySem.F.slot_list_append PySem.F.type_list_append mt_append (pv 5) (pa_cons (pe_op op_mod (pe_fn g_mix hr (by decide) (pa_cons (pv 3) (pa_cons (pv 6) pa_nil))) (pe_ix ix_list (pv 2) (pv 6) (fun _ _ => rfl))) pa_nil))))
        (pss_one (ps_if (pt_cmpR op_gt (pv 4) pe_int (nomark _))
          (pss_cons (ps_expr (pe_bm PySem.F.plainAttrs_list PySem.F.slot_list_append PySem.F.type_list_append mt_append (pv 5) (pa_cons (pe_op op_mod (pv 4) (pe_ix ix_list (pv 2) (pv 6) (fun _ _ => rfl))) pa_nil)))
          (pss_one (ps_set (i := 4) sc_row.nd rfl (Or.inl rfl) (pe_op op_fdivB (pv 4) (pe_ix ix_list (pv 2) (pv 6) (fun _ _ => rfl))))))
          (pss_cons (ps_set (i := 7) sc_row.nd rfl (Or.inl rfl) (pe_fn g_cell hr (by decide) (pa_cons (pv 0) (pa_cons (pe_op op_mod (pe_op op_add (pe_op op_add (pv 1) pe_int) (pv 6)) pe_int) pa_nil))))
          (pss_one (ps_expr (pe_bm PySem.F.plainAttrs_list PySem.F.slot_list_append PySem.F.type_list_append mt_append (pv 5) (pa_cons (pe_op op_mod (pe_fn g_mix hr (by decide) (pa_cons (pv 7) (pa_cons (pv 6) pa_nil))) (pe_ix ix_list (pv 2) (pv 6) (fun _ _ => rfl))) pa_nil))))))))))
    (pss_one (ps_ret (pv 5))))))), ?_⟩

  have hlz := len_int sizes
  refine ⟨_, rfl, _, rfl, a, ns, p, rfl, hS, h63, h0, by omega, fun c H1 s1 => ?_⟩
  refine ⟨_, rfl, ?_⟩
  refine ⟨sz0, fun r hr1 => ?_⟩
  have hr0 : H r = none := s1.free hr1
  refine ⟨_, rfl, z, _, rfl, .inl (SqL.of ((s1.new hr1 _) _ _ hz)), _, rfl, by omega, by omega, ?_⟩
  refine for_range (n := ((sizes.map V.int).length : Int).toNat) (fun i σ H2 => ∃ (left : Int) (ot kk : Option V) (acc : List Int), σ = [some (.ref a), some (.int p), some (.ref z), some (.int c), some (.int left), some (.ref r), kk, ot] ∧ Same H H2 ∧
    H2 r = some (.lst (acc.map V.int)) ∧ acc.length = i ∧ Below sizes acc) ⟨c, none, none, [], rfl, s1.new hr1 _, upd_same, rfl, fun j s v _ e => by simp at e⟩ ?_ ?_
  · rintro i σ H2 hi ⟨left, ot, kk, acc, rfl, s2, er, la, hb⟩
    have hi' : i < sizes.length := by omega
    obtain ⟨sz, ez⟩ : ∃ sz, sizes[i]? = some sz := ⟨_, List.getElem?_eq_getElem hi'⟩
    have hsz := hp sz (List.mem_of_getElem? ez)
    have hat : atI (sizes.map V.int) (0 + (i : Int)) = some (.int sz) := at_of ez (by omega)
    have hzz : H2 z = some (.lst (sizes.map V.int)) := s2 _ _ hz
    have hla : (acc.map V.int).length < sizeLine := by rw [len_int]; exact small1000 (by omega)
    have fin : ∀ (v left' : Int) (ot' kk' : Option V), 0 ≤ v ∧ v < sz → ∃ (left : Int) (ot kk : Option V) (acc' : List Int), [some (.ref a), some (.int p), some (.ref z), some (.int c), some (.int left'), some (.ref r), kk', ot'] = [some (.ref a), some (.int p), some (.ref z), some (.int c), some (.int left), some (.ref r), kk, ot] ∧
        Same H (upd H2 r (.lst (acc.map V.int ++ [.int v]))) ∧ (upd H2 r (.lst (acc.map V.int ++ [.int v]))) r = some (.lst (acc'.map V.int)) ∧ acc'.length = i + 1 ∧ Below sizes acc' := fun v left' ot' kk' hv =>
      ⟨left', ot', kk', acc ++ [v], rfl, s2.own hr0 _, by rw [upd_same, map_snoc], by simp [la], hb.snoc la ez hv⟩
    refine ⟨_, rfl, _, _, rfl, rfl, ⟨by decide, by decide, by decide⟩, _, _, rfl, rfl, _, rfl, ?_⟩
    refine ite2 (fun c1 => ?_) (fun c1 => ?_)
    · refine ⟨_, rfl, .inl ⟨rfl, _, SqL.of er⟩, _, rfl, _, rfl, c, _, rfl, by omega, by omega, fun v => ?_⟩
      refine ⟨_, rfl, _, rfl, z, _, _, _, rfl, rfl, SqL.of hzz, hat, _, _, rfl, rfl, hsz.1, _, _, _, rfl, rfl, er, hla, ?_⟩
      exact fin (v % sz) left ot _ ⟨Int.emod_nonneg _ (by omega), Int.emod_lt_of_pos _ hsz.1⟩
    · refine ⟨_, rfl, _, _, rfl, rfl, _, rfl, ?_⟩
      refine ite2 (fun c2 => ?_) (fun c2 => ?_)
      · refine ⟨_, rfl, .inl ⟨rfl, _, SqL.of er⟩, _, rfl, _, rfl, _, rfl, z, _, _, _, rfl, rfl, SqL.of hzz, hat, _, _, rfl, rfl, hsz.1, _, _, _, rfl, rfl, er, hla, ?_⟩
        have hzz' : (upd H2 r (.lst (acc.map V.int ++ [.int (left % sz)]))) z = some (.lst (sizes.map V.int)) := (s2.own hr0 _) _ _ hz
        refine ⟨_, rfl, _, rfl, _, rfl, z, _, _, _, rfl, rfl, SqL.of hzz', hat, _, _, rfl, rfl, hsz, ?_⟩
        exact fin (left % sz) _ ot _ ⟨Int.emod_nonneg _ (by omega), Int.emod_lt_of_pos _ hsz.1⟩
      · have m0 := Int.emod_nonneg (p + 1 + (0 + (i : Int))) (show (63 : Int) ≠ 0 by decide)
        have m1 := Int.emod_lt_of_pos (p + 1 + (0 + (i : Int))) (show (0 : Int) < 63 by decide)
        refine ⟨_, rfl, _, rfl, _, _, rfl, rfl, _, rfl, _, _, rfl, rfl, _, _, rfl, rfl, (by show (0 : Int) < 63; decide), a, ns, _, rfl, s2.seq hS, h63, m0, by omega, fun o H3 s3 => ?_⟩
        refine ⟨_, rfl, .inl ⟨rfl, _, SqL.of (s3 _ _ er)⟩, _, rfl, _, rfl, o, _, rfl, by omega, by omega, fun v => ?_⟩
        refine ⟨_, rfl, _, rfl, z, _, _, _, rfl, rfl, SqL.of (s3 _ _ hzz), hat, _, _, rfl, rfl, hsz.1, _, _, _, rfl, rfl, s3 _ _ er, hla, ?_⟩
        exact ⟨left, some (.int o), _, acc ++ [v % sz], rfl, (s2.trans s3).own hr0 _, by rw [upd_same, map_snoc], by simp [la], hb.snoc la ez ⟨Int.emod_nonneg _ (by omega), Int.emod_lt_of_pos _ hsz.1⟩⟩
  · rintro σ H2 ⟨left, ot, kk, acc, rfl, s2, er, la, hb⟩
    exact ⟨_, rfl, q r acc H2 s2 hr0 er (by omega) hb⟩
theorem sc_cell_of : FnScope ["_law_way", "_law_size", "_law_factor", "_law_a", "_law_b", "_law_half"] ["_law_way", "_law_size", "_law_factor", "_law_a", "_law_b"] (defScope s_cell_of) := ⟨rfl, rfl, rfl, by decide +kernel, rfl, by decide +kernel, by decide +kernel⟩
set_option maxHeartbeats 4000000 in
theorem ok_cell_of (D : Def K mg "_law_cell_of" s_cell_of ["_law_way", "_law_size", "_law_factor", "_law_a", "_law_b"])  (Z : Blt mg) : Fn P w K mg base 1 "_law_cell_of" ["_law_way", "_law_size", "_law_factor", "_law_a", "_law_b"] (sp_cell_of K) := by
  refine fn_mk D sc_cell_of (fun vs H Q E h => ?_) (fun f cdv A outer s H vs Q E hr h => ?_)
  · obtain ⟨way, k, a, b, n, rfl, _⟩ := h; rfl
  obtain ⟨way, k, a, b, n, rfl, h1, h24, ha0, ha1, hb0, hb1, hk0, hk1, q⟩ := h
  have hu := hu8 hr
  have hu1 := hu_of hr
  refine ⟨_, (pss_cons (ps_set (i := 5) sc_cell_of.nd rfl (Or.inl rfl) (pe_op op_fdivB (pv 1) pe_int))
    (pss_cons (ps_if (pt_cmpR op_eq (pv 0) pe_int (nomark _))
      (pss_one (ps_ret (pe_op op_mod (pe_op op_sub (pe_op op_mul pe_int (pv 4)) (pv 3)) (pv 1))))
      pss_nil)
    (pss_cons (ps_if (pt_cmpR op_eq (pv 0) pe_int (nomark _))
      (pss_one (ps_ret (pe_op op_mod (pe_op op_add (pe_op op_mul (pv 2) (pv 3)) (pe_op op_mul (pe_op op_sub pe_int (pv 2)) (pv 4))) (pv 1))))
      pss_nil)
    (pss_cons (ps_if (PW.pt (pw_and (pt_cmpR op_eq (pv 0) pe_int (nomark _)) (pw_and (pt_cmpR op_gt (pv 1) pe_int (nomark _)) (pw_and (pt_cmpR op_lt (pv 3) pe_int (nomark _)) (pw_and1 (pt_cmpR op_eq (pv 4) (pe_op op_sub (pv 1) pe_int) (nomark _)))))))
      (pss_one (ps_ret (pe_op op_sub pe_int (pv 3))))
      pss_nil)
    (pss_cons (ps_if (PW.pt (pw_and (pt_cmpR op_eq (pv 0) pe_int (nomark _)) (pw_and (pt_cmpR op_lt (pv 3) (pe_op op_sub (pv 1) pe_int) (nomark _)) (pw_and1 (pt_cmpR op_eq (pv 4) (pe_op op_sub (pv 1) pe_int) (nomark _))))))
      (pss_one (ps_ret (pe_op op_mod (pe_op op_add (pv 3) pe_int) (pe_op op_sub (pv 1) pe_int))))
      pss_nil)
    (pss_cons (ps_if (PW.pt (pw_and (pt_cmpR op_eq (pv 0) pe_int (nomark _)) (pw_and (pt_cmpR op_lt (pv 3) (pv 5) (nomark _)) (pw_and1 (pt_cmpR op_lt (pv 4) (pv 5) (nomark _))))))
      (pss_one (ps_ret (pe_op op_mod (pe_op op_sub (pe_op op_mul pe_int (pv 4)) (pv 3)) (pv 5))))
      pss_nil)
    (pss_cons (ps_if (PW.pt (pw_and (pt_cmpR op_eq (pv 0) pe_int (nomark _)) (pw_and (pt_cmpR op_ge (pv 3) (pv 5) (nomark _)) (pw_and1 (pt_cmpR op_ge (pv 4) (pv 5) (nomark _))))))
      (pss_one (ps_ret (pe_op op_add (pv 5) (pe_op op_mod (pe_op op_sub (pe_op op_sub (pe_op op_mul pe_int (pv 4)) (pv 3)) (pv 5)) (pe_op op_sub (pv 1) (pv 5))))))
      pss_nil)
    (pss_one (ps_ret (pv 3)))))))))), ?_⟩

  have hn : (0 : Int) < (n : Int) := by omega
  refine ⟨_, rfl, _, _, rfl, rfl, ⟨(by show (0 : Int) < 2; decide), (by show (2 : Int).natAbs.log2 < 9000; decide)⟩, ?_⟩
  by_cases w1 : way = 1
  · have e : cellI way n k a b = (2 * b - a) % n := by unfold cellI; rw [if_pos w1]
    rw [e] at q
    refine ⟨_, rfl, rfl, _, rfl, ?_⟩
    rw [eqI, decide_eq_true w1]
    exact iteT ⟨_, rfl, _, _, rfl, rfl, .inl ⟨by decide, by decide⟩, _, rfl, _, _, rfl, rfl, _, rfl, _, _, rfl, rfl, hn, q⟩
  refine ⟨_, rfl, rfl, _, rfl, ?_⟩
  rw [eqI, decide_eq_false w1]
  refine iteF ?_
  by_cases w2 : way = 2
  · have e : cellI way n k a b = (k * a + (1 - k) * b) % n := by unfold cellI; rw [if_neg w1, if_pos w2]
    rw [e] at q
    refine ⟨_, rfl, rfl, _, rfl, ?_⟩
    rw [eqI, decide_eq_true w2]
    exact iteT ⟨_, rfl, _, rfl, _, _, rfl, rfl, .inl ⟨by omega, by omega⟩, _, rfl, _, _, rfl, rfl, _, rfl, _, _, rfl, rfl, .inr ⟨by omega, by omega⟩, _, _, rfl, rfl, _, rfl, _, _, rfl, rfl, hn, q⟩
  refine ⟨_, rfl, rfl, _, rfl, ?_⟩
  rw [eqI, decide_eq_false w2]
  refine iteF ?_
  by_cases c3 : way = 3 ∧ (n : Int) > 2 ∧ a < 2 ∧ b = n - 1
  · have e : cellI way n k a b = 1 - a := by unfold cellI; rw [if_neg w1, if_neg w2, if_pos c3]
    rw [e] at q
    obtain ⟨d1, d2, d3, d4⟩ := c3
    refine ⟨_, rfl, rfl, _, rfl, ?_⟩
    rw [eqI, decide_eq_true d1]
    refine iteT ⟨_, rfl, _, _, rfl, rfl, _, rfl, ?_⟩
    rw [decide_eq_true (show (2 : Int) < (n : Int) by omega)]
    refine iteT ⟨_, rfl, _, _, rfl, rfl, _, rfl, ?_⟩
    rw [decide_eq_true d3]
    refine iteT ⟨_, rfl, _, rfl, _, _, rfl, rfl, rfl, _, rfl, ?_⟩
    rw [eqI, decide_eq_true d4]
    exact iteT ⟨_, rfl, _, _, rfl, rfl, q⟩
  refine ⟨_, rfl, rfl, _, rfl, ?_⟩
  refine ite_bothT ?_ (fun d1 G => ⟨_, rfl, _, _, rfl, rfl, _, rfl, ite_bothT G fun d2 G => ⟨_, rfl, _, _, rfl, rfl, _, rfl, ite_bothT G fun d3 G => ⟨_, rfl, _, rfl, _, _, rfl, rfl, rfl, _, rfl, ite_bothT G fun d4 _ => absurd ⟨V.iff (of_decide_eq_true d1), of_decide_eq_true d2, of_decide_eq_true d3, V.iff (of_decide_eq_true d4)⟩ c3⟩⟩⟩)
  by_cases c6 : way = 6 ∧ a < (n : Int) - 1 ∧ b = n - 1
  · have e : cellI way n k a b = (a + 1) % (n - 1) := by unfold cellI; rw [if_neg w1, if_neg w2, if_neg c3, if_pos c6]
    rw [e] at q
    obtain ⟨d1, d2, d3⟩ := c6
    refine ⟨_, rfl, rfl, _, rfl, ?_⟩
    rw [eqI, decide_eq_true d1]
    refine iteT ⟨_, rfl, _, rfl, _, _, rfl, rfl, _, _, rfl, rfl, _, rfl, ?_⟩
    rw [decide_eq_true d2]
    refine iteT ⟨_, rfl, _, rfl, _, _, rfl, rfl, rfl, _, rfl, ?_⟩
    rw [eqI, decide_eq_true d3]
    exact iteT ⟨_, rfl, _, _, rfl, rfl, _, rfl, _, _, rfl, rfl, _, _, rfl, rfl, by omega, q⟩
  refine ⟨_, rfl, rfl, _, rfl, ?_⟩
  refine ite_bothT ?_ (fun d1 G => ⟨_, rfl, _, rfl, _, _, rfl, rfl, _, _, rfl, rfl, _, rfl, ite_bothT G fun d2 G => ⟨_, rfl, _, rfl, _, _, rfl, rfl, rfl, _, rfl, ite_bothT G fun d3 _ => absurd ⟨V.iff (of_decide_eq_true d1), of_decide_eq_true d2, V.iff (of_decide_eq_true d3)⟩ c6⟩⟩)
  by_cases c4 : way = 4 ∧ a < (n : Int) / 2 ∧ b < (n : Int) / 2
  · have e : cellI way n k a b = (2 * b - a) % (n / 2) := by unfold cellI; rw [if_neg w1, if_neg w2, if_neg c3, if_neg c6, if_pos c4]
    rw [e] at q
    obtain ⟨d1, d2, d3⟩ := c4
    refine ⟨_, rfl, rfl, _, rfl, ?_⟩
    rw [eqI, decide_eq_true d1]
    refine iteT ⟨_, rfl, _, rfl, _, _, rfl, rfl, _, rfl, ?_⟩
    rw [decide_eq_true d2]
    refine iteT ⟨_, rfl, _, rfl, _, _, rfl, rfl, _, rfl, ?_⟩
    rw [decide_eq_true d3]
    exact iteT ⟨_, rfl, _, _, rfl, rfl, .inl ⟨by decide, by decide⟩, _, rfl, _, _, rfl, rfl, _, rfl, _, _, rfl, rfl, (by omega : (0 : Int) < (n : Int) / 2), q⟩
  refine ⟨_, rfl, rfl, _, rfl, ?_⟩
  refine ite_bothT ?_ (fun d1 G => ⟨_, rfl, _, rfl, _, _, rfl, rfl, _, rfl, ite_bothT G fun d2 G => ⟨_, rfl, _, rfl, _, _, rfl, rfl, _, rfl, ite_bothT G fun d3 _ => absurd ⟨V.iff (of_decide_eq_true d1), of_decide_eq_true d2, of_decide_eq_true d3⟩ c4⟩⟩)
  by_cases c5 : way = 4 ∧ a ≥ (n : Int) / 2 ∧ b ≥ (n : Int) / 2
  · have e : cellI way n k a b = n / 2 + (2 * b - a - n / 2) % (n - n / 2) := by unfold cellI; rw [if_neg w1, if_neg w2, if_neg c3, if_neg c6, if_neg c4, if_pos c5]
    rw [e] at q
    obtain ⟨d1, d2, d3⟩ := c5
    refine ⟨_, rfl, rfl, _, rfl, ?_⟩
    rw [eqI, decide_eq_true d1]
    refine iteT ⟨_, rfl, _, rfl, _, _, rfl, rfl, _, rfl, ?_⟩
    rw [decide_eq_true (show (n : Int) / 2 ≤ a from d2)]
    refine iteT ⟨_, rfl, _, rfl, _, _, rfl, rfl, _, rfl, ?_⟩
    rw [decide_eq_true (show (n : Int) / 2 ≤ b from d3)]
    exact iteT ⟨_, rfl, _, rfl, _, _, rfl, rfl, .inl ⟨by decide, by decide⟩, _, rfl, _, _, rfl, rfl, _, rfl, _, _, rfl, rfl, _, rfl, _, rfl, _, _, rfl, rfl, _, _, rfl, rfl, (by omega : (0 : Int) < (n : Int) - (n : Int) / 2), _, _, rfl, rfl, q⟩
  refine ⟨_, rfl, rfl, _, rfl, ?_⟩
  refine ite_bothT ?_ (fun d1 G => ⟨_, rfl, _, rfl, _, _, rfl, rfl, _, rfl, ite_bothT G fun d2 G => ⟨_, rfl, _, rfl, _, _, rfl, rfl, _, rfl, ite_bothT G fun d3 _ => absurd ⟨V.iff (of_decide_eq_true d1), of_decide_eq_true d2, of_decide_eq_true d3⟩ c5⟩⟩)
  have e : cellI way n k a b = a := by unfold cellI; rw [if_neg w1, if_neg w2, if_neg c3, if_neg c6, if_neg c4, if_neg c5]
  rw [e] at q
  exact ⟨_, rfl, q⟩
theorem sc_common : FnScope ["_law_one", "_law_other"] ["_law_one", "_law_other"] (defScope s_common) := ⟨rfl, rfl, rfl, by decide +kernel, rfl, by decide +kernel, by decide +kernel⟩
set_option maxHeartbeats 4000000 in
theorem ok_common (D : Def K mg "_law_common" s_common ["_law_one", "_law_other"])  (Z : Blt mg) : Fn P w K mg base 1 "_law_common" ["_law_one", "_law_other"] (sp_common K) := by
  refine fn_mk D sc_common (fun vs H Q E h => ?_) (fun f cdv A outer s H vs Q E hr h => ?_)
  · obtain ⟨x, y, rfl, _⟩ := h; rfl
  obtain ⟨x, y, rfl, q⟩ := h
  have hu := hu8 hr
  have hu1 := hu_of hr
  refine ⟨_, (pss_cons (ps_par (i := 0) (j := 1) rfl sc_common.nd rfl rfl (by decide) rfl rfl (pa_cons (pe_callB call_abs rfl Z.b_abs PyProof.Rows.boot_abs (pa_cons (pv 0) pa_nil)) (pa_cons (pe_callB call_abs rfl Z.b_abs PyProof.Rows.boot_abs (pa_cons (pv 1) pa_nil)) pa_nil)) rfl)
    (pss_cons (ps_while PassesOwn.never (pt_cmpR op_gt (pv 1) pe_int (nomark _))
      (pss_one (ps_par (i := 0) (j := 1) rfl sc_common.nd rfl rfl (by decide) rfl rfl (pa_cons (pv 1) (pa_cons (pe_op op_mod (pv 0) (pv 1)) pa_nil)) rfl)))
    (pss_one (ps_ret (pv 0))))), ?_⟩

  refine ⟨_, rfl, x, rfl, _, rfl, y, rfl, _, _, rfl, ?_⟩
  refine ⟨fun m σ H3 => ∃ u v : Nat, σ = [some (.int (u : Int)), some (.int (v : Int))] ∧ H3 = H ∧ m = v ∧ Nat.gcd u v = Int.gcd x y, ⟨y.natAbs, x.natAbs, y.natAbs, ?_, rfl, rfl, rfl⟩, ?_⟩
  · have e1 : (if x < 0 then -x else x) = (x.natAbs : Int) := by split <;> omega
    have e2 : (if y < 0 then -y else y) = (y.natAbs : Int) := by split <;> omega
    rw [e1, e2]; rfl
  · rintro m σ H3 ⟨u, v, rfl, rfl, rfl, hg⟩
    refine ⟨_, rfl, _, _, rfl, rfl, _, rfl, ?_⟩
    refine ite2 (fun c => ?_) (fun c => ?_)
    · have c' : (0 : Int) < (m : Int) := of_decide_eq_true c
      refine ⟨fun σ' H' => ∃ m', m' < m ∧ ∃ u v : Nat, σ' = [some (.int (u : Int)), some (.int (v : Int))] ∧ H' = H3 ∧ m' = v ∧ Nat.gcd u v = Int.gcd x y, fun _ _ h => h, ?_⟩
      refine ⟨_, rfl, _, rfl, _, rfl, _, _, rfl, rfl, c', _, _, rfl, ?_⟩
      refine ⟨u % m, Nat.mod_lt _ (by omega), m, u % m, ?_, rfl, rfl, ?_⟩
      · rw [Int.natCast_emod]; rfl
      · rw [← hg, Nat.gcd_comm u m, Nat.gcd_rec m u, Nat.gcd_comm]
    · have c' : ¬ (0 : Int) < (m : Int) := fun z => c (decide_eq_true z)
      have : m = 0 := by omega
      subst this
      rw [Nat.gcd_zero_right] at hg
      rw [← hg] at q
      exact ⟨_, rfl, q⟩
theorem sc_made : FnScope ["_law_way", "_law_size", "_law_factor", "_law_some", "_law_a"] ["_law_way", "_law_size", "_law_factor"] (defScope s_made) := ⟨rfl, rfl, rfl, by decide +kernel, rfl, by decide +kernel, by decide +kernel⟩
set_option maxHeartbeats 4000000 in
theorem ok_made (D : Def K mg "_law_made" s_made ["_law_way", "_law_size", "_law_factor"]) (g_common : Fn P w K mg base 1 "_law_common" ["_law_one", "_law_other"] (sp_common K)) (g_cell_of : Fn P w K mg base 1 "_law_cell_of" ["_law_way", "_law_size", "_law_factor", "_law_a", "_law_b"] (sp_cell_of K)) (Z : Blt mg) : Fn P w K mg base 2 "_law_made" ["_law_way", "_law_size", "_law_factor"] (sp_made K) := by
  refine fn_mk D sc_made (fun vs H Q E h => ?_) (fun f cdv A outer s H vs Q E hr h => ?_)
  · obtain ⟨way, k, n, rfl, _⟩ := h; rfl
  obtain ⟨way, k, n, rfl, h1, h24, hk0, hk1, q⟩ := h
  have hu := hu8 hr
  have hu1 := hu_of hr
  refine ⟨_, (pss_cons (ps_if (PW.pt (pw_and (pt_cmpR op_eq (pv 0) pe_int (nomark _)) (pw_and1 (pt_cmpR op_eq (pv 1) pe_int (nomark _)))))
      (@pss_one _ _ _ (@ps_ret _ _ _ _ (@pe_li_66_15 _)))
      pss_nil)
    (pss_cons (ps_while PassesOwn.never (pt_cmpR op_ne (pe_fn g_common hr (by decide) (pa_cons (pv 2) (pa_cons (pv 1) pa_nil))) pe_int (nomark _))
      (pss_one (ps_set (i := 2) sc_made.nd rfl (Or.inr rfl) (pe_op op_add (pv 2) pe_int))))
    (pss_cons (ps_set (i := 3) sc_made.nd rfl (Or.inl rfl) (pe_lst pa_nil))
    (pss_cons (ps_for PassesOwn.never rfl (pi_range1 rfl Z.b_range (pa_cons (pv 1) pa_nil)) (pg_name (i := 4) sc_made.nd rfl (Or.inr rfl))
      (pss_one (ps_expr (pe_bm PySem.F.plainAttrs_list PySem.F.slot_list_append PySem.F.type_list_append mt_append (pv 3) (pa_cons (pe_comp (defScope s_made) ["_law_way", "_law_size", "_law_factor", "_law_some", "_law_a"] ["_law_b"] [(0, "_law_way"), (1, "_law_size"), (2, "_law_factor"), (4, "_law_a")] rfl (pi_range1 rfl Z.b_range (pa_cons (pv 1) pa_nil)) (gk_name (by decide)) (fun cl C s H ex E => ⟨pg_name (i := 0) (show List.Nodup (["_law_b", "_law_way", "_law_size", "_law_factor", "_law_a"] : List Str) by decide +kernel) rfl (Or.inl rfl), pts_nil, (pe_fn g_cell_of hr (by decide) (pa_cons (pv 1) (pa_cons (pv 2) (pa_cons (pv 3) (pa_cons (pv 4) (pa_cons (pv 0) pa_nil))))))⟩)) pa_nil)))))
    (pss_one (ps_ret (pv 3))))))), ?_⟩

  by_cases c5 : way = 5 ∧ (n : Int) = 4
  · obtain ⟨d1, d2⟩ := c5
    have hn : n = 4 := by omega
    subst hn
    refine ⟨_, rfl, rfl, _, rfl, ?_⟩
    rw [eqI, decide_eq_true d1]
    refine iteT ⟨_, rfl, rfl, _, rfl, iteT ?_⟩
    refine ⟨(by show 4 ≤ sizeLine; decide), fun p1 g1 => ⟨(by show 4 ≤ sizeLine; decide), fun p2 g2 => ⟨(by show 4 ≤ sizeLine; decide), fun p3 g3 => ⟨(by show 4 ≤ sizeLine; decide), fun p4 g4 => ⟨(by show 4 ≤ sizeLine; decide), fun r g5 => ?_⟩⟩⟩⟩⟩
    exact q r [p1, p2, p3, p4] fourF _ (four_new g1 g2 g3 g4 g5).1 (four_new g1 g2 g3 g4 g5).2 four_good
  refine ⟨_, rfl, rfl, _, rfl, ?_⟩
  refine ite_bothT ?_ (fun d1 G => ⟨_, rfl, rfl, _, rfl, ite_bothT G fun d2 _ => absurd ⟨V.iff (of_decide_eq_true d1), V.iff (of_decide_eq_true d2)⟩ c5⟩)
  refine ⟨fun m σ H3 => ∃ k' : Int, σ = [some (.int way), some (.int (n : Int)), some (.int k'), none, none] ∧ H3 = H ∧ 0 ≤ k' ∧ k' ≤ 30 * (n : Int) + 1 ∧ m = (30 * (n : Int) + 1 - k').toNat, ⟨_, k, rfl, rfl, hk0, by omega, rfl⟩, ?_⟩
  rintro m σ H3 ⟨k', rfl, rfl, k0, k1, rfl⟩
  refine ⟨_, rfl, _, rfl, k', (n : Int), rfl, rfl, _, rfl, ?_⟩
  by_cases hg : ¬ Int.gcd k' n = 1
  · refine iteNE (fun e => hg (by have := V.iff e; omega)) ?_
    refine ⟨fun σ' H' => ∃ m', m' < (30 * (n : Int) + 1 - k').toNat ∧ ∃ k' : Int, σ' = [some (.int way), some (.int (n : Int)), some (.int k'), none, none] ∧ H' = H3 ∧ 0 ≤ k' ∧ k' ≤ 30 * (n : Int) + 1 ∧ m' = (30 * (n : Int) + 1 - k').toNat, fun _ _ h => h, ?_⟩
    have hne : k' ≠ 30 * (n : Int) + 1 := fun e => hg (by rw [e]; exact coprime_far n)
    refine ⟨_, rfl, _, _, rfl, rfl, ?_⟩
    refine ⟨_, ?_, k' + 1, rfl, rfl, by omega, by omega, rfl⟩
    show (30 * (n : Int) + 1 - (k' + 1)).toNat < _
    omega
  have hg := Classical.not_not.mp hg
  refine iteNS (by rw [hg]; rfl) ?_
  obtain ⟨gd, hce⟩ := cell_good (way := way) (k := k') (n := n) (by omega) hg
  generalize cellF way k' n = f at gd hce
  refine ⟨sz0, fun r hr => ?_⟩
  refine ⟨_, rfl, _, rfl, by omega, by omega, ?_⟩
  have hlt := tabOf_length n f
  refine for_range (n := ((n : Int)).toNat) (fun i σ H2 => ∃ (aa : Option V) (nads : List Addr), σ = [some (.int way), some (.int (n : Int)), some (.int k'), some (.ref r), aa] ∧ Same H3 H2 ∧ H2 r = some (.lst (nads.map V.ref)) ∧ WsAt H2 nads ((tabOf n f).take i) ∧ (∀ x ∈ nads, H3 x = none) ∧ r ∉ nads ∧ nads.Nodup)
    ⟨none, [], rfl, same_new hr _, upd_same, .nil, by simp, by simp, by simp⟩ ?_ ?_
  · rintro i σ H2 hi ⟨aa, nads, rfl, s2, er, wa, fr, hrn, nd⟩
    have hin : i < n := by omega
    have hln := wa.len
    rw [List.length_take, hlt] at hln
    refine ⟨_, rfl, .inl ⟨rfl, _, SqL.of er⟩, _, rfl, _, rfl, by omega, by omega, ?_⟩
    refine comp_range (k := ((n : Int)).toNat) (fun j ys H9 => H9 = H2 ∧ ys = ((rowOf n f i).take j).map V.int) ⟨rfl, rfl⟩ (fun j ys H9 hj ⟨_, e2⟩ => by rw [e2, len_int, List.length_take, rowOf_length]; exact szle (by omega)) ?_ ?_
    · rintro j ys H9 hj ⟨rfl, rfl⟩
      refine turn0 ?_
      refine ⟨_, rfl, _, rfl, _, rfl, _, rfl, _, rfl, way, k', _, _, n, rfl, h1, h24, by omega, by omega, by omega, by omega, k0, by omega, ?_⟩
      refine ⟨rfl, ?_⟩
      rw [take_succ' (rowOf_get (f := f) (a := i) (b := j) (by omega)), ← map_snoc, hce i j (by omega) (by omega), Int.zero_add, Int.zero_add]
    · rintro ys H9 t ⟨rfl, rfl⟩ ht
      rw [List.take_of_length_le (by rw [rowOf_length]; omega)]
      have hrt : r ≠ t := ne_of_none er ht
      refine ⟨r, _, _, rfl, rfl, (same_new ht _) _ _ er, by rw [len_ref]; exact small1000 (by omega), ?_⟩
      refine ⟨_, nads ++ [t], rfl, (s2.new ht _).own hr _, by rw [upd_same, ref_snoc], ?_, fresh_snoc fr (s2.free ht), notin_snoc hrn hrt, nodup_snocT nd (wa.fresh ht)⟩
      rw [take_succ' (tabOf_get (f := f) hin)]
      refine Paired.app ((wa.keep (same_new ht _)).other hrn) (.cons ?_ .nil)
      rw [upd_ne hrt.symm, upd_same]
  · rintro σ H2 ⟨aa, nads, rfl, s2, er, wa, fr, hrn, nd⟩
    rw [List.take_of_length_le (by omega)] at wa
    exact ⟨_, rfl, q r nads f H2 s2 ⟨hr, er, wa, fr, hrn, nd⟩ gd⟩
theorem sc_ordered : FnScope ["_law_some", "_law_count", "_law_left", "_law_found", "_law_k"] ["_law_some", "_law_count"] (defScope s_ordered) := ⟨rfl, rfl, rfl, by decide +kernel, rfl, by decide +kernel, by decide +kernel⟩
set_option maxHeartbeats 4000000 in
theorem ok_ordered (D : Def K mg "_law_ordered" s_ordered ["_law_some", "_law_count"])  (Z : Blt mg) : Fn P w K mg base 1 "_law_ordered" ["_law_some", "_law_count"] (sp_ordered K) := by
  refine fn_mk D sc_ordered (fun vs H Q E h => ?_) (fun f cdv A outer s H vs Q E hr h => ?_)
  · obtain ⟨z, zs, n, rfl, _⟩ := h; rfl
  obtain ⟨z, zs, n, rfl, hz, hzl, h24, q⟩ := h
  have hu := hu8 hr
  have hu1 := hu_of hr
  refine ⟨_, (pss_cons (ps_set (i := 2) sc_ordered.nd rfl (Or.inl rfl) (pe_listrange rfl rfl rfl Z.b_list Z.b_range (pa_cons (pv 1) pa_nil)))
    (pss_cons (ps_set (i := 3) sc_ordered.nd rfl (Or.inl rfl) (pe_lst pa_nil))
    (pss_cons (ps_for PassesOwn.never rfl (pi_range1 rfl Z.b_range (pa_cons (pv 1) pa_nil)) (pg_name (i := 4) sc_ordered.nd rfl (Or.inl rfl))
      (pss_one (ps_expr (pe_bm PySem.F.plainAttrs_list PySem.F.slot_list_append PySem.F.type_list_append mt_append (pv 3) (pa_cons (pe_bm PySem.F.plainAttrs_list PySem.F.slot_list_pop PySem.F.type_list_pop mt_popAt (pv 2) (pa_cons (pe_op op_mod (pe_ix ix_list (pv 0) (pv 4) (fun _ _ => rfl)) (pe_callB call_len_seq rfl Z.b_len PySem.boot_len (pa_cons (pv 2) pa_nil))) pa_nil)) pa_nil)))))
    (pss_one (ps_ret (pv 3)))))), ?_⟩

  have hlz := len_int zs
  refine ⟨_, rfl, (n : Int), rfl, by omega, by omega, fun l hl => ?_⟩
  have e0 : (List.range ((n : Int)).toNat).map (fun i => V.int ((i : Nat) : Int)) = (((List.range n).map fun i => ((i : Nat) : Int)).map V.int) := by rw [Int.toNat_natCast, List.map_map]; rfl
  rw [e0]
  refine ⟨sz0, fun r hr1 => ?_⟩
  have s1 : Same H (upd H l (.lst (((List.range n).map fun i => ((i : Nat) : Int)).map V.int))) := same_new hl _
  have hr0 : H r = none := s1.free hr1
  have hlr : l ≠ r := ne_of_none upd_same hr1
  refine ⟨_, rfl, _, rfl, by omega, by omega, ?_⟩
  refine for_range (n := ((n : Int)).toNat) (fun i σ H2 => ∃ (kk : Option V) (left acc : List Int), σ = [some (.ref z), some (.int (n : Int)), some (.ref l), some (.ref r), kk] ∧ Same H H2 ∧
    H2 l = some (.lst (left.map V.int)) ∧ H2 r = some (.lst (acc.map V.int)) ∧ (acc ++ left).Perm ((List.range n).map fun i => ((i : Nat) : Int)) ∧ acc.length = i) ⟨none, _, [], rfl, s1.new hr1 _, by rw [upd_ne hlr, upd_same], upd_same, List.Perm.refl _, rfl⟩ ?_ ?_
  · rintro i σ H2 hi ⟨kk, left, acc, rfl, s2, el, er, pm, la⟩
    have hpl := pm.length_eq
    rw [List.length_append, List.length_map, List.length_range] at hpl
    have hll := len_int left
    obtain ⟨zv, e1, _⟩ := atM (ns := zs) (i := 0 + (i : Int)) (by omega) (by omega)
    have hpos : (0 : Int) < ((left.map V.int).length : Int) := by omega
    have m0 := Int.emod_nonneg zv (show ((left.map V.int).length : Int) ≠ 0 by omega)
    have m1 := Int.emod_lt_of_pos zv hpos
    obtain ⟨y, _, e2⟩ := atM (ns := left) (i := zv % ((left.map V.int).length : Int)) m0 (by omega)
    have e3 : (left.map V.int)[(zv % ((left.map V.int).length : Int)).toNat]? = some (.int y) := by rw [List.getElem?_map, e2]; rfl
    refine ⟨_, rfl, .inl ⟨rfl, _, SqL.of er⟩, _, rfl, .inl ⟨rfl, _, SqL.of el⟩, _, rfl, _, rfl, z, _, _, _, rfl, rfl, SqL.of (s2 _ _ hz), e1, _, rfl, l, _, rfl, .inl (SqL.of el), _, _, rfl, rfl, hpos,
      l, _, _, _, _, rfl, rfl, el, by omega, by omega, seqIndex_of m0 m1, e3, r, _, _, rfl, rfl, by rw [upd_ne hlr.symm]; exact er, by rw [len_int]; exact small1000 (by omega), ?_⟩
    refine ⟨_, left.eraseIdx (zv % ((left.map V.int).length : Int)).toNat, acc ++ [y], rfl, (s2.own hl _).own hr0 _, ?_, by rw [upd_same, map_snoc], ?_, by simp [la]⟩
    · rw [upd_ne hlr, upd_same, map_eraseIdx']
    · refine List.Perm.trans ?_ pm
      rw [List.append_assoc]
      exact List.Perm.append_left _ (perm_erase e2)
  · rintro σ H2 ⟨kk, left, acc, rfl, s2, el, er, pm, la⟩
    have hpl := pm.length_eq
    rw [List.length_append, List.length_map, List.length_range] at hpl
    have : left = [] := List.eq_nil_of_length_eq_zero (by omega)
    subst this
    rw [List.append_nil] at pm
    obtain ⟨p, p', rfl, hp⟩ := perm_ordL pm
    exact ⟨_, rfl, q r p p' H2 s2 hr0 er hp⟩
theorem sc_relaid : FnScope ["_law_some", "_law_spots", "_law_found", "_law_a", "_law_b"] ["_law_some", "_law_spots"] (defScope s_relaid) := ⟨rfl, rfl, rfl, by decide +kernel, rfl, by decide +kernel, by decide +kernel⟩
set_option maxHeartbeats 4000000 in
theorem ok_relaid (D : Def K mg "_law_relaid" s_relaid ["_law_some", "_law_spots"])  (Z : Blt mg) : Fn P w K mg base 1 "_law_relaid" ["_law_some", "_law_spots"] (sp_relaid K) := by
  refine fn_mk D sc_relaid (fun vs H Q E h => ?_) (fun f cdv A outer s H vs Q E hr h => ?_)
  · obtain ⟨t, o, ads, n, f, p, p', rfl, _⟩ := h; rfl
  obtain ⟨t, o, ads, n, f, p, p', rfl, ht, ho, hp, hf, h24, q⟩ := h
  have hu := hu8 hr
  have hu1 := hu_of hr
  refine ⟨_, (pss_cons (ps_comp 2 (defScope s_relaid) ["_law_some", "_law_spots", "_law_found", "_law_a", "_law_b"] ["_law_line"] [] rfl sc_relaid.nd rfl rfl (pi_list (pv 0)) (gk_name (by decide)) (fun cl C s H ex E => ⟨pg_name (i := 0) (show List.Nodup (["_law_line"] : List Str) by decide +kernel) rfl (Or.inl rfl), pts_nil, (pe_callTy (call_list_ofK K rfl) rfl Z.b_list PyProof.Rows.boot_list (pa_cons (pv 0) pa_nil))⟩))
    (pss_cons (ps_for PassesOwn.never rfl (pi_range1 rfl Z.b_range (pa_cons (pe_callB call_len_seq rfl Z.b_len PySem.boot_len (pa_cons (pv 0) pa_nil)) pa_nil)) (pg_name (i := 3) sc_relaid.nd rfl (Or.inl rfl))
      (pss_one (ps_for PassesOwn.never rfl (pi_range1 rfl Z.b_range (pa_cons (pe_callB call_len_seq rfl Z.b_len PySem.boot_len (pa_cons (pv 0) pa_nil)) pa_nil)) (pg_name (i := 4) sc_relaid.nd rfl (Or.inl rfl))
        (pss_one (ps_asg (pe_ix ix_list (pv 1) (pe_ix ix_list (pe_ix ix_list (pv 0) (pv 3) (fun _ _ => rfl)) (pv 4) (fun _ _ => rfl)) (fun _ _ => rfl)) (pg_sub (pe_ix ix_list (pv 2) (pe_ix ix_list (pv 1) (pv 3) (fun _ _ => rfl)) (fun _ _ => rfl)) (pe_ix ix_list (pv 1) (pv 4) (fun _ _ => rfl)) set_list))))))
    (pss_one (ps_ret (pv 2))))), ?_⟩

  have hla := len_ref ads
  have hlt := tabOf_length n f
  have hna := ht.len
  have hlo := ordL_length n p
  refine ⟨_, rfl, t, rfl, ⟨_, SqL.of ht.la⟩, ?_⟩
  refine comp_list (K := K) (a := t) (xs := ads.map V.ref) (fun i ys H2 => ∃ nads : List Addr, ys = nads.map V.ref ∧ Same H H2 ∧ WsAt H2 nads ((tabOf n f).take i) ∧ (∀ x ∈ nads, H x = none) ∧ nads.Nodup)
    ⟨[], rfl, Same.refl _, .nil, by simp, by simp⟩ (fun i ys H2 hi ⟨nads, e, s2, wa, _⟩ => ⟨SqL.of (s2 _ _ ht.la), by
      have h1 := wa.len
      have h2 := ht.len
      rw [List.length_take, tabOf_length] at h1
      rw [e, len_ref]; exact szle (by omega)⟩) ?_ ?_
  · rintro i y ys H2 hi ⟨nads, rfl, s2, wa, fr, nd⟩
    obtain ⟨bi, rfl, hbi⟩ := ref_at hi
    obtain ⟨hin, ew⟩ := ht.rowAt hbi
    refine turn0 ?_
    refine ⟨_, rfl, bi, _, rfl, .inl (SqL.of (s2 _ _ ew)), fun t ht => ?_⟩
    refine ⟨nads ++ [t], by rw [ref_snoc], s2.new ht _, ?_, fresh_snoc fr (s2.free ht), nodup_snocT nd (wa.fresh ht)⟩
    rw [take_succ' (tabOf_get hin)]
    exact Paired.app (wa.keep (same_new ht _)) (.cons upd_same .nil)
  · rintro ys H1 r ⟨nads, rfl, s1, wa, fr, nd⟩ hr
    rw [List.take_of_length_le (by omega)] at wa
    have hr0 : H r = none := s1.free hr
    have hrn : r ∉ nads := wa.fresh hr
    have s2 := s1.new hr (.lst (nads.map V.ref))
    have hnn := wa.len
    rw [hlt] at hnn
    refine ⟨_, rfl, t, _, rfl, .inl (SqL.of (s2 _ _ ht.la)), _, rfl, by omega, by omega, ?_⟩
    refine for_range (n := ((ads.map V.ref).length : Int).toNat) (fun i σ H2 => ∃ (aa bb : Option V) (ws : List (List Int)), σ = [some (.ref t), some (.ref o), some (.ref r), aa, bb] ∧ Same H H2 ∧ H2 r = some (.lst (nads.map V.ref)) ∧ WsAt H2 nads ws ∧ Shape n ws ∧ Laid n ws p f i 0)
      ⟨none, none, tabOf n f, rfl, s2, upd_same, wa.keep (same_new hr _), Shape.tab n f, fun x y hx hy h => by omega⟩ ?_ ?_
    · rintro i σ H2 hi ⟨aa, bb, ws, rfl, s3, er, wa3, sh, ld⟩
      have hin : i < n := by omega
      refine ⟨_, rfl, t, _, rfl, .inl (SqL.of (s3 _ _ ht.la)), _, rfl, by omega, by omega, ?_⟩
      refine for_range (n := ((ads.map V.ref).length : Int).toNat) (fun j σ H2 => ∃ (bb : Option V) (ws : List (List Int)), σ = [some (.ref t), some (.ref o), some (.ref r), some (.int (0 + (i : Int))), bb] ∧ Same H H2 ∧ H2 r = some (.lst (nads.map V.ref)) ∧ WsAt H2 nads ws ∧ Shape n ws ∧ Laid n ws p f i j)
        ⟨bb, ws, rfl, s3, er, wa3, sh, ld⟩ ?_ ?_
      · rintro j σ H4 hj ⟨bb, ws, rfl, s4, er, wa4, sh, ld⟩
        have hjn : j < n := by omega
        have ho4 := SqL.of (K := K) (s4 _ _ ho)
        obtain ⟨bi, hbi, ebi⟩ := ht.row hin
        obtain ⟨row, erow, lrow⟩ := sh.get (hp.lt i hin)
        obtain ⟨bp, hbp, ebp⟩ := Paired.getR (F := fun (b : Addr) (w : List Int) => H4 b = some (.lst (w.map V.int))) wa4 erow
        have hfb := hf i j hin hjn
        refine ⟨_, rfl, _, rfl, _, rfl, t, _, _, _, rfl, rfl, SqL.of (s4 _ _ ht.la), at_ref hbi (by omega), _, rfl, bi, _, _, _, rfl, rfl, SqL.of (s4 _ _ ebi), at_of (rowOf_get hjn) (by omega), o, _, _, _, rfl, rfl, ho4, at_of (ordL_get hfb) rfl,
          _, rfl, _, rfl, _, rfl, o, _, _, _, rfl, rfl, ho4, at_of (ordL_get hin) (by omega), r, _, _, _, rfl, rfl, SqL.of er, at_ref hbp rfl, _, rfl, _, rfl, o, _, _, _, rfl, rfl, ho4, at_of (ordL_get hjn) (by omega),
          bp, _, _, p j, rfl, rfl, ebp, by rw [ixN_of (by omega) (by rw [len_int, lrow]; have := hp.lt j hjn; omega), Int.toNat_natCast], ?_⟩
        rw [← List.map_set]
        have hb0 : H bp = none := fr bp (List.mem_of_getElem? hbp)
        refine ⟨_, ws.set (p i) (row.set (p j) (p (f i j) : Int)), rfl, s4.own hb0 _, by rw [upd_ne (fun e => hrn (by rw [e]; exact List.mem_of_getElem? hbp))]; exact er, WsAt.set wa4 nd hbp, sh.set erow, ld.step hp sh hin hjn erow⟩
      · rintro σ H4 ⟨bb, ws, rfl, s4, er, wa4, sh, ld⟩
        rw [show ((ads.map V.ref).length : Int).toNat = n by omega] at ld
        exact ⟨_, _, ws, rfl, s4, er, wa4, sh, ld.row⟩
    · rintro σ H2 ⟨aa, bb, ws, rfl, s3, er, wa3, sh, ld⟩
      rw [show ((ads.map V.ref).length : Int).toNat = n by omega] at ld
      rw [ld.tab hp sh] at wa3
      exact ⟨_, rfl, q r nads H2 s3 ⟨hr0, er, wa3, fr, hrn, nd⟩⟩
theorem sc_table : FnScope ["_law_script", "_law_place", "_law_most", "_law_some", "_law_size", "_law_found"] ["_law_script", "_law_place", "_law_most"] (defScope s_table) := ⟨rfl, rfl, rfl, by decide +kernel, rfl, by decide +kernel, by decide +kernel⟩
set_option maxHeartbeats 4000000 in
theorem ok_table (D : Def K mg "_law_table" s_table ["_law_script", "_law_place", "_law_most"]) (g_row : Fn P w K mg base 2 "_law_row" ["_law_script", "_law_place", "_law_sizes"] (sp_row K)) (g_made : Fn P w K mg base 2 "_law_made" ["_law_way", "_law_size", "_law_factor"] (sp_made K)) (g_relaid : Fn P w K mg base 1 "_law_relaid" ["_law_some", "_law_spots"] (sp_relaid K)) (g_ordered : Fn P w K mg base 1 "_law_ordered" ["_law_some", "_law_count"] (sp_ordered K)) (Z : Blt mg) : Fn P w K mg base 3 "_law_table" ["_law_script", "_law_place", "_law_most"] (sp_table K) := by
  refine fn_mk D sc_table (fun vs H Q E h => ?_) (fun f cdv A outer s H vs Q E hr h => ?_)
  · obtain ⟨a, ns, pl, most, rfl, _⟩ := h; rfl
  obtain ⟨a, ns, pl, most, rfl, hS, h63, h0, h1, hm1, hm2, q⟩ := h
  have hu := hu8 hr
  have hu1 := hu_of hr
  refine ⟨_, (pss_cons (ps_set (i := 3) sc_table.nd rfl (Or.inl rfl) (pe_fn g_row hr (by decide) (pa_cons (pv 0) (pa_cons (pv 1) (pa_cons (pe_op op_cat (pe_lst (pa_cons pe_int (pa_cons pe_int (pa_cons pe_int (pa_cons pe_int pa_nil))))) (pe_op op_rep (pe_lst (pa_cons pe_int pa_nil)) pe_int)) pa_nil)))))
    (pss_cons (ps_set (i := 4) sc_table.nd rfl (Or.inl rfl) (pe_op op_add pe_int (pe_op op_mod (pe_ix ix_list (pv 3) pe_int (fun _ _ => rfl)) (pv 2))))
    (pss_cons (ps_set (i := 5) sc_table.nd rfl (Or.inl rfl) (pe_fn g_made hr (by decide) (pa_cons (pe_ix ix_list (pv 3) pe_int (fun _ _ => rfl)) (pa_cons (pv 4) (pa_cons (pe_op op_add pe_int (pe_ix ix_list (pv 3) pe_int (fun _ _ => rfl))) pa_nil)))))
    (pss_cons (ps_if (pt_cmpR op_eq (pe_ix ix_list (pv 3) pe_int (fun _ _ => rfl)) pe_int (nomark _))
      (pss_one (ps_ret (pv 5)))
      pss_nil)
    (pss_one (ps_ret (pe_fn g_relaid hr (by decide) (pa_cons (pv 5) (pa_cons (pe_fn g_ordered hr (by decide) (pa_cons (pe_slice sl_list (pv 3) (po_some pe_int) po_none) (pa_cons (pv 4) pa_nil))) pa_nil))))))))), ?_⟩

  refine ⟨_, rfl, _, rfl, (by show 4 ≤ sizeLine; decide), fun u1 g1 => ⟨(by show 1 ≤ sizeLine; decide), fun u2 g2 => ?_⟩⟩
  have t1 := same_new g1 (.lst [V.int 7, V.int 24, V.int 6, V.int 2])
  have t2 := same_new g2 (.lst [V.int 24])
  refine ⟨_, _, _, rfl, rfl, upd_same, by decide, by decide, by decide, fun u3 g3 => ?_⟩
  have t3 := same_new g3 (.lst (List.replicate (24 : Int).toNat [V.int 24]).flatten)
  refine ⟨_, _, _, _, rfl, rfl, t3 _ _ (t2 _ _ upd_same), upd_same, by decide, fun u4 g4 => ?_⟩
  have t4 := same_new g4 (.lst ([V.int 7, V.int 24, V.int 6, V.int 2] ++ (List.replicate (24 : Int).toNat [V.int 24]).flatten))
  have s4 := ((t1.trans t2).trans t3).trans t4
  have esz : ([V.int 7, V.int 24, V.int 6, V.int 2] ++ (List.replicate (24 : Int).toNat [V.int 24]).flatten) = (([7, 24, 6, 2] ++ List.replicate 24 24 : List Int).map V.int) := by decide +kernel
  rw [esz] at s4 ⊢
  refine ⟨a, ns, pl, u4, [7, 24, 6, 2] ++ List.replicate 24 24, rfl, s4.seq hS, h63, h0, h1, upd_same, by decide, by decide, fun sm acc H1 s5 hsm0 hsm hal hbl => ?_⟩
  have hal' : acc.length = 28 := by rw [hal]; decide
  have s15 := s4.trans s5
  obtain ⟨x0, e0⟩ : ∃ x, acc[0]? = some x := ⟨_, List.getElem?_eq_getElem (by omega)⟩
  obtain ⟨x1, e1⟩ : ∃ x, acc[1]? = some x := ⟨_, List.getElem?_eq_getElem (by omega)⟩
  obtain ⟨x2, e2⟩ : ∃ x, acc[2]? = some x := ⟨_, List.getElem?_eq_getElem (by omega)⟩
  obtain ⟨x3, e3⟩ : ∃ x, acc[3]? = some x := ⟨_, List.getElem?_eq_getElem (by omega)⟩
  have b2 := hbl 2 6 x2 rfl e2
  have m0 := Int.emod_nonneg x1 (show most ≠ 0 by omega)
  have m1 := Int.emod_lt_of_pos x1 (show 0 < most by omega)
  have hsq := SqL.of (K := K) hsm
  refine ⟨_, rfl, sm, _, _, _, rfl, rfl, hsq, at_of e1 rfl, _, rfl, _, _, rfl, rfl, by omega, _, _, rfl, rfl, ?_⟩
  obtain ⟨n, hn⟩ : ∃ n : Nat, 1 + x1 % most = (n : Int) := ⟨(1 + x1 % most).toNat, by omega⟩
  rw [show (fun i j => V.int (i + j)) 1 (x1 % most) = V.int (n : Int) from congrArg V.int hn]
  refine ⟨_, rfl, sm, _, _, _, rfl, rfl, hsq, at_of e0 rfl, _, rfl, _, rfl, sm, _, _, _, rfl, rfl, hsq, at_of e2 rfl, _, _, rfl, rfl, x0, 2 + x2, n, rfl, by omega, by omega, by omega, by omega, fun fo fads f H2 s6 nw gd => ?_⟩
  have hsq2 := SqL.of (K := K) (s6 _ _ hsm)
  refine ⟨_, rfl, sm, _, _, _, rfl, rfl, hsq2, at_of e3 rfl, rfl, _, rfl, ?_⟩
  refine ite2 (fun c => ?_) (fun c => ?_)
  · exact ⟨_, rfl, q fo fads n f H2 (s15.trans s6) (nw.old s15) gd (by omega) (by omega)⟩
  · refine ⟨_, rfl, _, rfl, _, rfl, sm, _, rfl, hsq2, fun u5 g5 => ?_⟩
    have t5 := same_new g5 (.lst (cutV (acc.map V.int) (some 4) none))
    have ecut : cutV (acc.map V.int) (some 4) none = (acc.drop 4).map V.int := by
      rw [cutV_map, cut_from acc (by decide) (by omega)]; rfl
    rw [ecut] at t5 ⊢
    refine ⟨_, rfl, u5, acc.drop 4, n, rfl, upd_same, by rw [List.length_drop]; omega, by omega, fun od p p' H3 s7 _ eod hp => ?_⟩
    have s57 := t5.trans s7
    refine ⟨fo, od, fads, n, f, p, p', rfl, nw.at.keep s57, eod, hp, gd.lt, by omega, fun r rads H4 s8 nw2 => ?_⟩
    have sA := (s15.trans s6).trans s57
    exact q r rads n _ H4 (sA.trans s8) (nw2.old sA) (hp.good gd) (by omega) (by omega)
theorem sc_copied : FnScope ["_law_some"] ["_law_some"] (defScope s_copied) := ⟨rfl, rfl, rfl, by decide +kernel, rfl, by decide +kernel, by decide +kernel⟩
set_option maxHeartbeats 4000000 in
theorem ok_copied (D : Def K mg "_law_copied" s_copied ["_law_some"])  (Z : Blt mg) : Fn P w K mg base 1 "_law_copied" ["_law_some"] (sp_copied K) := by
  refine fn_mk D sc_copied (fun vs H Q E h => ?_) (fun f cdv A outer s H vs Q E hr h => ?_)
  · obtain ⟨t, ads, n, f, rfl, _⟩ := h; rfl
  obtain ⟨t, ads, n, f, rfl, ht, h24, q⟩ := h
  have hu := hu8 hr
  have hu1 := hu_of hr
  refine ⟨_, (pss_one (ps_ret (pe_comp (defScope s_copied) ["_law_some"] ["_law_line"] [] rfl (pi_list (pv 0)) (gk_name (by decide)) (fun cl C s H ex E => ⟨pg_name (i := 0) (show List.Nodup (["_law_line"] : List Str) by decide +kernel) rfl (Or.inl rfl), pts_nil, (pe_callTy (call_list_ofK K rfl) rfl Z.b_list PyProof.Rows.boot_list (pa_cons (pv 0) pa_nil))⟩)))), ?_⟩

  have hla := len_ref ads
  have hna := ht.len
  have hlt := tabOf_length n f
  refine ⟨_, rfl, t, rfl, ⟨_, SqL.of ht.la⟩, ?_⟩
  refine comp_list (K := K) (a := t) (xs := ads.map V.ref) (fun i ys H2 => ∃ nads : List Addr, ys = nads.map V.ref ∧ Same H H2 ∧ WsAt H2 nads ((tabOf n f).take i) ∧ (∀ x ∈ nads, H x = none) ∧ nads.Nodup)
    ⟨[], rfl, Same.refl _, .nil, by simp, by simp⟩ (fun i ys H2 hi ⟨nads, e, s2, wa, _⟩ => ⟨SqL.of (s2 _ _ ht.la), by
      have h1 := wa.len
      have h2 := ht.len
      rw [List.length_take, tabOf_length] at h1
      rw [e, len_ref]; exact szle (by omega)⟩) ?_ ?_
  · rintro i y ys H2 hi ⟨nads, rfl, s2, wa, fr, nd⟩
    obtain ⟨bi, rfl, hbi⟩ := ref_at hi
    obtain ⟨hin, ew⟩ := ht.rowAt hbi
    refine turn0 ?_
    refine ⟨_, rfl, bi, _, rfl, .inl (SqL.of (s2 _ _ ew)), fun t ht => ?_⟩
    refine ⟨nads ++ [t], by rw [ref_snoc], s2.new ht _, ?_, fresh_snoc fr (s2.free ht), nodup_snocT nd (wa.fresh ht)⟩
    rw [take_succ' (tabOf_get hin)]
    exact Paired.app (wa.keep (same_new ht _)) (.cons upd_same .nil)
  · rintro ys H1 r ⟨nads, rfl, s1, wa, fr, nd⟩ hr
    rw [List.take_of_length_le (by omega)] at wa
    exact q r nads _ (s1.new hr _) ⟨upd_same, wa.keep (same_new hr _)⟩
theorem sc_rare : FnScope ["_law_way", "_law_size", "_law_found", "_law_a", "_law_line", "_law_b", "_law_one"] ["_law_way", "_law_size"] (defScope s_rare) := ⟨rfl, rfl, rfl, by decide +kernel, rfl, by decide +kernel, by decide +kernel⟩
set_option maxHeartbeats 4000000 in
theorem ok_rare (D : Def K mg "_law_rare" s_rare ["_law_way", "_law_size"])  (Z : Blt mg) : Fn P w K mg base 1 "_law_rare" ["_law_way", "_law_size"] (sp_rare K) := by
  refine fn_mk D sc_rare (fun vs H Q E h => ?_) (fun f cdv A outer s H vs Q E hr h => ?_)
  · obtain ⟨way, n, rfl, _⟩ := h; rfl
  obtain ⟨way, n, rfl, h4, h24, q⟩ := h
  have hu := hu8 hr
  have hu1 := hu_of hr
  refine ⟨_, (pss_cons (ps_set (i := 2) sc_rare.nd rfl (Or.inl rfl) (pe_lst pa_nil))
    (pss_cons (ps_for PassesOwn.never rfl (pi_range1 rfl Z.b_range (pa_cons (pv 1) pa_nil)) (pg_name (i := 3) sc_rare.nd rfl (Or.inl rfl))
      (pss_cons (ps_set (i := 4) sc_rare.nd rfl (Or.inl rfl) (pe_lst pa_nil))
      (pss_cons (ps_for PassesOwn.never rfl (pi_range1 rfl Z.b_range (pa_cons (pv 1) pa_nil)) (pg_name (i := 5) sc_rare.nd rfl (Or.inl rfl))
        (pss_cons (ps_set (i := 6) sc_rare.nd rfl (Or.inl rfl) (pv 3))
        (pss_cons (ps_if (PW.pt (pw_and (pt_cmpR op_eq (pv 0) pe_int (nomark _)) (pw_and (pt_cmpR op_lt (pv 3) pe_int (nomark _)) (pw_and1 (pt_cmpR op_ge (pv 5) (pe_op op_sub (pv 1) pe_int) (nomark _))))))
          (pss_one (ps_set (i := 6) sc_rare.nd rfl (Or.inl rfl) (pe_op op_sub pe_int (pv 3))))
          pss_nil)
        (pss_cons (ps_if (PW.pt (pw_and (pt_cmpR op_eq (pv 0) pe_int (nomark _)) (pw_and (pt_cmpR op_lt (pv 3) pe_int (nomark _)) (pw_and1 (pt_cmpR op_lt (pv 5) pe_int (nomark _))))))
          (pss_one (ps_set (i := 6) sc_rare.nd rfl (Or.inl rfl) (pe_op op_mod (pe_op op_sub (pe_op op_mul pe_int (pv 5)) (pv 3)) pe_int)))
          pss_nil)
        (pss_one (ps_expr (pe_bm PySem.F.plainAttrs_list PySem.F.slot_list_append PySem.F.type_list_append mt_append (pv 4) (pa_cons (pv 6) pa_nil))))))))
      (pss_one (ps_expr (pe_bm PySem.F.plainAttrs_list PySem.F.slot_list_append PySem.F.type_list_append mt_append (pv 2) (pa_cons (pv 4) pa_nil)))))))
    (pss_one (ps_ret (pv 2))))), ?_⟩

  refine ⟨sz0, fun r hr => ?_⟩
  refine ⟨_, rfl, _, rfl, by omega, by omega, ?_⟩
  refine for_range (n := (n : Int).toNat) (fun i σ H2 => ∃ (aa li bb on : Option V) (nads : List Addr) (ws : List (List Int)), σ = [some (.int way), some (.int (n : Int)), some (.ref r), aa, li, bb, on] ∧ Same H H2 ∧ H2 r = some (.lst (nads.map V.ref)) ∧ WsAt H2 nads ws ∧ ws.length = i ∧ (∀ w ∈ ws, w.length = n) ∧ InR n ws ∧ r ∉ nads)
    ⟨none, none, none, none, [], [], rfl, same_new hr _, upd_same, .nil, rfl, by simp, fun w hw => by simp at hw, by simp⟩ ?_ ?_
  · rintro i σ H2 hi ⟨aa, li, bb, on, nads, ws, rfl, s2, er, wa, hwl, hwr, hin, hrn⟩
    have hln := wa.len
    refine ⟨sz0, fun l hl => ?_⟩
    have hrl : r ≠ l := ne_of_none er hl
    have hnl : l ∉ nads := wa.fresh hl
    have hl0 : H l = none := s2.free hl
    refine ⟨_, rfl, _, rfl, by omega, by omega, ?_⟩
    refine for_range (n := (n : Int).toNat) (fun j σ H3 => ∃ (bb on : Option V) (w : List Int), σ = [some (.int way), some (.int (n : Int)), some (.ref r), some (.int (0 + (i : Int))), some (.ref l), bb, on] ∧ Same H H3 ∧ H3 r = some (.lst (nads.map V.ref)) ∧ WsAt H3 nads ws ∧ H3 l = some (.lst (w.map V.int)) ∧ w.length = j ∧ ∀ v ∈ w, 0 ≤ v ∧ v < (n : Int))
      ⟨bb, on, [], rfl, s2.new hl _, (same_new hl _) _ _ er, wa.keep (same_new hl _), upd_same, rfl, by simp⟩ ?_ ?_
    · rintro j σ H3 hj ⟨bb, on, w, rfl, s3, er3, wa3, el3, hwj, hwi⟩
      have last : ∀ v : Int, 0 ≤ v → v < (n : Int) → ∀ on', ∃ (bb on : Option V) (w' : List Int), [some (V.int way), some (.int (n : Int)), some (.ref r), some (.int (0 + (i : Int))), some (.ref l), some (.int (0 + (j : Int))), on'] = [some (.int way), some (.int (n : Int)), some (.ref r), some (.int (0 + (i : Int))), some (.ref l), bb, on] ∧ Same H (upd H3 l (.lst (w.map V.int ++ [.int v]))) ∧ (upd H3 l (.lst (w.map V.int ++ [.int v]))) r = some (.lst (nads.map V.ref)) ∧ WsAt (upd H3 l (.lst (w.map V.int ++ [.int v]))) nads ws ∧ (upd H3 l (.lst (w.map V.int ++ [.int v]))) l = some (.lst (w'.map V.int)) ∧ w'.length = j + 1 ∧ ∀ v ∈ w', 0 ≤ v ∧ v < (n : Int) := fun v v0 v1 on' =>
        ⟨_, _, w ++ [v], rfl, s3.own hl0 _, by rw [upd_ne hrl]; exact er3, wa3.other hnl, by rw [upd_same, map_snoc], by simp [hwj], fun u hu => by
          rcases List.mem_append.mp hu with h | h
          · exact hwi u h
          · rw [List.mem_singleton.mp h]; exact ⟨v0, v1⟩⟩
      have hsz : (w.map V.int).length < sizeLine := by rw [len_int]; exact small1000 (by omega)
      refine ⟨_, rfl, ?_⟩
      by_cases c1 : way = 0 ∧ (0 + (i : Int)) < 2 ∧ (0 + (j : Int)) ≥ (n : Int) - 2
      · obtain ⟨d1, d2, d3⟩ := c1
        refine ⟨_, rfl, rfl, _, rfl, ?_⟩
        rw [eqI, decide_eq_true d1]
        refine iteT ⟨_, rfl, _, _, rfl, rfl, _, rfl, ?_⟩
        rw [decide_eq_true d2]
        refine iteT ⟨_, rfl, _, rfl, _, _, rfl, rfl, _, _, rfl, rfl, _, rfl, ?_⟩
        rw [decide_eq_true (show (n : Int) - 2 ≤ 0 + (j : Int) from d3)]
        refine iteT ⟨_, rfl, _, _, rfl, rfl, ?_⟩
        refine ⟨_, rfl, rfl, _, rfl, ?_⟩
        rw [eqI, decide_eq_false (by omega : ¬ way = 1)]
        refine iteF ?_
        exact ⟨_, rfl, .inl ⟨rfl, _, SqL.of el3⟩, _, rfl, l, _, _, rfl, rfl, el3, hsz, last (1 - (0 + (i : Int))) (by omega) (by omega) _⟩
      refine ⟨_, rfl, rfl, _, rfl, ?_⟩
      refine ite_bothT ?_ (fun d1 G => ⟨_, rfl, _, _, rfl, rfl, _, rfl, ite_bothT G fun d2 G => ⟨_, rfl, _, rfl, _, _, rfl, rfl, _, _, rfl, rfl, _, rfl, ite_bothT G fun d3 _ => absurd ⟨V.iff (of_decide_eq_true d1), of_decide_eq_true d2, of_decide_eq_true d3⟩ c1⟩⟩)
      by_cases c2 : way = 1 ∧ (0 + (i : Int)) < 3 ∧ (0 + (j : Int)) < 3
      · obtain ⟨d1, d2, d3⟩ := c2
        refine ⟨_, rfl, rfl, _, rfl, ?_⟩
        rw [eqI, decide_eq_true d1]
        refine iteT ⟨_, rfl, _, _, rfl, rfl, _, rfl, ?_⟩
        rw [decide_eq_true d2]
        refine iteT ⟨_, rfl, _, _, rfl, rfl, _, rfl, ?_⟩
        rw [decide_eq_true d3]
        refine iteT ⟨_, rfl, _, _, rfl, rfl, .inl ⟨by decide, by decide⟩, _, rfl, _, _, rfl, rfl, _, _, rfl, rfl, (by show (0 : Int) < 3; decide), ?_⟩
        have m0 := Int.emod_nonneg (2 * (0 + (j : Int)) - (0 + (i : Int))) (show (3 : Int) ≠ 0 by decide)
        have m1 := Int.emod_lt_of_pos (2 * (0 + (j : Int)) - (0 + (i : Int))) (show (0 : Int) < 3 by decide)
        exact ⟨_, rfl, .inl ⟨rfl, _, SqL.of el3⟩, _, rfl, l, _, _, rfl, rfl, el3, hsz, last _ m0 (by omega) _⟩
      refine ⟨_, rfl, rfl, _, rfl, ?_⟩
      refine ite_bothT ?_ (fun d1 G => ⟨_, rfl, _, _, rfl, rfl, _, rfl, ite_bothT G fun d2 G => ⟨_, rfl, _, _, rfl, rfl, _, rfl, ite_bothT G fun d3 _ => absurd ⟨V.iff (of_decide_eq_true d1), of_decide_eq_true d2, of_decide_eq_true d3⟩ c2⟩⟩)
      exact ⟨_, rfl, .inl ⟨rfl, _, SqL.of el3⟩, _, rfl, l, _, _, rfl, rfl, el3, hsz, last (0 + (i : Int)) (by omega) (by omega) _⟩
    · rintro σ H3 ⟨bb, on, w, rfl, s3, er3, wa3, el3, hwj, hwi⟩
      refine ⟨_, rfl, .inl ⟨rfl, _, SqL.of er3⟩, _, rfl, r, _, _, rfl, rfl, er3, by rw [len_ref]; exact small1000 (by omega), ?_⟩
      refine ⟨_, _, _, _, nads ++ [l], ws ++ [w], rfl, s3.own hr _, by rw [upd_same, ref_snoc], Paired.app (wa3.other hrn) (.cons (by rw [upd_ne hrl.symm]; exact el3) .nil), by simp [hwl], fun u hu => ?_, fun u hu => ?_, notin_snoc hrn hrl⟩
      · rcases List.mem_append.mp hu with h | h
        · exact hwr u h
        · rw [List.mem_singleton.mp h]; omega
      · rcases List.mem_append.mp hu with h | h
        · exact hin u h
        · rw [List.mem_singleton.mp h]; exact hwi
  · rintro σ H2 ⟨aa, li, bb, on, nads, ws, rfl, s2, er, wa, hwl, hwr, hin, hrn⟩
    obtain ⟨f, rfl, hf⟩ := tab_of (n := n) ⟨by omega, hwr⟩ hin
    exact ⟨_, rfl, q r nads f H2 s2 ⟨er, wa⟩ hf⟩
theorem sc_pair : FnScope ["_law_script", "_law_most", "_law_some", "_law_one", "_law_rare_here", "_law_other"] ["_law_script", "_law_most"] (defScope s_pair) := ⟨rfl, rfl, rfl, by decide +kernel, rfl, by decide +kernel, by decide +kernel⟩
set_option maxHeartbeats 4000000 in
theorem ok_pair (D : Def K mg "_law_pair" s_pair ["_law_script", "_law_most"]) (g_row : Fn P w K mg base 2 "_law_row" ["_law_script", "_law_place", "_law_sizes"] (sp_row K)) (g_table : Fn P w K mg base 3 "_law_table" ["_law_script", "_law_place", "_law_most"] (sp_table K)) (g_rare : Fn P w K mg base 1 "_law_rare" ["_law_way", "_law_size"] (sp_rare K)) (g_made : Fn P w K mg base 2 "_law_made" ["_law_way", "_law_size", "_law_factor"] (sp_made K)) (g_relaid : Fn P w K mg base 1 "_law_relaid" ["_law_some", "_law_spots"] (sp_relaid K)) (g_ordered : Fn P w K mg base 1 "_law_ordered" ["_law_some", "_law_count"] (sp_ordered K)) (Z : Blt mg) : Fn P w K mg base 4 "_law_pair" ["_law_script", "_law_most"] (sp_pair K) := by
  refine fn_mk D sc_pair (fun vs H Q E h => ?_) (fun f cdv A outer s H vs Q E hr h => ?_)
  · obtain ⟨a, ns, most, rfl, _⟩ := h; rfl
  obtain ⟨a, ns, most, rfl, hS, h63, hm1, hm2, q⟩ := h
  have hu := hu8 hr
  have hu1 := hu_of hr
  obtain ⟨u_0, hu_0, r_0⟩ : ∃ u, PSs (cxOf CX0 P w K mg base ["_law_script", "_law_most", "_law_some", "_law_one", "_law_rare_here", "_law_other"] "_law_pair" (defScope s_pair) f cdv A outer s H E).nox ((defBody s_pair).drop 4) u ∧ ∀ (sm rh t : Addr) (acc racc : List Int) (tads : List Addr) (n : Nat) (fn : Nat → Nat → Nat) (H3 : Hp), Same H H3 → H3 sm = some (.lst (acc.map V.int)) → acc.length = 25 → (∀ x, acc[3]? = some x → 0 ≤ x ∧ x < 24) → TbAt H3 t tads n fn → LtF n fn → 1 ≤ n → n ≤ 24 → u ({ nx := fun _ H' => Q .non H', rt := Q } : Ends) [some (.ref a), some (.int most), some (.ref sm), some (.ref t), some (.ref rh), none] H3 := by
    refine ⟨_, (pss_cons (ps_if (pt_cmpR op_gt (pe_ix ix_list (pv 2) pe_int (fun _ _ => rfl)) pe_int (nomark _))
      (pss_one (ps_ret (pe_tup (pa_cons (pv 3) (pa_cons (pe_fn g_relaid hr (by decide) (pa_cons (pv 3) (pa_cons (pe_fn g_ordered hr (by decide) (pa_cons (pe_slice sl_list (pv 2) (po_some pe_int) po_none) (pa_cons (pe_callB call_len_seq rfl Z.b_len PySem.boot_len (pa_cons (pv 3) pa_nil)) pa_nil))) pa_nil))) pa_nil)))))
      pss_nil)
    (pss_cons (ps_set (i := 5) sc_pair.nd rfl (Or.inl rfl) (pe_fn g_table hr (by decide) (pa_cons (pv 0) (pa_cons pe_int (pa_cons (pv 1) pa_nil)))))
    (pss_cons (ps_if (PW.pt (pw_and (pt_cmpR op_ne (pe_callB call_len_seq rfl Z.b_len PySem.boot_len (pa_cons (pv 5) pa_nil)) (pe_callB call_len_seq rfl Z.b_len PySem.boot_len (pa_cons (pv 3) pa_nil)) (nomark _)) (pw_and1 (pt_cmpR op_gt (pe_op op_mod (pe_ix ix_list (pv 2) pe_int (fun _ _ => rfl)) pe_int) pe_int (nomark _)))))
      (pss_one (ps_set (i := 5) sc_pair.nd rfl (Or.inl rfl) (pe_fn g_made hr (by decide) (pa_cons (pe_op op_mod (pe_ix ix_list (pv 2) pe_int (fun _ _ => rfl)) pe_int) (pa_cons (pe_callB call_len_seq rfl Z.b_len PySem.boot_len (pa_cons (pv 3) pa_nil)) (pa_cons (pe_op op_add pe_int (pe_ix ix_list (pv 2) pe_int (fun _ _ => rfl))) pa_nil))))))
      pss_nil)
    (pss_one (ps_ret (pe_tup (pa_cons (pv 3) (pa_cons (pv 5) pa_nil)))))))), ?_⟩

    intro sm rh t acc racc tads n fn H3 s3 hsm hal h3 ht hf h1 h24
    have hla := len_ref tads
    have hna := ht.len
    obtain ⟨x0, e0⟩ := get_ex (im := acc) (a := 0) (by omega)
    obtain ⟨x1, e1⟩ := get_ex (im := acc) (a := 1) (by omega)
    obtain ⟨x2, e2⟩ := get_ex (im := acc) (a := 2) (by omega)
    obtain ⟨x3, e3⟩ := get_ex (im := acc) (a := 3) (by omega)
    have b3 := h3 x3 e3
    have hsq := SqL.of (K := K) hsm
    refine ⟨_, rfl, sm, _, _, _, rfl, rfl, hsq, at_of e0 rfl, _, _, rfl, rfl, _, rfl, ?_⟩
    refine ite2 (fun c => ?_) (fun c => ?_)
    · refine ⟨_, rfl, _, rfl, _, rfl, _, rfl, sm, _, rfl, hsq, fun u5 g5 => ?_⟩
      have t5 := same_new g5 (.lst (cutV (acc.map V.int) (some 1) none))
      have ecut : cutV (acc.map V.int) (some 1) none = (acc.drop 1).map V.int := by
        rw [cutV_map, cut_from acc (by decide) (by omega)]; rfl
      rw [ecut] at t5 ⊢
      refine ⟨_, rfl, t, _, rfl, .inl (SqL.of (t5 _ _ ht.la)), ?_⟩
      rw [show ((tads.map V.ref).length : Int) = (n : Int) by omega]
      refine ⟨u5, acc.drop 1, n, rfl, upd_same, by rw [List.length_drop]; omega, h24, fun od p p' H4 s6 _ eod hp => ?_⟩
      have s56 := t5.trans s6
      refine ⟨t, od, tads, n, fn, p, p', rfl, ht.keep s56, eod, hp, hf, h24, fun r rads H5 s7 nw => ?_⟩
      refine ⟨(by show 2 ≤ sizeLine; decide), fun tp htp => ?_⟩
      have s57 := (s56.trans s7).new htp (.tup [.ref t, .ref r])
      exact q tp t r tads rads n n fn _ _ (s3.trans s57) upd_same (ht.keep s57) (nw.at.keep (same_new htp _)) hf (fun x y hx hy => hp.lt _ (hf _ _ (hp.qlt x hx) (hp.qlt y hy))) h1 h24 h1 h24
    · refine ⟨_, rfl, _, rfl, a, ns, 1, most, rfl, s3.seq hS, h63, by decide, by decide, hm1, hm2, fun o oads m g H4 s4 nw gd hn2 hm3 => ?_⟩
      have hlo := len_ref oads
      have hno := nw.at.len
      have hsm4 := s4 _ _ hsm
      have fin : ∀ (o : Addr) (oads : List Addr) (m : Nat) (g : Nat → Nat → Nat) (H5 : Hp), Same H3 H5 → TbAt H5 o oads m g → LtF m g → 1 ≤ m → m ≤ 24 → tTup (tCons (tVar 3) (tCons (tVar 5) tNil)) [some (.ref a), some (.int most), some (.ref sm), some (.ref t), some (.ref rh), some (.ref o)] H5 Q := fun o oads m g H5 s5 ho hg m1 m24 =>
        ⟨_, rfl, _, rfl, (by show 2 ≤ sizeLine; decide), fun tp htp => q tp t o tads oads n m fn g _ (s3.trans (s5.new htp _)) upd_same (ht.keep (s5.new htp _)) (ho.keep (same_new htp _)) hf hg h1 h24 m1 m24⟩
      refine ⟨_, rfl, o, _, rfl, .inl (SqL.of nw.la), _, rfl, t, _, rfl, .inl (SqL.of (s4 _ _ ht.la)), rfl, _, rfl, ?_⟩
      refine ite_bothT (fin o oads m g H4 s4 nw.at gd.lt hn2 (by omega)) (fun c1 G => ⟨_, rfl, sm, _, _, _, rfl, rfl, SqL.of hsm4, at_of e1 rfl, _, _, rfl, rfl, (by show (0 : Int) < 3; decide), _, _, rfl, rfl, _, rfl, ite_bothT G fun c2 _ => ?_⟩)
      refine ⟨_, rfl, sm, _, _, _, rfl, rfl, SqL.of hsm4, at_of e2 rfl, _, _, rfl, rfl, (by show (0 : Int) < 7; decide), _, rfl, t, _, rfl, .inl (SqL.of (s4 _ _ ht.la)), ?_⟩
      rw [show ((tads.map V.ref).length : Int) = (n : Int) by omega]
      refine ⟨_, rfl, sm, _, _, _, rfl, rfl, SqL.of hsm4, at_of e3 rfl, _, _, rfl, rfl, _, 1 + x3, n, rfl, h1, h24, by omega, by omega, fun o2 o2ads g2 H5 s5 nw2 gd2 => ?_⟩
      exact fin o2 o2ads n g2 H5 (s4.trans s5) nw2.at gd2.lt h1 h24
  refine ⟨_, (pss_cons (ps_set (i := 2) sc_pair.nd rfl (Or.inl rfl) (pe_fn g_row hr (by decide) (pa_cons (pv 0) (pa_cons pe_int (pa_cons (pe_op op_cat (pe_lst (pa_cons pe_int pa_nil)) (pe_op op_rep (pe_lst (pa_cons pe_int pa_nil)) pe_int)) pa_nil)))))
    (pss_cons (ps_set (i := 3) sc_pair.nd rfl (Or.inl rfl) (pe_fn g_table hr (by decide) (pa_cons (pv 0) (pa_cons pe_int (pa_cons (pv 1) pa_nil)))))
    (pss_cons (ps_set (i := 4) sc_pair.nd rfl (Or.inl rfl) (pe_fn g_row hr (by decide) (pa_cons (pv 0) (pa_cons pe_int (pa_cons (pe_lst (pa_cons pe_int (pa_cons pe_int pa_nil))) pa_nil star_list)))))
    (pss_cons (ps_if (PW.pt (pw_and (pt_cmpR op_eq (pe_ix ix_list (pv 4) pe_int (fun _ _ => rfl)) pe_int (nomark _)) (pw_and1 (pt_cmpR op_gt (pe_callB call_len_seq rfl Z.b_len PySem.boot_len (pa_cons (pv 3) pa_nil)) pe_int (nomark _)))))
      (pss_one (ps_set (i := 3) sc_pair.nd rfl (Or.inl rfl) (pe_fn g_rare hr (by decide) (pa_cons (pe_ix ix_list (pv 4) pe_int (fun _ _ => rfl)) (pa_cons (pe_callB call_len_seq rfl Z.b_len PySem.boot_len (pa_cons (pv 3) pa_nil)) pa_nil)))))
      pss_nil)
    hu_0)))), ?_⟩

  refine ⟨_, rfl, (by show 1 ≤ sizeLine; decide), fun u1 g1 => ⟨(by show 1 ≤ sizeLine; decide), fun u2 g2 => ?_⟩⟩
  have t1 := same_new g1 (.lst [V.int 3])
  have t2 := same_new g2 (.lst [V.int 24])
  refine ⟨_, _, _, rfl, rfl, upd_same, by decide, by decide, by decide, fun u3 g3 => ?_⟩
  have t3 := same_new g3 (.lst (List.replicate (24 : Int).toNat [V.int 24]).flatten)
  refine ⟨_, _, _, _, rfl, rfl, t3 _ _ (t2 _ _ upd_same), upd_same, by decide, fun u4 g4 => ?_⟩
  have t4 := same_new g4 (.lst ([V.int 3] ++ (List.replicate (24 : Int).toNat [V.int 24]).flatten))
  have esz : ([V.int 3] ++ (List.replicate (24 : Int).toNat [V.int 24]).flatten) = (([3] ++ List.replicate 24 24 : List Int).map V.int) := by decide +kernel
  rw [esz] at t4 ⊢
  have s4 := ((t1.trans t2).trans t3).trans t4
  refine ⟨a, ns, 2, u4, [3] ++ List.replicate 24 24, rfl, s4.seq hS, h63, by decide, by decide, upd_same, by decide, by decide, fun sm acc H1 s5 _ hsm hal hbl => ?_⟩
  have hal' : acc.length = 25 := by rw [hal]; decide
  have s15 := s4.trans s5
  refine ⟨_, rfl, _, rfl, a, ns, 0, most, rfl, s15.seq hS, h63, by decide, by decide, hm1, hm2, fun t tads n fn H2 s6 nw gd hn1 hm3 => ?_⟩
  have hla := len_ref tads
  have hna := nw.at.len
  refine ⟨_, rfl, (by show 2 ≤ sizeLine; decide), fun u6 g6 => ?_⟩
  have t6 := same_new g6 (.lst [V.int 5, V.int 2])
  refine ⟨a, ns, 6, u6, [5, 2], rfl, (s15.trans (s6.trans t6)).seq hS, h63, by decide, by decide, upd_same, by decide, by decide, fun rh racc H3 s7 _ hrh hral _ => ?_⟩
  have hral' : racc.length = 2 := hral
  have s67 := t6.trans s7
  have sA := s15.trans (s6.trans s67)
  have h3 : ∀ x, acc[3]? = some x → 0 ≤ x ∧ x < 24 := fun x e => hbl 3 24 x rfl e
  obtain ⟨y0, f0⟩ := get_ex (im := racc) (a := 0) (by omega)
  obtain ⟨y1, f1⟩ := get_ex (im := racc) (a := 1) (by omega)
  have hsm3 := (s6.trans s67) _ _ hsm
  refine ⟨_, rfl, rh, _, _, _, rfl, rfl, SqL.of hrh, at_of f0 rfl, rfl, _, rfl, ?_⟩
  refine ite_bothT (r_0 sm rh t acc racc tads n fn H3 sA hsm3 hal' h3 (nw.at.keep s67) gd.lt hn1 (by omega)) (fun c1 G => ⟨_, rfl, t, _, rfl, .inl (SqL.of (s67 _ _ nw.la)), _, _, rfl, rfl, _, rfl, ite_bothT G fun c2 _ => ?_⟩)
  have c2' : (3 : Int) < ((tads.map V.ref).length : Int) := of_decide_eq_true c2
  refine ⟨_, rfl, rh, _, _, _, rfl, rfl, SqL.of hrh, at_of f1 rfl, _, rfl, t, _, rfl, .inl (SqL.of (s67 _ _ nw.la)), ?_⟩
  rw [show ((tads.map V.ref).length : Int) = (n : Int) by omega]
  refine ⟨_, n, rfl, by omega, by omega, fun t2 t2ads f2 H4 s8 ht2 hf2 => ?_⟩
  exact r_0 sm rh t2 acc racc t2ads n f2 H4 (sA.trans s8) (s8 _ _ hsm3) hal' h3 ht2 hf2 hn1 (by omega)
theorem sc_due : FnScope ["_law_one", "_law_other", "_law_images_here", "_law_colour", "_law_a", "_law_b", "_law_met"] ["_law_one", "_law_other", "_law_images_here"] (defScope s_due) := ⟨rfl, rfl, rfl, by decide +kernel, rfl, by decide +kernel, by decide +kernel⟩
set_option maxHeartbeats 4000000 in
theorem ok_due (D : Def K mg "_law_due" s_due ["_law_one", "_law_other", "_law_images_here"])  (Z : Blt mg) : Fn P w K mg base 1 "_law_due" ["_law_one", "_law_other", "_law_images_here"] (sp_due K) := by
  refine fn_mk D sc_due (fun vs H Q E h => ?_) (fun f cdv A outer s H vs Q E hr h => ?_)
  · obtain ⟨t, o, i, tads, oads, n, m, f, g, im, rfl, _⟩ := h; rfl
  obtain ⟨t, o, i, tads, oads, n, m, f, g, im, rfl, ht, ho, hi, hf, h24, q⟩ := h
  have hu := hu8 hr
  have hu1 := hu_of hr
  refine ⟨_, (pss_cons (ps_if (pt_cmpR op_ne (pe_callB call_len_seq rfl Z.b_len PySem.boot_len (pa_cons (pv 2) pa_nil)) (pe_callB call_len_seq rfl Z.b_len PySem.boot_len (pa_cons (pv 0) pa_nil)) (nomark _))
      (pss_one (ps_ret pe_bl))
      pss_nil)
    (pss_cons (ps_for PassesOwn.never rfl (pi_list (pv 2)) (pg_name (i := 3) sc_due.nd rfl (Or.inl rfl))
      (pss_one (ps_if (pt_not (pt_chain op_le op_lt pe_int (pv 3) (pe_callB call_len_seq rfl Z.b_len PySem.boot_len (pa_cons (pv 1) pa_nil))))
        (pss_one (ps_ret pe_bl))
        pss_nil)))
    (pss_cons (ps_for PassesOwn.never rfl (pi_range1 rfl Z.b_range (pa_cons (pe_callB call_len_seq rfl Z.b_len PySem.boot_len (pa_cons (pv 0) pa_nil)) pa_nil)) (pg_name (i := 4) sc_due.nd rfl (Or.inl rfl))
      (pss_one (ps_for PassesOwn.never rfl (pi_range1 rfl Z.b_range (pa_cons (pe_callB call_len_seq rfl Z.b_len PySem.boot_len (pa_cons (pv 0) pa_nil)) pa_nil)) (pg_name (i := 5) sc_due.nd rfl (Or.inl rfl))
        (pss_cons (ps_set (i := 6) sc_due.nd rfl (Or.inl rfl) (pe_ix ix_list (pv 2) (pe_ix ix_list (pe_ix ix_list (pv 0) (pv 4) (fun _ _ => rfl)) (pv 5) (fun _ _ => rfl)) (fun _ _ => rfl)))
        (pss_one (ps_if (pt_cmpR op_ne (pv 6) (pe_ix ix_list (pe_ix ix_list (pv 1) (pe_ix ix_list (pv 2) (pv 4) (fun _ _ => rfl)) (fun _ _ => rfl)) (pe_ix ix_list (pv 2) (pv 5) (fun _ _ => rfl)) (fun _ _ => rfl)) (nomark _))
          (pss_one (ps_ret pe_bl))
          pss_nil))))))
    (pss_one (ps_ret pe_bl))))), ?_⟩

  have hli := len_int im
  have hi1 := SqL.of (K := K) hi
  have hlt := len_ref tads
  have hnt := ht.len
  have hlo := len_ref oads
  have hno := ho.len
  refine ⟨_, rfl, i, _, rfl, .inl hi1, _, rfl, t, _, rfl, .inl (SqL.of ht.la), rfl, _, rfl, ?_⟩
  by_cases hl : ¬ im.length = n
  · exact iteNE (fun e => hl (by have := V.iff e; omega)) (q false (by constructor <;> intro h; cases h; exact absurd h.1 hl))
  have hl := Classical.not_not.mp hl
  refine iteNS (by rw [hli, hlt, hl, hnt]) ?_
  refine ⟨_, rfl, i, rfl, ⟨_, hi1⟩, ?_⟩
  refine for_list (K := K) (a := i) (xs := im.map V.int) (fun k σ H2 => ∃ co : Option V, σ = [some (.ref t), some (.ref o), some (.ref i), co, none, none, none] ∧ H2 = H ∧ ∀ v ∈ im.take k, 0 ≤ v ∧ v < (m : Int)) ⟨none, rfl, rfl, fun v hv => by simp at hv⟩ (fun k σ H2 _ ⟨_, _, e, _⟩ => by rw [e]; exact hi1) ?_ ?_
  · rintro k y σ H2 hk ⟨co, rfl, rfl, hcs⟩
    obtain ⟨v, rfl, hv⟩ := int_at hk
    have hvm := List.mem_of_getElem? hv
    refine ⟨_, rfl, _, _, rfl, rfl, _, rfl, ?_⟩
    by_cases c0 : 0 ≤ v
    · rw [decide_eq_true c0]
      refine iteT ⟨_, rfl, o, _, rfl, .inl (SqL.of ho.la), _, _, rfl, rfl, _, rfl, ?_⟩
      by_cases c1 : v < ((oads.map V.ref).length : Int)
      · rw [decide_eq_true c1]
        refine iteF ⟨_, rfl, rfl, fun u hu => ?_⟩
        rw [take_succ' hv] at hu
        rcases List.mem_append.mp hu with h | h
        · exact hcs u h
        · rw [List.mem_singleton.mp h]; omega
      · rw [decide_eq_false c1]
        exact iteT (q false (by constructor <;> intro h; cases h; have := h.2.1 v hvm; omega))
    · rw [decide_eq_false c0]
      exact iteF ⟨_, rfl, iteT (q false (by constructor <;> intro h; cases h; have := h.2.1 v hvm; omega))⟩
  · rintro σ H2 ⟨co, rfl, rfl, hcs⟩
    rw [List.take_of_length_le (by omega)] at hcs
    have hc : ColR m im := hcs
    refine ⟨_, rfl, t, _, rfl, .inl (SqL.of ht.la), _, rfl, by omega, by omega, ?_⟩
    refine for_range (n := ((tads.map V.ref).length : Int).toNat) (fun j σ H3 => ∃ aa bb me : Option V, σ = [some (.ref t), some (.ref o), some (.ref i), co, aa, bb, me] ∧ H3 = H2 ∧ ∀ a b, a < j → b < n → GoodAt f g im a b) ⟨none, none, none, rfl, rfl, fun a b ha => by omega⟩ ?_ ?_
    · rintro j σ H3 hj ⟨aa, bb, me, rfl, rfl, hno'⟩
      have hjn : j < n := by omega
      refine ⟨_, rfl, t, _, rfl, .inl (SqL.of ht.la), _, rfl, by omega, by omega, ?_⟩
      refine for_range (n := ((tads.map V.ref).length : Int).toNat) (fun k σ H4 => ∃ bb me : Option V, σ = [some (.ref t), some (.ref o), some (.ref i), co, some (.int (0 + (j : Int))), bb, me] ∧ H4 = H3 ∧ ∀ b, b < k → GoodAt f g im j b) ⟨bb, me, rfl, rfl, fun b hb => by omega⟩ ?_ ?_
      · rintro k σ H4 hk ⟨bb, me, rfl, rfl, hno2⟩
        have hkn : k < n := by omega
        have hfl := hf j k hjn hkn
        obtain ⟨x, ex⟩ := get_ex (im := im) (a := j) (by omega)
        obtain ⟨y, ey⟩ := get_ex (im := im) (a := k) (by omega)
        obtain ⟨z, ez⟩ := get_ex (im := im) (a := f j k) (by omega)
        have cx := hc.get ex
        have cy := hc.get ey
        obtain ⟨bj, hbj, ebj⟩ := ht.row hjn
        obtain ⟨bx, hbx, ebx⟩ := ho.row (a := x.toNat) (by omega)
        refine ⟨_, rfl, _, rfl, _, rfl, t, _, _, _, rfl, rfl, SqL.of ht.la, at_ref hbj (by omega), _, rfl, bj, _, _, _, rfl, rfl, SqL.of ebj, at_of (rowOf_get hkn) (by omega), i, _, _, _, rfl, rfl, hi1, at_of ez rfl, ?_⟩
        refine ⟨_, rfl, _, rfl, _, rfl, _, rfl, i, _, _, _, rfl, rfl, hi1, at_of ex (by omega), o, _, _, _, rfl, rfl, SqL.of ho.la, at_refN cx.1 hbx, _, rfl, _, rfl, i, _, _, _, rfl, rfl, hi1, at_of ey (by omega), bx, _, _, _, rfl, rfl, SqL.of ebx, at_toNat cy.1 (rowOf_get (by omega)), rfl, _, rfl, ?_⟩
        by_cases c : ((g x.toNat y.toNat : Nat) : Int) = z
        · exact iteNS (by rw [c]) ⟨_, _, rfl, rfl, fun b hb => by
            by_cases e : b = k
            · subst e; exact goodAt_of ex ey ez c
            · exact hno2 b (by omega)⟩
        · exact iteNE (fun e => c (V.iff e).symm) (q false (by constructor <;> intro h; cases h; exact absurd (h.2.2 j k hjn hkn x y z ex ey ez) c))
      · rintro σ H4 ⟨bb, me, rfl, rfl, hno2⟩
        refine ⟨_, _, _, rfl, rfl, fun a b ha hb => ?_⟩
        by_cases e : a = j
        · subst e; exact hno2 b (by omega)
        · exact hno' a b (by omega) hb
    · rintro σ H3 ⟨aa, bb, me, rfl, rfl, hno'⟩
      exact q true ⟨fun _ => ⟨hl, hc, fun a b ha hb => hno' a b (by omega) hb⟩, fun _ => rfl⟩
theorem sc_images : FnScope ["_law_one", "_law_other", "_law_some", "_law_order", "_law_way", "_law_images_here", "_law_at"] ["_law_one", "_law_other", "_law_some", "_law_order"] (defScope s_images) := ⟨rfl, rfl, rfl, by decide +kernel, rfl, by decide +kernel, by decide +kernel⟩
set_option maxHeartbeats 4000000 in
theorem ok_images (D : Def K mg "_law_images" s_images ["_law_one", "_law_other", "_law_some", "_law_order"])  (Z : Blt mg) : Fn P w K mg base 1 "_law_images" ["_law_one", "_law_other", "_law_some", "_law_order"] (sp_images K) := by
  refine fn_mk D sc_images (fun vs H Q E h => ?_) (fun f cdv A outer s H vs Q E hr h => ?_)
  · obtain ⟨t, o, s0, d, tads, oads, n, m, fn, g, zs, ds, rfl, _⟩ := h; rfl
  obtain ⟨t, o, s0, d, tads, oads, n, m, fn, g, zs, ds, rfl, ht, ho, h1, h24, hm1, hm24, hs, hzl, hd, hdl, q⟩ := h
  have hu := hu8 hr
  have hu1 := hu_of hr

  have hlt := len_ref tads
  have hnt := ht.len
  have hlo := len_ref oads
  have hno := ho.len
  have hlz := len_int zs
  obtain ⟨x0, e0⟩ := get_ex (im := zs) (a := 0) (by omega)
  obtain ⟨x1, e1⟩ := get_ex (im := zs) (a := 1) (by omega)
  obtain ⟨x2, e2⟩ := get_ex (im := zs) (a := 2) (by omega)
  have a0 := Int.emod_nonneg x1 (show (n : Int) ≠ 0 by omega)
  have a1 := Int.emod_lt_of_pos x1 (show 0 < (n : Int) by omega)
  obtain ⟨u_9, hu_9, r_9⟩ : ∃ u, PSs (cxOf CX0 P w K mg base ["_law_one", "_law_other", "_law_some", "_law_order", "_law_way", "_law_images_here", "_law_at"] "_law_images" (defScope s_images) f cdv A outer s H E).nox ((defBody s_images).drop 12) u ∧ ∀ (r : Addr) (im : List Int) (H3 : Hp), Same H H3 → H r = none → H3 r = some (.lst (im.map V.int)) → im.length ≤ 61 → True → u ({ nx := fun _ H' => Q .non H', rt := Q } : Ends) [some (.ref t), some (.ref o), some (.ref s0), some (.ref d), some (.int x0), some (.ref r), some (.int (x1 % (n : Int)))] H3 := by
    refine ⟨_, (pss_one (ps_ret (pv 5))), ?_⟩

    intro r im H3 s3 r0 er h60 _
    exact ⟨_, rfl, q r im H3 s3 er (by omega)⟩
  obtain ⟨u_8, hu_8, r_8⟩ : ∃ u, PSs (cxOf CX0 P w K mg base ["_law_one", "_law_other", "_law_some", "_law_order", "_law_way", "_law_images_here", "_law_at"] "_law_images" (defScope s_images) f cdv A outer s H E).nox ((defBody s_images).drop 11) u ∧ ∀ (r : Addr) (im : List Int) (H3 : Hp), Same H H3 → H r = none → H3 r = some (.lst (im.map V.int)) → im.length ≤ 61 → (im.length = n ∨ x0 = 7 ∨ x0 = 8) → u ({ nx := fun _ H' => Q .non H', rt := Q } : Ends) [some (.ref t), some (.ref o), some (.ref s0), some (.ref d), some (.int x0), some (.ref r), some (.int (x1 % (n : Int)))] H3 := by
    refine ⟨_, (pss_cons (ps_if (pt_cmpR op_eq (pv 4) pe_int (nomark _))
      (pss_one (ps_set (i := 5) sc_images.nd rfl (Or.inl rfl) (pe_slice sl_list (pe_op op_rep (pv 5) pe_int) po_none (po_some pe_int))))
      pss_nil)
    hu_9), ?_⟩

    intro r im H3 s3 r0 er h60 hlx
    have hsz := SqL.of (K := K) (s3 _ _ hs)
    have hot := SqL.of (K := K) (s3 _ _ ho.la)
    have hli := len_int im
    have put : ∀ (v : Int) (j : Nat) (h : im.length = n), Same H (upd H3 r (.lst ((im.map V.int).set j (.int v)))) ∧ (upd H3 r (.lst ((im.map V.int).set j (.int v)))) r = some (.lst ((im.set j v).map V.int)) ∧ (im.set j v).length ≤ 61 ∧ (im.set j v).length = n := fun v j h =>
      ⟨s3.own r0 _, by rw [upd_same, ← List.map_set], by rw [List.length_set]; exact h60, by rw [List.length_set]; exact h⟩
    refine ⟨_, rfl, rfl, _, rfl, ?_⟩
    rw [eqI]
    refine ite2 (fun c => ?_) (fun c => r_9 r im H3 s3 r0 er h60 trivial)
    have c := of_decide_eq_true c
    refine ⟨_, rfl, r, _, _, rfl, rfl, er, by decide, by decide, (by rw [hli]; exact Nat.le_trans (Nat.mul_le_mul_right _ h60) (by decide)), fun p1 g1 => ?_⟩
    rw [rep_flatL]
    obtain ⟨w, ew, lw⟩ := cut_upto ((List.replicate (60 : Int).toNat im).flatten) 60
    refine ⟨_, rfl, p1, _, rfl, SqL.of upd_same, fun p2 g2 => ?_⟩
    rw [show (some 60 : Option Int) = some ((60 : Nat) : Int) from rfl, ew]
    exact r_9 p2 w _ ((s3.new g1 _).new g2 _) ((s3.new g1 _).free g2) upd_same (by omega) trivial
  obtain ⟨u_7, hu_7, r_7⟩ : ∃ u, PSs (cxOf CX0 P w K mg base ["_law_one", "_law_other", "_law_some", "_law_order", "_law_way", "_law_images_here", "_law_at"] "_law_images" (defScope s_images) f cdv A outer s H E).nox ((defBody s_images).drop 10) u ∧ ∀ (r : Addr) (im : List Int) (H3 : Hp), Same H H3 → H r = none → H3 r = some (.lst (im.map V.int)) → im.length ≤ 61 → (im.length = n ∨ x0 = 7 ∨ x0 = 8) → u ({ nx := fun _ H' => Q .non H', rt := Q } : Ends) [some (.ref t), some (.ref o), some (.ref s0), some (.ref d), some (.int x0), some (.ref r), some (.int (x1 % (n : Int)))] H3 := by
    refine ⟨_, (pss_cons (ps_if (pt_cmpR op_eq (pv 4) pe_int (nomark _))
      (pss_one (ps_asg (pe_op op_mul (pe_op op_sub pe_int (pe_op op_mul pe_int (pe_op op_mod (pe_ix ix_list (pv 2) pe_int (fun _ _ => rfl)) pe_int))) (pe_op op_pow pe_int pe_int)) (pg_sub (pv 5) (pv 6) set_list)))
      pss_nil)
    hu_8), ?_⟩

    intro r im H3 s3 r0 er h60 hlx
    have hsz := SqL.of (K := K) (s3 _ _ hs)
    have hot := SqL.of (K := K) (s3 _ _ ho.la)
    have hli := len_int im
    have put : ∀ (v : Int) (j : Nat) (h : im.length = n), Same H (upd H3 r (.lst ((im.map V.int).set j (.int v)))) ∧ (upd H3 r (.lst ((im.map V.int).set j (.int v)))) r = some (.lst ((im.set j v).map V.int)) ∧ (im.set j v).length ≤ 61 ∧ (im.set j v).length = n := fun v j h =>
      ⟨s3.own r0 _, by rw [upd_same, ← List.map_set], by rw [List.length_set]; exact h60, by rw [List.length_set]; exact h⟩
    refine ⟨_, rfl, rfl, _, rfl, ?_⟩
    rw [eqI]
    refine ite2 (fun c => ?_) (fun c => r_8 r im H3 s3 r0 er h60 hlx)
    have c := of_decide_eq_true c
    have hl : im.length = n := by omega
    have k0 := Int.emod_nonneg x2 (show (2 : Int) ≠ 0 by decide)
    have k1 := Int.emod_lt_of_pos x2 (show (0 : Int) < 2 by decide)
    refine ⟨_, rfl, s0, _, _, _, rfl, rfl, hsz, at_of e2 rfl, _, _, rfl, rfl, (by show (0 : Int) < 2; decide), _, _, rfl, rfl, .inl ⟨by decide, by decide⟩, _, _, rfl, rfl, _, _, rfl, rfl, ⟨by decide, by decide, by decide⟩, _, _, rfl, rfl, .inl ⟨by omega, by omega⟩, _, rfl, _, rfl, r, _, _, _, rfl, rfl, er, ixN_of a0 (by omega), ?_⟩
    obtain ⟨p1, p2, p3, p4⟩ := put ((1 - 2 * (x2 % 2)) * 10 ^ (59 : Int).toNat) (x1 % (n : Int)).toNat hl
    exact r_8 r _ _ p1 r0 p2 p3 (.inl p4)
  obtain ⟨u_6, hu_6, r_6⟩ : ∃ u, PSs (cxOf CX0 P w K mg base ["_law_one", "_law_other", "_law_some", "_law_order", "_law_way", "_law_images_here", "_law_at"] "_law_images" (defScope s_images) f cdv A outer s H E).nox ((defBody s_images).drop 9) u ∧ ∀ (r : Addr) (im : List Int) (H3 : Hp), Same H H3 → H r = none → H3 r = some (.lst (im.map V.int)) → im.length ≤ 61 → (im.length = n ∨ x0 = 7 ∨ x0 = 8) → u ({ nx := fun _ H' => Q .non H', rt := Q } : Ends) [some (.ref t), some (.ref o), some (.ref s0), some (.ref d), some (.int x0), some (.ref r), some (.int (x1 % (n : Int)))] H3 := by
    refine ⟨_, (pss_cons (ps_if (pt_cmpR op_eq (pv 4) pe_int (nomark _))
      (pss_one (ps_set (i := 5) sc_images.nd rfl (Or.inl rfl) (pe_slice sl_list (pv 5) po_none (po_some (pe_un un_neg pe_int)))))
      pss_nil)
    hu_7), ?_⟩

    intro r im H3 s3 r0 er h60 hlx
    have hsz := SqL.of (K := K) (s3 _ _ hs)
    have hot := SqL.of (K := K) (s3 _ _ ho.la)
    have hli := len_int im
    have put : ∀ (v : Int) (j : Nat) (h : im.length = n), Same H (upd H3 r (.lst ((im.map V.int).set j (.int v)))) ∧ (upd H3 r (.lst ((im.map V.int).set j (.int v)))) r = some (.lst ((im.set j v).map V.int)) ∧ (im.set j v).length ≤ 61 ∧ (im.set j v).length = n := fun v j h =>
      ⟨s3.own r0 _, by rw [upd_same, ← List.map_set], by rw [List.length_set]; exact h60, by rw [List.length_set]; exact h⟩
    refine ⟨_, rfl, rfl, _, rfl, ?_⟩
    rw [eqI]
    refine ite2 (fun c => ?_) (fun c => r_7 r im H3 s3 r0 er h60 hlx)
    have c := of_decide_eq_true c
    obtain ⟨w, ew, lw⟩ := cut_any im none (some (-1))
    refine ⟨_, rfl, _, rfl, _, rfl, r, _, rfl, SqL.of er, fun p1 g1 => ?_⟩
    rw [ew]
    exact r_7 p1 w _ (s3.new g1 _) (s3.free g1) upd_same (by omega) (.inr (.inr c))
  obtain ⟨u_5, hu_5, r_5⟩ : ∃ u, PSs (cxOf CX0 P w K mg base ["_law_one", "_law_other", "_law_some", "_law_order", "_law_way", "_law_images_here", "_law_at"] "_law_images" (defScope s_images) f cdv A outer s H E).nox ((defBody s_images).drop 8) u ∧ ∀ (r : Addr) (im : List Int) (H3 : Hp), Same H H3 → H r = none → H3 r = some (.lst (im.map V.int)) → im.length ≤ 61 → im.length = n → u ({ nx := fun _ H' => Q .non H', rt := Q } : Ends) [some (.ref t), some (.ref o), some (.ref s0), some (.ref d), some (.int x0), some (.ref r), some (.int (x1 % (n : Int)))] H3 := by
    refine ⟨_, (pss_cons (ps_if (pt_cmpR op_eq (pv 4) pe_int (nomark _))
      (pss_one (ps_set (i := 5) sc_images.nd rfl (Or.inl rfl) (pe_op op_cat (pv 5) (pe_lst (pa_cons (pe_op op_mod (pe_ix ix_list (pv 2) pe_int (fun _ _ => rfl)) (pe_callB call_len_seq rfl Z.b_len PySem.boot_len (pa_cons (pv 1) pa_nil))) pa_nil)))))
      pss_nil)
    hu_6), ?_⟩

    intro r im H3 s3 r0 er h60 hlx
    have hsz := SqL.of (K := K) (s3 _ _ hs)
    have hot := SqL.of (K := K) (s3 _ _ ho.la)
    have hli := len_int im
    have put : ∀ (v : Int) (j : Nat) (h : im.length = n), Same H (upd H3 r (.lst ((im.map V.int).set j (.int v)))) ∧ (upd H3 r (.lst ((im.map V.int).set j (.int v)))) r = some (.lst ((im.set j v).map V.int)) ∧ (im.set j v).length ≤ 61 ∧ (im.set j v).length = n := fun v j h =>
      ⟨s3.own r0 _, by rw [upd_same, ← List.map_set], by rw [List.length_set]; exact h60, by rw [List.length_set]; exact h⟩
    refine ⟨_, rfl, rfl, _, rfl, ?_⟩
    rw [eqI]
    refine ite2 (fun c => ?_) (fun c => r_6 r im H3 s3 r0 er h60 (.inl hlx))
    have c := of_decide_eq_true c
    have hl : im.length ≤ 24 ∨ x0 = 8 := by omega
    refine ⟨_, rfl, _, rfl, s0, _, _, _, rfl, rfl, hsz, at_of e2 rfl, _, rfl, o, _, rfl, .inl hot, _, _, rfl, rfl, by omega, (by show 1 ≤ sizeLine; decide), fun p1 g1 => ?_⟩
    have hrp : r ≠ p1 := ne_of_none er g1
    refine ⟨_, _, _, _, rfl, rfl, (same_new g1 _) _ _ er, upd_same, (by rw [hli]; show im.length + 1 ≤ sizeLine; exact szle (by omega)), fun p2 g2 => ?_⟩
    rw [map_snoc]
    exact r_6 p2 _ _ ((s3.new g1 _).new g2 _) ((s3.new g1 _).free g2) upd_same (by rw [List.length_append, List.length_singleton]; omega) (.inr (.inl c))
  obtain ⟨u_4, hu_4, r_4⟩ : ∃ u, PSs (cxOf CX0 P w K mg base ["_law_one", "_law_other", "_law_some", "_law_order", "_law_way", "_law_images_here", "_law_at"] "_law_images" (defScope s_images) f cdv A outer s H E).nox ((defBody s_images).drop 7) u ∧ ∀ (r : Addr) (im : List Int) (H3 : Hp), Same H H3 → H r = none → H3 r = some (.lst (im.map V.int)) → im.length ≤ 61 → im.length = n → u ({ nx := fun _ H' => Q .non H', rt := Q } : Ends) [some (.ref t), some (.ref o), some (.ref s0), some (.ref d), some (.int x0), some (.ref r), some (.int (x1 % (n : Int)))] H3 := by
    refine ⟨_, (pss_cons (ps_if (pt_cmpR op_eq (pv 4) pe_int (nomark _))
      (pss_one (ps_asg (pe_op op_sub (pe_un un_neg pe_int) (pe_op op_mod (pe_ix ix_list (pv 2) pe_int (fun _ _ => rfl)) pe_int)) (pg_sub (pv 5) (pv 6) set_list)))
      pss_nil)
    hu_5), ?_⟩

    intro r im H3 s3 r0 er h60 hlx
    have hsz := SqL.of (K := K) (s3 _ _ hs)
    have hot := SqL.of (K := K) (s3 _ _ ho.la)
    have hli := len_int im
    have put : ∀ (v : Int) (j : Nat) (h : im.length = n), Same H (upd H3 r (.lst ((im.map V.int).set j (.int v)))) ∧ (upd H3 r (.lst ((im.map V.int).set j (.int v)))) r = some (.lst ((im.set j v).map V.int)) ∧ (im.set j v).length ≤ 61 ∧ (im.set j v).length = n := fun v j h =>
      ⟨s3.own r0 _, by rw [upd_same, ← List.map_set], by rw [List.length_set]; exact h60, by rw [List.length_set]; exact h⟩
    refine ⟨_, rfl, rfl, _, rfl, ?_⟩
    rw [eqI]
    refine ite2 (fun c => ?_) (fun c => r_5 r im H3 s3 r0 er h60 hlx)
    have c := of_decide_eq_true c
    have hl : im.length = n := by omega
    refine ⟨_, rfl, _, rfl, s0, _, _, _, rfl, rfl, hsz, at_of e2 rfl, _, _, rfl, rfl, (by show (0 : Int) < 2; decide), _, _, rfl, rfl, _, rfl, _, rfl, r, _, _, _, rfl, rfl, er, ixN_of a0 (by omega), ?_⟩
    obtain ⟨p1, p2, p3, p4⟩ := put (-1 - x2 % 2) (x1 % (n : Int)).toNat hl
    exact r_5 r _ _ p1 r0 p2 p3 p4
  obtain ⟨u_3, hu_3, r_3⟩ : ∃ u, PSs (cxOf CX0 P w K mg base ["_law_one", "_law_other", "_law_some", "_law_order", "_law_way", "_law_images_here", "_law_at"] "_law_images" (defScope s_images) f cdv A outer s H E).nox ((defBody s_images).drop 6) u ∧ ∀ (r : Addr) (im : List Int) (H3 : Hp), Same H H3 → H r = none → H3 r = some (.lst (im.map V.int)) → im.length ≤ 61 → im.length = n → u ({ nx := fun _ H' => Q .non H', rt := Q } : Ends) [some (.ref t), some (.ref o), some (.ref s0), some (.ref d), some (.int x0), some (.ref r), some (.int (x1 % (n : Int)))] H3 := by
    refine ⟨_, (pss_cons (ps_if (pt_cmpR op_eq (pv 4) pe_int (nomark _))
      (pss_one (ps_asg (pe_op op_add (pe_callB call_len_seq rfl Z.b_len PySem.boot_len (pa_cons (pv 1) pa_nil)) (pe_op op_mod (pe_ix ix_list (pv 2) pe_int (fun _ _ => rfl)) pe_int)) (pg_sub (pv 5) (pv 6) set_list)))
      pss_nil)
    hu_4), ?_⟩

    intro r im H3 s3 r0 er h60 hlx
    have hsz := SqL.of (K := K) (s3 _ _ hs)
    have hot := SqL.of (K := K) (s3 _ _ ho.la)
    have hli := len_int im
    have put : ∀ (v : Int) (j : Nat) (h : im.length = n), Same H (upd H3 r (.lst ((im.map V.int).set j (.int v)))) ∧ (upd H3 r (.lst ((im.map V.int).set j (.int v)))) r = some (.lst ((im.set j v).map V.int)) ∧ (im.set j v).length ≤ 61 ∧ (im.set j v).length = n := fun v j h =>
      ⟨s3.own r0 _, by rw [upd_same, ← List.map_set], by rw [List.length_set]; exact h60, by rw [List.length_set]; exact h⟩
    refine ⟨_, rfl, rfl, _, rfl, ?_⟩
    rw [eqI]
    refine ite2 (fun c => ?_) (fun c => r_4 r im H3 s3 r0 er h60 hlx)
    have c := of_decide_eq_true c
    have hl : im.length = n := by omega
    refine ⟨_, rfl, o, _, rfl, .inl hot, _, rfl, s0, _, _, _, rfl, rfl, hsz, at_of e2 rfl, _, _, rfl, rfl, (by show (0 : Int) < 2; decide), _, _, rfl, rfl, _, rfl, _, rfl, r, _, _, _, rfl, rfl, er, ixN_of a0 (by omega), ?_⟩
    obtain ⟨p1, p2, p3, p4⟩ := put (((oads.map V.ref).length : Int) + x2 % 2) (x1 % (n : Int)).toNat hl
    exact r_4 r _ _ p1 r0 p2 p3 p4
  obtain ⟨u_2, hu_2, r_2⟩ : ∃ u, PSs (cxOf CX0 P w K mg base ["_law_one", "_law_other", "_law_some", "_law_order", "_law_way", "_law_images_here", "_law_at"] "_law_images" (defScope s_images) f cdv A outer s H E).nox ((defBody s_images).drop 5) u ∧ ∀ (r : Addr) (im : List Int) (H3 : Hp), Same H H3 → H r = none → H3 r = some (.lst (im.map V.int)) → im.length ≤ 61 → im.length = n → u ({ nx := fun _ H' => Q .non H', rt := Q } : Ends) [some (.ref t), some (.ref o), some (.ref s0), some (.ref d), some (.int x0), some (.ref r), some (.int (x1 % (n : Int)))] H3 := by
    refine ⟨_, (pss_cons (ps_if (pt_cmpR op_eq (pv 4) pe_int (nomark _))
      (pss_one (ps_asg (pe_op op_mod (pe_ix ix_list (pv 2) pe_int (fun _ _ => rfl)) (pe_callB call_len_seq rfl Z.b_len PySem.boot_len (pa_cons (pv 1) pa_nil))) (pg_sub (pv 5) (pe_op op_mod (pv 6) (pe_callB call_len_seq rfl Z.b_len PySem.boot_len (pa_cons (pv 5) pa_nil))) set_list)))
      pss_nil)
    hu_3), ?_⟩

    intro r im H3 s3 r0 er h60 hlx
    have hsz := SqL.of (K := K) (s3 _ _ hs)
    have hot := SqL.of (K := K) (s3 _ _ ho.la)
    have hli := len_int im
    have put : ∀ (v : Int) (j : Nat) (h : im.length = n), Same H (upd H3 r (.lst ((im.map V.int).set j (.int v)))) ∧ (upd H3 r (.lst ((im.map V.int).set j (.int v)))) r = some (.lst ((im.set j v).map V.int)) ∧ (im.set j v).length ≤ 61 ∧ (im.set j v).length = n := fun v j h =>
      ⟨s3.own r0 _, by rw [upd_same, ← List.map_set], by rw [List.length_set]; exact h60, by rw [List.length_set]; exact h⟩
    refine ⟨_, rfl, rfl, _, rfl, ?_⟩
    rw [eqI]
    refine ite2 (fun c => ?_) (fun c => r_3 r im H3 s3 r0 er h60 hlx)
    have c := of_decide_eq_true c
    have hl : im.length = n := by omega
    have m0 := Int.emod_nonneg (x1 % (n : Int)) (show ((im.map V.int).length : Int) ≠ 0 by omega)
    have m1 := Int.emod_lt_of_pos (x1 % (n : Int)) (show 0 < ((im.map V.int).length : Int) by omega)
    refine ⟨_, rfl, s0, _, _, _, rfl, rfl, hsz, at_of e2 rfl, _, rfl, o, _, rfl, .inl hot, _, _, rfl, rfl, by omega, _, rfl, _, rfl, _, rfl, r, _, rfl, .inl (SqL.of er), _, _, rfl, rfl, by omega, r, _, _, _, rfl, rfl, er, ixN_of m0 m1, ?_⟩
    obtain ⟨p1, p2, p3, p4⟩ := put (x2 % ((oads.map V.ref).length : Int)) (x1 % (n : Int) % ((im.map V.int).length : Int)).toNat hl
    exact r_3 r _ _ p1 r0 p2 p3 p4
  obtain ⟨u_1, hu_1, r_1⟩ : ∃ u, PSs (cxOf CX0 P w K mg base ["_law_one", "_law_other", "_law_some", "_law_order", "_law_way", "_law_images_here", "_law_at"] "_law_images" (defScope s_images) f cdv A outer s H E).nox ((defBody s_images).drop 4) u ∧ ∀ (r : Addr) (im : List Int) (H3 : Hp), Same H H3 → H r = none → H3 r = some (.lst (im.map V.int)) → im.length = n → u ({ nx := fun _ H' => Q .non H', rt := Q } : Ends) [some (.ref t), some (.ref o), some (.ref s0), some (.ref d), some (.int x0), some (.ref r), none] H3 := by
    refine ⟨_, (pss_cons (ps_set (i := 6) sc_images.nd rfl (Or.inl rfl) (pe_op op_mod (pe_ix ix_list (pv 2) pe_int (fun _ _ => rfl)) (pe_callB call_len_seq rfl Z.b_len PySem.boot_len (pa_cons (pv 0) pa_nil))))
    hu_2), ?_⟩

    intro r im H3 s3 r0 er hl
    have hsz := SqL.of (K := K) (s3 _ _ hs)
    have hot := SqL.of (K := K) (s3 _ _ ho.la)
    have htt := SqL.of (K := K) (s3 _ _ ht.la)
    refine ⟨_, rfl, s0, _, _, _, rfl, rfl, hsz, at_of e1 rfl, _, rfl, t, _, rfl, .inl htt, _, _, rfl, rfl, by omega, ?_⟩
    rw [show ((tads.map V.ref).length : Int) = (n : Int) by omega]
    exact r_2 r im H3 s3 r0 er (by omega) hl
  obtain ⟨u_0, hu_0, r_0⟩ : ∃ u, PSs (cxOf CX0 P w K mg base ["_law_one", "_law_other", "_law_some", "_law_order", "_law_way", "_law_images_here", "_law_at"] "_law_images" (defScope s_images) f cdv A outer s H E).nox ((defBody s_images).drop 3) u ∧ ∀ (r : Addr) (im : List Int) (H3 : Hp), Same H H3 → H r = none → H3 r = some (.lst (im.map V.int)) → im.length = n → u ({ nx := fun _ H' => Q .non H', rt := Q } : Ends) [some (.ref t), some (.ref o), some (.ref s0), some (.ref d), some (.int x0), some (.ref r), none] H3 := by
    refine ⟨_, (pss_cons (ps_if (pt_cmpR op_eq (pv 4) pe_int (nomark _))
      (pss_one (ps_set (i := 5) sc_images.nd rfl (Or.inl rfl) (pe_op op_rep (pe_lst (pa_cons (pe_op op_mod (pe_ix ix_list (pv 2) pe_int (fun _ _ => rfl)) (pe_callB call_len_seq rfl Z.b_len PySem.boot_len (pa_cons (pv 1) pa_nil))) pa_nil)) (pe_callB call_len_seq rfl Z.b_len PySem.boot_len (pa_cons (pv 0) pa_nil)))))
      pss_nil)
    hu_1), ?_⟩

    intro r im H3 s3 r0 er hl
    have hsz := SqL.of (K := K) (s3 _ _ hs)
    have hot := SqL.of (K := K) (s3 _ _ ho.la)
    have htt := SqL.of (K := K) (s3 _ _ ht.la)
    refine ⟨_, rfl, rfl, _, rfl, ?_⟩
    refine ite2 (fun c => ?_) (fun c => r_1 r im H3 s3 r0 er hl)
    refine ⟨_, rfl, s0, _, _, _, rfl, rfl, hsz, at_of e2 rfl, _, rfl, o, _, rfl, .inl hot, _, _, rfl, rfl, by omega, (by show 1 ≤ sizeLine; decide), fun p1 g1 => ?_⟩
    refine ⟨_, rfl, t, _, rfl, .inl ((same_new g1 _).seq htt), _, _, _, rfl, rfl, upd_same, by omega, by omega, (by show 1 * _ ≤ sizeLine; exact szle (by omega)), fun p2 g2 => ?_⟩
    rw [rep_flat]
    exact r_1 p2 _ _ ((s3.new g1 _).new g2 _) ((s3.new g1 _).free g2) upd_same (by rw [List.length_replicate]; omega)
  refine ⟨_, (pss_cons (ps_set (i := 4) sc_images.nd rfl (Or.inl rfl) (pe_ix ix_list (pv 2) pe_int (fun _ _ => rfl)))
    (pss_cons (ps_comp 5 (defScope s_images) ["_law_one", "_law_other", "_law_some", "_law_order", "_law_way", "_law_images_here", "_law_at"] ["_law_colour"] [(1, "_law_other")] rfl sc_images.nd rfl rfl (pi_list (pe_slice sl_list (pv 2) (po_some pe_int) (po_some (pe_op op_add pe_int (pe_callB call_len_seq rfl Z.b_len PySem.boot_len (pa_cons (pv 0) pa_nil)))))) (gk_name (by decide)) (fun cl C s H ex E => ⟨pg_name (i := 0) (show List.Nodup (["_law_colour", "_law_other"] : List Str) by decide +kernel) rfl (Or.inl rfl), pts_nil, (pe_op op_mod (pv 0) (pe_callB (call_len_seqK K rfl) rfl Z.b_len PySem.boot_len (pa_cons (pv 1) pa_nil)))⟩))
    (pss_cons (ps_if (pt_cmpR op_lt (pv 4) pe_int (nomark _))
      (pss_one (ps_set (i := 5) sc_images.nd rfl (Or.inl rfl) (pe_callTy call_list_of rfl Z.b_list PyProof.Rows.boot_list (pa_cons (pv 3) pa_nil))))
      pss_nil)
    hu_0))), ?_⟩

  refine ⟨_, rfl, s0, _, _, _, rfl, rfl, SqL.of hs, at_of e0 rfl, ?_⟩
  refine ⟨_, rfl, _, rfl, _, rfl, t, _, rfl, .inl (SqL.of ht.la), _, _, rfl, rfl, _, rfl, s0, _, rfl, SqL.of hs, fun p1 g1 => ?_⟩
  obtain ⟨w, ew, lw⟩ := cut_mid zs 3 n (by omega)
  have ecut : cutV (zs.map V.int) (some 3) (some (3 + ((tads.map V.ref).length : Int))) = w.map V.int := by
    rw [← ew, show (3 + ((tads.map V.ref).length : Int)) = ((3 + n : Nat) : Int) by omega]; rfl
  rw [ecut]
  have hlw := len_int w
  have s1 := same_new g1 (.lst (w.map V.int))
  have hp1 : upd H p1 (.lst (w.map V.int)) p1 = some (.lst (w.map V.int)) := upd_same
  generalize upd H p1 (.lst (w.map V.int)) = H1 at s1 hp1 ⊢
  refine ⟨p1, rfl, ⟨_, SqL.of hp1⟩, ?_⟩
  refine comp_list (K := K) (a := p1) (xs := w.map V.int) (fun k ys H2 => H2 = H1 ∧ ∃ v : List Int, ys = v.map V.int ∧ v.length = k) ⟨rfl, [], rfl, rfl⟩ (fun k ys H2 hk ⟨e1, v, e2, e3⟩ => ⟨by rw [e1]; exact SqL.of hp1, by rw [e2, len_int]; exact szle (by omega)⟩) ?_ ?_
  · rintro k y ys H2 hk ⟨rfl, v, rfl, hv⟩
    obtain ⟨z, rfl, hz⟩ := int_at hk
    refine turn0 ?_
    exact ⟨_, rfl, _, rfl, o, _, rfl, .inl (SqL.of (s1 _ _ ho.la)), _, _, rfl, rfl, by omega, rfl, v ++ [_], map_snoc _ _, by simp [hv]⟩
  · rintro ys H2 r ⟨rfl, v, rfl, hv⟩ hr
    have s2 := s1.new hr (.lst (v.map V.int))
    refine ⟨_, rfl, _, _, rfl, rfl, _, rfl, ?_⟩
    refine ite2 (fun c => ?_) (fun c => r_0 r v _ s2 (s1.free hr) upd_same (by omega))
    refine ⟨_, rfl, d, _, rfl, .inl (SqL.of (s2 _ _ hd)), fun p2 g2 => ?_⟩
    exact r_0 p2 ds _ (s2.new g2 _) (s2.free g2) upd_same hdl
theorem sc_law : FnScope ["_law_script", "_law_great", "_law_one", "_law_other", "_law_order", "_law_some", "_law_images_here", "_law_first", "_law_second", "_law_handed", "_law_found"] ["_law_script"] (defScope s_law) := ⟨rfl, rfl, rfl, by decide +kernel, rfl, by decide +kernel, by decide +kernel⟩
set_option maxHeartbeats 4000000 in
theorem ok_law {f : Addr} {fd : FuncData} (F : Fun K "law" "law" s_law f fd) (g_pair : Fn P w K mg base 4 "_law_pair" ["_law_script", "_law_most"] (sp_pair K)) (g_ordered : Fn P w K mg base 1 "_law_ordered" ["_law_some", "_law_count"] (sp_ordered K)) (g_row : Fn P w K mg base 2 "_law_row" ["_law_script", "_law_place", "_law_sizes"] (sp_row K)) (g_images : Fn P w K mg base 1 "_law_images" ["_law_one", "_law_other", "_law_some", "_law_order"] (sp_images K)) (g_keeping : Fn P w K mg base 3 "keeping" ["one", "other", "images"] (sp_keeping K)) (g_copied : Fn P w K mg base 1 "_law_copied" ["_law_some"] (sp_copied K)) (g_due : Fn P w K mg base 1 "_law_due" ["_law_one", "_law_other", "_law_images_here"] (sp_due K)) (Z : Blt mg) : FnOk P w K mg base CX0 5 f fd ["_law_script"] (sp_law K) := by
  refine F.ok sc_law (fun vs H Q E h => ?_) (fun cdv A outer s H vs Q E hr h => ?_)
  · obtain ⟨a, ns, rfl, _⟩ := h; rfl
  obtain ⟨a, ns, rfl, hS, h63, q⟩ := h
  have hu := hu8 hr
  have hu1 := hu_of hr
  refine ⟨_, (pss_cons (ps_set (i := 1) sc_law.nd rfl (Or.inl rfl) (pe_cmpR op_eq (pe_ix ix_list (pe_fn g_row hr (by decide) (pa_cons (pv 0) (pa_cons pe_int (pa_cons (pe_lst (pa_cons pe_int pa_nil)) pa_nil star_list)))) pe_int (fun _ _ => rfl)) pe_int (nomark _)))
    (pss_cons (ps_asg (pe_fn g_pair hr (by decide) (pa_cons (pv 0) (pa_cons (pe_ix ix_list (pe_lst (pa_cons pe_int (pa_cons pe_int pa_nil))) (pe_callTy call_int1 rfl Z.b_int PyProof.Rows.boot_int (pa_cons (pv 1) pa_nil)) (fun _ _ => rfl)) pa_nil))) (pg_tup rfl (pgs_cons (pg_name (i := 2) sc_law.nd rfl (Or.inl rfl)) (pgs_cons (pg_name (i := 3) sc_law.nd rfl (Or.inl rfl)) pgs_nil))))
    (pss_cons (ps_set (i := 4) sc_law.nd rfl (Or.inl rfl) (pe_fn g_ordered hr (by decide) (pa_cons (pe_slice sl_list (pe_fn g_row hr (by decide) (pa_cons (pv 0) (pa_cons pe_int (pa_cons (pe_op op_cat (pe_lst (pa_cons pe_int pa_nil)) (pe_op op_rep (pe_lst (pa_cons pe_int pa_nil)) pe_int)) pa_nil)))) (po_some pe_int) po_none) (pa_cons (pe_callB call_len_seq rfl Z.b_len PySem.boot_len (pa_cons (pv 2) pa_nil)) pa_nil))))
    (pss_cons (ps_set (i := 5) sc_law.nd rfl (Or.inl rfl) (pe_fn g_row hr (by decide) (pa_cons (pv 0) (pa_cons pe_int (pa_cons (pe_op op_cat (pe_lst (pa_cons pe_int (pa_cons pe_int (pa_cons pe_int pa_nil)))) (pe_op op_rep (pe_lst (pa_cons pe_int pa_nil)) pe_int)) pa_nil)))))
    (pss_cons (ps_set (i := 6) sc_law.nd rfl (Or.inl rfl) (pe_fn g_images hr (by decide) (pa_cons (pv 2) (pa_cons (pv 3) (pa_cons (pv 5) (pa_cons (pv 4) pa_nil))))))
    (pss_cons (ps_par3 (i := 7) (j := 8) (k := 9) rfl sc_law.nd rfl rfl rfl (by decide) (by decide) (by decide) rfl rfl rfl (pa_cons (pe_fn g_copied hr (by decide) (pa_cons (pv 2) pa_nil)) (pa_cons (pe_fn g_copied hr (by decide) (pa_cons (pv 3) pa_nil)) (pa_cons (pe_callTy call_list_of rfl Z.b_list PyProof.Rows.boot_list (pa_cons (pv 6) pa_nil)) pa_nil))) rfl)
    (pss_cons (ps_set (i := 10) sc_law.nd rfl (Or.inl rfl) (pe_fn g_keeping hr (by decide) (pa_cons (pv 7) (pa_cons (pv 8) (pa_cons (pv 9) pa_nil)))))
    (pss_cons (ps_if (PW.pt (pw_or (pt_not (pt_val (pe_callB call_isinst rfl Z.b_isinstance PyProof.Rows.boot_isinstance (pa_cons (pv 10) (pa_cons (pe_bltn (v := V.ty "bool") rfl Z.b_bool PyProof.Rows.boot_bool rfl) pa_nil))))) (pw_or1 (pt_cmpR op_ne (pv 10) (pe_fn g_due hr (by decide) (pa_cons (pv 2) (pa_cons (pv 3) (pa_cons (pv 6) pa_nil)))) (nomark _)))))
      (pss_one (ps_ret pe_bl))
      pss_nil)
    (pss_cons (ps_if (PW.pt (pw_or (pt_cmpR (op_neE (eq_list (eq_list eq_int)) (le_hu (by decide) hu)) (pv 7) (pv 2) (nomark _)) (pw_or (pt_cmpR (op_neE (eq_list (eq_list eq_int)) (le_hu (by decide) hu)) (pv 8) (pv 3) (nomark _)) (pw_or1 (pt_cmpR (op_neE (eq_list eq_int) (le_hu (by decide) hu)) (pv 9) (pv 6) (nomark _))))))
      (pss_one (ps_ret pe_bl))
      pss_nil)
    (pss_one (ps_ret (pe_cmpR op_isB (pe_fn g_keeping hr (by decide) (pa_cons (pv 7) (pa_cons (pv 7) (pa_cons (pe_listrange rfl rfl rfl Z.b_list Z.b_range (pa_cons (pe_callB call_len_seq rfl Z.b_len PySem.boot_len (pa_cons (pv 2) pa_nil)) pa_nil)) pa_nil)))) pe_bl (nomark _))))))))))))), ?_⟩

  refine ⟨_, rfl, (by show 1 ≤ sizeLine; decide), fun u1 g1 => ?_⟩
  have t1 := same_new g1 (.lst [V.int 8])
  refine ⟨a, ns, 4, u1, [8], rfl, t1.seq hS, h63, by decide, by decide, upd_same, by decide, by decide, fun sm acc H1 s1 _ hsm hal _ => ?_⟩
  have hal' : acc.length = 1 := hal
  obtain ⟨x0, e0⟩ := get_ex (im := acc) (a := 0) (by omega)
  refine ⟨sm, _, _, _, rfl, rfl, SqL.of hsm, at_of e0 rfl, rfl, ?_⟩
  have sA := t1.trans s1
  refine ⟨_, rfl, (by show 2 ≤ sizeLine; decide), fun u2 g2 => ?_⟩
  have t2 := same_new g2 (.lst [V.int 6, V.int 24])
  obtain ⟨mo, hmo, hmm⟩ : ∃ mo : Int, atI [V.int 6, V.int 24] (if decide (V.int x0 = V.int 0) then 1 else 0) = some (.int mo) ∧ (mo = 6 ∨ mo = 24) := by
    by_cases c : V.int x0 = V.int 0
    · rw [if_pos (decide_eq_true c)]; exact ⟨24, rfl, .inr rfl⟩
    · rw [if_neg (by rw [decide_eq_false c]; decide)]; exact ⟨6, rfl, .inl rfl⟩
  refine ⟨_, rfl, .inr ⟨_, rfl, u2, _, _, _, rfl, rfl, SqL.of upd_same, hmo, ?_⟩⟩
  refine ⟨a, ns, mo, rfl, (sA.trans t2).seq hS, h63, by omega, by omega, fun pr t o tads oads n m f g H2 s2 hpr ht ho hf hg n1 n24 m1 m24 => ?_⟩
  have sB := (sA.trans t2).trans s2
  have hlt := len_ref tads
  have hnt := ht.len
  refine ⟨pr, _, rfl, SqT.of hpr, rfl, _, _, rfl, _, _, rfl, rfl, ?_⟩
  refine ⟨_, rfl, (by show 1 ≤ sizeLine; decide), fun u1 g1 => ⟨(by show 1 ≤ sizeLine; decide), fun u2 g2 => ?_⟩⟩
  have t1 := same_new g1 (.lst [V.int 3])
  have t2 := same_new g2 (.lst [V.int 24])
  refine ⟨_, _, _, rfl, rfl, upd_same, by decide, by decide, by decide, fun u3 g3 => ?_⟩
  have t3 := same_new g3 (.lst (List.replicate (24 : Int).toNat [V.int 24]).flatten)
  refine ⟨_, _, _, _, rfl, rfl, t3 _ _ (t2 _ _ upd_same), upd_same, by decide, fun u4 g4 => ?_⟩
  have t4 := same_new g4 (.lst ([V.int 3] ++ (List.replicate (24 : Int).toNat [V.int 24]).flatten))
  have esz : ([V.int 3] ++ (List.replicate (24 : Int).toNat [V.int 24]).flatten) = (([3] ++ List.replicate 24 24 : List Int).map V.int) := by decide +kernel
  rw [esz] at t4 ⊢
  have s4 := ((t1.trans t2).trans t3).trans t4
  refine ⟨a, ns, 2, u4, [3] ++ List.replicate 24 24, rfl, (sB.trans s4).seq hS, h63, by decide, by decide, upd_same, by decide, by decide, fun ro racc H3 s5 _ hro hral _ => ?_⟩
  have hral' : racc.length = 25 := by rw [hral]; decide
  refine ⟨_, rfl, ro, _, rfl, SqL.of hro, fun u5 g5 => ?_⟩
  have t5 := same_new g5 (.lst (cutV (racc.map V.int) (some 1) none))
  have ecut : cutV (racc.map V.int) (some 1) none = (racc.drop 1).map V.int := by
    rw [cutV_map, cut_from racc (by decide) (by omega)]; rfl
  rw [ecut] at t5 ⊢
  have sC := (s4.trans s5).trans t5
  refine ⟨_, rfl, t, _, rfl, .inl (SqL.of (sC _ _ ht.la)), ?_⟩
  rw [show ((tads.map V.ref).length : Int) = (n : Int) by omega]
  refine ⟨u5, racc.drop 1, n, rfl, upd_same, by rw [List.length_drop]; omega, n24, fun od p p' H4 s6 _ eod hp => ?_⟩
  have sD := sC.trans s6
  refine ⟨_, rfl, (by show 3 ≤ sizeLine; decide), fun v1 k1 => ⟨(by show 1 ≤ sizeLine; decide), fun v2 k2 => ?_⟩⟩
  have w1 := same_new k1 (.lst [V.int 11, V.int 24, V.int 24])
  have w2 := same_new k2 (.lst [V.int 24])
  refine ⟨_, _, _, rfl, rfl, upd_same, by decide, by decide, by decide, fun v3 k3 => ?_⟩
  have w3 := same_new k3 (.lst (List.replicate (24 : Int).toNat [V.int 24]).flatten)
  refine ⟨_, _, _, _, rfl, rfl, w3 _ _ (w2 _ _ upd_same), upd_same, by decide, fun v4 k4 => ?_⟩
  have w4 := same_new k4 (.lst ([V.int 11, V.int 24, V.int 24] ++ (List.replicate (24 : Int).toNat [V.int 24]).flatten))
  have esz2 : ([V.int 11, V.int 24, V.int 24] ++ (List.replicate (24 : Int).toNat [V.int 24]).flatten) = (([11, 24, 24] ++ List.replicate 24 24 : List Int).map V.int) := by decide +kernel
  rw [esz2] at w4 ⊢
  have sE := ((w1.trans w2).trans w3).trans w4
  refine ⟨a, ns, 3, v4, [11, 24, 24] ++ List.replicate 24 24, rfl, (sB.trans (sD.trans sE)).seq hS, h63, by decide, by decide, upd_same, by decide, by decide, fun so sacc H5 s7 _ hso hsal _ => ?_⟩
  have hsal' : sacc.length = 27 := by rw [hsal]; decide
  have sF := sE.trans s7
  have sG := sD.trans sF
  refine ⟨_, rfl, _, rfl, _, rfl, _, rfl, t, o, so, od, tads, oads, n, m, f, g, sacc, ordL n p, rfl, ht.keep sG, ho.keep sG, n1, n24, m1, m24, hso, hsal', sF _ _ eod, ordL_length n p, fun im iml H6 s8 him h100 => ?_⟩
  have sH := sG.trans s8
  refine ⟨_, rfl, t, tads, n, f, rfl, ht.keep sH, n24, fun fi fiads H7 s9 hfi => ?_⟩
  refine ⟨_, rfl, o, oads, m, g, rfl, ho.keep (sH.trans s9), m24, fun se seads H8 s10 hse => ?_⟩
  have s910 := s9.trans s10
  refine ⟨_, rfl, im, _, rfl, .inl (SqL.of (s910 _ _ him)), fun ha hha => ?_⟩
  have tH := same_new hha (.lst (iml.map V.int))
  have hhav : upd H8 ha (.lst (iml.map V.int)) ha = some (.lst (iml.map V.int)) := upd_same
  generalize upd H8 ha (.lst (iml.map V.int)) = H9 at tH hhav ⊢
  refine ⟨_, _, _, rfl, ?_⟩
  have sI := s910.trans tH
  have sJ := sH.trans sI
  refine ⟨_, rfl, _, rfl, _, rfl, fi, se, ha, fiads, seads, n, m, f, g, iml, rfl, hfi.keep (s10.trans tH), hse.keep tH, hhav, h100, hf, n24, fun b H10 s11 hb => ?_⟩
  refine ⟨_, rfl, _, _, _, _, rfl, .bl b, kit_same K "bool", _, rfl, iteF ?_⟩
  have sK := sI.trans s11
  have sL := sH.trans sK
  refine ⟨_, rfl, _, rfl, _, rfl, _, rfl, t, o, im, tads, oads, n, m, f, g, iml, rfl, ht.keep sL, ho.keep sL, sK _ _ him, hf, n24, fun b2 hb2 => ⟨rfl, _, rfl, ?_⟩⟩
  have hbb : b = b2 := by rw [Bool.eq_iff_iff, hb, hb2]
  subst hbb
  refine iteNS rfl ?_
  refine ⟨_, rfl, _, rfl, _, _, (hfi.keep ((s10.trans tH).trans s11)).enc, (ht.keep sL).enc, _, rfl, iteNS rfl ?_⟩
  refine ⟨_, rfl, _, rfl, _, _, (hse.keep (tH.trans s11)).enc, (ho.keep sL).enc, _, rfl, iteNS rfl ?_⟩
  refine ⟨_, rfl, _, rfl, _, _, li_enc (s11 _ _ hhav), li_enc (sK _ _ him), _, rfl, iteNS rfl ?_⟩
  refine ⟨_, rfl, _, rfl, _, rfl, t, _, rfl, .inl (SqL.of (sL _ _ ht.la)), ?_⟩
  rw [show ((tads.map V.ref).length : Int) = (n : Int) by omega]
  refine ⟨(n : Int), rfl, by omega, by omega, fun rg hrg => ?_⟩
  have e9 : (List.range ((n : Int)).toNat).map (fun i => V.int ((i : Nat) : Int)) = (((List.range n).map fun i => ((i : Nat) : Int)).map V.int) := by rw [Int.toNat_natCast, List.map_map]; rfl
  rw [e9]
  refine ⟨fi, fi, rg, fiads, fiads, n, n, f, f, _, rfl, (hfi.keep ((s10.trans tH).trans s11)).keep (same_new hrg _), (hfi.keep ((s10.trans tH).trans s11)).keep (same_new hrg _), upd_same, by simp; omega, hf, n24, fun b3 H12 s12 hb3 => ?_⟩
  have : b3 = true := hb3.mpr (KP_id hf)
  subst this
  exact ⟨true, true, rfl, rfl, q _⟩
end
theorem all_mk {l : PySem.W.OpenLaw} {w : World} {K : PySem.W.Frag} {h : Heap} {mg : Str → Option Value} {fa f1 f2 f3 f4 f5 f6 f7 f8 f9 f10 f11 f12 f13 f14 f15 f16 f17 f18 f19 : Addr} (X : K.In h) (G : h.Ns mainGlobals mg) (hfa : mg "law" = some (.ref fa))
    {od1 an1 od2 an2 od3 an3 od4 an4 od5 an5 od6 an6 od7 an7 od8 an8 od9 an9 od10 an10 od11 an11 od12 an12 od13 an13 od14 an14 od15 an15 od16 an16 od17 an17 od18 an18 od19 an19 : Option Addr} {sl1 sl2 sl3 sl4 sl5 sl6 sl7 sl8 sl9 sl10 sl11 sl12 sl13 sl14 sl15 sl16 sl17 sl18 sl19 : Array (Option Value)} {oc1 kV1 dc1 pm1 cd1 ct1 oc2 kV2 dc2 pm2 cd2 ct2 oc3 kV3 dc3 pm3 cd3 ct3 oc4 kV4 dc4 pm4 cd4 ct4 oc5 kV5 dc5 pm5 cd5 ct5 oc6 kV6 dc6 pm6 cd6 ct6 oc7 kV7 dc7 pm7 cd7 ct7 oc8 kV8 dc8 pm8 cd8 ct8 oc9 kV9 dc9 pm9 cd9 ct9 oc10 kV10 dc10 pm10 cd10 ct10 oc11 kV11 dc11 pm11 cd11 ct11 oc12 kV12 dc12 pm12 cd12 ct12 oc13 kV13 dc13 pm13 cd13 ct13 oc14 kV14 dc14 pm14 cd14 ct14 oc15 kV15 dc15 pm15 cd15 ct15 oc16 kV16 dc16 pm16 cd16 ct16 oc17 kV17 dc17 pm17 cd17 ct17 oc18 kV18 dc18 pm18 cd18 ct18 oc19 kV19 dc19 pm19 cd19 ct19 : Value}
    (a1 : PySem.W.nsIn K mainGlobals "all_colours" = some (some (.ref f1))) (l1 : K.lookup f1 = some ⟨oc1, od1, .func (PySem.W.fnOf "all_colours" "all_colours" (defArgs s_all_colours) (defBody s_all_colours) (defScope s_all_colours) .none kV1 dc1 pm1 an1 cd1 ct1), sl1⟩) (c1 : PySem.W.codeIn K cd1 "all_colours" = true) (k1 : PySem.W.keepIn K (.ref f1) = true)
    (a2 : PySem.W.nsIn K mainGlobals "first_breach" = some (some (.ref f2))) (l2 : K.lookup f2 = some ⟨oc2, od2, .func (PySem.W.fnOf "first_breach" "first_breach" (defArgs s_first_breach) (defBody s_first_breach) (defScope s_first_breach) .none kV2 dc2 pm2 an2 cd2 ct2), sl2⟩) (c2 : PySem.W.codeIn K cd2 "first_breach" = true) (k2 : PySem.W.keepIn K (.ref f2) = true)
    (a3 : PySem.W.nsIn K mainGlobals "equation_broken" = some (some (.ref f3))) (l3 : K.lookup f3 = some ⟨oc3, od3, .func (PySem.W.fnOf "equation_broken" "equation_broken" (defArgs s_equation_broken) (defBody s_equation_broken) (defScope s_equation_broken) .none kV3 dc3 pm3 an3 cd3 ct3), sl3⟩) (c3 : PySem.W.codeIn K cd3 "equation_broken" = true) (k3 : PySem.W.keepIn K (.ref f3) = true)
    (a4 : PySem.W.nsIn K mainGlobals "keeping" = some (some (.ref f4))) (l4 : K.lookup f4 = some ⟨oc4, od4, .func (PySem.W.fnOf "keeping" "keeping" (defArgs s_keeping) (defBody s_keeping) (defScope s_keeping) .none kV4 dc4 pm4 an4 cd4 ct4), sl4⟩) (c4 : PySem.W.codeIn K cd4 "keeping" = true) (k4 : PySem.W.keepIn K (.ref f4) = true)
    (a5 : PySem.W.nsIn K mainGlobals "_law_cell" = some (some (.ref f5))) (l5 : K.lookup f5 = some ⟨oc5, od5, .func (PySem.W.fnOf "_law_cell" "_law_cell" (defArgs s_cell) (defBody s_cell) (defScope s_cell) .none kV5 dc5 pm5 an5 cd5 ct5), sl5⟩) (c5 : PySem.W.codeIn K cd5 "_law_cell" = true) (k5 : PySem.W.keepIn K (.ref f5) = true)
    (a6 : PySem.W.nsIn K mainGlobals "_law_mix" = some (some (.ref f6))) (l6 : K.lookup f6 = some ⟨oc6, od6, .func (PySem.W.fnOf "_law_mix" "_law_mix" (defArgs s_mix) (defBody s_mix) (defScope s_mix) .none kV6 dc6 pm6 an6 cd6 ct6), sl6⟩) (c6 : PySem.W.codeIn K cd6 "_law_mix" = true) (k6 : PySem.W.keepIn K (.ref f6) = true)
    (a7 : PySem.W.nsIn K mainGlobals "_law_row" = some (some (.ref f7))) (l7 : K.lookup f7 = some ⟨oc7, od7, .func (PySem.W.fnOf "_law_row" "_law_row" (defArgs s_row) (defBody s_row) (defScope s_row) .none kV7 dc7 pm7 an7 cd7 ct7), sl7⟩) (c7 : PySem.W.codeIn K cd7 "_law_row" = true) (k7 : PySem.W.keepIn K (.ref f7) = true)
    (a8 : PySem.W.nsIn K mainGlobals "_law_cell_of" = some (some (.ref f8))) (l8 : K.lookup f8 = some ⟨oc8, od8, .func (PySem.W.fnOf "_law_cell_of" "_law_cell_of" (defArgs s_cell_of) (defBody s_cell_of) (defScope s_cell_of) .none kV8 dc8 pm8 an8 cd8 ct8), sl8⟩) (c8 : PySem.W.codeIn K cd8 "_law_cell_of" = true) (k8 : PySem.W.keepIn K (.ref f8) = true)
    (a9 : PySem.W.nsIn K mainGlobals "_law_common" = some (some (.ref f9))) (l9 : K.lookup f9 = some ⟨oc9, od9, .func (PySem.W.fnOf "_law_common" "_law_common" (defArgs s_common) (defBody s_common) (defScope s_common) .none kV9 dc9 pm9 an9 cd9 ct9), sl9⟩) (c9 : PySem.W.codeIn K cd9 "_law_common" = true) (k9 : PySem.W.keepIn K (.ref f9) = true)
    (a10 : PySem.W.nsIn K mainGlobals "_law_made" = some (some (.ref f10))) (l10 : K.lookup f10 = some ⟨oc10, od10, .func (PySem.W.fnOf "_law_made" "_law_made" (defArgs s_made) (defBody s_made) (defScope s_made) .none kV10 dc10 pm10 an10 cd10 ct10), sl10⟩) (c10 : PySem.W.codeIn K cd10 "_law_made" = true) (k10 : PySem.W.keepIn K (.ref f10) = true)
    (a11 : PySem.W.nsIn K mainGlobals "_law_ordered" = some (some (.ref f11))) (l11 : K.lookup f11 = some ⟨oc11, od11, .func (PySem.W.fnOf "_law_ordered" "_law_ordered" (defArgs s_ordered) (defBody s_ordered) (defScope s_ordered) .none kV11 dc11 pm11 an11 cd11 ct11), sl11⟩) (c11 : PySem.W.codeIn K cd11 "_law_ordered" = true) (k11 : PySem.W.keepIn K (.ref f11) = true)
    (a12 : PySem.W.nsIn K mainGlobals "_law_relaid" = some (some (.ref f12))) (l12 : K.lookup f12 = some ⟨oc12, od12, .func (PySem.W.fnOf "_law_relaid" "_law_relaid" (defArgs s_relaid) (defBody s_relaid) (defScope s_relaid) .none kV12 dc12 pm12 an12 cd12 ct12), sl12⟩) (c12 : PySem.W.codeIn K cd12 "_law_relaid" = true) (k12 : PySem.W.keepIn K (.ref f12) = true)
    (a13 : PySem.W.nsIn K mainGlobals "_law_table" = some (some (.ref f13))) (l13 : K.lookup f13 = some ⟨oc13, od13, .func (PySem.W.fnOf "_law_table" "_law_table" (defArgs s_table) (defBody s_table) (defScope s_table) .none kV13 dc13 pm13 an13 cd13 ct13), sl13⟩) (c13 : PySem.W.codeIn K cd13 "_law_table" = true) (k13 : PySem.W.keepIn K (.ref f13) = true)
    (a14 : PySem.W.nsIn K mainGlobals "_law_copied" = some (some (.ref f14))) (l14 : K.lookup f14 = some ⟨oc14, od14, .func (PySem.W.fnOf "_law_copied" "_law_copied" (defArgs s_copied) (defBody s_copied) (defScope s_copied) .none kV14 dc14 pm14 an14 cd14 ct14), sl14⟩) (c14 : PySem.W.codeIn K cd14 "_law_copied" = true) (k14 : PySem.W.keepIn K (.ref f14) = true)
    (a15 : PySem.W.nsIn K mainGlobals "_law_rare" = some (some (.ref f15))) (l15 : K.lookup f15 = some ⟨oc15, od15, .func (PySem.W.fnOf "_law_rare" "_law_rare" (defArgs s_rare) (defBody s_rare) (defScope s_rare) .none kV15 dc15 pm15 an15 cd15 ct15), sl15⟩) (c15 : PySem.W.codeIn K cd15 "_law_rare" = true) (k15 : PySem.W.keepIn K (.ref f15) = true)
    (a16 : PySem.W.nsIn K mainGlobals "_law_pair" = some (some (.ref f16))) (l16 : K.lookup f16 = some ⟨oc16, od16, .func (PySem.W.fnOf "_law_pair" "_law_pair" (defArgs s_pair) (defBody s_pair) (defScope s_pair) .none kV16 dc16 pm16 an16 cd16 ct16), sl16⟩) (c16 : PySem.W.codeIn K cd16 "_law_pair" = true) (k16 : PySem.W.keepIn K (.ref f16) = true)
    (a17 : PySem.W.nsIn K mainGlobals "_law_due" = some (some (.ref f17))) (l17 : K.lookup f17 = some ⟨oc17, od17, .func (PySem.W.fnOf "_law_due" "_law_due" (defArgs s_due) (defBody s_due) (defScope s_due) .none kV17 dc17 pm17 an17 cd17 ct17), sl17⟩) (c17 : PySem.W.codeIn K cd17 "_law_due" = true) (k17 : PySem.W.keepIn K (.ref f17) = true)
    (a18 : PySem.W.nsIn K mainGlobals "_law_images" = some (some (.ref f18))) (l18 : K.lookup f18 = some ⟨oc18, od18, .func (PySem.W.fnOf "_law_images" "_law_images" (defArgs s_images) (defBody s_images) (defScope s_images) .none kV18 dc18 pm18 an18 cd18 ct18), sl18⟩) (c18 : PySem.W.codeIn K cd18 "_law_images" = true) (k18 : PySem.W.keepIn K (.ref f18) = true)
    (a19 : PySem.W.nsIn K mainGlobals "law" = some (some (.ref f19))) (l19 : K.lookup f19 = some ⟨oc19, od19, .func (PySem.W.fnOf "law" "law" (defArgs s_law) (defBody s_law) (defScope s_law) .none kV19 dc19 pm19 an19 cd19 ct19), sl19⟩) (c19 : PySem.W.codeIn K cd19 "law" = true) (k19 : PySem.W.keepIn K (.ref f19) = true)
    (z1 : PySem.W.nsIn K mainGlobals "abs" = some none)
    (z2 : PySem.W.nsIn K mainGlobals "all" = some none)
    (z3 : PySem.W.nsIn K mainGlobals "bool" = some none)
    (z4 : PySem.W.nsIn K mainGlobals "int" = some none)
    (z5 : PySem.W.nsIn K mainGlobals "isinstance" = some none)
    (z6 : PySem.W.nsIn K mainGlobals "len" = some none)
    (z7 : PySem.W.nsIn K mainGlobals "list" = some none)
    (z8 : PySem.W.nsIn K mainGlobals "range" = some none)
    : ∃ fd : FuncData, (∀ (s : Shared) (v : Value), BindsTo s fd ⟨[v], []⟩ [("_law_script", v)]) ∧ ∀ base : Heap, K.In base → base.Ns mainGlobals mg → FnOk l.prog w K mg base CX0 5 fa fd ["_law_script"] (sp_law K) := by
  have e := hfa.symm.trans (PySem.W.mg_of X G a19)
  cases e
  have Z : Blt mg := ⟨PySem.W.mg_none_of X G z1, PySem.W.mg_none_of X G z2, PySem.W.mg_none_of X G z3, PySem.W.mg_none_of X G z4, PySem.W.mg_none_of X G z5, PySem.W.mg_none_of X G z6, PySem.W.mg_none_of X G z7, PySem.W.mg_none_of X G z8⟩
  have D1 : Def K mg "all_colours" s_all_colours ["numbers", "size"] := ⟨f1, _, fun_mk (st := s_all_colours) l1 c1 k1, (fun_mk (st := s_all_colours) l1 c1 k1).binds (ps := ["numbers", "size"]) fun _ _ _ _ _ _ us hl => match us, hl with | [_, _], _ => rfl, PySem.W.mg_of X G a1⟩
  have D2 : Def K mg "first_breach" s_first_breach ["one", "other", "images"] := ⟨f2, _, fun_mk (st := s_first_breach) l2 c2 k2, (fun_mk (st := s_first_breach) l2 c2 k2).binds (ps := ["one", "other", "images"]) fun _ _ _ _ _ _ us hl => match us, hl with | [_, _, _], _ => rfl, PySem.W.mg_of X G a2⟩
  have D3 : Def K mg "equation_broken" s_equation_broken ["one", "other", "images", "a", "b"] := ⟨f3, _, fun_mk (st := s_equation_broken) l3 c3 k3, (fun_mk (st := s_equation_broken) l3 c3 k3).binds (ps := ["one", "other", "images", "a", "b"]) fun _ _ _ _ _ _ us hl => match us, hl with | [_, _, _, _, _], _ => rfl, PySem.W.mg_of X G a3⟩
  have D4 : Def K mg "keeping" s_keeping ["one", "other", "images"] := ⟨f4, _, fun_mk (st := s_keeping) l4 c4 k4, (fun_mk (st := s_keeping) l4 c4 k4).binds (ps := ["one", "other", "images"]) fun _ _ _ _ _ _ us hl => match us, hl with | [_, _, _], _ => rfl, PySem.W.mg_of X G a4⟩
  have D5 : Def K mg "_law_cell" s_cell ["_law_script", "_law_place"] := ⟨f5, _, fun_mk (st := s_cell) l5 c5 k5, (fun_mk (st := s_cell) l5 c5 k5).binds (ps := ["_law_script", "_law_place"]) fun _ _ _ _ _ _ us hl => match us, hl with | [_, _], _ => rfl, PySem.W.mg_of X G a5⟩
  have D6 : Def K mg "_law_mix" s_mix ["_law_cell_here", "_law_k"] := ⟨f6, _, fun_mk (st := s_mix) l6 c6 k6, (fun_mk (st := s_mix) l6 c6 k6).binds (ps := ["_law_cell_here", "_law_k"]) fun _ _ _ _ _ _ us hl => match us, hl with | [_, _], _ => rfl, PySem.W.mg_of X G a6⟩
  have D7 : Def K mg "_law_row" s_row ["_law_script", "_law_place", "_law_sizes"] := ⟨f7, _, fun_mk (st := s_row) l7 c7 k7, (fun_mk (st := s_row) l7 c7 k7).binds (ps := ["_law_script", "_law_place", "_law_sizes"]) fun _ _ _ _ _ _ us hl => match us, hl with | [_, _, _], _ => rfl, PySem.W.mg_of X G a7⟩
  have D8 : Def K mg "_law_cell_of" s_cell_of ["_law_way", "_law_size", "_law_factor", "_law_a", "_law_b"] := ⟨f8, _, fun_mk (st := s_cell_of) l8 c8 k8, (fun_mk (st := s_cell_of) l8 c8 k8).binds (ps := ["_law_way", "_law_size", "_law_factor", "_law_a", "_law_b"]) fun _ _ _ _ _ _ us hl => match us, hl with | [_, _, _, _, _], _ => rfl, PySem.W.mg_of X G a8⟩
  have D9 : Def K mg "_law_common" s_common ["_law_one", "_law_other"] := ⟨f9, _, fun_mk (st := s_common) l9 c9 k9, (fun_mk (st := s_common) l9 c9 k9).binds (ps := ["_law_one", "_law_other"]) fun _ _ _ _ _ _ us hl => match us, hl with | [_, _], _ => rfl, PySem.W.mg_of X G a9⟩
  have D10 : Def K mg "_law_made" s_made ["_law_way", "_law_size", "_law_factor"] := ⟨f10, _, fun_mk (st := s_made) l10 c10 k10, (fun_mk (st := s_made) l10 c10 k10).binds (ps := ["_law_way", "_law_size", "_law_factor"]) fun _ _ _ _ _ _ us hl => match us, hl with | [_, _, _], _ => rfl, PySem.W.mg_of X G a10⟩
  have D11 : Def K mg "_law_ordered" s_ordered ["_law_some", "_law_count"] := ⟨f11, _, fun_mk (st := s_ordered) l11 c11 k11, (fun_mk (st := s_ordered) l11 c11 k11).binds (ps := ["_law_some", "_law_count"]) fun _ _ _ _ _ _ us hl => match us, hl with | [_, _], _ => rfl, PySem.W.mg_of X G a11⟩
  have D12 : Def K mg "_law_relaid" s_relaid ["_law_some", "_law_spots"] := ⟨f12, _, fun_mk (st := s_relaid) l12 c12 k12, (fun_mk (st := s_relaid) l12 c12 k12).binds (ps := ["_law_some", "_law_spots"]) fun _ _ _ _ _ _ us hl => match us, hl with | [_, _], _ => rfl, PySem.W.mg_of X G a12⟩
  have D13 : Def K mg "_law_table" s_table ["_law_script", "_law_place", "_law_most"] := ⟨f13, _, fun_mk (st := s_table) l13 c13 k13, (fun_mk (st := s_table) l13 c13 k13).binds (ps := ["_law_script", "_law_place", "_law_most"]) fun _ _ _ _ _ _ us hl => match us, hl with | [_, _, _], _ => rfl, PySem.W.mg_of X G a13⟩
  have D14 : Def K mg "_law_copied" s_copied ["_law_some"] := ⟨f14, _, fun_mk (st := s_copied) l14 c14 k14, (fun_mk (st := s_copied) l14 c14 k14).binds (ps := ["_law_some"]) fun _ _ _ _ _ _ us hl => match us, hl with | [_], _ => rfl, PySem.W.mg_of X G a14⟩
  have D15 : Def K mg "_law_rare" s_rare ["_law_way", "_law_size"] := ⟨f15, _, fun_mk (st := s_rare) l15 c15 k15, (fun_mk (st := s_rare) l15 c15 k15).binds (ps := ["_law_way", "_law_size"]) fun _ _ _ _ _ _ us hl => match us, hl with | [_, _], _ => rfl, PySem.W.mg_of X G a15⟩
  have D16 : Def K mg "_law_pair" s_pair ["_law_script", "_law_most"] := ⟨f16, _, fun_mk (st := s_pair) l16 c16 k16, (fun_mk (st := s_pair) l16 c16 k16).binds (ps := ["_law_script", "_law_most"]) fun _ _ _ _ _ _ us hl => match us, hl with | [_, _], _ => rfl, PySem.W.mg_of X G a16⟩
  have D17 : Def K mg "_law_due" s_due ["_law_one", "_law_other", "_law_images_here"] := ⟨f17, _, fun_mk (st := s_due) l17 c17 k17, (fun_mk (st := s_due) l17 c17 k17).binds (ps := ["_law_one", "_law_other", "_law_images_here"]) fun _ _ _ _ _ _ us hl => match us, hl with | [_, _, _], _ => rfl, PySem.W.mg_of X G a17⟩
  have D18 : Def K mg "_law_images" s_images ["_law_one", "_law_other", "_law_some", "_law_order"] := ⟨f18, _, fun_mk (st := s_images) l18 c18 k18, (fun_mk (st := s_images) l18 c18 k18).binds (ps := ["_law_one", "_law_other", "_law_some", "_law_order"]) fun _ _ _ _ _ _ us hl => match us, hl with | [_, _, _, _], _ => rfl, PySem.W.mg_of X G a18⟩
  refine ⟨PySem.W.fnOf "law" "law" (defArgs s_law) (defBody s_law) (defScope s_law) .none kV19 dc19 pm19 an19 cd19 ct19, fun s v => .of_eq rfl, fun base _ _ => ?_⟩
  have g_cell := ok_cell (P := l.prog) (w := w) (base := base) D5  Z
  have g_mix := ok_mix (P := l.prog) (w := w) (base := base) D6  Z
  have g_row := ok_row (P := l.prog) (w := w) (base := base) D7 g_cell g_mix Z
  have g_common := ok_common (P := l.prog) (w := w) (base := base) D9  Z
  have g_cell_of := ok_cell_of (P := l.prog) (w := w) (base := base) D8  Z
  have g_made := ok_made (P := l.prog) (w := w) (base := base) D10 g_common g_cell_of Z
  have g_relaid := ok_relaid (P := l.prog) (w := w) (base := base) D12  Z
  have g_ordered := ok_ordered (P := l.prog) (w := w) (base := base) D11  Z
  have g_table := ok_table (P := l.prog) (w := w) (base := base) D13 g_row g_made g_relaid g_ordered Z
  have g_rare := ok_rare (P := l.prog) (w := w) (base := base) D15  Z
  have g_pair := ok_pair (P := l.prog) (w := w) (base := base) D16 g_row g_table g_rare g_made g_relaid g_ordered Z
  have g_images := ok_images (P := l.prog) (w := w) (base := base) D18  Z
  have g_equation_broken := ok_equation_broken (P := l.prog) (w := w) (base := base) D3  Z
  have g_first_breach := ok_first_breach (P := l.prog) (w := w) (base := base) D2 g_equation_broken Z
  have g_all_colours := ok_all_colours (P := l.prog) (w := w) (base := base) D1  Z
  have g_keeping := ok_keeping (P := l.prog) (w := w) (base := base) D4 g_first_breach g_all_colours Z
  have g_copied := ok_copied (P := l.prog) (w := w) (base := base) D14  Z
  have g_due := ok_due (P := l.prog) (w := w) (base := base) D17  Z
  exact ok_law (P := l.prog) (w := w) (base := base) (fun_mk (st := s_law) l19 c19 k19) g_pair g_ordered g_row g_images g_keeping g_copied g_due Z
theorem walk {l : PySem.W.OpenLaw} {q : Program} {loose : List Str} {XP : (Str → Option Value) → Heap → Prop} {YP : World → Heap → Prop} {d : DefRec} {K : Params → PySem.W.Frag} (hn : l.most = some 63) (hdf : d.params.defaults = [])
    (hY : ∀ (w : World) (h : Heap), YP w h → (K w.params).In h)
    (F : ∀ (w : World) (mg : Str → Option Value) (fa : Addr) (h : Heap), (K w.params).In h → h.Ns mainGlobals mg → mg d.name = some (.ref fa) →
      ∃ fd : FuncData, (∀ (s : Shared) (u : Value), BindsTo s fd ⟨[u], []⟩ [("_law_script", u)]) ∧ ∀ base : Heap, (K w.params).In base → base.Ns mainGlobals mg → FnOk l.prog w (K w.params) mg base CX0 5 fa fd ["_law_script"] (sp_law (K w.params))) :
    PySem.W.WalkO q loose XP YP l.row.toRowW d [] (fun f vs => PySem.call f vs) :=
  L2.walk_of (n := 63) (k := 5) (x := "_law_script") (CX := fun _ => CX0) (sp := fun w => sp_law (K w.params)) hn (by decide) hdf ⟨rfl, by decide, by decide⟩ hY F (fun _ _ a ns hl _ hS => ⟨a, ns, rfl, hS, hl, fun _ => rfl⟩) fun _ _ _ _ _ z => z
end My
open PySem PySem.W PyProof.Rows
set_option maxRecDepth 100000 in
set_option maxHeartbeats 0 in
theorem PySem.Challenge.cw_plait_k48_images_that_keep_holds : PySem.Challenge.rw_plait_k48_images_that_keep.Holds := by
  w_on; o_law; k_head; (case hw => w_witness2)
  k_fill
  refine My.walk (l := PySem.Challenge.rw_plait_k48_images_that_keep) rfl rfl (fun w h Y => PySem.W.kIn_of Y) ?F
  case F =>
    intro w mg fa h KX G hmg
    refine' My.all_mk KX G hmg ?a1 ?l1 ?c1 ?k1 ?a2 ?l2 ?c2 ?k2 ?a3 ?l3 ?c3 ?k3 ?a4 ?l4 ?c4 ?k4 ?a5 ?l5 ?c5 ?k5 ?a6 ?l6 ?c6 ?k6 ?a7 ?l7 ?c7 ?k7 ?a8 ?l8 ?c8 ?k8 ?a9 ?l9 ?c9 ?k9 ?a10 ?l10 ?c10 ?k10 ?a11 ?l11 ?c11 ?k11 ?a12 ?l12 ?c12 ?k12 ?a13 ?l13 ?c13 ?k13 ?a14 ?l14 ?c14 ?k14 ?a15 ?l15 ?c15 ?k15 ?a16 ?l16 ?c16 ?k16 ?a17 ?l17 ?c17 ?k17 ?a18 ?l18 ?c18 ?k18 ?a19 ?l19 ?c19 ?k19 ?z1 ?z2 ?z3 ?z4 ?z5 ?z6 ?z7 ?z8
    (case a1 => k_is); (case l1 => k_is); (case c1 => k_is); (case k1 => k_is); (case a2 => k_is); (case l2 => k_is); (case c2 => k_is); (case k2 => k_is); (case a3 => k_is); (case l3 => k_is); (case c3 => k_is); (case k3 => k_is); (case a4 => k_is); (case l4 => k_is); (case c4 => k_is); (case k4 => k_is); (case a5 => k_is); (case l5 => k_is); (case c5 => k_is); (case k5 => k_is); (case a6 => k_is); (case l6 => k_is); (case c6 => k_is); (case k6 => k_is); (case a7 => k_is); (case l7 => k_is); (case c7 => k_is); (case k7 => k_is); (case a8 => k_is); (case l8 => k_is); (case c8 => k_is); (case k8 => k_is); (case a9 => k_is); (case l9 => k_is); (case c9 => k_is); (case k9 => k_is); (case a10 => k_is); (case l10 => k_is); (case c10 => k_is); (case k10 => k_is); (case a11 => k_is); (case l11 => k_is); (case c11 => k_is); (case k11 => k_is); (case a12 => k_is); (case l12 => k_is); (case c12 => k_is); (case k12 => k_is); (case a13 => k_is); (case l13 => k_is); (case c13 => k_is); (case k13 => k_is); (case a14 => k_is); (case l14 => k_is); (case c14 => k_is); (case k14 => k_is); (case a15 => k_is); (case l15 => k_is); (case c15 => k_is); (case k15 => k_is); (case a16 => k_is); (case l16 => k_is); (case c16 => k_is); (case k16 => k_is); (case a17 => k_is); (case l17 => k_is); (case c17 => k_is); (case k17 => k_is); (case a18 => k_is); (case l18 => k_is); (case c18 => k_is); (case k18 => k_is); (case a19 => k_is); (case l19 => k_is); (case c19 => k_is); (case k19 => k_is); (case z1 => k_is); (case z2 => k_is); (case z3 => k_is); (case z4 => k_is); (case z5 => k_is); (case z6 => k_is); (case z7 => k_is); (case z8 => k_is)
