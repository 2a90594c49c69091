import PyProof.Rows.All
import Wide.All
import OpenK.AllK
import Wide.FinOn
import Lean
import PyProof.EqAt
import PyProof.EqKinds
import PyProof.TupleCall
import PySem.Challenge.RW_plait_k17_refusals
set_option Elab.async false
set_option linter.all false
set_option maxRecDepth 100000
/-! THE HAND LAYER, for ints, bools, texts, own classes, LISTS and tuples (index, slices, in, append, pop ..), calls, loops. Paste it whole ahead of your own text; what your proof does not reach may be deleted. -/
namespace L2
open PySem PySem.Spec PyProof.Rows

/-- a key: an int or a str -/
abbrev Key := Sum Int Str
def keyIs : Key → Value → Bool
  | .inl k, v => Value.isInt k v
  | .inr x, v => Value.isStrOf x v
def keyH (w : World) : Key → Int
  | .inl k => hashInt k
  | .inr x => hashStr w x
theorem keyIs_shape : ∀ {k : Key} {v : Value}, keyIs k v = true → (∃ i t, k = Sum.inl i ∧ v = Value.int i t) ∨ (∃ x t, k = Sum.inr x ∧ v = Value.str x t)
  | .inl i, v, h => by
    obtain ⟨t, e⟩ := Value.isInt_shape (k := i) (v := v) h
    exact .inl ⟨i, t, rfl, e⟩
  | .inr x, v, h => by
    obtain ⟨t, e⟩ := Value.isStrOf_shape (x := x) (v := v) h
    exact .inr ⟨x, t, rfl, e⟩
theorem keyIs_int (i : Int) (t : Tok) : keyIs (.inl i) (.int i t) = true := by simp [keyIs, Value.isInt]
theorem keyIs_str (x : Str) (t : Tok) : keyIs (.inr x) (.str x t) = true := by simp [keyIs, Value.isStrOf]
theorem key_ll (a b : Int) : decide ((Sum.inl a : Key) = Sum.inl b) = (a == b) := by
  by_cases e : a = b
  · subst e; simp
  · have h : ¬ (Sum.inl a : Key) = Sum.inl b := fun q => e (Sum.inl.inj q)
    rw [decide_eq_false h]
    exact (beq_eq_false_iff_ne.mpr e).symm
theorem key_rr (a b : Str) : decide ((Sum.inr a : Key) = Sum.inr b) = decide (a = b) := by
  by_cases e : a = b
  · subst e; simp
  · have h : ¬ (Sum.inr a : Key) = Sum.inr b := fun q => e (Sum.inr.inj q)
    rw [decide_eq_false h, decide_eq_false e]
theorem key_lr (a : Int) (b : Str) : decide ((Sum.inl a : Key) = Sum.inr b) = false := decide_eq_false (fun q => nomatch q)
theorem key_rl (a : Str) (b : Int) : decide ((Sum.inr a : Key) = Sum.inl b) = false := decide_eq_false (fun q => nomatch q)

def mixKind (prog : Program) (w : World) : PySem.KeyKind prog w Key where
  is := keyIs
  hash := keyH w
  inj := fun v a b ha hb => by
    rcases keyIs_shape ha with ⟨i, t, rfl, rfl⟩ | ⟨x, t, rfl, rfl⟩
    · rcases keyIs_shape hb with ⟨j, u, rfl, e⟩ | ⟨y, u, rfl, e⟩
      · injection e with e1 _; rw [e1]
      · exact nomatch e
    · rcases keyIs_shape hb with ⟨j, u, rfl, e⟩ | ⟨y, u, rfl, e⟩
      · exact nomatch e
      · injection e with e1 _; rw [e1]
  byValue := fun k v h => by
    rcases keyIs_shape h with ⟨i, t, rfl, rfl⟩ | ⟨x, t, rfl, rfl⟩ <;> rfl
  pyHash := fun hv h => by
    rcases keyIs_shape hv with ⟨i, t, rfl, rfl⟩ | ⟨x, t, rfl, rfl⟩
    · exact wpAny_pyHash_int h
    · exact wpAny_pyHash_str h
  eqBool := fun hu hv h => by
    rcases keyIs_shape hu with ⟨i, t, rfl, rfl⟩ | ⟨x, t, rfl, rfl⟩
    · rcases keyIs_shape hv with ⟨j, u, rfl, rfl⟩ | ⟨y, u, rfl, rfl⟩
      · rw [key_ll] at h; exact wpAny_eqBool_int h
      · rw [key_lr] at h; exact SeqAt.EqAt.int_str i t y u _ _ _ _ h
    · rcases keyIs_shape hv with ⟨j, u, rfl, rfl⟩ | ⟨y, u, rfl, rfl⟩
      · rw [key_rl] at h; exact SeqAt.EqAt.str_int x t j u _ _ _ _ h
      · rw [key_rr] at h; exact wpAny_eqBool_str h
  «strs» := fun k x t v h => by
    rcases keyIs_shape h with ⟨i, u, rfl, e⟩ | ⟨y, u, rfl, e⟩
    · exact nomatch e
    · injection e with e1 _
      subst e1
      cases v <;> rfl

theorem mixKind_int (prog : Program) (w : World) (i : Int) (t : Tok) : (mixKind prog w).is (.inl i) (.int i t) = true := keyIs_int i t
theorem mixKind_str (prog : Program) (w : World) (x : Str) (t : Tok) : (mixKind prog w).is (.inr x) (.str x t) = true := keyIs_str x t
end L2

namespace L2
open PySem PySem.Spec PyProof.Rows

/-- a value, without the heap -/
inductive V where
  | non | bl (b : Bool) | int (i : Int) | str (x : Str) | byt (b : Array UInt8) | flt (b : UInt64) | ref (a : Addr) | ty (n : String)
  deriving DecidableEq

def RelV : V → Value → Prop
  | .non, u => u = Value.none
  | .bl b, u => u = Value.bool b
  | .int i, u => ∃ t, u = Value.int i t
  | .str x, u => ∃ t, u = Value.str x t
  | .byt b, u => ∃ t, u = Value.bytes b t
  | .flt b, u => ∃ t, u = Value.float b t
  | .ref a, u => u = Value.ref a
  | .ty n, u => u = Value.type n

abbrev Vals : List V → List Value → Prop := Paired RelV
theorem Vals.length {xs : List V} {us : List Value} (r : Vals xs us) : xs.length = us.length := Paired.length r
theorem Vals.get : ∀ {xs : List V} {us : List Value} {i : Nat} {x : V}, Vals xs us → xs[i]? = some x → ∃ u, us[i]? = some u ∧ RelV x u
  | _, _, _, _, .nil, e => by simp at e
  | _, _, 0, _, .cons r _, e => by simp at e; subst e; exact ⟨_, rfl, r⟩
  | _, _, i + 1, x, .cons _ t, e => by
    obtain ⟨u, h1, h2⟩ := Vals.get (i := i) (x := x) t (by simpa using e)
    exact ⟨u, by simpa using h1, h2⟩
theorem Vals.set {x : V} {u : Value} (r : RelV x u) : ∀ {xs : List V} {us : List Value} (i : Nat), Vals xs us → Vals (xs.set i x) (us.set i u)
  | _, _, _, .nil => .nil
  | _, _, 0, .cons _ t => .cons r t
  | _, _, i + 1, .cons q t => .cons q (Vals.set r i t)
theorem Vals.append : ∀ {xs ys : List V} {us ws : List Value}, Vals xs us → Vals ys ws → Vals (xs ++ ys) (us ++ ws)
  | _, _, _, _, .nil, s => s
  | _, _, _, _, .cons r t, s => .cons r (Vals.append t s)
theorem Vals.take : ∀ {xs : List V} {us : List Value} (n : Nat), Vals xs us → Vals (xs.take n) (us.take n)
  | _, _, 0, _ => .nil
  | _, _, _ + 1, .nil => .nil
  | _, _, n + 1, .cons r t => .cons r (Vals.take n t)
theorem Vals.drop : ∀ {xs : List V} {us : List Value} (n : Nat), Vals xs us → Vals (xs.drop n) (us.drop n)
  | _, _, 0, r => r
  | _, _, _ + 1, .nil => .nil
  | _, _, n + 1, .cons _ t => Vals.drop n t
def RelO : Option V → Option Value → Prop
  | some v, some u => RelV v u
  | none, none => True
  | _, _ => False
def KV {κ : Type} : List (κ × V) → List (κ × Value) → Prop := Paired fun (p : κ × V) (q : κ × Value) => p.1 = q.1 ∧ RelV p.2 q.2

/-- a key of a dict (00_mix): an int or a text -/
def kV : Key → V
  | .inl i => .int i
  | .inr x => .str x

/-- what stands at a tracked address -/
inductive HO where
  /-- a list -/
  | lst (xs : List V)
  /-- a tuple (never changes) -/
  | tup (xs : List V)
  /-- a dict whose keys are ints and texts; one whose keys are tuples of ints and texts (the empty one is both) -/
  | dK (kvs : List (Key × V)) | dT (kvs : List (List Key × V))
  /-- a set of ints: its members, its size -/
  | set (S : Int → Bool) (n : Nat)
  /-- an instance of the class at C, its dict at dx, its attributes -/
  | ins (C dx : Addr) (fs : List (Str × V))
  /-- the dict of the instance at x -/
  | own (x : Addr)
  /-- the dict of an exception -/
  | xd (fs : List (Str × V))
  /-- a bound method, f of x -/
  | met (f x : Addr)
  /-- a range object lo, lo + 1, .. below hi -/
  | rng (lo hi : Int)
  /-- a thing that is known to the object (the script; a dict while a loop walks it): read, never written while it is so -/
  | frz (o : Obj) (u : HO)
  /-- a code object's table -/
  | tbl (ps : Array Value)
  /-- any other thing, by what is true of its one object (a def of one's own: SetO a S n := HO.ext fun h => ..) -/
  | ext (φ : Heap → Prop)

abbrev Hp := Addr → Option HO
def upd (H : Hp) (a : Addr) (o : HO) : Hp := fun b => if b = a then some o else H b
theorem upd_same {H : Hp} {a : Addr} {o : HO} : upd H a o a = some o := by unfold upd; rw [if_pos rfl]
theorem upd_ne {H : Hp} {a b : Addr} {o : HO} (h : b ≠ a) : upd H a o b = H b := by unfold upd; rw [if_neg h]
theorem ne_of_none {H : Hp} {a b : Addr} {o : HO} (h : H a = some o) (h' : H b = none) : a ≠ b := by
  intro e; subst e; rw [h] at h'; cases h'

def IsTupD (h : Heap) (a : Addr) (items : Array Value) : Prop := ∃ o, h.get? a = some o ∧ (o.cls = .type "tuple" ∧ o.dict = none) ∧ ∃ n, o.data = .seq items n
theorem IsTupD.t {h : Heap} {a : Addr} {items : Array Value} (x : IsTupD h a items) : IsTup h a items := let ⟨o, ho, c, r⟩ := x; ⟨o, ho, c.1, r⟩
theorem IsTupD.new (h : Heap) (items : Array Value) : IsTupD (h.push { cls := .type "tuple", data := .seq items }) h.objs.size items := ⟨_, Heap.get?_push_size _ rfl, ⟨rfl, rfl⟩, _, rfl⟩

section
variable (P : Program) (w : World)
def ObjOk (H : Hp) (h : Heap) (a : Addr) : HO → Prop
  | .lst xs => xs.length ≤ sizeLine ∧ ∃ (its : List Value) (n : Nat), Vals xs its ∧ h.get? a = some { cls := .type "list", data := .seq its.toArray n }
  | .tup xs => xs.length ≤ sizeLine ∧ ∃ its : List Value, Vals xs its ∧ IsTupD h a its.toArray
  | .dK kvs => kvs.length ≤ sizeLine ∧ (a == sysModules) = false ∧ ∃ vs, KV kvs vs ∧ h.DictOf (mixKind P w) a vs
  | .dT kvs => kvs.length ≤ sizeLine ∧ (a == sysModules) = false ∧ ∃ xs : List (List Key × Addr × Value),
      Paired (fun (p : List Key × V) (q : List Key × Addr × Value) => p.1 = q.1 ∧ H q.2.1 = some (.tup (p.1.map kV)) ∧ RelV p.2 q.2.2) kvs xs ∧
      ∃ o es ep, h.get? a = some o ∧ o.ExactDict ∧ o.data = .dict es ep ∧ es.toList = xs.map (entryOfKey (tupleKind (mixKind P w))) ∧ (xs.map (·.1)).Nodup
  | .set S n => h.SetOf (intKind P w) a S n
  | .ins C dx fs => H dx = some (.own a) ∧ fs.length ≤ 1000 ∧ dx ≠ a ∧ h.get? a = some (PySem.W.instObj C dx) ∧
      ∃ mA, h.Ns1 dx mA ∧ (∀ f, RelO (fs.lookup f) (mA f)) ∧ PySem.Within mA (fs.map (·.1))
  | .own _ => ∃ o, h.get? a = some o
  | .xd fs => ∃ mA, h.Ns1 a mA ∧ ∀ f, RelO (fs.lookup f) (mA f)
  | .rng lo hi => ∃ t u v, h.get? a = some { cls := .type "range", data := .fields #[.int lo t, .int hi u, .int 1 v] }
  | .frz o u => h.get? a = some o ∧ ObjOk H h a u
  | .tbl ps => h.get? a = some { cls := .none, data := .fields ps }
  | .met f x => h.get? a = some (PySem.W.methodObj (.ref f) (.ref x))
  | .ext φ => φ h ∧ (∃ o, h.get? a = some o) ∧ ∀ h1 h2 : Heap, φ h1 → (∀ o, h1.get? a = some o → h2.get? a = some o) → φ h2
/-- the abstract heap is held -/
def HOk (H : Hp) (h : Heap) : Prop := ∀ a o, H a = some o → ObjOk P w H h a o
end

section
variable {P : Program} {w : World} {H H' : Hp} {h h' : Heap} {a : Addr} {o : HO}
theorem ObjOk.lt (x : ObjOk P w H h a o) : a < h.objs.size := by
  cases o with
  | lst xs => obtain ⟨_, _, _, _, e⟩ := x; exact Heap.lt_size e
  | tup xs => obtain ⟨_, _, _, p⟩ := x; exact p.t.lt
  | dK kvs => obtain ⟨_, _, _, _, o, _, _, e, _⟩ := x; exact Heap.lt_size e
  | dT kvs => obtain ⟨_, _, _, _, o, _, _, e, _⟩ := x; exact Heap.lt_size e
  | set S n => obtain ⟨o, _, _, _, e, _⟩ := x; exact Heap.lt_size e
  | ins C dx fs => obtain ⟨_, _, _, e, _⟩ := x; exact Heap.lt_size e
  | own y => obtain ⟨_, e⟩ := x; exact Heap.lt_size e
  | xd fs => obtain ⟨_, ⟨_, _, _, e, _⟩, _⟩ := x; exact Heap.lt_size e
  | rng lo hi => obtain ⟨_, _, _, e⟩ := x; exact Heap.lt_size e
  | frz ob u => obtain ⟨e, _⟩ := x; exact Heap.lt_size e
  | tbl ps => exact Heap.lt_size (show h.get? a = some _ from x)
  | met f y => exact Heap.lt_size (show h.get? a = some _ from x)
  | ext φ => obtain ⟨_, ⟨_, e⟩, _⟩ := x; exact Heap.lt_size e
theorem Paired.mapP {α β : Type} {F G : α → β → Prop} : ∀ {l₁ : List α} {l₂ : List β}, Paired F l₁ l₂ → (∀ a b, F a b → G a b) → Paired G l₁ l₂
  | _, _, .nil, _ => .nil
  | _, _, .cons r t, f => .cons (f _ _ r) (Paired.mapP t f)
/-- what an object's description leans on: its own object, its own dict, the tuples -/
theorem ObjOk.stay (x : ObjOk P w H h a o) (k : ∀ b u, (b = a ∨ H b = some (.own a)) → h.get? b = some u → h'.get? b = some u)
    (ho : ∀ b, H b = some (.own a) → H' b = some (.own a)) (ht : ∀ b xs, H b = some (.tup xs) → H' b = some (.tup xs)) : ObjOk P w H' h' a o := by
  induction o with
  | lst xs => obtain ⟨z, its, n, r, e⟩ := x; exact ⟨z, its, n, r, k _ _ (.inl rfl) e⟩
  | tup xs => obtain ⟨z, its, r, ob, e, c⟩ := x; exact ⟨z, its, r, ob, k _ _ (.inl rfl) e, c⟩
  | dK kvs => obtain ⟨z, y, vs, r, ob, es, ep, e, c⟩ := x; exact ⟨z, y, vs, r, ob, es, ep, k _ _ (.inl rfl) e, c⟩
  | dT kvs =>
    obtain ⟨z, y, xs, r, ob, es, ep, e, c⟩ := x
    exact ⟨z, y, xs, Paired.mapP r fun p q z => ⟨z.1, ht _ _ z.2.1, z.2.2⟩, ob, es, ep, k _ _ (.inl rfl) e, c⟩
  | set S n => obtain ⟨ob, es, ep, t, e, c⟩ := x; exact ⟨ob, es, ep, t, k _ _ (.inl rfl) e, c⟩
  | ins C dx fs =>
    obtain ⟨d, z, ne, e, mA, ⟨od, es, ep, e2, c⟩, r⟩ := x
    exact ⟨ho _ d, z, ne, k _ _ (.inl rfl) e, mA, ⟨od, es, ep, k _ _ (.inr d) e2, c⟩, r⟩
  | own y => obtain ⟨ob, e⟩ := x; exact ⟨ob, k _ _ (.inl rfl) e⟩
  | xd fs => obtain ⟨mA, ⟨od, es, ep, e, c⟩, r⟩ := x; exact ⟨mA, ⟨od, es, ep, k _ _ (.inl rfl) e, c⟩, r⟩
  | rng lo hi => obtain ⟨t, u, v, e⟩ := x; exact ⟨t, u, v, k _ _ (.inl rfl) e⟩
  | frz ob u ih => obtain ⟨e, q⟩ := x; exact ⟨k _ _ (.inl rfl) e, ih q⟩
  | tbl ps =>
    have e : h.get? a = some { cls := .none, data := .fields ps } := x
    show h'.get? a = some { cls := .none, data := .fields ps }
    exact k a _ (.inl rfl) e
  | met f y =>
    have e : h.get? a = some (PySem.W.methodObj (.ref f) (.ref y)) := x
    show h'.get? a = some (PySem.W.methodObj (.ref f) (.ref y))
    exact k a _ (.inl rfl) e
  | ext φ => obtain ⟨p, ⟨o, e⟩, st⟩ := x; exact ⟨st _ _ p fun o q => k _ _ (.inl rfl) q, ⟨o, k _ _ (.inl rfl) e⟩, st⟩
theorem HOk.lt (x : HOk P w H h) (e : H a = some o) : a < h.objs.size := (x a o e).lt
theorem HOk.fresh (x : HOk P w H h) (e : h.objs.size ≤ a) : H a = none := by
  cases q : H a with
  | none => rfl
  | some u => exact absurd (Nat.lt_of_lt_of_le (x.lt q) e) (Nat.lt_irrefl _)
/-- every object of the heap is kept -/
theorem HOk.kept (x : HOk P w H h) (k : ∀ b u, h.get? b = some u → h'.get? b = some u) : HOk P w H h' := fun a o e =>
  (x a o e).stay (fun b u _ q => k b u q) (fun _ q => q) fun _ _ q => q
/-- a new object is laid and tracked -/
theorem HOk.laid (x : HOk P w H h) (k : ∀ b u, h.get? b = some u → h'.get? b = some u) (hp : h.objs.size ≤ a) (new : ObjOk P w (upd H a o) h' a o) : HOk P w (upd H a o) h' := fun b u e => by
  have hn := x.fresh hp
  by_cases hb : b = a
  · subst hb; rw [upd_same] at e; cases e; exact new
  · rw [upd_ne hb] at e
    exact (x b u e).stay (fun c v _ q => k c v q) (fun c q => by rw [upd_ne (ne_of_none q hn)]; exact q) fun c xs q => by rw [upd_ne (ne_of_none q hn)]; exact q
end

/-- what may be read as u: it is u, or a known u -/
def Rd (H : Hp) (a : Addr) (u : HO) : Prop := H a = some u ∨ ∃ o, H a = some (.frz o u)
theorem Rd.of {H : Hp} {a : Addr} {u : HO} (h : H a = some u) : Rd H a u := .inl h
theorem Rd.ok {P : Program} {w : World} {H : Hp} {h : Heap} {a : Addr} {u : HO} (r : Rd H a u) (x : HOk P w H h) : ObjOk P w H h a u := by
  rcases r with r | ⟨o, r⟩
  · exact x a u r
  · obtain ⟨_, q⟩ := x a _ r
    exact q
/-- what may be written -/
def Mut : Option HO → Prop
  | some (.lst _) => True
  | some (.dK _) => True
  | some (.dT _) => True
  | some (.set _ _) => True
  | some (.ins _ _ _) => True
  | some (.ext _) => True
  | _ => False
section
variable {P : Program} {w : World} {H : Hp} {h h' : Heap} {x e : Addr} {o' : HO}
/-- the object at e is changed: x itself, or the dict of the instance x -/
theorem HOk.write (ok : HOk P w H h) (mu : Mut (H x)) (he : e = x ∨ H e = some (.own x)) (k : ∀ b u, b ≠ e → h.get? b = some u → h'.get? b = some u) (heo : ∃ u, h'.get? e = some u)
    (new : ObjOk P w (upd H x o') h' x o') : HOk P w (upd H x o') h' := fun b u q => by
  have nown : ∀ c y, H c = some (.own y) → c ≠ x := fun c y r z => by subst z; rw [r] at mu; exact mu
  have ntup : ∀ c xs, H c = some (.tup xs) → c ≠ x := fun c xs r z => by subst z; rw [r] at mu; exact mu
  by_cases hb : b = x
  · subst hb; rw [upd_same] at q; cases q; exact new
  · rw [upd_ne hb] at q
    by_cases hbe : b = e
    · have q' : H b = some (.own x) := by
        rcases he with z | z
        · exact absurd (hbe.trans z) hb
        · rw [hbe]; exact z
      rw [q] at q'; cases q'
      obtain ⟨v, hv⟩ := heo
      exact ⟨v, by rw [hbe]; exact hv⟩
    · refine (ok b u q).stay (fun c v hc r => k c v ?_ r) (fun c r => by rw [upd_ne (nown c b r)]; exact r) fun c xs r => by rw [upd_ne (ntup c xs r)]; exact r
      rcases hc with rfl | hc
      · exact hbe
      · rintro rfl
        rcases he with z | z
        · exact nown c b hc z
        · rw [hc] at z; cases z; exact hb rfl
end

/-! ### kept unless tracked; of the frames at fs (the callers') the slots may change (an exception that passes writes there); of the records at ex (iterators) nothing is said -/
structure Un (fs ex : List Addr) (H H' : Hp) (h h' : Heap) : Prop where
  keep : ∀ b o, h.get? b = some o → H b = none → b ∉ fs → b ∉ ex → h'.get? b = some o
  slot : ∀ b o, h.get? b = some o → H b = none → b ∈ fs → b ∉ ex → ∃ sl, h'.get? b = some { o with slots := sl }
  free : ∀ b o, h.get? b = some o → H b = none → b ∉ ex → H' b = none
  there : ∀ b o, h.get? b = some o → b ∉ ex → ∃ o', h'.get? b = some o'
  tups : ∀ b xs, H b = some (.tup xs) → H' b = some (.tup xs)
  frzs : ∀ b o u, H b = some (.frz o u) → H' b = some (.frz o u)
  tbls : ∀ b ps, H b = some (.tbl ps) → ∃ more, H' b = some (.tbl (ps ++ more))
section
variable {fs fs' ex ex' : List Addr} {H H1 H2 : Hp} {h h1 h2 h' : Heap} {a x e : Addr} {o : HO}
theorem Un.any (u : Un fs ex H H1 h h1) {b : Addr} {ob : Obj} (q : h.get? b = some ob) (n : H b = none) (hx : b ∉ ex) : ∃ sl, h1.get? b = some { ob with slots := sl } := by
  by_cases hb : b ∈ fs
  · exact u.slot b ob q n hb hx
  · exact ⟨ob.slots, u.keep b ob q n hb hx⟩
theorem Un.trans (a : Un fs ex H H1 h h1) (b : Un fs ex H1 H2 h1 h2) : Un fs ex H H2 h h2 where
  keep := fun c ob q n hc hx => b.keep c ob (a.keep c ob q n hc hx) (a.free c ob q n hx) hc hx
  slot := fun c ob q n hc hx => by
    obtain ⟨sl, e1⟩ := a.slot c ob q n hc hx
    obtain ⟨sl', e2⟩ := b.slot c _ e1 (a.free c ob q n hx) hc hx
    exact ⟨sl', e2⟩
  free := fun c ob q n hx => by
    obtain ⟨o', e1⟩ := a.there c ob q hx
    exact b.free c o' e1 (a.free c ob q n hx) hx
  there := fun c ob q hx => by
    obtain ⟨o', e1⟩ := a.there c ob q hx
    exact b.there c o' e1 hx
  tups := fun c xs q => b.tups c xs (a.tups c xs q)
  frzs := fun c ob xs q => b.frzs c ob xs (a.frzs c ob xs q)
  tbls := fun c ps q => by
    obtain ⟨m1, e1⟩ := a.tbls c ps q
    obtain ⟨m2, e2⟩ := b.tbls c _ e1
    exact ⟨m1 ++ m2, by rw [e2, Array.append_assoc]⟩
theorem Un.kept (k : ∀ b u, h.get? b = some u → h'.get? b = some u) : Un fs ex H H h h' :=
  ⟨fun b ob q _ _ _ => k b ob q, fun b ob q _ _ _ => ⟨ob.slots, k b ob q⟩, fun _ _ _ n _ => n, fun b ob q _ => ⟨ob, k b ob q⟩, fun _ _ q => q, fun _ _ _ q => q, fun _ ps q => ⟨#[], by rw [q]; simp⟩⟩
theorem Un.refl : Un fs ex H H h h := Un.kept fun _ _ q => q
theorem Un.laid (k : ∀ b u, h.get? b = some u → h'.get? b = some u) (hp : h.objs.size ≤ a) (hn : H a = none) : Un fs ex H (upd H a o) h h' where
  keep := fun b u q _ _ _ => k b u q
  slot := fun b u q _ _ _ => ⟨u.slots, k b u q⟩
  free := fun b u q n _ => by rw [upd_ne (Nat.ne_of_lt (Nat.lt_of_lt_of_le (Heap.lt_size q) hp))]; exact n
  there := fun b u q _ => ⟨u, k b u q⟩
  tups := fun b xs q => by rw [upd_ne (ne_of_none q hn)]; exact q
  frzs := fun b u xs q => by rw [upd_ne (ne_of_none q hn)]; exact q
  tbls := fun b ps q => ⟨#[], by rw [upd_ne (ne_of_none q hn), q]; simp⟩
theorem Un.write (mu : Mut (H x)) (he : e = x ∨ H e = some (.own x)) (k : ∀ b u, b ≠ e → h.get? b = some u → h'.get? b = some u) (heo : ∃ u, h'.get? e = some u) : Un fs ex H (upd H x o) h h' := by
  have hx : ∀ b, H b = none → b ≠ x := fun b n z => by subst z; rw [n] at mu; exact mu
  have hb : ∀ b, H b = none → b ≠ e := fun b n z => by
    subst z
    rcases he with r | r
    · exact hx b n r
    · rw [n] at r; cases r
  have hm : ∀ b u, H b = some u → ¬ Mut (some u) → b ≠ x := fun b u q nm z => by subst z; rw [q] at mu; exact nm mu
  refine ⟨fun b u q n _ _ => k b u (hb b n) q, fun b u q n _ _ => ⟨u.slots, k b u (hb b n) q⟩, fun b u q n _ => by rw [upd_ne (hx b n)]; exact n, fun b u q _ => ?_,
    fun b xs q => by rw [upd_ne (hm b _ q fun z => z)]; exact q, fun b u xs q => by rw [upd_ne (hm b _ q fun z => z)]; exact q, fun b ps q => ⟨#[], by rw [upd_ne (hm b _ q fun z => z), q]; simp⟩⟩
  by_cases hbe : b = e
  · subst hbe; exact heo
  · exact ⟨u, k b u hbe q⟩
theorem Un.mono (u : Un fs ex H H1 h h1) (hs : ∀ b ∈ fs, b ∈ fs') (hx : ∀ b ∈ ex, b ∈ ex') : Un fs' ex' H H1 h h1 :=
  ⟨fun b ob q n hb he => u.keep b ob q n (fun z => hb (hs b z)) fun z => he (hx b z), fun _ _ q n _ he => u.any q n fun z => he (hx _ z), fun b ob q n he => u.free b ob q n fun z => he (hx b z), fun b ob q he => u.there b ob q fun z => he (hx b z), u.tups, u.frzs, u.tbls⟩
end

/-! ### the heap without what is tracked -/
def trk (h : Heap) (H : Hp) : List Addr := (List.range h.objs.size).filter fun a => (H a).isSome
def hidT (h : Heap) (H : Hp) : Heap := PySem.W.hideAll h (trk h H)
theorem hidT_size (h : Heap) (H : Hp) : (hidT h H).objs.size = h.objs.size := PySem.W.hideAll_size _ _
theorem hidT_get {h : Heap} {H : Hp} {b : Addr} {o : Obj} (e : h.get? b = some o) (n : H b = none) : (hidT h H).get? b = some o :=
  PySem.W.hideAll_get _ e fun hm => by
    have q : (H b).isSome = true := (List.mem_filter.mp hm).2
    rw [n] at q; simp at q
theorem of_hidT {h : Heap} {H : Hp} {b : Addr} {o : Obj} (e : (hidT h H).get? b = some o) : h.get? b = some o ∧ H b = none := by
  have e' : h.get? b = some o := PySem.W.of_hideAll (trk h H) e
  refine ⟨e', ?_⟩
  cases q : H b with
  | none => rfl
  | some x =>
    have hm : b ∈ trk h H := List.mem_filter.mpr ⟨List.mem_range.mpr (Heap.lt_size e'), by simp [q]⟩
    have z : (hidT h H).get? b = none := PySem.W.hideAll_none (trk h H) hm
    rw [z] at e; cases e

/-! ### OpenK's ledger, filled with every new object but one -/
def allNews (g h : Heap) (L : Addr) : List (Addr × Obj) := (List.range h.objs.size).filterMap fun a => if a = L ∨ (g.get? a).isSome = true then none else (h.get? a).map fun o => (a, o)
def rest (g h : Heap) (L d : Addr) : List (Addr × Obj) := (allNews g h L).filter fun p => decide (p.1 ≠ d)
end L2

namespace L2
open PySem PySem.Spec PyProof.Rows

/-- the module's facts, over the base: the heap at the law's entry without what is tracked there -/
structure Mod (K : PySem.W.Frag) (mg : Str → Option Value) (base : Heap) : Prop where
  kin : K.In base
  glob : base.Ns mainGlobals mg
  blt : ∃ mb, base.Ns builtinsNs mb ∧ ∀ x : Str, x ≠ "__name__" → mb x = bootBuiltins x
  nolimit : base.NoLimit

/-- the context: a def's body (or a comprehension's block) running. base: fixed through the whole law; s₀, H₀: the entry; outer: the frames whose slots others may change (a def's callers); stack: all frames that run;
   ex: iterators that were made ahead of the entry and are walked here (a comprehension's); fn: the names whose cells were made at the entry (a def: all; a comprehension's block: its own); calm: not within an except suite; pn: pins that every state bears; xe: what is wanted of an exception that leaves the code -/
structure Cx where
  prog : Program
  w : World
  K : PySem.W.Frag
  mg : Str → Option Value
  base : Heap
  A : Around
  N : List Str
  s₀ : Shared
  H₀ : Hp
  env : Env
  outer : List Env
  stack : List Env
  ex : List Addr
  fn : Str → Bool
  calm : Bool
  pn : List (Addr × Obj)
  xe : Value → Shared → Prop
/-- the callers' frames -/
def frs (l : List Env) : List Addr := l.filterMap (·.frame)
abbrev Cx.fs (X : Cx) : List Addr := frs X.outer

def Vis (sc : Scope) (x : Str) : Prop := sc.names.lookup x = some .local ∨ sc.names.lookup x = some .cell ∨ sc.names.lookup x = some .free
def Loc (sc : Scope) (x : Str) : Prop := sc.names.lookup x = some .local ∨ sc.names.lookup x = some .cell
def Look (env : Env) (h : Heap) (m : Str → Option Value) (x : Str) (u : Value) : Prop :=
  (env.kindOf x = some .local ∧ m x = some u) ∨ ((env.kindOf x = some .cell ∨ env.kindOf x = some .free) ∧ ∃ c, env.cells.lookup x = some c ∧ h.IsCell c (some u))

structure Cx.Ok (X : Cx) : Prop where
  mod : Mod X.K X.mg X.base
  kind : X.env.scope.kind = .function
  glob : X.env.globals = mainGlobals
  blt : X.env.builtins = builtinsNs
  above : X.s₀.heap.objs.size ≤ X.env.locals
  inj : ∀ x y c, X.env.cells.lookup x = some c → X.env.cells.lookup y = some c → x = y
  has : ∀ x, (X.env.kindOf x = some .cell ∨ X.env.kindOf x = some .free) → ∃ c, X.env.cells.lookup x = some c
  cab : ∀ x c, X.fn x = true → X.env.cells.lookup x = some c → X.s₀.heap.objs.size ≤ c
  hd : X.calm = true → X.A.handled = none
  frames : X.A.frames = some X.stack
  stk : X.stack = X.outer ∨ (X.stack = X.env :: X.outer ∧ X.env.frame = some X.env.locals)
  exf : ∀ b ∈ X.ex, b ≠ X.env.locals ∧ ∀ x c, X.env.cells.lookup x = some c → c ≠ b
  bs : ∀ b o, X.base.get? b = some o → X.s₀.heap.get? b = some o ∧ X.H₀ b = none
  bsz : X.base.objs.size ≤ X.s₀.heap.objs.size
  noex : ∀ b o, X.base.get? b = some o → b ∉ X.ex
  exfs : ∀ b ∈ X.ex, b ∉ X.fs
  funs : X.s₀.heap.FunFrames X.base X.outer
  frf : ∀ b ∈ X.fs, X.H₀ b = none

structure Inv (X : Cx) (pins : List (Addr × Obj)) (σ : List (Option V)) (H : Hp) (s : Shared) : Prop where
  ok : X.Ok
  os : s.os = X.s₀.os
  bare : AllBare s.gens
  base : Un X.fs X.ex X.H₀ H X.s₀.heap s.heap
  loc : ∃ m, s.heap.Ns X.env.locals m ∧ ∀ (i : Nat) (x : Str) (v : V), X.N[i]? = some x → σ[i]? = some (some v) → Vis X.env.scope x → ∃ u, RelV v u ∧ Look X.env s.heap m x u
  cell : ∀ x c, X.env.cells.lookup x = some c → ∃ v, s.heap.IsCell c v
  free : H X.env.locals = none
  freeC : ∀ x c, X.env.cells.lookup x = some c → H c = none
  pin : ∀ p ∈ X.pn ++ pins, s.heap.get? p.1 = some p.2 ∧ H p.1 = none ∧ p.1 ≠ X.env.locals ∧ p.1 ∉ X.fs ∧ ∀ v, p.2.data ≠ .cell v
  hok : HOk X.prog X.w H s.heap
  len : σ.length = X.N.length

section
variable {X : Cx} {pins : List (Addr × Obj)} {σ : List (Option V)} {H H' : Hp} {s : Shared} {h' : Heap}

theorem Cx.Ok.nofr (ok : X.Ok) {b : Addr} {o : Obj} (e : X.base.get? b = some o) : b ∉ X.fs := fun hb => by
  have := (ok.funs.mem hb).1
  rw [e] at this; cases this
theorem Inv.bs (I : Inv X pins σ H s) : ∀ b o, X.base.get? b = some o → s.heap.get? b = some o ∧ H b = none := fun b o e =>
  ⟨I.base.keep b o (I.ok.bs b o e).1 (I.ok.bs b o e).2 (I.ok.nofr e) (I.ok.noex b o e), I.base.free b o (I.ok.bs b o e).1 (I.ok.bs b o e).2 (I.ok.noex b o e)⟩
theorem Inv.bk (I : Inv X pins σ H s) : ∀ b o, X.base.get? b = some o → s.heap.get? b = some o := fun b o e => (I.bs b o e).1
theorem Inv.mod (I : Inv X pins σ H s) : Mod X.K X.mg X.base := I.ok.mod
theorem Inv.kIn (I : Inv X pins σ H s) : X.K.In s.heap := I.ok.mod.kin.keeps I.bk
theorem Inv.nolimit (I : Inv X pins σ H s) : s.heap.NoLimit := I.ok.mod.nolimit.keeps I.bk
theorem Inv.lt (I : Inv X pins σ H s) : X.env.locals < s.heap.objs.size := let ⟨_, hn, _⟩ := I.loc; hn.lt
theorem Inv.sz (I : Inv X pins σ H s) : X.s₀.heap.objs.size ≤ s.heap.objs.size := Nat.le_trans I.ok.above (Nat.le_of_lt I.lt)
theorem Inv.nofs (I : Inv X pins σ H s) {a : Addr} (h : s.heap.objs.size ≤ a) : a ∉ X.fs := fun hb => by
  obtain ⟨_, o, ho, _⟩ := I.ok.funs.mem hb
  exact absurd (Nat.lt_of_lt_of_le (Heap.lt_size ho) (Nat.le_trans I.sz h)) (Nat.lt_irrefl _)
theorem Inv.cne (I : Inv X pins σ H s) : ∀ x c, X.env.cells.lookup x = some c → c ≠ X.env.locals := fun x c e z => by
  obtain ⟨v, o, ho, hd⟩ := I.cell x c e
  obtain ⟨m, ⟨o', es, ep, ho', hd', _⟩, _⟩ := I.loc
  rw [z, ho'] at ho; cases ho; rw [hd'] at hd; cases hd
theorem Inv.funs (I : Inv X pins σ H s) : s.heap.FunFrames X.base X.outer := by
  have all : ∀ (l : List Env), (∀ b ∈ frs l, b ∈ X.fs) → X.s₀.heap.FunFrames X.base l → s.heap.FunFrames X.base l := by
    intro l
    induction l with
    | nil => intro _ _; trivial
    | cons env r ih =>
      intro hs hl
      obtain ⟨hk, ⟨L, o, hf, hn, ho, hd⟩, hr⟩ := hl
      have hL : L ∈ X.fs := hs L (by unfold frs; rw [List.filterMap_cons, hf]; exact List.mem_cons_self)
      obtain ⟨sl, e⟩ := I.base.slot L o ho (I.ok.frf L hL) hL fun z => I.ok.exfs L z hL
      exact ⟨hk, ⟨L, _, hf, hn, e, hd⟩, ih (fun b hb => hs b (by unfold frs; rw [List.filterMap_cons, hf]; exact List.mem_cons_of_mem _ hb)) hr⟩
  exact all X.outer (fun _ hb => hb) I.ok.funs

/-- the frames that run, for a call -/
theorem Inv.stack (I : Inv X pins σ H s) : s.heap.FunFrames X.base X.stack := by
  rcases I.ok.stk with e | ⟨e, hf⟩
  · rw [e]; exact I.funs
  · rw [e]
    obtain ⟨m, hn, _⟩ := I.loc
    refine .cons (by rw [I.ok.kind]; decide) hf hn ?_ I.funs
    exact Heap.get?_none_of_le (Nat.le_trans I.ok.bsz I.ok.above)
theorem Inv.stkSub (I : Inv X pins σ H s) : ∀ b ∈ frs X.stack, b ∈ X.env.locals :: X.fs := fun b hb => by
  rcases I.ok.stk with e | ⟨e, hf⟩
  · rw [e] at hb; exact List.mem_cons_of_mem _ hb
  · rw [e] at hb
    unfold frs at hb
    rw [List.filterMap_cons, hf] at hb
    exact hb
theorem Inv.stkFree (I : Inv X pins σ H s) : ∀ b ∈ frs X.stack, H b = none := fun b hb => by
  rcases List.mem_cons.mp (I.stkSub b hb) with e | hb
  · rw [e]; exact I.free
  · obtain ⟨_, o, ho, _⟩ := I.ok.funs.mem hb
    exact I.base.free b o ho (I.ok.frf b hb) fun z => I.ok.exfs b z hb

/-- THE STEP: the untracked objects but the frame and the records at ch are kept (the callers' frames up to slots), the frame's map is kept, the new abstract heap is held -/
theorem Inv.step {g' : Array GenState} {t' : Nat} {d' : Drawn} {ch : List Addr} (I : Inv X pins σ H s)
    (hch : ∀ b ∈ ch, (b ∈ X.ex ∨ X.s₀.heap.objs.size ≤ b) ∧ b ≠ X.env.locals ∧ (∀ x c, X.env.cells.lookup x = some c → c ≠ b) ∧ ∀ p ∈ X.pn ++ pins, p.1 ≠ b)
    (keep : ∀ b o, b ≠ X.env.locals → b ∉ X.fs → b ∉ ch → s.heap.get? b = some o → H b = none → h'.get? b = some o)
    (slot : ∀ b o, b ≠ X.env.locals → b ∈ X.fs → b ∉ ch → s.heap.get? b = some o → H b = none → ∃ sl, h'.get? b = some { o with slots := sl }) (free : ∀ b o, b ∉ ch → s.heap.get? b = some o → H b = none → H' b = none)
    (there : ∀ b o, b ∉ ch → s.heap.get? b = some o → ∃ o', h'.get? b = some o')
    (tups : ∀ b xs, H b = some (.tup xs) → H' b = some (.tup xs)) (frzs : ∀ b o u, H b = some (.frz o u) → H' b = some (.frz o u)) (tbls : ∀ b ps, H b = some (.tbl ps) → ∃ more, H' b = some (.tbl (ps ++ more)))
    (ns : ∀ m, s.heap.Ns X.env.locals m → h'.Ns X.env.locals m) (hok : HOk X.prog X.w H' h') (hg : AllBare g') :
    Inv X pins σ H' { s with heap := h', gens := g', drawn := d', toks := t' } := by
  have neL : ∀ b o, X.s₀.heap.get? b = some o → b ≠ X.env.locals := fun b o e => Nat.ne_of_lt (Nat.lt_of_lt_of_le (Heap.lt_size e) I.ok.above)
  have neC : ∀ b o, X.s₀.heap.get? b = some o → b ∉ X.ex → b ∉ ch := fun b o e hx hb => by
    rcases (hch b hb).1 with z | z
    · exact hx z
    · exact absurd (Nat.lt_of_lt_of_le (Heap.lt_size e) z) (Nat.lt_irrefl _)
  have cellK : ∀ x c, X.env.cells.lookup x = some c → ∀ v, s.heap.IsCell c v → h'.IsCell c v := fun x c e v ⟨o, ho, hd⟩ => by
    have nch : c ∉ ch := fun z => (hch c z).2.2.1 x c e rfl
    by_cases hc : c ∈ X.fs
    · obtain ⟨sl, q⟩ := slot c o (I.cne x c e) hc nch ho (I.freeC x c e)
      exact ⟨_, q, hd⟩
    · exact ⟨o, keep c o (I.cne x c e) hc nch ho (I.freeC x c e), hd⟩
  refine ⟨I.ok, I.os, hg, ⟨fun b o e n hb hx => ?_, fun b o e n hb hx => ?_, fun b o e n hx => ?_, fun b o e hx => ?_, fun b xs e => tups b xs (I.base.tups b xs e), fun b o xs e => frzs b o xs (I.base.frzs b o xs e), fun b ps e => ?_⟩, ?_, fun x c e => ?_, ?_, fun x c e => ?_, fun p hp => ?_, hok, I.len⟩
  · exact keep b o (neL b o e) hb (neC b o e hx) (I.base.keep b o e n hb hx) (I.base.free b o e n hx)
  · obtain ⟨sl, e1⟩ := I.base.slot b o e n hb hx
    obtain ⟨sl', e2⟩ := slot b _ (neL b o e) hb (neC b o e hx) e1 (I.base.free b o e n hx)
    exact ⟨sl', e2⟩
  · obtain ⟨o', e1⟩ := I.base.there b o e hx
    exact free b o' (neC b o e hx) e1 (I.base.free b o e n hx)
  · obtain ⟨o', e1⟩ := I.base.there b o e hx
    exact there b o' (neC b o e hx) e1
  · obtain ⟨m1, e1⟩ := I.base.tbls b ps e
    obtain ⟨m2, e2⟩ := tbls b _ e1
    exact ⟨m1 ++ m2, by rw [e2, Array.append_assoc]⟩
  · obtain ⟨m, hn, hl⟩ := I.loc
    refine ⟨m, ns m hn, fun i x v e1 e2 e3 => ?_⟩
    obtain ⟨u, r, l⟩ := hl i x v e1 e2 e3
    refine ⟨u, r, ?_⟩
    rcases l with l | ⟨k, c, e, z⟩
    · exact .inl l
    · exact .inr ⟨k, c, e, cellK x c e _ z⟩
  · obtain ⟨v, z⟩ := I.cell x c e
    exact ⟨v, cellK x c e v z⟩
  · obtain ⟨m, ⟨o, _, _, ho, _⟩, _⟩ := I.loc
    exact free _ o (fun z => (hch _ z).2.1 rfl) ho I.free
  · obtain ⟨v, o, ho, hd⟩ := I.cell x c e
    exact free c o (fun z => (hch c z).2.2.1 x c e rfl) ho (I.freeC x c e)
  · obtain ⟨e, n, ne, nf, d⟩ := I.pin p hp
    have nch : p.1 ∉ ch := fun z => (hch p.1 z).2.2.2 p hp rfl
    exact ⟨keep p.1 p.2 ne nf nch e n, free p.1 p.2 nch e n, ne, nf, d⟩
/-- .. where the frame's own object is kept too -/
theorem Inv.un {t' : Nat} (I : Inv X pins σ H s) (u : Un X.fs [] H H' s.heap h') (hok : HOk X.prog X.w H' h') : Inv X pins σ H' { s with heap := h', toks := t' } := by
  obtain ⟨m, ⟨o, es, ep, ho, r⟩, _⟩ := id I.loc
  obtain ⟨sl, hL⟩ := u.any ho I.free (by simp)
  exact I.step (g' := s.gens) (d' := s.drawn) (ch := []) (fun _ z => nomatch z) (fun b o _ hb _ e n => u.keep b o e n hb (by simp)) (fun b o _ hb _ e n => u.slot b o e n hb (by simp)) (fun b o _ e n => u.free b o e n (by simp)) (fun b o _ e => u.there b o e (by simp)) u.tups u.frzs u.tbls (fun m' hm => by
    obtain ⟨o', es', ep', ho', r'⟩ := hm
    rw [ho] at ho'; cases ho'
    exact ⟨_, es', ep', hL, r'⟩) hok I.bare
/-- behind a call (or a comprehension's block): the slots of this frame may have changed too, the records at ch may have turned -/
theorem Inv.call {g' : Array GenState} {t' : Nat} {d' : Drawn} {ch : List Addr} (I : Inv X pins σ H s) (u : Un (frs X.stack) ch H H' s.heap h') (hok : HOk X.prog X.w H' h') (hg : AllBare g')
    (hch : ∀ b ∈ ch, (b ∈ X.ex ∨ X.s₀.heap.objs.size ≤ b) ∧ b ≠ X.env.locals ∧ (∀ x c, X.env.cells.lookup x = some c → c ≠ b) ∧ ∀ p ∈ X.pn ++ pins, p.1 ≠ b) :
    Inv X pins σ H' { s with heap := h', gens := g', drawn := d', toks := t' } := by
  obtain ⟨m, ⟨o, es, ep, ho, r⟩, _⟩ := id I.loc
  obtain ⟨sl, hL⟩ := u.any ho I.free fun z => (hch _ z).2.1 rfl
  exact I.step (ch := ch) hch (fun b o hL hb hc e n => u.keep b o e n (fun z => (List.mem_cons.mp (I.stkSub b z)).elim hL hb) hc) (fun b o _ _ hc e n => u.any e n hc) (fun b o hc e n => u.free b o e n hc) (fun b o hc e => u.there b o e hc) u.tups u.frzs u.tbls (fun m' hm => by
    obtain ⟨o', es', ep', ho', r'⟩ := hm
    rw [ho] at ho'; cases ho'
    exact ⟨_, es', ep', hL, r'⟩) hok hg
/-- an untracked record of ours (an iterator) has turned -/
theorem Inv.turned {t' : Nat} {it : Addr} (I : Inv X pins σ H s) (k : ∀ b o, b ≠ it → s.heap.get? b = some o → h'.get? b = some o) (hn : H it = none) (hL : it ≠ X.env.locals)
    (h1 : it ∈ X.ex ∨ X.s₀.heap.objs.size ≤ it) (h2 : ∀ x c, X.env.cells.lookup x = some c → c ≠ it) (h3 : ∀ p ∈ X.pn ++ pins, p.1 ≠ it) : Inv X pins σ H { s with heap := h', toks := t' } := by
  have nit : ∀ b u, H b = some u → b ≠ it := fun b u e z => by rw [z, hn] at e; cases e
  refine I.step (g' := s.gens) (d' := s.drawn) (ch := [it]) (fun b hb => ?_) (fun b o _ _ hc e _ => k b o (fun z => hc (by simp [z])) e) (fun b o _ _ hc e _ => ⟨o.slots, k b o (fun z => hc (by simp [z])) e⟩) (fun _ _ _ _ n => n)
    (fun b o hc e => ⟨o, k b o (fun z => hc (by simp [z])) e⟩) (fun _ _ e => e) (fun _ _ _ e => e) (fun b ps e => ⟨#[], by rw [e]; simp⟩) (fun m hm => ?_) (fun b u e => ?_) I.bare
  · have e : b = it := by simpa using hb
    subst e
    exact ⟨h1, hL, h2, h3⟩
  · obtain ⟨o, es, ep, ho, r⟩ := hm
    exact ⟨o, es, ep, k _ o (Ne.symm hL) ho, r⟩
  · refine (I.hok b u e).stay (fun c v hc q => k c v ?_ q) (fun _ q => q) fun _ _ q => q
    rcases hc with z | z
    · rw [z]; exact nit b u e
    · exact nit c _ z
theorem Inv.tok (I : Inv X pins σ H s) (t : Nat) : Inv X pins σ H { s with toks := t } := I.un (h' := s.heap) (t' := t) Un.refl I.hok
/-- all objects kept -/
theorem Inv.kept {t' : Nat} (I : Inv X pins σ H s) (k : ∀ b u, s.heap.get? b = some u → h'.get? b = some u) : Inv X pins σ H { s with heap := h', toks := t' } := I.un (Un.kept k) (I.hok.kept k)
/-- a new object laid and tracked -/
theorem Inv.laid {a : Addr} {o : HO} {t' : Nat} (I : Inv X pins σ H s) (k : ∀ b u, s.heap.get? b = some u → h'.get? b = some u) (hp : s.heap.objs.size ≤ a) (new : ObjOk X.prog X.w (upd H a o) h' a o) :
    Inv X pins σ (upd H a o) { s with heap := h', toks := t' } := I.un (Un.laid k hp (I.hok.fresh hp)) (I.hok.laid k hp new)
/-- an object written -/
theorem Inv.write {x e : Addr} {o : HO} {t' : Nat} (I : Inv X pins σ H s) (mu : Mut (H x)) (he : e = x ∨ H e = some (.own x)) (k : ∀ b u, b ≠ e → s.heap.get? b = some u → h'.get? b = some u) (heo : ∃ u, h'.get? e = some u)
    (new : ObjOk X.prog X.w (upd H x o) h' x o) : Inv X pins σ (upd H x o) { s with heap := h', toks := t' } := I.un (Un.write mu he k heo) (I.hok.write mu he k heo new)
/-- forgetting slots, pins -/
theorem Inv.weak {σ' : List (Option V)} (I : Inv X pins σ H s) (hl : σ'.length = σ.length) (w : ∀ (i : Nat) v, σ'[i]? = some (some v) → σ[i]? = some (some v)) : Inv X pins σ' H s :=
  ⟨I.ok, I.os, I.bare, I.base, let ⟨m, hn, hl'⟩ := I.loc; ⟨m, hn, fun i x v e1 e2 e3 => hl' i x v e1 (w i v e2) e3⟩, I.cell, I.free, I.freeC, I.pin, I.hok, hl.trans I.len⟩
theorem Inv.pins_of {pins' : List (Addr × Obj)} (I : Inv X pins σ H s) (h : ∀ p ∈ pins', s.heap.get? p.1 = some p.2 ∧ H p.1 = none ∧ p.1 ≠ X.env.locals ∧ p.1 ∉ X.fs ∧ ∀ v, p.2.data ≠ .cell v) : Inv X pins' σ H s :=
  ⟨I.ok, I.os, I.bare, I.base, I.loc, I.cell, I.free, I.freeC, fun p hp => (List.mem_append.mp hp).elim (fun z => I.pin p (List.mem_append_left _ z)) (h p), I.hok, I.len⟩

theorem nodup_ix {N : List Str} (hN : N.Nodup) {i j : Nat} {x : Str} (a : N[i]? = some x) (b : N[j]? = some x) : i = j := by
  obtain ⟨h1, e1⟩ := List.getElem?_eq_some_iff.mp a
  obtain ⟨h2, e2⟩ := List.getElem?_eq_some_iff.mp b
  exact (List.getElem_inj hN).mp (e1.trans e2.symm)

/-- a name is stored; what changed -/
theorem store_ok2 {M : Model} {A : Around} {E : Value → Shared → Prop} {i : Nat} {x : Str} {v : V} {u : Value} {Q : Unit → Shared → Prop} (I : Inv X pins σ H s) (hN : X.N.Nodup) (hi : X.N[i]? = some x) (hx : Loc X.env.scope x) (r : RelV v u)
    (h : ∀ s', Inv X pins (σ.set i (some v)) H s' → (∃ a, Heap.SameBut a s.heap s'.heap ∧ (a = X.env.locals ∨ X.env.cells.lookup x = some a)) → Q () s') (hf : X.fn x = true ∨ X.env.scope.names.lookup x = some .local := by first | exact .inl rfl | exact .inr rfl | assumption) : wpAny M A (storeName X.env x u) Q E s := by
  obtain ⟨m, hn, hl⟩ := id I.loc
  have hcls : (X.env.scope.kind == .class || (X.env.scope.kind == .module && X.env.locals != X.env.globals)) = false := by rw [I.ok.kind]; rfl
  have hiσ : i < σ.length := by rw [I.len]; exact (List.getElem?_eq_some_iff.mp hi).1
  have cne := I.cne
  have tracked : ∀ {a : Addr} {h' : Heap}, (∃ o, s.heap.get? a = some o ∧ H a = none) → Heap.SameBut a s.heap h' → HOk X.prog X.w H h' := fun {a h'} ha hs b ob e => by
    obtain ⟨_, _, hfree⟩ := ha
    refine (I.hok b ob e).stay (fun c w' hc q => (hs.2 c ?_).trans q) (fun _ q => q) fun _ _ q => q
    rintro rfl
    rcases hc with rfl | hc
    · rw [hfree] at e; cases e
    · rw [hfree] at hc; cases hc
  rcases hx with hk | hk
  · refine wpAny_storeName_local hk hn (fun h' hn' hs => ?_) hcls
    obtain ⟨oL, _, _, hoL, _⟩ := id hn
    refine h _ ⟨I.ok, I.os, I.bare, ⟨fun b o e n hb hx => ?_, fun b o e n hb hx => ?_, I.base.free, fun b o e hx => ?_, I.base.tups, I.base.frzs, I.base.tbls⟩, ⟨_, hn', fun j y v' e1 e2 e3 => ?_⟩, fun y c e => ?_, I.free, I.freeC, fun p hp => ?_, tracked ⟨oL, hoL, I.free⟩ hs, by simpa using I.len⟩ ⟨_, hs, .inl rfl⟩
    · exact (hs.2 b (Nat.ne_of_lt (Nat.lt_of_lt_of_le (Heap.lt_size e) I.ok.above))).trans (I.base.keep b o e n hb hx)
    · obtain ⟨sl, e1⟩ := I.base.slot b o e n hb hx
      exact ⟨sl, (hs.2 b (Nat.ne_of_lt (Nat.lt_of_lt_of_le (Heap.lt_size e) I.ok.above))).trans e1⟩
    · obtain ⟨o', e1⟩ := I.base.there b o e hx
      exact ⟨o', (hs.2 b (Nat.ne_of_lt (Nat.lt_of_lt_of_le (Heap.lt_size e) I.ok.above))).trans e1⟩
    · by_cases hj : j = i
      · subst hj
        rw [hi] at e1; cases e1
        rw [List.getElem?_set_self hiσ] at e2
        cases e2
        exact ⟨u, r, .inl ⟨hk, by simp⟩⟩
      · rw [List.getElem?_set_ne (Ne.symm hj)] at e2
        obtain ⟨u', r', q⟩ := hl j y v' e1 e2 e3
        refine ⟨u', r', ?_⟩
        rcases q with ⟨k, e⟩ | ⟨k, c, e, z⟩
        · refine .inl ⟨k, ?_⟩
          have : y ≠ x := fun e => hj (nodup_ix hN e1 (e ▸ hi))
          simp [this, e]
        · exact .inr ⟨k, c, e, z.sameBut hs (cne y c e)⟩
    · obtain ⟨w', z⟩ := I.cell y c e
      exact ⟨w', z.sameBut hs (cne y c e)⟩
    · obtain ⟨e, n, ne, nf, d⟩ := I.pin p hp
      exact ⟨(hs.2 p.1 ne).trans e, n, ne, nf, d⟩
  · have hfn : X.fn x = true := by
      rcases hf with z | z
      · exact z
      · rw [z] at hk; cases hk
    obtain ⟨c, hc⟩ := I.ok.has x (.inl hk)
    obtain ⟨w', z⟩ := I.cell x c hc
    refine wpAny_storeName_cell I.ok.kind hk hc z (fun h' hc' hs => ?_)
    obtain ⟨oc, hoc, hocd⟩ := id z
    refine h { s with heap := h' } ⟨I.ok, I.os, I.bare, ⟨fun b o e n hb hx => ?_, fun b o e n hb hx => ?_, I.base.free, fun b o e hx => ?_, I.base.tups, I.base.frzs, I.base.tbls⟩, ⟨m, hn.sameBut hs (Ne.symm (cne x c hc)), fun j y v' e1 e2 e3 => ?_⟩, fun y c' e => ?_, I.free, I.freeC, fun p hp => ?_, tracked ⟨oc, hoc, I.freeC x c hc⟩ hs, by simpa using I.len⟩ ⟨c, hs, .inr hc⟩
    · exact (hs.2 b (Nat.ne_of_lt (Nat.lt_of_lt_of_le (Heap.lt_size e) (I.ok.cab x c hfn hc)))).trans (I.base.keep b o e n hb hx)
    · obtain ⟨sl, e1⟩ := I.base.slot b o e n hb hx
      exact ⟨sl, (hs.2 b (Nat.ne_of_lt (Nat.lt_of_lt_of_le (Heap.lt_size e) (I.ok.cab x c hfn hc)))).trans e1⟩
    · obtain ⟨o', e1⟩ := I.base.there b o e hx
      exact ⟨o', (hs.2 b (Nat.ne_of_lt (Nat.lt_of_lt_of_le (Heap.lt_size e) (I.ok.cab x c hfn hc)))).trans e1⟩
    · by_cases hj : j = i
      · subst hj
        rw [hi] at e1; cases e1
        rw [List.getElem?_set_self hiσ] at e2
        cases e2
        exact ⟨u, r, .inr ⟨.inl hk, c, hc, hc'⟩⟩
      · rw [List.getElem?_set_ne (Ne.symm hj)] at e2
        obtain ⟨u', r', q⟩ := hl j y v' e1 e2 e3
        refine ⟨u', r', ?_⟩
        rcases q with q | ⟨k, c', e, z'⟩
        · exact .inl q
        · refine .inr ⟨k, c', e, z'.sameBut hs ?_⟩
          rintro rfl
          exact hj (nodup_ix hN e1 (I.ok.inj _ _ _ e hc ▸ hi))
    · by_cases hcc : c' = c
      · subst hcc; exact ⟨_, hc'⟩
      · obtain ⟨w2, z2⟩ := I.cell y c' e
        exact ⟨w2, z2.sameBut hs hcc⟩
    · obtain ⟨e, n, ne, nf, d⟩ := I.pin p hp
      refine ⟨(hs.2 p.1 ?_).trans e, n, ne, nf, d⟩
      intro q
      rw [q, hoc] at e
      have q' : oc = p.2 := Option.some.inj e
      exact d w' (by rw [← q']; exact hocd)
theorem store_ok {M : Model} {A : Around} {E : Value → Shared → Prop} {i : Nat} {x : Str} {v : V} {u : Value} {Q : Unit → Shared → Prop} (I : Inv X pins σ H s) (hN : X.N.Nodup) (hi : X.N[i]? = some x) (hx : Loc X.env.scope x) (r : RelV v u)
    (h : ∀ s', Inv X pins (σ.set i (some v)) H s' → Q () s') (hf : X.fn x = true ∨ X.env.scope.names.lookup x = some .local := by first | exact .inl rfl | exact .inr rfl | assumption) : wpAny M A (storeName X.env x u) Q E s :=
  store_ok2 I hN hi hx r (fun s' I' _ => h s' I') hf
/-- behind a call or a block, the state as it is -/
theorem Inv.call' {s' : Shared} {ch : List Addr} (I : Inv X pins σ H s) (ho : s'.os = s.os) (u : Un (frs X.stack) ch H H' s.heap s'.heap) (hok : HOk X.prog X.w H' s'.heap) (hg : AllBare s'.gens)
    (hch : ∀ b ∈ ch, (b ∈ X.ex ∨ X.s₀.heap.objs.size ≤ b) ∧ b ≠ X.env.locals ∧ (∀ x c, X.env.cells.lookup x = some c → c ≠ b) ∧ ∀ p ∈ X.pn ++ pins, p.1 ≠ b) : Inv X pins σ H' s' := by
  obtain ⟨h', g', d', t', o'⟩ := s'
  have e : o' = s.os := ho
  subst e
  exact I.call (g' := g') (t' := t') (d' := d') u hok hg hch
end

/-! ### the judgements -/
/-- an exception: its class, its own dict's address (where it has one), the abstract heap behind it -/
abbrev XK := Value → Option Addr → Hp → Prop
abbrev St := List (Option V)
abbrev VK := V → Hp → Prop
/-- an expression's reading; a test's; an argument list's -/
abbrev TE := St → Hp → VK → Prop
abbrev TT := St → Hp → (Bool → Hp → Prop) → Prop
abbrev TA := St → Hp → (List V → Hp → Prop) → Prop
/-- what is wanted behind a statement -/
structure Ends where
  nx : St → Hp → Prop
  rt : VK
  bk : St → Hp → Prop := fun _ _ => False
  ct : St → Hp → Prop := fun _ _ => False
abbrev TS := Ends → St → Hp → Prop

def EP (X : Cx) (pins : List (Addr × Obj)) (σ : St) (Q : VK) (u : Value) (s' : Shared) : Prop := ∃ v H', Inv X pins σ H' s' ∧ RelV v u ∧ Q v H'
def TP (X : Cx) (pins : List (Addr × Obj)) (σ : St) (Q : Bool → Hp → Prop) (b : Bool) (s' : Shared) : Prop := ∃ H', Inv X pins σ H' s' ∧ Q b H'
def AP (X : Cx) (pins : List (Addr × Obj)) (σ : St) (Q : List V → Hp → Prop) (us : List Value) (s' : Shared) : Prop := ∃ vs H', Inv X pins σ H' s' ∧ Vals vs us ∧ Q vs H'
def SP (X : Cx) (pins : List (Addr × Obj)) (D : Ends) (f : Flow) (s' : Shared) : Prop :=
  match f with
  | .next => ∃ σ' H', Inv X pins σ' H' s' ∧ D.nx σ' H'
  | .brk => ∃ σ' H', Inv X pins σ' H' s' ∧ D.bk σ' H'
  | .cont => ∃ σ' H', Inv X pins σ' H' s' ∧ D.ct σ' H'
  | .ret u => ∃ v σ' H', Inv X pins σ' H' s' ∧ RelV v u ∧ D.rt v H'

def PE (X : Cx) (e : Expr) (t : TE) : Prop :=
  ∀ (pins : List (Addr × Obj)) (s : Shared) (σ : St) (H : Hp) (Q : VK), Inv X pins σ H s → t σ H Q → wpAny (model X.prog X.w) X.A (eval e X.env) (EP X pins σ Q) X.xe s
def PT (X : Cx) (e : Expr) (t : TT) : Prop :=
  ∀ (pins : List (Addr × Obj)) (s : Shared) (σ : St) (H : Hp) (Q : Bool → Hp → Prop), Inv X pins σ H s → t σ H Q → wpAny (model X.prog X.w) X.A (isTrue e X.env (eval e X.env)) (TP X pins σ Q) X.xe s
/-- a test whatever its 'whole' is (and, or) -/
def PW (X : Cx) (e : Expr) (t : TT) : Prop :=
  ∀ (whole : Sem Value) (pins : List (Addr × Obj)) (s : Shared) (σ : St) (H : Hp) (Q : Bool → Hp → Prop), Inv X pins σ H s → t σ H Q → wpAny (model X.prog X.w) X.A (isTrue e X.env whole) (TP X pins σ Q) X.xe s
theorem PW.pt {X : Cx} {e : Expr} {t : TT} (h : PW X e t) : PT X e t := h _
/-- an argument list (no star), from the left -/
def PA (X : Cx) (es : List Expr) (t : TA) : Prop :=
  ∀ (pos : Pos) (pins : List (Addr × Obj)) (s : Shared) (σ : St) (H : Hp) (Q : List V → Hp → Prop), Inv X pins σ H s → t σ H Q → wpAny (model X.prog X.w) X.A (spliced (backTo pos (starEach es X.env))) (AP X pins σ Q) X.xe s
def PS (X : Cx) (st : Stmt) (t : TS) : Prop :=
  ∀ (pins : List (Addr × Obj)) (s : Shared) (σ : St) (H : Hp) (D : Ends), Inv X pins σ H s → t D σ H → wpAny (model X.prog X.w) X.A (exec st X.env) (SP X pins D) X.xe s
def PSs (X : Cx) (st : List Stmt) (t : TS) : Prop :=
  ∀ (pins : List (Addr × Obj)) (s : Shared) (σ : St) (H : Hp) (D : Ends), Inv X pins σ H s → t D σ H → wpAny (model X.prog X.w) X.A (execs st X.env) (SP X pins D) X.xe s
/-- weaken the end -/
theorem thn {α : Type} {t : Sem α} {Q Q' : α → Shared → Prop} {M : Model} {A : Around} {E : Value → Shared → Prop} {s : Shared} (h : wpAny M A t Q E s) (hQ : ∀ a s, Q a s → Q' a s) : wpAny M A t Q' E s := wpAny_mono h hQ fun _ _ x => x
end L2

namespace L2
open PySem PySem.Spec PyProof.Rows
section
variable {X : Cx}

/-! ### names and constants -/
def tVar (i : Nat) : TE := fun σ H Q => ∃ v, σ[i]? = some (some v) ∧ Q v H
def tC (v : V) : TE := fun _ H Q => Q v H
theorem pe_var {i : Nat} {x : Str} {pos : Pos} (hN : X.N[i]? = some x) (hv : Vis X.env.scope x) (hd : (x == ("__debug__" : Str)) = false := by decide) (hcd : (x == ("__classdict__" : Str)) = false := by decide) : PE X (.Name x pos) (tVar i) := by
  intro pins s σ H Q I h
  obtain ⟨v, e, h⟩ := h
  obtain ⟨m, hn, hl⟩ := I.loc
  obtain ⟨u, r, l⟩ := hl i x v hN e hv
  have fin : EP X pins σ Q u s := ⟨v, H, I, r, h⟩
  rcases l with ⟨hk, hm⟩ | ⟨hk, c, hc, hcell⟩
  · exact wpAny_Name (wpAny_loadName_local I.ok.kind hk hn hm fin) hd
  · rcases hk with hk | hk
    · exact wpAny_Name (wpAny_loadName_cell I.ok.kind hk hc hcell fin) hd
    · exact wpAny_Name (wpAny_loadName_free I.ok.kind hk hc hcell fin hcd) hd
theorem pe_int {i j pos} : PE X (.Constant (.int i) j pos) (tC (.int i)) := fun _ _ _ H _ I h => wpAny_Constant_int ⟨.int i, H, I.tok _, ⟨_, rfl⟩, h⟩
theorem pe_bl {b j pos} : PE X (.Constant (.bool b) j pos) (tC (.bl b)) := fun _ _ _ H _ I h => Constant_bool ⟨.bl b, H, I, rfl, h⟩
theorem pe_non {j pos} : PE X (.Constant .none j pos) (tC .non) := fun _ _ _ H _ I h => Constant_none ⟨.non, H, I, rfl, h⟩
theorem pe_str {x j pos} : PE X (.Constant (.str x) j pos) (tC (.str x)) := fun _ _ _ H _ I h => Calls.Constant_str ⟨.str x, H, I.tok _, ⟨_, rfl⟩, h⟩

/-- a global name of the def -/
def Gl (X : Cx) (x : Str) : Prop := X.env.kindOf x = some .globalImplicit
theorem ld_glob {E : Value → Shared → Prop} {pins : List (Addr × Obj)} {s : Shared} {σ : St} {H : Hp} {x : Str} {u : Value} {pos : Pos} {Q : Value → Shared → Prop} (I : Inv X pins σ H s) (hg : Gl X x) (hm : X.mg x = some u) (h : Q u s)
    (hd : (x == ("__debug__" : Str)) = false := by decide) : wpAny (model X.prog X.w) X.A (eval (.Name x pos) X.env) Q E s :=
  Calls.Name_function_global I.ok.kind hg (Calls.loadGlobal_global (by rw [I.ok.glob]; exact I.mod.glob.keeps I.bk) hm h) hd
theorem ld_blt {E : Value → Shared → Prop} {pins : List (Addr × Obj)} {s : Shared} {σ : St} {H : Hp} {x : Str} {u : Value} {pos : Pos} {Q : Value → Shared → Prop} (I : Inv X pins σ H s) (hg : Gl X x) (hm : X.mg x = none) (hv : bootBuiltins x = some u) (h : Q u s)
    (hn : x ≠ "__name__" := by decide) (hd : (x == ("__debug__" : Str)) = false := by decide) : wpAny (model X.prog X.w) X.A (eval (.Name x pos) X.env) Q E s := by
  obtain ⟨mb, h1, h2⟩ := I.mod.blt
  exact Calls.Name_function_global I.ok.kind hg (Calls.loadGlobal_builtin (by rw [I.ok.glob]; exact I.mod.glob.keeps I.bk) hm (by rw [I.ok.blt]; exact h1.keeps I.bk) ((h2 x hn).trans hv) h) hd
/-- a module's constant, a class, a function, as a value -/
theorem pe_glob {x : Str} {v : V} {u : Value} {pos : Pos} (hg : Gl X x) (hm : X.mg x = some u) (r : RelV v u) (hd : (x == ("__debug__" : Str)) = false := by decide) : PE X (.Name x pos) (tC v) :=
  fun _ _ _ H _ I h => ld_glob I hg hm ⟨v, H, I, r, h⟩ hd
theorem pe_bltn {x : Str} {v : V} {u : Value} {pos : Pos} (hg : Gl X x) (hm : X.mg x = none) (hv : bootBuiltins x = some u) (r : RelV v u) (hn : x ≠ "__name__" := by decide) (hd : (x == ("__debug__" : Str)) = false := by decide) : PE X (.Name x pos) (tC v) :=
  fun _ _ _ H _ I h => ld_blt I hg hm hv ⟨v, H, I, r, h⟩ hn hd

/-! ### arithmetic -/
variable {a b : Expr} {ta tb : TE} {pos : Pos}
/-! ### comparisons -/
/-- a comparison as a value, as a test -/
def tB (t : TE) : TT := fun σ H Q => t σ H fun x H1 => ∃ c, x = .bl c ∧ Q c H1
/-- an expression whose value is a bool, as a test -/
theorem pt_val {e : Expr} {t : TE} (h : PE X e t) (he : ∀ whole, isTrue e X.env whole = (do let v ← whole; standAt e.pos; holding [v] (truthy v)) := by intro _; rfl) : PT X e (tB t) := by
  intro pins s σ H Q I hw
  refine isTrue_plain (thn (h pins s σ H _ I hw) fun v s1 ⟨x, H1, I1, r1, q1⟩ => ?_) (he _)
  obtain ⟨d, rfl, q⟩ := q1
  cases r1
  exact wpAny_truthy_bool ⟨H1, I1, q⟩

/-! ### and, or, not -/
variable {tA tB' : TT} {rest : List Expr}
def tOr (t u : TT) : TT := fun σ H Q => t σ H fun c H1 => if c = true then Q true H1 else u σ H1 Q
def tNot (t : TT) : TT := fun σ H Q => t σ H fun c H1 => Q (!c) H1
theorem pw_or1 (ha : PT X a tA) : PW X (.BoolOp .Or [a] pos) tA := by
  intro wh pins s σ H Q I h
  refine isTrue_or (thn (ha pins s σ H Q I h) fun c s1 e => ?_)
  cases c with
  | false => exact isTrue_or_nil e
  | true => exact e
theorem pw_or (ha : PT X a tA) (hb : PW X (.BoolOp .Or (b :: rest) pos) tB') : PW X (.BoolOp .Or (a :: b :: rest) pos) (tOr tA tB') := by
  intro wh pins s σ H Q I h
  refine isTrue_or (thn (ha pins s σ H _ I h) fun c s1 ⟨H1, I1, q1⟩ => ?_)
  cases c with
  | true => exact ⟨H1, I1, q1⟩
  | false => exact hb wh pins s1 σ H1 Q I1 q1
theorem pt_not (ha : PT X a tA) : PT X (.UnaryOp .Not a pos) (tNot tA) := by
  intro pins s σ H Q I h
  exact isTrue_not (ha pins s σ H (fun c H1 => Q (!c) H1) I h)
/-- .. as values (bools) -/
def tAndV (ta tb : TE) : TE := fun σ H Q => ta σ H fun x H1 => ∃ c, x = .bl c ∧ if c = true then tb σ H1 Q else Q (.bl false) H1
def tNotV (ta : TE) : TE := fun σ H Q => ta σ H fun x H1 => ∃ c, x = .bl c ∧ Q (.bl (!c)) H1
theorem pe_one {op} {t : TE} (h : PE X a t) : PE X (.BoolOp op [a] pos) t := fun pins s σ H Q I hw => BoolOp_one (h pins s σ H Q I hw)
theorem pe_and (ha : PE X a ta) (hb : PE X (.BoolOp .And (b :: rest) pos) tb) : PE X (.BoolOp .And (a :: b :: rest) pos) (tAndV ta tb) := by
  intro pins s σ H Q I h
  refine BoolOp_and (thn (ha pins s σ H _ I h) fun v s1 ⟨x, H1, I1, r1, q1⟩ => ?_)
  obtain ⟨c, rfl, q1⟩ := q1
  cases r1
  refine wpAny_truthy_bool ?_
  cases c with
  | true => exact hb pins s1 σ H1 Q I1 q1
  | false => exact ⟨.bl false, H1, I1, rfl, q1⟩
theorem pe_not (ha : PE X a ta) : PE X (.UnaryOp .Not a pos) (tNotV ta) := by
  intro pins s σ H Q I h
  refine UnaryOp_ (thn (ha pins s σ H _ I h) fun v s1 ⟨x, H1, I1, r1, q1⟩ => ?_)
  obtain ⟨c, rfl, q1⟩ := q1
  cases r1
  exact not_of (wpAny_truthy_bool ⟨.bl (!c), H1, I1, rfl, q1⟩)
end
end L2

namespace L2
open PySem PySem.Spec PyProof.Rows

/-! ### a list, a tuple that is read: tracked, frozen, or an object of the module -/
def SqL (K : PySem.W.Frag) (H : Hp) (a : Addr) (xs : List V) : Prop :=
  Rd H a (.lst xs) ∨
    ∃ (o : Obj) (its : Array Value) (n : Nat), K.lookup a = some o ∧ o.cls = .type "list" ∧ o.dict = none ∧ o.data = .seq its n ∧ its.size ≤ sizeLine ∧ Vals xs its.toList
def SqT (K : PySem.W.Frag) (H : Hp) (a : Addr) (xs : List V) : Prop :=
  Rd H a (.tup xs) ∨
    ∃ (o : Obj) (its : Array Value) (n : Nat), K.lookup a = some o ∧ o.cls = .type "tuple" ∧ o.data = .seq its n ∧ its.size ≤ sizeLine ∧ Vals xs its.toList
def absV : Value → Option V
  | .none => some .non
  | .bool b => some (.bl b)
  | .int i _ => some (.int i)
  | .str x _ => some (.str x)
  | .bytes b _ => some (.byt b)
  | .float b _ => some (.flt b)
  | .ref a => some (.ref a)
  | .type n => some (.ty n)
  | _ => none
theorem RelV.abs {x : V} {u : Value} (r : RelV x u) : absV u = some x := by
  cases x with
  | non => cases r; rfl
  | bl _ => cases r; rfl
  | int _ => obtain ⟨t, rfl⟩ := r; rfl
  | str _ => obtain ⟨t, rfl⟩ := r; rfl
  | byt _ => obtain ⟨t, rfl⟩ := r; rfl
  | flt _ => obtain ⟨t, rfl⟩ := r; rfl
  | ref _ => cases r; rfl
  | ty _ => cases r; rfl
theorem RelV.inj {x y : V} {u : Value} (r : RelV x u) (q : RelV y u) : x = y := Option.some.inj (r.abs.symm.trans q.abs)
theorem Vals.inj : ∀ {xs ys : List V} {us : List Value}, Vals xs us → Vals ys us → xs = ys
  | _, _, _, .nil, .nil => rfl
  | _, _, _, .cons r t, .cons r' t' => by rw [r.inj r', Vals.inj t t']
section
variable {X : Cx} {pins : List (Addr × Obj)} {σ : St} {H : Hp} {s : Shared} {a : Addr} {xs ys : List V}
theorem SqL.of {K : PySem.W.Frag} (h : H a = some (.lst xs)) : SqL K H a xs := .inl (.inl h)
theorem SqT.of {K : PySem.W.Frag} (h : H a = some (.tup xs)) : SqT K H a xs := .inl (.inl h)
theorem Inv.list (I : Inv X pins σ H s) (h : SqL X.K H a xs) : ∃ its : List Value, Vals xs its ∧ PlainL s.heap a its.toArray ∧ xs.length ≤ sizeLine := by
  rcases h with h | ⟨o, its, n, hk, hc, hd, hs, hz, r⟩
  · obtain ⟨z, its, n, r, e⟩ := h.ok I.hok
    exact ⟨its, r, ⟨_, n, e, rfl, rfl, rfl⟩, z⟩
  · refine ⟨its.toList, r, ⟨o, n, I.kIn a o hk, hc, hd, by simpa using hs⟩, ?_⟩
    have e := r.length
    simp only [Array.length_toList] at e
    omega
theorem Inv.tuple (I : Inv X pins σ H s) (h : SqT X.K H a xs) : ∃ its : List Value, Vals xs its ∧ IsTup s.heap a its.toArray ∧ xs.length ≤ sizeLine := by
  rcases h with h | ⟨o, its, n, hk, hc, hs, hz, r⟩
  · obtain ⟨z, its, r, p⟩ := h.ok I.hok
    exact ⟨its, r, p.t, z⟩
  · refine ⟨its.toList, r, ⟨o, I.kIn a o hk, hc, n, by simpa using hs⟩, ?_⟩
    have e := r.length
    simp only [Array.length_toList] at e
    omega
theorem Inv.list_inj (I : Inv X pins σ H s) (h : SqL X.K H a xs) (h' : SqL X.K H a ys) : xs = ys := by
  obtain ⟨its, r, ⟨o, n, e, _, _, d⟩, _⟩ := I.list h
  obtain ⟨its', r', ⟨o', n', e', _, _, d'⟩, _⟩ := I.list h'
  rw [e] at e'; cases e'
  rw [d] at d'
  injection d' with d1 _
  have : its = its' := by simpa using congrArg Array.toList d1
  subst this
  exact r.inj r'
theorem Inv.tuple_inj (I : Inv X pins σ H s) (h : SqT X.K H a xs) (h' : SqT X.K H a ys) : xs = ys := by
  obtain ⟨its, r, ⟨o, e, _, n, d⟩, _⟩ := I.tuple h
  obtain ⟨its', r', ⟨o', e', _, n', d'⟩, _⟩ := I.tuple h'
  rw [e] at e'; cases e'
  rw [d] at d'
  injection d' with d1 _
  have : its = its' := by simpa using congrArg Array.toList d1
  subst this
  exact r.inj r'
end

/-! ### another wish about exceptions -/
abbrev Cx.wish (X : Cx) (E : Value → Shared → Prop) : Cx := { X with xe := E }
/-- no exception leaves -/
abbrev Cx.nox (X : Cx) : Cx := X.wish fun _ _ => False
theorem Cx.Ok.wish {X : Cx} (ok : X.Ok) (E : Value → Shared → Prop) : (X.wish E).Ok :=
  ⟨ok.mod, ok.kind, ok.glob, ok.blt, ok.above, ok.inj, ok.has, ok.cab, ok.hd, ok.frames, ok.stk, ok.exf, ok.bs, ok.bsz, ok.noex, ok.exfs, ok.funs, ok.frf⟩
theorem Cx.Ok.unwish {X : Cx} {E : Value → Shared → Prop} (ok : (X.wish E).Ok) : X.Ok :=
  ⟨ok.mod, ok.kind, ok.glob, ok.blt, ok.above, ok.inj, ok.has, ok.cab, ok.hd, ok.frames, ok.stk, ok.exf, ok.bs, ok.bsz, ok.noex, ok.exfs, ok.funs, ok.frf⟩
section
variable {X : Cx} {pins : List (Addr × Obj)} {σ : St} {H : Hp} {s : Shared} {E : Value → Shared → Prop}
theorem Inv.wish (I : Inv X pins σ H s) (E : Value → Shared → Prop) : Inv (X.wish E) pins σ H s := ⟨I.ok.wish E, I.os, I.bare, I.base, I.loc, I.cell, I.free, I.freeC, I.pin, I.hok, I.len⟩
theorem Inv.unwish (I : Inv (X.wish E) pins σ H s) : Inv X pins σ H s := ⟨I.ok.unwish, I.os, I.bare, I.base, I.loc, I.cell, I.free, I.freeC, I.pin, I.hok, I.len⟩
theorem SP.unwish {D : Ends} {f : Flow} {s' : Shared} (h : SP (X.wish E) pins D f s') : SP X pins D f s' := by
  cases f with
  | next => obtain ⟨σ', H', I, q⟩ := h; exact ⟨σ', H', I.unwish, q⟩
  | brk => obtain ⟨σ', H', I, q⟩ := h; exact ⟨σ', H', I.unwish, q⟩
  | cont => obtain ⟨σ', H', I, q⟩ := h; exact ⟨σ', H', I.unwish, q⟩
  | ret u => obtain ⟨v, σ', H', I, r, q⟩ := h; exact ⟨v, σ', H', I.unwish, r, q⟩
theorem PE.nox {e : Expr} {t : TE} (h : PE X.nox e t) : PE X e t := fun pins s σ H Q I hw =>
  wpAny_mono (h pins s σ H Q (I.wish _) hw) (fun _ _ ⟨v, H', I', r, q⟩ => ⟨v, H', I'.unwish, r, q⟩) fun _ _ z => False.elim z
theorem PT.nox {e : Expr} {t : TT} (h : PT X.nox e t) : PT X e t := fun pins s σ H Q I hw =>
  wpAny_mono (h pins s σ H Q (I.wish _) hw) (fun _ _ ⟨H', I', q⟩ => ⟨H', I'.unwish, q⟩) fun _ _ z => False.elim z
theorem PSs.nox {st : List Stmt} {t : TS} (h : PSs X.nox st t) : PSs X st t := fun pins s σ H D I hw =>
  wpAny_mono (h pins s σ H D (I.wish _) hw) (fun _ _ q => q.unwish) fun _ _ z => False.elim z
end

/-! ### blocks and small statements -/
section
variable {X : Cx} {st : Stmt} {rest : List Stmt} {t u : TS} {e : Expr} {te : TE} {pos : Pos}
def tNext : TS := fun D σ H => D.nx σ H
def tSeq (t u : TS) : TS := fun D σ H => t { D with nx := u D } σ H
theorem pss_nil : PSs X [] tNext := fun _ _ σ H _ I h => wpAny_execs_nil ⟨σ, H, I, h⟩
theorem pss_cons (h1 : PS X st t) (h2 : PSs X rest u) : PSs X (st :: rest) (tSeq t u) := by
  intro pins s σ H D I h
  refine wpAny_execs_cons (thn (h1 pins s σ H { D with nx := u D } I h) fun f s1 q => ?_)
  cases f with
  | next =>
    obtain ⟨σ', H', I', q⟩ := q
    exact h2 pins s1 σ' H' D I' q
  | ret v => exact q
  | brk => exact q
  | cont => exact q
theorem pss_one (h1 : PS X st t) : PSs X [st] t := by
  intro pins s σ H D I h
  refine wpAny_execs_cons (thn (h1 pins s σ H D I h) fun f s1 q => ?_)
  cases f with
  | next => exact wpAny_execs_nil q
  | ret v => exact q
  | brk => exact q
  | cont => exact q
/-- in a def's body nothing is shown -/
theorem Inv.quiet {pins : List (Addr × Obj)} {σ : St} {H : Hp} {s : Shared} (I : Inv X pins σ H s) : interactive X.env = false := by simp [interactive, I.ok.kind]
/-- an expression whose value is dropped -/
def tDrop (te : TE) : TS := fun D σ H => te σ H fun _ H1 => D.nx σ H1
theorem ps_expr (he : PE X e te) (hs : swapsWith e none pos.line X.env = pure false := by rfl) : PS X (.Expr e pos) (tDrop te) := by
  intro pins s σ H D I h
  exact wpAny_Expr_any (thn (he pins s σ H _ I h) fun v s1 ⟨x, H1, I1, r1, q1⟩ => ⟨σ, H1, I1, q1⟩) I.quiet hs
def tRet (te : TE) : TS := fun D σ H => te σ H D.rt
theorem ps_ret (he : PE X e te) : PS X (.Return (some e) pos) (tRet te) := by
  intro pins s σ H D I h
  exact wpAny_Return_some (thn (he pins s σ H _ I h) fun v s1 ⟨x, H1, I1, r1, q1⟩ => ⟨x, σ, H1, I1, r1, q1⟩)
def tIfS (c : TT) (t u : TS) : TS := fun D σ H => c σ H fun b H1 => if b = true then t D σ H1 else u D σ H1
theorem ps_if {c : Expr} {a b : List Stmt} {tc : TT} (hc : PT X c tc) (ha : PSs X a t) (hb : PSs X b u) : PS X (.If c a b pos) (tIfS tc t u) := by
  intro pins s σ H D I h
  refine wpAny_If (thn (hc pins s σ H _ I h) fun d s1 ⟨H1, I1, q1⟩ => ?_)
  cases d with
  | true => exact ha pins s1 σ H1 D I1 q1
  | false => exact hb pins s1 σ H1 D I1 q1
end

/-! ### targets -/
abbrev TG := V → St → Hp → (St → Hp → Prop) → Prop
def PG (X : Cx) (target : Expr) (t : TG) : Prop :=
  ∀ (pins : List (Addr × Obj)) (s : Shared) (σ : St) (H : Hp) (v : V) (u : Value) (Q : St → Hp → Prop), Inv X pins σ H s → RelV v u → t v σ H Q →
    wpAny (model X.prog X.w) X.A (assign target X.env u) (fun _ s' => ∃ σ' H', Inv X pins σ' H' s' ∧ Q σ' H') X.xe s
/-- o[i] = v, by values -/
abbrev TSet := V → V → V → Hp → (Hp → Prop) → Prop
def PSet (X : Cx) (t : TSet) : Prop :=
  ∀ (pins : List (Addr × Obj)) (s : Shared) (σ : St) (H : Hp) (o i v : V) (ov iv u : Value) (Q : Hp → Prop), Inv X pins σ H s → RelV o ov → RelV i iv → RelV v u → t o i v H Q →
    wpAny (model X.prog X.w) X.A (setItem ov iv u) (fun _ s' => ∃ H', Inv X pins σ H' s' ∧ Q H') X.xe s
section
variable {X : Cx} {pos : Pos}
def gName (i : Nat) : TG := fun v σ H Q => Q (σ.set i (some v)) H
theorem pg_name {i : Nat} {x : Str} (hN : X.N.Nodup) (hi : X.N[i]? = some x) (hx : Loc X.env.scope x) (hf : X.fn x = true ∨ X.env.scope.names.lookup x = some .local := by first | exact .inl rfl | exact .inr rfl | assumption) : PG X (.Name x pos) (gName i) := by
  intro pins s σ H v u Q I r h
  exact wpAny_assign_Name (store_ok I hN hi hx r (fun s' I' => ⟨_, H, I', h⟩) hf)
/-- o[i] = .. -/
def gSub (to ti : TE) (t : TSet) : TG := fun v σ H Q => to σ H fun o H1 => ti σ H1 fun i H2 => t o i v H2 fun H3 => Q σ H3
theorem pg_sub {o i : Expr} {to ti : TE} {t : TSet} (ho : PE X o to) (hi : PE X i ti) (hs : PSet X t)
    (ha : ∀ v, assign (.Subscript o i pos) X.env v = (do
      let ov ← holding [v] (eval o X.env)
      let iv ← holding [v, ov] (eval i X.env)
      standAt pos
      holding [v, ov, iv] (setItem ov iv v)
      release [v, ov, iv] []) := by intro _; rfl) : PG X (.Subscript o i pos) (gSub to ti t) := by
  intro pins s σ H v u Q I r h
  rw [ha]
  refine wpAny_bind (wpAny_holding (thn (ho pins s σ H _ I h) fun ov s1 ⟨x, H1, I1, r1, q1⟩ => ?_))
  refine wpAny_bind (wpAny_holding (thn (hi pins s1 σ H1 _ I1 q1) fun iv s2 ⟨y, H2, I2, r2, q2⟩ => ?_))
  refine wpAny_bind (wpAny_standAt (wpAny_bind (wpAny_holding (thn (hs pins s2 σ H2 x y v ov iv u _ I2 r1 r2 r q2) fun _ s3 ⟨H3, I3, q3⟩ => ?_))))
  exact wpAny_release ⟨σ, H3, I3, q3⟩
/-- target = value -/
def tAsg (te : TE) (g : TG) : TS := fun D σ H => te σ H fun x H1 => g x σ H1 D.nx
theorem ps_asg {tg e : Expr} {te : TE} {g : TG} (he : PE X e te) (hg : PG X tg g) (hs : swapsWithSole [tg] e pos.line X.env = pure false := by rfl) (hw : swappedStores [tg] e X.env = pure none := by rfl)
    (h1 : (assignEach [tg] X.env).map (·.2) = [assign tg X.env] := by rfl) : PS X (.Assign [tg] e pos) (tAsg te g) := by
  intro pins s σ H D I h
  refine wpAny_Assign_stores (thn (he pins s σ H _ I h) fun v s1 ⟨x, H1, I1, r1, q1⟩ => ?_) hs hw
  rw [h1]
  exact thn (hg pins s1 σ H1 x v _ I1 r1 q1) fun _ s2 q => q
/-- name = value -/
theorem ps_set {i : Nat} {x : Str} {e : Expr} {te : TE} {pos' : Pos} (hN : X.N.Nodup) (hi : X.N[i]? = some x) (hx : Loc X.env.scope x) (he : PE X e te) (hs : swapsWith e (some (.Name x pos')) pos.line X.env = pure false := by rfl) (hf : X.fn x = true ∨ X.env.scope.names.lookup x = some .local := by first | exact .inl rfl | exact .inr rfl | assumption) :
    PS X (.Assign [.Name x pos'] e pos) (tAsg te (gName i)) := by
  intro pins s σ H D I h
  refine wpAny_Assign_Name (thn (he pins s σ H _ I h) fun v s1 ⟨y, H1, I1, r1, q1⟩ => ?_) hs
  exact store_ok I1 hN hi hx r1 (fun s2 I2 => ⟨_, H1, I2, q1⟩) hf
end

/-! ### while -/
section
variable {X : Cx} {pos : Pos}
end

/-! ### what a loop or a comprehension walks -/
/-- at turn i: it yields x (the heap may grow), or it stops -/
structure It where
  go : Nat → Hp → Prop
  yld : Nat → Hp → V → Hp → Prop
  stop : Nat → Hp → Prop
/-- the iterator's own objects may turn: they are not the frame's, not pinned, younger than the entry (or a comprehension's own) -/
def FpOk (X : Cx) (pins : List (Addr × Obj)) (H : Hp) (b : Addr) : Prop :=
  H b = none ∧ b ≠ X.env.locals ∧ b ∉ X.fs ∧ (b ∈ X.ex ∨ X.s₀.heap.objs.size ≤ b) ∧ (∀ x c, X.env.cells.lookup x = some c → c ≠ b) ∧ ∀ p ∈ X.pn ++ pins, p.1 ≠ b
theorem Inv.fpOk {X : Cx} {pins : List (Addr × Obj)} {σ : St} {H H' : Hp} {s : Shared} {b : Addr} (I : Inv X pins σ H s) (hb : s.heap.objs.size ≤ b) (hn : H' b = none) : FpOk X pins H' b := by
  refine ⟨hn, Nat.ne_of_gt (Nat.lt_of_lt_of_le I.lt hb), I.nofs hb, .inr (Nat.le_trans I.sz hb), fun x c e z => ?_, fun p hp z => ?_⟩
  · obtain ⟨v, q⟩ := I.cell x c e
    exact absurd (Nat.lt_of_lt_of_le q.lt (by rw [z]; exact hb)) (Nat.lt_irrefl _)
  · exact absurd (Nat.lt_of_lt_of_le (Heap.lt_size (I.pin p hp).1) (by rw [z]; exact hb)) (Nat.lt_irrefl _)
structure Turn (P : Program) (w : World) (K : PySem.W.Frag) (tg : Expr) (J : It) (fp : List Addr) (it : Addr) (tn : Nat → Heap → Prop) : Prop where
  mem : it ∈ fp
  obj : ∀ i h, tn i h → ∀ b ∈ fp, ∃ o, h.get? b = some o ∧ ∀ v, o.data ≠ .cell v
  keep : ∀ i h h', tn i h → (∀ b ∈ fp, ∀ o, h.get? b = some o → h'.get? b = some o) → tn i h'
  item : ∀ (X : Cx), X.prog = P → X.w = w → X.K = K → X.calm = true → ∀ (i : Nat) (pins : List (Addr × Obj)) (s : Shared) (σ : St) (H : Hp) (E : Value → Shared → Prop), Inv X pins σ H s → (∀ b ∈ fp, FpOk X pins H b) → tn i s.heap → J.go i H →
    wpAny (model P w) X.A (pyNext (.ref it)) (fun r s1 => ∃ u, r = some u ∧
      wpAny (model P w) X.A (letOwnedTupleGo tg (.ref it) u) (fun _ s2 => ∃ x H', Inv X pins σ H' s2 ∧ RelV x u ∧ J.yld i H x H' ∧ tn (i + 1) s2.heap ∧ ∀ b ∈ fp, H' b = none) E s1) E s
  done : ∀ (X : Cx), X.prog = P → X.w = w → X.K = K → X.calm = true → ∀ (i : Nat) (pins : List (Addr × Obj)) (s : Shared) (σ : St) (H : Hp) (E : Value → Shared → Prop), Inv X pins σ H s → (∀ b ∈ fp, FpOk X pins H b) → tn i s.heap → J.stop i H →
    wpAny (model P w) X.A (pyNext (.ref it)) (fun r s1 => r = none ∧ Inv X pins σ H s1) E s
  self : ∀ (A : Around) (i : Nat) (s : Shared) (Q : Value → Shared → Prop) (E : Value → Shared → Prop), tn i s.heap → Q (.ref it) s → wpAny (model P w) A (pyIter (.ref it)) Q E s
abbrev TI := St → Hp → (It → Hp → Prop) → Prop
/-- an iterator has come -/
def PIE (X : Cx) (pins : List (Addr × Obj)) (σ : St) (tg : Expr) (R : It → Hp → Prop) (itv : Value) (s2 : Shared) : Prop :=
  ∃ (it : Addr) (fp : List Addr) (tn : Nat → Heap → Prop) (J : It) (H' : Hp), itv = .ref it ∧ Inv X pins σ H' s2 ∧ Turn X.prog X.w X.K tg J fp it tn ∧ tn 0 s2.heap ∧ (∀ b ∈ fp, FpOk X pins H' b) ∧ R J H'
def PI (X : Cx) (tg iter : Expr) (wi : TI) : Prop :=
  ∀ (pins : List (Addr × Obj)) (s : Shared) (σ : St) (H : Hp) (R : It → Hp → Prop), Inv X pins σ H s → wi σ H R →
    wpAny (model X.prog X.w) X.A (eval iter X.env) (fun v s1 => wpAny (model X.prog X.w) X.A (pyIter v) (PIE X pins σ tg R) X.xe s1) X.xe s

/-- the step ahead of the store is nothing for an iterator that keeps no tuple -/
theorem go_of {M : Model} {A : Around} {E : Value → Shared → Prop} {s : Shared} {tg : Expr} {it : Addr} {u : Value} {o : Obj} {n : String} {vs : Array Value} {Q : Unit → Shared → Prop} (ho : s.heap.get? it = some o) (hc : o.cls = .type n) (hd : o.data = .fields vs)
    (hn : ["enumerate", "zip", "dict_itemiterator", "dict_reverseitemiterator", "odict_iterator", "itertools.zip_longest", "itertools.pairwise"].contains n = false) (hQ : Q () s) : wpAny M A (letOwnedTupleGo tg (.ref it) u) Q E s := by
  unfold letOwnedTupleGo
  cases tg <;> first
    | exact wpAny_pure hQ
    | (cases u <;> first
        | exact wpAny_pure hQ
        | (refine wpAny_bind (wpAny_load ho ?_)
           rw [hc, hd]
           show wpAny M A (if (["enumerate", "zip", "dict_itemiterator", "dict_reverseitemiterator", "odict_iterator", "itertools.zip_longest", "itertools.pairwise"].contains n && vs[0]? == some (rawInt _)) = true then _ else _) Q E s
           rw [if_neg (by intro h; rw [hn, Bool.false_and] at h; cases h)]
           exact wpAny_pure hQ))

/-- the list at a, as it stands at each turn (a loop may append to it) -/
def Itl (K : PySem.W.Frag) (a : Addr) : It :=
  ⟨fun i H => ∃ xs x, SqL K H a xs ∧ xs[i]? = some x, fun i H x H' => H' = H ∧ ∀ xs, SqL K H a xs → xs[i]? = some x, fun i H => ∃ xs, SqL K H a xs ∧ xs.length ≤ i⟩
/-- lo, lo + 1, .. (n of them) -/
def Itr (lo : Int) (n : Nat) : It := ⟨fun i _ => i < n, fun i H x H' => H' = H ∧ x = .int (lo + i), fun i _ => n ≤ i⟩
theorem turn_list {P : Program} {w : World} {K : PySem.W.Frag} {tg : Expr} (a it : Addr) : Turn P w K tg (Itl K a) [it] it (fun i h => h.IsListIter it a i) where
  mem := by simp
  obj := fun i h st b hb => by
    have e : b = it := by simpa using hb
    subst e
    obtain ⟨o, e, c, d⟩ := st
    exact ⟨o, e, fun v z => by rw [d] at z; cases z⟩
  keep := fun i h h' st k => st.at fun o e => k it (by simp) o e
  item := by
    intro X hP hw hK hc i pins s σ H E I hf st hg
    subst hP hw hK
    obtain ⟨xs, x, hq, hx⟩ := hg
    obtain ⟨its, rv, p, hz⟩ := I.list hq
    obtain ⟨u, hu, ru⟩ := rv.get hx
    obtain ⟨f0, f1, f2, f3, f4, f5⟩ := hf it (by simp)
    refine wpAny_pyNext_list_item st p.isList (x := u) (by simpa using hu) fun h' st' sb => ?_
    have I1 : Inv X pins σ H { s with heap := h' } := I.turned (t' := s.toks) (fun b o hb e => (sb.2 b hb).trans e) f0 f1 f3 f4 f5
    obtain ⟨o, e, c, d⟩ := id st'
    exact ⟨u, rfl, go_of (s := { s with heap := h' }) e c d (by decide) ⟨x, H, I1, ru, ⟨rfl, fun ys hy => by rw [I.list_inj hy hq]; exact hx⟩, st', fun b hb => (hf b hb).1⟩⟩
  done := by
    intro X hP hw hK hc i pins s σ H E I hf st hg
    subst hP hw hK
    obtain ⟨xs, hq, hx⟩ := hg
    obtain ⟨its, rv, p, hz⟩ := I.list hq
    obtain ⟨f0, f1, f2, f3, f4, f5⟩ := hf it (by simp)
    have hl := rv.length
    exact wpAny_pyNext_list_end (I.ok.hd hc) st p.isList (by simp; omega) fun h' eb => ⟨rfl, I.turned (t' := s.toks) (fun b o hb e => eb b o hb e) f0 f1 f3 f4 f5⟩
  self := fun _ _ _ _ _ st h => wpAny_pyIter_listiter st h
theorem turn_range {P : Program} {w : World} {K : PySem.W.Frag} {tg : Expr} (it : Addr) (lo : Int) (n : Nat) : Turn P w K tg (Itr lo n) [it] it (fun i h => IsRangeIter h it (lo + (i : Nat) * 1) ((n : Int) - (i : Nat)) 1) where
  mem := by simp
  obj := fun i h st b hb => by
    have e : b = it := by simpa using hb
    subst e
    exact ⟨_, st, fun v z => by
      have z' : Data.fields _ = Data.cell v := z
      cases z'⟩
  keep := fun i h h' st k => k it (by simp) _ st
  item := by
    intro X hP hw hK hc i pins s σ H E I hf st hg
    subst hP hw hK
    obtain ⟨f0, f1, f2, f3, f4, f5⟩ := hf it (by simp)
    have W := Walks.range (prog := X.prog) (w := X.w) (I.ok.hd hc) it lo 1 n
    refine W.item i s _ _ hg st fun v h' tk hv st' kk => ?_
    obtain ⟨t, rfl⟩ := hv
    have I1 : Inv X pins σ H { s with heap := h', toks := tk } := I.turned (fun b o hb e => kk b o (by simpa using hb) e) f0 f1 f3 f4 f5
    refine ⟨_, rfl, go_of (s := { s with heap := h', toks := tk }) (n := "range_iterator") st' rfl rfl (by decide) ⟨.int (lo + i), H, I1, ⟨t, ?_⟩, ⟨rfl, rfl⟩, st', fun b hb => (hf b hb).1⟩⟩
    rw [Int.mul_one]
  done := by
    intro X hP hw hK hc i pins s σ H E I hf st hg
    subst hP hw hK
    obtain ⟨f0, f1, f2, f3, f4, f5⟩ := hf it (by simp)
    exact wpAny_pyNext_range_end (I.ok.hd hc) st (by have : n ≤ i := hg; omega) fun h' eb => ⟨rfl, I.turned (t' := s.toks) (fun b o hb e => eb b o hb e) f0 f1 f3 f4 f5⟩
  self := fun _ _ _ _ _ st h => wpAny_pyIter_rangeiter st h
end L2

namespace L2
open PySem PySem.Spec PyProof.Rows
section
variable {X : Cx} {tg : Expr}
def iList (K : PySem.W.Frag) (tl : TE) : TI := fun σ H R => tl σ H fun x H1 => ∃ a, x = .ref a ∧ (∃ xs, SqL K H1 a xs) ∧ R (Itl K a) H1
theorem pi_list {l : Expr} {tl : TE} (hl : PE X l tl) : PI X tg l (iList X.K tl) := by
  intro pins s σ H R I h
  refine thn (hl pins s σ H _ I h) fun v s1 ⟨x, H1, I1, r1, q1⟩ => ?_
  obtain ⟨a, e, ⟨xs, hq⟩, q⟩ := q1
  subst e
  cases r1
  obtain ⟨its, rv, p, hz⟩ := I1.list hq
  refine wpAny_pyIter_list p.isList ?_
  refine ⟨s1.heap.objs.size, [s1.heap.objs.size], _, _, H1, rfl, I1.kept (t' := s1.toks) fun b o e => Heap.get?_push_of_some _ e, turn_list a _, ⟨_, Heap.get?_push_size _ rfl, rfl, rfl⟩, fun b hb => ?_, q⟩
  have e : b = s1.heap.objs.size := by simpa using hb
  subst e
  exact I1.fpOk (Nat.le_refl _) (I1.hok.fresh (Nat.le_refl _))
/-- a range object just made, walked -/
theorem range_it {pins : List (Addr × Obj)} {σ : St} {H : Hp} {s : Shared} {R : It → Hp → Prop} {E : Value → Shared → Prop} {lo hi : Int} {t u v : Tok} {tk : Nat} (I : Inv X pins σ H s) (h1 : -(2 ^ 62) ≤ lo) (h2 : lo < 2 ^ 62) (h3 : -(2 ^ 62) ≤ hi) (h4 : hi < 2 ^ 62)
    (q : R (Itr lo (hi - lo).toNat) H) : wpAny (model X.prog X.w) X.A (pyIter (.ref s.heap.objs.size)) (PIE X pins σ tg R) E { s with heap := s.heap.push { cls := .type "range", data := .fields #[.int lo t, .int hi u, .int 1 v] }, toks := tk } := by
  refine wpAny_pyIter_range (IsRange.new ..) (small_one h1 h2 h3 h4) ?_
  have I1 : Inv X pins σ H { s with heap := s.heap.push { cls := .type "range", data := .fields #[.int lo t, .int hi u, .int 1 v] }, toks := tk } := I.kept fun b o e => Heap.get?_push_of_some _ e
  refine ⟨(s.heap.push { cls := .type "range", data := .fields #[.int lo t, .int hi u, .int 1 v] }).objs.size, [(s.heap.push { cls := .type "range", data := .fields #[.int lo t, .int hi u, .int 1 v] }).objs.size], _, _, H, rfl,
    I1.kept (t' := tk) fun b o e => Heap.get?_push_of_some _ e, turn_range _ lo (hi - lo).toNat, ?_, fun b hb => ?_, q⟩
  · have e1 : lo + ((0 : Nat) : Int) * 1 = lo := by simp
    have e2 : (((hi - lo).toNat : Nat) : Int) - ((0 : Nat) : Int) = Builtin.Range.rangeSize lo hi 1 := by rw [rangeSize_one]; split <;> omega
    show IsRangeIter _ _ (lo + ((0 : Nat) : Int) * 1) ((((hi - lo).toNat : Nat) : Int) - ((0 : Nat) : Int)) 1
    rw [e1, e2]
    exact Heap.get?_push_size _ rfl
  · have e : b = (s.heap.push { cls := .type "range", data := .fields #[.int lo t, .int hi u, .int 1 v] }).objs.size := by simpa using hb
    subst e
    exact I1.fpOk (Nat.le_refl _) (I1.hok.fresh (Nat.le_refl _))
def iRng1 (ta : TA) : TI := fun σ H R => ta σ H fun vs H1 => ∃ j : Int, vs = [.int j] ∧ -(2 ^ 62) ≤ j ∧ j < 2 ^ 62 ∧ R (Itr 0 j.toNat) H1
theorem pi_range1 {a : Expr} {ta : TA} {p pos : Pos} (hg : Gl X "range") (hm : X.mg "range" = none) (ha : PA X [a] ta) (hs : starEach [a] X.env = [(false, eval a X.env)] := by rfl) : PI X tg (.Call (.Name "range" p) [a] [] pos) (iRng1 ta) := by
  intro pins s σ H R I h
  refine Call_ (ld_blt I hg hm boot_range (PyProof.Rows.callWith_type1 (thn (ha pos pins s σ H _ I h) fun us s1 ⟨vs, H1, I1, r1, q1⟩ => ?_) hs rfl))
  obtain ⟨j, e, q1, q2, q⟩ := q1
  subst e
  cases r1 with
  | cons r rr =>
    cases rr
    obtain ⟨t, rfl⟩ := r
    exact call_range_1 (range_it I1 (by omega) (by omega) q1 q2 (by simpa using q))
/-! ### for -/
/-- W: the invariant by the turn and a measure; N: what the body is to reach -/
def tFor (wi : TI) (g : TG) (tb : TS) : TS := fun D σ H => wi σ H fun J H1 => ∃ W : Nat → Nat → St → Hp → Prop, (∃ m, W 0 m σ H1) ∧ ∀ i m σ H, W i m σ H →
  (J.stop i H ∧ D.nx σ H) ∨ (J.go i H ∧ ∃ N : St → Hp → Prop, (∀ σ' H', N σ' H' → ∃ m', m' < m ∧ W (i + 1) m' σ' H') ∧ ∀ x H', J.yld i H x H' → g x σ H' fun σ2 H2 => tb { D with nx := N, ct := N, bk := D.nx } σ2 H2)
/-- the records at fp as they stand -/
def pinsAt (fp : List Addr) (h : Heap) : List (Addr × Obj) := fp.filterMap fun b => (h.get? b).map fun o => (b, o)
theorem mem_pinsAt {fp : List Addr} {h : Heap} {b : Addr} {o : Obj} (hb : b ∈ fp) (e : h.get? b = some o) : (b, o) ∈ pinsAt fp h := List.mem_filterMap.mpr ⟨b, hb, by rw [e]; rfl⟩
theorem of_pinsAt {fp : List Addr} {h : Heap} {p : Addr × Obj} (hp : p ∈ pinsAt fp h) : p.1 ∈ fp ∧ h.get? p.1 = some p.2 := by
  obtain ⟨b, hb, e⟩ := List.mem_filterMap.mp hp
  cases q : h.get? b with
  | none => rw [q] at e; cases e
  | some o =>
    rw [q] at e
    have e' : (b, o) = p := Option.some.inj e
    subst e'
    exact ⟨hb, q⟩
theorem Inv.pinned {pins : List (Addr × Obj)} {σ : St} {H : Hp} {s : Shared} {fp : List Addr} (I : Inv X pins σ H s) (hf : ∀ b ∈ fp, FpOk X pins H b) (ho : ∀ b ∈ fp, ∃ o, s.heap.get? b = some o ∧ ∀ v, o.data ≠ .cell v) : Inv X (pins ++ pinsAt fp s.heap) σ H s :=
  I.pins_of fun p hp => (List.mem_append.mp hp).elim (fun z => I.pin p (List.mem_append_right _ z)) fun z => by
    obtain ⟨hb, e⟩ := of_pinsAt z
    obtain ⟨f0, f1, f2, _⟩ := hf p.1 hb
    obtain ⟨o, e', d⟩ := ho p.1 hb
    rw [e] at e'; cases e'
    exact ⟨e, f0, f1, f2, d⟩
theorem Inv.unpinned {pins pl : List (Addr × Obj)} {σ : St} {H : Hp} {s : Shared} (I : Inv X (pins ++ pl) σ H s) : Inv X pins σ H s := I.pins_of fun p hp => I.pin p (List.mem_append_right _ (List.mem_append_left _ hp))
theorem ps_for {iter : Expr} {body : List Stmt} {wi : TI} {g : TG} {tb : TS} {pos : Pos} (hp : PassesOwn (model X.prog X.w) X.A X.env X.xe) (hc : X.calm = true) (hi : PI X tg iter wi) (hg : PG X tg g) (hb : PSs X body tb)
    (hs : ∀ x, foldedSetIterable iter X.env x = pure x := by intro _; rfl) : PS X (.For tg iter body [] pos) (tFor wi g tb) := by
  intro pins s σ H D I h
  refine wpAny_For (thn (hi pins s σ H _ I h) fun v s1 h1 => thn h1 fun itv s2 h2 => ?_) hs
  obtain ⟨it, fp, tn, J, H2, e, I2, T, st2, f2, W, ⟨m0, w0⟩, turn⟩ := h2
  subst e
  -- what stays true of the iterator's objects through the loop
  have stat : ∀ {H' : Hp}, (∀ b ∈ fp, H' b = none) → ∀ b ∈ fp, FpOk X pins H' b := fun hn b hb => ⟨hn b hb, (f2 b hb).2⟩
  refine codeAny_forLoop_any (fun n s' => ∃ i σ' H', Inv X pins σ' H' s' ∧ tn i s'.heap ∧ (∀ b ∈ fp, H' b = none) ∧ W i n σ' H') ?_ m0 ⟨0, σ, H2, I2, st2, fun b hb => (f2 b hb).1, w0⟩
  rintro n s3 ⟨i, σ3, H3, I3, st3, fr3, w3⟩
  rcases turn i n σ3 H3 w3 with ⟨stop, qn⟩ | ⟨go, N, hN, step⟩
  · refine wpAny_passesOwn hp (thn (T.done X rfl rfl rfl hc i pins s3 σ3 H3 X.xe I3 (stat fr3) st3 stop) fun r s4 ⟨hr, I4⟩ => ?_)
    subst hr
    exact wpAny_execs_nil ⟨σ3, H3, I4, qn⟩
  · refine wpAny_passesOwn hp (thn (T.item X rfl rfl rfl hc i pins s3 σ3 H3 X.xe I3 (stat fr3) st3 go) fun r s4 ⟨u, hr, h4⟩ => ?_)
    subst hr
    refine wpAny_passesOwn hp (thn h4 fun _ s5 ⟨x, H5, I5, r5, y5, st5, fr5⟩ => ?_)
    have I5' := I5.pinned (stat fr5) (T.obj _ _ st5)
    refine wpAny_passesOwn hp (thn (hg _ s5 σ3 H5 x u _ I5' r5 (step x H5 y5)) fun _ s6 ⟨σ6, H6, I6, q6⟩ => ?_)
    refine wpAny_passesOwn hp (thn (hb _ s6 σ6 H6 _ I6 q6) fun f s7 q7 => ?_)
    have again : ∀ {σ7 : St} {H7 : Hp}, Inv X (pins ++ pinsAt fp s5.heap) σ7 H7 s7 → N σ7 H7 → ∃ m, m < n ∧ ∃ i σ' H', Inv X pins σ' H' s7 ∧ tn i s7.heap ∧ (∀ b ∈ fp, H' b = none) ∧ W i m σ' H' := fun {σ7 H7} I7 n7 => by
      obtain ⟨m', hm, w7⟩ := hN σ7 H7 n7
      refine ⟨m', hm, i + 1, σ7, H7, I7.unpinned, T.keep _ _ _ st5 fun b hb o e => (I7.pin (b, o) (List.mem_append_right _ (List.mem_append_right _ (mem_pinsAt hb e)))).1, fun b hb => ?_, w7⟩
      obtain ⟨o, e, d⟩ := T.obj _ _ st5 b hb
      exact (I7.pin (b, o) (List.mem_append_right _ (List.mem_append_right _ (mem_pinsAt hb e)))).2.1
    cases f with
    | next => obtain ⟨σ7, H7, I7, n7⟩ := q7; exact again I7 n7
    | cont => obtain ⟨σ7, H7, I7, n7⟩ := q7; exact again I7 n7
    | brk => obtain ⟨σ7, H7, I7, q7⟩ := q7; exact ⟨σ7, H7, I7.unpinned, q7⟩
    | ret v => obtain ⟨x7, σ7, H7, I7, r7, q7⟩ := q7; exact ⟨x7, σ7, H7, I7.unpinned, r7, q7⟩
end

/-! ### the forms one uses -/
end L2

namespace L2
open PySem PySem.Spec PyProof.Rows

abbrev R2 := V → V → Hp → VK → Prop
/-- a two-place operation on values: f is binaryOp op, inplaceOp op or compareOp op -/
def OpR (X : Cx) (f : Value → Value → Sem Value) (r : R2) : Prop :=
  ∀ (pins : List (Addr × Obj)) (s : Shared) (σ : St) (H : Hp) (x y : V) (v u : Value) (Q : VK), Inv X pins σ H s → RelV x v → RelV y u → r x y H Q →
    wpAny (model X.prog X.w) X.A (f v u) (EP X pins σ Q) X.xe s
/-- a call of a value that is known (a builtin, a type) with values -/
def CallR (X : Cx) (f : Value) (r : List V → Hp → VK → Prop) : Prop :=
  ∀ (pins : List (Addr × Obj)) (s : Shared) (σ : St) (H : Hp) (xs : List V) (us : List Value) (Q : VK), Inv X pins σ H s → Vals xs us → r xs H Q →
    wpAny (model X.prog X.w) X.A (call f us) (EP X pins σ Q) X.xe s
def tOp (r : R2) (ta tb : TE) : TE := fun σ H Q => ta σ H fun x H1 => tb σ H1 fun y H2 => r x y H2 Q
/-- ints in, under C, and a value out -/
def rI (C : Int → Int → Prop) (g : Int → Int → V) : R2 := fun x y H Q => ∃ i j, x = .int i ∧ y = .int j ∧ C i j ∧ Q (g i j) H
def rI0 (g : Int → Int → V) : R2 := fun x y H Q => ∃ i j, x = .int i ∧ y = .int j ∧ Q (g i j) H
section
variable {X : Cx} {a b c : Expr} {ta tb tc : TE} {pos : Pos}

theorem binT (ha : PE X a ta) (hb : PE X b tb) {pins : List (Addr × Obj)} {s : Shared} {σ : St} {H : Hp} {R : V → V → Hp → Prop} (I : Inv X pins σ H s)
    (h : ta σ H fun x H1 => tb σ H1 fun y H2 => R x y H2) {Q : Value → Shared → Prop} {f : Value → Value → Sem Value}
    (hf : ∀ v u s2 x y H2, Inv X pins σ H2 s2 → RelV x v → RelV y u → R x y H2 → wpAny (model X.prog X.w) X.A (f v u) Q X.xe s2) :
    wpAny (model X.prog X.w) X.A (eval a X.env) (fun v s₁ => wpAny (model X.prog X.w) X.A (eval b X.env) (fun u s₂ => wpAny (model X.prog X.w) X.A (f v u) Q X.xe s₂) X.xe s₁) X.xe s := by
  refine thn (ha pins s σ H _ I h) fun v s1 ⟨x, H1, I1, r1, q1⟩ => ?_
  refine thn (hb pins s1 σ H1 _ I1 q1) fun u s2 ⟨y, H2, I2, r2, q2⟩ => ?_
  exact hf v u s2 x y H2 I2 r1 r2 q2

theorem pe_op {op : Operator} {r : R2} (ho : OpR X (binaryOp op) r) (ha : PE X a ta) (hb : PE X b tb) : PE X (.BinOp a op b pos) (tOp r ta tb) := by
  intro pins s σ H Q I h
  exact wpAny_BinOp (binT ha hb I h fun v u s2 x y H2 I2 rx ry q => ho pins s2 σ H2 x y v u Q I2 rx ry q)
/-! ### ints -/
theorem opI {f : Value → Value → Sem Value} {C : Int → Int → Prop} {g : Int → Int → Int}
    (rule : ∀ (i j : Int) (t u : Tok) (s : Shared) (Q : Value → Shared → Prop) (E : Value → Shared → Prop), C i j → Q (.int (g i j) s.toks) { s with toks := s.toks + 1 } → wpAny (model X.prog X.w) X.A (f (.int i t) (.int j u)) Q E s) :
    OpR X f (rI C fun i j => .int (g i j)) := by
  intro pins s σ H x y v u Q I rx ry h
  obtain ⟨i, j, rfl, rfl, hc, q⟩ := h
  obtain ⟨t, rfl⟩ := rx
  obtain ⟨t', rfl⟩ := ry
  exact rule i j t t' s _ _ hc ⟨.int (g i j), H, I.tok _, ⟨_, rfl⟩, q⟩
theorem opI0 {f : Value → Value → Sem Value} {g : Int → Int → Int}
    (rule : ∀ (i j : Int) (t u : Tok) (s : Shared) (Q : Value → Shared → Prop) (E : Value → Shared → Prop), Q (.int (g i j) s.toks) { s with toks := s.toks + 1 } → wpAny (model X.prog X.w) X.A (f (.int i t) (.int j u)) Q E s) :
    OpR X f (rI0 fun i j => .int (g i j)) := by
  intro pins s σ H x y v u Q I rx ry h
  obtain ⟨i, j, rfl, rfl, q⟩ := h
  obtain ⟨t, rfl⟩ := rx
  obtain ⟨t', rfl⟩ := ry
  exact rule i j t t' s _ _ ⟨.int (g i j), H, I.tok _, ⟨_, rfl⟩, q⟩
theorem opB0 {f : Value → Value → Sem Value} {g : Int → Int → Bool}
    (rule : ∀ (i j : Int) (t u : Tok) (s : Shared) (Q : Value → Shared → Prop) (E : Value → Shared → Prop), Q (.bool (g i j)) s → wpAny (model X.prog X.w) X.A (f (.int i t) (.int j u)) Q E s) :
    OpR X f (rI0 fun i j => .bl (g i j)) := by
  intro pins s σ H x y v u Q I rx ry h
  obtain ⟨i, j, rfl, rfl, q⟩ := h
  obtain ⟨t, rfl⟩ := rx
  obtain ⟨t', rfl⟩ := ry
  exact rule i j t t' s _ _ ⟨.bl (g i j), H, I, rfl, q⟩

def CPow (i j : Int) : Prop := 0 ≤ j ∧ j ≤ 1000000 ∧ i.natAbs < 2 ^ 64
def CMul (i j : Int) : Prop := (-(2 ^ 64) < i ∧ i < 2 ^ 64) ∨ (-(2 ^ 64) < j ∧ j < 2 ^ 64)
theorem CMul.ok {i j : Int} (h : CMul i j) : IntMulOk i j := by
  rcases h with ⟨h1, h2⟩ | ⟨h1, h2⟩
  · exact .of_left (intBits_le_64 h1 h2)
  · exact .of_right (intBits_le_64 h1 h2)
theorem op_add : OpR X (binaryOp .Add) (rI0 fun i j => .int (i + j)) := opI0 fun _ _ _ _ _ _ _ q => add_int q
theorem op_mul : OpR X (binaryOp .Mult) (rI CMul fun i j => .int (i * j)) := opI fun _ _ _ _ _ _ _ hc q => mul_int q hc.ok
/-- % by a positive divisor of any size -/
theorem op_mod : OpR X (binaryOp .Mod) (rI (fun _ j => 0 < j) fun i j => .int (i % j)) := opI fun i j _ _ _ _ _ hc q => by
  have h1 : (0 : Int) < j := hc
  exact mod_int' (by omega) (by rw [Int.fmod_eq_emod_of_nonneg i (by omega)]; exact q)
theorem op_pow : OpR X (binaryOp .Pow) (rI CPow fun i j => .int (i ^ j.toNat)) := opI fun _ _ _ _ _ _ _ hc q => pow_int_small hc.1 hc.2.1 hc.2.2 q
/-! ### bools among ints: n += (a < b) -/
end

/-! ### comparisons -/
/-- the scalars that == tells apart as data does -/
def scal : V → V → Bool
  | .non, .non => true | .non, .int _ => true | .int _, .non => true | .non, .bl _ => true | .bl _, .non => true | .non, .str _ => true | .str _, .non => true
  | .int _, .int _ => true | .bl _, .bl _ => true | .str _, .str _ => true | .byt _, .byt _ => true
  | .int _, .str _ => true | .str _, .int _ => true | .bl _, .str _ => true | .str _, .bl _ => true
  | _, _ => false
def rEq : R2 := fun x y H Q => scal x y = true ∧ Q (.bl (decide (x = y))) H
theorem dec_int {i j : Int} : decide (V.int i = V.int j) = (i == j) := by
  rw [Bool.eq_iff_iff]
  simp
theorem dec_bl {i j : Bool} : decide (V.bl i = V.bl j) = (i == j) := by
  rw [Bool.eq_iff_iff]
  simp
theorem dec_str {i j : Str} : decide (V.str i = V.str j) = (i == j) := by
  rw [Bool.eq_iff_iff]
  simp
theorem dec_byt {i j : Array UInt8} : decide (V.byt i = V.byt j) = (i.toList == j.toList) := by
  rw [Bool.eq_iff_iff]
  cases i
  cases j
  simp

section
variable {X : Cx} {a b c : Expr} {ta tb tc : TE} {pos : Pos}
theorem fin_bl {pins : List (Addr × Obj)} {σ : St} {H : Hp} {s : Shared} {Q : VK} {k k' : Bool} (I : Inv X pins σ H s) (q : Q (.bl k) H) (e : k = k') : EP X pins σ Q (.bool k') s := by
  subst e
  exact ⟨.bl k, H, I, rfl, q⟩
theorem op_eq : OpR X (compareOp .Eq) rEq := by
  intro pins s σ H x y v u Q I rx ry h
  obtain ⟨hs, q⟩ := h
  cases x with
  | non =>
    cases rx
    cases y with
    | non => cases ry; exact PySem.EqNone.eq_none_none (fin_bl I q (by simp))
    | bl j => cases ry; exact PySem.EqNone.eq_none_bool (fin_bl I q (by simp))
    | int j => obtain ⟨t', rfl⟩ := ry; exact PySem.EqNone.eq_none_int (fin_bl I q (by simp))
    | str j => obtain ⟨t', rfl⟩ := ry; exact PySem.EqNone.eq_none_str (fin_bl I q (by simp))
    | _ => exact absurd (show false = true from hs) Bool.false_ne_true
  | bl i =>
    cases rx
    cases y with
    | non => cases ry; exact PySem.EqNone.eq_bool_none (fin_bl I q (by simp))
    | bl j => cases ry; exact eq_bool (fin_bl I q dec_bl)
    | str j => obtain ⟨t', rfl⟩ := ry; exact PySem.EqMixed.eq_bool_str (fin_bl I q (by simp))
    | _ => exact absurd (show false = true from hs) Bool.false_ne_true
  | int i =>
    obtain ⟨t, rfl⟩ := rx
    cases y with
    | non => cases ry; exact PySem.EqNone.eq_int_none (fin_bl I q (by simp))
    | int j => obtain ⟨t', rfl⟩ := ry; exact eq_int (fin_bl I q dec_int)
    | str j => obtain ⟨t', rfl⟩ := ry; exact PySem.EqMixed.eq_int_str (fin_bl I q (by simp))
    | _ => exact absurd (show false = true from hs) Bool.false_ne_true
  | str i =>
    obtain ⟨t, rfl⟩ := rx
    cases y with
    | non => cases ry; exact PySem.EqNone.eq_str_none (fin_bl I q (by simp))
    | bl j => cases ry; exact PySem.EqMixed.eq_str_bool (fin_bl I q (by simp))
    | int j => obtain ⟨t', rfl⟩ := ry; exact PySem.EqMixed.eq_str_int (fin_bl I q (by simp))
    | str j => obtain ⟨t', rfl⟩ := ry; exact eq_str (fin_bl I q dec_str)
    | _ => exact absurd (show false = true from hs) Bool.false_ne_true
  | byt i =>
    obtain ⟨t, rfl⟩ := rx
    cases y with
    | byt j => obtain ⟨t', rfl⟩ := ry; exact PySem.W.eq_bytes (fin_bl I q dec_byt)
    | _ => exact absurd (show false = true from hs) Bool.false_ne_true
  | _ => cases y <;> exact absurd (show false = true from hs) Bool.false_ne_true
theorem op_lt : OpR X (compareOp .Lt) (rI0 fun i j => .bl (decide (i < j))) := opB0 fun _ _ _ _ _ _ _ q => lt_int q
theorem op_gt : OpR X (compareOp .Gt) (rI0 fun i j => .bl (decide (j < i))) := opB0 fun _ _ _ _ _ _ _ q => gt_int q
/-- two rules for one operation: by cases -/
theorem OpR.or {f : Value → Value → Sem Value} {r r' : R2} (h : OpR X f r) (h' : OpR X f r') : OpR X f (fun x y H Q => r x y H Q ∨ r' x y H Q) := by
  intro pins s σ H x y v u Q I rx ry q
  rcases q with q | q
  · exact h pins s σ H x y v u Q I rx ry q
  · exact h' pins s σ H x y v u Q I rx ry q

theorem nomark (b : Expr) {op : CmpOp} (h : op ≠ .In := by decide) (h2 : op ≠ .NotIn := by decide) : behindInMarks op b = false := by
  have e1 : (op == CmpOp.In) = false := by cases op <;> first | rfl | exact absurd rfl h
  have e2 : (op == CmpOp.NotIn) = false := by cases op <;> first | rfl | exact absurd rfl h2
  cases b <;> simp [behindInMarks, e1, e2]
/-- a comparison as a value; hm: nomark b, or (for in, not in) by with_unfolding_all rfl -/
theorem pe_cmpR {op : CmpOp} {r : R2} (ho : OpR X (compareOp op) r) (ha : PE X a ta) (hb : PE X b tb) (hm : behindInMarks op b = false) : PE X (.Compare a [op] [b] pos) (tOp r ta tb) := by
  intro pins s σ H Q I h
  exact wpAny_Compare1 (binT ha hb I h fun v u s2 x y H2 I2 rx ry q => ho pins s2 σ H2 x y v u Q I2 rx ry q) hm
/-- a reading of a value as a test -/
def tTest (t : TE) : TT := fun σ H Q => t σ H fun x H' => ∃ k, x = .bl k ∧ Q k H'
theorem pt_cmpR {op : CmpOp} {r : R2} (ho : OpR X (compareOp op) r) (ha : PE X a ta) (hb : PE X b tb) (hm : behindInMarks op b = false) : PT X (.Compare a [op] [b] pos) (tTest (tOp r ta tb)) := by
  intro pins s σ H Q I h
  refine wpAny_isTrue_Compare1 (thn (ha pins s σ H _ I h) fun v s1 ⟨x, H1, I1, r1, q1⟩ => thn (hb pins s1 σ H1 _ I1 q1) fun u s2 ⟨y, H2, I2, r2, q2⟩ =>
    thn (ho pins s2 σ H2 x y v u _ I2 r1 r2 q2) fun c s3 ⟨z, H3, I3, r3, k, e, q3⟩ => ?_) hm
  subst e
  cases r3
  exact wpAny_truthy_bool ⟨H3, I3, q3⟩
/-! ### truth -/
theorem line63 : (sizeLine : Nat) < 2 ^ 63 := by rw [sizeLine_eq]; decide
/-! ### strs and bytes -/
/-! ### scalar builtins, by CallR -/
theorem vals1 {x : V} {us : List Value} (r : Vals [x] us) : ∃ u, us = [u] ∧ RelV x u := by
  cases r with
  | cons r1 r2 => cases r2; exact ⟨_, rfl, r1⟩
end
end L2

namespace L2
open PySem PySem.Spec PyProof.Rows

/-! ### an instance, its attributes a map -/
structure ObjM (h : Heap) (x dx C : Addr) (mA : Str → Option Value) : Prop where
  obj : h.get? x = some (PySem.W.instObj C dx)
  ns : h.Ns1 dx mA
  ne : dx ≠ x

theorem lookIn_ns {h : Heap} {dx : Addr} {mA : Str → Option Value} (n : h.Ns1 dx mA) : ∃ od, h.get? dx = some od ∧ ∀ name, PySem.W.lookIn name od = some (mA name) := by
  obtain ⟨o, es, ep, ho, hd, hk, _, hm⟩ := n
  refine ⟨o, ho, fun name => ?_⟩
  have e := hm name
  unfold nsFind findBy at e
  rw [← Array.find?_toList] at e
  unfold PySem.W.lookIn
  rw [hd]
  dsimp only
  split
  · rename_i y q
    rw [q] at e
    exact congrArg some e
  · rename_i q
    rw [q] at e
    have a : es.toList.any (·.refKey) = false := by
      rw [List.any_eq_false]
      intro y hy
      obtain ⟨z, t, hkey⟩ := hk y (Array.mem_toList_iff.mp hy)
      simp [DictEntry.refKey, hkey]
    have a' : ¬ es.toList.any (·.refKey) = true := by rw [a]; exact Bool.false_ne_true
    rw [if_neg a']
    exact congrArg some e

theorem ObjM.look {h : Heap} {x dx C : Addr} {mA : Str → Option Value} (I : ObjM h x dx C mA) : ∃ od, PySem.W.InstAt h x (PySem.W.instObj C dx) C (some od) ∧ ∀ name, PySem.W.lookIn name od = some (mA name) :=
  let ⟨od, ho, hl⟩ := lookIn_ns I.ns
  ⟨od, ⟨I.obj, rfl, rfl, ho⟩, hl⟩

section
variable {prog : Program} {w : World} {A : Around} {E : Value → Shared → Prop} {s : Shared} {K : PySem.W.Frag} {x dx C f : Addr} {mA : Str → Option Value} {name : Str} {v : Value}

end

/-! ### the attributes as a list of pairs -/
section
variable {P : Program} {w : World} {H H' : Hp} {h h' : Heap} {a C dx : Addr} {fs fs' : List (Str × V)}
theorem ins_get (hok : HOk P w H h) (e : H a = some (.ins C dx fs)) : ∃ mA, ObjM h a dx C mA ∧ (∀ f, RelO (fs.lookup f) (mA f)) ∧ PySem.Within mA (fs.map (·.1)) ∧ fs.length ≤ 1000 ∧ H dx = some (.own a) := by
  obtain ⟨d, z, ne, ob, mA, n, r, q⟩ := (show ObjOk P w H h a (.ins C dx fs) from hok a _ e)
  exact ⟨mA, ⟨ob, n, ne⟩, r, q, z, d⟩
end

/-! ### what of the text a class must have -/
structure Cls (K : PySem.W.Frag) (C : Addr) : Prop where
  pg : PySem.W.plainGet K C Str.empty = true
  hd : PySem.W.hasDictIn K C = true
  po : PySem.W.plainOver K C = true
  sa : PySem.W.findIn K (.ref C) "__setattr__" = some (some (.builtin "object.__setattr__"))
theorem Cls.get {K : PySem.W.Frag} {C : Addr} (c : Cls K C) (f : Str) : PySem.W.plainGet K C f = true := c.pg
section
variable {X : Cx} {pins : List (Addr × Obj)} {σ : St} {H : Hp} {s : Shared} {a C dx : Addr} {fs : List (Str × V)} {f : Str} {v : V} {A : Around} {E : Value → Shared → Prop}

/-- a new instance, tracked, without attributes -/
theorem Inv.made (I : Inv X pins σ H s) : Inv X pins σ (upd (upd H s.heap.objs.size (.own (s.heap.objs.size + 1))) (s.heap.objs.size + 1) (.ins C s.heap.objs.size []))
    { s with heap := (s.heap.push PySem.W.emptyDict).push (PySem.W.instObj C s.heap.objs.size) } := by
  have e1 : (s.heap.push PySem.W.emptyDict).get? s.heap.objs.size = some PySem.W.emptyDict := Heap.get?_push_size s.heap rfl
  have e2 : ((s.heap.push PySem.W.emptyDict).push (PySem.W.instObj C s.heap.objs.size)).get? (s.heap.objs.size + 1) = some (PySem.W.instObj C s.heap.objs.size) := by
    have := Heap.get?_push_size (s.heap.push PySem.W.emptyDict) (o := PySem.W.instObj C s.heap.objs.size) rfl
    rwa [Heap.size_push] at this
  have e3 : (s.heap.push PySem.W.emptyDict).Ns s.heap.objs.size (fun _ => none) := ⟨PySem.W.emptyDict, #[], _, e1, rfl, (fun e he => absurd he (by simp)), fun _ => rfl⟩
  have I1 := I.laid (a := s.heap.objs.size) (o := .own (s.heap.objs.size + 1)) (h' := s.heap.push PySem.W.emptyDict) (t' := s.toks) (fun b u q => Heap.get?_push_of_some _ q) (Nat.le_refl _) ⟨_, e1⟩
  refine I1.laid (a := s.heap.objs.size + 1) (o := .ins C s.heap.objs.size []) (t' := s.toks) (fun b u q => Heap.get?_push_of_some _ q) (Nat.le_of_eq (Heap.size_push _ _)) ?_
  have ne : s.heap.objs.size ≠ s.heap.objs.size + 1 := Nat.ne_of_lt (Nat.lt_succ_self _)
  refine ⟨by rw [upd_ne ne, upd_same], Nat.zero_le _, ne, e2, fun _ => none, (Heap.Ns1.of_empty e3).at fun o q => Heap.get?_push_of_some _ q, fun _ => True.intro, fun y hy => absurd rfl hy⟩

/-- e.f where nothing but the object is asked: through attributeBase (super) and the last hold -/
theorem attr_of {prog : Program} {w : World} {env : Env} {e : Expr} {f : Str} {pos : Pos} {s : Shared} {Q : Value → Shared → Prop} (hb : attributeBase e f env (eval e env) = eval e env)
    (h : wpAny (model prog w) A (eval e env) (fun o s₁ => wpAny (model prog w) A (getAttr o f true) Q E s₁) E s) : wpAny (model prog w) A (eval (.Attribute e f pos) env) Q E s :=
  Attribute_any_ h (by rw [arm_eval_Attribute, hb])
end

/-! ### readings and rules -/
section
variable {X : Cx} {o e value : Expr} {f : Str} {pos pos' tpos : Pos} {ta tv : TE}
end

/-! ### isinstance -/
section
variable {X : Cx} {pins : List (Addr × Obj)} {σ : St} {H : Hp} {s : Shared} {A : Around} {E : Value → Shared → Prop} {Q : Value → Shared → Prop} {c : Value} {b : Bool}
/-- the type of a value, as the fragment's deciders take it; for an instance its class -/
inductive TyOf (K : PySem.W.Frag) (H : Hp) : V → Value → Prop where
  | non : TyOf K H .non (.type "NoneType")
  | bl (x : Bool) : TyOf K H (.bl x) (.type "bool")
  | int (i : Int) : TyOf K H (.int i) (.type "int")
  | str (x : Str) : TyOf K H (.str x) (.type "str")
  | flt (x : UInt64) : TyOf K H (.flt x) (.type "float")
  | lst {a : Addr} {xs : List V} (e : H a = some (.lst xs)) : TyOf K H (.ref a) (.type "list")
  | frz {a : Addr} {o : Obj} {xs : List V} (e : H a = some (.frz o (.lst xs))) : TyOf K H (.ref a) (.type "list")
  | tup {a : Addr} {xs : List V} (e : H a = some (.tup xs)) : TyOf K H (.ref a) (.type "tuple")
  | dK {a : Addr} {kvs : List (Key × V)} (e : H a = some (.dK kvs)) : TyOf K H (.ref a) (.type "dict")
  | dT {a : Addr} {kvs : List (List Key × V)} (e : H a = some (.dT kvs)) : TyOf K H (.ref a) (.type "dict")
  | ins {a C dx : Addr} {fs : List (Str × V)} (e : H a = some (.ins C dx fs)) (cl : Cls K C) (ha : PySem.W.findIn K (.ref C) "__class__" = some (some (.builtin "object.__class__")))
      (hn : PySem.W.specialIn K (.builtin "object.__class__") "__get__" = some (some (.builtin "getset_descriptor.__get__"))) (htk : PySem.W.takesIn K (.builtin "object.__class__") = some true)
      (hm : PySem.W.mroIn K C (.type "object") = some true) : TyOf K H (.ref a) (.ref C)
/-- isinstance(x, c) for one class c, a built-in or an own one: kitOne's answer -/
theorem isinst_ok {x : V} {u t : Value} (I : Inv X pins σ H s) (rx : RelV x u) (ty : TyOf X.K H x t) (e : PySem.W.kitOne X.K t c = some b) (h : ∀ tk, Q (.bool b) { s with toks := tk }) :
    wpAny (model X.prog X.w) A (call (.builtin "isinstance") [u, c]) Q E s := by
  cases ty with
  | non => cases (show u = Value.none from rx); exact PySem.W.kia_one PySem.W.kitx_none I.kIn True.intro e (fun z => nomatch z) h
  | bl y => cases (show u = Value.bool y from rx); exact PySem.W.kia_one PySem.W.kitx_bool I.kIn True.intro e (fun z => nomatch z) h
  | int i => obtain ⟨t, q⟩ := (show ∃ t, u = Value.int i t from rx); cases q; exact PySem.W.kia_one PySem.W.kitx_int I.kIn True.intro e (fun z => nomatch z) h
  | str y => obtain ⟨t, q⟩ := (show ∃ t, u = Value.str y t from rx); cases q; exact PySem.W.kia_one PySem.W.kitx_str I.kIn True.intro e (fun z => nomatch z) h
  | flt y => obtain ⟨t, q⟩ := (show ∃ t, u = Value.float y t from rx); cases q; exact PySem.W.kia_one PySem.W.kitx_float I.kIn True.intro e (fun z => nomatch z) h
  | @lst a xs ea =>
    cases (show u = Value.ref a from rx)
    obtain ⟨_, _, n, _, h1⟩ := (show ObjOk X.prog X.w H s.heap a (.lst xs) from I.hok a _ ea)
    exact PySem.W.kia_one PySem.W.kitx_list I.kIn ⟨_, h1, rfl⟩ e (fun z => nomatch z) h
  | @frz a ob xs ea =>
    cases (show u = Value.ref a from rx)
    obtain ⟨_, _, _, n, _, h1⟩ := (show ObjOk X.prog X.w H s.heap a (.frz ob (.lst xs)) from I.hok a _ ea)
    exact PySem.W.kia_one PySem.W.kitx_list I.kIn ⟨_, h1, rfl⟩ e (fun z => nomatch z) h
  | @tup a xs ea =>
    cases (show u = Value.ref a from rx)
    obtain ⟨_, _, _, p⟩ := (show ObjOk X.prog X.w H s.heap a (.tup xs) from I.hok a _ ea)
    obtain ⟨o, h1, h2, _⟩ := p
    exact PySem.W.kia_one PySem.W.kitx_tuple I.kIn ⟨o, h1, h2.1⟩ e (fun z => nomatch z) h
  | @dK a kvs ea =>
    cases (show u = Value.ref a from rx)
    obtain ⟨_, _, vs, _, p⟩ := (show ObjOk X.prog X.w H s.heap a (.dK kvs) from I.hok a _ ea)
    obtain ⟨o, es, ep, h1, h2, _⟩ := p
    exact PySem.W.kia_one PySem.W.kitx_dict I.kIn ⟨o, h1, h2.1⟩ e (fun z => nomatch z) h
  | @dT a kvs ea =>
    cases (show u = Value.ref a from rx)
    obtain ⟨_, _, xs, _, o, es, ep, h1, h2, _⟩ := (show ObjOk X.prog X.w H s.heap a (.dT kvs) from I.hok a _ ea)
    exact PySem.W.kia_one PySem.W.kitx_dict I.kIn ⟨o, h1, h2.1⟩ e (fun z => nomatch z) h
  | @ins a C dx fs ea cl ha hn htk hm =>
    cases (show u = Value.ref a from rx)
    obtain ⟨mA, O, _⟩ := ins_get I.hok ea
    obtain ⟨od, J, _⟩ := O.look
    exact PySem.W.kia_one (PySem.W.kitx_own (cl.get _) cl.hd ha hn htk hm) I.kIn J e (fun z => nomatch z) h
end
end L2

namespace L2
open PySem PySem.Spec PyProof.Rows

/-! ### room -/
structure Room (k : Nat) (A : Around) : Prop where
  hd : A.handled = none
  dp : A.depth + 3 * k + 5 < recursionLimit
  un : A.units + 16 * k + 200 < cLine
theorem Room.mono {j k : Nat} {A : Around} (r : Room k A) (h : j ≤ k) : Room j A := ⟨r.hd, by have := r.dp; omega, by have := r.un; omega⟩
theorem Room.deeper {k : Nat} {A : Around} (r : Room (k + 1) A) (env : Env) : Room k (A.deeper env) :=
  ⟨r.hd, by have := r.dp; show A.depth + 1 + 3 * k + 5 < _; omega, by have := r.un; show A.units + 3 + 16 * k + 200 < _; omega⟩
theorem Room.in1 {k : Nat} {A : Around} (r : Room (k + 1) A) : Room k A.in1 :=
  ⟨r.hd, by have := r.dp; show A.depth + 3 * k + 5 < _; omega, by have := r.un; show A.units + 1 + 16 * k + 200 < _; omega⟩
theorem make_depth {A : Around} {C : Addr} {us : List Value} {kw : List (Str × Value)} : (A.under (.builtin "type.__call__" ⟨.ref C :: us, kw⟩)).depth = A.depth + 1 := by
  first | rfl | simp [Around.under, Code.weight, Code.isCreation, Code.isGuard, Code.isCaller, Code.frames, Code.isFrame, guardIds]
theorem make_units {A : Around} {C : Addr} {us : List Value} {kw : List (Str × Value)} : (A.under (.builtin "type.__call__" ⟨.ref C :: us, kw⟩)).units = A.units + 1 := by
  first | rfl | simp [Around.under, Code.cUnits, Code.frames, Code.isFrame]
theorem Room.make {k : Nat} {A : Around} (r : Room (k + 1) A) (C : Addr) (us : List Value) (kw : List (Str × Value)) : Room k (A.under (.builtin "type.__call__" ⟨.ref C :: us, kw⟩)) :=
  ⟨r.hd, by have := r.dp; rw [make_depth]; omega, by have := r.un; rw [make_units]; omega⟩
theorem Room.depth {k : Nat} {A : Around} (r : Room k A) : A.depth < recursionLimit := by have := r.dp; omega
theorem Room.units {k : Nat} {A : Around} (r : Room k A) : A.units + 64 < cLine := by have := r.un; omega
/-! ### argument lists and displays -/
def tNil : TA := fun _ H Q => Q [] H
def tCons (ta : TE) (tr : TA) : TA := fun σ H Q => ta σ H fun x H1 => tr σ H1 fun xs H2 => Q (x :: xs) H2
section
variable {X : Cx} {e : Expr} {es : List Expr} {te : TE} {t : TA} {pos : Pos}
theorem pa_nil : PA X [] tNil := fun _ _ _ _ H Q I h => Calls.spliced_nil ⟨[], H, I, .nil, h⟩
theorem pa_cons (ha : PE X e te) (hr : PA X es t) (hs : starEach (e :: es) X.env = (false, eval e X.env) :: starEach es X.env := by rfl) : PA X (e :: es) (tCons te t) := by
  intro pos pins s σ H Q I h
  rw [hs]
  show wpAny _ _ (spliced ((false, eval e X.env) :: backTo pos (starEach es X.env))) _ _ s
  refine Calls.spliced_cons (thn (ha pins s σ H _ I h) fun u s1 ⟨x, H1, I1, r1, q1⟩ => ?_)
  exact thn (hr pos pins s1 σ H1 _ I1 q1) fun us s2 ⟨xs, H2, I2, r2, q2⟩ => ⟨x :: xs, H2, I2, .cons r1 r2, q2⟩

/-- a tuple, a list of written items -/
def tTup (t : TA) : TE := fun σ H Q => t σ H fun xs H1 => xs.length ≤ sizeLine ∧ ∀ p, H1 p = none → Q (.ref p) (upd H1 p (.tup xs))
def tLst (t : TA) : TE := fun σ H Q => t σ H fun xs H1 => xs.length ≤ sizeLine ∧ ∀ p, H1 p = none → Q (.ref p) (upd H1 p (.lst xs))
theorem pe_tup {x1} (h : PA X es t) : PE X (.Tuple es x1 pos) (tTup t) := by
  intro pins s σ H Q I hq
  refine wpAny_Tuple_spliced (thn (h pos pins s σ H _ I hq) fun us s1 ⟨xs, H1, I1, r, z, q⟩ => ⟨by rw [← r.length]; exact z, ?_⟩)
  have hf : H1 s1.heap.objs.size = none := I1.hok.fresh (Nat.le_refl _)
  refine ⟨.ref s1.heap.objs.size, upd H1 s1.heap.objs.size (.tup xs), I1.laid (t' := s1.toks) (fun b u e => Heap.get?_push_of_some _ e) (Nat.le_refl _) ?_, rfl, q _ hf⟩
  exact ⟨z, us, r, ⟨_, Heap.get?_push_size _ rfl, ⟨rfl, rfl⟩, _, rfl⟩⟩
theorem pe_lst (h : PA X es t) : PE X (.List es pos) (tLst t) := by
  intro pins s σ H Q I hq
  refine wpAny_List_spliced (thn (h pos pins s σ H _ I hq) fun us s1 ⟨xs, H1, I1, r, z, q⟩ => ⟨by rw [← r.length]; exact z, ?_⟩)
  have hf : H1 s1.heap.objs.size = none := I1.hok.fresh (Nat.le_refl _)
  refine ⟨.ref s1.heap.objs.size, upd H1 s1.heap.objs.size (.lst xs), I1.laid (t' := s1.toks) (fun b u e => Heap.get?_push_of_some _ e) (Nat.le_refl _) ?_, rfl, q _ hf⟩
  exact ⟨z, us, 0, r, Heap.get?_push_size _ rfl⟩
end

/-! ### what a def promises -/
/-- a def's promise: the bound arguments in the parameters' order, the heap, the wanted end, the wanted exception -/
abbrev Sp := List V → Hp → VK → XK → Prop
/-- how an exception lies behind a call (file 08 gives it): the callers' frames, abstract heap and state ahead of the call, the wish, the exception, the state -/
abbrev CXT := List Env → Hp → Shared → XK → Value → Shared → Prop

/-- the state at a call -/
structure Env0 (P : Program) (w : World) (K : PySem.W.Frag) (mg : Str → Option Value) (base : Heap) (A : Around) (outer : List Env) (s : Shared) (H : Hp) : Prop where
  frames : A.frames = some outer
  mod : Mod K mg base
  bs : ∀ b o, base.get? b = some o → s.heap.get? b = some o ∧ H b = none
  bsz : base.objs.size ≤ s.heap.objs.size
  funs : s.heap.FunFrames base outer
  frf : ∀ b ∈ frs outer, H b = none
  hok : HOk P w H s.heap
  bare : AllBare s.gens
/-- a call's end -/
def CE (outer : List Env) (P : Program) (w : World) (H : Hp) (s : Shared) (Q : VK) (u : Value) (s' : Shared) : Prop :=
  ∃ v H', s'.os = s.os ∧ AllBare s'.gens ∧ Un (frs outer) [] H H' s.heap s'.heap ∧ HOk P w H' s'.heap ∧ RelV v u ∧ Q v H'
def CR (CX : CXT) (outer : List Env) (P : Program) (w : World) (H : Hp) (s : Shared) (Q : VK) (E : XK) (r : Result) (s' : Shared) : Prop :=
  match r with
  | .ok (.ret u) => CE outer P w H s Q u s'
  | .ok _ => False
  | .error e => CX outer H s E e s'
structure FnOk (P : Program) (w : World) (K : PySem.W.Frag) (mg : Str → Option Value) (base : Heap) (CX : CXT) (k : Nat) (f : Addr) (fd : FuncData) (ps : List Str) (sp : Sp) : Prop where
  len : ∀ vs H Q E, sp vs H Q E → vs.length = ps.length
  run : ∀ (A : Around) (outer : List Env) (s : Shared) (H : Hp) (args : Args) (us : List Value) (vs : List V) (Q : VK) (E : XK), Room k A → Env0 P w K mg base A outer s H → BindsTo s fd args (ps.zip us) → Vals vs us → sp vs H Q E →
    codeAny (model P w) A (.call (.ref f) args) (CR CX outer P w H s Q E) s
theorem FnOk.mono {P : Program} {w : World} {K : PySem.W.Frag} {mg : Str → Option Value} {base : Heap} {CX : CXT} {j k : Nat} {f : Addr} {fd : FuncData} {ps : List Str} {sp : Sp} (F : FnOk P w K mg base CX j f fd ps sp) (h : j ≤ k) :
    FnOk P w K mg base CX k f fd ps sp := ⟨F.len, fun A outer s H args us vs Q E hr => F.run A outer s H args us vs Q E (hr.mono h)⟩
/-- a weaker promise -/
theorem FnOk.imp {P : Program} {w : World} {K : PySem.W.Frag} {mg : Str → Option Value} {base : Heap} {CX : CXT} {k : Nat} {f : Addr} {fd : FuncData} {ps : List Str} {sp sp' : Sp} (F : FnOk P w K mg base CX k f fd ps sp)
    (h : ∀ vs H Q E, sp' vs H Q E → sp vs H Q E) : FnOk P w K mg base CX k f fd ps sp' :=
  ⟨fun vs H Q E q => F.len vs H Q E (h _ _ _ _ q), fun A outer s H args us vs Q E hr he hb hv hs => F.run A outer s H args us vs Q E hr he hb hv (h _ _ _ _ hs)⟩

theorem Env0.make {P : Program} {w : World} {K : PySem.W.Frag} {mg : Str → Option Value} {base : Heap} {A : Around} {outer : List Env} {s : Shared} {H : Hp} (e : Env0 P w K mg base A outer s H) (C : Addr) (us : List Value) (kw : List (Str × Value)) :
    Env0 P w K mg base (A.under (.builtin "type.__call__" ⟨.ref C :: us, kw⟩)) outer s H := ⟨by first | exact e.frames | (simpa [Around.under, Code.envs, Code.isFrame, pushEnvs] using e.frames), e.mod, e.bs, e.bsz, e.funs, e.frf, e.hok, e.bare⟩
theorem Env0.in1 {P : Program} {w : World} {K : PySem.W.Frag} {mg : Str → Option Value} {base : Heap} {A : Around} {outer : List Env} {s : Shared} {H : Hp} (e : Env0 P w K mg base A outer s H) :
    Env0 P w K mg base A.in1 outer s H := ⟨e.frames, e.mod, e.bs, e.bsz, e.funs, e.frf, e.hok, e.bare⟩

section
variable {X : Cx} {pins : List (Addr × Obj)} {σ : St} {H : Hp} {s s' : Shared}
/-- from a body: what a callee wants -/
theorem Inv.env0 (I : Inv X pins σ H s) : Env0 X.prog X.w X.K X.mg X.base X.A X.stack s H :=
  ⟨I.ok.frames, I.ok.mod, I.bs, Nat.le_trans I.ok.bsz I.sz, I.stack, I.stkFree, I.hok, I.bare⟩
/-- behind a call -/
theorem Inv.after {Q : VK} {u : Value} (I : Inv X pins σ H s) (h : CE X.stack X.prog X.w H s Q u s') : EP X pins σ Q u s' := by
  obtain ⟨v, H', os, bare, un, hok, r, q⟩ := h
  obtain ⟨hh, g, d, t, os'⟩ := s'
  obtain rfl : os' = s.os := os
  exact ⟨v, H', I.call (h' := hh) (g' := g) (d' := d) (t' := t) (ch := []) un hok bare (fun b z => absurd z (by simp)), r, q⟩
end

/-! ### calls -/
/-- f(..): the written arguments, then the defaults dvs; E: what is wanted of an exception -/
def tCall (sp : Sp) (dvs : List V) (E : XK) (t : TA) : TE := fun σ H Q => t σ H fun vs H1 => sp (vs ++ dvs) H1 Q E
/-- how the parameters are bound: us the positional arguments, kw the keywords' values by name, ds the defaults that fill up -/
def Binds (K : PySem.W.Frag) (fd : FuncData) (ps : List Str) (ds : List Value) : Prop :=
  ∀ (s : Shared) (us : List Value), K.In s.heap → (us ++ ds).length = ps.length → BindsTo s fd ⟨us, []⟩ (ps.zip (us ++ ds))
/-- every parameter is given -/
theorem Binds.all {K : PySem.W.Frag} {fd : FuncData} {ps : List Str} (h : ∀ us : List Value, us.length = ps.length → bindArgs fd ⟨us, []⟩ = pure (ps.zip us)) : Binds K fd ps [] := fun s us _ hl => by
  rw [List.append_nil] at hl ⊢
  exact .of_eq (h us hl)

/-- an exception of a callee reaches what this body wants of exceptions -/
def Passes (CX : CXT) (X : Cx) (E : XK) : Prop := ∀ (pins : List (Addr × Obj)) (σ : St) (H : Hp) (s : Shared) (e : Value) (s' : Shared), Inv X pins σ H s → CX X.stack H s E e s' → X.xe e s'

section
variable {X : Cx} {CX : CXT} {k : Nat} {f C : Addr} {fd : FuncData} {ps : List Str} {sp : Sp} {dvs : List V} {ds : List Value} {E : XK} {x m : Str} {p pos apos : Pos} {e o : Expr} {es : List Expr} {ta : TE} {t : TA}

/-- the callee runs -/
theorem run_fn {pins : List (Addr × Obj)} {σ : St} {H : Hp} {s : Shared} {Q : VK} {us : List Value} {vs : List V} (F : FnOk X.prog X.w X.K X.mg X.base CX k f fd ps sp) (hr : Room k X.A) (hb : Binds X.K fd ps ds) (hd : Vals dvs ds) (hx : Passes CX X E)
    (I : Inv X pins σ H s) (r : Vals vs us) (h : sp (vs ++ dvs) H Q E) : wpAny (model X.prog X.w) X.A (call (.ref f) us) (EP X pins σ Q) X.xe s := by
  have r2 : Vals (vs ++ dvs) (us ++ ds) := r.append hd
  have hl : (us ++ ds).length = ps.length := by rw [← r2.length]; exact F.len _ _ _ _ h
  refine wpAny_call (codeAny_mono (F.run X.A X.stack s H ⟨us, []⟩ (us ++ ds) (vs ++ dvs) Q E hr I.env0 (hb s us I.kIn hl) r2 h) fun r s' hq => ?_)
  cases r with
  | error e => exact hx pins σ H s e s' I hq
  | ok fl =>
    cases fl with
    | ret u => exact I.after hq
    | next => exact False.elim hq
    | brk => exact False.elim hq
    | cont => exact False.elim hq

theorem pe_call (F : FnOk X.prog X.w X.K X.mg X.base CX k f fd ps sp) (hr : Room k X.A) (hg : Gl X x) (hm : X.mg x = some (.ref f)) (hk : PySem.W.keepIn X.K (.ref f) = true) (hb : Binds X.K fd ps ds) (hd : Vals dvs ds) (hx : Passes CX X E)
    (ha : PA X (e :: es) t) (hdb : (x == ("__debug__" : Str)) = false := by decide) (he : starEach (e :: es) X.env = (false, eval e X.env) :: starEach es X.env := by rfl) (hpl : (backTo pos (starEach es X.env)).any (·.1) = false := by rfl) :
    PE X (.Call (.Name x p) (e :: es) [] pos) (tCall sp dvs E t) := by
  intro pins s σ H Q I h
  refine wpAny_Call_Name_kw (ld_glob I hg hm ?_ hdb)
  refine PySem.W.callWith_K (h₀ := X.base) I.ok.mod.kin hk (thn (ha pos pins s σ H _ I h) fun us s1 ⟨vs, H1, I1, r, q⟩ => ⟨I1.kIn, ?_⟩) he hpl
  exact run_fn F hr hb hd hx I1 r q
end

/-! ### keywords -/
section
variable {X : Cx} {CX : CXT} {k : Nat} {f C : Addr} {fd : FuncData} {ps ks : List Str} {sp : Sp} {E : XK} {x m : Str} {p pos apos kpos : Pos} {e o : Expr} {es : List Expr} {kws : List Keyword} {te ta : TE} {t tk : TA} {nm : Option Str}
variable {g : List Value → List Value → List Value} {gV : List V → List V → List V}
end

/-! ### a def's body keeps its promise -/
/-- names: the parameters first -/
structure FnScope (N P : List Str) (sc : Scope) : Prop where
  kind : sc.kind = .function
  co : sc.isCoroutine = false
  gen : sc.isGenerator = false
  nd : N.Nodup
  pre : N.take P.length = P
  par : ∀ x ∈ P, sc.names.lookup x = some .local ∨ sc.names.lookup x = some .cell
  nofree : ∀ y ∈ sc.names, y.2 ≠ .free

theorem bindL_out {kindOf : Str → Option NameKind} {x : Str} : ∀ {binds : List (Str × Value)} {m : Str → Option Value}, (∀ v, (x, v) ∉ binds) → bindL kindOf binds m x = m x
  | [], _, _ => rfl
  | (n, v) :: r, m, h => by
    unfold bindL
    rw [bindL_out fun w hw => h w (List.mem_cons_of_mem _ hw)]
    split
    · have : x ≠ n := by rintro rfl; exact h v List.mem_cons_self
      simp [this]
    · rfl
theorem bindC_out {kindOf : Str → Option NameKind} {x : Str} : ∀ {binds : List (Str × Value)} {m : Str → Option Value}, (∀ v, (x, v) ∉ binds) → bindC kindOf binds m x = m x
  | [], _, _ => rfl
  | (n, v) :: r, m, h => by
    unfold bindC
    rw [bindC_out fun w hw => h w (List.mem_cons_of_mem _ hw)]
    split
    · rfl
    · have : x ≠ n := by rintro rfl; exact h v List.mem_cons_self
      simp [this]
theorem bindL_get {kindOf : Str → Option NameKind} {x : Str} {v : Value} : ∀ {P : List Str} {vs : List Value} {i : Nat} {m : Str → Option Value}, P.Nodup → P[i]? = some x → vs[i]? = some v → kindOf x = some .local →
    bindL kindOf (P.zip vs) m x = some v
  | [], _, _, _, _, h, _, _ => by simp at h
  | _ :: _, [], _, _, _, _, h, _ => by simp at h
  | p :: P, w :: vs, 0, m, nd, h1, h2, hk => by
    simp at h1 h2; subst h1; subst h2
    show bindL kindOf ((p, w) :: P.zip vs) m p = _
    unfold bindL
    rw [bindL_out fun v hv => (List.nodup_cons.mp nd).1 (List.of_mem_zip hv).1, if_pos hk]
    simp
  | p :: P, w :: vs, i + 1, m, nd, h1, h2, hk => by
    show bindL kindOf ((p, w) :: P.zip vs) m x = _
    unfold bindL
    exact bindL_get (i := i) (List.nodup_cons.mp nd).2 (by simpa using h1) (by simpa using h2) hk
theorem bindC_get {kindOf : Str → Option NameKind} {x : Str} {v : Value} : ∀ {P : List Str} {vs : List Value} {i : Nat} {m : Str → Option Value}, P.Nodup → P[i]? = some x → vs[i]? = some v → kindOf x ≠ some .local →
    bindC kindOf (P.zip vs) m x = some v
  | [], _, _, _, _, h, _, _ => by simp at h
  | _ :: _, [], _, _, _, _, h, _ => by simp at h
  | p :: P, w :: vs, 0, m, nd, h1, h2, hk => by
    simp at h1 h2; subst h1; subst h2
    show bindC kindOf ((p, w) :: P.zip vs) m p = _
    unfold bindC
    rw [bindC_out fun v hv => (List.nodup_cons.mp nd).1 (List.of_mem_zip hv).1, if_neg hk]
    simp
  | p :: P, w :: vs, i + 1, m, nd, h1, h2, hk => by
    show bindC kindOf ((p, w) :: P.zip vs) m x = _
    unfold bindC
    exact bindC_get (i := i) (List.nodup_cons.mp nd).2 (by simpa using h1) (by simpa using h2) hk

/-- the names' values at the entry -/
def start (N : List Str) (vs : List V) : St := vs.map some ++ List.replicate (N.length - vs.length) none

/-- the context of a def's body, at its entry; an exception leaves the frame, then lies as CX says -/
def cxOf (CX : CXT) (P : Program) (w : World) (K : PySem.W.Frag) (mg : Str → Option Value) (base : Heap) (N : List Str) (qual : Str) (scope : Scope) (f : Addr) (cd : Value) (A : Around) (outer : List Env) (s : Shared) (H : Hp) (E : XK) : Cx where
  prog := P
  w := w
  K := K
  mg := mg
  base := base
  A := A.deeper (envOfC qual scope s.heap.objs.size f cd)
  N := N
  s₀ := s
  H₀ := H
  env := envOfC qual scope s.heap.objs.size f cd
  outer := outer
  stack := envOfC qual scope s.heap.objs.size f cd :: outer
  ex := []
  calm := true
  fn := fun _ => true
  pn := []
  xe := fun e s' => wpAny (model P w) (A.deeper (envOfC qual scope s.heap.objs.size f cd)) (leaving (envOfC qual scope s.heap.objs.size f cd) e) (fun _ s'' => CX outer H s E e s'') (fun e' s'' => CX outer H s E e' s'') s'

theorem cell_has {sc : Scope} {n : Nat} {x : Str} (h : sc.names.lookup x = some .cell) : ∃ c, (cellsFrom n sc.names []).lookup x = some c := by
  have q := PySem.W.cellsFrom_some sc.names n [] (.inl h)
  exact Option.isSome_iff_exists.mp q

theorem inv_start {CX : CXT} {P : Program} {w : World} {K : PySem.W.Frag} {mg : Str → Option Value} {base : Heap} {N ps : List Str} {qual : Str} {scope : Scope} {f : Addr} {cd : Value} {A : Around} {outer : List Env} {s s1 : Shared} {H : Hp} {E : XK} {us : List Value} {vs : List V}
    (S : FnScope N ps scope) (hd : A.handled = none) (e0 : Env0 P w K mg base A outer s H) (hl : vs.length = ps.length) (r : Vals vs us)
    (x : InCallC s s.heap.objs.size (bindL (envOfC qual scope s.heap.objs.size f cd).kindOf (ps.zip us) fun _ => none) (cellsFrom (s.heap.objs.size + 1) scope.names []) (bindC (envOfC qual scope s.heap.objs.size f cd).kindOf (ps.zip us) fun _ => none) s1) :
    Inv (cxOf CX P w K mg base N qual scope f cd A outer s H E) [] (start N vs) H s1 := by
  have hpl : ps.length ≤ N.length := by have := congrArg List.length S.pre; rw [List.length_take] at this; omega
  obtain ⟨h1, tk, rfl, hk⟩ := x.done
  have noA : ∀ b : Addr, b ∉ (cxOf CX P w K mg base N qual scope f cd A outer s H E).ex := fun b z => absurd (show b ∈ ([] : List Addr) from z) (by simp)
  refine ⟨⟨e0.mod, S.kind, rfl, rfl, Nat.le_refl _, fun y z c h1 h2 => ?_, fun y hy => ?_, fun y c _ h => ?_, fun _ => hd, Around.frames_deeper e0.frames, .inr ⟨rfl, rfl⟩, fun b z => absurd z (noA b), e0.bs, e0.bsz, fun b _ _ => noA b, fun b z => absurd z (noA b), e0.funs, e0.frf⟩,
    rfl, e0.bare, Un.kept hk, ⟨_, x.toInCall.ns, fun i y v h1 h2 h3 => ?_⟩, fun y c h => ⟨_, x.cell y c h⟩, e0.hok.fresh (Nat.le_refl _), fun y c h => ?_, fun p hp => absurd (show p ∈ ([] : List (Addr × Obj)) from hp) (by simp), e0.hok.kept hk, ?_⟩
  · exact name_of_addr x.apart (PySem.mem_of_lookup h1) (PySem.mem_of_lookup h2)
  · have hy : scope.names.lookup y = some .cell ∨ scope.names.lookup y = some .free := hy
    rcases hy with hy | hy
    · exact cell_has hy
    · exact absurd rfl (S.nofree _ (PySem.mem_of_lookup hy))
  · exact Nat.le_of_lt (x.above y c (PySem.mem_of_lookup h))
  · have hi : i < vs.length := by
      unfold start at h2
      by_cases hi : i < vs.length
      · exact hi
      · rw [List.getElem?_append_right (by simpa using hi)] at h2
        rw [List.getElem?_replicate] at h2
        split at h2 <;> cases h2
    have ha : vs[i]? = some v := by
      unfold start at h2
      rw [List.getElem?_append_left (by simpa using hi), List.getElem?_map] at h2
      cases e : vs[i]? with
      | none => rw [e] at h2; cases h2
      | some a => rw [e] at h2; cases h2; rfl
    obtain ⟨u, hu, rv⟩ := r.get ha
    have hp : ps[i]? = some y := by
      rw [← S.pre, List.getElem?_take_of_lt (by omega)]; exact h1
    have ndP : ps.Nodup := by rw [← S.pre]; exact S.nd.sublist (List.take_sublist _ _)
    refine ⟨u, rv, ?_⟩
    rcases S.par y (List.mem_of_getElem? hp) with k | k
    · exact .inl ⟨k, bindL_get ndP hp hu k⟩
    · obtain ⟨c, e⟩ := cell_has (n := s.heap.objs.size + 1) k
      refine .inr ⟨.inl k, c, e, ?_⟩
      have q := x.cell y c e
      rw [bindC_get ndP hp hu (by show scope.names.lookup y ≠ _; rw [k]; decide)] at q
      exact q
  · exact e0.hok.fresh (Nat.le_of_lt (x.above y c (PySem.mem_of_lookup h)))
  · unfold start
    show _ = N.length
    rw [List.length_append, List.length_map, List.length_replicate]
    omega

/-- THE RULE: a def (or a method) of the text, by its body. The body's reading t is chosen for each entry; it is run at the parameters' values -/
theorem fn_of {CX : CXT} {P : Program} {w : World} {K : PySem.W.Frag} {mg : Str → Option Value} {base : Heap} {k : Nat} {f : Addr} {name qual : Str} {params : Arguments} {body : List Stmt} {scope : Scope} {dV kV doc pm cdv ct oc : Value} {an od : Option Addr}
    {osl : Array (Option Value)} {N ps : List Str} {sp : Sp} (lk : K.lookup f = some ⟨oc, od, .func (PySem.W.fnOf name qual params body scope dV kV doc pm an cdv ct), osl⟩) (hcd : PySem.W.codeIn K cdv qual = true) (S : FnScope N ps scope)
    (len : ∀ vs H Q E, sp vs H Q E → vs.length = ps.length)
    (hbody : ∀ (A : Around) (outer : List Env) (s : Shared) (H : Hp) (vs : List V) (Q : VK) (E : XK), Room k (A.deeper (envOfC qual scope s.heap.objs.size f cdv)) → sp vs H Q E →
      ∃ t, PSs (cxOf CX P w K mg base N qual scope f cdv A outer s H E) body t ∧ t { nx := fun _ H' => Q .non H', rt := Q } (start N vs) H) :
    FnOk P w K mg base CX (k + 1) f (PySem.W.fnOf name qual params body scope dV kV doc pm an cdv ct) ps sp := by
  refine ⟨len, fun A outer s H args us vs Q E hr e0 hb r hsp => ?_⟩
  have hl := len _ _ _ _ hsp
  have KX : K.In s.heap := e0.mod.kin.keeps fun b o e => (e0.bs b o e).1
  have lim : s.heap.NoLimit := e0.mod.nolimit.keeps fun b o e => (e0.bs b o e).1
  have hkind : ∀ y ∈ ps.zip us, scope.names.lookup y.1 = some .local ∨ (scope.names.lookup y.1 = some .cell ∧ ((cellsFrom (s.heap.objs.size + 1) scope.names []).lookup y.1).isSome = true) := fun ⟨n, v⟩ hy => by
    rcases S.par n (List.of_mem_zip hy).1 with q | q
    · exact .inl q
    · exact .inr ⟨q, PySem.W.cellsFrom_some _ _ _ (.inl q)⟩
  refine codeAny_call_function hr.depth (KX _ _ lk) rfl S.co S.gen rfl (PySem.W.codeRec_of KX hcd) (hb _ _ _ _ ?_)
  refine wpAny_newFunctionEnv_cells S.kind hkind fun env he s1 x => ?_
  subst he
  refine ⟨lim.keeps x.toInCall.keep, codeAny_func ?_⟩
  obtain ⟨t, ht, hq⟩ := hbody A outer s H vs Q E (hr.deeper _) hsp
  have I : Inv (cxOf CX P w K mg base N qual scope f cdv A outer s H E) [] (start N vs) H s1 := inv_start S hr.hd e0 hl r x
  refine wpAny_mono (ht [] s1 (start N vs) H _ I hq) (fun fl s' hs => ?_) fun e s' hs => hs
  have fin : ∀ {σ' : St} {H' : Hp} {v : V} {u : Value}, Inv (cxOf CX P w K mg base N qual scope f cdv A outer s H E) [] σ' H' s' → RelV v u → Q v H' → CE outer P w H s Q u s' :=
    fun {σ' H' v u} J rv q => ⟨v, H', J.os, J.bare, J.base, J.hok, rv, q⟩
  cases fl with
  | ret u =>
    obtain ⟨v, σ', H', J, rv, q⟩ := hs
    exact fin J rv q
  | next =>
    obtain ⟨σ', H', J, q⟩ := hs
    exact fin (v := V.non) (u := Value.none) J rfl q
  | brk =>
    obtain ⟨_, _, _, q⟩ := hs
    exact False.elim q
  | cont =>
    obtain ⟨_, _, _, q⟩ := hs
    exact False.elim q
end L2

namespace L2
open PySem PySem.Spec PyProof.Rows
section
variable {X : Cx} {x : Str} {p pos : Pos} {e : Expr} {es : List Expr} {t : TA} {id T : String} {r : List V → Hp → VK → Prop}

def tCB (r : List V → Hp → VK → Prop) (t : TA) : TE := fun σ H Q => t σ H fun vs H1 => r vs H1 Q
/-- f(e, ..), f a built-in function -/
theorem pe_callB (hc : CallR X (.builtin id) r) (hg : Gl X x) (hm : X.mg x = none) (hv : bootBuiltins x = some (.builtin id)) (ha : PA X (e :: es) t) (hn : x ≠ "__name__" := by decide) (hdb : (x == ("__debug__" : Str)) = false := by decide)
    (he : starEach (e :: es) X.env = (false, eval e X.env) :: starEach es X.env := by rfl) (hpl : (backTo pos (starEach es X.env)).any (·.1) = false := by rfl) : PE X (.Call (.Name x p) (e :: es) [] pos) (tCB r t) := by
  intro pins s σ H Q I h
  refine wpAny_Call_Name_kw (ld_blt I hg hm hv ?_ hn hdb)
  exact PyProof.Rows.callWith_builtin1 (thn (ha pos pins s σ H _ I h) fun us s1 ⟨vs, H1, I1, r1, q1⟩ => hc pins s1 σ H1 vs us Q I1 r1 q1) he hpl
end
end L2

namespace HT
open PySem PyProof.Rows

section
open PySem.SeqAt
open PySem.AutoSeq1 (wpAny_loadPart')
open PySem.MeetsSeq PySem.MeetsSeq2 PySem.MeetsSeq3

end

section
variable {prog : Program} {w : World} {A : Around} {E : Value → Shared → Prop} {s : Shared}

/-! ### t[a:b], not the whole -/
/-- a slice's bound as a place among n (d where it is left out) -/
def sIx (n d : Nat) : Option Int → Nat
  | none => d
  | some v => if v < 0 then (v + (n : Int)).toNat else min v.toNat n
end
end HT

namespace L2
open PySem PySem.Spec PyProof.Rows

/-! ### the parts of a slice -/
abbrev TO := St → Hp → (Option Int → Hp → Prop) → Prop
/-- a slice's part (left out, or an int) -/
def PO (X : Cx) (e : Option Expr) (t : TO) : Prop :=
  ∀ (pins : List (Addr × Obj)) (s : Shared) (σ : St) (H : Hp) (Q : Option Int → Hp → Prop), Inv X pins σ H s → t σ H Q →
    wpAny (model X.prog X.w) X.A (evalPart e X.env) (fun u s' => ∃ o H', Inv X pins σ H' s' ∧ IsPart u o ∧ Q o H') X.xe s
def tNoPart : TO := fun _ H Q => Q none H
def tPart (t : TE) : TO := fun σ H Q => t σ H fun x H1 => ∃ i, x = .int i ∧ Q (some i) H1

section
variable {X : Cx} {e : Expr} {te : TE} {lo hi : Option Expr} {tl th : TO} {pos p2 : Pos}

theorem po_none : PO X none tNoPart := by
  intro pins s σ H Q I h
  rw [evalPart_none]
  exact wpAny_pure ⟨none, H, I, .none, h⟩
theorem po_some (h : PE X e te) : PO X (some e) (tPart te) := by
  intro pins s σ H Q I hw
  rw [evalPart_some]
  refine thn (h pins s σ H _ I hw) fun u s1 ⟨x, H1, I1, r1, q1⟩ => ?_
  obtain ⟨i, rfl, q⟩ := q1
  obtain ⟨t, rfl⟩ := r1
  exact ⟨some i, H1, I1, .int i t, q⟩

/-- what a slice of a value is, by values: the slice object stands at sl -/
def SlR (X : Cx) (r : V → Option Int → Option Int → Hp → VK → Prop) : Prop :=
  ∀ (pins : List (Addr × Obj)) (s : Shared) (σ : St) (H : Hp) (x : V) (v vl vu : Value) (lo hi : Option Int) (sl : Addr) (Q : VK), Inv X pins σ H s → RelV x v → s.heap.IsSliceOf sl vl vu .none → IsPart vl lo → IsPart vu hi → r x lo hi H Q →
    ∃ T id, typeLookup (.type T) "__getitem__" = pure (some (.builtin id)) ∧ s.TypeIs v T ∧ wpAny (model X.prog X.w) X.A (getItem v (.ref sl)) (EP X pins σ Q) X.xe s
theorem SlR.or {r r' : V → Option Int → Option Int → Hp → VK → Prop} (h : SlR X r) (h' : SlR X r') : SlR X (fun x lo hi H Q => r x lo hi H Q ∨ r' x lo hi H Q) := by
  intro pins s σ H x v vl vu lo hi sl Q I rx hs pl pu q
  rcases q with q | q
  · exact h pins s σ H x v vl vu lo hi sl Q I rx hs pl pu q
  · exact h' pins s σ H x v vl vu lo hi sl Q I rx hs pl pu q
def tSl (r : V → Option Int → Option Int → Hp → VK → Prop) (te : TE) (tl th : TO) : TE := fun σ H Q => te σ H fun x H1 => tl σ H1 fun l H2 => th σ H2 fun u H3 => r x l u H3 Q
/-- a[lo:hi], any a -/
theorem pe_slice {r : V → Option Int → Option Int → Hp → VK → Prop} (hr : SlR X r) (he : PE X e te) (hl : PO X lo tl) (hu : PO X hi th) : PE X (.Subscript e (.Slice lo hi none p2) pos) (tSl r te tl th) := by
  intro pins s σ H Q I h
  refine Subscript_ (thn (he pins s σ H _ I h) fun v s1 ⟨x, H1, I1, r1, q1⟩ => ?_)
  refine wpAny_Slice (thn (hl pins s1 σ H1 _ I1 q1) fun vl s2 ⟨l, H2, I2, pl, q2⟩ => thn (hu pins s2 σ H2 _ I2 q2) fun vu s3 ⟨u, H3, I3, pu, q3⟩ => ?_)
  rw [evalPart_none]
  refine wpAny_pure ?_
  have I4 : Inv X pins σ H3 { s3 with heap := s3.heap.push { cls := .type "slice", data := .fields #[vl, vu, .none] } } := I3.kept (t' := s3.toks) fun b ob q => Heap.get?_push_of_some _ q
  obtain ⟨T, id, hT, ht, hg⟩ := hr pins { s3 with heap := s3.heap.push { cls := .type "slice", data := .fields #[vl, vu, .none] } } σ H3 x v vl vu l u s3.heap.objs.size Q I4 r1 (Heap.IsSliceOf.new ..) pl pu q3
  show wpAny (model X.prog X.w) X.A (subscriptTail e (.Slice lo hi none p2) v (.ref s3.heap.objs.size)) (EP X pins σ Q) X.xe { s3 with heap := s3.heap.push { cls := .type "slice", data := .fields #[vl, vu, .none] } }
  exact tail_any (ops := [.ref s3.heap.objs.size, v]) ht hT hg (by with_unfolding_all rfl)

/-- the items of xs[lo:hi] -/
def cutV (xs : List V) (lo hi : Option Int) : List V := (xs.drop (HT.sIx xs.length 0 lo)).take (HT.sIx xs.length xs.length hi - HT.sIx xs.length 0 lo)
theorem cutV_length (xs : List V) (lo hi : Option Int) : (cutV xs lo hi).length ≤ xs.length := by
  unfold cutV
  rw [List.length_take, List.length_drop]
  omega
/-! ### t < u, t + u -/
end
end L2

namespace L2
open PySem PySem.Spec PyProof.Rows

/-! ### places -/
/-- the place that an index of any sign means -/
def ixN (n : Nat) (i : Int) : Option Nat := if 0 ≤ i then (if i < n then some i.toNat else none) else if -(n : Int) ≤ i then some (i + n).toNat else none
def atI {α : Type} (xs : List α) (i : Int) : Option α := (ixN xs.length i).bind fun j => xs[j]?
theorem ixN_seq {n : Nat} {i : Int} {j : Nat} (h : ixN n i = some j) : seqIndex? i n = some j ∧ j < n ∧ -(n : Int) ≤ i ∧ i < n := by
  unfold ixN at h
  by_cases h0 : 0 ≤ i
  · rw [if_pos h0] at h
    by_cases h1 : i < n
    · rw [if_pos h1] at h
      have e : i.toNat = j := Option.some.inj h
      exact ⟨by rw [seqIndex_of h0 h1, e], by omega, by omega, h1⟩
    · rw [if_neg h1] at h; cases h
  · rw [if_neg h0] at h
    by_cases h1 : -(n : Int) ≤ i
    · rw [if_pos h1] at h
      have e : (i + n).toNat = j := Option.some.inj h
      exact ⟨by rw [seqIndex_neg (by omega) h1, e], by omega, h1, by omega⟩
    · rw [if_neg h1] at h; cases h
theorem atI_get {α : Type} {xs : List α} {i : Int} {v : α} (h : atI xs i = some v) : ∃ j, seqIndex? i xs.length = some j ∧ xs[j]? = some v ∧ j < xs.length ∧ -(xs.length : Int) ≤ i ∧ i < xs.length := by
  unfold atI at h
  cases e : ixN xs.length i with
  | none => rw [e] at h; cases h
  | some j =>
    rw [e] at h
    obtain ⟨h1, h2, h3, h4⟩ := ixN_seq e
    exact ⟨j, h1, h, h2, h3, h4⟩
/-! ### what may be subscripted -/
/-- what stands as an index of a plain subscript -/
def PlainIx (b : Expr) : Prop := ∀ o i, subscripted b false o i = operate [o, i] (getItem o i)
/-- a subscript by values -/
def IxR (X : Cx) (r : R2) : Prop :=
  ∀ (value slice : Expr) (pins : List (Addr × Obj)) (s : Shared) (σ : St) (H : Hp) (x y : V) (v u : Value) (Q : VK), Inv X pins σ H s → RelV x v → RelV y u → r x y H Q →
    subscripted slice false v u = operate [v, u] (getItem v u) → wpAny (model X.prog X.w) X.A (subscriptTail value slice v u) (EP X pins σ Q) X.xe s
/-- a call of a builtin's method by values: the receiver, the arguments -/
def MtR (X : Cx) (id : String) (r : V → List V → Hp → VK → Prop) : Prop :=
  ∀ (pins : List (Addr × Obj)) (s : Shared) (σ : St) (H : Hp) (x : V) (xs : List V) (v : Value) (us : List Value) (Q : VK), Inv X pins σ H s → RelV x v → Vals xs us → r x xs H Q →
    wpAny (model X.prog X.w) X.A (call (.builtin id) (v :: us)) (EP X pins σ Q) X.xe s
section
variable {X : Cx} {a b : Expr} {ta tb : TE} {pos : Pos}
theorem IxR.or {r r' : R2} (h : IxR X r) (h' : IxR X r') : IxR X (fun x y H Q => r x y H Q ∨ r' x y H Q) := by
  intro value slice pins s σ H x y v u Q I rx ry q hs
  rcases q with q | q
  · exact h value slice pins s σ H x y v u Q I rx ry q hs
  · exact h' value slice pins s σ H x y v u Q I rx ry q hs
theorem MtR.or {id : String} {r r' : V → List V → Hp → VK → Prop} (h : MtR X id r) (h' : MtR X id r') : MtR X id (fun x xs H Q => r x xs H Q ∨ r' x xs H Q) := by
  intro pins s σ H x xs v us Q I rx rs q
  rcases q with q | q
  · exact h pins s σ H x xs v us Q I rx rs q
  · exact h' pins s σ H x xs v us Q I rx rs q
/-- a[b] -/
theorem pe_ix {r : R2} (hr : IxR X r) (ha : PE X a ta) (hb : PE X b tb) (hs : PlainIx b) : PE X (.Subscript a b pos) (tOp r ta tb) := by
  intro pins s σ H Q I h
  exact Subscript_ (binT ha hb I h fun v u s2 x y H2 I2 rx ry q => hr a b pins s2 σ H2 x y v u Q I2 rx ry q (hs _ _))

def rIxL (K : PySem.W.Frag) : R2 := fun x y H Q => ∃ p xs i v, x = .ref p ∧ y = .int i ∧ SqL K H p xs ∧ atI xs i = some v ∧ Q v H
theorem ix_list : IxR X (rIxL X.K) := by
  intro value slice pins s σ H x y v u Q I rx ry h hs
  obtain ⟨p, xs, i, z, rfl, rfl, hq, he, q⟩ := h
  cases rx
  obtain ⟨t, rfl⟩ := ry
  obtain ⟨its, r, pl, hz⟩ := I.list hq
  obtain ⟨j, h1, h2, h3, h4, h5⟩ := atI_get he
  obtain ⟨w, ew, rw'⟩ := r.get h2
  have hl := r.length
  have hn := line63
  have fin : EP X pins σ Q w s := ⟨z, H, I, rw', q⟩
  by_cases h0 : 0 ≤ i
  · have hj : i.toNat = j := by
      rw [seqIndex_of h0 h5] at h1
      exact Option.some.inj h1
    exact item_listR pl.isList h0 (by omega) (by rw [hj]; simpa using ew) fin hs
  · have hj : (i + (its.toArray.size : Int)).toNat = j := by
      rw [seqIndex_neg (by omega) h4] at h1
      rw [List.size_toArray, ← hl]
      exact Option.some.inj h1
    exact subscriptTail_builtinR (x := w) pl.isList.typeIs slot_list_getitem.lookup
      (wpAny_getItem_list_neg (Q := fun r s' => r = w ∧ EP X pins σ Q r s') pl.isList (by omega) (by rw [List.size_toArray] <;> omega) (by omega) (by rw [hj]; simpa using ew) ⟨rfl, fin⟩) hs
/-! ### xs[i] = v, any sign -/
/-- the list's object behind a store -/
theorem mapSeq_set (its : List Value) (n j : Nat) (u : Value) : Obj.mapSeq (·.setIfInBounds j u) { cls := .type "list", data := .seq its.toArray n } = { cls := .type "list", data := .seq (its.set j u).toArray n } := by
  simp [Obj.mapSeq]
theorem Inv.lst {pins : List (Addr × Obj)} {σ : St} {H : Hp} {s : Shared} {p : Addr} {xs : List V} (I : Inv X pins σ H s) (h : H p = some (.lst xs)) :
    ∃ (its : List Value) (n : Nat), Vals xs its ∧ s.heap.get? p = some { cls := .type "list", data := .seq its.toArray n } ∧ xs.length ≤ sizeLine := by
  obtain ⟨z, its, n, r, e⟩ := I.hok p _ h
  exact ⟨its, n, r, e, z⟩
/-- the list at p is written by an update of its object -/
theorem Inv.lstUpd {pins : List (Addr × Obj)} {σ : St} {H : Hp} {s : Shared} {p : Addr} {xs ys : List V} {its its' : List Value} {n n' : Nat} {f : Obj → Obj} (I : Inv X pins σ H s) (h : H p = some (.lst xs))
    (ho : s.heap.get? p = some { cls := .type "list", data := .seq its.toArray n }) (hf : f { cls := .type "list", data := .seq its.toArray n } = { cls := .type "list", data := .seq its'.toArray n' }) (r : Vals ys its') (hz : ys.length ≤ sizeLine) (t : Nat) :
    Inv X pins σ (upd H p (.lst ys)) { s with heap := s.heap.update p f, toks := t } := by
  have e : (s.heap.update p f).get? p = some { cls := .type "list", data := .seq its'.toArray n' } := by
    rw [Heap.get?_update_self f ho (by rw [hf] <;> rfl), hf]
  refine I.write (x := p) (e := p) (by rw [h]; trivial) (.inl rfl) (fun b u hb q => (Heap.get?_update_other _ _ (Ne.symm hb)).trans q) ⟨_, e⟩ ?_
  exact ⟨hz, its', n', r, e⟩
def rSetL : V → V → V → Hp → (Hp → Prop) → Prop := fun o i v H Q => ∃ p xs k j, o = .ref p ∧ i = .int k ∧ H p = some (.lst xs) ∧ ixN xs.length k = some j ∧ Q (upd H p (.lst (xs.set j v)))
theorem set_list : PSet X rSetL := by
  intro pins s σ H o i v ov iv u Q I ro ri rv h
  obtain ⟨p, xs, k, j, rfl, rfl, hp, hj, q⟩ := h
  cases ro
  obtain ⟨t, rfl⟩ := ri
  obtain ⟨its, n, r, ho, hz⟩ := I.lst hp
  obtain ⟨h1, h2, h3, h4⟩ := ixN_seq hj
  have hl := r.length
  have hn := line63
  have I' : Inv X pins σ (upd H p (.lst (xs.set j v))) { s with heap := s.heap.update p (Obj.mapSeq (·.setIfInBounds j u)) } :=
    I.lstUpd hp ho (mapSeq_set its n j u) (r.set rv j) (by rw [List.length_set]; exact hz) s.toks
  by_cases h0 : 0 ≤ k
  · have hk : k.toNat = j := by
      rw [seqIndex_of h0 h4] at h1
      exact Option.some.inj h1
    exact PySem.W.ki_setAt ho h0 (by omega) (by rw [List.size_toArray, ← hl]; exact h4) (by rw [hk]; exact ⟨_, I', q⟩)
  · have hk : (k + (its.toArray.size : Int)).toNat = j := by
      rw [seqIndex_neg (by omega) h3] at h1
      rw [List.size_toArray, ← hl]
      exact Option.some.inj h1
    exact PySem.W.ki_setBack ho (by omega) (by rw [List.size_toArray, ← hl]; exact h3) (by omega) (by rw [hk]; exact ⟨_, I', q⟩)

/-! ### slices -/
theorem slice_bounds (lo hi : Option Int) (n : Nat) : (sliceBounds lo hi none n).1 = ((HT.sIx n 0 lo : Nat) : Int) ∧ (sliceBounds lo hi none n).2.1 = ((HT.sIx n n hi : Nat) : Int) ∧ (sliceBounds lo hi none n).2.2 = 1 := by
  refine ⟨?_, ?_, rfl⟩
  · cases lo with
    | none => simp [sliceBounds, HT.sIx]
    | some i =>
      simp only [sliceBounds, HT.sIx, Option.getD_none, show (1 : Int) > 0 by decide, if_true]
      by_cases h : i < 0
      · simp only [h, if_true] <;> omega
      · simp only [h, if_false] <;> omega
  · cases hi with
    | none => simp [sliceBounds, HT.sIx]
    | some i =>
      simp only [sliceBounds, HT.sIx, Option.getD_none, show (1 : Int) > 0 by decide, if_true]
      by_cases h : i < 0
      · simp only [h, if_true] <;> omega
      · simp only [h, if_false] <;> omega
theorem slicePick_cut (its : List Value) (lo hi : Option Int) : slicePick its.toArray lo hi none = ((its.drop (HT.sIx its.length 0 lo)).take (HT.sIx its.length its.length hi - HT.sIx its.length 0 lo)).toArray := by
  obtain ⟨h1, h2, h3⟩ := slice_bounds lo hi its.toArray.size
  unfold slicePick
  rw [h1, h2, h3]
  simp only [sliceRange_one, pick_run, List.size_toArray] <;> rfl
/-- xs[lo:hi] of a list: a new list -/
def rSlL (K : PySem.W.Frag) : V → Option Int → Option Int → Hp → VK → Prop := fun x lo hi H Q => ∃ a xs, x = .ref a ∧ SqL K H a xs ∧ ∀ p, H p = none → Q (.ref p) (upd H p (.lst (cutV xs lo hi)))
theorem sl_list : SlR X (rSlL X.K) := by
  intro pins s σ H x v vl vu lo hi sl Q I rx hs pl pu h
  obtain ⟨a, xs, rfl, hx, q⟩ := h
  cases rx
  obtain ⟨its, r, ht, hz⟩ := I.list hx
  have hlen := r.length
  refine ⟨"list", _, slot_list_getitem.lookup, ht.isList.typeIs, ?_⟩
  refine wpAny_getItem_list_slice ht.isList hs pl pu .none (by simp) ?_ (by rw [List.size_toArray] <;> omega)
  rw [slicePick_cut, ← hlen]
  refine ⟨.ref s.heap.objs.size, _, I.laid (t' := s.toks) (o := .lst (cutV xs lo hi)) (fun b ob q => Heap.get?_push_of_some _ q) (Nat.le_refl _) ?_, rfl, q _ (I.hok.fresh (Nat.le_refl _))⟩
  exact ⟨Nat.le_trans (cutV_length xs lo hi) hz, _, 0, (r.drop (HT.sIx xs.length 0 lo)).take (HT.sIx xs.length xs.length hi - HT.sIx xs.length 0 lo), Heap.get?_push_size _ rfl⟩

/-! ### in, not in: flat items -/
/-! ### len, list(x), tuple(x) of any list or tuple that is read -/
theorem call_len_seq : CallR X (.builtin "len") (fun xs H Q => ∃ p ys, xs = [.ref p] ∧ (SqL X.K H p ys ∨ SqT X.K H p ys) ∧ Q (.int ys.length) H) := by
  intro pins s σ H xs us Q I r h
  obtain ⟨p, ys, rfl, hq, q⟩ := h
  obtain ⟨u, rfl, rx⟩ := vals1 r
  cases rx
  have hn := line63
  rcases hq with hq | hq
  · obtain ⟨its, r', pl, hz⟩ := I.list hq
    have hlen := r'.length
    exact Calls.call_len_list pl.isList (by simp only [List.size_toArray] <;> omega) ⟨.int ys.length, H, I.tok _, ⟨s.toks + 1, by rw [List.size_toArray, hlen]⟩, q⟩
  · obtain ⟨its, r', pl, hz⟩ := I.tuple hq
    have hlen := r'.length
    exact len_tuple pl (by simp only [List.size_toArray] <;> omega) ⟨.int ys.length, H, I.tok _, ⟨s.toks + 1, by rw [List.size_toArray, hlen]⟩, q⟩
theorem CallR.or {f : Value} {r r' : List V → Hp → VK → Prop} (h : CallR X f r) (h' : CallR X f r') : CallR X f (fun xs H Q => r xs H Q ∨ r' xs H Q) := by
  intro pins s σ H xs us Q I rs q
  rcases q with q | q
  · exact h pins s σ H xs us Q I rs q
  · exact h' pins s σ H xs us Q I rs q
/-! ### the call of a builtin's method: o.m(..) -/
/-- the value is of that builtin type -/
def tyV (K : PySem.W.Frag) (T : String) (x : V) (H : Hp) : Prop := match x with
  | .str _ => T = "str"
  | .int _ => T = "int"
  | .ref p => (T = "list" ∧ ∃ xs, SqL K H p xs) ∨ (T = "tuple" ∧ ∃ o, K.lookup p = some o ∧ o.cls = .type "tuple" ∧ o.dict = none) ∨
      (T = "dict" ∧ ((∃ kvs, H p = some (.dK kvs)) ∨ ∃ kvs, H p = some (.dT kvs))) ∨ (T = "set" ∧ ∃ S n, H p = some (.set S n))
  | _ => False
theorem tyV_is {pins : List (Addr × Obj)} {σ : St} {H : Hp} {s : Shared} {T : String} {x : V} {v : Value} (I : Inv X pins σ H s) (r : RelV x v) (ty : tyV X.K T x H) :
    s.TypeIs v T ∧ ∀ a, v = .ref a → ∃ ob, s.heap.get? a = some ob ∧ ob.dict = none := by
  cases x with
  | str z =>
    obtain ⟨t, rfl⟩ := r
    cases (show T = "str" from ty)
    exact ⟨typeIs_str s z t, fun _ e => nomatch e⟩
  | int i =>
    obtain ⟨t, rfl⟩ := r
    cases (show T = "int" from ty)
    exact ⟨typeIs_int s i t, fun _ e => nomatch e⟩
  | ref p =>
    cases r
    rcases ty with ⟨rfl, xs, hq⟩ | ⟨rfl, o, hk, hc, hd⟩ | ⟨rfl, hk⟩ | ⟨rfl, S, n, hk⟩
    · obtain ⟨its, _, pl, _⟩ := I.list hq
      refine ⟨pl.isList.typeIs, fun a e => ?_⟩
      cases e
      obtain ⟨o, n, e, c, hd, _⟩ := pl
      exact ⟨o, e, hd⟩
    · refine ⟨⟨o, I.kIn p o hk, hc⟩, fun a e => ?_⟩
      cases e
      exact ⟨o, I.kIn _ o hk, hd⟩
    · have z : ∃ o, s.heap.get? p = some o ∧ o.ExactDict := by
        rcases hk with ⟨kvs, hk⟩ | ⟨kvs, hk⟩
        · obtain ⟨_, _, _, _, o, _, _, e, ex, _⟩ := I.hok p _ hk
          exact ⟨o, e, ex⟩
        · obtain ⟨_, _, _, _, o, _, _, e, ex, _⟩ := I.hok p _ hk
          exact ⟨o, e, ex⟩
      obtain ⟨o, e, ex⟩ := z
      refine ⟨⟨o, e, ex.1⟩, fun a e2 => ?_⟩
      cases e2
      exact ⟨o, e, ex.2.1⟩
    · obtain ⟨o, _, _, _, e, ex, _⟩ := I.hok p _ hk
      refine ⟨⟨o, e, ex.1⟩, fun a e2 => ?_⟩
      cases e2
      exact ⟨o, e, ex.2.1⟩
  | _ => exact False.elim ty
def tBM (K : PySem.W.Frag) (T : String) (r : V → List V → Hp → VK → Prop) (to : TE) (t : TA) : TE := fun σ H Q => to σ H fun x H1 => tyV K T x H1 ∧ t σ H1 fun xs H2 => r x xs H2 Q
variable {o e : Expr} {es : List Expr} {to : TE} {t : TA} {name : Str} {apos cpos : Pos} {T id : String} {r : V → List V → Hp → VK → Prop}
theorem pe_bm (pa : PlainAttrs T) (slot : Slot T name id) (hty : typeOf (.builtin id) = pure (.type "method_descriptor")) (hm : MtR X id r) (ho : PE X o to) (ha : PA X (e :: es) t)
    (hbase : attributeBase o name X.env (eval o X.env) = eval o X.env := by rfl)
    (hfew : ((backTo cpos (starEach (e :: es) X.env)).all (fun x => !x.1) && (backToKw cpos (keywordEach [] X.env)).all (fun x => x.1.isSome)
      && decide ((e :: es).length + ([] : List Keyword).length + (if ([] : List Keyword).isEmpty then 0 else 1) < 30)) = true := by rfl)
    (hline : (apos.endLine == cpos.line) = true := by rfl) (hs : starEach (e :: es) X.env = (false, eval e X.env) :: starEach es X.env := by rfl) (hplain : (backTo cpos (starEach es X.env)).any (·.1) = false := by rfl) :
    PE X (.Call (.Attribute o name apos) (e :: es) [] cpos) (tBM X.K T r to t) := by
  intro pins s σ H Q I h
  refine wpAny_Call_method_late hbase hfew hline rfl (thn (ho pins s σ H _ I h) fun v s1 ⟨x, H1, I1, r1, ty, q1⟩ => ?_)
  obtain ⟨h1, h2⟩ := tyV_is I1 r1 ty
  refine ⟨T, id, pa, slot, hty, h1, h2, ?_⟩
  have hA := ha cpos pins s1 σ H1 _ I1 q1
  rw [hs] at hA ⊢
  refine Calls.callWith_builtin (by show (false || (backTo cpos (starEach es X.env)).any (·.1)) = false; rw [hplain] <;> rfl) (Calls.evalArgs_plain ?_)
  exact thn hA fun us s2 ⟨vs, H2, I2, r2, q2⟩ => hm pins s2 σ H2 x vs v us Q I2 r1 r2 q2
/- xs.append(e), list.index on a module's tuple .. are MtR facts of 06m -/
end
end L2

namespace L2
open PySem PySem.Spec PyProof.Rows

def MtM (X : Cx) (id : String) (r : V → List V → Hp → VK → Prop) : Prop :=
  ∀ (pins : List (Addr × Obj)) (s : Shared) (σ : St) (H : Hp) (x : V) (xs : List V) (v : Value) (us : List Value) (Q : VK), Inv X pins σ H s → RelV x v → Vals xs us → r x xs H Q →
    wpAny (model X.prog X.w) X.A (call (.builtin id) (v :: us)) (EP X pins σ Q) X.xe s

/-! ### lists of values -/
theorem Vals.one : ∀ {x : V} {us : List Value}, Vals [x] us → ∃ u, us = [u] ∧ RelV x u
  | _, _, .cons r .nil => ⟨_, rfl, r⟩
theorem Vals.two : ∀ {x y : V} {us : List Value}, Vals [x, y] us → ∃ u v, us = [u, v] ∧ RelV x u ∧ RelV y v
  | _, _, _, .cons r (.cons q .nil) => ⟨_, _, rfl, r, q⟩
theorem Vals.zero : ∀ {us : List Value}, Vals [] us → us = []
  | _, .nil => rfl
theorem Vals.reverse {xs : List V} {us : List Value} (h : Vals xs us) : Vals xs.reverse us.reverse := by
  induction h with
  | nil => exact .nil
  | cons r t ih => rw [List.reverse_cons, List.reverse_cons]; exact Vals.append ih (.cons r .nil)
section
variable {X : Cx} {pins : List (Addr × Obj)} {σ : St} {H : Hp} {s : Shared} {l b : Addr} {xs ys zs : List V}

/-! ### the two steps: a tracked list is rewritten, a new list is laid -/
theorem Inv.lset {its its' : List Value} {n : Nat} {f : Array Value → Array Value} {t' : Nat} (I : Inv X pins σ H s) (hH : H l = some (.lst xs))
    (e : s.heap.get? l = some { cls := .type "list", data := .seq its.toArray n }) (hf : f its.toArray = its'.toArray) (hv : Vals ys its') (hz : ys.length ≤ sizeLine) :
    Inv X pins σ (upd H l (.lst ys)) { s with heap := s.heap.update l (Obj.mapSeq f), toks := t' } := by
  have q := PySem.IsL.update e f
  rw [hf] at q
  refine I.write (x := l) (e := l) (by rw [hH]; exact trivial) (.inl rfl) (fun b' u hb hu => (Heap.get?_update_other s.heap (Obj.mapSeq f) (Ne.symm hb)).trans hu) ⟨_, q⟩ ?_
  exact ⟨hz, its', _, hv, q⟩
theorem Inv.fresh (I : Inv X pins σ H s) : H s.heap.objs.size = none := I.hok.fresh (Nat.le_refl _)
theorem Inv.lstM (I : Inv X pins σ H s) (hH : H l = some (.lst xs)) : xs.length ≤ sizeLine ∧ ∃ (its : List Value) (n : Nat), Vals xs its ∧ xs.length = its.length ∧ s.heap.get? l = some { cls := .type "list", data := .seq its.toArray n } := by
  obtain ⟨z, its, n, r, e⟩ := I.hok l _ hH
  exact ⟨z, its, n, r, r.length, e⟩

theorem notLongL {n : Nat} (h : n ≤ sizeLine) : Builtin.List.listTooLong n = false := by
  unfold Builtin.List.listTooLong
  exact decide_eq_false (by omega)
end

section
variable {X : Cx}

/-! ### methods -/
def rAppend : V → List V → Hp → VK → Prop := fun x vs H Q => ∃ l xs y, x = .ref l ∧ vs = [y] ∧ H l = some (.lst xs) ∧ xs.length < sizeLine ∧ Q .non (upd H l (.lst (xs ++ [y])))
theorem mt_append : MtM X "list.append" rAppend := by
  intro pins s σ H x vs v us Q I rx rv h
  obtain ⟨l, xs, y, rfl, rfl, hH, hz, q⟩ := h
  cases rx
  obtain ⟨u, rfl, ru⟩ := rv.one
  obtain ⟨z, its, n, r, hl, e⟩ := I.lstM hH
  refine call_meets F.slot_list_append ⟨_, e, rfl⟩ F.entry_list_append (F.args_list_append_2 _ _) (PySem.list_append l its.toArray n u (by rw [List.size_toArray]; omega)) ⟨e, ?_⟩
  refine ⟨.non, _, I.lset (its' := its ++ [u]) hH e (by simp) (r.append (.cons ru .nil)) ?_, rfl, q⟩
  rw [List.length_append, List.length_singleton]
  omega

def rExtend : V → List V → Hp → VK → Prop := fun x vs H Q => ∃ l b xs zs, x = .ref l ∧ vs = [.ref b] ∧ H l = some (.lst xs) ∧ H b = some (.lst zs) ∧ xs.length + zs.length ≤ sizeLine ∧ Q .non (upd H l (.lst (xs ++ zs)))
theorem mt_extend : MtM X "list.extend" rExtend := by
  intro pins s σ H x vs v us Q I rx rv h
  obtain ⟨l, b, xs, zs, rfl, rfl, hH, hB, hz, q⟩ := h
  cases rx
  obtain ⟨u, rfl, ru⟩ := rv.one
  cases ru
  obtain ⟨z, its, n, r, hl, e⟩ := I.lstM hH
  obtain ⟨z2, its2, n2, r2, hl2, e2⟩ := I.lstM hB
  have hsz : its.toArray.size + its2.toArray.size ≤ sizeLine := by rw [List.size_toArray, List.size_toArray]; omega
  have hlong : ¬ (!its.toArray.isEmpty && Builtin.List.listTooLong (its.toArray.size + its2.toArray.size)) = true := by
    rw [notLongL hsz, Bool.and_false]
    exact Bool.false_ne_true
  refine call_meets F.slot_list_extend ⟨_, e, rfl⟩ F.entry_list_extend (F.args_list_extend_2 _ _)
    (AutoSeq1.list_extend_list_list_0 l its.toArray n b its2.toArray n2 hlong (by rw [List.size_toArray]; omega) (by omega)) ⟨e, e2, ?_⟩
  refine ⟨.non, _, I.lset (its' := its ++ its2) hH e (by simp) (r.append r2) ?_, rfl, q⟩
  rw [List.length_append]
  omega

/-! ### list + list, list += list, list * int -/
/-! ### del xs[i] -/
end

/-! ### xs[a:b] = ys -/
section
variable {prog : Program} {w : World} {A : Around} {E : Value → Shared → Prop} {s : Shared}
end

section
variable {X : Cx}
end
end L2

namespace Att
open PySem PySem.W PySem.Calls PyProof.Rows

/-! ### the script -/
theorem ints_of_wellAll {P : Params} {h : Heap} : ∀ (ns : List Int) (vs : List Value), WellAll P h vs (ns.map WData.int) → IntsAre vs ns := by
  intro ns
  induction ns with
  | nil =>
    intro vs w
    rw [List.map_nil] at w
    cases w
    exact .nil
  | cons n ns ih =>
    intro vs w
    rw [List.map_cons] at w
    cases w with
    | cons a b =>
      cases a
      exact .cons _ _ (ih _ b)

theorem script_of {l : OpenLaw} {n : Nat} (hn : l.most = some n) {P : Params} {h : Heap} {args : List WData} {vals : List Value}
    (hpre : l.row.toRowW.claim.pre args = true) (hwl : WellAll P h vals args) :
    ∃ a vs ns, vals = [Value.ref a] ∧ args = [WData.list (ns.map WData.int)] ∧ h.get? a = some { cls := .type "list", data := .seq vs.toArray } ∧ IntsAre vs ns ∧ ns.length ≤ n := by
  have hsh : WShape.hasAll [] args [.list .int] = true := (pre_splitW hpre).1
  have hc : l.pre.holds [] { args := args } = true := (pre_splitW hpre).2
  obtain ⟨d, r, rfl, h1, h2⟩ := hasAllW_cons hsh
  obtain rfl := hasAllW_nil h2
  obtain ⟨xs, rfl, h3⟩ := hasW_list h1
  obtain ⟨ns, rfl⟩ := items_int h3
  have hlen : ns.length ≤ n := by
    unfold OpenLaw.pre at hc
    have h4 : (WTm.not (.lt (.lit (.int (n : Int))) (.len (.arg 0)))).holds [] { args := [.list (ns.map .int)] } = true := by
      have h4 := (holds_andW hc).1
      rw [hn] at h4
      exact h4
    have h5 := condW_of h4 (w_not (w_lt w_lit (w_len_list (w_arg rfl))))
    rw [List.length_map] at h5
    refine Nat.le_of_not_lt fun q => ?_
    have q' : (n : Int) < ((ns.length : Nat) : Int) := by omega
    first
      | (rw [decide_eq_true q'] at h5; exact absurd h5 (by decide))
      | (simp at h5; omega)
  cases hwl with
  | cons w1 w2 =>
    cases w2
    cases w1 with
    | list ho hall => exact ⟨_, _, ns, rfl, rfl, ho, ints_of_wellAll ns _ hall, hlen⟩

theorem post_true (l : OpenLaw) (args : List WData) : l.row.toRowW.claim.post args (.bool true) args = true :=
  postW_of (r := l.row.toRowW) (X := (true == true))
    (show WShape.has [] (.bool true) .bool = true by first | rfl | decide | simp [WShape.has, WShape.arms, WShape.armsAll])
    (show (WTm.eq .res (.lit (.bool true))).value [] { args := args, res := some (.bool true), after := args } = some (.bool (true == true)) from w_eq_bool (w_res rfl) w_lit) rfl

/-! ### the attachment: holds_open's last premise (the goal 'hc' behind k_head) from a wpAny of the law's body -/
/-- the same from a codeAny of the CALL (for a layer whose function contracts speak of calls) -/
theorem attach_call {l : OpenLaw} {n : Nat} {q : Program} {loose : List Str} {XP : (Str → Option Value) → Heap → Prop} {YP : World → Heap → Prop} {d : DefRec}
    (hn : l.most = some n) (hdf : d.params.defaults = [])
    (call : ∀ (w : World) (s₀ s₁ : Shared) (mg mb : Str → Option Value) (fa : Addr) (o : Obj) (pm cd doc : Value) (a : Addr) (vs : List Value) (ns : List Int),
      Ground q loose [] XP w s₀ mg mb s₁.heap → YP w s₁.heap →
      s₁.heap.get? fa = some o → o.data = .func (docDef d.name d.params d.body d.scope pm cd doc) → s₁.heap.CodeRec cd d.name → mg d.name = some (.ref fa) →
      s₁.heap.get? a = some { cls := .type "list", data := .seq vs.toArray } → IntsAre vs ns → ns.length ≤ n → s₁.gens = #[] →
      codeAny (model l.prog w) callerA (.call (.ref fa) ⟨[.ref a], []⟩) (fun r s' => r = .ok (.ret (.bool true)) ∧ OldK s₁.heap s'.heap ∧ s'.os = s₁.os ∧ AllBare s'.gens) s₁) :
    WalkO q loose XP YP l.row.toRowW d [] (fun f vs => PySem.call f vs) := by
  intro w s₀ s₁ mg mb G Y fa o pm cd doc dV kV ho hd hcd hD hmg hg args vals as hpre hlay hrd hwl hlo
  obtain rfl : dV = .none := Dflts.none hD hdf
  obtain rfl : kV = .none := Dflts.noKw hD
  obtain ⟨a, vs, ns, rfl, rfl, hobj, hints, hlen⟩ := script_of hn hpre hwl
  refine enter_call (codeAny_mono (call w s₀ s₁ mg mb fa o pm cd doc a vs ns G Y ho (fd_plain hd) hcd hmg hobj hints hlen hg) fun r s' hq => ?_)
  obtain ⟨rfl, h2, h3, h4⟩ := hq
  exact ⟨.inl ⟨.bool true, .bool true, [], rfl, fun _ => rfl, .bool true, post_true l _, fun _ => ⟨List.Pairwise.nil, fun _ hm => (nomatch hm)⟩⟩, h2, h3, h4⟩

/-! ### rules over ANY heap (no ledger) from facts about the written part K: the library's own take a ledger (News) for what they write -/
section
variable {prog : Program} {w : World} {A : Around} {E : Value → Shared → Prop} {s : Shared} {K : Frag}

/-! the whole heap as the ledger: makes every rule that writes through a ledger a rule over any heap -/
def ledger (h : Heap) (L d : Addr) : List (Addr × Obj) := (List.range h.objs.size).filterMap fun a => if a = L ∨ a = d then none else (h.get? a).map fun o => (a, o)
end
end Att

namespace L2
open PySem PySem.Spec PyProof.Rows

theorem vals_ints : ∀ {vs : List Value} {ns : List Int}, IntsAre vs ns → Vals (ns.map V.int) vs
  | _, _, .nil => .nil
  | _, _, .cons n t h => .cons ⟨t, rfl⟩ (vals_ints h)

/-- nothing is tracked but the script, known to the object (or it is an object of the module) -/
def Only (H : Hp) : Prop := ∀ b, H b = none ∨ ∃ o xs, H b = some (.frz o (.lst xs))

/-- THE HEAD: the law's promise, at the heap behind the top. F, the promise of the law's def, may use that base is part of the heap (so K.In base, base.Ns mainGlobals mg stand in Mod) -/
theorem law_call {P : Program} {w : World} {K : PySem.W.Frag} {mg mb : Str → Option Value} {CX : CXT} {k : Nat} {fa a : Addr} {fd : FuncData} {x : Str} {sp : Sp} {s₁ : Shared} {vs : List Value} {ns : List Int}
    (KX : K.In s₁.heap) (hns : s₁.heap.Ns mainGlobals mg) (hb : s₁.heap.Ns builtinsNs mb) (hbb : ∀ x : Str, x ≠ "__name__" → mb x = bootBuiltins x) (hlim : s₁.heap.NoLimit) (hg : s₁.gens = #[])
    (ha : s₁.heap.get? a = some { cls := .type "list", data := .seq vs.toArray }) (hi : IntsAre vs ns) (hl : ns.length ≤ sizeLine) (hr : Room k callerA)
    (F : ∀ base : Heap, K.In base → base.Ns mainGlobals mg → FnOk P w K mg base CX k fa fd [x] sp) (hbind : ∀ (s : Shared) (u : Value), BindsTo s fd ⟨[u], []⟩ [(x, u)])
    (hsp : ∀ H : Hp, Only H → SqL K H a (ns.map V.int) → sp [.ref a] H (fun v _ => v = .bl true) fun _ _ _ => False)
    (hCX : ∀ H e s', CX [] H s₁ (fun _ _ _ => False) e s' → False) :
    codeAny (model P w) callerA (.call (.ref fa) ⟨[.ref a], []⟩) (fun r s' => r = .ok (.ret (.bool true)) ∧ OldK s₁.heap s'.heap ∧ s'.os = s₁.os ∧ AllBare s'.gens) s₁ := by
  have rv := vals_ints hi
  have lenV := hi.length
  -- from an abstract heap in which nothing but the script may be tracked
  have core : ∀ H : Hp, Only H → SqL K H a (ns.map V.int) → HOk P w H s₁.heap → (∀ b, H b ≠ none → b = a) → (H a ≠ none → K.lookup a = none) →
      codeAny (model P w) callerA (.call (.ref fa) ⟨[.ref a], []⟩) (fun r s' => r = .ok (.ret (.bool true)) ∧ OldK s₁.heap s'.heap ∧ s'.os = s₁.os ∧ AllBare s'.gens) s₁ := by
    intro H hO hS hok hA hK
    have base_of : ∀ {b : Addr} {o : Obj}, s₁.heap.get? b = some o → H b = none → (hidT s₁.heap H).get? b = some o := fun e n => hidT_get e n
    have noA : ∀ {b : Addr} {o : Obj} {es : Array DictEntry} {ep : Nat}, s₁.heap.get? b = some o → o.data = .dict es ep → H b = none := fun {b o es ep} e d => by
      cases q : H b with
      | none => rfl
      | some u =>
        have e' : b = a := hA b (by rw [q]; simp)
        subst e'
        rw [ha] at e; cases e
        have d' : Data.seq vs.toArray _ = Data.dict es ep := d
        cases d'
    have nsK : ∀ {b : Addr} {m : Str → Option Value}, s₁.heap.Ns b m → (hidT s₁.heap H).Ns b m := fun {b m} ⟨o, es, ep, e, d, r⟩ => ⟨o, es, ep, base_of e (noA e d), d, r⟩
    have hKb : K.In (hidT s₁.heap H) := fun b o e => base_of (KX b o e) (by
      cases q : H b with
      | none => rfl
      | some u =>
        have e' : b = a := hA b (by rw [q]; simp)
        subst e'
        rw [hK (by rw [q]; simp)] at e; cases e)
    have hM : Mod K mg (hidT s₁.heap H) := ⟨hKb, nsK hns, ⟨mb, nsK hb, hbb⟩, let ⟨mc, h1, h2⟩ := hlim; ⟨mc, nsK h1, h2⟩⟩
    have e0 : Env0 P w K mg (hidT s₁.heap H) callerA [] s₁ H := ⟨rfl, hM, fun b o e => of_hidT e, Nat.le_of_eq (hidT_size _ _), trivial, fun b hb => absurd (show b ∈ ([] : List Addr) from hb) (by simp), hok, .of_eq hg⟩
    refine codeAny_mono ((F _ hKb (nsK hns)).run callerA [] s₁ H ⟨[.ref a], []⟩ [.ref a] [.ref a] _ _ hr e0 (hbind s₁ (.ref a)) (.cons rfl .nil) (hsp H hO hS)) fun r s' h => ?_
    cases r with
    | error e => exact (hCX H e s' h).elim
    | ok fl =>
      cases fl with
      | next => exact False.elim h
      | brk => exact False.elim h
      | cont => exact False.elim h
      | ret u =>
        obtain ⟨v, H', os, bare, un, hok', r', q⟩ := h
        have q' : v = .bl true := q
        subst q'
        obtain rfl : u = Value.bool true := r'
        refine ⟨rfl, OldK.of_keep fun b o e => ?_, os, bare⟩
        cases q : H b with
        | none => exact un.keep b o e q (by intro z; exact absurd (show b ∈ ([] : List Addr) from z) (by simp)) (by simp)
        | some u =>
          rcases hO b with z | ⟨ob, xs, z⟩
          · rw [q] at z; cases z
          · have z2 := un.frzs b ob _ z
            obtain ⟨e1, _⟩ := hok b _ z
            obtain ⟨e2, _⟩ := hok' b _ z2
            rw [e] at e1; cases e1
            exact e2
  cases hk : K.lookup a with
  | some o =>
    -- the script is one of the module's own objects
    have e := KX a o hk
    rw [ha] at e
    cases e
    refine core (fun _ => none) (fun _ => .inl rfl) (.inr ⟨_, vs.toArray, _, hk, rfl, rfl, rfl, by rw [List.size_toArray, lenV]; exact hl, by simpa using rv⟩) (fun b u z => by have z' : (none : Option HO) = some u := z; cases z') (fun b z => absurd rfl z) fun z => absurd rfl z
  | none =>
    refine core (fun b => if b = a then some (.frz { cls := .type "list", data := .seq vs.toArray } (.lst (ns.map V.int))) else none) (fun b => ?_) (.inl (.inr ⟨{ cls := .type "list", data := .seq vs.toArray }, if_pos rfl⟩)) (fun b u z => ?_) (fun b z => ?_) fun _ => hk
    · by_cases hb : b = a
      · exact .inr ⟨_, _, if_pos hb⟩
      · exact .inl (if_neg hb)
    · by_cases hb : b = a
      · have z' := (if_pos hb).symm.trans z
        cases z'
        subst hb
        exact ⟨ha, by rw [List.length_map]; exact hl, vs, _, rv, ha⟩
      · have z' := (if_neg hb).symm.trans z
        cases z'
    · by_cases hb : b = a
      · exact hb
      · exact absurd (if_neg hb) z
end L2

namespace L2
open PySem PySem.Spec PyProof.Rows

/-- the goal that k_head leaves (case hc), from the law's promise. F gives the function object fd (K's own) once, then the promise over every base -/
theorem walk_of {l : PySem.W.OpenLaw} {n k : Nat} {q : Program} {loose : List Str} {XP : (Str → Option Value) → Heap → Prop} {YP : World → Heap → Prop} {d : DefRec} {K : Params → PySem.W.Frag} {CX : World → CXT} {sp : World → Sp} {x : Str}
    (hn : l.most = some n) (hn2 : n ≤ sizeLine) (hdf : d.params.defaults = []) (hr : Room k callerA)
    (hY : ∀ (w : World) (h : Heap), YP w h → (K w.params).In h)
    (F : ∀ (w : World) (mg : Str → Option Value) (fa : Addr) (h : Heap), (K w.params).In h → h.Ns mainGlobals mg → mg d.name = some (.ref fa) →
      ∃ fd : FuncData, (∀ (s : Shared) (u : Value), BindsTo s fd ⟨[u], []⟩ [(x, u)]) ∧
        ∀ base : Heap, (K w.params).In base → base.Ns mainGlobals mg → FnOk l.prog w (K w.params) mg base (CX w) k fa fd [x] (sp w))
    (hsp : ∀ (w : World) (H : Hp) (a : Addr) (ns : List Int), ns.length ≤ n → Only H → SqL (K w.params) H a (ns.map V.int) → sp w [.ref a] H (fun v _ => v = .bl true) fun _ _ _ => False)
    (hCX : ∀ (w : World) (H : Hp) (s : Shared) (e : Value) (s' : Shared), CX w [] H s (fun _ _ _ => False) e s' → False) :
    PySem.W.WalkO q loose XP YP l.row.toRowW d [] (fun f vs => PySem.call f vs) := by
  refine Att.attach_call hn hdf fun w s₀ s₁ mg mb fa o pm cd doc a vs ns G Y ho hd hcd hmg hobj hints hlen hg => ?_
  have KX := hY w _ Y
  obtain ⟨fd, hb, hF⟩ := F w mg fa _ KX G.T.g hmg
  exact law_call KX G.T.g G.T.b G.T.builtins G.T.nolimit hg hobj hints (Nat.le_trans hlen hn2) hr hF hb (fun H hO hS => hsp w H a ns hlen hO hS) fun H e s' => hCX w H s₁ e s'
end L2

/-! SHORT WORDS over the layer: a def of the text, its body, what a loop and a test want. -/
namespace L2
open PySem PySem.Spec PyProof.Rows

/-! ### the text by places -/
def defArgs (s : Stmt) : Arguments := match s with
  | .FunctionDef _ a _ _ _ _ _ _ _ _ => a
  | _ => { posonlyargs := [], args := [], vararg := none, kwonlyargs := [], kw_defaults := [], kwarg := none, defaults := [] }
def defBody (s : Stmt) : List Stmt := match s with
  | .FunctionDef _ _ b _ _ _ _ _ _ _ => b
  | _ => []
def defScope (s : Stmt) : Scope := match s with
  | .FunctionDef _ _ _ _ _ _ sc _ _ _ => sc
  | _ => { kind := .function, names := [], isGenerator := false, isCoroutine := false }

/-! ### no exception leaves a def -/
abbrev CX0 : CXT := fun _ _ _ _ _ _ => False
abbrev E0 : XK := fun _ _ _ => False
theorem pass0 {X : Cx} : Passes CX0 X E0 := fun _ _ _ _ _ _ _ h => h.elim

/-! ### a def (or method) of the text as it stands behind the top -/
structure Fun (K : PySem.W.Frag) (x qual : Str) (st : Stmt) (f : Addr) (fd : FuncData) : Prop where
  ex : ∃ (oc : Value) (od : Option Addr) (kV doc pm : Value) (an : Option Addr) (cdv ct : Value) (osl : Array (Option Value)),
    fd = PySem.W.fnOf x qual (defArgs st) (defBody st) (defScope st) .none kV doc pm an cdv ct ∧ K.lookup f = some ⟨oc, od, .func fd, osl⟩ ∧ PySem.W.codeIn K cdv qual = true
  kp : PySem.W.keepIn K (.ref f) = true
section
variable {P : Program} {w : World} {K : PySem.W.Frag} {mg : Str → Option Value} {base : Heap}
/-- THE RULE for a def: its body as a term of rules, and the reading of that term -/
theorem Fun.ok {x qual : Str} {st : Stmt} {f : Addr} {fd : FuncData} {N ps : List Str} {k : Nat} {sp : Sp} (F : Fun K x qual st f fd) (S : FnScope N ps (defScope st)) (len : ∀ vs H Q E, sp vs H Q E → vs.length = ps.length)
    (hbody : ∀ (cdv : Value) (A : Around) (outer : List Env) (s : Shared) (H : Hp) (vs : List V) (Q : VK) (E : XK), Room k (A.deeper (envOfC qual (defScope st) s.heap.objs.size f cdv)) → sp vs H Q E →
      ∃ t, PSs (cxOf CX0 P w K mg base N qual (defScope st) f cdv A outer s H E).nox (defBody st) t ∧ t { nx := fun _ H' => Q .non H', rt := Q } (start N vs) H) : FnOk P w K mg base CX0 (k + 1) f fd ps sp := by
  obtain ⟨oc, od, kV, doc, pm, an, cdv, ct, osl, rfl, lk, hcd⟩ := F.ex
  refine fn_of lk hcd S len fun A outer s H vs Q E hr hsp => ?_
  obtain ⟨t, h, q⟩ := hbody cdv A outer s H vs Q E hr hsp
  exact ⟨t, h.nox, q⟩
/-- how its arguments bind (no defaults): h is «fun _ _ _ _ _ _ us hl => match us, hl with | [_, _], _ => rfl», one _ a parameter -/
theorem Fun.binds {x qual : Str} {st : Stmt} {f : Addr} {fd : FuncData} {ps : List Str} (F : Fun K x qual st f fd)
    (h : ∀ (kV doc pm : Value) (an : Option Addr) (cdv ct : Value) (us : List Value), us.length = ps.length → bindArgs (PySem.W.fnOf x qual (defArgs st) (defBody st) (defScope st) .none kV doc pm an cdv ct) ⟨us, []⟩ = pure (ps.zip us)) : Binds K fd ps [] := by
  obtain ⟨oc, od, kV, doc, pm, an, cdv, ct, osl, rfl, lk, hcd⟩ := F.ex
  exact .all (h kV doc pm an cdv ct)
theorem fun_mk {x qual : Str} {st : Stmt} {f : Addr} {oc : Value} {od an : Option Addr} {osl : Array (Option Value)} {kV doc pm cdv ct : Value} (l : K.lookup f = some ⟨oc, od, .func (PySem.W.fnOf x qual (defArgs st) (defBody st) (defScope st) .none kV doc pm an cdv ct), osl⟩)
    (c : PySem.W.codeIn K cdv qual = true) (k : PySem.W.keepIn K (.ref f) = true) : Fun K x qual st f (PySem.W.fnOf x qual (defArgs st) (defBody st) (defScope st) .none kV doc pm an cdv ct) := ⟨⟨oc, od, kV, doc, pm, an, cdv, ct, osl, rfl, l, c⟩, k⟩
end
theorem hu_of {A : Around} {k : Nat} (hr : Room k A) : A.units + 1 < cLine := Nat.lt_of_le_of_lt (Nat.add_le_add_left (by decide : 1 ≤ 64) _) hr.units
/-! ### expressions in short: the name that stands in the i-th slot -/
section
variable {X : Cx}
theorem pv (i : Nat) {x : Str} {pos : Pos} (hN : X.N[i]? = some x := by rfl) (hv : Vis X.env.scope x := by first | exact Or.inl rfl | exact Or.inr (Or.inl rfl) | exact Or.inr (Or.inr rfl)) (hd : (x == ("__debug__" : Str)) = false := by decide)
    (hcd : (x == ("__classdict__" : Str)) = false := by decide) : PE X (.Name x pos) (tVar i) := pe_var hN hv hd hcd
end

/-! ### tests -/
/-! ### heaps -/
/-- all that was tracked is as it was -/
def Same (H H' : Hp) : Prop := ∀ b o, H b = some o → H' b = some o
theorem Same.refl (H : Hp) : Same H H := fun _ _ h => h
theorem Same.trans {H H1 H2 : Hp} (a : Same H H1) (b : Same H1 H2) : Same H H2 := fun c o h => b c o (a c o h)
theorem Same.free {H H' : Hp} (e : Same H H') {l : Addr} (h : H' l = Option.none) : H l = Option.none := by
  cases q : H l with
  | none => rfl
  | some o =>
    rw [e l o q] at h
    cases h
theorem Same.seq {K : PySem.W.Frag} {H H' : Hp} {a : Addr} {xs : List V} (e : Same H H') (h : SqL K H a xs) : SqL K H' a xs := by
  rcases h with (h | ⟨o, h⟩) | h
  · exact .inl (.inl (e _ _ h))
  · exact .inl (.inr ⟨o, e _ _ h⟩)
  · exact .inr h

end L2

namespace L2
open PySem PySem.Spec PyProof.Rows

/-! ### lists of pairs as tables -/
section
variable {κ : Type} [DecidableEq κ]
def valV (kvs : List (κ × V)) (k : κ) : Option V := (kvs.find? fun kv => decide (kv.1 = k)).map (·.2)
/-- in its place, or at the end -/
def putK (kvs : List (κ × V)) (k : κ) (v : V) : List (κ × V) :=
  if (kvs.any fun kv => decide (kv.1 = k)) = true then kvs.map (fun kv => if kv.1 = k then (kv.1, v) else kv) else kvs ++ [(k, v)]
def dropK (kvs : List (κ × V)) (k : κ) : List (κ × V) := kvs.filter fun kv => decide (kv.1 ≠ k)

theorem valV_pos {p : κ × V} {r : List (κ × V)} {k : κ} (e : p.1 = k) : valV (p :: r) k = some p.2 := by simp [valV, List.find?_cons, e]
theorem valV_neg {p : κ × V} {r : List (κ × V)} {k : κ} (e : ¬ p.1 = k) : valV (p :: r) k = valV r k := by simp [valV, List.find?_cons, e]
theorem valV_any (k : κ) : ∀ kvs : List (κ × V), (kvs.any fun kv => decide (kv.1 = k)) = (valV kvs k).isSome
  | [] => rfl
  | p :: r => by
    rw [List.any_cons]
    by_cases e : p.1 = k
    · simp only [valV_pos e, decide_eq_true e, Bool.true_or, Option.isSome_some]
    · rw [valV_neg e, decide_eq_false e, Bool.false_or]; exact valV_any k r
theorem RelO.isSome_eq {o : Option V} {u : Option Value} (r : RelO o u) : o.isSome = u.isSome := by
  cases o with
  | none => cases u with
    | none => rfl
    | some _ => exact (show False from r).elim
  | some _ => cases u with
    | none => exact (show False from r).elim
    | some _ => rfl
theorem RelO.getD {o : Option V} {u : Option Value} {d : V} {d' : Value} (r : RelO o u) (rd : RelV d d') : RelV (o.getD d) (u.getD d') := by
  cases o with
  | none => cases u with
    | none => exact rd
    | some _ => exact (show False from r).elim
  | some _ => cases u with
    | none => exact (show False from r).elim
    | some _ => exact r

/-- raw tables of the same keys -/
theorem KV.val {kvs : List (κ × V)} {vs : List (κ × Value)} (r : KV kvs vs) (k : κ) : RelO (valV kvs k) (valueAt vs k) := by
  unfold KV at r
  induction r with
  | nil => exact True.intro
  | @cons p q ps qs h t ih =>
    obtain ⟨h1, h2⟩ := h
    by_cases e : p.1 = k
    · have e' : q.1 = k := h1.symm.trans e
      have b : valueAt (q :: qs) k = some q.2 := by simp [valueAt, List.find?_cons, e']
      rw [valV_pos e, b]; exact h2
    · have e' : ¬ q.1 = k := fun z => e (h1.trans z)
      have b : valueAt (q :: qs) k = valueAt qs k := by simp [valueAt, List.find?_cons, e']
      rw [valV_neg e, b]; exact ih
theorem KV.any {kvs : List (κ × V)} {vs : List (κ × Value)} (r : KV kvs vs) (k : κ) : (kvs.any fun kv => decide (kv.1 = k)) = vs.any fun kv => decide (kv.1 = k) := by
  unfold KV at r
  induction r with
  | nil => rfl
  | cons h t ih => rw [List.any_cons, List.any_cons, ih, h.1]
theorem KV.repl {kvs : List (κ × V)} {vs : List (κ × Value)} (r : KV kvs vs) (k : κ) {y : V} {u : Value} (ry : RelV y u) :
    KV (kvs.map fun kv => if kv.1 = k then (kv.1, y) else kv) (vs.map fun kv => if kv.1 = k then (kv.1, u) else kv) := by
  unfold KV at r ⊢
  induction r with
  | nil => exact .nil
  | @cons p q ps qs h t ih =>
    rw [List.map_cons, List.map_cons]
    refine .cons ?_ ih
    obtain ⟨h1, h2⟩ := h
    by_cases e : p.1 = k
    · rw [if_pos e, if_pos (h1.symm.trans e)]; exact ⟨h1, ry⟩
    · rw [if_neg e, if_neg (fun z => e (h1.trans z))]; exact ⟨h1, h2⟩
theorem KV.put {kvs : List (κ × V)} {vs : List (κ × Value)} (r : KV kvs vs) (k : κ) {y : V} {u : Value} (ry : RelV y u) : KV (putK kvs k y) (stored vs k u) := by
  unfold putK stored
  rw [r.any k]
  by_cases e : (vs.any fun kv => decide (kv.1 = k)) = true
  · rw [if_pos e, if_pos e]; exact r.repl k ry
  · rw [if_neg e, if_neg e]; exact Paired.snoc r ⟨rfl, ry⟩
theorem KV.drop {kvs : List (κ × V)} {vs : List (κ × Value)} (r : KV kvs vs) (k : κ) : KV (dropK kvs k) (without vs k) := by
  unfold KV at r ⊢
  unfold dropK without
  induction r with
  | nil => exact .nil
  | @cons p q ps qs h t ih =>
    obtain ⟨h1, h2⟩ := h
    rw [List.filter_cons, List.filter_cons]
    by_cases e : p.1 = k
    · have a : ¬ decide (p.1 ≠ k) = true := by simp [e]
      have b : ¬ decide (q.1 ≠ k) = true := by simp [h1.symm.trans e]
      rw [if_neg a, if_neg b]; exact ih
    · have e' : ¬ q.1 = k := fun z => e (h1.trans z)
      have a : decide (p.1 ≠ k) = true := by simp [e]
      have b : decide (q.1 ≠ k) = true := by simp [e']
      rw [if_pos a, if_pos b]; exact .cons ⟨h1, h2⟩ ih
theorem KV.keys {kvs : List (κ × V)} {vs : List (κ × Value)} (r : KV kvs vs) : kvs.map (·.1) = vs.map (·.1) := by
  unfold KV at r
  induction r with
  | nil => rfl
  | cons h t ih => rw [List.map_cons, List.map_cons, ih, h.1]
theorem KV.length {kvs : List (κ × V)} {vs : List (κ × Value)} (r : KV kvs vs) : kvs.length = vs.length := Paired.length r
end


/-! ### a tracked dict, its keys ints and texts or tuples of these -/
theorem kV_is {P : Program} {w : World} {k : Key} {u : Value} (r : RelV (kV k) u) : (mixKind P w).is k u = true := by
  cases k with
  | inl i => obtain ⟨t, e⟩ := (show ∃ t, u = Value.int i t from r); subst e; exact mixKind_int P w i t
  | inr x => obtain ⟨t, e⟩ := (show ∃ t, u = Value.str x t from r); subst e; exact mixKind_str P w x t
theorem items_are {P : Program} {w : World} : ∀ {ks : List Key} {us : List Value}, Vals (ks.map kV) us → ItemsAre (mixKind P w) ks us
  | [], _, r => by rw [List.map_nil] at r; cases r; exact .nil
  | k :: ks, _, r => by
    rw [List.map_cons] at r
    cases r with
    | cons h t => exact .cons (kV_is h) (items_are t)

/-- raw entries of a dict with tuple keys -/
abbrev KT (H : Hp) : List (List Key × V) → List (List Key × Addr × Value) → Prop := Paired fun p q => p.1 = q.1 ∧ H q.2.1 = some (.tup (p.1.map kV)) ∧ RelV p.2 q.2.2
theorem KT.val {H : Hp} {kvs : List (List Key × V)} {xs : List (List Key × Addr × Value)} (r : KT H kvs xs) (k : List Key) : RelO (valV kvs k) ((atKey xs k).map (·.2)) := by
  induction r with
  | nil => exact True.intro
  | @cons p q ps qs h t ih =>
    obtain ⟨h1, _, h2⟩ := h
    by_cases e : p.1 = k
    · have e' : q.1 = k := h1.symm.trans e
      have b : atKey (q :: qs) k = some q.2 := by simp [atKey, List.find?_cons, e']
      rw [valV_pos e, b]; exact h2
    · have e' : ¬ q.1 = k := fun z => e (h1.trans z)
      have b : atKey (q :: qs) k = atKey qs k := by simp [atKey, List.find?_cons, e']
      rw [valV_neg e, b]; exact ih
theorem KT.repl {H : Hp} {kvs : List (List Key × V)} {xs : List (List Key × Addr × Value)} (r : KT H kvs xs) (k : List Key) {y : V} {u : Value} (ry : RelV y u) :
    KT H (kvs.map fun kv => if kv.1 = k then (kv.1, y) else kv) (xs.map (putAt k u)) := by
  induction r with
  | nil => exact .nil
  | @cons p q ps qs h t ih =>
    rw [List.map_cons, List.map_cons]
    refine .cons ?_ ih
    obtain ⟨h1, h2, h3⟩ := h
    unfold putAt
    by_cases e : p.1 = k
    · rw [if_pos e, if_pos (h1.symm.trans e)]; exact ⟨h1, h2, ry⟩
    · rw [if_neg e, if_neg (fun z => e (h1.trans z))]; exact ⟨h1, h2, h3⟩
theorem KT.put {H : Hp} {kvs : List (List Key × V)} {xs : List (List Key × Addr × Value)} (r : KT H kvs xs) (k : List Key) {b : Addr} {y : V} {u : Value} (hb : H b = some (.tup (k.map kV))) (ry : RelV y u) :
    KT H (putK kvs k y) (storedH xs k b u) := by
  have e : (kvs.any fun kv => decide (kv.1 = k)) = (atKey xs k).isSome := by
    rw [valV_any, (r.val k).isSome_eq, Option.isSome_map]
  unfold putK storedH
  rw [e]
  by_cases q : (atKey xs k).isSome = true
  · rw [if_pos q, if_pos q]; exact r.repl k ry
  · rw [if_neg q, if_neg q]; exact Paired.snoc r ⟨rfl, hb, ry⟩
theorem KT.keeps {H H' : Hp} {kvs : List (List Key × V)} {xs : List (List Key × Addr × Value)} (r : KT H kvs xs) (ht : ∀ b ys, H b = some (.tup ys) → H' b = some (.tup ys)) : KT H' kvs xs :=
  Paired.mapP r fun _ _ z => ⟨z.1, ht _ _ z.2.1, z.2.2⟩

section
variable {P : Program} {w : World} {H : Hp} {h : Heap} {a : Addr}
/-- a tracked tuple of ints and texts is a key -/
theorem key_of {ks : List Key} (ok : HOk P w H h) (e : H a = some (.tup (ks.map kV))) : (tupleKind (mixKind P w)).is h ks a := by
  obtain ⟨_, its, r, o, h1, h2, n, h3⟩ := (show ObjOk P w H h a (.tup (ks.map kV)) from ok a _ e)
  exact ⟨o, its.toArray, n, h1, h2.1, h3, by simpa using items_are r⟩
end

/-- what the dict at a holds at the key y -/
def DGet (H : Hp) (a : Addr) (y : V) (r : Option V) : Prop :=
  (∃ kvs k, Rd H a (.dK kvs) ∧ y = kV k ∧ r = valV kvs k) ∨ ∃ kvs k b, Rd H a (.dT kvs) ∧ y = .ref b ∧ H b = some (.tup (k.map kV)) ∧ r = valV kvs k
/-- the heap behind a[y] = v -/
def DPut (H : Hp) (a : Addr) (y v : V) (H' : Hp) : Prop :=
  (∃ kvs k, H a = some (.dK kvs) ∧ y = kV k ∧ kvs.length < sizeLine ∧ H' = upd H a (.dK (putK kvs k v))) ∨
  ∃ kvs k b, H a = some (.dT kvs) ∧ y = .ref b ∧ H b = some (.tup (k.map kV)) ∧ kvs.length < sizeLine ∧ H' = upd H a (.dT (putK kvs k v))
theorem DGet.k {H : Hp} {a : Addr} {kvs : List (Key × V)} {k : Key} (e : H a = some (.dK kvs)) : DGet H a (kV k) (valV kvs k) := .inl ⟨kvs, k, .inl e, rfl, rfl⟩
theorem DGet.t {H : Hp} {a b : Addr} {kvs : List (List Key × V)} {k : List Key} (e : H a = some (.dT kvs)) (eb : H b = some (.tup (k.map kV))) : DGet H a (.ref b) (valV kvs k) := .inr ⟨kvs, k, b, .inl e, rfl, eb, rfl⟩
theorem DPut.k {H : Hp} {a : Addr} {kvs : List (Key × V)} {k : Key} {v : V} (e : H a = some (.dK kvs)) (hl : kvs.length < sizeLine) : DPut H a (kV k) v (upd H a (.dK (putK kvs k v))) := .inl ⟨kvs, k, e, rfl, hl, rfl⟩
theorem DPut.t {H : Hp} {a b : Addr} {kvs : List (List Key × V)} {k : List Key} {v : V} (e : H a = some (.dT kvs)) (eb : H b = some (.tup (k.map kV))) (hl : kvs.length < sizeLine) :
    DPut H a (.ref b) v (upd H a (.dT (putK kvs k v))) := .inr ⟨kvs, k, b, e, rfl, eb, hl, rfl⟩


section
variable {X : Cx} {pins : List (Addr × Obj)} {σ : St} {H : Hp} {s : Shared} {a : Addr} {y v : V} {u r : Value} {o : Option V} {A : Around} {E : Value → Shared → Prop}

end

section
variable {X : Cx} {pins : List (Addr × Obj)} {σ : St} {H : Hp} {s : Shared} {a : Addr} {kvs : List (Key × V)} {k : Key} {u : Value} {A : Around} {E : Value → Shared → Prop}
end


/-! ### readings and rules -/
section
variable {X : Cx} {o i e value : Expr} {pos pos' tpos : Pos} {td ty tv : TE}
end


/-! ### displays -/
section
variable {X : Cx} {pos : Pos}
end

/-! ### methods -/
section
variable {X : Cx} {pins : List (Addr × Obj)} {σ : St} {H : Hp} {s : Shared} {a : Addr} {y d : V} {u r : Value} {o : Option V} {A : Around} {E : Value → Shared → Prop}
end

section
variable {X : Cx} {o e f : Expr} {apos cpos : Pos} {td ty tx : TE}
end

/-! ### dict(d): a copy -/
section
variable {X : Cx} {pins : List (Addr × Obj)} {σ : St} {H : Hp} {s : Shared} {a : Addr} {kvs : List (Key × V)} {A : Around} {E : Value → Shared → Prop}
end


section
variable {X : Cx} {pins : List (Addr × Obj)} {σ : St} {H : Hp} {s : Shared} {a : Addr} {y : V} {u : Value} {A : Around} {E : Value → Shared → Prop}
end
end L2
namespace L2
open PySem PySem.Spec PyProof.Rows
section
variable {X : Cx}
end
/-! ### a dict's pairs: keys that differ -/
section
variable {κ : Type} [DecidableEq κ]
end
end L2


/-! ### list comprehensions over the layer -/
namespace L2
open PySem PySem.Spec PyProof.Rows

theorem closGo {env : Env} : ∀ (names : List (Str × NameKind)), (∀ x ∈ names, x.2 = NameKind.free → ∃ c, env.cells.lookup x.1 = some c) →
    ∀ cs : List (Str × Addr), (∀ x c, cs.lookup x = some c → env.cells.lookup x = some c) →
    ∃ cl : List (Str × Addr), (forIn names cs (fun (x : Str × NameKind) (r : List (Str × Addr)) => (if (x.2 == NameKind.free) = true then do let a ← cellOf env x.1; pure (ForInStep.yield ((x.1, a) :: r)) else pure (ForInStep.yield r) : Sem (ForInStep (List (Str × Addr)))))) = (pure cl : Sem (List (Str × Addr))) ∧
      (∀ x c, cl.lookup x = some c → env.cells.lookup x = some c) ∧ (∀ x, ((x, NameKind.free) ∈ names ∨ ∃ c, cs.lookup x = some c) → ∃ c, cl.lookup x = some c)
  | [], _, cs, hs => ⟨cs, by rw [List.forIn_nil], hs, fun x h => h.elim (fun z => nomatch z) id⟩
  | (n, k) :: r, hf, cs, hs => by
    have hr : ∀ x ∈ r, x.2 = NameKind.free → ∃ c, env.cells.lookup x.1 = some c := fun x hx => hf x (List.mem_cons_of_mem _ hx)
    by_cases hk : k = NameKind.free
    · subst hk
      obtain ⟨a, ha⟩ := hf (n, NameKind.free) List.mem_cons_self rfl
      have hs' : ∀ x c, ((n, a) :: cs).lookup x = some c → env.cells.lookup x = some c := fun x c h => by
        rw [List.lookup_cons] at h
        by_cases hx : x = n
        · subst hx
          simp only [beq_self_eq_true] at h
          rw [← h]; exact ha
        · have : (x == n) = false := beq_eq_false_iff_ne.mpr hx
          rw [this] at h
          exact hs x c h
      obtain ⟨cl, e, h1, h2⟩ := closGo r hr ((n, a) :: cs) hs'
      refine ⟨cl, ?_, h1, fun x h => h2 x ?_⟩
      · rw [List.forIn_cons]
        have e1 : cellOf env n = pure a := by unfold cellOf; rw [show env.cells.lookup n = some a from ha]
        simp only [beq_self_eq_true, if_true, e1]
        exact e
      · rcases h with h | ⟨c, h⟩
        · rcases List.mem_cons.mp h with h | h
          · have : x = n := congrArg Prod.fst h
            subst this
            exact .inr ⟨a, by rw [List.lookup_cons]; simp⟩
          · exact .inl h
        · by_cases hx : x = n
          · subst hx; exact .inr ⟨a, by rw [List.lookup_cons]; simp⟩
          · exact .inr ⟨c, by rw [List.lookup_cons, beq_eq_false_iff_ne.mpr hx]; exact h⟩
    · obtain ⟨cl, e, h1, h2⟩ := closGo r hr cs hs
      refine ⟨cl, ?_, h1, fun x h => h2 x ?_⟩
      · rw [List.forIn_cons]
        have hb : (k == NameKind.free) = false := by simpa using hk
        simp only [hb, Bool.false_eq_true, if_false]
        exact e
      · rcases h with h | h
        · rcases List.mem_cons.mp h with h | h
          · exact absurd (congrArg Prod.snd h).symm hk
          · exact .inl h
        · exact .inr h
theorem clos_of {scope : Scope} {env : Env} (hf : ∀ x ∈ scope.names, x.2 = NameKind.free → ∃ c, env.cells.lookup x.1 = some c) :
    ∃ cl : List (Str × Addr), closureFor scope env = pure cl ∧ (∀ x c, cl.lookup x = some c → env.cells.lookup x = some c) ∧ (∀ x, (x, NameKind.free) ∈ scope.names → ∃ c, cl.lookup x = some c) := by
  obtain ⟨cl, e, h1, h2⟩ := closGo scope.names hf [] (fun x c h => by simp at h)
  refine ⟨cl, ?_, h1, fun x h => h2 x (.inl h)⟩
  unfold closureFor
  show ((forIn scope.names [] (fun (x : Str × NameKind) (r : List (Str × Addr)) => (if (x.2 == NameKind.free) = true then do let a ← cellOf env x.1; pure (ForInStep.yield ((x.1, a) :: r)) else pure (ForInStep.yield r) : Sem (ForInStep (List (Str × Addr)))))) >>= fun s => pure s) = pure cl
  rw [e]
  rfl

/-- names behind relabel -/
theorem relabel_out {env : Env} : ∀ {names : List (Str × NameKind)} {x : Str} {k : NameKind}, (∀ y ∈ names, y.2 ≠ NameKind.cell) →
    (names.map fun (n, k) => if (k == NameKind.free && env.scope.kind == .function && env.kindOf n == some .cell) then (n, NameKind.cell) else (n, k)).lookup x = some k → (k = .cell ∨ k = .free) → (x, NameKind.free) ∈ names
  | [], _, _, _, h, _ => by simp at h
  | (n, kk) :: r, x, k, hc, h, hk => by
    have ih := @relabel_out env r x k (fun y hy => hc y (List.mem_cons_of_mem _ hy))
    have hh := hc (n, kk) List.mem_cons_self
    simp only [List.map_cons] at h
    by_cases hcond : (kk == NameKind.free && env.scope.kind == .function && env.kindOf n == some .cell) = true
    · rw [if_pos hcond, List.lookup_cons] at h
      have hfree : kk = NameKind.free := by
        rw [Bool.and_eq_true, Bool.and_eq_true] at hcond
        simpa using hcond.1.1
      cases hx : x == n with
      | true =>
        have : x = n := by simpa using hx
        subst this; subst hfree
        exact List.mem_cons_self
      | false => rw [hx] at h; exact List.mem_cons_of_mem _ (ih h hk)
    · rw [if_neg hcond, List.lookup_cons] at h
      cases hx : x == n with
      | true =>
        rw [hx] at h
        have hkk : kk = k := Option.some.inj h
        have : x = n := by simpa using hx
        subst this; subst hkk
        rcases hk with z | z
        · exact absurd z hh
        · subst z; exact List.mem_cons_self
      | false => rw [hx] at h; exact List.mem_cons_of_mem _ (ih h hk)
theorem relabel_free {env : Env} : ∀ {names : List (Str × NameKind)} {x : Str}, names.lookup x = some .free →
    let l := (names.map fun (n, k) => if (k == NameKind.free && env.scope.kind == .function && env.kindOf n == some .cell) then (n, NameKind.cell) else (n, k))
    l.lookup x = some .cell ∨ l.lookup x = some .free
  | [], _, h => by simp at h
  | (n, kk) :: r, x, h => by
    have ih := @relabel_free env r x
    simp only [List.map_cons]
    rw [List.lookup_cons] at h
    by_cases hcond : (kk == NameKind.free && env.scope.kind == .function && env.kindOf n == some .cell) = true
    · rw [if_pos hcond, List.lookup_cons]
      cases hx : x == n with
      | true => exact .inl rfl
      | false => rw [hx] at h; exact ih h
    · rw [if_neg hcond, List.lookup_cons]
      cases hx : x == n with
      | true => rw [hx] at h; exact .inr h
      | false => rw [hx] at h; exact ih h

/-- the block's context: names N, the iterator's records at ex -/
abbrev Cx.comp (X : Cx) (N : List Str) (scope : Scope) (cl : List (Str × Addr)) (C : Addr) (s : Shared) (H : Hp) (ex : List Addr) (E : Value → Shared → Prop) : Cx :=
  { X with N := N, s₀ := s, H₀ := H, env := compEnvC scope cl C X.env, outer := X.stack, ex := ex, fn := fun _ => false, pn := [], xe := E }

/-- the tests of a comprehension -/
def PTs (X : Cx) (ifs : List Expr) (t : TT) : Prop :=
  ∀ (pins : List (Addr × Obj)) (s : Shared) (σ : St) (H : Hp) (Q : Bool → Hp → Prop), Inv X pins σ H s → t σ H Q →
    wpAny (model X.prog X.w) X.A (forIn ifs true fun c r => if r = true then do let ok ← isTrue c X.env (eval c X.env); pure (ForInStep.yield ok) else pure (ForInStep.yield r)) (TP X pins σ Q) X.xe s
def tTests0 : TT := fun _ H Q => Q true H
theorem tests0 {σ : St} {H : Hp} {A B : Hp → Prop} (h : A H) : tTests0 σ H fun c H5 => if c = true then A H5 else B H5 := by
  show if true = true then A H else B H
  rw [if_pos rfl]
  exact h
theorem pts_nil {X : Cx} : PTs X [] tTests0 := fun _ _ _ H _ I h => wpAny_tests_nil ⟨H, I, h⟩
/-- the target writes below n alone -/
def GKeep (n : Nat) (g : TG) : Prop := ∀ x σ H Q, g x σ H Q → g x σ H fun σ2 H2 => Q σ2 H2 ∧ σ2.length = σ.length ∧ ∀ i, n ≤ i → σ2[i]? = σ[i]?
theorem gk_name {n i : Nat} (h : i < n) : GKeep n (gName i) := fun x σ H Q q => ⟨q, by simp, fun j hj => by rw [List.getElem?_set_ne (by lia)]⟩
/-- the block's names at the entry: the targets without a value, then what is taken from around -/
def compSt (n : Nat) (caps : List (Nat × Str)) (σ : St) : St := List.replicate n none ++ caps.map fun p => (σ[p.1]?).join
/-- what a block's turns keep -/
def CStep (g : TG) (tt : TT) (te : TE) (σ : St) (Q : VK) (J : It) (W : Nat → Nat → List V → Hp → Prop) : Prop :=
  ∀ i m ys H2, W i m ys H2 → ys.length ≤ sizeLine ∧
    ((J.stop i H2 ∧ ∀ p, H2 p = none → Q (.ref p) (upd H2 p (.lst ys))) ∨
    (J.go i H2 ∧ ∃ N : List V → Hp → Prop, (∀ ys' H', N ys' H' → ∃ m', m' < m ∧ W (i + 1) m' ys' H') ∧ ∀ x H3, J.yld i H2 x H3 → g x σ H3 fun σ4 H4 => tt σ4 H4 fun c H5 =>
      if c = true then te σ4 H5 fun v H6 => N (ys ++ [v]) H6 else N ys H5))

/-- the block's turns over the iterator J, from the heap H1; Q of the new list -/
def CompGo (n : Nat) (caps : List (Nat × Str)) (g : TG) (tt : TT) (te : TE) (σ : St) (Q : VK) (J : It) (H1 : Hp) : Prop :=
  ∃ W : Nat → Nat → List V → Hp → Prop, (∃ m, W 0 m [] H1) ∧ CStep g tt te (compSt n caps σ) Q J W
def tComp (n : Nat) (caps : List (Nat × Str)) (wi : TI) (g : TG) (tt : TT) (te : TE) : TE := fun σ H Q => wi σ H fun J H1 => CompGo n caps g tt te σ Q J H1

/-- what the scopes must say: of the def (or block) around, of the block -/
def compOk (sc scope : Scope) (N0 tns : List Str) (caps : List (Nat × Str)) : Bool :=
  scope.kind == .function && scope.names.all (fun y => !(y.2 == .cell)) && scope.names.all (fun y => !(y.2 == .local) || scope.names.lookup y.1 == some .local) &&
  scope.names.all (fun y => !(y.2 == .free) || sc.names.lookup y.1 == some .cell) && caps.all (fun p => N0[p.1]? == some p.2 && sc.names.lookup p.2 == some .cell && scope.names.lookup p.2 == some .free)

theorem no_mem {α : Type} {p : α} {P : Prop} (h : p ∈ ([] : List α)) : P := nomatch h
/-- what follows once an item has come: the target, the tests, the element, the list -/
def CTail (M : Model) (A : Around) (elt tg : Expr) (ifs : List Expr) (acc : Value) (env : Env) (E : Value → Shared → Prop) (K : Shared → Prop) (v : Value) (s : Shared) : Prop :=
  wpAny M A (assign tg env v) (fun _ s₂ => wpAny M A (forIn ifs true fun c r => if r = true then do let ok ← isTrue c env (eval c env); pure (ForInStep.yield ok) else pure (ForInStep.yield r)) (fun ok s₃ =>
    if ok = true then wpAny M A (eval elt env) (fun x s₄ => wpAny M A (call (.builtin "list.append") [acc, x]) (fun _ s₅ => K s₅) E s₄) E s₃ else K s₃) E s₂) E s
/-- a block's turn -/
def CTurn (M : Model) (A : Around) (elt tg : Expr) (ifs : List Expr) (it acc : Value) (env : Env) (E : Value → Shared → Prop) (Rn K : Shared → Prop) (s : Shared) : Prop :=
  wpAny M A (pyNext it) (fun r s₁ => r = none ∧ Rn s₁ ∨ ∃ v, r = some v ∧ wpAny M A (letOwnedTupleGo tg it v) (fun _ s₁ => CTail M A elt tg ifs acc env E K v s₁) E s₁) E s
section
variable {prog : Program} {w : World} {A : Around} {R : Result → Shared → Prop} {s : Shared}
theorem compLoop_gen {elt target iter : Expr} {ifs : List Expr} {scope : Scope} {pos : Pos} {it acc : Value} {env : Env} {E : Value → Shared → Prop} (I : Nat → Shared → Prop) (hE : (notedBy (model prog w) A env fun e s' => R (.error e) s') = E)
    (turn : ∀ n s, I n s → CTurn (model prog w) A elt target ifs it acc env E (fun s => R (.ok .next) s) (fun s => ∃ m, m < n ∧ I m s) s) (n : Nat) (h : I n s) :
    codeAny (model prog w) A (.compLoop (.ListComp elt [⟨target, iter, ifs, 0⟩] scope pos) 0 it acc env) R s := by
  subst hE
  refine codeAny_loop rfl I (fun n s hI => ?_) n h
  show wpAny _ A ((compTurn (.ListComp elt [⟨target, iter, ifs, 0⟩] scope pos) 0 it acc env).onRaise (fun x => do noteFrame x env; theTreesLotGoes x)) _ _ s
  refine wpAny_noted ?_
  rw [compTurn_list]
  refine wpAny_bind (wpAny_standAt (wpAny_bind (thn (turn n s hI) fun r s₁ h₁ => ?_)))
  rcases h₁ with ⟨rfl, h₁⟩ | ⟨v, rfl, h₁⟩
  · exact wpAny_pure h₁
  · refine wpAny_bind (thn h₁ fun _ s₁' h₁' => wpAny_bind (thn h₁' fun _ s₂ h₂ => wpAny_bind (thn h₂ fun ok s₃ h₃ => ?_)))
    cases ok with
    | false => exact wpAny_pure ⟨rfl, h₃⟩
    | true => exact wpAny_bind (wpAny_bind (thn h₃ fun x s₄ h₄ => wpAny_bind (thn h₄ fun _ s₅ h₅ => wpAny_pure (wpAny_pure ⟨rfl, h₅⟩))))
end

/-- a list as it lies there -/
def lob (its : List Value) (k : Nat) : Obj := { cls := .type "list", data := .seq (List.toArray its) k }
/-- between two turns: the list under way at D -/
structure CIn (Y : Cx) (tn : Nat → Heap → Prop) (fp : List Addr) (D : Addr) (σ : St) (i : Nat) (H : Hp) (o : Obj) (s : Shared) : Prop where
  I : Inv Y [] σ H s
  t : tn i s.heap
  f : ∀ b ∈ fp, H b = none
  l : s.heap.get? D = some o
  n : H D = none
inductive CI (Y : Cx) (tn : Nat → Heap → Prop) (fp : List Addr) (D : Addr) (σ : St) (W : Nat → Nat → List V → Hp → Prop) (m : Nat) (s : Shared) : Prop
  | mk (i : Nat) (H : Hp) (ys : List V) (its : List Value) (k : Nat) (c : CIn Y tn fp D σ i H (lob its k) s) (r : Vals ys its) (w : W i m ys H)
/-- the block's place: what its context says of D and of the iterator's records -/
structure CAt (Y : Cx) (fp : List Addr) (D : Addr) : Prop where
  calm : Y.calm = true
  pn : Y.pn = []
  ne : D ≠ Y.env.locals
  fs : D ∉ Y.fs
  sz : Y.s₀.heap.objs.size ≤ D
  cl : ∀ x c, Y.env.cells.lookup x = some c → c ≠ D
  fpn : ∀ b ∈ fp, b ≠ D
  ok : ∀ b ∈ fp, ∀ H : Hp, H b = none → FpOk Y [] H b
section
variable {Y : Cx} {tn : Nat → Heap → Prop} {fp : List Addr} {D it : Addr} {σ : St} {tg elt iter : Expr} {ifs : List Expr} {J : It} {g : TG} {tt : TT} {te : TE} {n i : Nat} {H : Hp} {s : Shared} {o : Obj} {Kn : Shared → Prop}
theorem CAt.pins (c : CAt Y fp D) (hn : ∀ b ∈ fp, H b = none) : ∀ b ∈ fp, FpOk Y [(D, o)] H b := fun b hb =>
  have z := c.ok b hb H (hn b hb)
  ⟨z.1, z.2.1, z.2.2.1, z.2.2.2.1, z.2.2.2.2.1, fun p hp e => by
    rw [c.pn] at hp
    cases List.mem_singleton.mp hp
    exact c.fpn b hb e.symm⟩
theorem pins_out (T : Turn Y.prog Y.w Y.K tg J fp it tn) {h5 : Heap} (t : tn i h5) (I : Inv Y ([(D, o)] ++ pinsAt fp h5) σ H s) : CIn Y tn fp D σ i H o s :=
  have p := I.pin (D, o) (List.mem_append_right _ (.head _))
  have q : ∀ b ∈ fp, ∀ o', h5.get? b = some o' → s.heap.get? b = some o' ∧ H b = none := fun b hb o' e => have z := I.pin (b, o') (List.mem_append_right _ (.tail _ (mem_pinsAt hb e))); ⟨z.1, z.2.1⟩
  ⟨I.pins_of (pins' := []) fun _ h => no_mem h, T.keep _ _ _ t fun b hb o' e => (q b hb o' e).1, fun b hb => (T.obj _ _ t b hb).elim fun o' e => (q b hb o' e.1).2, p.1, p.2.1⟩
theorem lapp (T : Turn Y.prog Y.w Y.K tg J fp it tn) (a : CAt Y fp D) {its : List Value} {k : Nat} {v : Value} {E : Value → Shared → Prop} (c : CIn Y tn fp D σ i H (lob its k) s) (hz : its.length ≤ sizeLine)
    (hQ : ∀ k' s', CIn Y tn fp D σ i H (lob (its ++ [v]) k') s' → Kn s') : wpAny (model Y.prog Y.w) Y.A (call (.builtin "list.append") [.ref D, v]) (fun _ s => Kn s) E s := by
  refine call_meets F.slot_list_append ⟨_, c.l, rfl⟩ F.entry_list_append (F.args_list_append_2 _ _) (PySem.list_append D (List.toArray its) k v hz) ⟨c.l, ?_⟩
  have q : ∃ k', PySem.IsL (s.heap.update D (Obj.mapSeq (·.push v))) D ((List.toArray its).push v) k' := ⟨_, PySem.IsL.update c.l (·.push v)⟩
  rw [List.push_toArray] at q
  obtain ⟨k', q⟩ := q
  exact hQ k' _ ⟨c.I.turned (t' := s.toks) (h' := s.heap.update D (Obj.mapSeq (·.push v))) (it := D) (fun b o hb' e => (Heap.get?_update_other s.heap _ (Ne.symm hb')).trans e) c.n a.ne (.inr a.sz) a.cl (fun p hp => by rw [a.pn] at hp; exact no_mem hp),
    T.keep _ _ _ c.t fun b hb o e => (Heap.get?_update_other s.heap _ (Ne.symm (a.fpn b hb))).trans e, c.f, q, c.n⟩
theorem ctail_of {acc : Value} {pins : List (Addr × Obj)} {N : List V → Hp → Prop} {ys : List V} {x : V} {u : Value} (hg : PG Y tg g) (ht : PTs Y ifs tt) (he : PE Y elt te) (hG : GKeep n g) (h0 : ∀ (j : Nat) v, σ[j]? = some (some v) → n ≤ j)
    (I : Inv Y pins σ H s) (r : RelV x u) (st : g x σ H fun σ4 H4 => tt σ4 H4 fun c H5 => if c = true then te σ4 H5 fun v H6 => N (ys ++ [v]) H6 else N ys H5)
    (hF : ∀ H7 s7, Inv Y pins σ H7 s7 → N ys H7 → Kn s7) (hT : ∀ H8 s8 y v, Inv Y pins σ H8 s8 → RelV y v → N (ys ++ [y]) H8 → wpAny (model Y.prog Y.w) Y.A (call (.builtin "list.append") [acc, v]) (fun _ s => Kn s) Y.xe s8) :
    CTail (model Y.prog Y.w) Y.A elt tg ifs acc Y.env Y.xe Kn u s := by
  refine thn (hg _ s _ H x u _ I r (hG _ _ _ _ st)) fun _ s6 ⟨σ6, H6, I6, q6, l6, k6⟩ => ?_
  have wk : ∀ (j : Nat) v, σ[j]? = some (some v) → σ6[j]? = some (some v) := fun j v e => (k6 j (h0 j v e)).trans e
  refine thn (ht _ s6 σ6 H6 _ I6 q6) fun c s7 ⟨H7, I7, q7⟩ => ?_
  cases c with
  | false => exact hF _ _ (I7.weak l6.symm wk) q7
  | true => exact thn (he _ s7 σ6 H7 _ I7 q7) fun v8 s8 ⟨y8, H8, I8, r8, n8⟩ => hT _ _ _ _ (I8.weak l6.symm wk) r8 n8
theorem comp_turns {scope : Scope} {pos : Pos} {Q : V → Hp → Prop} {R : Result → Shared → Prop} (hE : (notedBy (model Y.prog Y.w) Y.A Y.env fun e s' => R (.error e) s') = Y.xe)
    (T : Turn Y.prog Y.w Y.K tg J fp it tn) (hG : GKeep n g) (hg : PG Y tg g) (ht : PTs Y ifs tt) (he : PE Y elt te) (a : CAt Y fp D) (h0 : ∀ (j : Nat) v, σ[j]? = some (some v) → n ≤ j)
    {W : Nat → Nat → List V → Hp → Prop} (turn : CStep g tt te σ Q J W)
    (hEnd : ∀ ys its k H3 s4, Inv Y [(D, lob its k)] σ H3 s4 → Vals ys its → ys.length ≤ sizeLine → Q (.ref D) (upd H3 D (.lst ys)) → R (.ok .next) s4) {m0 : Nat} (hi : CI Y tn fp D σ W m0 s) :
    codeAny (model Y.prog Y.w) Y.A (.compLoop (.ListComp elt [⟨tg, iter, ifs, 0⟩] scope pos) 0 (.ref it) (.ref D) Y.env) R s := by
  refine compLoop_gen (CI Y tn fp D σ W) hE (fun m s3 c => ?_) m0 hi
  cases c with
  | mk i H3 ys its k c rv w3 =>
  have I3 : Inv Y [(D, lob its k)] σ H3 s3 := c.I.pins_of fun p hp => List.mem_singleton.mp hp ▸ ⟨c.l, c.n, a.ne, a.fs, fun _ z => by cases z⟩
  have t := turn i m ys H3 w3
  refine t.2.elim (fun q => ?_) fun q => ?_
  · exact thn (T.done Y rfl rfl rfl a.calm i _ s3 _ H3 Y.xe I3 (a.pins c.f) c.t q.1) fun r s4 h => .inl ⟨h.1, hEnd ys its k H3 s4 h.2 rv t.1 (q.2 D c.n)⟩
  · refine q.2.elim fun NN h => ?_
    refine thn (T.item Y rfl rfl rfl a.calm i _ s3 _ H3 Y.xe I3 (a.pins c.f) c.t q.1) fun r s4 h4 => .inr (h4.elim fun u h4 => ⟨u, h4.1, thn h4.2 fun _ s5 h5 => h5.elim fun x h5 => h5.elim fun H5 h5 => ?_⟩)
    exact ctail_of hg ht he hG h0 (h5.1.pinned (a.pins h5.2.2.2.2) (T.obj _ _ h5.2.2.2.1)) h5.2.1 (h.2 x H5 h5.2.2.1)
      (fun H7 s7 I7 q7 => (h.1 _ _ q7).elim fun m' z => ⟨m', z.1, .mk (i + 1) H7 ys its k (pins_out T h5.2.2.2.1 I7) rv z.2⟩)
      fun H8 s8 y v I8 r8 q8 => (h.1 _ _ q8).elim fun m' z => lapp T a (pins_out T h5.2.2.2.1 I8) (rv.length ▸ t.1) fun k' s' c' => ⟨m', z.1, .mk (i + 1) H8 (ys ++ [y]) (its ++ [v]) k' c' (rv.append (.cons r8 .nil)) z.2⟩
end

section
variable {X : Cx} {elt tg iter : Expr} {ifs : List Expr} {scope sc : Scope} {pos : Pos} {n : Nat} {tns : List Str} {caps : List (Nat × Str)} {wi : TI} {g : TG} {tt : TT} {te : TE}

/-- what holds behind the block, over the context around: the new list at D, the block's frame at C -/
structure CompEnd (X : Cx) (pins : List (Addr × Obj)) (σ : St) (H3 : Hp) (D C : Addr) (ys : List V) (s' : Shared) : Prop where
  inv : Inv X pins σ (upd H3 D (.lst ys)) s'
  fresh : H3 D = none
  fp : FpOk X pins (upd H3 D (.lst ys)) C
  ns : ∃ m, s'.heap.Ns C m
theorem comp_end {pins : List (Addr × Obj)} {σ σ' : St} {H H3 : Hp} {s s4 : Shared} {D C : Addr} {fp : List Addr} {its : List Value} {k : Nat} {ys : List V} {Y : Cx} (I : Inv X pins σ H s) (hf : ∀ b ∈ fp, FpOk X pins H b) (hD : s.heap.objs.size ≤ D) (hDlt : D < C)
    (I4 : Inv Y [(D, lob its k)] σ' H3 s4) (hos : s4.os = s.os) (u : Un (frs X.stack) fp H H3 s.heap s4.heap) (hok : HOk X.prog X.w H3 s4.heap) (hC : Y.env.locals = C) (rv : Vals ys its) (hz : ys.length ≤ sizeLine) : CompEnd X pins σ H3 D C ys s4 := by
  subst hC
  have p := I4.pin (D, lob its k) (List.mem_append_right _ (.head _))
  have hDn : H3 D = none := p.2.1
  have up : ∀ {b : Addr} {o : HO}, H3 b = some o → upd H3 D (.lst ys) b = some o := fun e => (upd_ne (ne_of_none e hDn)).trans e
  refine ⟨I.call' (ch := fp) hos ⟨u.keep, u.slot, fun b o e nn hx => (upd_ne (Nat.ne_of_lt (Nat.lt_of_lt_of_le (Heap.lt_size e) hD))).trans (u.free b o e nn hx), u.there, fun b xs e => up (u.tups b xs e), fun b o xs e => up (u.frzs b o xs e), fun b ps e => (u.tbls b ps e).elim fun more z => ⟨more, up z⟩⟩ (fun a o e => ?_) I4.bare fun b hb => have z := hf b hb; ⟨z.2.2.2.1, z.2.1, z.2.2.2.2.1, z.2.2.2.2.2⟩, hDn, I.fpOk (Nat.le_trans hD (Nat.le_of_lt hDlt)) ((upd_ne (Nat.ne_of_gt hDlt)).trans I4.free), I4.loc.elim fun m z => ⟨m, z.1⟩⟩
  by_cases ha : a = D
  · subst ha
    rw [upd_same] at e; cases e
    exact ⟨hz, its, k, rv, p.1⟩
  · rw [upd_ne ha] at e
    exact (hok a o e).stay (fun b u _ q => q) (fun b q => up q) fun b xs q => up q

/-- where a block begins: the new list, the block's names -/
def CBlk (X : Cx) (elt tg iter : Expr) (ifs : List Expr) (scope : Scope) (pos : Pos) (it : Value) (cl : List (Str × Addr)) (RR : Value → Addr → Result → Shared → Prop) (E : Value → Shared → Prop) (s : Shared) : Prop :=
  wpAny (model X.prog X.w) X.A (newList []) (fun acc s₃ => wpAny (model X.prog X.w) X.A (newFunctionEnv scope X.env.globals cl [] X.env.qual none .none (some X.env)) (fun cenv s₄ =>
      codeAny (model X.prog X.w) X.A (.compStart (.ListComp elt [⟨tg, iter, ifs, 0⟩] scope pos) 0 it acc { cenv with scope := relabel scope X.env }) (RR acc cenv.locals) s₄) E s₃) E s

theorem compSt_at {σ : St} {i : Nat} {v : V} (e : (compSt n caps σ)[i]? = some (some v)) : n ≤ i ∧ ∃ p, caps[i - n]? = some p ∧ σ[p.1]? = some (some v) := by
  unfold compSt at e
  by_cases h : i < n
  · rw [List.getElem?_append_left (by simpa using h), List.getElem?_replicate, if_pos h] at e
    cases e
  · have hi := Nat.le_of_not_lt h
    rw [List.getElem?_append_right (by simpa using hi), List.length_replicate, List.getElem?_map] at e
    refine ⟨hi, ?_⟩
    cases hcp : caps[i - n]? with
    | none => rw [hcp] at e; cases e
    | some p =>
      rw [hcp] at e
      exact ⟨p, rfl, Option.join_eq_some_iff.mp (Option.some.inj e)⟩
/-- what the scopes say -/
structure COk (X : Cx) (scope : Scope) (caps : List (Nat × Str)) : Prop where
  kind : scope.kind = .function
  cell : ∀ y ∈ scope.names, y.2 ≠ NameKind.cell
  loc : ∀ y ∈ scope.names, y.2 = .local → scope.names.lookup y.1 = some .local
  free : ∀ y ∈ scope.names, y.2 = .free → X.env.scope.names.lookup y.1 = some .cell
  caps : ∀ p ∈ caps, (X.N[p.1]? = some p.2 ∧ X.env.scope.names.lookup p.2 = some .cell) ∧ scope.names.lookup p.2 = some .free
theorem COk.of {N0 : List Str} (hsc : X.env.scope = sc) (hN0 : X.N = N0) (ok : compOk sc scope N0 tns caps = true) : COk X scope caps := by
  subst hsc
  subst hN0
  unfold compOk at ok
  simp only [Bool.and_eq_true, List.all_eq_true, beq_iff_eq, Bool.or_eq_true, Bool.not_eq_true', beq_eq_false_iff_ne] at ok
  exact ⟨ok.1.1.1.1, ok.1.1.1.2, fun y hy e => (ok.1.1.2 y hy).resolve_left (absurd e), fun y hy e => (ok.1.2 y hy).resolve_left (absurd e), ok.2⟩
section
variable {pins : List (Addr × Obj)} {σ : St} {H : Hp} {s : Shared} {fp : List Addr} {cl : List (Str × Addr)} {C : Addr} {E : Value → Shared → Prop} {N : List Str} {h₁ : Heap}
theorem comp_cx (ok : COk X scope caps) (I : Inv X pins σ H s) (hf : ∀ b ∈ fp, FpOk X pins H b) (hlt : ∀ b ∈ fp, b < s.heap.objs.size)
    (hsub : ∀ x c, cl.lookup x = some c → X.env.cells.lookup x = some c) (hall : ∀ x, (x, NameKind.free) ∈ scope.names → ∃ c, cl.lookup x = some c) (hC : s.heap.objs.size < C) : (X.comp N scope cl C s H fp E).Ok :=
  ⟨I.ok.mod, ok.kind, I.ok.glob, I.ok.blt, Nat.le_of_lt hC, fun x y c h1 h2 => I.ok.inj x y c (hsub x c h1) (hsub y c h2), fun x hx => hall x (hx.elim (fun z => relabel_out ok.cell z (.inl rfl)) fun z => relabel_out ok.cell z (.inr rfl)), (fun x c hx => by cases hx), I.ok.hd, I.ok.frames, .inl rfl,
    fun b hb => ⟨Nat.ne_of_lt (Nat.lt_trans (hlt b hb) hC), fun x c e => (hf b hb).2.2.2.2.1 x c (hsub x c e)⟩, I.bs, Nat.le_trans I.ok.bsz I.sz, fun b o e hb => (hf b hb).2.2.2.1.elim (I.ok.noex b o e) fun z => absurd (Nat.lt_of_lt_of_le (Heap.lt_size e) (Nat.le_trans I.ok.bsz z)) (Nat.lt_irrefl _),
    fun b hb hz => (List.mem_cons.mp (I.stkSub b hz)).elim (hf b hb).2.1 (hf b hb).2.2.1, I.stack, I.stkFree⟩
theorem comp_inv (okc : COk X scope caps) (hn : tns.length = n) (ok : (X.comp (tns ++ caps.map (·.2)) scope cl C s H fp E).Ok) (I : Inv X pins σ H s)
    (hsub : ∀ x c, cl.lookup x = some c → X.env.cells.lookup x = some c) (hall : ∀ x, (x, NameKind.free) ∈ scope.names → ∃ c, cl.lookup x = some c) (hC : s.heap.objs.size < C) (hns : h₁.Ns C fun _ => none) (old : ∀ b o, s.heap.get? b = some o → h₁.get? b = some o) {tk : Nat} :
    Inv (X.comp (tns ++ caps.map (·.2)) scope cl C s H fp E) [] (compSt n caps σ) H { s with heap := h₁, toks := tk } := by
  refine ⟨ok, rfl, I.bare, Un.kept old, ⟨_, hns, fun i x v e1 e2 _ => ?_⟩, fun x c e => (I.cell x c (hsub x c e)).elim fun v z => z.elim fun o z => ⟨v, o, old _ _ z.1, z.2⟩, I.hok.fresh (Nat.le_of_lt hC), fun x c e => I.freeC x c (hsub x c e), fun p hp => no_mem (α := Addr × Obj) hp, I.hok.kept old, by simp [compSt, hn]⟩
  obtain ⟨hi, p, hp, hσ⟩ := compSt_at e2
  have e1' : (tns ++ caps.map (·.2))[i]? = some x := e1
  rw [List.getElem?_append_right (hn ▸ hi), hn, List.getElem?_map, hp] at e1'
  cases Option.some.inj e1'
  have p5 := okc.caps p (List.mem_of_getElem? hp)
  obtain ⟨m, hm, hl⟩ := I.loc
  obtain ⟨u, r, l⟩ := hl p.1 p.2 v p5.1.1 hσ (.inr (.inl p5.1.2))
  refine ⟨u, r, .inr ?_⟩
  rcases l with ⟨k, _⟩ | ⟨k, c, e, z⟩
  · cases p5.1.2.symm.trans k
  · obtain ⟨c', e'⟩ := hall p.2 (PySem.mem_of_lookup p5.2)
    cases e.symm.trans (hsub _ _ e')
    exact ⟨relabel_free (env := X.env) p5.2, c, e', z.elim fun o z => ⟨o, old _ _ z.1, z.2⟩⟩
variable {J : It} {it : Addr} {tn : Nat → Heap → Prop} {Q : V → Hp → Prop} {RR : Value → Addr → Result → Shared → Prop} {W : Nat → Nat → List V → Hp → Prop} {m0 : Nat}
theorem comp_go (ok : COk X scope caps) (hc : X.calm = true) (hn : tns.length = n) (hG : GKeep n g)
    (hb : ∀ cl C s H ex E, PG (X.comp (tns ++ caps.map (·.2)) scope cl C s H ex E) tg g ∧ PTs (X.comp (tns ++ caps.map (·.2)) scope cl C s H ex E) ifs tt ∧ PE (X.comp (tns ++ caps.map (·.2)) scope cl C s H ex E) elt te)
    (I : Inv X pins σ H s) (T : Turn X.prog X.w X.K tg J fp it tn) (t0 : tn 0 s.heap) (hf : ∀ b ∈ fp, FpOk X pins H b)
    (hsub : ∀ x c, cl.lookup x = some c → X.env.cells.lookup x = some c) (hall : ∀ x, (x, NameKind.free) ∈ scope.names → ∃ c, cl.lookup x = some c)
    (w0 : W 0 m0 [] H) (turn : CStep g tt te (compSt n caps σ) Q J W)
    (hRR : ∀ D C ys H3 s', CompEnd X pins σ H3 D C ys s' → Q (.ref D) (upd H3 D (.lst ys)) → RR (.ref D) C (.ok .next) s')
    (hC : s.heap.objs.size < C) (hns : h₁.Ns C fun _ => none) (old : ∀ b o, s.heap.get? b = some o → h₁.get? b = some o) (hacc : h₁.get? s.heap.objs.size = some (lob [] 0)) {tk : Nat} :
    codeAny (model X.prog X.w) X.A (.compStart (.ListComp elt [⟨tg, iter, ifs, 0⟩] scope pos) 0 (.ref it) (.ref s.heap.objs.size) (compEnvC scope cl C X.env)) (RR (.ref s.heap.objs.size) C) { s with heap := h₁, toks := tk } := by
  have hlt : ∀ b ∈ fp, b < s.heap.objs.size := fun b hb => (T.obj _ _ t0 b hb).elim fun o e => Heap.lt_size e.1
  have okY : ∀ E, (X.comp (tns ++ caps.map (·.2)) scope cl C s H fp E).Ok := fun E => comp_cx ok I hf hlt hsub hall hC
  have t1 : tn 0 h₁ := T.keep _ _ _ t0 fun b _ o e => old b o e
  have loop : ∀ tk, codeAny (model X.prog X.w) X.A (.compLoop (.ListComp elt [⟨tg, iter, ifs, 0⟩] scope pos) 0 (.ref it) (.ref s.heap.objs.size) (compEnvC scope cl C X.env)) (RR (.ref s.heap.objs.size) C) { s with heap := h₁, toks := tk } := fun tk =>
    have z := hb cl C s H fp (notedBy (model X.prog X.w) X.A (compEnvC scope cl C X.env) fun e s' => RR (.ref s.heap.objs.size) C (.error e) s')
    comp_turns (Y := X.comp (tns ++ caps.map (·.2)) scope cl C s H fp _) rfl T hG z.1 z.2.1 z.2.2
      ⟨hc, rfl, Nat.ne_of_lt hC, fun hz => (I.stack.mem hz).2.elim fun o ho => absurd (Heap.lt_size ho.1) (Nat.lt_irrefl _), Nat.le_refl _, fun x c e => (I.cell x c (hsub x c e)).elim fun v z => Nat.ne_of_lt z.lt, fun b hb => Nat.ne_of_lt (hlt b hb),
        fun b hb H' h' => ⟨h', Nat.ne_of_lt (Nat.lt_trans (hlt b hb) hC), (okY fun _ _ => True).exfs b hb, .inl hb, fun x c e => (hf b hb).2.2.2.2.1 x c (hsub x c e), fun p hp => no_mem (α := Addr × Obj) hp⟩⟩
      (fun j v e => (compSt_at e).1) turn (fun ys its k H3 s4 I4 rv hz q => hRR _ C ys H3 s4 (comp_end I hf (Nat.le_refl _) hC I4 I4.os I4.base I4.hok rfl rv hz) q)
      (.mk 0 H [] [] 0 ⟨comp_inv ok hn (okY _) I hsub hall hC hns old, t1, fun b hb => (hf b hb).1, hacc, I.hok.fresh (Nat.le_refl _)⟩ .nil w0)
  exact codeAny_compStart_list (loop _) (T.self _ 0 _ _ _ t1 (loop _))
theorem comp_block (ok : COk X scope caps) (hc : X.calm = true) (hn : tns.length = n) (hG : GKeep n g)
    (hb : ∀ cl C s H ex E, PG (X.comp (tns ++ caps.map (·.2)) scope cl C s H ex E) tg g ∧ PTs (X.comp (tns ++ caps.map (·.2)) scope cl C s H ex E) ifs tt ∧ PE (X.comp (tns ++ caps.map (·.2)) scope cl C s H ex E) elt te)
    {itv : Value} (h : PIE X pins σ tg (fun J H1 => CompGo n caps g tt te σ Q J H1) itv s)
    (hsub : ∀ x c, cl.lookup x = some c → X.env.cells.lookup x = some c) (hall : ∀ x, (x, NameKind.free) ∈ scope.names → ∃ c, cl.lookup x = some c)
    (hRR : ∀ D C ys H3 s', CompEnd X pins σ H3 D C ys s' → Q (.ref D) (upd H3 D (.lst ys)) → RR (.ref D) C (.ok .next) s') :
    CBlk X elt tg iter ifs scope pos itv cl RR E s := by
  obtain ⟨it, fp, tn, J, H', rfl, I, T, t0, hf, W, ⟨m0, w0⟩, turn⟩ := h
  refine wpAny_newObj_type (wpAny_newFunctionEnv ok.cell (by intro y hy; simp at hy) (fun h₁ hns₁ hsb₁ => ?_) ok.kind)
  have hs : ∀ o, (s.heap.push o).objs.size = s.heap.objs.size + 1 := fun o => Heap.size_push ..
  exact comp_go ok hc hn hG hb I T t0 hf hsub hall w0 turn hRR (Nat.lt_of_lt_of_eq (Nat.lt_succ_self _) (hs _).symm) hns₁
    (fun b o e => hsb₁.extBut b o (Nat.ne_of_lt (Nat.lt_trans (Heap.lt_size e) (Nat.lt_of_lt_of_eq (Nat.lt_succ_self _) (hs _).symm))) (Heap.get?_push_of_some _ (Heap.get?_push_of_some _ e)))
    (hsb₁.extBut _ _ (Nat.ne_of_lt (Nat.lt_of_lt_of_eq (Nat.lt_succ_self _) (hs _).symm)) (Heap.get?_push_of_some _ (Heap.get?_push_size _ rfl)))
end

/-- [e for t in i if c] -/
theorem pe_comp (sc : Scope) (N0 : List Str) (tns : List Str) (caps : List (Nat × Str)) (hc : X.calm = true) (hi : PI X tg iter wi) (hG : GKeep tns.length g)
    (hb : ∀ cl C s H ex E, PG (X.comp (tns ++ caps.map (·.2)) scope cl C s H ex E) tg g ∧ PTs (X.comp (tns ++ caps.map (·.2)) scope cl C s H ex E) ifs tt ∧ PE (X.comp (tns ++ caps.map (·.2)) scope cl C s H ex E) elt te)
    (hsc : X.env.scope = sc := by rfl) (hN0 : X.N = N0 := by rfl) (ok : compOk sc scope N0 tns caps = true := by decide +kernel)
    (hs : ∀ x, foldedSetIterable iter X.env x = pure x := by intro _; rfl) :
    PE X (.ListComp elt [⟨tg, iter, ifs, 0⟩] scope pos) (tComp tns.length caps wi g tt te) := by
  intro pins s σ H Q I h
  have okc := COk.of hsc hN0 ok
  obtain ⟨cl, ecl, hsub, hall⟩ := clos_of (scope := scope) (env := X.env) fun x hx hfr => I.ok.has x.1 (.inl (okc.free x hx hfr))
  rw [eval_ListComp]
  exact wpAny_comprehension_free (use := none) rfl hs ecl okc.kind okc.loc (thn (hi pins s σ H _ I h) fun xv s₁ h₁ => thn h₁ fun itv s₂ h₂ =>
    comp_block (RR := fun acc C => compPost (model X.prog X.w) X.A X.xe none (EP X pins σ Q) acc C) okc hc rfl hG hb h₂ hsub hall fun D C ys H3 s' ce q => ce.ns.elim fun mm hns =>
      ⟨mm, hns, fun h' hs' => ⟨.ref D, _, ce.inv.turned (t' := s'.toks) (fun b o hb' e => (hs'.extBut b o hb' e)) ce.fp.1 ce.fp.2.1 ce.fp.2.2.2.1 ce.fp.2.2.2.2.1 ce.fp.2.2.2.2.2, rfl, q⟩⟩)

end

/-! ### the forms one uses -/
section
variable {K : PySem.W.Frag} {a : Addr} {xs : List V} {n : Nat} {caps : List (Nat × Str)} {g : TG} {tt : TT} {te : TE} {σ : St} {H : Hp} {Q : V → Hp → Prop}
end

/-! ### rules whose reading names the written part: for use within a block -/
section
variable {X : Cx} {pos : Pos}
def rLenOf (K : PySem.W.Frag) : List V → Hp → VK → Prop := fun xs H Q => ∃ p ys, xs = [.ref p] ∧ (SqL K H p ys ∨ SqT K H p ys) ∧ Q (.int ys.length) H
theorem call_len_seqK (K : PySem.W.Frag) (h : X.K = K) : CallR X (.builtin "len") (rLenOf K) := by subst h; exact call_len_seq
theorem ix_listK (K : PySem.W.Frag) (h : X.K = K) : IxR X (rIxL K) := by subst h; exact ix_list
theorem sl_listK (K : PySem.W.Frag) (h : X.K = K) : SlR X (rSlL K) := by subst h; exact sl_list
end
end L2

/-! ### defs in a bundle, plain data at values, == and != of plain data -/
namespace L2
open PySem PySem.Spec PyProof.Rows

/-- a def that stands at a global name -/
structure Fn (P : Program) (w : World) (K : PySem.W.Frag) (mg : Str → Option Value) (base : Heap) (k : Nat) (x : Str) (ps : List Str) (sp : Sp) : Prop where
  ex : ∃ f fd, FnOk P w K mg base CX0 k f fd ps sp ∧ Binds K fd ps [] ∧ PySem.W.keepIn K (.ref f) = true ∧ mg x = some (.ref f)
section
variable {X : Cx} {k j : Nat} {x : Str} {ps : List Str} {sp : Sp} {e : Expr} {es : List Expr} {t : TA} {p pos : Pos}
theorem pe_fn (G : Fn X.prog X.w X.K X.mg X.base k x ps sp) (hr : Room j X.A) (hj : k ≤ j) (ha : PA X (e :: es) t) (hg : Gl X x := by rfl) (hdb : (x == ("__debug__" : Str)) = false := by decide)
    (he : starEach (e :: es) X.env = (false, eval e X.env) :: starEach es X.env := by rfl) (hpl : (backTo pos (starEach es X.env)).any (·.1) = false := by rfl) :
    PE X (.Call (.Name x p) (e :: es) [] pos) (tCall sp [] E0 t) := by
  obtain ⟨f, fd, F, b, kp, m⟩ := G.ex
  exact pe_call F (hr.mono hj) hg m kp b .nil pass0 ha hdb he hpl
end

/-- a def of the text as it stands behind the top, at its name -/
def Def (K : PySem.W.Frag) (mg : Str → Option Value) (x : Str) (st : Stmt) (ps : List Str) : Prop := ∃ f fd, Fun K x x st f fd ∧ Binds K fd ps [] ∧ mg x = some (.ref f)
theorem fn_mk {P : Program} {w : World} {K : PySem.W.Frag} {mg : Str → Option Value} {base : Heap} {x : Str} {st : Stmt} {N ps : List Str} {k : Nat} {sp : Sp} (D : Def K mg x st ps) (S : FnScope N ps (defScope st)) (len : ∀ vs H Q E, sp vs H Q E → vs.length = ps.length)
    (hbody : ∀ (f : Addr) (cdv : Value) (A : Around) (outer : List Env) (s : Shared) (H : Hp) (vs : List V) (Q : VK) (E : XK), Room k (A.deeper (envOfC x (defScope st) s.heap.objs.size f cdv)) → sp vs H Q E →
      ∃ t, PSs (cxOf CX0 P w K mg base N x (defScope st) f cdv A outer s H E).nox (defBody st) t ∧ t { nx := fun _ H' => Q .non H', rt := Q } (start N vs) H) : Fn P w K mg base (k + 1) x ps sp := by
  obtain ⟨f, fd, F, b, m⟩ := D
  exact ⟨f, fd, F.ok S len (hbody f), b, F.kp, m⟩
theorem le_hu {a d c : Nat} (h : d ≤ 8) (hu : a + 8 < c) : a + d < c := by omega

theorem same_new {H : Hp} {p : Addr} (h : H p = none) (o : HO) : Same H (upd H p o) := fun b u q => by rw [upd_ne (ne_of_none q h)]; exact q
theorem Same.own {H H2 : Hp} {p : Addr} (s : Same H H2) (h : H p = none) (o : HO) : Same H (upd H2 p o) := fun b u q => by rw [upd_ne (ne_of_none q h)]; exact s b u q
theorem Same.new {H H2 : Hp} {p : Addr} (s : Same H H2) (h : H2 p = none) (o : HO) : Same H (upd H2 p o) := s.trans (same_new h o)
theorem Same.seqT {K : PySem.W.Frag} {H H' : Hp} {a : Addr} {xs : List V} (e : Same H H') (h : SqT K H a xs) : SqT K H' a xs := by
  rcases h with (h | ⟨o, h⟩) | h
  · exact .inl (.inl (e _ _ h))
  · exact .inl (.inr ⟨o, e _ _ h⟩)
  · exact .inr h

theorem hu8 {A : Around} {k : Nat} (hr : Room k A) : A.units + 8 < cLine := Nat.lt_of_le_of_lt (Nat.add_le_add_left (by decide : 8 ≤ 64) _) hr.units

/-! plain data at a value -/
abbrev Enc (α : Type) := PySem.W.Frag → Hp → V → α → Prop
def rInt : Enc Int := fun _ _ v i => v = .int i
def rL {α : Type} (r : Enc α) : Enc (List α) := fun K H v as => ∃ a xs, v = .ref a ∧ SqL K H a xs ∧ Paired (r K H) xs as
theorem Paired.getL {α β : Type} {F : α → β → Prop} : ∀ {l : List α} {m : List β} {i : Nat} {a : α}, Paired F l m → l[i]? = some a → ∃ b, m[i]? = some b ∧ F a b
  | _, _, _, _, .nil, e => by simp at e
  | _, _, 0, _, .cons r _, e => by simp at e; subst e; exact ⟨_, rfl, r⟩
  | _, _, i + 1, a, .cons _ t, e => by
    obtain ⟨b, h1, h2⟩ := Paired.getL (i := i) (a := a) t (by simpa using e)
    exact ⟨b, by simpa using h1, h2⟩
theorem Paired.getR {α β : Type} {F : α → β → Prop} : ∀ {l : List α} {m : List β} {i : Nat} {b : β}, Paired F l m → m[i]? = some b → ∃ a, l[i]? = some a ∧ F a b
  | _, _, _, _, .nil, e => by simp at e
  | _, _, 0, _, .cons r _, e => by simp at e; subst e; exact ⟨_, rfl, r⟩
  | _, _, i + 1, b, .cons _ t, e => by
    obtain ⟨a, h1, h2⟩ := Paired.getR (i := i) (b := b) t (by simpa using e)
    exact ⟨a, by simpa using h1, h2⟩
theorem Paired.len {α β : Type} {F : α → β → Prop} {l : List α} {m : List β} (h : Paired F l m) : l.length = m.length := Paired.length h
theorem Paired.app {α β : Type} {F : α → β → Prop} : ∀ {l l' : List α} {m m' : List β}, Paired F l m → Paired F l' m' → Paired F (l ++ l') (m ++ m')
  | _, _, _, _, .nil, h => h
  | _, _, _, _, .cons r t, h => .cons r (Paired.app t h)
theorem paired_ints (ns : List Int) : ∀ {K : PySem.W.Frag} {H : Hp}, Paired (rInt K H) (ns.map V.int) ns := by
  intro K H
  induction ns with
  | nil => exact .nil
  | cons n r ih => exact .cons rfl ih
/-- == is equality of the data; d: how deep it goes -/
structure EqOk {α : Type} [DecidableEq α] (r : Enc α) (d : Nat) : Prop where
  uniq : ∀ {X : Cx} {pins : List (Addr × Obj)} {σ : St} {H : Hp} {s : Shared} {x : V} {a b : α}, Inv X pins σ H s → r X.K H x a → r X.K H x b → a = b
  eq : ∀ {X : Cx} {pins : List (Addr × Obj)} {σ : St} {H : Hp} {s : Shared} {x y : V} {v u : Value} {a b : α} {A : Around}, Inv X pins σ H s → RelV x v → RelV y u → r X.K H x a → r X.K H y b → A.units + d < cLine → SeqAt.EqAt A s v u (decide (a = b))
  rc : ∀ {X : Cx} {pins : List (Addr × Obj)} {σ : St} {H : Hp} {s : Shared} {x y : V} {v u : Value} {a b : α} {A : Around}, Inv X pins σ H s → RelV x v → RelV y u → r X.K H x a → r X.K H y b → A.units + d < cLine → SeqAt.RcAt A s v u (decide (a = b))
  ne : ∀ {X : Cx} {pins : List (Addr × Obj)} {σ : St} {H : Hp} {s : Shared} {x y : V} {v u : Value} {a b : α} {A : Around}, Inv X pins σ H s → RelV x v → RelV y u → r X.K H x a → r X.K H y b → A.units + d < cLine → SeqAt.RcNeAt A s v u (!decide (a = b))
  keep : ∀ {K : PySem.W.Frag} {H H' : Hp} {x : V} {a : α}, Same H H' → r K H x a → r K H' x a

theorem EqOk.up {α : Type} [DecidableEq α] {r : Enc α} {d e : Nat} (E : EqOk r d) (h : d ≤ e) : EqOk r e :=
  ⟨E.uniq, fun I rx ry h1 h2 hu => E.eq I rx ry h1 h2 (by omega), fun I rx ry h1 h2 hu => E.rc I rx ry h1 h2 (by omega), fun I rx ry h1 h2 hu => E.ne I rx ry h1 h2 (by omega), E.keep⟩
theorem in1_units (A : Around) : A.in1.units = A.units + 1 := rfl
theorem dec_i {a b : Int} : (a == b) = decide (a = b) := by rw [Bool.eq_iff_iff]; simp
theorem eq_int : EqOk rInt 0 where
  uniq := fun _ h1 h2 => by
    have h1' : _ = V.int _ := h1
    have h2' : _ = V.int _ := h2
    rw [h1'] at h2'; injection h2'
  eq := fun {X pins σ H s x y v u a b A} I rx ry h1 h2 _ => by
    have h1' : x = V.int a := h1
    have h2' : y = V.int b := h2
    subst h1' h2'
    obtain ⟨t, rfl⟩ := rx
    obtain ⟨t', rfl⟩ := ry
    rw [← dec_i]; exact SeqAt.EqAt.int_int a t b t'
  rc := fun {X pins σ H s x y v u a b A} I rx ry h1 h2 _ => by
    have h1' : x = V.int a := h1
    have h2' : y = V.int b := h2
    subst h1' h2'
    obtain ⟨t, rfl⟩ := rx
    obtain ⟨t', rfl⟩ := ry
    rw [← dec_i]; exact SeqAt.RcAt.int_int a t b t'
  ne := fun {X pins σ H s x y v u a b A} I rx ry h1 h2 _ => by
    have h1' : x = V.int a := h1
    have h2' : y = V.int b := h2
    subst h1' h2'
    obtain ⟨t, rfl⟩ := rx
    obtain ⟨t', rfl⟩ := ry
    rw [← dec_i]; exact SeqAt.RcNeAt.int_int a t b t'
  keep := fun _ h => h

theorem all_dec {α : Type} [DecidableEq α] {as bs : List α} (h : as.length = bs.length) : (List.range as.length).all (fun j => decide (as[j]? = bs[j]?)) = decide (as = bs) := by
  rw [Bool.eq_iff_iff]
  simp only [List.all_eq_true, List.mem_range, decide_eq_true_eq]
  constructor
  · intro hh
    apply List.ext_getElem?
    intro i
    by_cases hi : i < as.length
    · exact hh i hi
    · rw [List.getElem?_eq_none (by omega), List.getElem?_eq_none (by omega)]
  · rintro rfl; intros; rfl

theorem Paired.uniq {α β : Type} {F : α → β → Prop} (hu : ∀ a b c, F a b → F a c → b = c) : ∀ {l : List α} {m m' : List β}, Paired F l m → Paired F l m' → m = m'
  | _, _, _, .nil, .nil => rfl
  | _, _, _, .cons r t, .cons r' t' => by rw [hu _ _ _ r r', Paired.uniq hu t t']
theorem Paired.imp2 {α β : Type} {F G : α → β → Prop} (h : ∀ a b, F a b → G a b) : ∀ {l : List α} {m : List β}, Paired F l m → Paired G l m
  | _, _, .nil => .nil
  | _, _, .cons r t => .cons (h _ _ r) (Paired.imp2 h t)

section
variable {α : Type} [DecidableEq α] {r : Enc α} {d : Nat}
theorem list_items (E : EqOk r d) {X : Cx} {pins : List (Addr × Obj)} {σ : St} {H : Hp} {s : Shared} {A : Around} (I : Inv X pins σ H s) (hu : A.units + (d + 1) < cLine) {xs ys : List V} {as bs : List α} {its its2 : List Value}
    (r1 : Vals xs its) (r2 : Vals ys its2) (p1 : Paired (r X.K H) xs as) (p2 : Paired (r X.K H) ys bs) :
    ∀ j (h1 : j < its.toArray.size) (h2 : j < its2.toArray.size), SeqAt.EqAt A.in1 s its.toArray[j] its2.toArray[j] (decide (as[j]? = bs[j]?)) := by
  intro j h1 h2
  have h1' : j < its.length := by simpa using h1
  have h2' : j < its2.length := by simpa using h2
  obtain ⟨x, ex, rx⟩ := Paired.getR (i := j) (b := its[j]) r1 (by simp [h1'])
  obtain ⟨y, ey, ry⟩ := Paired.getR (i := j) (b := its2[j]) r2 (by simp [h2'])
  obtain ⟨a, ea, ra⟩ := Paired.getL p1 ex
  obtain ⟨b, eb, rb⟩ := Paired.getL p2 ey
  have := E.eq (A := A.in1) I rx ry ra rb (by rw [in1_units]; omega)
  rw [ea, eb]
  simpa using this
theorem eq_list (E : EqOk r d) : EqOk (rL r) (d + 1) := by
  have un : ∀ {X : Cx} {pins : List (Addr × Obj)} {σ : St} {H : Hp} {s : Shared} {x : V} {a b : List α}, Inv X pins σ H s → rL r X.K H x a → rL r X.K H x b → a = b := by
    intro X pins σ H s x as bs I h1 h2
    obtain ⟨a, xs, rfl, q1, p1⟩ := h1
    obtain ⟨b, ys, e, q2, p2⟩ := h2
    cases e
    cases I.list_inj q1 q2
    exact Paired.uniq (F := r X.K H) (fun _ _ _ z z' => E.uniq I z z') p1 p2
  have rc : ∀ {X : Cx} {pins : List (Addr × Obj)} {σ : St} {H : Hp} {s : Shared} {x y : V} {v u : Value} {a b : List α} {A : Around}, Inv X pins σ H s → RelV x v → RelV y u → rL r X.K H x a → rL r X.K H y b → A.units + (d + 1) < cLine → SeqAt.RcAt A s v u (decide (a = b)) := by
    intro X pins σ H s x y v u as bs A I rx ry h1 h2 hu
    obtain ⟨a, xs, rfl, q1, p1⟩ := h1
    obtain ⟨b, ys, rfl, q2, p2⟩ := h2
    cases rx; cases ry
    obtain ⟨its, r1, l1, _⟩ := I.list q1
    obtain ⟨its2, r2, l2, _⟩ := I.list q2
    have n1 := r1.length
    have n2 := r2.length
    have m1 := Paired.len p1
    have m2 := Paired.len p2
    by_cases hl : as.length = bs.length
    · have := SeqAt.RcAt.lists (A := A) (e := fun j => decide (as[j]? = bs[j]?)) l1.isList l2.isList (by simp only [List.size_toArray]; omega) (by omega) (list_items E I hu r1 r2 p1 p2)
      rw [show its.toArray.size = as.length by simp only [List.size_toArray]; omega, all_dec hl] at this
      exact this
    · rw [decide_eq_false (fun e => hl (congrArg List.length e))]
      exact SeqAt.RcAt.lists_lengths l1.isList l2.isList (by simp only [List.size_toArray, bne_iff_ne]; omega) (by omega)
  refine ⟨un, ?_, rc, ?_, ?_⟩
  · intro X pins σ H s x y v u as bs A I rx ry h1 h2 hu
    obtain ⟨a, xs, rfl, q1, p1⟩ := id h1
    obtain ⟨b, ys, rfl, q2, p2⟩ := id h2
    have R := rc (A := A) I rx ry h1 h2 hu
    cases rx; cases ry
    by_cases e : a = b
    · subst e
      rw [decide_eq_true (un I h1 h2)]
      exact SeqAt.EqAt.same _
    · exact SeqAt.EqAt.of_refs e R
  · intro X pins σ H s x y v u as bs A I rx ry h1 h2 hu
    obtain ⟨a, xs, rfl, q1, p1⟩ := h1
    obtain ⟨b, ys, rfl, q2, p2⟩ := h2
    cases rx; cases ry
    obtain ⟨its, r1, l1, _⟩ := I.list q1
    obtain ⟨its2, r2, l2, _⟩ := I.list q2
    have n1 := r1.length
    have n2 := r2.length
    have m1 := Paired.len p1
    have m2 := Paired.len p2
    by_cases hl : as.length = bs.length
    · have := SeqAt.RcNeAt.lists (A := A) (e := fun j => decide (as[j]? = bs[j]?)) l1.isList l2.isList (by simp only [List.size_toArray]; omega) (by omega) (list_items E I hu r1 r2 p1 p2)
      rw [show its.toArray.size = as.length by simp only [List.size_toArray]; omega, all_dec hl] at this
      exact this
    · rw [decide_eq_false (fun e => hl (congrArg List.length e))]
      exact SeqAt.RcNeAt.lists_lengths l1.isList l2.isList (by simp only [List.size_toArray, bne_iff_ne]; omega) (by omega)
  · intro K H H' x as e h
    obtain ⟨a, xs, rfl, q1, p1⟩ := h
    exact ⟨a, xs, rfl, e.seq q1, Paired.imp2 (fun _ _ z => E.keep e z) p1⟩
end

section
variable {α β : Type} [DecidableEq α] [DecidableEq β] {r : Enc α} {q : Enc β} {d : Nat}
end

section
variable {X : Cx} {α : Type} [DecidableEq α] {r : Enc α} {d : Nat}
def rEqE (K : PySem.W.Frag) (r : Enc α) : R2 := fun x y H Q => ∃ a b, r K H x a ∧ r K H y b ∧ Q (.bl (decide (a = b))) H
def rNeE (K : PySem.W.Frag) (r : Enc α) : R2 := fun x y H Q => ∃ a b, r K H x a ∧ r K H y b ∧ Q (.bl (!decide (a = b))) H
theorem op_eqE (E : EqOk r d) (hu : X.A.units + d < cLine) : OpR X (compareOp .Eq) (rEqE X.K r) := by
  intro pins s σ H x y v u Q I rx ry h
  obtain ⟨a, b, h1, h2, q⟩ := h
  exact E.rc (A := X.A) I rx ry h1 h2 hu _ _ _ _ ⟨.bl _, H, I, rfl, q⟩
theorem op_neE (E : EqOk r d) (hu : X.A.units + d < cLine) : OpR X (compareOp .NotEq) (rNeE X.K r) := by
  intro pins s σ H x y v u Q I rx ry h
  obtain ⟨a, b, h1, h2, q⟩ := h
  exact E.ne (A := X.A) I rx ry h1 h2 hu _ _ _ _ ⟨.bl _, H, I, rfl, q⟩
/-- isinstance(x, T), T a built-in type -/
theorem call_isinst : CallR X (.builtin "isinstance") (fun xs H Q => ∃ x n t b, xs = [x, .ty n] ∧ TyOf X.K H x t ∧ PySem.W.kitOne X.K t (.type n) = some b ∧ Q (.bl b) H) := by
  intro pins s σ H xs us Q I r h
  obtain ⟨x, n, t, b, rfl, ty, e, q⟩ := h
  obtain ⟨u, v, rfl, ru, rv⟩ := Vals.two r
  cases (show v = Value.type n from rv)
  exact isinst_ok I ru ty e fun tk => ⟨.bl b, H, I.tok tk, rfl, q⟩
/-- // by a number of many figures -/
theorem op_fdivB : OpR X (binaryOp .FloorDiv) (rI (fun _ j => 0 < j ∧ j.natAbs.log2 < 9000) fun i j => .int (i / j)) := opI fun i j _ _ _ _ _ hc q => by
  refine floordiv_int (by omega) ?_ (.inl (PyProof.noPylong_of_log2 hc.2))
  rw [Int.fdiv_eq_ediv_of_nonneg i (by omega)]
  exact q
end
end L2

/-! ### list(reversed(xs)), xs[::-1], sum(xs) -/
namespace PySem
open Sem (wp)
section
variable {prog : Program} {w : World} {A : Around} {E : Value → Shared → Prop} {s : Shared}
end
end PySem
namespace L2
open PySem PySem.Spec PyProof.Rows
section
variable {X : Cx} {e : Expr} {te : TE}
end
end L2

/-! ### enumerate, xs.index(x), tuples of many items of one kind -/
namespace L2
open PySem PySem.Spec PyProof.Rows
section
variable {X : Cx} {pins : List (Addr × Obj)} {σ : St} {H : Hp} {s : Shared} {h' : Heap}
end
section
variable {X : Cx} {elts : List Expr} {k : Nat} {pos0 : Pos}
end
section
variable {X : Cx}
end
/-- a tuple of items of one kind -/
def rTL {α : Type} (r : Enc α) : Enc (List α) := fun K H v as => ∃ a xs, v = .ref a ∧ SqT K H a xs ∧ Paired (r K H) xs as
section
variable {α : Type} [DecidableEq α] {r : Enc α} {d : Nat}
theorem all_min {as bs : List α} : ((List.range (min as.length bs.length)).all (fun j => decide (as[j]? = bs[j]?)) && as.length == bs.length) = decide (as = bs) := by
  by_cases hl : as.length = bs.length
  · rw [show min as.length bs.length = as.length by omega, all_dec hl]
    simp [hl]
  · rw [decide_eq_false (fun e => hl (congrArg List.length e))]
    simp [hl]
theorem eq_tupL (E : EqOk r d) : EqOk (rTL r) (d + 1) := by
  have un : ∀ {X : Cx} {pins : List (Addr × Obj)} {σ : St} {H : Hp} {s : Shared} {x : V} {a b : List α}, Inv X pins σ H s → rTL r X.K H x a → rTL r X.K H x b → a = b := by
    intro X pins σ H s x as bs I h1 h2
    obtain ⟨a, xs, rfl, q1, p1⟩ := h1
    obtain ⟨b, ys, e, q2, p2⟩ := h2
    cases e
    cases I.tuple_inj q1 q2
    exact Paired.uniq (F := r X.K H) (fun _ _ _ z z' => E.uniq I z z') p1 p2
  have rc : ∀ {X : Cx} {pins : List (Addr × Obj)} {σ : St} {H : Hp} {s : Shared} {x y : V} {v u : Value} {a b : List α} {A : Around}, Inv X pins σ H s → RelV x v → RelV y u → rTL r X.K H x a → rTL r X.K H y b → A.units + (d + 1) < cLine → SeqAt.RcAt A s v u (decide (a = b)) := by
    intro X pins σ H s x y v u as bs A I rx ry h1 h2 hu
    obtain ⟨a, xs, rfl, q1, p1⟩ := h1
    obtain ⟨b, ys, rfl, q2, p2⟩ := h2
    cases rx; cases ry
    obtain ⟨its, r1, l1, _⟩ := I.tuple q1
    obtain ⟨its2, r2, l2, _⟩ := I.tuple q2
    have n1 := r1.length
    have n2 := r2.length
    have m1 := Paired.len p1
    have m2 := Paired.len p2
    have := SeqAt.RcAt.tuples (A := A) (e := fun j => decide (as[j]? = bs[j]?)) l1 l2 (by omega) (list_items E I hu r1 r2 p1 p2)
    rw [show its.toArray.size = as.length by simp only [List.size_toArray]; omega, show its2.toArray.size = bs.length by simp only [List.size_toArray]; omega, all_min] at this
    exact this
  refine ⟨un, ?_, rc, ?_, ?_⟩
  · intro X pins σ H s x y v u as bs A I rx ry h1 h2 hu
    obtain ⟨a, xs, rfl, q1, p1⟩ := id h1
    obtain ⟨b, ys, rfl, q2, p2⟩ := id h2
    have R := rc (A := A) I rx ry h1 h2 hu
    cases rx; cases ry
    by_cases e : a = b
    · subst e
      rw [decide_eq_true (un I h1 h2)]
      exact SeqAt.EqAt.same _
    · exact SeqAt.EqAt.of_refs e R
  · intro X pins σ H s x y v u as bs A I rx ry h1 h2 hu
    obtain ⟨a, xs, rfl, q1, p1⟩ := h1
    obtain ⟨b, ys, rfl, q2, p2⟩ := h2
    cases rx; cases ry
    obtain ⟨its, r1, l1, _⟩ := I.tuple q1
    obtain ⟨its2, r2, l2, _⟩ := I.tuple q2
    have n1 := r1.length
    have n2 := r2.length
    have m1 := Paired.len p1
    have m2 := Paired.len p2
    have := SeqAt.RcNeAt.tuples (A := A) (e := fun j => decide (as[j]? = bs[j]?)) l1 l2 (by omega) (list_items E I hu r1 r2 p1 p2)
    rw [show its.toArray.size = as.length by simp only [List.size_toArray]; omega, show its2.toArray.size = bs.length by simp only [List.size_toArray]; omega, all_min] at this
    exact this
  · intro K H H' x as e h
    obtain ⟨a, xs, rfl, q1, p1⟩ := h
    exact ⟨a, xs, rfl, e.seqT q1, Paired.imp2 (fun _ _ z => E.keep e z) p1⟩
end
end L2

/-! ### d.setdefault(k, x), keys flat -/
namespace L2
open PySem PySem.Spec PyProof.Rows
section
variable {X : Cx} {o e f : Expr} {td ty tx : TE} {apos cpos : Pos}
end
end L2

/-! ### list comprehensions within list comprehensions: a block whose targets are cells -/
namespace L2
open PySem PySem.Spec PyProof.Rows

section
variable {X : Cx} {elt tg iter : Expr} {ifs : List Expr} {scope sc : Scope} {pos : Pos} {n : Nat} {tns : List Str} {caps : List (Nat × Str)} {wi : TI} {g : TG} {tt : TT} {te : TE}
end
end L2

/-! ### list(range(n)) -/
namespace L2
open PySem PySem.Spec PyProof.Rows
variable {X : Cx}
end L2
namespace L2
open PySem PySem.Spec PyProof.Rows
theorem star_list {l : List Expr} {p : Pos} {es : List Expr} {env : Env} : starEach (.List l p :: es) env = (false, eval (.List l p) env) :: starEach es env := rfl
end L2
namespace L2
open PySem PySem.Spec PyProof.Rows
end L2
namespace L2
open PySem PySem.Spec PyProof.Rows
variable {X : Cx} {o e : Expr} {es : List Expr} {to : TE} {t : TA} {name : Str} {apos cpos : Pos} {T id : String} {r : V → List V → Hp → VK → Prop}
theorem pe_bmK (K : PySem.W.Frag) (hK : X.K = K) (pa : PlainAttrs T) (slot : Slot T name id) (hty : typeOf (.builtin id) = pure (.type "method_descriptor")) (hm : MtR X id r) (ho : PE X o to) (ha : PA X (e :: es) t)
    (hbase : attributeBase o name X.env (eval o X.env) = eval o X.env := by rfl)
    (hfew : ((backTo cpos (starEach (e :: es) X.env)).all (fun x => !x.1) && (backToKw cpos (keywordEach [] X.env)).all (fun x => x.1.isSome)
      && decide ((e :: es).length + ([] : List Keyword).length + (if ([] : List Keyword).isEmpty then 0 else 1) < 30)) = true := by rfl)
    (hline : (apos.endLine == cpos.line) = true := by rfl) (hs : starEach (e :: es) X.env = (false, eval e X.env) :: starEach es X.env := by rfl) (hplain : (backTo cpos (starEach es X.env)).any (·.1) = false := by rfl) :
    PE X (.Call (.Attribute o name apos) (e :: es) [] cpos) (tBM K T r to t) := by
  subst hK
  exact pe_bm pa slot hty hm ho ha hbase hfew hline hs hplain
end L2

/-! ### list.index with a first place -/
namespace PySem
open PySem.Spec
namespace SeqAt
open MeetsSeq
end SeqAt
end PySem
namespace L2
open PySem PySem.Spec PyProof.Rows
section
variable {X : Cx}
end
end L2

/-! ### all and any of a list of truths, is True, three names at once -/
namespace L2
open PySem PySem.Spec PyProof.Rows
section
variable {X : Cx}
end
end L2

/-! ### list.index of any items; list(range(a, b)) -/
namespace L2
open PySem PySem.Spec PyProof.Rows
section
variable {X : Cx} {α : Type} [DecidableEq α] {r : Enc α} {d : Nat}
end
section
variable {X : Cx}
end
section
variable {X : Cx}
variable {T : String} {name : Str} {id : String} {r : V → List V → Hp → VK → Prop} {o e : Expr} {es : List Expr} {to : TE} {t : TA} {apos cpos : Pos}
end
section
variable {X : Cx} {elt tg iter : Expr} {ifs : List Expr} {scope : Scope} {pos : Pos} {wi : TI} {g : TG} {tt : TT} {te : TE}
theorem pe_compI {sc : Scope} {N0 : List Str} {tns : List Str} {caps : List (Nat × Str)} (hc : X.calm = true) (hi : PI X tg iter wi) (hG : GKeep tns.length g)
    (hb : ∀ cl C s H ex E, PG (X.comp (tns ++ caps.map (·.2)) scope cl C s H ex E) tg g ∧ PTs (X.comp (tns ++ caps.map (·.2)) scope cl C s H ex E) ifs tt ∧ PE (X.comp (tns ++ caps.map (·.2)) scope cl C s H ex E) elt te)
    (hsc : X.env.scope = sc := by rfl) (hN0 : X.N = N0 := by rfl) (ok : compOk sc scope N0 tns caps = true := by decide +kernel)
    (hs : ∀ x, foldedSetIterable iter X.env x = pure x := by intro _; rfl) :
    PE X (.ListComp elt [⟨tg, iter, ifs, 0⟩] scope pos) (tComp tns.length caps wi g tt te) := pe_comp sc N0 tns caps hc hi hG hb hsc hN0 ok hs
end
section
variable {X : Cx} {tg l : Expr} {tl : TE} {p pos : Pos} {K : PySem.W.Frag}
theorem pi_listK (h : X.K = K) (hl : PE X l tl) : PI X tg l (iList K tl) := by subst h; exact pi_list hl
end
end L2

/-! ### max, min of a list of ints -/
namespace L2
open PySem PySem.Spec PyProof.Rows
section
variable {X : Cx}
end
end L2

/-! ### mirrors: what a def is worth over plain data, and how it is read off the rules -/
namespace L2
open PySem PySem.Spec PyProof.Rows

inductive Pay where
  | non | int (i : Int) | tag (t : Str) (xs : List Int)
  deriving DecidableEq
structure Exc where
  cls : Str
  pay : Pay
inductive Res (α : Type) where
  | bad | err (x : Exc) | ok (a : α)
def Res.bind {α β : Type} : Res α → (α → Res β) → Res β
  | .bad, _ => .bad
  | .err x, _ => .err x
  | .ok a, f => f a
theorem Res.ok_bind {α β : Type} (a : α) (f : α → Res β) : (Res.ok a).bind f = f a := rfl
/-- a check ahead of a step -/
def chk {α : Type} (c : Prop) [Decidable c] (m : Res α) : Res α := if c then m else .bad
theorem chk_ok {α : Type} {c : Prop} [Decidable c] {m : Res α} (h : c) : chk c m = m := if_pos h

abbrev Cell := Addr × HO
def mutK : HO → Bool
  | .lst _ => true
  | .dK _ => true
  | .dT _ => true
  | _ => false
def fl (OO : List (List Cell)) : List Addr := OO.flatten.map (·.1)
open Classical in
noncomputable def hid (H : Hp) (OO : List (List Cell)) : Hp := fun b => if b ∈ fl OO then none else H b
structure W (OO : List (List Cell)) (H : Hp) : Prop where
  tr : ∀ c ∈ OO.flatten, H c.1 = some c.2
  nd : (fl OO).Nodup
  mu : ∀ c ∈ OO.flatten, mutK c.2 = true

theorem hid_some {H : Hp} {OO} {b : Addr} {o : HO} (h : hid H OO b = some o) : H b = some o ∧ b ∉ fl OO := by
  unfold hid at h
  split at h
  · cases h
  · exact ⟨h, by assumption⟩
theorem hid_of {H : Hp} {OO} {b : Addr} {o : HO} (h : H b = some o) (n : b ∉ fl OO) : hid H OO b = some o := by
  unfold hid; rw [if_neg n]; exact h
theorem hid_same {H : Hp} {OO} : Same (hid H OO) H := fun b o h => (hid_some h).1
theorem hid_mono {H H' : Hp} {OO} (s : Same H H') : Same (hid H OO) (hid H' OO) := fun b o h => hid_of (s _ _ (hid_some h).1) (hid_some h).2
theorem hid_sub {H H' : Hp} {OO OO'} (s : Same H H') (h : ∀ b, b ∈ fl OO' → b ∈ fl OO) : Same (hid H OO) (hid H' OO') := fun b o q => hid_of (s _ _ (hid_some q).1) fun z => (hid_some q).2 (h b z)
theorem fl_cons {C : List Cell} {OO} : fl (C :: OO) = C.map (·.1) ++ fl OO := by simp [fl]
theorem fl_nil {OO} : fl ([] :: OO) = fl OO := by simp [fl]
theorem hid_nil {H : Hp} {OO} : hid H ([] :: OO) = hid H OO := by unfold hid; rw [fl_nil]
theorem W.keep {OO} {H H' : Hp} (w : W OO H) (s : Same H H') : W OO H' := ⟨fun c hc => s _ _ (w.tr c hc), w.nd, w.mu⟩
theorem W.of {OO OO' : List (List Cell)} {H : Hp} (w : W OO H) (h : OO'.flatten.Perm OO.flatten) : W OO' H :=
  ⟨fun c hc => w.tr c (h.mem_iff.mp hc), (h.map _).nodup_iff.mpr w.nd, fun c hc => w.mu c (h.mem_iff.mp hc)⟩
theorem W.sub {OO OO' : List (List Cell)} {H : Hp} (w : W OO H) (h : OO'.flatten.Sublist OO.flatten) : W OO' H :=
  ⟨fun c hc => w.tr c (h.mem hc), (h.map _).nodup w.nd, fun c hc => w.mu c (h.mem hc)⟩
theorem W.tail {C OO} {H : Hp} (w : W (C :: OO) H) : W OO H := w.sub (by simp)
theorem W.nil {OO} {H : Hp} (w : W OO H) : W ([] :: OO) H := w.of (by simp)
theorem W.cell {C OO} {H : Hp} (w : W (C :: OO) H) : ∀ c ∈ C, H c.1 = some c.2 := fun c hc => w.tr c (by simp [hc])
theorem fl_mem {OO : List (List Cell)} {c : Cell} (h : c ∈ OO.flatten) : c.1 ∈ fl OO := List.mem_map.mpr ⟨c, h, rfl⟩
theorem fl_ex {OO : List (List Cell)} {b : Addr} (h : b ∈ fl OO) : ∃ o, (b, o) ∈ OO.flatten := by
  obtain ⟨⟨a, o⟩, hc, rfl⟩ := List.mem_map.mp h
  exact ⟨o, hc⟩
theorem W.fresh {OO} {H : Hp} (w : W OO H) {p : Addr} (h : H p = none) : p ∉ fl OO := fun z => by
  obtain ⟨o, ho⟩ := fl_ex z
  have := w.tr _ ho
  rw [h] at this; cases this
theorem W.new {OO} {H : Hp} (w : W OO H) {p : Addr} (h : H p = none) {o : HO} (m : mutK o = true) : W ([(p, o)] :: OO) (upd H p o) := by
  have hf := w.fresh h
  refine ⟨fun c hc => ?_, ?_, fun c hc => ?_⟩
  · simp only [List.flatten_cons, List.cons_append, List.nil_append, List.mem_cons] at hc
    rcases hc with rfl | hc
    · exact upd_same
    · rw [upd_ne (fun e => hf (by rw [← e]; exact fl_mem hc))]; exact w.tr c hc
  · rw [fl_cons]; simpa using ⟨hf, w.nd⟩
  · simp only [List.flatten_cons, List.cons_append, List.nil_append, List.mem_cons] at hc
    rcases hc with rfl | hc
    · exact m
    · exact w.mu c hc
theorem hid_new {OO} {H : Hp} {p : Addr} (h : H p = none) {o : HO} : Same (hid H OO) (hid (upd H p o) ([(p, o)] :: OO)) := fun b u q => by
  obtain ⟨q1, q2⟩ := hid_some q
  have hb : b ≠ p := ne_of_none q1 h
  refine hid_of (by rw [upd_ne hb]; exact q1) ?_
  rw [fl_cons]; simpa using ⟨hb, q2⟩
/-- new things that are no cells of ours -/
theorem hid_newS {OO} {H : Hp} (w : W OO H) {p : Addr} (h : H p = none) {o : HO} : hid (upd H p o) OO p = some o := hid_of upd_same (w.fresh h)

/-! encodings -/
class MonoE {α : Type} (r : Enc α) : Prop where
  mono : ∀ {K : PySem.W.Frag} {H H' : Hp} {v : V} {a : α}, Same H H' → r K H v a → r K H' v a
def immK : HO → Bool
  | .tup _ => true
  | .frz _ _ => true
  | _ => false
/-- what never changes stays -/
def SameI (H H' : Hp) : Prop := ∀ b o, H b = some o → immK o = true → H' b = some o
theorem Same.i {H H' : Hp} (s : Same H H') : SameI H H' := fun b o h _ => s b o h
theorem W.i {OO} {H : Hp} (w : W OO H) : SameI H (hid H OO) := fun b o h i => hid_of h fun z => by
  obtain ⟨u, hu⟩ := fl_ex z
  have h1 := w.tr _ hu
  have h2 := w.mu _ hu
  rw [h] at h1
  have e : o = u := Option.some.inj h1
  subst e
  revert i h2; cases o <;> simp [immK, mutK]
theorem SameI.trans {H H1 H2 : Hp} (a : SameI H H1) (b : SameI H1 H2) : SameI H H2 := fun c o h i => b c o (a c o h i) i
class FlatE {α : Type} (r : Enc α) : Prop where
  flat : ∀ {K : PySem.W.Frag} {H H' : Hp} {v : V} {a : α}, SameI H H' → r K H v a → r K H' v a
instance {α : Type} {r : Enc α} [f : FlatE r] : MonoE r := ⟨fun s h => f.flat s.i h⟩
theorem SameI.seqT {K : PySem.W.Frag} {H H' : Hp} {a : Addr} {xs : List V} (e : SameI H H') (h : SqT K H a xs) : SqT K H' a xs := by
  rcases h with (h | ⟨o, h⟩) | h
  · exact .inl (.inl (e _ _ h rfl))
  · exact .inl (.inr ⟨o, e _ _ h rfl⟩)
  · exact .inr h
def rBool : Enc Bool := fun _ _ v b => v = .bl b
def rStr : Enc Str := fun _ _ v x => v = .str x
def rOpt {α : Type} (r : Enc α) : Enc (Option α) := fun K H v a => match a with
  | none => v = .non
  | some a => v ≠ .non ∧ r K H v a
/-- a list, a tuple that is tracked -/
def rV {α : Type} (r : Enc α) : Enc (List α) := fun K H v as => ∃ a xs, v = .ref a ∧ H a = some (.lst xs) ∧ Paired (r K H) xs as
def rPL {α : Type} (r : Enc α) : Enc (List α) := fun K H v as => ∃ a xs, v = .ref a ∧ H a = some (.tup xs) ∧ Paired (r K H) xs as
def rP2 {α β : Type} (r : Enc α) (q : Enc β) : Enc (α × β) := fun K H v p => ∃ a x y, v = .ref a ∧ H a = some (.tup [x, y]) ∧ r K H x p.1 ∧ q K H y p.2
def rP3 {α β γ : Type} (r : Enc α) (q : Enc β) (t : Enc γ) : Enc (α × β × γ) := fun K H v p => ∃ a x y z, v = .ref a ∧ H a = some (.tup [x, y, z]) ∧ r K H x p.1 ∧ q K H y p.2.1 ∧ t K H z p.2.2
instance {α : Type} {r : Enc α} [m : MonoE r] : MonoE (rV r) := ⟨fun s ⟨a, xs, e, q, p⟩ => ⟨a, xs, e, s _ _ q, Paired.imp2 (fun _ _ z => m.mono s z) p⟩⟩
instance {α : Type} {r : Enc α} [m : MonoE r] : MonoE (rPL r) := ⟨fun s ⟨a, xs, e, q, p⟩ => ⟨a, xs, e, s _ _ q, Paired.imp2 (fun _ _ z => m.mono s z) p⟩⟩
instance {α : Type} {r : Enc α} [m : FlatE r] : FlatE (rPL r) := ⟨fun s ⟨a, xs, e, q, p⟩ => ⟨a, xs, e, s _ _ q rfl, Paired.imp2 (fun _ _ z => m.flat s z) p⟩⟩
instance {α β : Type} {r : Enc α} {q : Enc β} [m : MonoE r] [n : MonoE q] : MonoE (rP2 r q) := ⟨fun s ⟨a, x, y, e, h, p1, p2⟩ => ⟨a, x, y, e, s _ _ h, m.mono s p1, n.mono s p2⟩⟩
instance {α β : Type} {r : Enc α} {q : Enc β} [m : FlatE r] [n : FlatE q] : FlatE (rP2 r q) := ⟨fun s ⟨a, x, y, e, h, p1, p2⟩ => ⟨a, x, y, e, s _ _ h rfl, m.flat s p1, n.flat s p2⟩⟩
instance {α β γ : Type} {r : Enc α} {q : Enc β} {t : Enc γ} [m : MonoE r] [n : MonoE q] [k : MonoE t] : MonoE (rP3 r q t) := ⟨fun s ⟨a, x, y, z, e, h, p1, p2, p3⟩ => ⟨a, x, y, z, e, s _ _ h, m.mono s p1, n.mono s p2, k.mono s p3⟩⟩
instance {α β γ : Type} {r : Enc α} {q : Enc β} {t : Enc γ} [m : FlatE r] [n : FlatE q] [k : FlatE t] : FlatE (rP3 r q t) := ⟨fun s ⟨a, x, y, z, e, h, p1, p2, p3⟩ => ⟨a, x, y, z, e, s _ _ h rfl, m.flat s p1, n.flat s p2, k.flat s p3⟩⟩
instance : FlatE rInt := ⟨fun _ h => h⟩
instance : FlatE rBool := ⟨fun _ h => h⟩
instance : FlatE rStr := ⟨fun _ h => h⟩
instance {α : Type} {r : Enc α} [m : MonoE r] : MonoE (rL r) := ⟨fun s ⟨a, xs, e, q, p⟩ => ⟨a, xs, e, s.seq q, Paired.imp2 (fun _ _ z => m.mono s z) p⟩⟩
instance {α : Type} {r : Enc α} [m : MonoE r] : MonoE (rOpt r) := ⟨fun {K H H' v a} s h => by cases a with
  | none => exact h
  | some a => exact ⟨h.1, m.mono s h.2⟩⟩
instance {α : Type} {r : Enc α} [m : FlatE r] : FlatE (rOpt r) := ⟨fun {K H H' v a} s h => by cases a with
  | none => exact h
  | some a => exact ⟨h.1, m.flat s h.2⟩⟩

/-! things that are one's own: their cells -/
abbrev OE (α : Type) := PySem.W.Frag → Hp → V → α → List Cell → Prop
inductive P3 {α β γ : Type} (F : α → β → γ → Prop) : List α → List β → List γ → Prop where
  | nil : P3 F [] [] []
  | cons {a b c l m n} : F a b c → P3 F l m n → P3 F (a :: l) (b :: m) (c :: n)
def oF {α : Type} (r : Enc α) : OE α := fun K h v a C => C = [] ∧ r K h v a
def oL {α : Type} (o : OE α) : OE (List α) := fun K h v as C => ∃ p xs Cs, v = .ref p ∧ P3 (o K h) xs as Cs ∧ C = (p, .lst xs) :: Cs.flatten
def oT2 {α β : Type} (o : OE α) (q : OE β) : OE (α × β) := fun K h v a C => ∃ p x y C1 C2, v = .ref p ∧ h p = some (.tup [x, y]) ∧ o K h x a.1 C1 ∧ q K h y a.2 C2 ∧ C = C1 ++ C2
def oOpt {α : Type} (o : OE α) : OE (Option α) := fun K h v a C => match a with
  | none => v = .non ∧ C = []
  | some a => v ≠ .non ∧ o K h v a C
section
variable {α β γ δ : Type}
theorem P3.imp {F G : α → β → γ → Prop} (h : ∀ a b c, F a b c → G a b c) : ∀ {l m n}, P3 F l m n → P3 G l m n := fun p => by
  induction p with
  | nil => exact .nil
  | cons r _ ih => exact .cons (h _ _ _ r) ih
theorem P3.app {F : α → β → γ → Prop} : ∀ {l m n l' m' n'}, P3 F l m n → P3 F l' m' n' → P3 F (l ++ l') (m ++ m') (n ++ n') := fun p h => by
  induction p with
  | nil => exact h
  | cons r _ ih => exact .cons r ih
theorem P3.snoc {F : α → β → γ → Prop} {l m n a b c} (h : P3 F l m n) (r : F a b c) : P3 F (l ++ [a]) (m ++ [b]) (n ++ [c]) := h.app (.cons r .nil)
theorem P3.len {F : α → β → γ → Prop} : ∀ {l m n}, P3 F l m n → l.length = m.length ∧ n.length = m.length
  | _, _, _, .nil => ⟨rfl, rfl⟩
  | _, _, _, .cons _ t => by simp [(P3.len t).1, (P3.len t).2]
theorem P3.pair {F : α → β → γ → Prop} {G : α → β → Prop} : ∀ {l m n}, P3 F l m n → (∀ a b c, c ∈ n → F a b c → G a b) → Paired G l m := fun p h => by
  induction p with
  | nil => exact .nil
  | cons r _ ih => exact .cons (h _ _ _ List.mem_cons_self r) (ih fun a b c hc => h a b c (List.mem_cons_of_mem _ hc))
theorem P3.get {F : α → β → γ → Prop} : ∀ {l m n} {i : Nat} {b : β}, P3 F l m n → m[i]? = some b → ∃ a c, l[i]? = some a ∧ n[i]? = some c ∧ F a b c
  | _, _, _, _, _, .nil, e => by simp at e
  | _, _, _, 0, _, .cons r _, e => by simp at e; subst e; exact ⟨_, _, rfl, rfl, r⟩
  | _, _, _, i + 1, b, .cons _ t, e => by
    obtain ⟨a, c, h1, h2, h3⟩ := P3.get (i := i) (b := b) t (by simpa using e)
    exact ⟨a, c, by simpa using h1, by simpa using h2, h3⟩
theorem P3.set {F : α → β → γ → Prop} {a : α} {b : β} {c : γ} (r : F a b c) : ∀ {l m n} (i : Nat), P3 F l m n → P3 F (l.set i a) (m.set i b) (n.set i c)
  | _, _, _, _, .nil => .nil
  | _, _, _, 0, .cons _ t => .cons r t
  | _, _, _, i + 1, .cons q t => .cons q (P3.set r i t)
theorem P3.flat {F : α → β → Prop} : ∀ {l : List α} {m : List β} {n : List (List Cell)}, P3 (fun a b c => c = [] ∧ F a b) l m n → Paired F l m ∧ n.flatten = [] := fun p => by
  induction p with
  | nil => exact ⟨.nil, rfl⟩
  | cons r _ ih => exact ⟨.cons r.2 ih.1, by rw [List.flatten_cons, r.1, ih.2]; rfl⟩
theorem P3.of {F : α → β → Prop} : ∀ {l : List α} {m : List β}, Paired F l m → P3 (fun a b (c : List Cell) => c = [] ∧ F a b) l m (List.replicate m.length [])
  | _, _, .nil => .nil
  | _, _, .cons r t => .cons ⟨rfl, r⟩ (P3.of t)
theorem flat_nils : ∀ n : Nat, (List.replicate n ([] : List Cell)).flatten = []
  | 0 => rfl
  | n + 1 => by simp [List.replicate_succ, flat_nils n]
end
class MonoO {α : Type} (o : OE α) : Prop where
  mono : ∀ {K : PySem.W.Frag} {H H' : Hp} {v : V} {a : α} {C : List Cell}, Same H H' → o K H v a C → o K H' v a C
class FlatO {α : Type} (o : OE α) : Prop where
  flat : ∀ {K : PySem.W.Frag} {H H' : Hp} {v : V} {a : α} {C : List Cell}, SameI H H' → o K H v a C → o K H' v a C
class FrzC {α : Type} (o : OE α) (r : outParam (Enc α)) : Prop where
  frz : ∀ {K : PySem.W.Frag} {H H' : Hp} {v : V} {a : α} {C : List Cell}, o K H v a C → Same H H' → (∀ c ∈ C, H' c.1 = some c.2) → r K H' v a
instance {α : Type} {r : Enc α} [m : MonoE r] : MonoO (oF r) := ⟨fun s h => ⟨h.1, m.mono s h.2⟩⟩
instance {α : Type} {r : Enc α} [m : FlatE r] : FlatO (oF r) := ⟨fun s h => ⟨h.1, m.flat s h.2⟩⟩
instance {α : Type} {r : Enc α} [m : MonoE r] : FrzC (oF r) r := ⟨fun h s _ => m.mono s h.2⟩
instance {α : Type} {o : OE α} [m : MonoO o] : MonoO (oL o) := ⟨fun s ⟨p, xs, Cs, e, q, c⟩ => ⟨p, xs, Cs, e, q.imp fun _ _ _ z => m.mono s z, c⟩⟩
instance {α : Type} {o : OE α} [m : FlatO o] : FlatO (oL o) := ⟨fun s ⟨p, xs, Cs, e, q, c⟩ => ⟨p, xs, Cs, e, q.imp fun _ _ _ z => m.flat s z, c⟩⟩
instance {α : Type} {o : OE α} {r : Enc α} [m : FrzC o r] : FrzC (oL o) (rV r) := ⟨fun ⟨p, xs, Cs, e, q, c⟩ s hc => by
  subst c
  exact ⟨p, xs, e, hc _ List.mem_cons_self, q.pair fun a b c hm z => m.frz z s fun x hx => hc x (List.mem_cons_of_mem _ (List.mem_flatten.mpr ⟨c, hm, hx⟩))⟩⟩
instance {α β : Type} {o : OE α} {q : OE β} [m : MonoO o] [n : MonoO q] : MonoO (oT2 o q) := ⟨fun s ⟨p, x, y, C1, C2, e, h, h1, h2, c⟩ => ⟨p, x, y, C1, C2, e, s _ _ h, m.mono s h1, n.mono s h2, c⟩⟩
instance {α β : Type} {o : OE α} {q : OE β} [m : FlatO o] [n : FlatO q] : FlatO (oT2 o q) := ⟨fun s ⟨p, x, y, C1, C2, e, h, h1, h2, c⟩ => ⟨p, x, y, C1, C2, e, s _ _ h rfl, m.flat s h1, n.flat s h2, c⟩⟩
instance {α β : Type} {o : OE α} {q : OE β} {r : Enc α} {t : Enc β} [m : FrzC o r] [n : FrzC q t] : FrzC (oT2 o q) (rP2 r t) := ⟨fun ⟨p, x, y, C1, C2, e, h, h1, h2, c⟩ s hc => by
  subst c
  exact ⟨p, x, y, e, s _ _ h, m.frz h1 s fun c hm => hc c (by simp [hm]), n.frz h2 s fun c hm => hc c (by simp [hm])⟩⟩
instance {α : Type} {o : OE α} [m : MonoO o] : MonoO (oOpt o) := ⟨fun {K H H' v a C} s h => by cases a with
  | none => exact h
  | some a => exact ⟨h.1, m.mono s h.2⟩⟩
instance {α : Type} {o : OE α} [m : FlatO o] : FlatO (oOpt o) := ⟨fun {K H H' v a C} s h => by cases a with
  | none => exact h
  | some a => exact ⟨h.1, m.flat s h.2⟩⟩
instance {α : Type} {o : OE α} {r : Enc α} [m : FrzC o r] : FrzC (oOpt o) (rOpt r) := ⟨fun {K H H' v a C} h s hc => by cases a with
  | none => exact h.1
  | some a => exact ⟨h.1, m.frz h.2 s hc⟩⟩

/-! what is known of the names, at the heap without one's own cells -/
structure SC where
  p : Hp → Prop
  mono : ∀ h h', Same h h' → p h → p h'
def SC.nil : SC := ⟨fun _ => True, fun _ _ _ _ => True.intro⟩
def SC.and (S T : SC) : SC := ⟨fun h => S.p h ∧ T.p h, fun _ _ s q => ⟨S.mono _ _ s q.1, T.mono _ _ s q.2⟩⟩
def SC.one {α : Type} (K : PySem.W.Frag) (r : Enc α) [m : MonoE r] (v : V) (a : α) : SC := ⟨fun h => r K h v a, fun _ _ s q => m.mono s q⟩
def SC.oneO {α : Type} (K : PySem.W.Frag) (o : OE α) [m : MonoO o] (v : V) (a : α) (C : List Cell) : SC := ⟨fun h => o K h v a C, fun _ _ s q => m.mono s q⟩
abbrev SC.add {α : Type} (S : SC) (K : PySem.W.Frag) (r : Enc α) [m : MonoE r] (v : V) (a : α) : SC := S.and (SC.one K r v a)
abbrev SC.addO {α : Type} (S : SC) (K : PySem.W.Frag) (o : OE α) [m : MonoO o] (v : V) (a : α) (C : List Cell) : SC := S.and (SC.oneO K o v a C)
theorem SC.l {S T : SC} {h : Hp} (q : (S.and T).p h) : S.p h := q.1
theorem SC.r {S T : SC} {h : Hp} (q : (S.and T).p h) : T.p h := q.2
theorem SC.i {S T : SC} {h : Hp} (q : S.p h) (p : T.p h) : (S.and T).p h := ⟨q, p⟩
theorem SC.t {h : Hp} : SC.nil.p h := True.intro

/-! an end: what is wanted behind -/
def PZ {β : Type} (Er : Exc → Hp → Prop) (F : β → Hp → Prop) (H : Hp) (m : Res β) : Prop :=
  match m with
  | .bad => False
  | .err x => ∀ H', Same H H' → Er x H'
  | .ok b => F b H
section
variable (K : PySem.W.Frag) (Er : Exc → Hp → Prop) (S : SC) (OO OO' : List (List Cell)) (σ : St)
def FB {α : Type} (r : Enc α) (Q : VK) (a : α) (H : Hp) : Prop := ∀ v H', Same H H' → r K H' v a → Q v H'
def FO {α : Type} (o : OE α) (Q : VK) (a : α) (H : Hp) : Prop := ∀ v C H', Same H H' → W (C :: OO') H' → Same (hid H OO) (hid H' (C :: OO')) → o K (hid H' (C :: OO')) v a C → Q v H'
def FT (Q : Bool → Hp → Prop) (b : Bool) (H : Hp) : Prop := ∀ H', Same H H' → Q b H'
def EvB {α : Type} (te : TE) (r : Enc α) (m : Res α) : Prop := ∀ H Q, W OO H → S.p (hid H OO) → PZ Er (FB K r Q) H m → te σ H Q
def Ev {α : Type} (te : TE) (o : OE α) (m : Res α) : Prop := ∀ H Q, W OO H → S.p (hid H OO) → PZ Er (FO K OO OO' o Q) H m → te σ H Q
def EvT (tt : TT) (m : Res Bool) : Prop := ∀ H Q, W OO H → S.p (hid H OO) → PZ Er (FT Q) H m → tt σ H Q
end
section
variable {K : PySem.W.Frag} {Er : Exc → Hp → Prop} {S : SC} {OO OO' OO2 : List (List Cell)} {σ : St} {α β γ : Type}
theorem FB.tr {r : Enc α} {Q : VK} : ∀ a H H', Same H H' → FB K r Q a H → FB K r Q a H' := fun a H H' s h v H2 s2 q => h v H2 (s.trans s2) q
theorem FO.tr {o : OE α} {Q : VK} : ∀ a H H', Same H H' → FO K OO OO' o Q a H → FO K OO OO' o Q a H' := fun a H H' s h v C H2 s2 w m q => h v C H2 (s.trans s2) w ((hid_mono s).trans m) q
theorem FT.tr {Q : Bool → Hp → Prop} : ∀ b H H', Same H H' → FT Q b H → FT Q b H' := fun a H H' s h H2 s2 => h H2 (s.trans s2)
/-- one part read, then the rest -/
theorem EvB.run {te : TE} {r : Enc α} {m : Res α} (he : EvB K Er S OO σ te r m) {H : Hp} {Q : VK} (w : W OO H) (s : S.p (hid H OO)) {f : α → Res β} {F : β → Hp → Prop} (hF : ∀ b H H', Same H H' → F b H → F b H') (P : PZ Er F H (m.bind f))
    (hk : ∀ a v H', Same H H' → W OO H' → S.p (hid H' OO) → r K H' v a → PZ Er F H' (f a) → Q v H') : te σ H Q := by
  refine he H Q w s ?_
  cases m with
  | bad => exact P
  | err x => exact P
  | ok a =>
    intro v H' s' hr
    refine hk a v H' s' (w.keep s') (S.mono _ _ (hid_mono s') s) hr ?_
    have P' : PZ Er F H (f a) := P
    revert P'
    cases f a with
    | bad => exact fun z => z
    | err x => exact fun z H2 s2 => z H2 (s'.trans s2)
    | ok b => exact fun z => hF b H H' s' z
theorem Ev.run {te : TE} {o : OE α} {m : Res α} (he : Ev K Er S OO OO' σ te o m) {H : Hp} {Q : VK} (w : W OO H) (s : S.p (hid H OO)) {f : α → Res β} {F : β → Hp → Prop} (hF : ∀ b H H', Same H H' → F b H → F b H') (P : PZ Er F H (m.bind f))
    (hk : ∀ a v C H', Same H H' → W (C :: OO') H' → Same (hid H OO) (hid H' (C :: OO')) → S.p (hid H' (C :: OO')) → o K (hid H' (C :: OO')) v a C → PZ Er F H' (f a) → Q v H') : te σ H Q := by
  refine he H Q w s ?_
  cases m with
  | bad => exact P
  | err x => exact P
  | ok a =>
    intro v C H' s' w' m' ho
    refine hk a v C H' s' w' m' (S.mono _ _ m' s) ho ?_
    have P' : PZ Er F H (f a) := P
    revert P'
    cases f a with
    | bad => exact fun z => z
    | err x => exact fun z H2 s2 => z H2 (s'.trans s2)
    | ok b => exact fun z => hF b H H' s' z
theorem EvT.run {tt : TT} {m : Res Bool} (he : EvT Er S OO σ tt m) {H : Hp} {Q : Bool → Hp → Prop} (w : W OO H) (s : S.p (hid H OO)) {f : Bool → Res β} {F : β → Hp → Prop} (hF : ∀ b H H', Same H H' → F b H → F b H') (P : PZ Er F H (m.bind f))
    (hk : ∀ b H', Same H H' → W OO H' → S.p (hid H' OO) → PZ Er F H' (f b) → Q b H') : tt σ H Q := by
  refine he H Q w s ?_
  cases m with
  | bad => exact P
  | err x => exact P
  | ok a =>
    intro H' s'
    refine hk a H' s' (w.keep s') (S.mono _ _ (hid_mono s') s) ?_
    have P' : PZ Er F H (f a) := P
    revert P'
    cases f a with
    | bad => exact fun z => z
    | err x => exact fun z H2 s2 => z H2 (s'.trans s2)
    | ok b => exact fun z => hF b H H' s' z

/-! one way of reading made of another -/
theorem Ev.toB {te : TE} {o : OE α} {r : Enc α} [z : FrzC o r] {m : Res α} (he : Ev K Er S OO OO σ te o m) : EvB K Er S OO σ te r m := fun H Q w s P => by
  refine he H Q w s ?_
  cases m with
  | bad => exact P
  | err x => exact P
  | ok a => exact fun v C H' s' w' m' ho => P v H' s' (z.frz ho hid_same w'.cell)
theorem Ev.frz {te : TE} {o : OE α} {r : Enc α} [z : FrzC o r] {m : Res α} (he : Ev K Er S OO OO' σ te o m) : Ev K Er S OO OO' σ te (oF r) m := fun H Q w s P => by
  refine he H Q w s ?_
  cases m with
  | bad => exact P
  | err x => exact P
  | ok a =>
    intro v C H' s' w' m' ho
    have hs : Same (hid H' (C :: OO')) (hid H' ([] :: OO')) := hid_sub (Same.refl _) fun b hb => by rw [fl_nil] at hb; rw [fl_cons]; simp [hb]
    refine P v [] H' s' w'.tail.nil (m'.trans hs) ⟨rfl, z.frz ho hs fun c hc => hid_of (w'.cell c hc) ?_⟩
    rw [fl_nil]
    have := w'.nd
    rw [fl_cons] at this
    intro hb
    exact (List.nodup_append.mp this).2.2 c.1 (List.mem_map.mpr ⟨c, hc, rfl⟩) c.1 hb rfl
theorem EvB.flat {te : TE} {r : Enc α} [z : FlatE r] {m : Res α} (he : EvB K Er S OO σ te r m) : Ev K Er S OO OO σ te (oF r) m := fun H Q w s P => by
  refine he H Q w s ?_
  cases m with
  | bad => exact P
  | err x => exact P
  | ok a =>
    intro v H' s' hr
    have w' := w.keep s'
    exact P v [] H' s' w'.nil (by rw [hid_nil]; exact hid_mono s') ⟨rfl, by rw [hid_nil]; exact z.flat w'.i hr⟩
theorem evb_var {r : Enc α} [z : MonoE r] {v : V} {a : α} (i : Nat) (hσ : σ[i]? = some (some v)) (h : ∀ x, S.p x → r K x v a) : EvB K Er S OO σ (tVar i) r (.ok a) := fun H Q w s P =>
  ⟨v, hσ, P v H (Same.refl _) (z.mono hid_same (h _ s))⟩
theorem evb_own {o : OE α} {r : Enc α} [z : FrzC o r] {v : V} {a : α} {C : List Cell} (i k : Nat) (hσ : σ[i]? = some (some v)) (hk : OO[k]? = some C) (h : ∀ x, S.p x → o K x v a C) : EvB K Er S OO σ (tVar i) r (.ok a) := fun H Q w s P =>
  ⟨v, hσ, P v H (Same.refl _) (z.frz (h _ s) hid_same fun c hc => w.tr c (List.mem_flatten.mpr ⟨C, List.mem_of_getElem? hk, hc⟩))⟩
theorem set_flat : ∀ {OO : List (List Cell)} {k : Nat} {C : List Cell}, OO[k]? = some C → (C :: OO.set k []).flatten.Perm OO.flatten
  | [], _, _, h => by simp at h
  | D :: OO, 0, C, h => by simp at h; subst h; simp
  | D :: OO, k + 1, C, h => by
    have := set_flat (OO := OO) (k := k) (C := C) (by simpa using h)
    simp only [List.set_cons_succ, List.flatten_cons] at this ⊢
    refine List.Perm.trans ?_ (this.append_left D)
    rw [← List.append_assoc, ← List.append_assoc]
    exact List.perm_append_comm.append_right _
theorem fl_perm {OO OO' : List (List Cell)} (h : OO'.flatten.Perm OO.flatten) (b : Addr) : b ∈ fl OO' ↔ b ∈ fl OO := (h.map (·.1)).mem_iff
theorem hid_perm {H : Hp} {OO OO' : List (List Cell)} (h : OO'.flatten.Perm OO.flatten) : hid H OO' = hid H OO := by
  funext b; unfold hid
  by_cases hb : b ∈ fl OO
  · rw [if_pos hb, if_pos ((fl_perm h b).mpr hb)]
  · rw [if_neg hb, if_neg fun z => hb ((fl_perm h b).mp z)]
/-- a name whose cells are ours, given away -/
theorem ev_move {o : OE α} {v : V} {a : α} {C : List Cell} (i k : Nat) (hσ : σ[i]? = some (some v)) (hk : OO[k]? = some C) (h : ∀ x, S.p x → o K x v a C) : Ev K Er S OO (OO.set k []) σ (tVar i) o (.ok a) := fun H Q w s P => by
  have hp := set_flat hk
  exact ⟨v, hσ, P v C H (Same.refl _) (w.of hp) (by rw [hid_perm hp]; exact Same.refl _) (by rw [hid_perm hp]; exact h _ s)⟩

/-! numbers, truths, texts -/
theorem evb_int (n : Int) : EvB K Er S OO σ (tC (.int n)) rInt (.ok n) := fun H Q w s P => P _ H (Same.refl _) rfl
theorem evb_bl (b : Bool) : EvB K Er S OO σ (tC (.bl b)) rBool (.ok b) := fun H Q w s P => P _ H (Same.refl _) rfl
theorem evb_str (x : Str) : EvB K Er S OO σ (tC (.str x)) rStr (.ok x) := fun H Q w s P => P _ H (Same.refl _) rfl
theorem evb_op0 {ta tb : TE} {g : Int → Int → V} {r : Enc β} {f : Int → Int → β} {ma mb : Res Int} (hg : ∀ K H i j, r K H (g i j) (f i j)) (ha : EvB K Er S OO σ ta rInt ma) (hb : EvB K Er S OO σ tb rInt mb) :
    EvB K Er S OO σ (tOp (rI0 g) ta tb) r (ma.bind fun a => mb.bind fun b => .ok (f a b)) := fun H Q w s P =>
  ha.run w s FB.tr P fun a x H1 s1 w1 q1 r1 P1 => hb.run w1 q1 FB.tr P1 fun b y H2 s2 w2 q2 r2 P2 => ⟨a, b, r1, r2, P2 _ H2 (Same.refl _) (hg K H2 a b)⟩
theorem evb_opC {ta tb : TE} {Cc : Int → Int → Prop} {g : Int → Int → V} {r : Enc β} {f : Int → Int → Res β} {ma mb : Res Int} (hg : ∀ K H i j c, f i j = .ok c → Cc i j ∧ r K H (g i j) c) (he : ∀ i j x, f i j ≠ .err x)
    (ha : EvB K Er S OO σ ta rInt ma) (hb : EvB K Er S OO σ tb rInt mb) :
    EvB K Er S OO σ (tOp (rI Cc g) ta tb) r (ma.bind fun a => mb.bind fun b => f a b) := fun H Q w s P =>
  ha.run w s FB.tr P fun a x H1 s1 w1 q1 r1 P1 => hb.run w1 q1 FB.tr P1 fun b y H2 s2 w2 q2 r2 P2 => by
    cases e : f a b with
    | bad => rw [e] at P2; exact P2.elim
    | err x => exact absurd e (he a b x)
    | ok c =>
      rw [e] at P2
      obtain ⟨h1, h2⟩ := hg K H2 a b c e
      exact ⟨a, b, r1, r2, h1, P2 _ H2 (Same.refl _) h2⟩
def mulR (a b : Int) : Res Int := chk ((-(2 ^ 64) < a ∧ a < 2 ^ 64) ∨ (-(2 ^ 64) < b ∧ b < 2 ^ 64)) (.ok (a * b))
def modR (a b : Int) : Res Int := chk (0 < b) (.ok (a % b))
def divR (a b : Int) : Res Int := chk (0 < b ∧ b.natAbs.log2 < 9000) (.ok (a / b))
def powR (a b : Int) : Res Int := chk (0 ≤ b ∧ b ≤ 1000000 ∧ a.natAbs < 2 ^ 64) (.ok (a ^ b.toNat))
theorem chk_inv {c : Prop} [Decidable c] {m : Res α} {a : α} (h : chk c m = .ok a) : c ∧ m = .ok a := by
  unfold chk at h; split at h
  · exact ⟨by assumption, h⟩
  · cases h
theorem chk_ne {c : Prop} [Decidable c] {a : α} {x : Exc} : chk c (Res.ok a) ≠ .err x := by
  unfold chk; split <;> exact fun z => nomatch z
theorem evb_mul {ta tb : TE} {ma mb : Res Int} (ha : EvB K Er S OO σ ta rInt ma) (hb : EvB K Er S OO σ tb rInt mb) : EvB K Er S OO σ (tOp (rI CMul fun i j => .int (i * j)) ta tb) rInt (ma.bind fun a => mb.bind fun b => mulR a b) :=
  evb_opC (fun K H i j c h => by obtain ⟨h1, h2⟩ := chk_inv h; cases h2; exact ⟨h1, rfl⟩) (fun i j x => chk_ne) ha hb
theorem evb_mod {ta tb : TE} {ma mb : Res Int} (ha : EvB K Er S OO σ ta rInt ma) (hb : EvB K Er S OO σ tb rInt mb) : EvB K Er S OO σ (tOp (rI (fun _ j => 0 < j) fun i j => .int (i % j)) ta tb) rInt (ma.bind fun a => mb.bind fun b => modR a b) :=
  evb_opC (fun K H i j c h => by obtain ⟨h1, h2⟩ := chk_inv h; cases h2; exact ⟨h1, rfl⟩) (fun i j x => chk_ne) ha hb
theorem evb_div {ta tb : TE} {ma mb : Res Int} (ha : EvB K Er S OO σ ta rInt ma) (hb : EvB K Er S OO σ tb rInt mb) : EvB K Er S OO σ (tOp (rI (fun _ j => 0 < j ∧ j.natAbs.log2 < 9000) fun i j => .int (i / j)) ta tb) rInt (ma.bind fun a => mb.bind fun b => divR a b) :=
  evb_opC (fun K H i j c h => by obtain ⟨h1, h2⟩ := chk_inv h; cases h2; exact ⟨h1, rfl⟩) (fun i j x => chk_ne) ha hb
theorem evb_pow {ta tb : TE} {ma mb : Res Int} (ha : EvB K Er S OO σ ta rInt ma) (hb : EvB K Er S OO σ tb rInt mb) : EvB K Er S OO σ (tOp (rI CPow fun i j => .int (i ^ j.toNat)) ta tb) rInt (ma.bind fun a => mb.bind fun b => powR a b) :=
  evb_opC (fun K H i j c h => by obtain ⟨h1, h2⟩ := chk_inv h; cases h2; exact ⟨h1, rfl⟩) (fun i j x => chk_ne) ha hb
theorem evb_add {ta tb : TE} {ma mb : Res Int} (ha : EvB K Er S OO σ ta rInt ma) (hb : EvB K Er S OO σ tb rInt mb) : EvB K Er S OO σ (tOp (rI0 fun i j => .int (i + j)) ta tb) rInt (ma.bind fun a => mb.bind fun b => .ok (a + b)) := evb_op0 (fun _ _ _ _ => rfl) ha hb
theorem evb_lt {ta tb : TE} {ma mb : Res Int} (ha : EvB K Er S OO σ ta rInt ma) (hb : EvB K Er S OO σ tb rInt mb) : EvB K Er S OO σ (tOp (rI0 fun i j => .bl (decide (i < j))) ta tb) rBool (ma.bind fun a => mb.bind fun b => .ok (decide (a < b))) := evb_op0 (fun _ _ _ _ => rfl) ha hb
theorem evb_gt {ta tb : TE} {ma mb : Res Int} (ha : EvB K Er S OO σ ta rInt ma) (hb : EvB K Er S OO σ tb rInt mb) : EvB K Er S OO σ (tOp (rI0 fun i j => .bl (decide (j < i))) ta tb) rBool (ma.bind fun a => mb.bind fun b => .ok (decide (b < a))) := evb_op0 (fun _ _ _ _ => rfl) ha hb
/-- == and != of things without a heap -/
class Scal {α : Type} [DecidableEq α] (r : Enc α) : Prop where
  to : ∀ {K : PySem.W.Frag} {H H' : Hp} {x y : V} {a b : α}, r K H x a → r K H' y b → scal x y = true ∧ decide (x = y) = decide (a = b)
instance : Scal rInt := ⟨fun {K H H' x y a b} h1 h2 => by cases (show x = .int a from h1); cases (show y = .int b from h2); exact ⟨rfl, by simp⟩⟩
instance : Scal rBool := ⟨fun {K H H' x y a b} h1 h2 => by cases (show x = .bl a from h1); cases (show y = .bl b from h2); exact ⟨rfl, by simp⟩⟩
instance : Scal rStr := ⟨fun {K H H' x y a b} h1 h2 => by cases (show x = .str a from h1); cases (show y = .str b from h2); exact ⟨rfl, by simp⟩⟩
theorem evb_eq [DecidableEq α] {r : Enc α} [z : Scal r] [MonoE r] {ta tb : TE} {ma mb : Res α} (ha : EvB K Er S OO σ ta r ma) (hb : EvB K Er S OO σ tb r mb) : EvB K Er S OO σ (tOp rEq ta tb) rBool (ma.bind fun a => mb.bind fun b => .ok (decide (a = b))) := fun H Q w s P =>
  ha.run w s FB.tr P fun a x H1 s1 w1 q1 r1 P1 => hb.run w1 q1 FB.tr P1 fun b y H2 s2 w2 q2 r2 P2 => by
    obtain ⟨h1, h2⟩ := z.to r1 r2
    exact ⟨h1, P2 _ H2 (Same.refl _) (by rw [h2]; rfl)⟩
theorem evb_eqE [DecidableEq α] {r : Enc α} [z : MonoE r] {ta tb : TE} {ma mb : Res α} (ha : EvB K Er S OO σ ta r ma) (hb : EvB K Er S OO σ tb r mb) : EvB K Er S OO σ (tOp (rEqE K r) ta tb) rBool (ma.bind fun a => mb.bind fun b => .ok (decide (a = b))) := fun H Q w s P =>
  ha.run w s FB.tr P fun a x H1 s1 w1 q1 r1 P1 => hb.run w1 q1 FB.tr P1 fun b y H2 s2 w2 q2 r2 P2 => ⟨a, b, z.mono s2 r1, r2, P2 _ H2 (Same.refl _) rfl⟩
theorem evb_neE [DecidableEq α] {r : Enc α} [z : MonoE r] {ta tb : TE} {ma mb : Res α} (ha : EvB K Er S OO σ ta r ma) (hb : EvB K Er S OO σ tb r mb) : EvB K Er S OO σ (tOp (rNeE K r) ta tb) rBool (ma.bind fun a => mb.bind fun b => .ok (!decide (a = b))) := fun H Q w s P =>
  ha.run w s FB.tr P fun a x H1 s1 w1 q1 r1 P1 => hb.run w1 q1 FB.tr P1 fun b y H2 s2 w2 q2 r2 P2 => ⟨a, b, z.mono s2 r1, r2, P2 _ H2 (Same.refl _) rfl⟩
/-- truths -/
theorem evt_B {te : TE} {m : Res Bool} (h : EvB K Er S OO σ te rBool m) : EvT Er S OO σ (tB te) m := fun H Q w s P => h H _ w s (by
  cases m with
  | bad => exact P
  | err x => exact P
  | ok a => exact fun v H' s' r => ⟨a, r, P H' s'⟩)
theorem evt_test {te : TE} {m : Res Bool} (h : EvB K Er S OO σ te rBool m) : EvT Er S OO σ (tTest te) m := evt_B h
theorem evt_not {t : TT} {m : Res Bool} (h : EvT Er S OO σ t m) : EvT Er S OO σ (tNot t) (m.bind fun b => .ok (!b)) := fun H Q w s P => h.run w s FT.tr P fun b H1 s1 w1 q1 P1 => P1 H1 (Same.refl _)
def andR (a b : Res Bool) : Res Bool := a.bind fun x => if x = true then b else .ok false
def orR (a b : Res Bool) : Res Bool := a.bind fun x => if x = true then .ok true else b
theorem evt_or {t u : TT} {m n : Res Bool} (h : EvT Er S OO σ t m) (k : EvT Er S OO σ u n) : EvT Er S OO σ (tOr t u) (orR m n) := fun H Q w s P => h.run w s FT.tr P fun b H1 s1 w1 q1 P1 => by
  cases b with
  | true => exact P1 H1 (Same.refl _)
  | false => exact k H1 Q w1 q1 P1
theorem evb_notV {t : TE} {m : Res Bool} (h : EvB K Er S OO σ t rBool m) : EvB K Er S OO σ (tNotV t) rBool (m.bind fun b => .ok (!b)) := fun H Q w s P => h.run w s FB.tr P fun b x H1 s1 w1 q1 r1 P1 => ⟨b, r1, P1 _ H1 (Same.refl _) rfl⟩
theorem evb_andV {t u : TE} {m n : Res Bool} (h : EvB K Er S OO σ t rBool m) (k : EvB K Er S OO σ u rBool n) : EvB K Er S OO σ (tAndV t u) rBool (andR m n) := fun H Q w s P => h.run w s FB.tr P fun b x H1 s1 w1 q1 r1 P1 => ⟨b, r1, by
  cases b with
  | true => rw [if_pos rfl] at P1 ⊢; exact k H1 Q w1 q1 P1
  | false => exact P1 _ H1 (Same.refl _) rfl⟩
end
end L2

/-! ### mirrors: lists, tuples, calls -/
namespace L2
open PySem PySem.Spec PyProof.Rows
section
variable (K : PySem.W.Frag) (Er : Exc → Hp → Prop) (S : SC) (OO : List (List Cell)) (σ : St)
def FS {α : Type} (r : Enc α) (Q : VK) (a : α) (H : Hp) : Prop := ∀ v H', Same H H' → r K (hid H' OO) v a → Q v H'
/-- shared -/
def EvS {α : Type} (te : TE) (r : Enc α) (m : Res α) : Prop := ∀ H Q, W OO H → S.p (hid H OO) → PZ Er (FS K OO r Q) H m → te σ H Q
/-- a list that is read; its items are shared -/
def rE {α : Type} (r : Enc α) (H : Hp) (v : V) (as : List α) : Prop := ∃ p xs, v = .ref p ∧ H p = some (.lst xs) ∧ Paired (r K (hid H OO)) xs as
def FL {α : Type} (r : Enc α) (Q : VK) (as : List α) (H : Hp) : Prop := ∀ v H', Same H H' → rE K OO r H' v as → Q v H'
def EvL {α : Type} (te : TE) (r : Enc α) (m : Res (List α)) : Prop := ∀ H Q, W OO H → S.p (hid H OO) → PZ Er (FL K OO r Q) H m → te σ H Q
end
section
variable {K : PySem.W.Frag} {Er : Exc → Hp → Prop} {S : SC} {OO OO' OO2 : List (List Cell)} {σ : St} {α β γ : Type}
theorem FS.tr {r : Enc α} {Q : VK} : ∀ a H H', Same H H' → FS K OO r Q a H → FS K OO r Q a H' := fun a H H' s h v H2 s2 q => h v H2 (s.trans s2) q
theorem FL.tr {r : Enc α} {Q : VK} : ∀ a H H', Same H H' → FL K OO r Q a H → FL K OO r Q a H' := fun a H H' s h v H2 s2 q => h v H2 (s.trans s2) q
theorem PZ.run {F : β → Hp → Prop} {f : α → Res β} {H H' : Hp} {a : α} {m : Res α} (hm : m = .ok a) (hF : ∀ b H H', Same H H' → F b H → F b H') (s : Same H H') (P : PZ Er F H (m.bind f)) : PZ Er F H' (f a) := by
  subst hm
  have P' : PZ Er F H (f a) := P
  revert P'
  cases f a with
  | bad => exact fun z => z
  | err x => exact fun z H2 s2 => z H2 (s.trans s2)
  | ok b => exact fun z => hF b H H' s z
theorem EvS.run {te : TE} {r : Enc α} {m : Res α} (he : EvS K Er S OO σ te r m) {H : Hp} {Q : VK} (w : W OO H) (s : S.p (hid H OO)) {f : α → Res β} {F : β → Hp → Prop} (hF : ∀ b H H', Same H H' → F b H → F b H') (P : PZ Er F H (m.bind f))
    (hk : ∀ a v H', Same H H' → W OO H' → S.p (hid H' OO) → r K (hid H' OO) v a → PZ Er F H' (f a) → Q v H') : te σ H Q := by
  refine he H Q w s ?_
  cases e : m with
  | bad => rw [e] at P; exact P
  | err x => rw [e] at P; exact P
  | ok a => exact fun v H' s' hr => hk a v H' s' (w.keep s') (S.mono _ _ (hid_mono s') s) hr (PZ.run e hF s' P)
theorem EvL.run {te : TE} {r : Enc α} {m : Res (List α)} (he : EvL K Er S OO σ te r m) {H : Hp} {Q : VK} (w : W OO H) (s : S.p (hid H OO)) {f : List α → Res β} {F : β → Hp → Prop} (hF : ∀ b H H', Same H H' → F b H → F b H') (P : PZ Er F H (m.bind f))
    (hk : ∀ a v H', Same H H' → W OO H' → S.p (hid H' OO) → rE K OO r H' v a → PZ Er F H' (f a) → Q v H') : te σ H Q := by
  refine he H Q w s ?_
  cases e : m with
  | bad => rw [e] at P; exact P
  | err x => rw [e] at P; exact P
  | ok a => exact fun v H' s' hr => hk a v H' s' (w.keep s') (S.mono _ _ (hid_mono s') s) hr (PZ.run e hF s' P)
theorem PZ.imp {F G : β → Hp → Prop} {H : Hp} {m : Res β} (P : PZ Er F H m) (h : ∀ b, m = .ok b → F b H → G b H) : PZ Er G H m := by
  cases m with
  | bad => exact P
  | err x => exact P
  | ok b => exact h b rfl P
/-! from one to another -/
theorem EvS.toB {te : TE} {r : Enc α} [z : MonoE r] {m : Res α} (he : EvS K Er S OO σ te r m) : EvB K Er S OO σ te r m := fun H Q w s P => he H Q w s (P.imp fun b _ h v H' s' q => h v H' s' (z.mono hid_same q))
theorem EvS.ev {te : TE} {r : Enc α} {m : Res α} (he : EvS K Er S OO σ te r m) : Ev K Er S OO OO σ te (oF r) m := fun H Q w s P => he H Q w s (P.imp fun b _ h v H' s' q =>
  h v [] H' s' (w.keep s').nil (by rw [hid_nil]; exact hid_mono s') ⟨rfl, by rw [hid_nil]; exact q⟩)
theorem EvB.sh {te : TE} {r : Enc α} [z : FlatE r] {m : Res α} (he : EvB K Er S OO σ te r m) : EvS K Er S OO σ te r m := fun H Q w s P => he H Q w s (P.imp fun b _ h v H' s' q => h v H' s' (z.flat (w.keep s').i q))
theorem Ev.sh {te : TE} {o : OE α} {r : Enc α} [z : FrzC o r] {m : Res α} (he : Ev K Er S OO OO σ te o m) : EvS K Er S OO σ te r m := fun H Q w s P => he.frz H Q w s (P.imp fun b _ h v C H' s' w' m' q => by
  obtain ⟨rfl, q⟩ := q
  rw [hid_nil] at q
  exact h v H' s' q)
theorem evs_var {r : Enc α} {v : V} {a : α} (i : Nat) (hσ : σ[i]? = some (some v)) (h : ∀ x, S.p x → r K x v a) : EvS K Er S OO σ (tVar i) r (.ok a) := fun H Q w s P => ⟨v, hσ, P v H (Same.refl _) (h _ s)⟩
/-! items -/
def atR (as : List α) (i : Int) : Res α := match atI as i with
  | some a => .ok a
  | none => .bad
theorem atR_ok {as : List α} {i : Int} {a : α} (h : atR as i = .ok a) : atI as i = some a := by
  unfold atR at h; split at h
  · cases h; assumption
  · cases h
theorem atR_ne {as : List α} {i : Int} {x : Exc} : atR as i ≠ .err x := by unfold atR; split <;> exact fun z => nomatch z
theorem paired_atI {F : V → α → Prop} {xs : List V} {as : List α} {i : Int} {a : α} (p : Paired F xs as) (h : atI as i = some a) : ∃ x, atI xs i = some x ∧ F x a := by
  unfold atI at h ⊢
  rw [Paired.len p]
  cases e : ixN as.length i with
  | none => rw [e] at h; cases h
  | some j =>
    rw [e] at h
    obtain ⟨x, h1, h2⟩ := Paired.getR p h
    exact ⟨x, h1, h2⟩
/-- a step that cannot refuse -/
theorem PZ.okOf {F : β → Hp → Prop} {H : Hp} {m : Res β} (he : ∀ x, m ≠ .err x) (P : PZ Er F H m) : ∃ b, m = .ok b ∧ F b H := by
  cases m with
  | bad => exact P.elim
  | err x => exact absurd rfl (he x)
  | ok b => exact ⟨b, rfl, P⟩
theorem evb_ix {ta tb : TE} {r : Enc α} [z : MonoE r] {ma : Res (List α)} {mb : Res Int} (ha : EvB K Er S OO σ ta (rV r) ma) (hb : EvB K Er S OO σ tb rInt mb) : EvB K Er S OO σ (tOp (rIxL K) ta tb) r (ma.bind fun as => mb.bind fun i => atR as i) := fun H Q w s P =>
  ha.run w s FB.tr P fun a x H1 s1 w1 q1 ⟨p, xs, e, q, pr⟩ P1 => hb.run w1 q1 FB.tr P1 fun b y H2 s2 w2 q2 r2 P2 => by
    obtain ⟨c, hc, P3⟩ := P2.okOf fun x => atR_ne
    obtain ⟨u, h1, h2⟩ := paired_atI pr (atR_ok hc)
    exact ⟨p, xs, b, u, e, r2, SqL.of (s2 _ _ q), h1, P3 u H2 (Same.refl _) (z.mono s2 h2)⟩
/-! len -/
theorem evb_len {ta : TE} {r : Enc α} {m : Res (List α)} (ha : EvB K Er S OO σ ta (rV r) m) : EvB K Er S OO σ (tCB (rLenOf K) (tCons ta tNil)) rInt (m.bind fun as => .ok (as.length : Int)) := fun H Q w s P =>
  ha.run w s FB.tr P fun a x H1 s1 w1 q1 ⟨p, xs, e, q, pr⟩ P1 => ⟨p, xs, by rw [e], .inl (SqL.of q), P1 _ H1 (Same.refl _) (by rw [Paired.len pr]; rfl)⟩
/-! a new list: of shared items -/
theorem newL {r : Enc α} [z : MonoE r] {xs : List V} {as : List α} {H : Hp} {Q : VK} (w : W OO H) (pr : Paired (r K (hid H OO)) xs as) (P : FO K OO OO (oL (oF r)) Q as H) : ∀ p, H p = none → Q (.ref p) (upd H p (.lst xs)) := fun p hp => by
  have hn := hid_new (OO := OO) hp (o := .lst xs)
  refine P (.ref p) [(p, .lst xs)] _ (same_new hp _) (w.new hp rfl) hn ?_
  refine ⟨p, xs, List.replicate as.length [], rfl, (P3.of (Paired.imp2 (fun _ _ h => z.mono hn h) pr)).imp fun _ _ _ h => h, by rw [flat_nils]⟩
theorem Paired.take' {F : α → β → Prop} : ∀ {l : List α} {m : List β} (n : Nat), Paired F l m → Paired F (l.take n) (m.take n)
  | _, _, 0, _ => .nil
  | _, _, _ + 1, .nil => .nil
  | _, _, n + 1, .cons r t => .cons r (Paired.take' n t)
theorem Paired.drop' {F : α → β → Prop} : ∀ {l : List α} {m : List β} (n : Nat), Paired F l m → Paired F (l.drop n) (m.drop n)
  | _, _, 0, h => h
  | _, _, _ + 1, .nil => .nil
  | _, _, n + 1, .cons _ t => Paired.drop' n t
def cutL (as : List α) (lo hi : Option Int) : List α := (as.drop (HT.sIx as.length 0 lo)).take (HT.sIx as.length as.length hi - HT.sIx as.length 0 lo)
theorem cut_paired {F : V → α → Prop} {xs : List V} {as : List α} (p : Paired F xs as) (lo hi : Option Int) : Paired F (cutV xs lo hi) (cutL as lo hi) := by
  unfold cutV cutL; rw [Paired.len p]; exact Paired.take' _ (Paired.drop' _ p)
def FP (Q : Option Int → Hp → Prop) (a : Option Int) (H : Hp) : Prop := ∀ H', Same H H' → Q a H'
def EvP (Er : Exc → Hp → Prop) (S : SC) (OO : List (List Cell)) (σ : St) (t : TO) (m : Res (Option Int)) : Prop := ∀ H Q, W OO H → S.p (hid H OO) → PZ Er (FP Q) H m → t σ H Q
theorem EvP.run {t : TO} {m : Res (Option Int)} (he : EvP Er S OO σ t m) {H : Hp} {Q : Option Int → Hp → Prop} (w : W OO H) (s : S.p (hid H OO)) {f : Option Int → Res β} {F : β → Hp → Prop} (hF : ∀ b H H', Same H H' → F b H → F b H') (P : PZ Er F H (m.bind f))
    (hk : ∀ a H', Same H H' → W OO H' → S.p (hid H' OO) → PZ Er F H' (f a) → Q a H') : t σ H Q := by
  refine he H Q w s ?_
  cases e : m with
  | bad => rw [e] at P; exact P
  | err x => rw [e] at P; exact P
  | ok a => exact fun H' s' => hk a H' s' (w.keep s') (S.mono _ _ (hid_mono s') s) (PZ.run e hF s' P)
theorem evp_none : EvP Er S OO σ tNoPart (.ok none) := fun H Q w s P => P H (Same.refl _)
theorem evp_some {te : TE} {m : Res Int} (h : EvB K Er S OO σ te rInt m) : EvP Er S OO σ (tPart te) (m.bind fun i => .ok (some i)) := fun H Q w s P =>
  h.run w s (fun _ _ _ s h H2 s2 => h H2 (s.trans s2)) P fun a v H1 s1 w1 q1 r1 P1 => ⟨a, r1, P1 H1 (Same.refl _)⟩
/-- the script -/
theorem evb_lenS {ta : TE} {r : Enc α} {m : Res (List α)} (ha : EvB K Er S OO σ ta (rL r) m) : EvB K Er S OO σ (tCB (rLenOf K) (tCons ta tNil)) rInt (m.bind fun as => .ok (as.length : Int)) := fun H Q w s P =>
  ha.run w s FB.tr P fun a x H1 s1 w1 q1 ⟨p, xs, e, q, pr⟩ P1 => ⟨p, xs, by rw [e], .inl q, P1 _ H1 (Same.refl _) (by rw [Paired.len pr]; rfl)⟩
theorem evb_ixS {ta tb : TE} {ma : Res (List Int)} {mb : Res Int} (ha : EvB K Er S OO σ ta (rL rInt) ma) (hb : EvB K Er S OO σ tb rInt mb) : EvB K Er S OO σ (tOp (rIxL K) ta tb) rInt (ma.bind fun as => mb.bind fun i => atR as i) := fun H Q w s P =>
  ha.run w s FB.tr P fun a x H1 s1 w1 q1 ⟨p, xs, e, q, pr⟩ P1 => hb.run w1 q1 FB.tr P1 fun b y H2 s2 w2 q2 r2 P2 => by
    obtain ⟨c, hc, P3⟩ := P2.okOf fun x => atR_ne
    obtain ⟨u, h1, h2⟩ := paired_atI pr (atR_ok hc)
    exact ⟨p, xs, b, u, e, r2, s2.seq q, h1, P3 u H2 (Same.refl _) h2⟩
theorem ev_sliceS {te : TE} {tl th : TO} {m : Res (List Int)} {ml mh : Res (Option Int)} (he : EvB K Er S OO σ te (rL rInt) m) (hl : EvP Er S OO σ tl ml) (hh : EvP Er S OO σ th mh) :
    Ev K Er S OO OO σ (tSl (rSlL K) te tl th) (oL (oF rInt)) (m.bind fun as => ml.bind fun lo => mh.bind fun hi => .ok (cutL as lo hi)) := fun H Q w s P =>
  he.run w s FO.tr P fun as x H1 s1 w1 q1 ⟨p, xs, e, q, pr⟩ P1 => hl.run w1 q1 FO.tr P1 fun lo H2 s2 w2 q2 P2 => hh.run w2 q2 FO.tr P2 fun hi H3 s3 w3 q3 P3' =>
    ⟨p, xs, e, s3.seq (s2.seq q), newL w3 (cut_paired (Paired.imp2 (fun _ _ h => h) pr) lo hi) P3'⟩
/-! concatenation, repetition, copies -/
def rangeI (lo hi : Int) : List Int := (List.range (hi - lo).toNat).map fun (i : Nat) => lo + (i : Int)
/-! displays of flat items -/
theorem ev_l0 {o : OE α} : Ev K Er S OO OO σ (tLst tNil) (oL o) (.ok []) := fun H Q w s P => ⟨Nat.zero_le _, fun p hp => P (.ref p) [(p, .lst [])] _ (same_new hp _) (w.new hp rfl) (hid_new hp) ⟨p, [], [], rfl, .nil, rfl⟩⟩
/-- items from the left: all shared -/
def FA {α : Type} (K : PySem.W.Frag) (OO : List (List Cell)) (r : Enc α) (Q : List V → Hp → Prop) (as : List α) (H : Hp) : Prop := ∀ vs H', Same H H' → Paired (r K (hid H' OO)) vs as → Q vs H'
def EvA {α : Type} (K : PySem.W.Frag) (Er : Exc → Hp → Prop) (S : SC) (OO : List (List Cell)) (σ : St) (t : TA) (r : Enc α) (m : Res (List α)) : Prop := ∀ H Q, W OO H → S.p (hid H OO) → PZ Er (FA K OO r Q) H m → t σ H Q
theorem eva_nil {r : Enc α} : EvA K Er S OO σ tNil r (.ok []) := fun H Q w s P => P [] H (Same.refl _) .nil
theorem eva_cons {te : TE} {t : TA} {r : Enc α} [z : MonoE r] {m : Res α} {n : Res (List α)} (he : EvS K Er S OO σ te r m) (ht : EvA K Er S OO σ t r n) : EvA K Er S OO σ (tCons te t) r (m.bind fun a => n.bind fun as => .ok (a :: as)) := fun H Q w s P =>
  he.run w s (fun b H H' s h vs H2 s2 p => h vs H2 (s.trans s2) p) P fun a x H1 s1 w1 q1 r1 P1 => by
    refine ht H1 _ w1 q1 ?_
    cases e : n with
    | bad => rw [e] at P1; exact P1
    | err x => rw [e] at P1; exact P1
    | ok as => rw [e] at P1; exact fun vs H2 s2 p => P1 (x :: vs) H2 s2 (.cons (z.mono (hid_mono s2) r1) p)
theorem ev_lst {t : TA} {r : Enc α} [z : MonoE r] {m : Res (List α)} (h : EvA K Er S OO σ t r m) : Ev K Er S OO OO σ (tLst t) (oL (oF r)) (m.bind fun as => chk (as.length ≤ sizeLine) (.ok as)) := fun H Q w s P => by
  refine h H _ w s ?_
  cases e : m with
  | bad => rw [e] at P; exact P
  | err x => rw [e] at P; exact P
  | ok as =>
    rw [e] at P
    intro vs H1 s1 p
    obtain ⟨c, hc, P3⟩ := PZ.okOf (fun x => chk_ne) (show PZ Er _ H (chk (as.length ≤ sizeLine) (.ok as)) from P)
    obtain ⟨h1, h2⟩ := chk_inv hc
    cases h2
    exact ⟨by rw [Paired.len p]; exact h1, newL (w.keep s1) p (FO.tr _ _ _ s1 P3)⟩
theorem evs_tupL {t : TA} {r : Enc α} [z : MonoE r] {m : Res (List α)} (h : EvA K Er S OO σ t r m) : EvS K Er S OO σ (tTup t) (rPL r) (m.bind fun as => chk (as.length ≤ sizeLine) (.ok as)) := fun H Q w s P => by
  refine h H _ w s ?_
  cases e : m with
  | bad => rw [e] at P; exact P
  | err x => rw [e] at P; exact P
  | ok as =>
    rw [e] at P
    intro vs H1 s1 p
    obtain ⟨c, hc, P3⟩ := PZ.okOf (fun x => chk_ne) (show PZ Er _ H (chk (as.length ≤ sizeLine) (.ok as)) from P)
    obtain ⟨h1, h2⟩ := chk_inv hc
    cases h2
    have w1 := w.keep s1
    refine ⟨by rw [Paired.len p]; exact h1, fun a ha => P3 _ _ (s1.trans (same_new ha _)) ⟨a, vs, rfl, hid_newS w1 ha, Paired.imp2 (fun _ _ q => z.mono (hid_mono (same_new ha _)) q) p⟩⟩
end
end L2

/-! ### mirrors: calls, statements, loops -/
namespace L2
open PySem PySem.Spec PyProof.Rows
section
variable {K : PySem.W.Frag} {Er : Exc → Hp → Prop} {S : SC} {OO OO' OO2 : List (List Cell)} {σ : St} {α β γ ρ ι : Type} {α1 α2 α3 α4 α5 α6 : Type}
def noE (m : Res α) : Res α := match m with
  | .ok a => .ok a
  | _ => .bad
theorem noE_ok {m : Res α} {a : α} (h : noE m = .ok a) : m = .ok a := by
  cases m with
  | ok b => exact h
  | bad => cases h
  | err x => cases h
theorem noE_ne {m : Res α} {x : Exc} : noE m ≠ .err x := by cases m <;> exact fun z => nomatch z
def FF (K : PySem.W.Frag) (o : OE α) (Q : VK) (a : α) (H : Hp) : Prop := ∀ v C H', W [C] H' → Same H (hid H' [C]) → o K (hid H' [C]) v a C → Q v H'
def sp1 (r1 : Enc α1) (o : OE ρ) (f : α1 → Res ρ) (K : PySem.W.Frag) : Sp := fun vs H Q _ => ∃ v1 a1 b, vs = [v1] ∧ r1 K H v1 a1 ∧ f a1 = .ok b ∧ FF K o Q b H
def sp2 (r1 : Enc α1) (r2 : Enc α2) (o : OE ρ) (f : α1 → α2 → Res ρ) (K : PySem.W.Frag) : Sp := fun vs H Q _ => ∃ v1 v2 a1 a2 b, vs = [v1, v2] ∧ r1 K H v1 a1 ∧ r2 K H v2 a2 ∧ f a1 a2 = .ok b ∧ FF K o Q b H
def sp3 (r1 : Enc α1) (r2 : Enc α2) (r3 : Enc α3) (o : OE ρ) (f : α1 → α2 → α3 → Res ρ) (K : PySem.W.Frag) : Sp := fun vs H Q _ => ∃ v1 v2 v3 a1 a2 a3 b, vs = [v1, v2, v3] ∧ r1 K H v1 a1 ∧ r2 K H v2 a2 ∧ r3 K H v3 a3 ∧ f a1 a2 a3 = .ok b ∧ FF K o Q b H
theorem callW {C : List Cell} {H H' : Hp} (w : W OO H) (w' : W [C] H') (m' : Same H (hid H' [C])) : W (C :: OO) H' ∧ Same (hid H OO) (hid H' (C :: OO)) ∧ SameI (hid H' [C]) (hid H' (C :: OO)) := by
  have s : Same H H' := m'.trans hid_same
  have f1 : fl [C] = C.map (·.1) := by simp [fl]
  have hd : ∀ b, b ∈ fl OO → b ∉ C.map (·.1) := fun b hb hc => by
    obtain ⟨u, hu⟩ := fl_ex hb
    exact (hid_some (m' _ _ (w.tr _ hu))).2 (by rw [f1]; exact hc)
  have w2 : W (C :: OO) H' := by
    refine ⟨fun c hc => ?_, ?_, fun c hc => ?_⟩
    · rw [List.flatten_cons, List.mem_append] at hc
      rcases hc with hc | hc
      · exact w'.tr c (by simp [hc])
      · exact s _ _ (w.tr c hc)
    · rw [fl_cons]
      refine List.nodup_append.mpr ⟨by rw [← f1]; exact w'.nd, w.nd, fun a ha b hb e => ?_⟩
      subst e; exact hd a hb ha
    · rw [List.flatten_cons, List.mem_append] at hc
      rcases hc with hc | hc
      · exact w'.mu c (by simp [hc])
      · exact w.mu c hc
  refine ⟨w2, fun b u q => ?_, fun b u q i => ?_⟩
  · obtain ⟨q1, q2⟩ := hid_some q
    obtain ⟨q3, q4⟩ := hid_some (m' _ _ q1)
    refine hid_of q3 ?_
    rw [fl_cons, List.mem_append]
    exact fun z => z.elim (fun z => q4 (by rw [f1]; exact z)) q2
  · exact w2.i b u (hid_some q).1 i
theorem callEnd {o : OE α} [z : FlatO o] {Q : VK} {b : α} {H : Hp} (w : W OO H) (P : FO K OO OO o Q b H) : FF K o Q b H := fun v C H' w' m' ho => by
  obtain ⟨w2, h2, h3⟩ := callW w w' m'
  exact P v C H' (m'.trans hid_same) w2 h2 (z.flat h3 ho)
theorem ev_call1 {ta : TE} {r1 : Enc α1} {o : OE ρ} [FlatO o] {f : α1 → Res ρ} {ma : Res α1} (ha : EvB K Er S OO σ ta r1 ma) : Ev K Er S OO OO σ (tCall (sp1 r1 o f K) [] E0 (tCons ta tNil)) o (ma.bind fun a => noE (f a)) := fun H Q w s P =>
  ha.run w s FO.tr P fun a x H1 s1 w1 q1 r1 P1 => by
    obtain ⟨b, hb, P2⟩ := P1.okOf fun x => noE_ne
    exact ⟨x, a, b, rfl, r1, noE_ok hb, callEnd w1 P2⟩
theorem ev_call2 {ta tb : TE} {r1 : Enc α1} {r2 : Enc α2} [z1 : MonoE r1] {o : OE ρ} [FlatO o] {f : α1 → α2 → Res ρ} {ma : Res α1} {mb : Res α2} (ha : EvB K Er S OO σ ta r1 ma) (hb : EvB K Er S OO σ tb r2 mb) :
    Ev K Er S OO OO σ (tCall (sp2 r1 r2 o f K) [] E0 (tCons ta (tCons tb tNil))) o (ma.bind fun a => mb.bind fun b => noE (f a b)) := fun H Q w s P =>
  ha.run w s FO.tr P fun a x H1 s1 w1 q1 r1 P1 => hb.run w1 q1 FO.tr P1 fun b y H2 s2 w2 q2 r2 P2 => by
    obtain ⟨c, hc, P3⟩ := P2.okOf fun x => noE_ne
    exact ⟨x, y, a, b, c, rfl, z1.mono s2 r1, r2, noE_ok hc, callEnd w2 P3⟩
theorem ev_call3 {ta tb tc : TE} {r1 : Enc α1} {r2 : Enc α2} {r3 : Enc α3} [z1 : MonoE r1] [z2 : MonoE r2] {o : OE ρ} [FlatO o] {f : α1 → α2 → α3 → Res ρ} {ma : Res α1} {mb : Res α2} {mc : Res α3} (ha : EvB K Er S OO σ ta r1 ma) (hb : EvB K Er S OO σ tb r2 mb) (hc : EvB K Er S OO σ tc r3 mc) :
    Ev K Er S OO OO σ (tCall (sp3 r1 r2 r3 o f K) [] E0 (tCons ta (tCons tb (tCons tc tNil)))) o (ma.bind fun a => mb.bind fun b => mc.bind fun c => noE (f a b c)) := fun H Q w s P =>
  ha.run w s FO.tr P fun a x H1 s1 w1 q1 r1 P1 => hb.run w1 q1 FO.tr P1 fun b y H2 s2 w2 q2 r2 P2 => hc.run w2 q2 FO.tr P2 fun c z H3 s3 w3 q3 r3 P3 => by
    obtain ⟨d, hd, P4⟩ := P3.okOf fun x => noE_ne
    exact ⟨x, y, z, a, b, c, d, rfl, z1.mono (s2.trans s3) r1, z2.mono s3 r2, r3, noE_ok hd, callEnd w3 P4⟩
/-! ends of statements -/
structure Jn (γ ι : Type) where
  oo : ι → List (List Cell)
  ss : ι → St
  sc : γ → ι → SC
inductive Ctl (ρ γ : Type) where
  | ret (r : ρ) | nx (g : γ)
def FTd (K : PySem.W.Frag) (o : OE ρ) (D : Ends) (r : ρ) (h : Hp) : Prop := ∀ v C OO' H', W (C :: OO') H' → Same h (hid H' (C :: OO')) → o K (hid H' (C :: OO')) v r C → D.rt v H'
def FNd (J : Jn γ ι) (D : Ends) (g : γ) (h : Hp) : Prop := ∀ x H', W (J.oo x) H' → Same h (hid H' (J.oo x)) → (J.sc g x).p (hid H' (J.oo x)) → D.nx (J.ss x) H'
def FCd (K : PySem.W.Frag) (o : OE ρ) (J : Jn γ ι) (D : Ends) (c : Ctl ρ γ) (h : Hp) : Prop := match c with
  | .ret r => FTd K o D r h
  | .nx g => FNd J D g h
class FdOk (Fd : Ends → β → Hp → Prop) : Prop where
  tr : ∀ D b h h', Same h h' → Fd D b h → Fd D b h'
instance {o : OE ρ} : FdOk (FTd K o) := ⟨fun D b h h' s q v C O H' w m x => q v C O H' w (s.trans m) x⟩
instance {J : Jn γ ι} : FdOk (FNd J) := ⟨fun D b h h' s q x H' w m y => q x H' w (s.trans m) y⟩
instance {o : OE ρ} {J : Jn γ ι} : FdOk (FCd K o J) := ⟨fun D b h h' s q => by
  cases b with
  | ret r => exact fun v C O H' w m x => q v C O H' w (s.trans m) x
  | nx g => exact fun x H' w m y => q x H' w (s.trans m) y⟩
theorem PZ.tr {F : β → Hp → Prop} (hF : ∀ b H H', Same H H' → F b H → F b H') {H H' : Hp} {m : Res β} (s : Same H H') (P : PZ Er F H m) : PZ Er F H' m := by
  cases m with
  | bad => exact P
  | err x => exact fun H2 s2 => P H2 (s.trans s2)
  | ok b => exact hF b H H' s P
/-- a block of statements -/
def Sv (Er : Exc → Hp → Prop) (S : SC) (OO : List (List Cell)) (σ : St) (t : TS) (Fd : Ends → β → Hp → Prop) (m : Res β) : Prop := ∀ H D, W OO H → S.p (hid H OO) → PZ Er (Fd D) (hid H OO) m → t D σ H
variable {Fd : Ends → β → Hp → Prop} [fd : FdOk Fd] {u : TS}
theorem Ev.st {te : TE} {o : OE α} {m : Res α} (he : Ev K Er S OO OO' σ te o m) {H : Hp} {D : Ends} {Q : VK} (w : W OO H) (s : S.p (hid H OO)) {f : α → Res β} (P : PZ Er (Fd D) (hid H OO) (m.bind f))
    (hk : ∀ a v C H', W (C :: OO') H' → S.p (hid H' (C :: OO')) → o K (hid H' (C :: OO')) v a C → PZ Er (Fd D) (hid H' (C :: OO')) (f a) → Q v H') : te σ H Q := by
  refine he H Q w s ?_
  cases m with
  | bad => exact P
  | err x => exact fun H' s' => P H' (hid_same.trans s')
  | ok a => exact fun v C H' s' w' m' ho => hk a v C H' w' (S.mono _ _ m' s) ho (PZ.tr (fd.tr D) m' P)
theorem EvB.st {te : TE} {r : Enc α} {m : Res α} (he : EvB K Er S OO σ te r m) {H : Hp} {D : Ends} {Q : VK} (w : W OO H) (s : S.p (hid H OO)) {f : α → Res β} (P : PZ Er (Fd D) (hid H OO) (m.bind f))
    (hk : ∀ a v H', Same H H' → W OO H' → S.p (hid H' OO) → r K H' v a → PZ Er (Fd D) (hid H' OO) (f a) → Q v H') : te σ H Q := by
  refine he H Q w s ?_
  cases m with
  | bad => exact P
  | err x => exact fun H' s' => P H' (hid_same.trans s')
  | ok a => exact fun v H' s' hr => hk a v H' s' (w.keep s') (S.mono _ _ (hid_mono s') s) hr (PZ.tr (fd.tr D) (hid_mono s') P)
theorem EvS.st {te : TE} {r : Enc α} {m : Res α} (he : EvS K Er S OO σ te r m) {H : Hp} {D : Ends} {Q : VK} (w : W OO H) (s : S.p (hid H OO)) {f : α → Res β} (P : PZ Er (Fd D) (hid H OO) (m.bind f))
    (hk : ∀ a v H', Same H H' → W OO H' → S.p (hid H' OO) → r K (hid H' OO) v a → PZ Er (Fd D) (hid H' OO) (f a) → Q v H') : te σ H Q := by
  refine he H Q w s ?_
  cases m with
  | bad => exact P
  | err x => exact fun H' s' => P H' (hid_same.trans s')
  | ok a => exact fun v H' s' hr => hk a v H' s' (w.keep s') (S.mono _ _ (hid_mono s') s) hr (PZ.tr (fd.tr D) (hid_mono s') P)
theorem EvT.st {tt : TT} {m : Res Bool} (he : EvT Er S OO σ tt m) {H : Hp} {D : Ends} {Q : Bool → Hp → Prop} (w : W OO H) (s : S.p (hid H OO)) {f : Bool → Res β} (P : PZ Er (Fd D) (hid H OO) (m.bind f))
    (hk : ∀ b H', W OO H' → S.p (hid H' OO) → PZ Er (Fd D) (hid H' OO) (f b) → Q b H') : tt σ H Q := by
  refine he H Q w s ?_
  cases m with
  | bad => exact P
  | err x => exact fun H' s' => P H' (hid_same.trans s')
  | ok a => exact fun H' s' => hk a H' (w.keep s') (S.mono _ _ (hid_mono s') s) (PZ.tr (fd.tr D) (hid_mono s') P)
theorem set_set {OO : List (List Cell)} {k : Nat} {C : List Cell} : (OO.set k C).set k [] = OO.set k [] := by simp
theorem setW {C : List Cell} {H : Hp} {k : Nat} (w : W (C :: OO) H) (hk : k < OO.length) : W (OO.set k C) H ∧ Same (hid H (C :: OO)) (hid H (OO.set k C)) := by
  have h1 := set_flat (OO := OO) (k := k) (C := OO[k]) (by simp [hk])
  have h2 := set_flat (OO := OO.set k C) (k := k) (C := C) (by simp [hk])
  rw [set_set] at h2
  have h3 : (OO.set k C).flatten.Perm (C ++ (OO.set k []).flatten) := by simpa using h2.symm
  have h4 : (C :: OO).flatten.Perm (C ++ (OO[k] ++ (OO.set k []).flatten)) := by
    rw [List.flatten_cons]; exact (by simpa using h1.symm : OO.flatten.Perm (OO[k] ++ (OO.set k []).flatten)).append_left C
  have h5 : (C ++ (OO.set k []).flatten).Sublist (C ++ (OO[k] ++ (OO.set k []).flatten)) := List.Sublist.append (List.Sublist.refl _) (List.sublist_append_right _ _)
  have w1 : W [C ++ (OO[k] ++ (OO.set k []).flatten)] H := w.of (by simpa using h4.symm)
  have w2 : W [C ++ (OO.set k []).flatten] H := w1.sub (by simpa using h5)
  refine ⟨w2.of (by simpa using h3), hid_sub (Same.refl _) fun b hb => ?_⟩
  obtain ⟨o, ho⟩ := fl_ex hb
  exact fl_mem (h4.mem_iff.mpr (h5.mem (h3.mem_iff.mp ho)))
/-- x = e, x ours -/
theorem sv_setO {te : TE} {o : OE α} [MonoO o] {m : Res α} {f : α → Res β} (i k : Nat) (he : Ev K Er S OO OO' σ te o m) (hk : k < OO'.length) (hr : ∀ a v C, Sv Er (S.addO K o v a C) (OO'.set k C) (σ.set i (some v)) u Fd (f a)) : Sv Er S OO σ (tSeq (tAsg te (gName i)) u) Fd (m.bind f) := fun H D w s P =>
  he.st w s P fun a v C H' w' s' ho P' => by
    obtain ⟨w2, h2⟩ := setW w' hk
    exact hr a v C H' D w2 ⟨S.mono _ _ h2 s', MonoO.mono h2 ho⟩ (PZ.tr (fd.tr D) h2 P')
theorem sv_set {te : TE} {r : Enc α} [MonoE r] {m : Res α} {f : α → Res β} (i : Nat) (he : EvS K Er S OO σ te r m) (hr : ∀ a v, Sv Er (S.add K r v a) OO (σ.set i (some v)) u Fd (f a)) : Sv Er S OO σ (tSeq (tAsg te (gName i)) u) Fd (m.bind f) := fun H D w s P =>
  he.st w s P fun a v H' s1 w' s' ho P' => hr a v H' D w' ⟨s', ho⟩ P'
theorem sv_ret {te : TE} {o : OE ρ} {m : Res ρ} (he : Ev K Er S OO OO' σ te o m) : Sv Er S OO σ (tSeq (tRet te) u) (FTd K o) m := fun H D w s P =>
  he H _ w s (by
    cases m with
    | bad => exact P
    | err x => exact fun H' s' => P H' (hid_same.trans s')
    | ok a => exact fun v C H' s' w' m' ho => P v C OO' H' w' m' ho)
theorem sv_nxC {J : Jn γ ι} {t : TS} {o : OE ρ} {m : Res γ} (h : Sv Er S OO σ t (FNd J) m) : Sv Er S OO σ t (FCd K o J) (m.bind fun r => .ok (.nx r)) := fun H D w s P => h H D w s (by
  cases m with
  | bad => exact P
  | err x => exact P
  | ok a => exact P)
theorem sv_end {J : Jn γ ι} (x : ι) (g : γ) (h1 : OO = J.oo x) (h2 : σ = J.ss x) (h3 : ∀ h, S.p h → (J.sc g x).p h) : Sv Er S OO σ tNext (FNd J) (.ok g) := fun H D w s P => by
  subst h1 h2
  exact P x H w (Same.refl _) (h3 _ s)
theorem sv_bad {t : TS} : Sv Er S OO σ t Fd .bad := fun H D w s P => P.elim
/-- if c: .. that leaves the def, then the rest -/
theorem sv_ifR {o : OE ρ} {c : TT} {t1 : TS} {mc : Res Bool} {m1 m2 : Res ρ} (hc : EvT Er S OO σ c mc) (h1 : Sv Er S OO σ t1 (FTd K o) m1) (h2 : Sv Er S OO σ u (FTd K o) m2) : Sv Er S OO σ (tSeq (tIfS c t1 tNext) u) (FTd K o) (mc.bind fun b => if b = true then m1 else m2) := fun H D w s P =>
  hc.st (Fd := FTd K o) w s P fun b H' w' s' P' => by
    cases b with
    | true => rw [if_pos rfl] at P' ⊢; exact h1 H' _ w' s' P'
    | false => exact h2 H' D w' s' P'
theorem sv_ifRC {o : OE ρ} {J : Jn γ ι} {c : TT} {t1 : TS} {mc : Res Bool} {m1 : Res ρ} {m2 : Res (Ctl ρ γ)} (hc : EvT Er S OO σ c mc) (h1 : Sv Er S OO σ t1 (FTd K o) m1) (h2 : Sv Er S OO σ u (FCd K o J) m2) : Sv Er S OO σ (tSeq (tIfS c t1 tNext) u) (FCd K o J) (mc.bind fun b => if b = true then m1.bind (fun r => .ok (.ret r)) else m2) := fun H D w s P =>
  hc.st (Fd := FCd K o J) w s P fun b H' w' s' P' => by
    cases b with
    | true =>
      rw [if_pos rfl] at P' ⊢
      refine h1 H' _ w' s' ?_
      cases m1 with
      | bad => exact P'
      | err x => exact P'
      | ok a => exact P'
    | false => exact h2 H' D w' s' P'
/-- if c: .. else: .., both the last of their block -/
theorem sv_if2 {c : TT} {t1 t2 : TS} {mc : Res Bool} {m1 m2 : Res β} (hc : EvT Er S OO σ c mc) (h1 : Sv Er S OO σ t1 Fd m1) (h2 : Sv Er S OO σ t2 Fd m2) : Sv Er S OO σ (tIfS c t1 t2) Fd (mc.bind fun b => if b = true then m1 else m2) := fun H D w s P =>
  hc.st w s P fun b H' w' s' P' => by
    cases b with
    | true => rw [if_pos rfl] at P' ⊢; exact h1 H' _ w' s' P'
    | false => exact h2 H' D w' s' P'
/-- a block, then the rest -/
theorem sv_seqN {J : Jn γ ι} {t : TS} {m : Res γ} {f : γ → Res β} (hb : Sv Er S OO σ t (FNd J) m) (hr : ∀ g x, Sv Er (J.sc g x) (J.oo x) (J.ss x) u Fd (f g)) : Sv Er S OO σ (tSeq t u) Fd (m.bind f) := fun H D w s P =>
  hb H _ w s (by
    cases m with
    | bad => exact P
    | err x => exact P
    | ok g => exact fun x H' w' m' q => hr g x H' D w' q (PZ.tr (fd.tr D) m' P))
def retOr (f : γ → Res ρ) : Ctl ρ γ → Res ρ
  | .ret r => .ok r
  | .nx g => f g
/-- what was known is put otherwise -/
theorem Sv.weak {S2 : SC} {t : TS} {m : Res β} (h : Sv Er S2 OO σ t Fd m) (hs : ∀ x, S.p x → S2.p x) : Sv Er S OO σ t Fd m := fun H D w s P => h H D w (hs _ s) P
/-! changes of what is ours -/
theorem chgW {C D C' : List Cell} {H : Hp} {k : Nat} {p : Addr} {o : HO} (w : W (D :: OO) H) (hk : OO[k]? = some C) (hp : p ∈ C.map (·.1)) (hC : (C'.map (·.1)).Perm ((C ++ D).map (·.1))) (ht : ∀ c ∈ C', upd H p o c.1 = some c.2) (hm : ∀ c ∈ C', mutK c.2 = true) :
    W (OO.set k C') (upd H p o) ∧ hid (upd H p o) (OO.set k C') = hid H (D :: OO) := by
  have hlt : k < OO.length := by
    rcases Nat.lt_or_ge k OO.length with h | h
    · exact h
    · rw [List.getElem?_eq_none h] at hk; cases hk
  have h1 := set_flat hk
  have h2 := set_flat (OO := OO.set k C') (k := k) (C := C') (by simp [hlt])
  rw [set_set] at h2
  have h3 : (OO.set k C').flatten.Perm (C' ++ (OO.set k []).flatten) := by simpa using h2.symm
  have h4 : (D :: OO).flatten.Perm (D ++ (C ++ (OO.set k []).flatten)) := by
    rw [List.flatten_cons]; exact (by simpa using h1.symm : OO.flatten.Perm (C ++ (OO.set k []).flatten)).append_left D
  have hfl : (fl (OO.set k C')).Perm (fl (D :: OO)) := by
    unfold fl
    refine (h3.map _).trans (List.Perm.trans ?_ (h4.map _).symm)
    simp only [List.map_append]
    refine (hC.append_right _).trans ?_
    simp only [List.map_append]
    rw [← List.append_assoc]
    exact List.perm_append_comm.append_right _
  have nd := w.nd
  refine ⟨⟨fun c hc => ?_, hfl.nodup_iff.mpr nd, fun c hc => ?_⟩, ?_⟩
  · rcases List.mem_append.mp (h3.mem_iff.mp hc) with hc | hc
    · exact ht c hc
    · have hne : c.1 ≠ p := fun e => by
        have nd2 : ((D ++ (C ++ (OO.set k []).flatten)).map (·.1)).Nodup := (h4.map _).nodup_iff.mp nd
        simp only [List.map_append] at nd2
        have nd3 := (List.nodup_append.mp nd2).2.1
        exact (List.nodup_append.mp nd3).2.2 p hp c.1 (List.mem_map.mpr ⟨c, hc, rfl⟩) e.symm
      rw [upd_ne hne]
      exact w.tr c (h4.mem_iff.mpr (by simp [hc]))
  · rcases List.mem_append.mp (h3.mem_iff.mp hc) with hc | hc
    · exact hm c hc
    · exact w.mu c (h4.mem_iff.mpr (by simp [hc]))
  · funext b
    unfold hid
    by_cases hb : b ∈ fl (D :: OO)
    · rw [if_pos hb, if_pos (hfl.mem_iff.mpr hb)]
    · rw [if_neg hb, if_neg fun z => hb (hfl.mem_iff.mp z)]
      refine upd_ne fun e => hb ?_
      rw [e]
      obtain ⟨c, hc, rfl⟩ := List.mem_map.mp hp
      exact fl_mem (h4.mem_iff.mpr (by simp [hc]))
theorem flat_snoc {Cs : List (List Cell)} {D : List Cell} : (Cs ++ [D]).flatten = Cs.flatten ++ D := by simp
/-- xs.append(e) -/
theorem sv_app {ta : TE} {o : OE α} [MonoO o] {m : Res α} {f : List α → Res β} {v : V} {as : List α} {C : List Cell} (i k : Nat) (hσ : σ[i]? = some (some v)) (hk : OO[k]? = some C) (hk' : OO'[k]? = some C) (h : ∀ x, S.p x → oL o K x v as C) (he : Ev K Er S OO OO' σ ta o m)
    (hr : ∀ a C', Sv Er (S.addO K (oL o) v (as ++ [a]) C') (OO'.set k C') σ u Fd (f (as ++ [a]))) : Sv Er S OO σ (tSeq (tDrop (tBM K "list" rAppend (tVar i) (tCons ta tNil))) u) Fd (m.bind fun a => chk (as.length < sizeLine) (f (as ++ [a]))) := fun H D w s P => by
  obtain ⟨p, xs, Cs, e, q, c⟩ := h _ s
  subst c
  have hH : H p = some (.lst xs) := w.tr (p, .lst xs) (List.mem_flatten.mpr ⟨_, List.mem_of_getElem? hk, List.mem_cons_self⟩)
  refine ⟨v, hσ, by rw [e]; exact .inl ⟨rfl, _, SqL.of hH⟩, he.st w s P fun a y D' H' w' s' ho P' => ?_⟩
  obtain ⟨p', xs', Cs', e2, q2, c2⟩ := h _ s'
  rw [e] at e2; cases e2
  have c3 : (p, HO.lst xs) = (p, HO.lst xs') ∧ Cs.flatten = Cs'.flatten := by
    injection c2 with h1 h2
    exact ⟨h1, h2⟩
  obtain ⟨c3, c4⟩ := c3
  cases c3
  have hH' : H' p = some (.lst xs) := w'.tr (p, .lst xs) (by rw [List.flatten_cons]; exact List.mem_append_right _ (List.mem_flatten.mpr ⟨_, List.mem_of_getElem? hk', List.mem_cons_self⟩))
  cases hlt : decide (as.length < sizeLine) with
  | false => rw [chk, if_neg (by simpa using hlt)] at P'; exact P'.elim
  | true =>
    have hlt' : as.length < sizeLine := by simpa using hlt
    rw [chk_ok hlt'] at P'
    have wnd := w'.nd
    have hcell : ∀ c ∈ (p, HO.lst (xs ++ [y])) :: (Cs' ++ [D']).flatten, upd H' p (.lst (xs ++ [y])) c.1 = some c.2 := fun c hc => by
      rcases List.mem_cons.mp hc with rfl | hc
      · exact upd_same
      · have hp1 := set_flat hk'
        have w3 : W [D' ++ (((p, HO.lst xs) :: Cs.flatten) ++ (OO'.set k []).flatten)] H' := w'.of (by
          simp only [List.flatten_cons, List.flatten_nil, List.append_nil]
          exact (by simpa using hp1 : (((p, HO.lst xs) :: Cs.flatten) ++ (OO'.set k []).flatten).Perm OO'.flatten).append_left D')
        have hin : c ∈ D' ++ (((p, HO.lst xs) :: Cs.flatten) ++ (OO'.set k []).flatten) := by
          rw [flat_snoc, List.mem_append] at hc
          rcases hc with hc | hc
          · rw [← c4] at hc; simp [hc]
          · simp [hc]
        have hne : c.1 ≠ p := fun ee => by
          have nd3 := w3.nd
          rw [flat_snoc, List.mem_append, ← c4] at hc
          simp only [fl, List.flatten_cons, List.flatten_nil, List.append_nil, List.map_append, List.cons_append, List.map_cons] at nd3
          rw [List.nodup_append] at nd3
          obtain ⟨_, n2, n3⟩ := nd3
          rcases hc with hc | hc
          · exact (List.nodup_cons.mp n2).1 (List.mem_append_left _ (List.mem_map.mpr ⟨c, hc, ee⟩))
          · exact n3 c.1 (List.mem_map.mpr ⟨c, hc, rfl⟩) p List.mem_cons_self ee
        rw [upd_ne hne]
        exact w3.tr c (by simpa using hin)
    obtain ⟨w4, h4⟩ := chgW (C' := (p, .lst (xs ++ [y])) :: (Cs' ++ [D']).flatten) w' hk' List.mem_cons_self (by simp [flat_snoc, c4]) hcell (fun c hc => by
      rcases List.mem_cons.mp hc with rfl | hc
      · rfl
      · rw [flat_snoc, List.mem_append, ← c4] at hc
        rcases hc with hc | hc
        · exact w'.mu c (by rw [List.flatten_cons]; exact List.mem_append_right _ (List.mem_flatten.mpr ⟨_, List.mem_of_getElem? hk', List.mem_cons_of_mem _ hc⟩))
        · exact w'.mu c (by rw [List.flatten_cons]; exact List.mem_append_left _ hc))
    refine ⟨p, xs, y, e, rfl, hH', by rw [(P3.len q).1]; exact hlt', ?_⟩
    refine hr a _ _ D w4 ?_ (by rw [h4]; exact P')
    rw [h4]
    exact ⟨s', ⟨p, xs ++ [y], Cs' ++ [D'], e, q2.snoc ho, rfl⟩⟩
end
end L2

/-! ### mirrors: loops, comprehensions, items changed -/
namespace L2
open PySem PySem.Spec PyProof.Rows
section
variable {K : PySem.W.Frag} {Er : Exc → Hp → Prop} {S : SC} {OO OO' OO2 : List (List Cell)} {σ : St} {α β γ ρ ι δ ε : Type}
variable {Fd : Ends → β → Hp → Prop} [fd : FdOk Fd] {u : TS}
def forN : List α → γ → (γ → α → Res γ) → Res γ
  | [], g, _ => .ok g
  | a :: as, g, f => (f g a).bind fun g' => forN as g' f
def forC : List α → γ → (γ → α → Res (Ctl ρ γ)) → Res (Ctl ρ γ)
  | [], g, _ => .ok (.nx g)
  | a :: as, g, f => (f g a).bind fun c => match c with
    | .ret r => .ok (.ret r)
    | .nx g' => forC as g' f
theorem bind_assoc {m : Res α} {f : α → Res β} {g : β → Res γ} : (m.bind f).bind g = m.bind fun a => (f a).bind g := by cases m <;> rfl
/-- a target: how a yielded thing is laid into the names -/
structure Tgt (K : PySem.W.Frag) (OO : List (List Cell)) (g : TG) (r : Enc α) (κ : Type) where
  set : κ → St → St
  sc : α → κ → SC → SC
  ok : ∀ {H : Hp} {v : V} {a : α} {σ : St} {S : SC} {Q : St → Hp → Prop}, r K (hid H OO) v a → S.p (hid H OO) → (∀ x, (sc a x S).p (hid H OO) → Q (set x σ) H) → g v σ H Q
def tg1 {r : Enc α} [MonoE r] (i : Nat) : Tgt K OO (gName i) r V where
  set := fun v σ => σ.set i (some v)
  sc := fun a v S => S.add K r v a
  ok := fun {H v a σ S Q} hr hs hq => hq v ⟨hs, hr⟩
/-- what is walked: the items as, one by one; the heap may grow by things of no one's -/
structure Walk (K : PySem.W.Frag) (Er : Exc → Hp → Prop) (S : SC) (OO : List (List Cell)) (σ : St) (wi : TI) (r : Enc α) (m : Res (List α)) : Prop where
  ok : ∀ {H : Hp} {R : It → Hp → Prop}, W OO H → S.p (hid H OO) → PZ Er (fun as H => ∀ J H', Same H H' →
      (∀ (i : Nat) a, as[i]? = some a → ∀ OO2 H2, W OO2 H2 → Same (hid H' OO) (hid H2 OO2) → J.go i H2 ∧ ∀ x H3, J.yld i H2 x H3 → Same H2 H3 ∧ r K (hid H3 OO2) x a) →
      (∀ OO2 H2, W OO2 H2 → Same (hid H' OO) (hid H2 OO2) → J.stop as.length H2) → R J H') H m → wi σ H R
theorem walk_list {te : TE} {r : Enc α} [z : MonoE r] {m : Res (List α)} (he : EvS K Er S OO σ te (rV r) m) : Walk K Er S OO σ (iList K te) r m := ⟨fun {H R} w s P => by
  refine he H _ w s (P.imp fun as _ h v H' s' ⟨p, xs, e, hp, pr⟩ => ⟨p, e, ⟨xs, SqL.of (hid_same _ _ hp)⟩, h _ H' s' ?_ ?_⟩)
  · intro i a ha OO2 H2 w2 m2
    obtain ⟨x, hx, rx⟩ := Paired.getR pr ha
    have hq : SqL K H2 p xs := SqL.of (hid_same _ _ (m2 _ _ hp))
    refine ⟨⟨xs, x, hq, hx⟩, fun y H3 ⟨e3, hy⟩ => ?_⟩
    subst e3
    refine ⟨Same.refl _, ?_⟩
    have := hy xs hq
    rw [hx] at this
    cases this
    exact z.mono m2 rx
  · intro OO2 H2 w2 m2
    exact ⟨xs, SqL.of (hid_same _ _ (m2 _ _ hp)), by rw [Paired.len pr]; exact Nat.le_refl _⟩⟩
theorem rangeI_get {lo hi : Int} {i : Nat} {a : Int} (h : (rangeI lo hi)[i]? = some a) : a = lo + i ∧ i < (hi - lo).toNat := by
  unfold rangeI at h
  rw [List.getElem?_map] at h
  rcases Nat.lt_or_ge i (hi - lo).toNat with q | q
  · rw [List.getElem?_range q] at h; exact ⟨(Option.some.inj h).symm, q⟩
  · rw [List.getElem?_eq_none (by simpa using q)] at h; cases h
theorem rangeI_len {lo hi : Int} : (rangeI lo hi).length = (hi - lo).toNat := by simp [rangeI]
def rngR (lo hi : Int) : Res (List Int) := chk (-(2 ^ 62) ≤ lo ∧ lo < 2 ^ 62 ∧ -(2 ^ 62) ≤ hi ∧ hi < 2 ^ 62) (.ok (rangeI lo hi))
theorem walk_range1 {te : TE} {m : Res Int} (he : EvB K Er S OO σ te rInt m) : Walk K Er S OO σ (iRng1 (tCons te tNil)) rInt (m.bind fun n => rngR 0 n) := ⟨fun {H R} w s P =>
  he.run w s (fun as H H' s' h J H2 s2 => h J H2 (s'.trans s2)) P fun n v H1 s1 w1 q1 r1 P1 => by
    obtain ⟨c, hc, P2⟩ := P1.okOf fun x => chk_ne
    obtain ⟨⟨_, _, h1, h2⟩, h3⟩ := chk_inv hc
    cases h3
    refine ⟨n, by rw [show v = .int n from r1], h1, h2, P2 _ H1 (Same.refl _) (fun i a ha OO2 H2 w2 m2 => ?_) fun OO2 H2 w2 m2 => ?_⟩
    · obtain ⟨e1, e2⟩ := rangeI_get ha
      rw [Int.sub_zero] at e2
      refine ⟨e2, fun x H3 ⟨e3, e4⟩ => ?_⟩
      subst e3
      exact ⟨Same.refl _, by rw [e4, e1]; rfl⟩
    · show n.toNat ≤ _
      rw [rangeI_len, Int.sub_zero]; exact Nat.le_refl _⟩
/-- for, a body that goes on -/
theorem sv_for {wi : TI} {g : TG} {tb : TS} {r : Enc α} {κ : Type} {m : Res (List α)} {body : γ → α → Res γ} {f : γ → Res β} (J : Jn γ ι) (T : ∀ OO, Tgt K OO g r κ) (x0 : ι) (g0 : γ) (he : Walk K Er S OO σ wi r m) (h1 : OO = J.oo x0) (h2 : σ = J.ss x0) (h3 : ∀ h, S.p h → (J.sc g0 x0).p h)
    (hb : ∀ g x a v, Sv Er ((T (J.oo x)).sc a v (J.sc g x)) (J.oo x) ((T (J.oo x)).set v (J.ss x)) tb (FNd J) (body g a))
    (hr : ∀ g x, Sv Er (J.sc g x) (J.oo x) (J.ss x) u Fd (f g)) : Sv Er S OO σ (tSeq (tFor wi g tb) u) Fd (m.bind fun as => (forN as g0 body).bind f) := fun H D w s P => by
  refine he.ok w s ?_
  cases em : m with
  | bad => rw [em] at P; exact P
  | err x => rw [em] at P; exact fun H' s' => P H' (hid_same.trans s')
  | ok as =>
    rw [em] at P
    have P : PZ Er (Fd D) (hid H OO) ((forN as g0 body).bind f) := P
    intro It H' s' hgo hstop
    refine ⟨fun i mm σ' H2 => mm = as.length - i ∧ i ≤ as.length ∧ ∃ x gg, σ' = J.ss x ∧ W (J.oo x) H2 ∧ Same (hid H' OO) (hid H2 (J.oo x)) ∧ (J.sc gg x).p (hid H2 (J.oo x)) ∧ PZ Er (Fd D) (hid H2 (J.oo x)) ((forN (as.drop i) gg body).bind f), ⟨as.length, rfl, Nat.zero_le _, x0, g0, h2, ?_, ?_, ?_, ?_⟩, ?_⟩
    · rw [← h1]; exact w.keep s'
    · rw [← h1]; exact Same.refl _
    · rw [← h1]; exact h3 _ (S.mono _ _ (hid_mono s') s)
    · rw [← h1, List.drop_zero]; exact PZ.tr (fd.tr D) (hid_mono s') P
    · rintro i mm σ' H2 ⟨rfl, hi, x, gg, rfl, w2, m2, sc2, P2⟩
      by_cases hlt : i < as.length
      · right
        have ha : as[i]? = some as[i] := by simp [hlt]
        obtain ⟨h4, h5⟩ := hgo i _ ha (J.oo x) H2 w2 m2
        refine ⟨h4, fun σ3 H3 => ∃ x gg, σ3 = J.ss x ∧ W (J.oo x) H3 ∧ Same (hid H' OO) (hid H3 (J.oo x)) ∧ (J.sc gg x).p (hid H3 (J.oo x)) ∧ PZ Er (Fd D) (hid H3 (J.oo x)) ((forN (as.drop (i + 1)) gg body).bind f), fun σ3 H3 q => ⟨as.length - (i + 1), Nat.sub_lt_sub_left hlt (Nat.lt_succ_self i), rfl, hlt, q⟩, fun y H3 hy => ?_⟩
        obtain ⟨s3, r3⟩ := h5 y H3 hy
        have w3 := w2.keep s3
        have m3 := hid_mono (OO := J.oo x) s3
        refine (T (J.oo x)).ok r3 ((J.sc gg x).mono _ _ m3 sc2) fun v hv => hb gg x as[i] v H3 _ w3 hv ?_
        rw [List.drop_eq_getElem_cons hlt] at P2
        have P3 : PZ Er (Fd D) (hid H2 (J.oo x)) ((body gg as[i]).bind fun g' => (forN (as.drop (i + 1)) g' body).bind f) := by rw [← bind_assoc]; exact P2
        cases eb : body gg as[i] with
        | bad => rw [eb] at P3; exact P3
        | err x => rw [eb] at P3; exact fun H4 s4 => P3 H4 (m3.trans s4)
        | ok g' =>
          rw [eb] at P3
          exact fun x' H4 w4 m4 sc4 => ⟨x', g', rfl, w4, m2.trans (m3.trans m4), sc4, PZ.tr (fd.tr D) (m3.trans m4) P3⟩
      · left
        have e : i = as.length := Nat.le_antisymm hi (Nat.not_lt.mp hlt)
        subst e
        refine ⟨hstop (J.oo x) H2 w2 m2, hr gg x H2 D w2 sc2 ?_⟩
        rw [List.drop_length] at P2
        exact P2
theorem sv_forC {o : OE ρ} {wi : TI} {g : TG} {tb : TS} {r : Enc α} {κ : Type} {m : Res (List α)} {body : γ → α → Res (Ctl ρ γ)} {f : γ → Res ρ} (J : Jn γ ι) (T : ∀ OO, Tgt K OO g r κ) (x0 : ι) (g0 : γ) (he : Walk K Er S OO σ wi r m) (h1 : OO = J.oo x0) (h2 : σ = J.ss x0) (h3 : ∀ h, S.p h → (J.sc g0 x0).p h)
    (hb : ∀ g x a v, Sv Er ((T (J.oo x)).sc a v (J.sc g x)) (J.oo x) ((T (J.oo x)).set v (J.ss x)) tb (FCd K o J) (body g a))
    (hr : ∀ g x, Sv Er (J.sc g x) (J.oo x) (J.ss x) u (FTd K o) (f g)) : Sv Er S OO σ (tSeq (tFor wi g tb) u) (FTd K o) (m.bind fun as => (forC as g0 body).bind (retOr f)) := fun H D w s P => by
  refine he.ok w s ?_
  cases em : m with
  | bad => rw [em] at P; exact P
  | err x => rw [em] at P; exact fun H' s' => P H' (hid_same.trans s')
  | ok as =>
    rw [em] at P
    have P : PZ Er (FTd K o D) (hid H OO) ((forC as g0 body).bind (retOr f)) := P
    intro It H' s' hgo hstop
    refine ⟨fun i mm σ' H2 => mm = as.length - i ∧ i ≤ as.length ∧ ∃ x gg, σ' = J.ss x ∧ W (J.oo x) H2 ∧ Same (hid H' OO) (hid H2 (J.oo x)) ∧ (J.sc gg x).p (hid H2 (J.oo x)) ∧ PZ Er (FTd K o D) (hid H2 (J.oo x)) ((forC (as.drop i) gg body).bind (retOr f)), ⟨as.length, rfl, Nat.zero_le _, x0, g0, h2, ?_, ?_, ?_, ?_⟩, ?_⟩
    · rw [← h1]; exact w.keep s'
    · rw [← h1]; exact Same.refl _
    · rw [← h1]; exact h3 _ (S.mono _ _ (hid_mono s') s)
    · rw [← h1, List.drop_zero]; exact PZ.tr (FdOk.tr D) (hid_mono s') P
    · rintro i mm σ' H2 ⟨rfl, hi, x, gg, rfl, w2, m2, sc2, P2⟩
      by_cases hlt : i < as.length
      · right
        have ha : as[i]? = some as[i] := by simp [hlt]
        obtain ⟨h4, h5⟩ := hgo i _ ha (J.oo x) H2 w2 m2
        refine ⟨h4, fun σ3 H3 => ∃ x gg, σ3 = J.ss x ∧ W (J.oo x) H3 ∧ Same (hid H' OO) (hid H3 (J.oo x)) ∧ (J.sc gg x).p (hid H3 (J.oo x)) ∧ PZ Er (FTd K o D) (hid H3 (J.oo x)) ((forC (as.drop (i + 1)) gg body).bind (retOr f)), fun σ3 H3 q => ⟨as.length - (i + 1), Nat.sub_lt_sub_left hlt (Nat.lt_succ_self i), rfl, hlt, q⟩, fun y H3 hy => ?_⟩
        obtain ⟨s3, r3⟩ := h5 y H3 hy
        have w3 := w2.keep s3
        have m3 := hid_mono (OO := J.oo x) s3
        refine (T (J.oo x)).ok r3 ((J.sc gg x).mono _ _ m3 sc2) fun v hv => hb gg x as[i] v H3 _ w3 hv ?_
        rw [List.drop_eq_getElem_cons hlt] at P2
        have P3 : PZ Er (FTd K o D) (hid H2 (J.oo x)) ((body gg as[i]).bind fun c => (match c with
          | .ret r => Res.ok (Ctl.ret r)
          | .nx g' => forC (as.drop (i + 1)) g' body).bind (retOr f)) := by rw [← bind_assoc]; exact P2
        cases eb : body gg as[i] with
        | bad => rw [eb] at P3; exact P3
        | err x => rw [eb] at P3; exact fun H4 s4 => P3 H4 (m3.trans s4)
        | ok c =>
          rw [eb] at P3
          cases c with
          | ret r => exact FdOk.tr (Fd := FTd K o) D r _ _ m3 P3
          | nx g' => exact fun x' H4 w4 m4 sc4 => ⟨x', g', rfl, w4, m2.trans (m3.trans m4), sc4, PZ.tr (FdOk.tr D) (m3.trans m4) P3⟩
      · left
        have e : i = as.length := Nat.le_antisymm hi (Nat.not_lt.mp hlt)
        subst e
        refine ⟨hstop (J.oo x) H2 w2 m2, hr gg x H2 D w2 sc2 ?_⟩
        rw [List.drop_length] at P2
        exact P2
/-! comprehensions -/
def mapR (as : List α) (f : α → Res β) : Res (List β) := match as with
  | [] => .ok []
  | a :: as => (f a).bind fun b => (mapR as f).bind fun bs => .ok (b :: bs)
def mapC (as : List α) (f : α → Res β) : Res (List β) := chk (as.length ≤ sizeLine) (mapR as f)
theorem PZ.chk {F : β → Hp → Prop} {H : Hp} {c : Prop} [Decidable c] {m : Res β} (P : PZ Er F H (chk c m)) : c ∧ PZ Er F H m := by
  unfold L2.chk at P; split at P
  · exact ⟨by assumption, P⟩
  · exact P.elim
/-- the new list at the end -/
theorem newLO {o : OE α} [z : MonoO o] {xs : List V} {as : List α} {Cs : List (List Cell)} {H H0 : Hp} {Q : VK} (w : W (Cs.flatten :: OO) H) (m0 : Same (hid H0 OO) (hid H (Cs.flatten :: OO))) (s0 : Same H0 H) (pr : P3 (o K (hid H (Cs.flatten :: OO))) xs as Cs) (P : FO K OO OO (oL o) Q as H0) : ∀ p, H p = none → Q (.ref p) (upd H p (.lst xs)) := fun p hp => by
  have hn := hid_new (OO := Cs.flatten :: OO) hp (o := .lst xs)
  have wn := w.new hp (o := .lst xs) rfl
  have pe : (((p, HO.lst xs) :: Cs.flatten) :: OO).flatten.Perm ([(p, HO.lst xs)] :: Cs.flatten :: OO).flatten := by simp
  refine P (.ref p) ((p, .lst xs) :: Cs.flatten) _ (s0.trans (same_new hp _)) (wn.of pe) ?_ ?_
  · rw [hid_perm pe]; exact m0.trans hn
  · rw [hid_perm pe]
    exact ⟨p, xs, Cs, rfl, pr.imp fun _ _ _ h => z.mono hn h, rfl⟩
theorem ev_comp {o : OE β} [z : MonoO o] {wi : TI} {g : TG} {te : TE} {r : Enc α} {κ : Type} {m : Res (List α)} {f : α → Res β} {n : Nat} {caps : List (Nat × Str)} (T : ∀ OO, Tgt K OO g r κ) (he : Walk K Er S OO σ wi r m)
    (hb : ∀ C a v, Ev K Er ((T (C :: OO)).sc a v S) (C :: OO) (C :: OO) ((T (C :: OO)).set v (compSt n caps σ)) te o (f a)) : Ev K Er S OO OO σ (tComp n caps wi g tTests0 te) (oL o) (m.bind fun as => mapC as f) := fun H Q w s P => by
  refine he.ok w s ?_
  cases em : m with
  | bad => rw [em] at P; exact P
  | err x => rw [em] at P; exact P
  | ok as =>
    rw [em] at P
    obtain ⟨hsz, P⟩ := PZ.chk (show PZ Er _ H (chk (as.length ≤ sizeLine) (mapR as f)) from P)
    intro It H' s' hgo hstop
    -- what is left: the rest of the items, then all
    refine ⟨fun i mm ys H2 => mm = as.length - i ∧ i ≤ as.length ∧ ∃ bs Cs, Same H H2 ∧ W (Cs.flatten :: OO) H2 ∧ Same (hid H' OO) (hid H2 (Cs.flatten :: OO)) ∧ P3 (o K (hid H2 (Cs.flatten :: OO))) ys bs Cs ∧ bs.length = i ∧ PZ Er (FO K OO OO (oL o) Q) H ((mapR (as.drop i) f).bind fun rest => .ok (bs ++ rest)),
      ⟨as.length, rfl, Nat.zero_le _, [], [], s', (w.keep s').nil, by show Same _ (hid H' ([] :: OO)); rw [hid_nil]; exact Same.refl _, .nil, rfl, ?_⟩, ?_⟩
    · rw [List.drop_zero]
      revert P
      cases mapR as f <;> exact fun z => z
    · rintro i mm ys H2 ⟨rfl, hi, bs, Cs, s2, w2, m2, pr, hlen, P2⟩
      refine ⟨by rw [pr.len.1, hlen]; omega, ?_⟩
      by_cases hlt : i < as.length
      · right
        have ha : as[i]? = some as[i] := by simp [hlt]
        obtain ⟨h4, h5⟩ := hgo i _ ha (Cs.flatten :: OO) H2 w2 m2
        refine ⟨h4, fun ys' H3 => ∃ bs Cs, Same H H3 ∧ W (Cs.flatten :: OO) H3 ∧ Same (hid H' OO) (hid H3 (Cs.flatten :: OO)) ∧ P3 (o K (hid H3 (Cs.flatten :: OO))) ys' bs Cs ∧ bs.length = i + 1 ∧ PZ Er (FO K OO OO (oL o) Q) H ((mapR (as.drop (i + 1)) f).bind fun rest => .ok (bs ++ rest)), fun ys' H3 q => ⟨as.length - (i + 1), Nat.sub_lt_sub_left hlt (Nat.lt_succ_self i), rfl, hlt, q⟩, fun y H3 hy => ?_⟩
        obtain ⟨s3, r3⟩ := h5 y H3 hy
        have w3 := w2.keep s3
        have m3 := hid_mono (OO := Cs.flatten :: OO) s3
        have sS : S.p (hid H3 (Cs.flatten :: OO)) := S.mono _ _ ((hid_mono s').trans (m2.trans m3)) s
        refine (T (Cs.flatten :: OO)).ok r3 sS fun v hv => ?_
        show tTests0 _ _ _
        refine tests0 ?_
        rw [List.drop_eq_getElem_cons hlt] at P2
        have P3' : PZ Er (FO K OO OO (oL o) Q) H ((f as[i]).bind fun b => (mapR (as.drop (i + 1)) f).bind fun rest => .ok (bs ++ b :: rest)) := by
          have : ((f as[i]).bind fun b => (mapR (as.drop (i + 1)) f).bind fun rest => Res.ok (bs ++ b :: rest)) = (mapR (as[i] :: as.drop (i + 1)) f).bind fun rest => .ok (bs ++ rest) := by
            show _ = ((f as[i]).bind fun b => (mapR (as.drop (i + 1)) f).bind fun bs => Res.ok (b :: bs)).bind _
            rw [bind_assoc]; congr 1; funext b; rw [bind_assoc]; rfl
          rw [this]; exact P2
        refine hb Cs.flatten as[i] v H3 _ w3 hv ?_
        cases eb : f as[i] with
        | bad => rw [eb] at P3'; exact P3'
        | err x => rw [eb] at P3'; exact fun H4 s4 => P3' H4 (s2.trans (s3.trans s4))
        | ok b =>
          rw [eb] at P3'
          intro v' C' H4 s4 w4 m4 ho
          have pe : ((Cs ++ [C']).flatten :: OO).flatten.Perm (C' :: Cs.flatten :: OO).flatten := by
            simp only [flat_snoc, List.flatten_cons]
            rw [List.append_assoc, ← List.append_assoc, ← List.append_assoc]
            exact List.perm_append_comm.append_right _
          refine ⟨bs ++ [b], Cs ++ [C'], s2.trans (s3.trans s4), w4.of pe, ?_, ?_, by simp [hlen], ?_⟩
          · rw [hid_perm pe]; exact m2.trans (m3.trans m4)
          · rw [hid_perm pe]; exact P3.snoc (pr.imp fun _ _ _ h => z.mono (m3.trans m4) h) ho
          · have P4 : PZ Er (FO K OO OO (oL o) Q) H ((mapR (as.drop (i + 1)) f).bind fun rest => .ok (bs ++ b :: rest)) := P3'
            simpa using P4
      · left
        have e : i = as.length := Nat.le_antisymm hi (Nat.not_lt.mp hlt)
        subst e
        refine ⟨hstop (Cs.flatten :: OO) H2 w2 m2, ?_⟩
        rw [List.drop_length] at P2
        have P3' : FO K OO OO (oL o) Q (bs ++ []) H := P2
        rw [List.append_nil] at P3'
        exact newLO (H0 := H) w2 ((hid_mono s').trans m2) s2 pr P3'
/-! xs[i] = e -/
def setR (as : List α) (i : Int) (a : α) : Res (List α) := match ixN as.length i with
  | some j => .ok (as.set j a)
  | none => .bad
end
end L2

/-! ### mirrors: items changed, taken out; several names at once; built-ins -/
namespace L2
open PySem PySem.Spec PyProof.Rows
section
variable {K : PySem.W.Frag} {Er : Exc → Hp → Prop} {S : SC} {OO OO' OO2 : List (List Cell)} {σ : St} {α β γ ρ ι δ ε : Type}
variable {Fd : Ends → β → Hp → Prop} [fd : FdOk Fd] {u : TS}
theorem chgW' {C D C' : List Cell} {H : Hp} {k : Nat} {p : Addr} {o : HO} (w : W (D :: OO) H) (hk : OO[k]? = some C) (hp : p ∈ C.map (·.1)) (hp' : p ∈ C'.map (·.1)) (hnd : (C'.map (·.1)).Nodup) (hin : ∀ b ∈ C'.map (·.1), b ∈ (C ++ D).map (·.1)) (ht : ∀ c ∈ C', upd H p o c.1 = some c.2) (hm : ∀ c ∈ C', mutK c.2 = true) :
    W (OO.set k C') (upd H p o) ∧ Same (hid H (D :: OO)) (hid (upd H p o) (OO.set k C')) := by
  have hlt : k < OO.length := by
    rcases Nat.lt_or_ge k OO.length with h | h
    · exact h
    · rw [List.getElem?_eq_none h] at hk; cases hk
  have h1 := set_flat hk
  have h2 := set_flat (OO := OO.set k C') (k := k) (C := C') (by simp [hlt])
  rw [set_set] at h2
  have h3 : (OO.set k C').flatten.Perm (C' ++ (OO.set k []).flatten) := by simpa using h2.symm
  have h4 : (D :: OO).flatten.Perm ((C ++ D) ++ (OO.set k []).flatten) := by
    rw [List.flatten_cons]
    refine ((by simpa using h1.symm : OO.flatten.Perm (C ++ (OO.set k []).flatten)).append_left D).trans ?_
    rw [← List.append_assoc]
    exact List.perm_append_comm.append_right _
  have nd2 : (((C ++ D) ++ (OO.set k []).flatten).map (·.1)).Nodup := (h4.map _).nodup_iff.mp w.nd
  rw [List.map_append] at nd2
  obtain ⟨n1, n2, n3⟩ := List.nodup_append.mp nd2
  refine ⟨⟨fun c hc => ?_, ?_, fun c hc => ?_⟩, fun b v q => ?_⟩
  · rcases List.mem_append.mp (h3.mem_iff.mp hc) with hc | hc
    · exact ht c hc
    · have hne : c.1 ≠ p := fun e => n3 p (hin p hp') c.1 (List.mem_map.mpr ⟨c, hc, rfl⟩) e.symm
      rw [upd_ne hne]
      exact w.tr c (h4.mem_iff.mpr (by simp [hc]))
  · refine ((h3.map _).nodup_iff).mpr ?_
    rw [List.map_append]
    exact List.nodup_append.mpr ⟨hnd, n2, fun a ha b hb => n3 a (hin a ha) b hb⟩
  · rcases List.mem_append.mp (h3.mem_iff.mp hc) with hc | hc
    · exact hm c hc
    · exact w.mu c (h4.mem_iff.mpr (by simp [hc]))
  · obtain ⟨q1, q2⟩ := hid_some q
    have hbp : b ≠ p := fun e => q2 (by
      rw [e]
      obtain ⟨c, hc, rfl⟩ := List.mem_map.mp hp
      exact fl_mem (h4.mem_iff.mpr (by simp [hc])))
    refine hid_of (by rw [upd_ne hbp]; exact q1) fun z => q2 ?_
    obtain ⟨o', ho'⟩ := fl_ex z
    rcases List.mem_append.mp (h3.mem_iff.mp ho') with hc | hc
    · obtain ⟨c, hc2, e⟩ := List.mem_map.mp (hin b (List.mem_map.mpr ⟨_, hc, rfl⟩))
      rw [← e]
      exact fl_mem (h4.mem_iff.mpr (List.mem_append_left _ hc2))
    · exact fl_mem (c := (b, o')) (h4.mem_iff.mpr (by simp [hc]))
/-- the list at p gets other items; the cells of the items are old ones -/
theorem updL {D : List Cell} {Cs Cs' : List (List Cell)} {H : Hp} {k : Nat} {p : Addr} {xs xs' : List V} (w : W (D :: OO) H) (hk : OO[k]? = some ((p, .lst xs) :: Cs.flatten)) (hin : ∀ c ∈ Cs'.flatten, c ∈ Cs.flatten ++ D) (hnd : (Cs'.flatten.map (·.1)).Nodup) :
    W (OO.set k ((p, .lst xs') :: Cs'.flatten)) (upd H p (.lst xs')) ∧ Same (hid H (D :: OO)) (hid (upd H p (.lst xs')) (OO.set k ((p, .lst xs') :: Cs'.flatten))) := by
  have h1 := set_flat hk
  have w3 : W [((p, HO.lst xs) :: (Cs.flatten ++ D)) ++ (OO.set k []).flatten] H := w.of (by
    simp only [List.flatten_cons, List.flatten_nil, List.append_nil]
    refine List.Perm.trans ?_ ((by simpa using h1 : (((p, HO.lst xs) :: Cs.flatten) ++ (OO.set k []).flatten).Perm OO.flatten).append_left D)
    rw [← List.append_assoc]
    refine List.Perm.append_right _ ?_
    exact (List.perm_append_comm (l₁ := (p, HO.lst xs) :: Cs.flatten) (l₂ := D)))
  have nd := w3.nd
  simp only [fl, List.flatten_cons, List.flatten_nil, List.append_nil, List.map_append, List.cons_append, List.map_cons] at nd
  have hne : ∀ c ∈ Cs'.flatten, c.1 ≠ p := fun c hc e => by
    refine (List.nodup_cons.mp nd).1 ?_
    rw [← e]
    refine List.mem_append_left _ ?_
    rw [← List.map_append]
    exact List.mem_map.mpr ⟨c, hin c hc, rfl⟩
  refine chgW' w hk List.mem_cons_self List.mem_cons_self ?_ ?_ ?_ ?_
  · rw [List.map_cons, List.nodup_cons]
    refine ⟨fun z => ?_, hnd⟩
    obtain ⟨c, hc, e⟩ := List.mem_map.mp z
    exact hne c hc e
  · intro b hb
    rcases List.mem_cons.mp hb with rfl | hb
    · exact List.mem_cons_self
    · obtain ⟨c, hc, rfl⟩ := List.mem_map.mp hb
      rw [List.cons_append, List.map_cons]
      exact List.mem_cons_of_mem _ (List.mem_map.mpr ⟨c, hin c hc, rfl⟩)
  · intro c hc
    rcases List.mem_cons.mp hc with rfl | hc
    · exact upd_same
    · rw [upd_ne (hne c hc)]
      exact w3.tr c (by
        rw [List.flatten_cons, List.flatten_nil, List.append_nil]
        exact List.mem_append_left _ (List.mem_cons_of_mem _ (hin c hc)))
  · intro c hc
    rcases List.mem_cons.mp hc with rfl | hc
    · rfl
    · exact w3.mu c (by
        rw [List.flatten_cons, List.flatten_nil, List.append_nil]
        exact List.mem_append_left _ (List.mem_cons_of_mem _ (hin c hc)))
/-- two readings of one of our names have the same cells -/
theorem oL_cell {o : OE α} {h : Hp} {p : Addr} {xs : List V} {as : List α} {R : List Cell} (q : oL o K h (.ref p) as ((p, .lst xs) :: R)) : ∃ Cs, P3 (o K h) xs as Cs ∧ R = Cs.flatten := by
  obtain ⟨p', xs', Cs, e, q, c⟩ := q
  injection c with c1 c2
  injection c1 with c3 c4
  injection c4 with c5
  subst c5
  exact ⟨Cs, q, c2⟩
theorem setR_ok {as : List α} {i : Int} {a : α} {bs : List α} (h : setR as i a = .ok bs) : ∃ j, ixN as.length i = some j ∧ bs = as.set j a := by
  unfold setR at h; split at h
  · cases h; exact ⟨_, by assumption, rfl⟩
  · cases h
theorem setR_ne {as : List α} {i : Int} {a : α} {x : Exc} : setR as i a ≠ .err x := by unfold setR; split <;> exact fun z => nomatch z
theorem nodup_of_perm_app {l r m : List Cell} (h : (l ++ r).Perm m) (n : (m.map (·.1)).Nodup) : (l.map (·.1)).Nodup := by
  have : ((l ++ r).map (·.1)).Nodup := (h.map _).nodup_iff.mpr n
  rw [List.map_append] at this
  exact (List.nodup_append.mp this).1
theorem set_perm {Cs : List (List Cell)} {j : Nat} {D : List Cell} (hj : j < Cs.length) : ((Cs.set j D).flatten ++ Cs[j]).Perm (Cs.flatten ++ D) := by
  have h1 := set_flat (OO := Cs) (k := j) (C := Cs[j]) (by simp [hj])
  have h2 := set_flat (OO := Cs.set j D) (k := j) (C := D) (by simp [hj])
  rw [set_set] at h2
  have h3 : (Cs.set j D).flatten.Perm (D ++ (Cs.set j []).flatten) := by simpa using h2.symm
  have h4 : Cs.flatten.Perm (Cs[j] ++ (Cs.set j []).flatten) := by simpa using h1.symm
  refine (h3.append_right _).trans (List.Perm.trans ?_ (h4.append_right _).symm)
  refine List.perm_append_comm.trans ((List.perm_append_comm.append_left _).trans ?_)
  rw [List.append_assoc]
theorem cells_nodup {D : List Cell} {Cs : List (List Cell)} {H : Hp} {k : Nat} {p : Addr} {xs : List V} (w : W (D :: OO) H) (hk : OO[k]? = some ((p, .lst xs) :: Cs.flatten)) : ((Cs.flatten ++ D).map (·.1)).Nodup := by
  have h1 := set_flat hk
  have w3 : W [((p, HO.lst xs) :: (Cs.flatten ++ D)) ++ (OO.set k []).flatten] H := w.of (by
    simp only [List.flatten_cons, List.flatten_nil, List.append_nil]
    refine List.Perm.trans ?_ ((by simpa using h1 : (((p, HO.lst xs) :: Cs.flatten) ++ (OO.set k []).flatten).Perm OO.flatten).append_left D)
    rw [← List.append_assoc]
    refine List.Perm.append_right _ ?_
    exact (List.perm_append_comm (l₁ := (p, HO.lst xs) :: Cs.flatten) (l₂ := D)))
  have nd := w3.nd
  simp only [fl, List.flatten_cons, List.flatten_nil, List.append_nil, List.cons_append, List.map_cons] at nd
  have n2 := (List.nodup_cons.mp nd).2
  rw [List.map_append] at n2
  exact (List.nodup_append.mp n2).1
/-- xs[i] = e -/
theorem sv_setix {ta ti : TE} {o : OE α} [MonoO o] {m : Res α} {mi : Res Int} {f : List α → Res β} {v : V} {as : List α} {C : List Cell} (i k : Nat) (hσ : σ[i]? = some (some v)) (hk' : OO'[k]? = some C) (h : ∀ x, S.p x → oL o K x v as C) (he : Ev K Er S OO OO' σ ta o m)
    (hi : ∀ D, EvB K Er S (D :: OO') σ ti rInt mi)
    (hr : ∀ bs C', Sv Er (S.addO K (oL o) v bs C') (OO'.set k C') σ u Fd (f bs)) : Sv Er S OO σ (tSeq (tAsg ta (gSub (tVar i) ti rSetL)) u) Fd (m.bind fun a => mi.bind fun j => (setR as j a).bind f) := fun H D w s P =>
  he.st w s P fun a y D' H' w' s' ho P' => ⟨v, hσ, (hi D').st w' s' P' fun j z H2 s2 w2 q2 r2 P2 => by
    obtain ⟨p, xs, Cs, e, q, c⟩ := h _ q2
    subst c
    have hH : H2 p = some (.lst xs) := w2.tr (p, .lst xs) (by rw [List.flatten_cons]; exact List.mem_append_right _ (List.mem_flatten.mpr ⟨_, List.mem_of_getElem? hk', List.mem_cons_self⟩))
    cases es : setR as j a with
    | bad => rw [es] at P2; exact P2.elim
    | err x => exact absurd es setR_ne
    | ok bs =>
      rw [es] at P2
      obtain ⟨jj, h1, rfl⟩ := setR_ok es
      have hjl : jj < as.length := by
        unfold ixN at h1
        split at h1
        · split at h1
          · cases h1; omega
          · cases h1
        · split at h1
          · cases h1; omega
          · cases h1
      have hjC : jj < Cs.length := by rw [q.len.2]; exact hjl
      have hp := set_perm (Cs := Cs) (j := jj) (D := D') hjC
      obtain ⟨w3, m3⟩ := updL (xs' := xs.set jj y) (Cs' := Cs.set jj D') w2 hk' (fun c hc => hp.mem_iff.mp (List.mem_append_left _ hc)) (nodup_of_perm_app hp (cells_nodup w2 hk'))
      refine ⟨p, xs, j, jj, e, r2, hH, by rw [q.len.1]; exact h1, hr _ _ _ D w3 ⟨S.mono _ _ m3 q2, ⟨p, _, _, e, P3.imp (fun _ _ _ z => MonoO.mono m3 z) (P3.set (MonoO.mono (hid_mono s2) ho) jj q), rfl⟩⟩ (PZ.tr (fd.tr D) m3 P2)⟩⟩
/-- xs.extend(ys): what ys holds is given away -/
theorem sv_ext {ta : TE} {o : OE α} [MonoO o] {m : Res (List α)} {f : List α → Res β} {v : V} {as : List α} {C : List Cell} (i k : Nat) (hσ : σ[i]? = some (some v)) (hk : OO[k]? = some C) (hk' : OO'[k]? = some C) (h : ∀ x, S.p x → oL o K x v as C) (he : Ev K Er S OO OO' σ ta (oL o) m)
    (hr : ∀ bs C', Sv Er (S.addO K (oL o) v (as ++ bs) C') (OO'.set k C') σ u Fd (f (as ++ bs))) : Sv Er S OO σ (tSeq (tDrop (tBM K "list" rExtend (tVar i) (tCons ta tNil))) u) Fd (m.bind fun bs => chk (as.length + bs.length ≤ sizeLine) (f (as ++ bs))) := fun H D w s P => by
  obtain ⟨p, xs, Cs, e, q, c⟩ := h _ s
  subst c
  have hH : H p = some (.lst xs) := w.tr (p, .lst xs) (List.mem_flatten.mpr ⟨_, List.mem_of_getElem? hk, List.mem_cons_self⟩)
  refine ⟨v, hσ, by rw [e]; exact .inl ⟨rfl, _, SqL.of hH⟩, he.st w s P fun bs y D' H' w' s' ho P' => ?_⟩
  obtain ⟨hsz, P'⟩ := PZ.chk P'
  subst e
  obtain ⟨Cs2, q2, c2⟩ := oL_cell (h _ s')
  obtain ⟨p', zs, Ds, e3, q3, c3⟩ := ho
  subst c3
  have hH' : H' p = some (.lst xs) := w'.tr (p, .lst xs) (by rw [List.flatten_cons]; exact List.mem_append_right _ (List.mem_flatten.mpr ⟨_, List.mem_of_getElem? hk', List.mem_cons_self⟩))
  have hH2 : H' p' = some (.lst zs) := w'.tr (p', .lst zs) (by rw [List.flatten_cons]; exact List.mem_append_left _ List.mem_cons_self)
  have cn := cells_nodup w' hk'
  obtain ⟨w3, m3⟩ := updL (xs' := xs ++ zs) (Cs' := Cs2 ++ Ds) w' hk' (fun c hc => by
      rw [List.flatten_append, List.mem_append] at hc
      rcases hc with hc | hc
      · rw [c2]; exact List.mem_append_left _ hc
      · exact List.mem_append_right _ (List.mem_cons_of_mem _ hc)) (by
      rw [List.flatten_append, ← c2]
      refine List.Nodup.sublist (List.Sublist.map _ ?_) cn
      exact List.Sublist.append (List.Sublist.refl _) (List.sublist_cons_self _ _))
  refine ⟨p, p', xs, zs, rfl, by rw [e3], hH', hH2, by rw [q2.len.1, q3.len.1]; exact hsz, ?_⟩
  exact hr bs _ _ D w3 ⟨S.mono _ _ m3 s', ⟨p, _, _, rfl, P3.imp (fun _ _ _ z => MonoO.mono m3 z) (q2.app q3), rfl⟩⟩ (PZ.tr (fd.tr D) m3 P')
/-! built-ins -/
/-- isinstance of things whose kind is known -/
class TyE {α : Type} (r : Enc α) (n : outParam String) : Prop where
  ty : ∀ {K : PySem.W.Frag} {H : Hp} {v : V} {a : α}, r K H v a → TyOf K H v (.type n)
instance : TyE rInt "int" := ⟨fun {K H v a} h => by cases (show v = .int a from h); exact .int a⟩
instance : TyE rBool "bool" := ⟨fun {K H v a} h => by cases (show v = .bl a from h); exact .bl a⟩
instance : TyE rStr "str" := ⟨fun {K H v a} h => by cases (show v = .str a from h); exact .str a⟩
instance {r : Enc α} : TyE (rV r) "list" := ⟨fun ⟨p, xs, e, q, _⟩ => by subst e; exact .lst q⟩
instance {r : Enc α} : TyE (rPL r) "tuple" := ⟨fun ⟨p, xs, e, q, _⟩ => by subst e; exact .tup q⟩
instance {r : Enc α} {q : Enc γ} : TyE (rP2 r q) "tuple" := ⟨fun ⟨p, x, y, e, q, _⟩ => by subst e; exact .tup q⟩
instance {r : Enc α} {q : Enc γ} {t : Enc δ} : TyE (rP3 r q t) "tuple" := ⟨fun ⟨p, x, y, z, e, q, _⟩ => by subst e; exact .tup q⟩
theorem evb_isinst {te : TE} {r : Enc α} {n : String} [z : TyE r n] {m : Res α} (t : String) (b : Bool) (hk : PySem.W.kitOne K (.type n) (.type t) = some b) (he : EvB K Er S OO σ te r m) :
    EvB K Er S OO σ (tCB (fun xs H Q => ∃ x n t b, xs = [x, .ty n] ∧ TyOf K H x t ∧ PySem.W.kitOne K t (.type n) = some b ∧ Q (.bl b) H) (tCons te (tCons (tC (.ty t)) tNil))) rBool (m.bind fun _ => .ok b) := fun H Q w s P =>
  he.run w s FB.tr P fun a x H1 s1 w1 q1 r1 P1 => ⟨x, t, .type n, b, rfl, z.ty r1, hk, P1 _ H1 (Same.refl _) rfl⟩
end
end L2

/-! ### mirrors: the def as a whole, and more -/
namespace L2
open PySem PySem.Spec PyProof.Rows
section
variable {K : PySem.W.Frag} {Er : Exc → Hp → Prop} {S : SC} {OO OO' OO1 OO2 : List (List Cell)} {σ : St} {α β γ ρ ι δ ε : Type}
variable {Fd : Ends → β → Hp → Prop} [fd : FdOk Fd] {u : TS}
theorem nilsW (n : Nat) (H : Hp) : W (List.replicate n []) H := ⟨fun c hc => (by rw [flat_nils] at hc; cases hc), (by unfold fl; rw [flat_nils]; exact List.nodup_nil), fun c hc => (by rw [flat_nils] at hc; cases hc)⟩
theorem nilsH (n : Nat) (H : Hp) : hid H (List.replicate n []) = H := by funext b; unfold hid fl; rw [flat_nils]; simp
theorem retEnd {o : OE ρ} [z : MonoO o] {Q : VK} {b : ρ} {H : Hp} (q : FF K o Q b H) : ∀ v C OO' H', W (C :: OO') H' → Same H (hid H' (C :: OO')) → o K (hid H' (C :: OO')) v b C → Q v H' := fun v C OO' H' w m ho => by
  have hs : Same (hid H' (C :: OO')) (hid H' [C]) := hid_sub (Same.refl _) fun b hb => by
    rw [fl_cons]
    refine List.mem_append_left _ ?_
    simpa [fl] using hb
  exact q v C H' (w.sub (by simp)) (m.trans hs) (z.mono hs ho)
theorem top_T {o : OE ρ} [MonoO o] {t : TS} {m : Res ρ} {Q : VK} {b : ρ} {H : Hp} {D : Ends} (n : Nat) (h : Sv (fun _ _ => False) S (List.replicate n []) σ t (FTd K o) m) (hs : S.p H) (hm : m = .ok b) (q : FF K o Q b H) (hD : D.rt = Q) : t D σ H := by
  refine h H D (nilsW n H) (by rw [nilsH]; exact hs) ?_
  subst hm
  rw [nilsH]
  intro v C OO' H' w mm ho
  rw [hD]
  exact retEnd q v C OO' H' w mm ho
/-- nothing is given back -/
def oU : OE Unit := fun _ _ v _ C => v = .non ∧ C = []
instance : MonoO oU := ⟨fun _ h => h⟩
instance : FlatO oU := ⟨fun _ h => h⟩
def rU0 : Enc Unit := fun _ _ v _ => v = .non
instance : FlatE rU0 := ⟨fun _ h => h⟩
instance : FrzC oU rU0 := ⟨fun h _ _ => h.1⟩
/-! displays of things that are ours -/
/-! in -/
/-! the first place of an item -/
/-! None -/
/-! a op b op c -/
/-! == of tracked lists and tuples -/
theorem eqo_imp {α : Type} [DecidableEq α] {r r' : Enc α} {d : Nat} (E : EqOk r d) (h : ∀ {K : PySem.W.Frag} {H : Hp} {v : V} {a : α}, r' K H v a → r K H v a) (m : MonoE r') : EqOk r' d where
  uniq := fun I h1 h2 => E.uniq I (h h1) (h h2)
  eq := fun I rx ry h1 h2 hu => E.eq I rx ry (h h1) (h h2) hu
  rc := fun I rx ry h1 h2 hu => E.rc I rx ry (h h1) (h h2) hu
  ne := fun I rx ry h1 h2 hu => E.ne I rx ry (h h1) (h h2) hu
  keep := fun s q => m.mono s q
theorem eq_V {α : Type} [DecidableEq α] {r : Enc α} {d : Nat} [m : MonoE r] (E : EqOk r d) : EqOk (rV r) (d + 1) := eqo_imp (eq_list E) (fun ⟨a, xs, e, q, p⟩ => ⟨a, xs, e, SqL.of q, p⟩) inferInstance
theorem eq_PL {α : Type} [DecidableEq α] {r : Enc α} {d : Nat} [m : MonoE r] (E : EqOk r d) : EqOk (rPL r) (d + 1) := eqo_imp (eq_tupL E) (fun ⟨a, xs, e, q, p⟩ => ⟨a, xs, e, SqT.of q, p⟩) inferInstance
end
end L2

/-! ### mirrors: more -/
namespace L2
open PySem PySem.Spec PyProof.Rows
section
variable {K : PySem.W.Frag} {Er : Exc → Hp → Prop} {S : SC} {OO OO' OO1 OO2 : List (List Cell)} {σ : St} {α β γ ρ ι δ ε : Type}
variable {Fd : Ends → β → Hp → Prop} [fd : FdOk Fd] {u : TS}
/-! items of items changed -/
theorem kit_same (K : PySem.W.Frag) (T : String) : PySem.W.kitOne K (.type T) (.type T) = some true := by
  unfold PySem.W.kitOne
  rw [if_pos (beq_self_eq_true _)]
theorem kit_int_bool (K : PySem.W.Frag) : PySem.W.kitOne K (.type "int") (.type "bool") = some false := by
  first
    | rfl
    | decide +kernel
    | (unfold PySem.W.kitOne PySem.W.kitCls; rfl)
end
end L2

/-! ### mirrors: more built-ins -/
namespace L2
open PySem PySem.Spec PyProof.Rows
section
variable {K : PySem.W.Frag} {Er : Exc → Hp → Prop} {S : SC} {OO OO' OO1 OO2 : List (List Cell)} {σ : St} {α β γ ρ ι δ ε : Type}
variable {Fd : Ends → β → Hp → Prop} [fd : FdOk Fd] {u : TS}
end
end L2

/-! ### mirrors: tuples of four and five, dicts of ints, max -/
namespace L2
open PySem PySem.Spec PyProof.Rows
section
variable {K : PySem.W.Frag} {Er : Exc → Hp → Prop} {S : SC} {OO OO' OO1 OO2 : List (List Cell)} {σ : St} {α β γ ρ ι δ ε : Type}
variable {α1 α2 α3 α4 α5 : Type}
def rP4 (r1 : Enc α1) (r2 : Enc α2) (r3 : Enc α3) (r4 : Enc α4) : Enc (α1 × α2 × α3 × α4) := fun K H v p => ∃ a x1 x2 x3 x4, v = .ref a ∧ H a = some (.tup [x1, x2, x3, x4]) ∧ r1 K H x1 p.1 ∧ r2 K H x2 p.2.1 ∧ r3 K H x3 p.2.2.1 ∧ r4 K H x4 p.2.2.2
instance {r1 : Enc α1} {r2 : Enc α2} {r3 : Enc α3} {r4 : Enc α4} [m1 : MonoE r1] [m2 : MonoE r2] [m3 : MonoE r3] [m4 : MonoE r4] : MonoE (rP4 r1 r2 r3 r4) := ⟨fun s ⟨a, x1, x2, x3, x4, e, h, p1, p2, p3, p4⟩ => ⟨a, x1, x2, x3, x4, e, s _ _ h, m1.mono s p1, m2.mono s p2, m3.mono s p3, m4.mono s p4⟩⟩
instance {r1 : Enc α1} {r2 : Enc α2} {r3 : Enc α3} {r4 : Enc α4} [m1 : FlatE r1] [m2 : FlatE r2] [m3 : FlatE r3] [m4 : FlatE r4] : FlatE (rP4 r1 r2 r3 r4) := ⟨fun s ⟨a, x1, x2, x3, x4, e, h, p1, p2, p3, p4⟩ => ⟨a, x1, x2, x3, x4, e, s _ _ h rfl, m1.flat s p1, m2.flat s p2, m3.flat s p3, m4.flat s p4⟩⟩
instance {r1 : Enc α1} {r2 : Enc α2} {r3 : Enc α3} {r4 : Enc α4} : TyE (rP4 r1 r2 r3 r4) "tuple" := ⟨fun ⟨p, x1, x2, x3, x4, e, q, _⟩ => by subst e; exact .tup q⟩
def rP5 (r1 : Enc α1) (r2 : Enc α2) (r3 : Enc α3) (r4 : Enc α4) (r5 : Enc α5) : Enc (α1 × α2 × α3 × α4 × α5) := fun K H v p => ∃ a x1 x2 x3 x4 x5, v = .ref a ∧ H a = some (.tup [x1, x2, x3, x4, x5]) ∧ r1 K H x1 p.1 ∧ r2 K H x2 p.2.1 ∧ r3 K H x3 p.2.2.1 ∧ r4 K H x4 p.2.2.2.1 ∧ r5 K H x5 p.2.2.2.2
instance {r1 : Enc α1} {r2 : Enc α2} {r3 : Enc α3} {r4 : Enc α4} {r5 : Enc α5} [m1 : MonoE r1] [m2 : MonoE r2] [m3 : MonoE r3] [m4 : MonoE r4] [m5 : MonoE r5] : MonoE (rP5 r1 r2 r3 r4 r5) := ⟨fun s ⟨a, x1, x2, x3, x4, x5, e, h, p1, p2, p3, p4, p5⟩ => ⟨a, x1, x2, x3, x4, x5, e, s _ _ h, m1.mono s p1, m2.mono s p2, m3.mono s p3, m4.mono s p4, m5.mono s p5⟩⟩
instance {r1 : Enc α1} {r2 : Enc α2} {r3 : Enc α3} {r4 : Enc α4} {r5 : Enc α5} [m1 : FlatE r1] [m2 : FlatE r2] [m3 : FlatE r3] [m4 : FlatE r4] [m5 : FlatE r5] : FlatE (rP5 r1 r2 r3 r4 r5) := ⟨fun s ⟨a, x1, x2, x3, x4, x5, e, h, p1, p2, p3, p4, p5⟩ => ⟨a, x1, x2, x3, x4, x5, e, s _ _ h rfl, m1.flat s p1, m2.flat s p2, m3.flat s p3, m4.flat s p4, m5.flat s p5⟩⟩
instance {r1 : Enc α1} {r2 : Enc α2} {r3 : Enc α3} {r4 : Enc α4} {r5 : Enc α5} : TyE (rP5 r1 r2 r3 r4 r5) "tuple" := ⟨fun ⟨p, x1, x2, x3, x4, x5, e, q, _⟩ => by subst e; exact .tup q⟩
/-! max, min -/
/-! dicts with ints as keys -/
def rDP {α : Type} (r : Enc α) (K : PySem.W.Frag) (H : Hp) (kv : Key × V) (kx : Int × α) : Prop := kv.1 = .inl kx.1 ∧ r K H kv.2 kx.2
def rD {α : Type} (r : Enc α) : Enc (List (Int × α)) := fun K H v d => ∃ p kvs, v = .ref p ∧ H p = some (.dK kvs) ∧ Paired (rDP r K H) kvs d
def oD {α : Type} (r : Enc α) : OE (List (Int × α)) := fun K h v d C => ∃ p kvs, v = .ref p ∧ Paired (rDP r K h) kvs d ∧ C = [(p, .dK kvs)]
instance {r : Enc α} [m : MonoE r] : MonoE (rD r) := ⟨fun s ⟨p, kvs, e, q, pr⟩ => ⟨p, kvs, e, s _ _ q, Paired.imp2 (fun _ _ z => ⟨z.1, m.mono s z.2⟩) pr⟩⟩
instance {r : Enc α} [m : MonoE r] : MonoO (oD r) := ⟨fun s ⟨p, kvs, e, pr, c⟩ => ⟨p, kvs, e, Paired.imp2 (fun _ _ z => ⟨z.1, m.mono s z.2⟩) pr, c⟩⟩
instance {r : Enc α} [m : FlatE r] : FlatO (oD r) := ⟨fun s ⟨p, kvs, e, pr, c⟩ => ⟨p, kvs, e, Paired.imp2 (fun _ _ z => ⟨z.1, m.flat s z.2⟩) pr, c⟩⟩
instance {r : Enc α} [m : MonoE r] : FrzC (oD r) (rD r) := ⟨fun ⟨p, kvs, e, pr, c⟩ s hc => ⟨p, kvs, e, hc (p, .dK kvs) (by rw [c]; simp), Paired.imp2 (fun _ _ z => ⟨z.1, m.mono s z.2⟩) pr⟩⟩
variable {Fd : Ends → β → Hp → Prop} [fd : FdOk Fd] {u : TS}
/-! an item of what is ours, the rest let go -/
end
end L2

/-! ### errors: in flight, leaving a frame, passed on -/
namespace L2
open PySem PySem.Spec PyProof.Rows

theorem ObjOk.ex {P : Program} {w : World} {H : Hp} {h : Heap} {a : Addr} {o : HO} (x : ObjOk P w H h a o) : ∃ u, h.get? a = some u := by
  cases o with
  | lst xs => obtain ⟨_, _, _, _, e⟩ := x; exact ⟨_, e⟩
  | tup xs => obtain ⟨_, _, _, p⟩ := x; obtain ⟨o, e, _⟩ := p; exact ⟨_, e⟩
  | dK kvs => obtain ⟨_, _, _, _, o, _, _, e, _⟩ := x; exact ⟨_, e⟩
  | dT kvs => obtain ⟨_, _, _, _, o, _, _, e, _⟩ := x; exact ⟨_, e⟩
  | set S n => obtain ⟨o, _, _, _, e, _⟩ := x; exact ⟨_, e⟩
  | ins C dx fs => obtain ⟨_, _, _, e, _⟩ := x; exact ⟨_, e⟩
  | own y => exact x
  | xd fs => obtain ⟨_, ⟨_, _, _, e, _⟩, _⟩ := x; exact ⟨_, e⟩
  | rng lo hi => obtain ⟨_, _, _, e⟩ := x; exact ⟨_, e⟩
  | frz ob u => exact ⟨_, x.1⟩
  | tbl ps => exact ⟨_, x⟩
  | met f y => exact ⟨_, x⟩
  | ext φ => exact x.2.1
theorem HOk.un0 {P : Program} {w : World} {H : Hp} {h : Heap} {a : Addr} (x : HOk P w H h) (e : h.get? a = none) : H a = none := by
  cases q : H a with
  | none => rfl
  | some u => obtain ⟨v, hv⟩ := (x a u q).ex; rw [e] at hv; cases hv

/-- an error in flight: its object at a, its trace at T, both made since h0 -/
structure Fl (h0 h : Heap) (H : Hp) (a T : Addr) (cls : Value) : Prop where
  na : h0.get? a = none
  nT : h0.get? T = none
  fa : H a = none
  fT : H T = none
  ne : T ≠ a
  obj : ∃ oe vs oT ts a0, h.get? a = some oe ∧ oe.cls = cls ∧ vs[0]? = some a0 ∧ oe.data = .fields vs ∧ vs[1]? = some (.ref T) ∧ h.get? T = some oT ∧ oT.data = .fields ts ∧ ts[3]? = some Value.none

def hidF (h : Heap) (fs : List Addr) (a T : Addr) : Heap := hidT h (fun b => if b ∈ fs ∨ b = a ∨ b = T then some (.own 0) else none)
theorem hidF_get {h : Heap} {fs : List Addr} {a T b : Addr} {o : Obj} (e : h.get? b = some o) (n1 : b ∉ fs) (n2 : b ≠ a) (n3 : b ≠ T) : (hidF h fs a T).get? b = some o :=
  hidT_get e (if_neg fun z => z.elim n1 fun z => z.elim n2 n3)
theorem of_hidF {h : Heap} {fs : List Addr} {a T b : Addr} {o : Obj} (e : (hidF h fs a T).get? b = some o) : h.get? b = some o ∧ b ∉ fs ∧ b ≠ a ∧ b ≠ T := by
  obtain ⟨h1, h2⟩ := of_hidT e
  have h3 : ¬ (b ∈ fs ∨ b = a ∨ b = T) := fun z => by
    have := (if_pos z).symm.trans h2
    cases this
  exact ⟨h1, fun q => h3 (.inl q), fun q => h3 (.inr (.inl q)), fun q => h3 (.inr (.inr q))⟩
theorem hidF_none {h : Heap} {fs : List Addr} {a T b : Addr} (n : b ∈ fs ∨ b = a ∨ b = T) : (hidF h fs a T).get? b = none := by
  cases q : (hidF h fs a T).get? b with
  | none => rfl
  | some o =>
    obtain ⟨_, h1, h2, h3⟩ := of_hidF q
    exact (n.elim h1 fun z => z.elim h2 h3).elim
theorem ff_base {h base B : Heap} : ∀ {l : List Env}, h.FunFrames base l → (∀ b ∈ frs l, B.get? b = none) → h.FunFrames B l
  | [], _, _ => trivial
  | env :: r, ⟨hk, ⟨L, o, hf, hn, ho, hd⟩, hr⟩, n =>
    ⟨hk, ⟨L, o, hf, n L (by unfold frs; rw [List.filterMap_cons, hf]; exact List.mem_cons_self), ho, hd⟩, ff_base hr fun b hb => n b (by unfold frs; rw [List.filterMap_cons, hf]; exact List.mem_cons_of_mem _ hb)⟩

section
variable {P : Program} {w : World} {h0 h h' base : Heap} {H : Hp} {a T : Addr} {cls a0 : Value} {l : List Env}
theorem Fl.fly (x : Fl h0 h H a T cls) (hl : h.FunFrames base l) : ∃ a0, Heap.FlyingW (hidF h (frs l) a T) l a cls a0 h := by
  obtain ⟨oe, vs, oT, ts, a0, ha, hc, h0', hd, h1, hT, hdT, h3⟩ := x.obj
  exact ⟨a0, fun b o e => (of_hidF e).1, hidF_none (.inr (.inl rfl)), ff_base hl fun b hb => hidF_none (.inl hb), oe, vs, T, oT, ts, ha, ⟨hc, h0'⟩, hd, h1, hidF_none (.inr (.inr rfl)), x.ne, hT, hdT, h3⟩
/-- what a trace entry changes: the error, its trace, the frames' slots -/
theorem Un.traced (hl : h.FunFrames base l) (keep : ∀ b o, b ∉ frs l → b ≠ a → b ≠ T → h.get? b = some o → h'.get? b = some o) (up : h.UpToSlots h') : Un (frs l) [a, T] H H h h' where
  keep := fun b o e _ hb hx => keep b o hb (fun z => hx (by simp [z])) (fun z => hx (by simp [z])) e
  slot := fun b o e _ hb _ => by
    obtain ⟨_, o2, ho2, hd2⟩ := hl.mem hb
    rw [e] at ho2; cases ho2
    exact up b o e hd2
  free := fun b o e n _ => n
  there := fun b o e hx => by
    by_cases hb : b ∈ frs l
    · obtain ⟨_, o2, ho2, hd2⟩ := hl.mem hb
      obtain ⟨sl, q⟩ := up b o2 ho2 hd2
      exact ⟨_, q⟩
    · exact ⟨o, keep b o hb (fun z => hx (by simp [z])) (fun z => hx (by simp [z])) e⟩
  tups := fun _ _ q => q
  frzs := fun _ _ _ q => q
  tbls := fun _ ps q => ⟨#[], by simpa using q⟩
theorem HOk.traced (hok : HOk P w H h) (hfn : ∀ b ∈ frs l, H b = none) (fa : H a = none) (fT : H T = none) (keep : ∀ b o, b ∉ frs l → b ≠ a → b ≠ T → h.get? b = some o → h'.get? b = some o) : HOk P w H h' := fun b o e => by
  refine (hok b o e).stay (fun c u hc q => ?_) (fun _ q => q) fun _ _ q => q
  have hn : H c ≠ none := by
    rcases hc with z | z
    · rw [z, e]; exact fun y => nomatch y
    · rw [z]; exact fun y => nomatch y
  exact keep c u (fun z => hn (hfn c z)) (fun z => hn (z ▸ fa)) (fun z => hn (z ▸ fT)) q
theorem Fl.after (x : Fl h0 h H a T cls) (hl : h.FunFrames base l) (hfn : ∀ b ∈ frs l, H b = none) (hok : HOk P w H h) (th : ∀ b o, h0.get? b = some o → ∃ o', h.get? b = some o')
    (st : (hidF h (frs l) a T).StaysIn h') (tr : h'.TracedW (hidF h (frs l) a T) a cls a0) (up : h.UpToSlots h') : ∃ T', Fl h0 h' H a T' cls ∧ HOk P w H h' ∧ Un (frs l) [a, T] H H h h' := by
  obtain ⟨oe, vs, T', oT, ts, ha, ⟨hc, h0'⟩, hd, h1, hnT, hne, hT, hdT, h3⟩ := tr
  have key : T' = T ∨ h.get? T' = none := by
    cases q : h.get? T' with
    | none => exact .inr rfl
    | some o =>
      by_cases hf : T' ∈ frs l
      · obtain ⟨_, o2, ho2, hd2⟩ := hl.mem hf
        obtain ⟨sl, e2⟩ := up T' o2 ho2 hd2
        rw [hT] at e2; cases e2
        exact absurd hdT (hd2 ts)
      · by_cases hz : T' = T
        · exact .inl hz
        · rw [hidF_get q hf hne hz] at hnT; cases hnT
  have keep : ∀ b o, b ∉ frs l → b ≠ a → b ≠ T → h.get? b = some o → h'.get? b = some o := fun b o n1 n2 n3 e => st b o (hidF_get e n1 n2 n3)
  refine ⟨T', ⟨x.na, ?_, x.fa, ?_, hne, oe, vs, oT, ts, a0, ha, hc, h0', hd, h1, hT, hdT, h3⟩, hok.traced hfn x.fa x.fT keep, Un.traced hl keep up⟩
  · rcases key with e | e
    · rw [e]; exact x.nT
    · cases q : h0.get? T' with
      | none => rfl
      | some o => obtain ⟨o', e'⟩ := th _ _ q; rw [e] at e'; cases e'
  · rcases key with e | e
    · rw [e]; exact x.fT
    · exact hok.un0 e
end

section
variable {fs fs2 ex ex2 : List Addr} {H0 H H' : Hp} {h0 h h' : Heap}
theorem Un.past (u : Un fs ex H0 H h0 h) (v : Un fs2 ex2 H H' h h') (n : ∀ b, b ∈ ex2 → h0.get? b = none) (f : ∀ b, b ∈ fs2 → b ∈ fs ∨ h0.get? b = none) : Un fs ex H0 H' h0 h' where
  keep := fun b o e m hb hx => v.keep b o (u.keep b o e m hb hx) (u.free b o e m hx) (fun z => (f b z).elim hb fun y => by rw [e] at y; cases y) fun z => by rw [n b z] at e; cases e
  slot := fun b o e m hb hx => by
    obtain ⟨sl, q⟩ := u.slot b o e m hb hx
    obtain ⟨sl2, q2⟩ := v.any q (u.free b o e m hx) (fun z => by rw [n b z] at e; cases e)
    exact ⟨sl2, q2⟩
  free := fun b o e m hx => by
    obtain ⟨o', q⟩ := u.there b o e hx
    exact v.free b o' q (u.free b o e m hx) (fun z => by rw [n b z] at e; cases e)
  there := fun b o e hx => by
    obtain ⟨o', q⟩ := u.there b o e hx
    exact v.there b o' q (fun z => by rw [n b z] at e; cases e)
  tups := fun b xs q => v.tups b xs (u.tups b xs q)
  frzs := fun b o x q => v.frzs b o x (u.frzs b o x q)
  tbls := fun b ps q => by
    obtain ⟨m1, e1⟩ := u.tbls b ps q
    obtain ⟨m2, e2⟩ := v.tbls b _ e1
    exact ⟨m1 ++ m2, by rw [e2, Array.append_assoc]⟩
end

/-- behind a call or a trace entry -/
theorem Inv.past {X : Cx} {pins : List (Addr × Obj)} {σ : St} {H H' : Hp} {s : Shared} {h' : Heap} {ch : List Addr} (I : Inv X pins σ H s) (u : Un (frs X.stack) ch H H' s.heap h') (hok : HOk X.prog X.w H' h')
    (hch : ∀ b ∈ ch, X.s₀.heap.get? b = none ∧ b ≠ X.env.locals ∧ (∀ x c, X.env.cells.lookup x = some c → c ≠ b) ∧ ∀ p ∈ X.pn ++ pins, p.1 ≠ b) : Inv X pins σ H' { s with heap := h' } := by
  have nL : X.s₀.heap.get? X.env.locals = none := Heap.get?_none_of_le I.ok.above
  obtain ⟨m, ⟨o, es, ep, ho, hd, hr⟩, hl⟩ := id I.loc
  have lch : X.env.locals ∉ ch := fun z => (hch _ z).2.1 rfl
  obtain ⟨sl, hL⟩ := u.any ho I.free lch
  have cl : ∀ x c v, X.env.cells.lookup x = some c → s.heap.IsCell c v → h'.IsCell c v := fun x c v e ⟨oc, e1, e2⟩ => by
    obtain ⟨sl, q⟩ := u.any e1 (I.freeC x c e) fun z => (hch c z).2.2.1 x c e rfl
    exact ⟨_, q, e2⟩
  refine ⟨I.ok, I.os, I.bare, I.base.past u (fun b hb => (hch b hb).1) fun b hb => ?_, ⟨m, ⟨_, es, ep, hL, hd, hr⟩, fun i x v e1 e2 e3 => ?_⟩, fun x c e => ?_, u.free _ o ho I.free lch, fun x c e => ?_, fun p hp => ?_, hok, I.len⟩
  · rcases List.mem_cons.mp (I.stkSub b hb) with z | z
    · exact .inr (z ▸ nL)
    · exact .inl z
  · obtain ⟨u', r, q⟩ := hl i x v e1 e2 e3
    refine ⟨u', r, ?_⟩
    rcases q with q | ⟨k, c, e, z⟩
    · exact .inl q
    · exact .inr ⟨k, c, e, cl x c _ e z⟩
  · obtain ⟨v, z⟩ := I.cell x c e
    exact ⟨v, cl x c v e z⟩
  · obtain ⟨v, oc, e1, _⟩ := I.cell x c e
    exact u.free c oc e1 (I.freeC x c e) fun z => (hch c z).2.2.1 x c e rfl
  · obtain ⟨e, n, ne, nf, d⟩ := I.pin p hp
    have nch : p.1 ∉ ch := fun z => (hch p.1 z).2.2.2 p hp rfl
    exact ⟨u.keep p.1 p.2 e n (fun z => (List.mem_cons.mp (I.stkSub _ z)).elim ne nf) nch, u.free p.1 p.2 e n nch, ne, nf, d⟩

section
variable {P : Program} {w : World} {K : PySem.W.Frag} {mg : Str → Option Value} {base : Heap} {N : List Str} {qual : Str} {scope : Scope} {f : Addr} {cd : Value} {A : Around} {outer : List Env} {s0 : Shared} {H0 : Hp} {E : XK}
end

section
variable {X : Cx} {k j : Nat} {x : Str} {ps : List Str} {sp : Sp} {e : Expr} {es : List Expr} {t : TA} {p pos : Pos} {E : XK}
end
/-! the class of an error -/
theorem exc_obj {K : PySem.W.Frag} {h : Heap} {C : Addr} {bmB : List Value} {newId : String} (X : K.In h) (q : PySem.W.excIn K C bmB newId = true) :
    ∃ bm N nm q bs hdct sn sub ab col dd k0 k1 k2 k3 k5 mN, h.get? C = some (excClassObj nm q C N bs bm hdct sn sub ab col dd k0 k1 k2 k3 k5 newId) ∧ h.Ns N mN ∧ mN "__init__" = none ∧ OwnTail h bmB bm := by
  unfold PySem.W.excIn at q
  split at q
  · rename_i dd cd sl ho
    split at q
    · rename_i C' bm k0 k1 k2 k3 n k5 hm hs
      simp only [Bool.and_eq_true, beq_iff_eq, Bool.not_eq_true'] at q
      obtain ⟨⟨⟨⟨⟨q1, q2⟩, q3⟩, q4⟩, q5⟩, q6⟩ := q
      subst q1 q2
      obtain ⟨nm, bs, mro, ns, qn, hd, sn, sub, ab, col, del⟩ := cd
      have e1 : mro = _ := hm
      have e2 : del = false := q3
      subst e1 e2
      obtain ⟨l⟩ := sl
      have e3 : l = _ := hs
      subst e3
      exact ⟨bm, ns, nm, qn, bs, hd, sn, sub, ab, col, dd, k0, k1, k2, k3, k5, _, X _ _ ho, .of_isNs (PySem.W.isNs_of_in X q5), PySem.W.nsMap_none_of_in X q5 q6, PySem.W.tail_of_in X q4⟩
    · cases q
  · cases q
abbrev vEr : List Value := [.type "ValueError", .type "Exception", .type "BaseException", .type "object"]
def tRaise (C : Addr) (E : XK) (t : TA) : TS := fun _ σ H => t σ H fun vs H1 => vs.length ≤ 9 ∧ E (.ref C) none H1
section
variable {X : Cx} {E : XK} {C : Addr} {x : Str} {e : Expr} {es : List Expr} {t : TA} {np cpos pos : Pos}
end
end L2

/-! ### f-strings whose text is not asked for; try, caught by one own class, with a name -/
namespace L2
open PySem PySem.Spec PyProof.Rows

abbrev TJ := St → Hp → (Hp → Prop) → Prop
section
variable {X : Cx} {e : Expr} {es : List Expr} {te : TE} {t : TJ} {n : Nat} {pos p : Pos}
end

/-! try -/
abbrev Cx.held (X : Cx) (a : Addr) (pn : List (Addr × Obj)) : Cx := { X with A := X.A.mark (some (.ref a)), calm := false, pn := pn, xe := fun _ _ => False }
theorem Cx.Ok.held {X : Cx} (ok : X.Ok) (a : Addr) (pn : List (Addr × Obj)) : (X.held a pn).Ok :=
  ⟨ok.mod, ok.kind, ok.glob, ok.blt, ok.above, ok.inj, ok.has, ok.cab, (fun z => nomatch z), ok.frames, ok.stk, ok.exf, ok.bs, ok.bsz, ok.noex, ok.exfs, ok.funs, ok.frf⟩
section
variable {X : Cx} {pins : List (Addr × Obj)} {σ : St} {H : Hp} {s : Shared} {h' : Heap}
end
section
variable {X : Cx} {body suite : List Stmt} {b₀ : Stmt} {cn n : Str} {Ch : Addr} {i : Nat} {tb : XK → TS} {ts : Addr → Addr → TS} {np hpos pos : Pos}
end
end L2

/-! ### mirrors: errors -/
namespace L2
open PySem PySem.Spec PyProof.Rows
section
variable {K : PySem.W.Frag} {Er : Exc → Hp → Prop} {S : SC} {OO OO' OO2 : List (List Cell)} {σ : St} {α β γ ρ ι : Type} {α1 α2 α3 α4 α5 α6 : Type} {mg : Str → Option Value} {E : XK}
structure PX {β : Type} (Er : Exc → Hp → Prop) (F : β → Hp → Prop) (H : Hp) (m : Res β) : Prop where
  z : PZ Er F H m
/-! what an error is told with: the text is not asked for -/
def FJ (Q : Hp → Prop) (_ : Unit) (H : Hp) : Prop := ∀ H', Same H H' → Q H'
theorem FJ.tr {Q : Hp → Prop} : ∀ (b : Unit) (H H' : Hp), Same H H' → FJ Q b H → FJ Q b H' := fun _ _ _ s h H2 s2 => h H2 (s.trans s2)
def EvX (Er : Exc → Hp → Prop) (S : SC) (OO : List (List Cell)) (σ : St) (t : TE) (m : Res Unit) : Prop := ∀ H (Q : VK), W OO H → S.p (hid H OO) → PZ Er (FJ fun H => ∀ v, Q v H) H m → t σ H Q
theorem evx_str {x : Str} : EvX Er S OO σ (tC (.str x)) (.ok ()) := fun H Q _ _ P => P H (Same.refl _) _
variable {Fd : Ends → β → Hp → Prop} [fd : FdOk Fd] {u : TS}
/-! the errors' classes -/
def isSub (n d : Str) : Bool := n == d || d == ("PlaitError" : Str)
def erA (K : PySem.W.Frag) (C : Addr) : Bool := PySem.W.findIn K (.ref C) "__getattribute__" == some (some (.builtin "BaseException.__getattribute__")) && PySem.W.findIn K (.ref C) "__getattr__" == some none && PySem.W.findIn K (.ref C) "__class__" == some (some (.builtin "object.__class__")) &&
  PySem.W.specialIn K (.builtin "object.__class__") "__get__" == some (some (.builtin "getset_descriptor.__get__")) && PySem.W.takesIn K (.builtin "object.__class__") == some true && PySem.W.mroIn K C (.type "object") == some true && (PySem.W.clsIn K C).isSome && PySem.W.mroIn K C (.type "BaseException") == some true
/-- made with no doing of its own -/
def plainEx (n : Str) : Bool := !(n == ("NotADrawing" : Str)) && !(n == ("NoChain" : Str))
def ecsOk (K : PySem.W.Frag) (cs : List (Str × Addr)) : Bool := cs.all fun p => (!(plainEx p.1) || PySem.W.excIn K p.2 vEr "ValueError.__new__") && erA K p.2 && PySem.W.kitOne K (.ref p.2) (.type "ValueError") == some true &&
  cs.all fun q => PySem.W.kitOne K (.ref p.2) (.ref q.2) == some (isSub p.1 q.1) && PySem.W.exmOne K (.ref p.2) (.ref q.2) == some (isSub p.1 q.1)
structure Ecs (ns : List Str) (K : PySem.W.Frag) (mg : Str → Option Value) : Prop where
  adr : ∀ n ∈ ns, ∃ C, mg n = some (.ref C) ∧ (plainEx n = true → PySem.W.excIn K C vEr "ValueError.__new__" = true)
  att : ∀ n ∈ ns, ∀ C, mg n = some (.ref C) → erA K C = true
  val : ∀ n ∈ ns, ∀ C, mg n = some (.ref C) → PySem.W.kitOne K (.ref C) (.type "ValueError") = some true
  kit : ∀ n ∈ ns, ∀ d ∈ ns, ∀ C D, mg n = some (.ref C) → mg d = some (.ref D) → PySem.W.kitOne K (.ref C) (.ref D) = some (isSub n d)
  exm : ∀ n ∈ ns, ∀ d ∈ ns, ∀ C D, mg n = some (.ref C) → mg d = some (.ref D) → PySem.W.exmOne K (.ref C) (.ref D) = some (isSub n d)
theorem ecs_of {cs : List (Str × Addr)} (h : ecsOk K cs = true) (hn : ∀ p ∈ cs, mg p.1 = some (.ref p.2)) : Ecs (cs.map (·.1)) K mg := by
  have key : ∀ n ∈ cs.map (·.1), ∀ C, mg n = some (.ref C) → (n, C) ∈ cs := fun n hm C hC => by
    obtain ⟨⟨n', C'⟩, hp, rfl⟩ := List.mem_map.mp hm
    have := hn _ hp
    rw [hC] at this
    cases this
    exact hp
  have hp : ∀ p ∈ cs, _ := List.all_eq_true.mp h
  simp only [Bool.and_eq_true, List.all_eq_true, beq_iff_eq, Bool.or_eq_true] at hp
  refine ⟨fun n hm => ?_, fun n hm C hC => (hp _ (key n hm C hC)).1.1.2, fun n hm C hC => (hp _ (key n hm C hC)).1.2, fun n hm d hd C D hC hD => ((hp _ (key n hm C hC)).2 _ (key d hd D hD)).1, fun n hm d hd C D hC hD => ((hp _ (key n hm C hC)).2 _ (key d hd D hD)).2⟩
  obtain ⟨⟨n', C'⟩, hq, rfl⟩ := List.mem_map.mp hm
  exact ⟨C', hn _ hq, fun e => (hp _ hq).1.1.1.resolve_left (by rw [e]; exact Bool.false_ne_true)⟩
def cau (ns : List Str) (n d : Str) : Bool := decide (n ∈ ns) && isSub n d
def Res.tryC (m : Res α) (f : α → Res β) (g : Exc → Res β) : Res β := match m with
  | .bad => .bad
  | .err x => g x
  | .ok a => f a
theorem chk_yes {c : Prop} [Decidable c] {m : Res β} {F : β → Hp → Prop} {H : Hp} (P : PZ Er F H (chk c m)) : c ∧ PZ Er F H m := by
  by_cases hc : c
  · rw [chk_ok hc] at P; exact ⟨hc, P⟩
  · unfold chk at P
    rw [if_neg hc] at P
    exact P.elim
section
variable {te : XK → TE} {m : Res α} {ts : Addr → Addr → TS} {N i : Nat} {Ch : Addr} {o : OE ρ} {g : Exc → Res ρ} {ns : List Str} {d : Str}
end
/-- isinstance(e, C) of the error that is held -/
def vOf : V → Value
  | .ref a => .ref a
  | .ty n => .type n
  | _ => .none
def rIsE (K : PySem.W.Frag) (c : Value) (a : Addr) (xs : List V) (H : Hp) (Q : VK) : Prop := ∃ d b C, c = .ref C ∧ erA K C = true ∧ xs = [.ref a, d] ∧ ((∃ D, d = .ref D) ∨ ∃ n, d = .ty n) ∧ PySem.W.kitOne K c (vOf d) = some b ∧ Q (.bl b) H
theorem evb_isE {a C D : Addr} {b : Bool} (i : Nat) (hσ : σ[i]? = some (some (.ref a))) (hA : erA K C = true) (hk : PySem.W.kitOne K (.ref C) (.ref D) = some b) : EvB K Er S OO σ (tCB (rIsE K (.ref C) a) (tCons (tVar i) (tCons (tC (.ref D)) tNil))) rBool (.ok b) := fun H Q w s P =>
  ⟨_, hσ, _, b, C, rfl, hA, rfl, .inl ⟨D, rfl⟩, hk, P _ H (Same.refl _) rfl⟩
theorem evb_isT {a C : Addr} {n : String} {b : Bool} (i : Nat) (hσ : σ[i]? = some (some (.ref a))) (hA : erA K C = true) (hk : PySem.W.kitOne K (.ref C) (.type n) = some b) : EvB K Er S OO σ (tCB (rIsE K (.ref C) a) (tCons (tVar i) (tCons (tC (.ty n)) tNil))) rBool (.ok b) := fun H Q w s P =>
  ⟨_, hσ, _, b, C, rfl, hA, rfl, .inr ⟨n, rfl⟩, hk, P _ H (Same.refl _) rfl⟩
/-- if c: .. raise .., then the rest -/
theorem sv_ifX {o : OE ρ} {c : TT} {t1 : TS} {mc : Res Bool} {m1 : Res ρ} {m2 : Res β} (hc : EvT Er S OO σ c mc) (h1 : Sv Er S OO σ t1 (FTd K o) m1) (h2 : Sv Er S OO σ u Fd m2) : Sv Er S OO σ (tSeq (tIfS c t1 tNext) u) Fd (mc.bind fun b => if b = true then m1.bind (fun _ => .bad) else m2) := fun H D w s P =>
  hc.st (Fd := Fd) w s P fun b H' w' s' P' => by
    cases b with
    | true =>
      rw [if_pos rfl] at P' ⊢
      refine h1 H' _ w' s' ?_
      cases m1 with
      | bad => exact P'
      | err x => exact P'
      | ok a => exact P'.elim
    | false => exact h2 H' D w' s' P'
end
end L2

/-! ### isinstance of an error that is held -/
namespace L2
open PySem PySem.Spec PyProof.Rows PySem.W PySem.Builtin PySem.Builtin.ObjectAttr PySem.Builtin.Getset_descriptor
section
variable {prog : Program} {w : World} {A : Around} {E : Value → Shared → Prop} {K : Frag} {x D : Addr} {s : Shared}
theorem exc_find {M : Model} {h : Heap} (X : K.In h) (cl : findIn K (.ref D) "__class__" = some (some (.builtin "object.__class__"))) (sg : specialIn K (.builtin "object.__class__") "__get__" = some (some (.builtin "getset_descriptor.__get__"))) (tk : takesIn K (.builtin "object.__class__") = some true) :
    Looks M h (Builtin.ObjectAttr.find (.ref x) (.ref D) "__class__") (.bind (.builtin "getset_descriptor.__get__") (.builtin "object.__class__")) := by
  have L3 := looks_takesIn (M := M) X tk
  exact (looks_findIn (M := M) X cl).andThen ((looks_specialIn X sg).andThen ((show Looks M h (Builtin.ObjectAttr.dataDescriptor? (some (.builtin "object.__class__")) (some (.builtin "getset_descriptor.__get__"))) (some (.builtin "getset_descriptor.__get__", .builtin "object.__class__")) from L3.andThen .now).andThen (Looks.tag .now)))
theorem exc_get {R : Result → Shared → Prop} {tp : Value} (X : K.In s.heap) (L0 : Looks (model prog w) s.heap (typeOf (.ref x)) (.ref D)) (hm : mroIn K D (.type "object") = some true)
    (h : R (.ok (.ret (.ref D))) s) : codeAny (model prog w) A (.call (.builtin "getset_descriptor.__get__") ⟨[.builtin "object.__class__", .ref x, tp], []⟩) R s := by
  obtain ⟨hh, g, dr, t, os⟩ := s
  have L1 := looks_mroIn (M := model prog w) X hm
  refine codeAny_call_builtin KF.slot_gs.plain KF.entry_gs (KF.slot_gs.check _ _ _ _ _ _ _ _ KF.type_class (KF.args_gs _ _ _) ?_)
  unfold Builtin.«getset_descriptor.__get__» descrGet
  rw [dga_obj]
  refine wpAny_bind (wpAny_pure ?_)
  unfold descrGetter descrCheckInstance descrNameAndClass isInstance
  simp only [KF.owner_class]
  repeat lk
  refine ⟨Code.quiet_builtin _ (by decide +kernel), codeAny_builtin KF.entry_class ?_⟩
  unfold Builtin.«object.__class__» shownTypeOf
  repeat lk
  exact h
theorem exc_class {Q : Option Value → Shared → Prop} (X : K.In s.heap) (hx : ∃ o, s.heap.get? x = some o ∧ o.cls = .ref D) (hA : erA K D = true) (h : Q (some (.ref D)) { s with toks := s.toks + 1 }) : wpAny (model prog w) A (getAttr? (.ref x) "__class__") Q E s := by
  obtain ⟨hh, g, d, t, os⟩ := s
  obtain ⟨o, ho, hc⟩ := hx
  unfold erA at hA
  simp only [Bool.and_eq_true, beq_iff_eq] at hA
  obtain ⟨⟨⟨⟨⟨⟨⟨ga, gh⟩, cl⟩, sg⟩, tk⟩, mo⟩, ci⟩, mb⟩ := hA
  have L0 : Looks (model prog w) hh (typeOf (.ref x)) (.ref D) := hc ▸ (Looks.ld ho).andThen .now
  have L1 := looks_findIn (M := model prog w) X ga
  have L2 := looks_findIn (M := model prog w) X gh
  have LB := looks_mroIn (M := model prog w) X mb
  have LF := exc_find (M := model prog w) (x := x) X cl sg tk
  have f3 := PySem.F.attr_ValueError.ga.bind (.ref x)
  have hx2 : (Value.builtin "BaseException.__getattribute__" == Value.builtin "object.__getattribute__") = false := by decide +kernel
  unfold getAttr? getAttrBy? getAttrBy
  refine wpAny_bind (wpAny_mkText (wpAny_bind (wpAny_attempt (wpAny_holding (wpAny_bind (L0.at (wpAny_bind (L1.at ?_))))))))
  dsimp only
  rw [hx2, Bool.and_false, if_neg Bool.false_ne_true]
  unfold getAttrByItsOwn hookBefore callGetattribute boundAndCalled
  refine wpAny_bind (L2.at ?_)
  refine wpAny_bind (wpAny_attempt (wpAny_holding ?_))
  rw [Bool.false_and, if_neg Bool.false_ne_true, f3]
  refine wpAny_bind (wpAny_pure ?_)
  refine wpAny_call (codeAny_call_builtin PySem.F.attr_ValueError.ga.plain PySem.F.entry_bexc_ga ?_)
  have hk : builtinKind "BaseException.__getattribute__" = some .slot := by decide +kernel
  have hsplit : splitId "BaseException.__getattribute__" = some ("BaseException", "__getattribute__") := by decide +kernel
  have ha := PySem.F.args_bexc_ga (.ref x) (Value.str (Str.ofString "__class__") t)
  simp only [checkBuiltinCall, hk, hsplit]
  unfold isInstance
  refine wpAny_bind (wpAny_bind (L0.at ?_))
  refine LB.at ?_
  rw [if_neg (by decide)]
  have fin : ∀ s1 : Shared, s1 = ⟨hh, g, d, t + 1, os⟩ → wpAny (model prog w) A.in1 («object.__getattribute__» { pos := [Value.ref x] ++ [Value.str (Str.ofString "__class__") t] }) (fun fin s' => match fin with | .done (.ret v) => v = .ref D ∧ s' = s1 | _ => False) (fun _ _ => False) s1 := by
    intro s1 hs1
    subst hs1
    unfold «object.__getattribute__» bindTo
    repeat (any_goals (first | with_reducible refine wpAny_call (exc_get X L0 mo ?_) | lk))
    exact ⟨rfl, rfl⟩
  unfold argsOk at ha
  have sg2 : ∀ sig, Manifest.signature? "BaseException.__getattribute__" = some sig → Bind.checkArgs "BaseException.__getattribute__" sig { pos := [Value.ref x, Value.str (Str.ofString "__class__") t] } = pure () := fun sig e => by
    rw [e] at ha
    exact ha
  have rest : ∀ {P : Unit → Shared → Prop} {E' : Value → Shared → Prop} {s1 : Shared}, P () s1 → wpAny (model prog w) A.in1 (match Manifest.signature? "BaseException.__getattribute__" with | some sig => Bind.checkArgs "BaseException.__getattribute__" sig { pos := [Value.ref x] ++ [Value.str (Str.ofString "__class__") t] } | _ => pure ()) P E' s1 := fun {P E' s1} p => by
    split
    · rename_i sig e
      rw [show [Value.ref x] ++ [Value.str (Str.ofString "__class__") t] = [Value.ref x, Value.str (Str.ofString "__class__") t] from rfl, sg2 sig e]
      exact wpAny_pure p
    · exact wpAny_pure p
  refine rest ?_
  refine wpAny_mono (fin _ rfl) (fun fi s' z => ?_) fun _ _ z => z.elim
  rcases fi with (_ | _ | _ | v) | _
  all_goals first | exact z.elim | skip
  obtain ⟨rfl, rfl⟩ := z
  exact handed_on rfl (wpAny_pure h)
theorem kitx_exc (hA : erA K D = true) : KitX K (.ref x) (.ref D) (fun h => ∃ o, h.get? x = some o ∧ o.cls = .ref D) where
  ty := fun _ _ _ ⟨o, ho, hc⟩ => hc ▸ (Looks.ld ho).andThen .now
  it := fun _ _ X _ => by
    unfold erA at hA
    simp only [Bool.and_eq_true] at hA
    have z0 := hA.1.2
    unfold clsIn at z0
    split at z0
    · rename_i ho
      intro A' Q' E' s' k q
      unfold isType loadHead
      exact wpAny_bind (wpAny_loadPart (k _ _ (X _ _ ho)) (wpAny_pure q))
    · cases z0
  ne := fun h tp dd its n sl X htp => by
    unfold erA at hA
    simp only [Bool.and_eq_true] at hA
    have z0 := hA.1.2
    refine Bool.eq_false_iff.mpr fun q => ?_
    have e : D = tp := Value.ref.inj (beq_iff_eq.mp q)
    subst e
    unfold clsIn at z0
    split at z0
    · rename_i ho
      cases (X _ _ ho).symm.trans htp
    · cases z0
  ca := fun X I k => exc_class X I hA k
end
theorem PS.nox {X : Cx} {st : Stmt} {t : TS} (h : PS X.nox st t) : PS X st t := fun pins s σ H D I hw =>
  wpAny_mono (h pins s σ H D (I.wish _) hw) (fun _ _ q => q.unwish) fun _ _ z => False.elim z
theorem call_isE {X : Cx} {a C : Addr} {o : Obj} {pn : List (Addr × Obj)} (hpn : X.pn = pn) (hp : (a, o) ∈ pn) (hc : o.cls = .ref C) {K : Frag} (hK : X.K = K) : CallR X (.builtin "isinstance") (rIsE K (.ref C) a) := by
  subst hpn hK
  intro pins s σ H xs us Q I r ⟨d, b, C', hC', hA, hxs, hd, hk, q⟩
  cases hC'
  subst hxs
  obtain ⟨e, _⟩ := I.pin (a, o) (List.mem_append_left _ hp)
  cases r with
  | cons r1 r2 =>
    cases r2 with
    | cons r3 r4 =>
      cases r4
      rename_i u1 u2
      obtain rfl : u1 = Value.ref a := r1
      have e2 : u2 = vOf d := by
        rcases hd with ⟨D, rfl⟩ | ⟨n, rfl⟩
        · exact r3
        · exact r3
      subst e2
      exact kia_one (kitx_exc hA) I.kIn ⟨o, e, hc⟩ hk (fun z => nomatch z) fun tk => ⟨.bl b, H, I.tok tk, rfl, q⟩
/-! what k_is shows of the errors' classes, one by one -/
section
variable {K : PySem.W.Frag} {C D : Addr} {b : Bool}
theorem erA_of (h1 : PySem.W.findIn K (.ref C) "__getattribute__" = some (some (.builtin "BaseException.__getattribute__"))) (h2 : PySem.W.findIn K (.ref C) "__getattr__" = some none) (h3 : PySem.W.findIn K (.ref C) "__class__" = some (some (.builtin "object.__class__")))
    (h6 : PySem.W.mroIn K C (.type "object") = some true) (h7 : PySem.W.isClsIn K C = true) (h8 : PySem.W.mroIn K C (.type "BaseException") = some true) (h4 : PySem.W.specialIn K (.builtin "object.__class__") "__get__" = some (some (.builtin "getset_descriptor.__get__"))) (h5 : PySem.W.takesIn K (.builtin "object.__class__") = some true) : erA K C = true := by
  unfold erA
  unfold PySem.W.isClsIn at h7
  rw [h1, h2, h3, h4, h5, h6, h7, h8]
  rfl
theorem kval_of (h : PySem.W.subIn K (.ref C) (.type "ValueError") = some true) : PySem.W.kitOne K (.ref C) (.type "ValueError") = some true := by
  have e : PySem.W.kitOne K (.ref C) (.type "ValueError") = PySem.W.subIn K (.ref C) (.type "ValueError") := rfl
  rw [e, h]
theorem kx_of (s : PySem.W.subIn K (.ref C) (.ref C) = some true) (h : PySem.W.subIn K (.ref C) (.ref D) = some b) (h7 : PySem.W.isClsIn K D = true) (ht : PySem.W.typeIn K (.ref D) = some (.type "type")) (hb : PySem.W.subIn K (.ref D) (.type "BaseException") = some true) :
    PySem.W.kitOne K (.ref C) (.ref D) = some b ∧ PySem.W.exmOne K (.ref C) (.ref D) = some b := by
  have e : PySem.W.kitCls K (.ref C) (.ref D) = some b := by
    unfold PySem.W.kitCls
    unfold PySem.W.isClsIn at h7
    dsimp only
    rw [h7, ht, h]
    rfl
  constructor
  · unfold PySem.W.kitOne
    rw [e]
    split
    · rename_i q
      have q := eq_of_beq q
      rw [← q, s] at h
      exact h
    · rfl
  · unfold PySem.W.exmOne
    rw [hb, e]
    rfl
end
end L2

/-! ### xs.pop() of an own list, as a statement -/
namespace L2
open PySem PySem.Spec PyProof.Rows
section
variable {α β : Type} {K : PySem.W.Frag} {Er : Exc → Hp → Prop} {S : SC} {OO : List (List Cell)} {σ : St} {Fd : Ends → β → Hp → Prop} [fd : FdOk Fd] {u : TS}
end
end L2

/-! ### values of two kinds -/
namespace L2
open PySem PySem.Spec PyProof.Rows
section
variable {α β γ δ ε : Type}
def rEi (r : Enc α) (q : Enc β) : Enc (α ⊕ β) := fun K H v a => match a with
  | .inl a => r K H v a
  | .inr b => q K H v b
def oEi (o : OE α) (p : OE β) : OE (α ⊕ β) := fun K H v a C => match a with
  | .inl a => o K H v a C
  | .inr b => p K H v b C
instance {r : Enc α} {q : Enc β} [m : MonoE r] [n : MonoE q] : MonoE (rEi r q) := ⟨fun {K H H' v a} s h => by cases a with
  | inl a => exact m.mono s h
  | inr a => exact n.mono s h⟩
instance {r : Enc α} {q : Enc β} [m : FlatE r] [n : FlatE q] : FlatE (rEi r q) := ⟨fun {K H H' v a} s h => by cases a with
  | inl a => exact m.flat s h
  | inr a => exact n.flat s h⟩
instance {r : OE α} {q : OE β} [m : MonoO r] [n : MonoO q] : MonoO (oEi r q) := ⟨fun {K H H' v a C} s h => by cases a with
  | inl a => exact m.mono s h
  | inr a => exact n.mono s h⟩
instance {r : OE α} {q : OE β} [m : FlatO r] [n : FlatO q] : FlatO (oEi r q) := ⟨fun {K H H' v a C} s h => by cases a with
  | inl a => exact m.flat s h
  | inr a => exact n.flat s h⟩
instance {r : OE α} {q : OE β} {t : Enc α} {u : Enc β} [m : FrzC r t] [n : FrzC q u] : FrzC (oEi r q) (rEi t u) := ⟨fun {K H H' v a C} h s hc => by cases a with
  | inl a => exact m.frz h s hc
  | inr a => exact n.frz h s hc⟩
inductive Kd where
  | non | bl | int | str | lst | tup
def KdV (s : Shared) (v : Value) : Kd → Prop
  | .non => v = .none
  | .bl => ∃ b, v = .bool b
  | .int => ∃ i t, v = .int i t
  | .str => ∃ x t, v = .str x t
  | .lst => ∃ l items, v = .ref l ∧ s.heap.IsList l items
  | .tup => ∃ l items, v = .ref l ∧ s.heap.IsTuple l items
def KdX (K : PySem.W.Frag) (H : Hp) (x : V) : Kd → Prop
  | .non => x = .non
  | .bl => ∃ b, x = .bl b
  | .int => ∃ i, x = .int i
  | .str => ∃ i, x = .str i
  | .lst => ∃ a xs, x = .ref a ∧ SqL K H a xs
  | .tup => ∃ a xs, x = .ref a ∧ SqT K H a xs
def Kd.dis : Kd → Kd → Bool
  | .non, .bl => true
  | .non, .int => true
  | .non, .str => true
  | .non, .lst => true
  | .non, .tup => true
  | .bl, .non => true
  | .bl, .str => true
  | .bl, .lst => true
  | .bl, .tup => true
  | .int, .non => true
  | .int, .str => true
  | .int, .lst => true
  | .int, .tup => true
  | .str, .non => true
  | .str, .bl => true
  | .str, .int => true
  | .str, .lst => true
  | .str, .tup => true
  | .lst, .non => true
  | .lst, .bl => true
  | .lst, .int => true
  | .lst, .str => true
  | .lst, .tup => true
  | .tup, .non => true
  | .tup, .bl => true
  | .tup, .int => true
  | .tup, .str => true
  | .tup, .lst => true
  | _, _ => false
theorem kdV {X : Cx} {pins : List (Addr × Obj)} {σ : St} {H : Hp} {s : Shared} {x : V} {v : Value} (I : Inv X pins σ H s) (rx : RelV x v) : ∀ {k : Kd}, KdX X.K H x k → KdV s v k
  | .non, h => by cases (show x = .non from h); cases rx; rfl
  | .bl, ⟨b, h⟩ => by subst h; cases rx; exact ⟨b, rfl⟩
  | .int, ⟨b, h⟩ => by subst h; obtain ⟨t, rfl⟩ := rx; exact ⟨b, t, rfl⟩
  | .str, ⟨b, h⟩ => by subst h; obtain ⟨t, rfl⟩ := rx; exact ⟨b, t, rfl⟩
  | .lst, ⟨a, xs, h, q⟩ => by
    subst h; cases rx
    obtain ⟨its, r1, l1, _⟩ := I.list q
    exact ⟨a, _, rfl, l1.isList⟩
  | .tup, ⟨a, xs, h, q⟩ => by
    subst h; cases rx
    obtain ⟨its, r1, l1, _⟩ := I.tuple q
    exact ⟨a, _, rfl, l1⟩
theorem kd_no {X : Cx} {pins : List (Addr × Obj)} {σ : St} {H : Hp} {s : Shared} {x : V} (I : Inv X pins σ H s) : ∀ {j k : Kd}, j.dis k = true → KdX X.K H x j → KdX X.K H x k → False
  | .non, .bl, _, h1, h2 => by
    have e1 : x = .non := h1
    obtain ⟨b2, e2⟩ := h2
    rw [e1] at e2; cases e2
  | .non, .int, _, h1, h2 => by
    have e1 : x = .non := h1
    obtain ⟨b2, e2⟩ := h2
    rw [e1] at e2; cases e2
  | .non, .str, _, h1, h2 => by
    have e1 : x = .non := h1
    obtain ⟨b2, e2⟩ := h2
    rw [e1] at e2; cases e2
  | .non, .lst, _, h1, h2 => by
    have e1 : x = .non := h1
    obtain ⟨a2, xs2, e2, q2⟩ := h2
    rw [e1] at e2; cases e2
  | .non, .tup, _, h1, h2 => by
    have e1 : x = .non := h1
    obtain ⟨a2, xs2, e2, q2⟩ := h2
    rw [e1] at e2; cases e2
  | .bl, .non, _, h1, h2 => by
    obtain ⟨b1, e1⟩ := h1
    have e2 : x = .non := h2
    rw [e1] at e2; cases e2
  | .bl, .str, _, h1, h2 => by
    obtain ⟨b1, e1⟩ := h1
    obtain ⟨b2, e2⟩ := h2
    rw [e1] at e2; cases e2
  | .bl, .lst, _, h1, h2 => by
    obtain ⟨b1, e1⟩ := h1
    obtain ⟨a2, xs2, e2, q2⟩ := h2
    rw [e1] at e2; cases e2
  | .bl, .tup, _, h1, h2 => by
    obtain ⟨b1, e1⟩ := h1
    obtain ⟨a2, xs2, e2, q2⟩ := h2
    rw [e1] at e2; cases e2
  | .int, .non, _, h1, h2 => by
    obtain ⟨b1, e1⟩ := h1
    have e2 : x = .non := h2
    rw [e1] at e2; cases e2
  | .int, .str, _, h1, h2 => by
    obtain ⟨b1, e1⟩ := h1
    obtain ⟨b2, e2⟩ := h2
    rw [e1] at e2; cases e2
  | .int, .lst, _, h1, h2 => by
    obtain ⟨b1, e1⟩ := h1
    obtain ⟨a2, xs2, e2, q2⟩ := h2
    rw [e1] at e2; cases e2
  | .int, .tup, _, h1, h2 => by
    obtain ⟨b1, e1⟩ := h1
    obtain ⟨a2, xs2, e2, q2⟩ := h2
    rw [e1] at e2; cases e2
  | .str, .non, _, h1, h2 => by
    obtain ⟨b1, e1⟩ := h1
    have e2 : x = .non := h2
    rw [e1] at e2; cases e2
  | .str, .bl, _, h1, h2 => by
    obtain ⟨b1, e1⟩ := h1
    obtain ⟨b2, e2⟩ := h2
    rw [e1] at e2; cases e2
  | .str, .int, _, h1, h2 => by
    obtain ⟨b1, e1⟩ := h1
    obtain ⟨b2, e2⟩ := h2
    rw [e1] at e2; cases e2
  | .str, .lst, _, h1, h2 => by
    obtain ⟨b1, e1⟩ := h1
    obtain ⟨a2, xs2, e2, q2⟩ := h2
    rw [e1] at e2; cases e2
  | .str, .tup, _, h1, h2 => by
    obtain ⟨b1, e1⟩ := h1
    obtain ⟨a2, xs2, e2, q2⟩ := h2
    rw [e1] at e2; cases e2
  | .lst, .non, _, h1, h2 => by
    obtain ⟨a1, xs1, e1, q1⟩ := h1
    have e2 : x = .non := h2
    rw [e1] at e2; cases e2
  | .lst, .bl, _, h1, h2 => by
    obtain ⟨a1, xs1, e1, q1⟩ := h1
    obtain ⟨b2, e2⟩ := h2
    rw [e1] at e2; cases e2
  | .lst, .int, _, h1, h2 => by
    obtain ⟨a1, xs1, e1, q1⟩ := h1
    obtain ⟨b2, e2⟩ := h2
    rw [e1] at e2; cases e2
  | .lst, .str, _, h1, h2 => by
    obtain ⟨a1, xs1, e1, q1⟩ := h1
    obtain ⟨b2, e2⟩ := h2
    rw [e1] at e2; cases e2
  | .lst, .tup, _, h1, h2 => by
    obtain ⟨a1, xs1, e1, q1⟩ := h1
    obtain ⟨a2, xs2, e2, q2⟩ := h2
    rw [e1] at e2; cases e2
    obtain ⟨i1, _, l1, _⟩ := I.list q1
    obtain ⟨i2, _, l2, _⟩ := I.tuple q2
    exact SeqAt.ne_of_list_tuple l1.isList l2 rfl
  | .tup, .non, _, h1, h2 => by
    obtain ⟨a1, xs1, e1, q1⟩ := h1
    have e2 : x = .non := h2
    rw [e1] at e2; cases e2
  | .tup, .bl, _, h1, h2 => by
    obtain ⟨a1, xs1, e1, q1⟩ := h1
    obtain ⟨b2, e2⟩ := h2
    rw [e1] at e2; cases e2
  | .tup, .int, _, h1, h2 => by
    obtain ⟨a1, xs1, e1, q1⟩ := h1
    obtain ⟨b2, e2⟩ := h2
    rw [e1] at e2; cases e2
  | .tup, .str, _, h1, h2 => by
    obtain ⟨a1, xs1, e1, q1⟩ := h1
    obtain ⟨b2, e2⟩ := h2
    rw [e1] at e2; cases e2
  | .tup, .lst, _, h1, h2 => by
    obtain ⟨a1, xs1, e1, q1⟩ := h1
    obtain ⟨a2, xs2, e2, q2⟩ := h2
    rw [e1] at e2; cases e2
    obtain ⟨i1, _, l1, _⟩ := I.list q2
    obtain ⟨i2, _, l2, _⟩ := I.tuple q1
    exact SeqAt.ne_of_list_tuple l1.isList l2 rfl
  | .non, .non, h, _, _ => absurd h Bool.false_ne_true
  | .bl, .bl, h, _, _ => absurd h Bool.false_ne_true
  | .bl, .int, h, _, _ => absurd h Bool.false_ne_true
  | .int, .bl, h, _, _ => absurd h Bool.false_ne_true
  | .int, .int, h, _, _ => absurd h Bool.false_ne_true
  | .str, .str, h, _, _ => absurd h Bool.false_ne_true
  | .lst, .lst, h, _, _ => absurd h Bool.false_ne_true
  | .tup, .tup, h, _, _ => absurd h Bool.false_ne_true
theorem kd_eq {s : Shared} {A : Around} {v u : Value} (hu : A.units < cLine) : ∀ {j k : Kd}, j.dis k = true → KdV s v j → KdV s u k → SeqAt.EqAt A s v u false ∧ SeqAt.RcAt A s v u false ∧ SeqAt.RcNeAt A s v u true
  | .non, .non, h, _, _ => absurd h Bool.false_ne_true
  | .non, .bl, _, h1, h2 => by
    cases (show _ = Value.none from h1)
    obtain ⟨b2, rfl⟩ := h2
    exact ⟨SeqAt.EqAt.none_bool b2, SeqAt.RcAt.none_bool b2, SeqAt.RcNeAt.none_bool b2⟩
  | .non, .int, _, h1, h2 => by
    cases (show _ = Value.none from h1)
    obtain ⟨i2, t2, rfl⟩ := h2
    exact ⟨SeqAt.EqAt.none_int i2 t2, SeqAt.RcAt.none_int i2 t2, SeqAt.RcNeAt.none_int i2 t2⟩
  | .non, .str, _, h1, h2 => by
    cases (show _ = Value.none from h1)
    obtain ⟨i2, t2, rfl⟩ := h2
    exact ⟨SeqAt.EqAt.none_str i2 t2, SeqAt.RcAt.none_str i2 t2, SeqAt.RcNeAt.none_str i2 t2⟩
  | .non, .lst, _, h1, h2 => by
    cases (show _ = Value.none from h1)
    obtain ⟨l2, is2, rfl, q2⟩ := h2
    exact ⟨SeqAt.EqAt.none_list q2 hu, SeqAt.RcAt.none_list q2 hu, SeqAt.RcNeAt.none_list q2 hu⟩
  | .non, .tup, _, h1, h2 => by
    cases (show _ = Value.none from h1)
    obtain ⟨l2, is2, rfl, q2⟩ := h2
    exact ⟨SeqAt.EqAt.none_tuple q2 hu, SeqAt.RcAt.none_tuple q2 hu, SeqAt.RcNeAt.none_tuple q2 hu⟩
  | .bl, .non, _, h1, h2 => by
    obtain ⟨b1, rfl⟩ := h1
    cases (show _ = Value.none from h2)
    exact ⟨SeqAt.EqAt.bool_none b1, SeqAt.RcAt.bool_none b1, SeqAt.RcNeAt.bool_none b1⟩
  | .bl, .bl, h, _, _ => absurd h Bool.false_ne_true
  | .bl, .int, h, _, _ => absurd h Bool.false_ne_true
  | .bl, .str, _, h1, h2 => by
    obtain ⟨b1, rfl⟩ := h1
    obtain ⟨i2, t2, rfl⟩ := h2
    exact ⟨SeqAt.EqAt.bool_str b1 i2 t2, SeqAt.RcAt.bool_str b1 i2 t2, SeqAt.RcNeAt.bool_str b1 i2 t2⟩
  | .bl, .lst, _, h1, h2 => by
    obtain ⟨b1, rfl⟩ := h1
    obtain ⟨l2, is2, rfl, q2⟩ := h2
    exact ⟨SeqAt.EqAt.bool_list b1 q2 hu, SeqAt.RcAt.bool_list b1 q2 hu, SeqAt.RcNeAt.bool_list b1 q2 hu⟩
  | .bl, .tup, _, h1, h2 => by
    obtain ⟨b1, rfl⟩ := h1
    obtain ⟨l2, is2, rfl, q2⟩ := h2
    exact ⟨SeqAt.EqAt.bool_tuple b1 q2 hu, SeqAt.RcAt.bool_tuple b1 q2 hu, SeqAt.RcNeAt.bool_tuple b1 q2 hu⟩
  | .int, .non, _, h1, h2 => by
    obtain ⟨i1, t1, rfl⟩ := h1
    cases (show _ = Value.none from h2)
    exact ⟨SeqAt.EqAt.int_none i1 t1, SeqAt.RcAt.int_none i1 t1, SeqAt.RcNeAt.int_none i1 t1⟩
  | .int, .bl, h, _, _ => absurd h Bool.false_ne_true
  | .int, .int, h, _, _ => absurd h Bool.false_ne_true
  | .int, .str, _, h1, h2 => by
    obtain ⟨i1, t1, rfl⟩ := h1
    obtain ⟨i2, t2, rfl⟩ := h2
    exact ⟨SeqAt.EqAt.int_str i1 t1 i2 t2, SeqAt.RcAt.int_str i1 t1 i2 t2, SeqAt.RcNeAt.int_str i1 t1 i2 t2⟩
  | .int, .lst, _, h1, h2 => by
    obtain ⟨i1, t1, rfl⟩ := h1
    obtain ⟨l2, is2, rfl, q2⟩ := h2
    exact ⟨SeqAt.EqAt.int_list i1 t1 q2 hu, SeqAt.RcAt.int_list i1 t1 q2 hu, SeqAt.RcNeAt.int_list i1 t1 q2 hu⟩
  | .int, .tup, _, h1, h2 => by
    obtain ⟨i1, t1, rfl⟩ := h1
    obtain ⟨l2, is2, rfl, q2⟩ := h2
    exact ⟨SeqAt.EqAt.int_tuple i1 t1 q2 hu, SeqAt.RcAt.int_tuple i1 t1 q2 hu, SeqAt.RcNeAt.int_tuple i1 t1 q2 hu⟩
  | .str, .non, _, h1, h2 => by
    obtain ⟨i1, t1, rfl⟩ := h1
    cases (show _ = Value.none from h2)
    exact ⟨SeqAt.EqAt.str_none i1 t1, SeqAt.RcAt.str_none i1 t1, SeqAt.RcNeAt.str_none i1 t1⟩
  | .str, .bl, _, h1, h2 => by
    obtain ⟨i1, t1, rfl⟩ := h1
    obtain ⟨b2, rfl⟩ := h2
    exact ⟨SeqAt.EqAt.str_bool i1 t1 b2, SeqAt.RcAt.str_bool i1 t1 b2, SeqAt.RcNeAt.str_bool i1 t1 b2⟩
  | .str, .int, _, h1, h2 => by
    obtain ⟨i1, t1, rfl⟩ := h1
    obtain ⟨i2, t2, rfl⟩ := h2
    exact ⟨SeqAt.EqAt.str_int i1 t1 i2 t2, SeqAt.RcAt.str_int i1 t1 i2 t2, SeqAt.RcNeAt.str_int i1 t1 i2 t2⟩
  | .str, .str, h, _, _ => absurd h Bool.false_ne_true
  | .str, .lst, _, h1, h2 => by
    obtain ⟨i1, t1, rfl⟩ := h1
    obtain ⟨l2, is2, rfl, q2⟩ := h2
    exact ⟨SeqAt.EqAt.str_list i1 t1 q2 hu, SeqAt.RcAt.str_list i1 t1 q2 hu, SeqAt.RcNeAt.str_list i1 t1 q2 hu⟩
  | .str, .tup, _, h1, h2 => by
    obtain ⟨i1, t1, rfl⟩ := h1
    obtain ⟨l2, is2, rfl, q2⟩ := h2
    exact ⟨SeqAt.EqAt.str_tuple i1 t1 q2 hu, SeqAt.RcAt.str_tuple i1 t1 q2 hu, SeqAt.RcNeAt.str_tuple i1 t1 q2 hu⟩
  | .lst, .non, _, h1, h2 => by
    obtain ⟨l1, is1, rfl, q1⟩ := h1
    cases (show _ = Value.none from h2)
    exact ⟨SeqAt.EqAt.list_none q1 hu, SeqAt.RcAt.list_none q1 hu, SeqAt.RcNeAt.list_none q1 hu⟩
  | .lst, .bl, _, h1, h2 => by
    obtain ⟨l1, is1, rfl, q1⟩ := h1
    obtain ⟨b2, rfl⟩ := h2
    exact ⟨SeqAt.EqAt.list_bool b2 q1 hu, SeqAt.RcAt.list_bool b2 q1 hu, SeqAt.RcNeAt.list_bool b2 q1 hu⟩
  | .lst, .int, _, h1, h2 => by
    obtain ⟨l1, is1, rfl, q1⟩ := h1
    obtain ⟨i2, t2, rfl⟩ := h2
    exact ⟨SeqAt.EqAt.list_int i2 t2 q1 hu, SeqAt.RcAt.list_int i2 t2 q1 hu, SeqAt.RcNeAt.list_int i2 t2 q1 hu⟩
  | .lst, .str, _, h1, h2 => by
    obtain ⟨l1, is1, rfl, q1⟩ := h1
    obtain ⟨i2, t2, rfl⟩ := h2
    exact ⟨SeqAt.EqAt.list_str i2 t2 q1 hu, SeqAt.RcAt.list_str i2 t2 q1 hu, SeqAt.RcNeAt.list_str i2 t2 q1 hu⟩
  | .lst, .lst, h, _, _ => absurd h Bool.false_ne_true
  | .lst, .tup, _, h1, h2 => by
    obtain ⟨l1, is1, rfl, q1⟩ := h1
    obtain ⟨l2, is2, rfl, q2⟩ := h2
    exact ⟨SeqAt.EqAt.of_refs (SeqAt.ne_of_list_tuple q1 q2) (SeqAt.RcAt.list_tuple q1 q2 hu), SeqAt.RcAt.list_tuple q1 q2 hu, SeqAt.RcNeAt.list_tuple q1 q2 hu⟩
  | .tup, .non, _, h1, h2 => by
    obtain ⟨l1, is1, rfl, q1⟩ := h1
    cases (show _ = Value.none from h2)
    exact ⟨SeqAt.EqAt.tuple_none q1 hu, SeqAt.RcAt.tuple_none q1 hu, SeqAt.RcNeAt.tuple_none q1 hu⟩
  | .tup, .bl, _, h1, h2 => by
    obtain ⟨l1, is1, rfl, q1⟩ := h1
    obtain ⟨b2, rfl⟩ := h2
    exact ⟨SeqAt.EqAt.tuple_bool b2 q1 hu, SeqAt.RcAt.tuple_bool b2 q1 hu, SeqAt.RcNeAt.tuple_bool b2 q1 hu⟩
  | .tup, .int, _, h1, h2 => by
    obtain ⟨l1, is1, rfl, q1⟩ := h1
    obtain ⟨i2, t2, rfl⟩ := h2
    exact ⟨SeqAt.EqAt.tuple_int i2 t2 q1 hu, SeqAt.RcAt.tuple_int i2 t2 q1 hu, SeqAt.RcNeAt.tuple_int i2 t2 q1 hu⟩
  | .tup, .str, _, h1, h2 => by
    obtain ⟨l1, is1, rfl, q1⟩ := h1
    obtain ⟨i2, t2, rfl⟩ := h2
    exact ⟨SeqAt.EqAt.tuple_str i2 t2 q1 hu, SeqAt.RcAt.tuple_str i2 t2 q1 hu, SeqAt.RcNeAt.tuple_str i2 t2 q1 hu⟩
  | .tup, .lst, _, h1, h2 => by
    obtain ⟨l1, is1, rfl, q1⟩ := h1
    obtain ⟨l2, is2, rfl, q2⟩ := h2
    exact ⟨SeqAt.EqAt.of_refs (fun e => SeqAt.ne_of_list_tuple q2 q1 e.symm) (SeqAt.RcAt.tuple_list q1 q2 hu), SeqAt.RcAt.tuple_list q1 q2 hu, SeqAt.RcNeAt.tuple_list q1 q2 hu⟩
  | .tup, .tup, h, _, _ => absurd h Bool.false_ne_true
class KdE (r : Enc α) (k : outParam Kd) : Prop where
  to : ∀ {K : PySem.W.Frag} {H : Hp} {x : V} {a : α}, r K H x a → KdX K H x k
instance : KdE rInt .int := ⟨fun h => ⟨_, h⟩⟩
instance : KdE rBool .bl := ⟨fun h => ⟨_, h⟩⟩
instance : KdE rStr .str := ⟨fun h => ⟨_, h⟩⟩
instance {r : Enc α} : KdE (rV r) .lst := ⟨fun ⟨a, xs, e, q, _⟩ => ⟨a, xs, e, SqL.of q⟩⟩
instance {r : Enc α} : KdE (rPL r) .tup := ⟨fun ⟨a, xs, e, q, _⟩ => ⟨a, xs, e, SqT.of q⟩⟩
instance {r : Enc α} {q : Enc β} : KdE (rP2 r q) .tup := ⟨fun ⟨a, x, y, e, q, _⟩ => ⟨a, _, e, SqT.of q⟩⟩
instance {r : Enc α} {q : Enc β} {t : Enc γ} : KdE (rP3 r q t) .tup := ⟨fun ⟨a, x, y, z, e, q, _⟩ => ⟨a, _, e, SqT.of q⟩⟩
/-- never equal -/
structure Crs (r : Enc α) (q : Enc β) (d : Nat) : Prop where
  no : ∀ {X : Cx} {pins : List (Addr × Obj)} {σ : St} {H : Hp} {s : Shared} {x : V} {a : α} {b : β}, Inv X pins σ H s → r X.K H x a → q X.K H x b → False
  lr : ∀ {X : Cx} {pins : List (Addr × Obj)} {σ : St} {H : Hp} {s : Shared} {x y : V} {v u : Value} {a : α} {b : β} {A : Around}, Inv X pins σ H s → RelV x v → RelV y u → r X.K H x a → q X.K H y b → A.units + d < cLine → SeqAt.EqAt A s v u false ∧ SeqAt.RcAt A s v u false ∧ SeqAt.RcNeAt A s v u true
  rl : ∀ {X : Cx} {pins : List (Addr × Obj)} {σ : St} {H : Hp} {s : Shared} {x y : V} {v u : Value} {a : α} {b : β} {A : Around}, Inv X pins σ H s → RelV x v → RelV y u → q X.K H x b → r X.K H y a → A.units + d < cLine → SeqAt.EqAt A s v u false ∧ SeqAt.RcAt A s v u false ∧ SeqAt.RcNeAt A s v u true
theorem Crs.up {r : Enc α} {q : Enc β} {d e : Nat} (c : Crs r q d) (h : d ≤ e) : Crs r q e := ⟨c.no, fun I rx ry h1 h2 hu => c.lr I rx ry h1 h2 (by omega), fun I rx ry h1 h2 hu => c.rl I rx ry h1 h2 (by omega)⟩
theorem crs_kd {r : Enc α} {q : Enc β} {j k : Kd} [m : KdE r j] [n : KdE q k] (h : j.dis k = true) (h' : k.dis j = true) : Crs r q 0 :=
  ⟨fun I h1 h2 => kd_no I h (m.to h1) (n.to h2), fun I rx ry h1 h2 hu => kd_eq (by omega) h (kdV I rx (m.to h1)) (kdV I ry (n.to h2)), fun I rx ry h1 h2 hu => kd_eq (by omega) h' (kdV I rx (n.to h1)) (kdV I ry (m.to h2))⟩
theorem eq_sum [DecidableEq α] [DecidableEq β] {r : Enc α} {q : Enc β} {d : Nat} [m : MonoE r] [n : MonoE q] (E : EqOk r d) (F : EqOk q d) (c : Crs r q d) : EqOk (rEi r q) d where
  uniq := fun {X pins σ H s x a b} I h1 h2 => by
    cases a with
    | inl a => cases b with
      | inl b => rw [E.uniq I h1 h2]
      | inr b => exact (c.no I h1 h2).elim
    | inr a => cases b with
      | inl b => exact (c.no I h2 h1).elim
      | inr b => rw [F.uniq I h1 h2]
  eq := fun {X pins σ H s x y v u a b A} I rx ry h1 h2 hu => by
    cases a with
    | inl a => cases b with
      | inl b => have := E.eq I rx ry h1 h2 hu; simpa using this
      | inr b => have := (c.lr I rx ry h1 h2 hu).1; simpa using this
    | inr a => cases b with
      | inl b => have := (c.rl I rx ry h1 h2 hu).1; simpa using this
      | inr b => have := F.eq I rx ry h1 h2 hu; simpa using this
  rc := fun {X pins σ H s x y v u a b A} I rx ry h1 h2 hu => by
    cases a with
    | inl a => cases b with
      | inl b => have := E.rc I rx ry h1 h2 hu; simpa using this
      | inr b => have := (c.lr I rx ry h1 h2 hu).2.1; simpa using this
    | inr a => cases b with
      | inl b => have := (c.rl I rx ry h1 h2 hu).2.1; simpa using this
      | inr b => have := F.rc I rx ry h1 h2 hu; simpa using this
  ne := fun {X pins σ H s x y v u a b A} I rx ry h1 h2 hu => by
    cases a with
    | inl a => cases b with
      | inl b => have := E.ne I rx ry h1 h2 hu; simpa using this
      | inr b => have := (c.lr I rx ry h1 h2 hu).2.2; simpa using this
    | inr a => cases b with
      | inl b => have := (c.rl I rx ry h1 h2 hu).2.2; simpa using this
      | inr b => have := F.ne I rx ry h1 h2 hu; simpa using this
  keep := fun s q => MonoE.mono s q
theorem dec_s {a b : Str} : (a == b) = decide (a = b) := by rw [Bool.eq_iff_iff]; simp
theorem eq_st : EqOk rStr 0 where
  uniq := fun _ h1 h2 => by
    have h1' : _ = V.str _ := h1
    have h2' : _ = V.str _ := h2
    rw [h1'] at h2'; injection h2'
  eq := fun {X pins σ H s x y v u a b A} I rx ry h1 h2 _ => by
    have h1' : x = V.str a := h1
    have h2' : y = V.str b := h2
    subst h1' h2'
    obtain ⟨t, rfl⟩ := rx
    obtain ⟨t', rfl⟩ := ry
    rw [← dec_s]; exact SeqAt.EqAt.str_str a t b t'
  rc := fun {X pins σ H s x y v u a b A} I rx ry h1 h2 _ => by
    have h1' : x = V.str a := h1
    have h2' : y = V.str b := h2
    subst h1' h2'
    obtain ⟨t, rfl⟩ := rx
    obtain ⟨t', rfl⟩ := ry
    rw [← dec_s]; exact SeqAt.RcAt.str_str a t b t'
  ne := fun {X pins σ H s x y v u a b A} I rx ry h1 h2 _ => by
    have h1' : x = V.str a := h1
    have h2' : y = V.str b := h2
    subst h1' h2'
    obtain ⟨t, rfl⟩ := rx
    obtain ⟨t', rfl⟩ := ry
    rw [← dec_s]; exact SeqAt.RcNeAt.str_str a t b t'
  keep := fun _ h => h
theorem dec_b {a b : Bool} : (a == b) = decide (a = b) := by rw [Bool.eq_iff_iff]; simp
theorem eq_bl : EqOk rBool 0 where
  uniq := fun _ h1 h2 => by
    have h1' : _ = V.bl _ := h1
    have h2' : _ = V.bl _ := h2
    rw [h1'] at h2'; injection h2'
  eq := fun {X pins σ H s x y v u a b A} I rx ry h1 h2 _ => by
    have h1' : x = V.bl a := h1
    have h2' : y = V.bl b := h2
    subst h1' h2'
    cases rx; cases ry
    rw [← dec_b]; exact SeqAt.EqAt.bool_bool a b
  rc := fun {X pins σ H s x y v u a b A} I rx ry h1 h2 _ => by
    have h1' : x = V.bl a := h1
    have h2' : y = V.bl b := h2
    subst h1' h2'
    cases rx; cases ry
    rw [← dec_b]; exact SeqAt.RcAt.bool_bool a b
  ne := fun {X pins σ H s x y v u a b A} I rx ry h1 h2 _ => by
    have h1' : x = V.bl a := h1
    have h2' : y = V.bl b := h2
    subst h1' h2'
    cases rx; cases ry
    rw [← dec_b]; exact SeqAt.RcNeAt.bool_bool a b
  keep := fun _ h => h
end
end L2

/-! ### sums: the rules -/
namespace L2
open PySem PySem.Spec PyProof.Rows
section
variable {K : PySem.W.Frag} {Er : Exc → Hp → Prop} {S : SC} {OO OO' OO1 OO2 : List (List Cell)} {σ : St} {α β γ ρ ι δ ε ζ : Type}
variable {Fd : Ends → β → Hp → Prop} [fd : FdOk Fd] {u : TS}
def getL : α ⊕ γ → Res α
  | .inl a => .ok a
  | .inr _ => .bad
def getR : α ⊕ γ → Res γ
  | .inl _ => .bad
  | .inr b => .ok b
end
end L2
/-! ### lists of a known length -/
namespace L2
theorem lenL1 {α : Type} {us : List α} (h : us.length = 1) : ∃ a, us = [a] := List.length_eq_one_iff.mp h
theorem lenL2 {α : Type} {us : List α} (h : us.length = 2) : ∃ a0 a1, us = [a0, a1] := by
  cases us with
  | nil => cases h
  | cons a0 t =>
    obtain ⟨a1, rfl⟩ := lenL1 (Nat.succ.inj h)
    exact ⟨a0, a1, rfl⟩
theorem lenL3 {α : Type} {us : List α} (h : us.length = 3) : ∃ a0 a1 a2, us = [a0, a1, a2] := by
  cases us with
  | nil => cases h
  | cons a0 t =>
    obtain ⟨a1, a2, rfl⟩ := lenL2 (Nat.succ.inj h)
    exact ⟨a0, a1, a2, rfl⟩
end L2

/-! ### a list laid out upon names; what may be None, compared, asked for its kind -/
namespace L2
open PySem PySem.Spec PyProof.Rows
section
variable {prog : Program} {w : World} {A : Around} {E : Value → Shared → Prop}
end
section
variable {X : Cx} {pos : Pos}
end
section
variable {K : PySem.W.Frag} {Er : Exc → Hp → Prop} {S : SC} {OO OO' OO1 OO2 : List (List Cell)} {σ : St} {α β γ ρ ι δ ε ζ : Type}
variable {Fd : Ends → β → Hp → Prop} [fd : FdOk Fd] {u : TS}
theorem evb_isinstO {te : TE} {r : Enc α} {n : String} [z : TyE r n] {m : Res (Option α)} (t : String) (b c : Bool) (hk : PySem.W.kitOne K (.type n) (.type t) = some b) (hc : PySem.W.kitOne K (.type "NoneType") (.type t) = some c) (he : EvB K Er S OO σ te (rOpt r) m) :
    EvB K Er S OO σ (tCB (fun xs H Q => ∃ x n t b, xs = [x, .ty n] ∧ TyOf K H x t ∧ PySem.W.kitOne K t (.type n) = some b ∧ Q (.bl b) H) (tCons te (tCons (tC (.ty t)) tNil))) rBool (m.bind fun a => .ok (if a.isSome = true then b else c)) := fun H Q w s P =>
  he.run w s FB.tr P fun a x H1 s1 w1 q1 r1 P1 => by
    cases a with
    | none =>
      have e : x = .non := r1
      subst e
      exact ⟨_, t, .type "NoneType", c, rfl, .non, hc, P1 _ H1 (Same.refl _) rfl⟩
    | some a => exact ⟨x, t, .type n, b, rfl, z.ty r1.2, hk, P1 _ H1 (Same.refl _) rfl⟩
end
end L2

/-! ### x *= e -/
namespace L2
open PySem PySem.Spec PyProof.Rows
section
variable {X : Cx}
end
section
variable {K : PySem.W.Frag} {Er : Exc → Hp → Prop} {S : SC} {OO OO' OO1 OO2 : List (List Cell)} {σ : St} {α β γ ρ ι δ ε ζ : Type}
variable {Fd : Ends → β → Hp → Prop} [fd : FdOk Fd] {u : TS}
end
end L2

/-! ### dict(pairs) -/
namespace L2
open PySem PySem.Spec PyProof.Rows
set_option maxRecDepth 100000
section
variable {prog : Program} {w : World} {A : Around} {E : Value → Shared → Prop} {s : Shared}
end
section
variable {prog : Program} {w : World} {A : Around} {R : Result → Shared → Prop} {K : Type} [DecidableEq K] {knd : KeyKind prog w K}
def storeAll (acc kv : List (K × Value)) : List (K × Value) := kv.foldl (fun a p => stored a p.1 p.2) acc
end
end L2

/-! ### dict(pairs), sorted(xs): as calls -/
namespace L2
open PySem PySem.Spec PyProof.Rows
section
variable {X : Cx}
def putAll (acc kvs : List (Key × V)) : List (Key × V) := kvs.foldl (fun a p => putK a p.1 p.2) acc
theorem KV.all {kvs : List (Key × V)} {vs : List (Key × Value)} (t : KV kvs vs) : ∀ {acc : List (Key × V)} {acc' : List (Key × Value)}, KV acc acc' → KV (putAll acc kvs) (storeAll acc' vs) := by
  induction t with
  | nil => intro acc acc' h; exact h
  | @cons p q kvs vs r _ ih =>
    intro acc acc' h
    have h2 := h.put p.1 r.2
    have e : stored acc' p.1 q.2 = stored acc' q.1 q.2 := by rw [r.1]
    rw [e] at h2
    exact ih h2
end
end L2

/-! ### a dict walked: known to its object meanwhile -/
namespace L2
open PySem PySem.Spec PyProof.Rows
section
variable {X : Cx} {pins : List (Addr × Obj)} {σ : St} {H : Hp} {s : Shared} {d : Addr} {o : Obj} {kvs : List (Key × V)}
theorem KV.key {kvs : List (Key × V)} {vs : List (Key × Value)} (h : KV kvs vs) : ∀ {i : Nat} (h1 : i < kvs.length) (h2 : i < vs.length), (kvs[i]).1 = (vs[i]).1 := by
  induction h with
  | nil => intro i h1; exact absurd h1 (Nat.not_lt_zero _)
  | cons r _ ih =>
    intro i h1 h2
    cases i with
    | zero => exact r.1
    | succ i => exact ih (Nat.lt_of_succ_lt_succ h1) (Nat.lt_of_succ_lt_succ h2)
end
section
variable {X : Cx}
end
end L2

/-! ### a dict walked, dict(pairs), sorted -/
namespace L2
open PySem PySem.Spec PyProof.Rows
section
variable {K : PySem.W.Frag} {Er : Exc → Hp → Prop} {S : SC} {OO OO' OO2 : List (List Cell)} {σ : St} {α β γ ρ ι δ ε : Type}
variable {Fd : Ends → β → Hp → Prop} [fd : FdOk Fd] {u : TS}
/-! sorted -/
/-! dict(pairs) -/
end
end L2

/-! ### max(xs, default=d) -/
namespace L2
open PySem PySem.Spec PyProof.Rows
section
variable {prog : Program} {w : World} {A : Around}
end
section
variable {X : Cx}
end
end L2

/-! ### max with a default, lists of lists +, a pair of ours opened in place -/
namespace L2
open PySem PySem.Spec PyProof.Rows
section
variable {K : PySem.W.Frag} {Er : Exc → Hp → Prop} {S : SC} {OO OO' OO1 OO2 : List (List Cell)} {σ : St} {α β γ ρ ι δ ε : Type}
variable {Fd : Ends → β → Hp → Prop} [fd : FdOk Fd] {u : TS}
end
end L2

/-! ### xs < ys, lists of ints -/
namespace L2
open PySem PySem.Spec PyProof.Rows
section
variable {X : Cx}
end
end L2

/-! ### list.index(x, k); lists of ints compared -/
namespace L2
open PySem PySem.Spec PyProof.Rows
section
variable {K : PySem.W.Frag} {Er : Exc → Hp → Prop} {S : SC} {OO OO' OO1 OO2 : List (List Cell)} {σ : St} {α β γ ρ ι δ ε : Type}
end
end L2

/-! ### tuple(xs); dicts with tuples of ints as keys -/
namespace L2
open PySem PySem.Spec PyProof.Rows
section
variable {K : PySem.W.Frag} {Er : Exc → Hp → Prop} {S : SC} {OO OO' OO1 OO2 : List (List Cell)} {σ : St} {α β γ ρ ι δ ε : Type}
def tk (k : List Int) : List Key := k.map Sum.inl
variable {Fd : Ends → β → Hp → Prop} [fd : FdOk Fd] {u : TS}
end
end L2

/-! ### x in xs, things of any kind -/
namespace L2
open PySem PySem.Spec PyProof.Rows
section
variable {X : Cx} {α : Type} [DecidableEq α] {r : Enc α} {d : Nat}
end
section
variable {K : PySem.W.Frag} {Er : Exc → Hp → Prop} {S : SC} {OO OO' OO1 OO2 : List (List Cell)} {σ : St} {α β γ ρ ι δ ε : Type}
end
end L2

/-! ### zip of two lists -/
namespace L2
open PySem PySem.Spec PyProof.Rows
section
variable {X : Cx} {pins : List (Addr × Obj)} {σ : St} {H : Hp} {s : Shared} {h' : Heap}
/-- an iterator's objects turned -/
theorem Inv.turns {t' : Nat} {ch : List Addr} (I : Inv X pins σ H s) (k : ∀ b o, b ∉ ch → s.heap.get? b = some o → h'.get? b = some o) (hf : ∀ b ∈ ch, FpOk X pins H b) : Inv X pins σ H { s with heap := h', toks := t' } := by
  have nit : ∀ b o, H b = some o → b ∉ ch := fun b o e z => by rw [(hf b z).1] at e; cases e
  refine I.step (g' := s.gens) (d' := s.drawn) (ch := ch) (fun b hb => ?_) (fun b o _ _ hc e _ => k b o hc e) (fun b o _ _ hc e _ => ⟨o.slots, k b o hc e⟩)
    (fun b o _ e n => n) (fun b o hc e => ⟨o, k b o hc e⟩) (fun b xs e => e) (fun b o xs e => e) (fun b ps e => ⟨#[], by rw [e]; simp⟩) (fun m hm => ?_) (fun b v e => ?_) I.bare
  · obtain ⟨f0, f1, f2, f3, f4, f5⟩ := hf b hb
    exact ⟨f3, f1, f4, f5⟩
  · obtain ⟨o, es, ep, ho, r⟩ := hm
    exact ⟨o, es, ep, k _ o (fun z => (hf _ z).2.1 rfl) ho, r⟩
  · refine (I.hok b v e).stay (fun c o hc q => k c o ?_ q) (fun c q => q) fun c xs q => q
    rcases hc with z | z
    · rw [z]; exact nit b v e
    · exact nit c _ z
end
section
variable {X : Cx} {elts : List Expr} {k : Nat} {pos0 : Pos}
end
end L2

/-! ### zip -/
namespace L2
open PySem PySem.Spec PyProof.Rows
section
variable {K : PySem.W.Frag} {Er : Exc → Hp → Prop} {S : SC} {OO OO' OO1 OO2 : List (List Cell)} {σ : St} {α β γ ρ ι δ ε : Type}
end
end L2

/-! ### xs[i] += e -/
namespace L2
open PySem PySem.Spec PyProof.Rows
section
variable {X : Cx}
end
section
variable {K : PySem.W.Frag} {Er : Exc → Hp → Prop} {S : SC} {OO OO' OO1 OO2 : List (List Cell)} {σ : St} {α β γ ρ ι δ ε : Type}
variable {Fd : Ends → β → Hp → Prop} [fd : FdOk Fd] {u : TS}
end
end L2

/-! ### while, a body that may return -/
namespace L2
open PySem PySem.Spec PyProof.Rows
section
variable {K : PySem.W.Frag} {Er : Exc → Hp → Prop} {S : SC} {OO OO' OO1 OO2 : List (List Cell)} {σ : St} {α β γ ρ ι δ ε : Type} {u : TS}
end
end L2

/-! ### x is True, x is not True -/
namespace L2
open PySem PySem.Spec PyProof.Rows
section
variable {X : Cx}
end
section
variable {K : PySem.W.Frag} {Er : Exc → Hp → Prop} {S : SC} {OO : List (List Cell)} {σ : St}
end
end L2

/-! ### the pairs of a known dict: d.items() -/
namespace L2
open PySem PySem.Spec PyProof.Rows
section
variable {X : Cx} {pins : List (Addr × Obj)} {σ : St} {H : Hp} {s : Shared} {d : Addr} {o : Obj} {kvs : List (Key × V)}
end
end L2

/-! ### d.items(), x //= e, three things of ours in a tuple -/
namespace L2
open PySem PySem.Spec PyProof.Rows
section
variable {X : Cx}
end
section
variable {K : PySem.W.Frag} {Er : Exc → Hp → Prop} {S : SC} {OO OO' OO1 OO2 OO3 : List (List Cell)} {σ : St} {α β γ ρ ι δ ε ζ : Type}
variable {Fd : Ends → β → Hp → Prop} [fd : FdOk Fd] {u : TS}
/-! three things -/
def oT3 (o : OE α) (q : OE β) (t : OE γ) : OE (α × β × γ) := fun K h v a C => ∃ p x y z C1 C2 C3, v = .ref p ∧ h p = some (.tup [x, y, z]) ∧ o K h x a.1 C1 ∧ q K h y a.2.1 C2 ∧ t K h z a.2.2 C3 ∧ C = C1 ++ (C2 ++ C3)
instance {o : OE α} {q : OE β} {t : OE γ} [m : MonoO o] [n : MonoO q] [k : MonoO t] : MonoO (oT3 o q t) := ⟨fun s ⟨p, x, y, z, C1, C2, C3, e, h, h1, h2, h3, c⟩ => ⟨p, x, y, z, C1, C2, C3, e, s _ _ h, m.mono s h1, n.mono s h2, k.mono s h3, c⟩⟩
instance {o : OE α} {q : OE β} {t : OE γ} [m : FlatO o] [n : FlatO q] [k : FlatO t] : FlatO (oT3 o q t) := ⟨fun s ⟨p, x, y, z, C1, C2, C3, e, h, h1, h2, h3, c⟩ => ⟨p, x, y, z, C1, C2, C3, e, s _ _ h rfl, m.flat s h1, n.flat s h2, k.flat s h3, c⟩⟩
instance {o : OE α} {q : OE β} {t : OE γ} {ro : Enc α} {rq : Enc β} {rt : Enc γ} [m : FrzC o ro] [n : FrzC q rq] [k : FrzC t rt] : FrzC (oT3 o q t) (rP3 ro rq rt) := ⟨fun ⟨p, x, y, z, C1, C2, C3, e, h, h1, h2, h3, c⟩ s hc => by
  subst c
  exact ⟨p, x, y, z, e, s _ _ h, m.frz h1 s fun c hm => hc c (by simp [hm]), n.frz h2 s fun c hm => hc c (by simp [hm]), k.frz h3 s fun c hm => hc c (by simp [hm])⟩⟩
end
end L2

/-! ### a triple of ours opened, every item cleared, int(b) -/
namespace L2
open PySem PySem.Spec PyProof.Rows
section
variable {K : PySem.W.Frag} {Er : Exc → Hp → Prop} {S : SC} {OO OO' OO1 OO2 : List (List Cell)} {σ : St} {α β γ ρ ι δ ε ζ : Type}
variable {Fd : Ends → β → Hp → Prop} [fd : FdOk Fd] {u : TS}
end
end L2

/-! ### if d.setdefault(k, x) != y: raise .. -/
namespace L2
open PySem PySem.Spec PyProof.Rows
section
variable {K : PySem.W.Frag} {Er : Exc → Hp → Prop} {S : SC} {OO OO' OO1 OO2 : List (List Cell)} {σ : St} {α β γ ρ ι δ ε ζ : Type}
variable {Fd : Ends → β → Hp → Prop} [fd : FdOk Fd] {u : TS}
end
end L2

/-! ### a def that changes its second argument, of four -/
namespace L2
open PySem PySem.Spec PyProof.Rows
section
variable {K : PySem.W.Frag} {Er : Exc → Hp → Prop} {S : SC} {OO OO' OO1 OO2 : List (List Cell)} {σ : St} {α β γ ρ ι δ ε ζ α1 α3 α4 : Type}
variable {Fd : Ends → β → Hp → Prop} [fd : FdOk Fd] {u : TS}
end
end L2

/-! ### sets of ints: the table's places rise, so a walk meets every item once -/
namespace L2
open PySem

def Inc (xs : Array Nat) : Prop := xs.toList.Pairwise (· < ·)
theorem Inc.lt {xs : Array Nat} (h : Inc xs) {i j v u : Nat} (hij : i < j) (hi : xs[i]? = some v) (hj : xs[j]? = some u) : v < u := by
  rw [← Array.getElem?_toList] at hi hj
  obtain ⟨a, rfl⟩ := List.getElem?_eq_some_iff.mp hi
  obtain ⟨b, rfl⟩ := List.getElem?_eq_some_iff.mp hj
  exact List.pairwise_iff_getElem.mp h i j a b hij
/-- a table in order -/
structure TOk (t : SetTable) (led : Bool) : Prop where
  inc : Inc t.place
  dum : t.dummies = #[]
  led : t.led = led
theorem TOk.fresh (f m : Nat) (led : Bool) : TOk (.fresh f m led) led := ⟨List.Pairwise.nil, rfl, rfl⟩
end L2
/-! ### sets of ints on the heap -/
namespace L2
open PySem PySem.Spec PyProof.Rows
theorem ints_mem {vs : List Value} {ms : List Int} (h : IntsAre vs ms) (k : Int) : (∃ v ∈ vs, Value.isInt k v = true) ↔ k ∈ ms := by
  induction h with
  | nil => simp
  | cons n t _ ih =>
    rw [List.mem_cons, ← ih]
    constructor
    · rintro ⟨v, hv, e⟩
      rcases List.mem_cons.mp hv with z | z
      · subst z; obtain ⟨t', e'⟩ := Value.isInt_shape e; cases e'; exact .inl rfl
      · exact .inr ⟨v, z, e⟩
    · rintro (z | ⟨v, hv, e⟩)
      · subst z; exact ⟨_, .head _, beq_self_eq_true _⟩
      · exact ⟨v, .tail _ hv, e⟩
theorem ints_perm {vs vs' : List Value} (p : vs'.Perm vs) : ∀ {ms : List Int}, IntsAre vs ms → ∃ ms', IntsAre vs' ms' ∧ ms'.Perm ms := by
  induction p with
  | nil => intro ms h; exact ⟨ms, h, .refl _⟩
  | cons x _ ih =>
    intro ms h
    cases h with
    | cons n t h => obtain ⟨m, a, b⟩ := ih h; exact ⟨n :: m, .cons n t a, b.cons _⟩
  | swap x y l =>
    intro ms h
    cases h with
    | cons n t h => cases h with
      | cons m u h => exact ⟨_, .cons m u (.cons n t h), .swap ..⟩
  | trans _ _ ih1 ih2 =>
    intro ms h
    obtain ⟨m, a, b⟩ := ih2 h
    obtain ⟨m', a', b'⟩ := ih1 a
    exact ⟨m', a', b'.trans b⟩
/-- without what was met before -/
def dd (l : List Int) : List Int := l.foldl step_dedup []
/-- a set's entries and its table: the items are ns -/
structure SCore (prog : Program) (w : World) (es : Array (Int × Value)) (t : SetTable) (ns : List Int) : Prop where
  el : ElemsOf (intKind prog w) es.toList
  pm : ∃ ms, IntsAre (es.toList.map (·.2)) ms ∧ ms.Perm ns
  sz : es.size < scanBound
  fit : t.fits es.size = true
  tok : TOk t (!w.params.followText "set-order")
def SetI (prog : Program) (w : World) (h : Heap) (a : Addr) (ns : List Int) : Prop :=
  ∃ o es ep t, h.get? a = some o ∧ o.ExactSet ∧ o.data = .set es ep t ∧ SCore prog w es t ns
section
variable {prog : Program} {w : World} {A : Around} {E : Value → Shared → Prop} {s : Shared} {a : Addr} {ns : List Int}
theorem SCore.len {es : Array (Int × Value)} {t : SetTable} (c : SCore prog w es t ns) : es.size = ns.length := by
  obtain ⟨ms, a, b⟩ := c.pm
  rw [← b.length_eq, ← IntsAre.length a, List.length_map, Array.length_toList]
theorem SCore.mem {es : Array (Int × Value)} {t : SetTable} (c : SCore prog w es t ns) (k : Int) : (∃ e ∈ es.toList, Value.isInt k e.2 = true) ↔ k ∈ ns := by
  obtain ⟨ms, a, b⟩ := c.pm
  rw [← b.mem_iff, ← ints_mem a k]
  constructor
  · rintro ⟨e, h, z⟩; exact ⟨e.2, List.mem_map_of_mem h, z⟩
  · rintro ⟨v, h, z⟩
    obtain ⟨e, h1, rfl⟩ := List.mem_map.mp h
    exact ⟨e, h1, z⟩
theorem SCore.perm {es es' : Array (Int × Value)} {t t' : SetTable} (c : SCore prog w es t ns) (p : es'.toList.Perm es.toList) (f : t'.fits es'.size = true) (k : TOk t' (!w.params.followText "set-order")) : SCore prog w es' t' ns := by
  obtain ⟨ms, a, b⟩ := c.pm
  obtain ⟨m, a', b'⟩ := ints_perm (p.map (·.2)) a
  have e : es'.size = es.size := by rw [← Array.length_toList, p.length_eq, Array.length_toList]
  exact ⟨c.el.perm p, ⟨m, a', b'.trans b⟩, by rw [e]; exact c.sz, f, k⟩
theorem SetI.put {h : Heap} {o : Obj} {es es' : Array (Int × Value)} {ep : Nat} {t t' : SetTable} (ho : h.get? a = some o) (hx : o.ExactSet) (hd : o.data = .set es ep t) :
    (h.update a (Obj.putSet es' t')).get? a = some { o with data := .set es' (ep + 1) t' } ∧ (SCore prog w es' t' ns → SetI prog w (h.update a (Obj.putSet es' t')) a ns) := by
  have g := Heap.get?_update_self (Obj.putSet es' t') ho (by rw [putSet_of es' t' hd]; rfl)
  rw [putSet_of es' t' hd] at g
  exact ⟨g, fun c => ⟨_, _, _, _, g, hx, rfl, c⟩⟩
end
end L2
/-! ### set(xs) -/
namespace L2
open PySem PySem.Spec PyProof.Rows
section
variable {prog : Program} {w : World} {A : Around} {E : Value → Shared → Prop} {s : Shared}
theorem SetI.at {h h' : Heap} {a : Addr} {ns : List Int} (x : SetI prog w h a ns) (k : ∀ o, h.get? a = some o → h'.get? a = some o) : SetI prog w h' a ns :=
  let ⟨o, es, ep, t, ho, r⟩ := x; ⟨o, es, ep, t, k o ho, r⟩
end
end L2
/-! ### a set is walked -/
namespace L2
open PySem PySem.Spec PyProof.Rows
section
variable {M : Model} {A : Around} {E : Value → Shared → Prop} {s : Shared}
end
section
variable {prog : Program} {w : World} {A : Around} {E : Value → Shared → Prop} {s : Shared} {a : Addr} {o : Obj} {es : Array (Int × Value)} {ep : Nat} {t : SetTable}
end
end L2
/-! ### the iterator of a set -/
namespace L2
open PySem PySem.Spec PyProof.Rows
section
variable {prog : Program} {w : World} {A : Around} {E : Value → Shared → Prop} {s : Shared} {a I tp : Addr} {o : Obj} {es : Array (Int × Value)} {ep : Nat} {t : SetTable} {L : List (Int × Value)}
/-- how a walk goes on: the entries in the order L -/
inductive SMode (w : World) (a : Addr) (es : Array (Int × Value)) (ep : Nat) (t : SetTable) (tp : Addr) (L : List (Int × Value)) (h : Heap) (i : Nat) : Value → Prop
  | text (sl : Nat) (hT : w.params.followText "set-order" = true) (hL : L = (pickOrder (w.params.setOrder a ep) es).toList) : SMode w a es ep t tp L h i (.int sl 0)
  | plain (sl : Nat) (hT : w.params.followText "set-order" = false) (hp : (!t.plain && decide (es.size > 1)) = false) (hL : L = es.toList) (hb : SetTable.below t.place sl = i) : SMode w a es ep t tp L h i (.int sl 0)
  | drawn (ps : List Nat) (hg : h.get? tp = some { cls := .type "tuple", data := .seq (ps.map fun i => Value.int (i : Nat) 0).toArray }) (hn : ps.length = L.length) (hL : ∀ (i : Nat) pl, ps[i]? = some pl → L[i]? = es[pl]?) : SMode w a es ep t tp L h i (.ref tp)
structure SIt (w : World) (I a : Addr) (es : Array (Int × Value)) (ep : Nat) (t : SetTable) (tp : Addr) (L : List (Int × Value)) (o : Obj) (i : Nat) (h : Heap) : Prop where
  it : ∃ ob first, h.get? I = some ob ∧ ob.cls = .type "set_iterator" ∧ ob.data = .fields #[first, .int i 0, .ref a, .int es.size 0, .int ep 0] ∧ SMode w a es ep t tp L h i first
  st : h.get? a = some o
theorem SMode.at {h h' : Heap} {i : Nat} {v : Value} (m : SMode w a es ep t tp L h i v) (k : ∀ o, h.get? tp = some o → h'.get? tp = some o) : SMode w a es ep t tp L h' i v := by
  cases m with
  | text sl hT hL => exact .text sl hT hL
  | plain sl hT hp hL hb => exact .plain sl hT hp hL hb
  | drawn ps hg hn hL => exact .drawn ps (k _ hg) hn hL
end
end L2
/-! ### sorted(set(xs)) -/
namespace L2
open PySem PySem.Spec PyProof.Rows
section
variable {prog : Program} {w : World} {A : Around} {E : Value → Shared → Prop} {s : Shared} {a I tp : Addr} {o : Obj} {es : Array (Int × Value)} {ep : Nat} {t : SetTable} {L : List (Int × Value)} {ns : List Int}
theorem SIt.frame {i : Nat} {h h' : Heap} (x : SIt w I a es ep t tp L o i h) (k : ∀ b ∈ [I, a, tp], ∀ o, h.get? b = some o → h'.get? b = some o) : SIt w I a es ep t tp L o i h' := by
  obtain ⟨⟨ob, f, h1, h2, h3, m⟩, h4⟩ := x
  exact ⟨⟨ob, f, k I (by simp) _ h1, h2, h3, m.at fun o e => k tp (by simp) o e⟩, k a (by simp) _ h4⟩
end
section
variable {X : Cx}
end
end L2

/-! ### sorted(set(xs)) -/
namespace L2
open PySem PySem.Spec PyProof.Rows
section
variable {K : PySem.W.Frag} {Er : Exc → Hp → Prop} {S : SC} {OO : List (List Cell)} {σ : St}
variable {u : TS} {α γ ρ ι : Type}
variable {β : Type} {Fd : Ends → β → Hp → Prop} [fd : FdOk Fd]
end
section
variable {α β γ : Type}
end
section
variable {K : PySem.W.Frag} {Er : Exc → Hp → Prop} {S : SC} {OO : List (List Cell)} {σ : St} {α1 α2 α3 α4 ρ : Type} {mg : Str → Option Value} {E : XK}
end
end L2

/-! ### () + t, range(a, b, -1) -/
namespace L2
open PySem PySem.Spec PyProof.Rows
section
variable {X : Cx} {tg : Expr}
end
end L2

/-! ### t + (x,), range downward, f(..)[0] of ours, xs.reverse(), x = xs.pop() -/
namespace L2
open PySem PySem.Spec PyProof.Rows
section
variable {K : PySem.W.Frag} {Er : Exc → Hp → Prop} {S : SC} {OO OO' : List (List Cell)} {σ : St} {α β γ : Type}
theorem P3.reverse {δ : Type} {F : α → γ → δ → Prop} : ∀ {l m n}, P3 F l m n → P3 F l.reverse m.reverse n.reverse := fun p => by
  induction p with
  | nil => exact .nil
  | cons r _ ih => rw [List.reverse_cons, List.reverse_cons, List.reverse_cons]; exact ih.snoc r
variable {u : TS} {Fd : Ends → β → Hp → Prop} [fd : FdOk Fd]
end
end L2
namespace L2
open PySem PySem.Spec PyProof.Rows
section
variable {K : PySem.W.Frag} {Er : Exc → Hp → Prop} {S : SC} {OO : List (List Cell)} {σ : St} {α β γ ι : Type} {u : TS} {Fd : Ends → β → Hp → Prop} [fd : FdOk Fd]
end
end L2
namespace L2
open PySem PySem.Spec PyProof.Rows
section
variable {K : PySem.W.Frag} {Er : Exc → Hp → Prop} {S : SC} {OO : List (List Cell)} {σ : St} {α β : Type}
end
end L2

/-! ### xs < ys, whatever the items are; sorted(xs) of unlike lists -/
namespace L2
open PySem PySem.Spec PyProof.Rows
def LtAt (A : Around) (s : Shared) (v u : Value) (b : Bool) : Prop :=
  ∀ (prog : Program) (w : World) (E : Value → Shared → Prop) (Q : Value → Shared → Prop), Q (.bool b) s → wpAny (model prog w) A (richCompare .Lt v u) Q E s
structure LtOk {α : Type} (r : Enc α) (lt : α → α → Bool) (d : Nat) : Prop where
  at' : ∀ {X : Cx} {pins : List (Addr × Obj)} {σ : St} {H : Hp} {s : Shared} {x y : V} {v u : Value} {a b : α} {A : Around}, Inv X pins σ H s → RelV x v → RelV y u → r X.K H x a → r X.K H y b → A.units + d < cLine → LtAt A s v u (lt a b)
def ltI (a b : Int) : Bool := decide (a < b)
theorem lt_int : LtOk rInt ltI 0 := ⟨fun {X pins σ H s x y v u a b A} I rx ry h1 h2 _ prog w E Q q => by
  have e1 : x = V.int a := h1
  have e2 : y = V.int b := h2
  subst e1 e2
  obtain ⟨t, rfl⟩ := rx
  obtain ⟨t', rfl⟩ := ry
  exact CmpOf.ints_lt (P := fun j v => ∃ t, v = .int (if j = 0 then a else b) t) (fun j => if j = 0 then a else b) (fun _ _ h => h) 0 1 _ _ _ _ _ ⟨t, rfl⟩ ⟨t', rfl⟩ q⟩
section
variable {α : Type} [DecidableEq α] {r : Enc α} {lt : α → α → Bool} {d : Nat}
theorem LtOk.imp {q : Enc α} (L : LtOk r lt d) (h : ∀ {K : PySem.W.Frag} {H : Hp} {v : V} {a : α}, q K H v a → r K H v a) : LtOk q lt d := ⟨fun I rx ry h1 h2 hu => L.at' I rx ry (h h1) (h h2) hu⟩
end
end L2

/-! ### sorted of things that are all unlike: the order is asked of the heap as it stands -/
namespace L2
open PySem PySem.Spec PyProof.Rows
section
variable {α : Type}
/-- the key at a place -/
def kp (kf : Value → α) (d : α) (xs : Array Keyed) (i : Nat) : α := (xs[i]?.map fun p => kf p.1).getD d
structure Ord (lt : α → α → Bool) : Prop where
  irr : ∀ a, lt a a = false
  tr : ∀ {a b c}, lt a b = true → lt b c = true → lt a c = true
/-- how the sort looks at its things: two by two, unlike ones -/
structure Asks (prog : Program) (w : World) (A : Around) (E : Value → Shared → Prop) (s : Shared) (lt : α → α → Bool) (kf : Value → α) (d : α) (a0 : Array Keyed) : Prop extends Ord lt where
  ask : ∀ {st : SortSt} {i j : Nat} {Q : Option Bool → SortSt → Prop}, SBase a0 st → i < a0.size → j < a0.size → Q (some (lt (kp kf d (arrOf st) i) (kp kf d (arrOf st) j))) st → wpS (model prog w) A E s (ltAt' i j) Q st
  two : ∀ {st : SortSt} {i j : Nat}, SBase a0 st → i < a0.size → j < a0.size → i ≠ j → lt (kp kf d (arrOf st) i) (kp kf d (arrOf st) j) = true ∨ lt (kp kf d (arrOf st) j) (kp kf d (arrOf st) i) = true
variable {prog : Program} {w : World} {A : Around} {E : Value → Shared → Prop} {s : Shared} {lt : α → α → Bool} {kf : Value → α} {d : α} {a0 : Array Keyed}
/-- the first n rise -/
def Ris (lt : α → α → Bool) (k : Nat → α) (n : Nat) : Prop := ∀ i j, i < j → j < n → lt (k i) (k j) = true
def Fal (lt : α → α → Bool) (k : Nat → α) (n : Nat) : Prop := ∀ i j, i < j → j < n → lt (k j) (k i) = true
theorem Ris.more (O : Ord lt) {k : Nat → α} {n : Nat} (h : Ris lt k n) (q : 0 < n → lt (k (n - 1)) (k n) = true) : Ris lt k (n + 1) := fun i j hij hj => by
  rcases Nat.lt_or_ge j n with z | z
  · exact h i j hij z
  · have e : j = n := by omega
    subst e
    rcases Nat.lt_or_ge i (j - 1) with y | y
    · exact O.tr (h i (j - 1) y (by omega)) (q (by omega))
    · rw [show i = j - 1 by omega]; exact q (by omega)
theorem Fal.more (O : Ord lt) {k : Nat → α} {n : Nat} (h : Fal lt k n) (q : 0 < n → lt (k n) (k (n - 1)) = true) : Fal lt k (n + 1) := fun i j hij hj => by
  rcases Nat.lt_or_ge j n with z | z
  · exact h i j hij z
  · have e : j = n := by omega
    subst e
    rcases Nat.lt_or_ge i (j - 1) with y | y
    · exact O.tr (q (by omega)) (h i (j - 1) y (by omega))
    · rw [show i = j - 1 by omega]; exact q (by omega)
theorem Asks.other (L : Asks prog w A E s lt kf d a0) {st : SortSt} {i j : Nat} (B : SBase a0 st) (hi : i < a0.size) (hj : j < a0.size) (n : i ≠ j) (h : lt (kp kf d (arrOf st) i) (kp kf d (arrOf st) j) = false) : lt (kp kf d (arrOf st) j) (kp kf d (arrOf st) i) = true := (L.two B hi hj n).resolve_left (by rw [h]; decide)
end
end L2

/-! ### sorted(xs), xs a list of unlike lists -/
namespace L2
open PySem PySem.Spec PyProof.Rows
section
variable {α β γ : Type}
theorem perm_lift {f : α → β} {l' k : List β} (h : l'.Perm k) : ∀ {l : List α}, k = l.map f → ∃ m : List α, m.Perm l ∧ m.map f = l' := by
  induction h with
  | nil => intro l e; cases l with
    | nil => exact ⟨[], .nil, rfl⟩
    | cons a l => cases e
  | cons x _ ih => intro l e; cases l with
    | nil => cases e
    | cons a l =>
      injection e with e1 e2
      obtain ⟨m, hm, em⟩ := ih e2
      exact ⟨a :: m, hm.cons a, by rw [List.map_cons, em, e1]⟩
  | swap x y t => intro l e; cases l with
    | nil => cases e
    | cons a l => cases l with
      | nil => cases e
      | cons b l =>
        injection e with e1 e2
        injection e2 with e2 e3
        exact ⟨b :: a :: l, .swap .., by rw [List.map_cons, List.map_cons, e1, e2, e3]⟩
  | trans _ _ ih1 ih2 =>
    intro l e
    obtain ⟨m2, h2, e2⟩ := ih2 e
    obtain ⟨m1, h1, e1⟩ := ih1 e2.symm
    exact ⟨m1, h1.trans h2, e1⟩
section
variable [DecidableEq α] {lt : α → α → Bool}
end
end
section
variable {prog : Program} {w : World} {A : Around} {E : Value → Shared → Prop} {s : Shared} {α : Type}
end
section
variable {X : Cx} {β : Type} [DecidableEq β] {r : Enc β} {lt : β → β → Bool} {d : Nat}
end
end L2

/-! ### sorted of lists of ours, xs < ys of any lists, [x for x in xs if ..] where the items go over -/
namespace L2
open PySem PySem.Spec PyProof.Rows
section
variable {X : Cx} {α : Type}
end
section
variable {K : PySem.W.Frag} {Er : Exc → Hp → Prop} {S : SC} {OO OO' : List (List Cell)} {σ : St} {α β γ δ : Type}
theorem P3.tri {F : α → β → γ → Prop} : ∀ {l m n}, P3 F l m n → ∃ T : List (α × β × γ), T.map (·.1) = l ∧ T.map (·.2.1) = m ∧ T.map (·.2.2) = n ∧ ∀ t ∈ T, F t.1 t.2.1 t.2.2 := fun p => by
  induction p with
  | nil => exact ⟨[], rfl, rfl, rfl, fun t h => nomatch h⟩
  | cons r _ ih =>
    obtain ⟨T, e1, e2, e3, h⟩ := ih
    exact ⟨(_, _, _) :: T, by rw [List.map_cons, e1], by rw [List.map_cons, e2], by rw [List.map_cons, e3], fun t ht => (List.mem_cons.mp ht).elim (fun z => z ▸ r) (h t)⟩
theorem P3.oft {F : α → β → γ → Prop} : ∀ {T : List (α × β × γ)}, (∀ t ∈ T, F t.1 t.2.1 t.2.2) → P3 F (T.map (·.1)) (T.map (·.2.1)) (T.map (·.2.2)) := fun {T} => by
  induction T with
  | nil => intro _; exact .nil
  | cons t T ih => intro h; exact .cons (h t List.mem_cons_self) (ih fun u hu => h u (List.mem_cons_of_mem _ hu))
theorem zip_inj {a a' : List α} {b b' : List β} (h : a.zip b = a'.zip b') (h1 : a.length = b.length) (h2 : a'.length = b'.length) : a = a' ∧ b = b' := by
  have e1 := congrArg (List.map Prod.fst) h
  have e2 := congrArg (List.map Prod.snd) h
  rw [List.map_fst_zip (by omega), List.map_fst_zip (by omega)] at e1
  rw [List.map_snd_zip (by omega), List.map_snd_zip (by omega)] at e2
  exact ⟨e1, e2⟩
theorem P3.perm {F : α → β → γ → Prop} {l zs : List α} {m bs : List β} {n : List γ} (p : P3 F l m n) (h : (zs.zip bs).Perm (l.zip m)) (hl : zs.length = bs.length) : ∃ n', P3 F zs bs n' ∧ n'.Perm n := by
  obtain ⟨T, e1, e2, e3, hT⟩ := p.tri
  have ez : T.map (fun t => (t.1, t.2.1)) = l.zip m := by rw [← e1, ← e2, List.zip_map']
  obtain ⟨T', hp, e⟩ := perm_lift h ez.symm
  have : (T'.map (·.1)).zip (T'.map (·.2.1)) = zs.zip bs := by rw [List.zip_map']; exact e
  obtain ⟨f1, f2⟩ := zip_inj this (by simp) hl
  refine ⟨T'.map (·.2.2), ?_, by rw [← e3]; exact hp.map _⟩
  rw [← f1, ← f2]
  exact P3.oft fun t ht => hT t (hp.mem_iff.mp ht)
end
section
variable {K : PySem.W.Frag} {Er : Exc → Hp → Prop} {S : SC} {OO OO' : List (List Cell)} {σ : St} {α β : Type} {u : TS} {Fd : Ends → β → Hp → Prop} [fd : FdOk Fd]
end
end L2

/-! ### a def whose answer holds what others hold too: the asker's own cells stand aside -/
namespace L2
open PySem PySem.Spec PyProof.Rows
section
variable {K : PySem.W.Frag} {Er : Exc → Hp → Prop} {S : SC} {OO OO' : List (List Cell)} {σ : St} {α1 α2 β ρ : Type} {u : TS}
theorem W.one {H : Hp} (w : W OO H) : W [OO.flatten] H := w.of (by simp)
end
end L2

/-! ### tables of ours, each line one longer; each line looked at; a def that changes its first argument, of two -/
namespace L2
open PySem PySem.Spec PyProof.Rows
section
variable {K : PySem.W.Frag} {Er : Exc → Hp → Prop} {S : SC} {OO OO' : List (List Cell)} {σ : St} {α α2 β γ ρ : Type}
variable {Fd : Ends → β → Hp → Prop} [fd : FdOk Fd] {u : TS}
end
end L2

/-! ### set(t), t a tuple; len(set(..)); any(xs) -/
namespace L2
open PySem PySem.Spec PyProof.Rows
section
variable {prog : Program} {w : World} {A : Around} {E : Value → Shared → Prop} {s : Shared}
end
section
variable {X : Cx}
end
end L2

/-! ### len(set(t)), any(xs), the second of a pair of ours -/
namespace L2
open PySem PySem.Spec PyProof.Rows
section
variable {K : PySem.W.Frag} {Er : Exc → Hp → Prop} {S : SC} {OO OO' : List (List Cell)} {σ : St} {α β γ : Type}
end
end L2

/-! ### min(xs), whatever the items are -/
namespace L2
open PySem PySem.Spec PyProof.Rows
section
variable {X : Cx} {α : Type} {r : Enc α} {lt : α → α → Bool} {d : Nat}
end
section
variable {K : PySem.W.Frag} {Er : Exc → Hp → Prop} {S : SC} {OO OO' : List (List Cell)} {σ : St} {α : Type}
end
end L2

/-! ### dict(pairs), tuples as keys -/
namespace L2
open PySem PySem.Spec PyProof.Rows
section
variable {X : Cx} {pins : List (Addr × Obj)} {σ : St} {H : Hp} {s0 : Shared}
/-- a dict that stands at d, its keys by their addresses -/
def DTat (X : Cx) (g : Heap) (d : Addr) (xs : List (List Key × Addr × Value)) : Prop := ∃ o es ep, g.get? d = some o ∧ o.ExactDict ∧ o.data = .dict es ep ∧ es.toList = xs.map (entryOfKey (tupleKind (mixKind X.prog X.w))) ∧ (xs.map (·.1)).Nodup
theorem DTat.h {g : Heap} {tk : Nat} {d : Addr} {acc : List (List Key × V)} {xs : List (List Key × Addr × Value)} (D : DTat X g d xs) (I : Inv X pins σ H { s0 with heap := g, toks := tk }) (r : KT H acc xs) : g.DictOfH (tupleKind (mixKind X.prog X.w)) d xs := by
  obtain ⟨o, es, ep, h1, h2, h3, h4, h5⟩ := D
  refine ⟨o, es, ep, h1, h2, h3, h4, fun x hx => ?_, h5⟩
  have all : ∀ {l : List (List Key × V)} {m : List (List Key × Addr × Value)}, KT H l m → ∀ x ∈ m, (tupleKind (mixKind X.prog X.w)).is g x.1 x.2.1 := by
    intro l m q
    induction q with
    | nil => intro x hx; exact nomatch hx
    | @cons p q ps qs hq t ih =>
      intro x hx
      rcases List.mem_cons.mp hx with e | hx
      · subst e
        exact key_of I.hok (by rw [← hq.1]; exact hq.2.1)
      · exact ih x hx
  exact all r x hx
theorem DTat.of {g : Heap} {d : Addr} {xs : List (List Key × Addr × Value)} (D : g.DictOfH (tupleKind (mixKind X.prog X.w)) d xs) : DTat X g d xs := by
  obtain ⟨o, es, ep, h1, h2, h3, h4, _, h5⟩ := D
  exact ⟨o, es, ep, h1, h2, h3, h4, h5⟩
theorem DTat.at {g g' : Heap} {d : Addr} {xs : List (List Key × Addr × Value)} (D : DTat X g d xs) (k : ∀ o, g.get? d = some o → g'.get? d = some o) : DTat X g' d xs := by
  obtain ⟨o, es, ep, h1, r⟩ := D
  exact ⟨o, es, ep, k o h1, r⟩
end
end L2

/-! ### dict(pairs), tuples of ints as keys -/
namespace L2
open PySem PySem.Spec PyProof.Rows
section
variable {K : PySem.W.Frag} {Er : Exc → Hp → Prop} {S : SC} {OO OO' : List (List Cell)} {σ : St} {α β γ : Type}
end
end L2

/-! ### a def of five that may raise -/
namespace L2
open PySem PySem.Spec PyProof.Rows
section
variable {K : PySem.W.Frag} {Er : Exc → Hp → Prop} {S : SC} {OO : List (List Cell)} {σ : St} {α1 α2 α3 α4 α5 ρ : Type} {mg : Str → Option Value} {E : XK}
end
end L2

/-! ### t.count(x), t a tuple -/
namespace L2
open PySem PySem.Spec PyProof.Rows
section
variable {X : Cx} {o e : Expr} {es : List Expr} {to : TE} {t : TA} {name : Str} {apos cpos : Pos} {id : String} {r : V → List V → Hp → VK → Prop}
end
section
variable {K : PySem.W.Frag} {Er : Exc → Hp → Prop} {S : SC} {OO : List (List Cell)} {σ : St}
end
end L2

/-! ### a, b, c = (x, y, z) -/
namespace L2
open PySem PySem.Spec PyProof.Rows
section
variable {α β γ δ : Type} {K : PySem.W.Frag} {Er : Exc → Hp → Prop} {S : SC} {OO : List (List Cell)} {σ : St} {Fd : Ends → β → Hp → Prop} [fd : FdOk Fd] {u : TS}
end
end L2

/-! ### t[::-1], t a tuple -/
namespace HT
open PySem PySem.Spec PyProof PyProof.Rows
section
variable {prog : Program} {w : World} {A : Around} {E : Value → Shared → Prop} {s : Shared}
end
end HT
namespace L2
open PySem PySem.Spec PyProof.Rows
section
variable {X : Cx} {e : Expr} {te : TE}
end
end L2

/-! ### t[::-1], t a tuple of any items -/
namespace L2
open PySem PySem.Spec PyProof.Rows
section
variable {α β : Type} {K : PySem.W.Frag} {Er : Exc → Hp → Prop} {S : SC} {OO : List (List Cell)} {σ : St}
end
end L2

/-! ### a list or None, known to be a list -/
namespace L2
open PySem PySem.Spec PyProof.Rows
section
variable {α β : Type} {K : PySem.W.Frag} {Er : Exc → Hp → Prop} {S : SC} {OO : List (List Cell)} {σ : St} {Fd : Ends → β → Hp → Prop} [fd : FdOk Fd] {u : TS}
end
end L2

/-! ### try: return .., a suite that falls through; a shared thing of two kinds opened -/
namespace L2
open PySem PySem.Spec PyProof.Rows
section
variable {K : PySem.W.Frag} {Er : Exc → Hp → Prop} {S : SC} {OO OO' OO2 : List (List Cell)} {σ : St} {α β γ ρ ι : Type} {mg : Str → Option Value} {E : XK} {u : TS}
def jB (OO : List (List Cell)) (S : SC) : Jn Unit St := ⟨fun _ => OO, fun x => x, fun _ _ => S⟩
end
end L2

/-! ### sorted of pairs of whole numbers, all of them unlike -/
namespace L2
open PySem PySem.Spec PyProof.Rows
section
variable {α : Type}
structure SBk (κ : SortKind) (a₀ : Array Keyed) (st : SortSt) : Prop where
  perm : (arrOf st).Perm a₀
  kind : kindOf st = κ
  failed : failedOf st = none
  pend : pendingOf st = #[]
theorem SBk.size {κ : SortKind} {a₀ : Array Keyed} {st : SortSt} (h : SBk κ a₀ st) : (arrOf st).size = a₀.size := h.perm.size_eq
structure AskK (prog : Program) (w : World) (A : Around) (E : Value → Shared → Prop) (s : Shared) (lt : α → α → Bool) (kf : Value → α) (d : α) (a0 : Array Keyed) (κ : SortKind) : Prop extends Ord lt where
  ask : ∀ {st : SortSt} {i j : Nat} {Q : Option Bool → SortSt → Prop}, SBk κ a0 st → i < a0.size → j < a0.size → Q (some (lt (kp kf d (arrOf st) i) (kp kf d (arrOf st) j))) st → wpS (model prog w) A E s (ltAt' i j) Q st
  two : ∀ {st : SortSt} {i j : Nat}, SBk κ a0 st → i < a0.size → j < a0.size → i ≠ j → lt (kp kf d (arrOf st) i) (kp kf d (arrOf st) j) = true ∨ lt (kp kf d (arrOf st) j) (kp kf d (arrOf st) i) = true
variable {prog : Program} {w : World} {A : Around} {E : Value → Shared → Prop} {s : Shared} {lt : α → α → Bool} {kf : Value → α} {d : α} {a0 : Array Keyed} {κ : SortKind}
theorem AskK.other (L : AskK prog w A E s lt kf d a0 κ) {st : SortSt} {i j : Nat} (B : SBk κ a0 st) (hi : i < a0.size) (hj : j < a0.size) (n : i ≠ j) (h : lt (kp kf d (arrOf st) i) (kp kf d (arrOf st) j) = false) : lt (kp kf d (arrOf st) j) (kp kf d (arrOf st) i) = true := (L.two B hi hj n).resolve_left (by rw [h]; decide)
end
section
variable {prog : Program} {w : World} {A : Around} {E : Value → Shared → Prop} {s : Shared} {α : Type}
end
section
variable {X : Cx}
end
end L2

/-! ### xs[lo:hi] = ys, both lists -/
namespace L2
open PySem PySem.Spec PyProof.Rows
section
variable {prog : Program} {w : World} {A : Around} {E : Value → Shared → Prop} {s : Shared}
end
section
variable {X : Cx} {o : Expr} {lo hi : Option Expr} {pos p2 : Pos} {to : TE} {tl th : TO}
end
end L2

/-! ### sorted(d.items()) -/
namespace L2
open PySem PySem.Spec PyProof.Rows
section
variable {X : Cx} {pins : List (Addr × Obj)} {σ : St} {H G : Hp} {s : Shared} {h' : Heap}
end
section
variable {X : Cx} {l : Expr} {tl : TE} {pos npos apos cpos : Pos}
end
end L2

/-! ### sorted(t), t a tuple of whole numbers -/
namespace L2
open PySem PySem.Spec PyProof.Rows
section
variable {X : Cx}
end
end L2

/-! ### mixed things in tuples; sorted of pairs -/
namespace L2
open PySem PySem.Spec PyProof.Rows
inductive Mx where
  | i (n : Int) | s (x : Str) | b (v : Bool)
  deriving DecidableEq
def Mx.v : Mx → V
  | .i n => .int n
  | .s x => .str x
  | .b v => .bl v
section
variable {K : PySem.W.Frag} {Er : Exc → Hp → Prop} {S : SC} {OO OO' OO1 OO2 OO3 : List (List Cell)} {σ : St} {α β γ δ ρ : Type} {u : TS}
end
end L2

/-! ### a slice stored; d.pop(k); defs that change their first argument and give nothing back; an argument handed over for good; ways out of a framed def -/
namespace L2
open PySem PySem.Spec PyProof.Rows
section
variable {K : PySem.W.Frag} {Er : Exc → Hp → Prop} {S : SC} {OO OO' OO1 OO2 OO3 : List (List Cell)} {σ : St} {α β γ δ ρ ι : Type} {α1 α2 α3 α4 α5 : Type} {u : TS}
variable {Fd : Ends → β → Hp → Prop} [fd : FdOk Fd]
theorem EvP.st {t : TO} {m : Res (Option Int)} (he : EvP Er S OO σ t m) {H : Hp} {D : Ends} {Q : Option Int → Hp → Prop} (w : W OO H) (s : S.p (hid H OO)) {f : Option Int → Res β} (P : PZ Er (Fd D) (hid H OO) (m.bind f))
    (hk : ∀ a H', Same H H' → W OO H' → S.p (hid H' OO) → PZ Er (Fd D) (hid H' OO) (f a) → Q a H') : t σ H Q := by
  refine he H Q w s ?_
  cases m with
  | bad => exact P
  | err x => exact fun H' s' => P H' (hid_same.trans s')
  | ok a => exact fun H' s' => hk a H' s' (w.keep s') (S.mono _ _ (hid_mono s') s) (PZ.tr (fd.tr D) (hid_mono s') P)
/-! a def that changes its first argument and gives nothing back -/
/-! an argument handed over for good -/
/-! ways out of a framed def -/
section
variable {o : OE ρ} {kf : Nat} {Cf : List Cell} {J : Jn γ ι}
end
end
end L2

/-! ### a loop over one item of a deep list of ours, which stays -/
namespace L2
open PySem PySem.Spec PyProof.Rows
section
variable {K : PySem.W.Frag} {Er : Exc → Hp → Prop} {S : SC} {OO : List (List Cell)} {σ : St} {α β γ ρ ι : Type} {u : TS} {Fd : Ends → β → Hp → Prop} [fd : FdOk Fd]
end
end L2

/-! ### errors with a field of their own: in flight, with the dict they hold -/
namespace L2
open PySem PySem.Spec PyProof.Rows

theorem dict_mapFields (f : Array Value → Array Value) (o : Obj) : (Obj.mapFields f o).dict = o.dict := by
  unfold Obj.mapFields; split <;> rfl
/-- the error at e is traced; its dict is od -/
def TrD (h base : Heap) (e : Addr) (cls : Value) (od : Option Addr) (fl : Value) : Prop :=
  ∃ oe vs T oT ts, h.get? e = some oe ∧ (oe.cls = cls ∧ oe.dict = od) ∧ oe.data = .fields vs ∧ vs[1]? = some (.ref T) ∧ base.get? T = none ∧ T ≠ e ∧ h.get? T = some oT ∧ oT.data = .fields ts ∧ ts[3]? = some fl
/-- in flight over the frames l -/
structure FyD (base : Heap) (l : List Env) (e : Addr) (cls : Value) (od : Option Addr) (fl : Value) (h : Heap) : Prop where
  stay : base.StaysIn h
  new : base.get? e = none
  frames : h.FunFrames base l
  tr : TrD h base e cls od fl
section
variable {M : Model} {A : Around} {E : Value → Shared → Prop} {s : Shared} {base : Heap} {env : Env} {outer l : List Env} {L e : Addr} {oe : Obj} {vs : Array Value} {head cls fl : Value} {od : Option Addr} {Q : Unit → Shared → Prop}
theorem entryD {hadNext : Bool} (hfr : A.frames = some (env :: outer)) (hl : s.heap.FunFrames base (env :: outer)) (hf : env.frame = some L) (he : s.heap.get? e = some oe) (hkb : base.StaysIn s.heap) (hen : base.get? e = none) (hd : oe.data = .fields vs) (hsz : 1 < vs.size)
    (h : ∀ h', FyD base (env :: outer) e oe.cls oe.dict (rawInt L) h' → s.heap.UpToSlots h' → Q () { s with heap := h' }) :
    wpAny M A (do let a ← frameOf env; let pl ← entryPlaceOf L hadNext; let b ← EntryCells.newEntry head a .none (rawInt L) .none pl; setField (.ref e) 1 b) Q E s := by
  have hne : e ∉ frs (env :: outer) := fun hm => by
    obtain ⟨_, o, ho, hnf⟩ := hl.mem hm
    rw [he] at ho; cases ho; exact hnf vs hd
  refine wpAny_bind (wpAny_frameOf_fun hfr hl hf fun h₁ hs₁ => wpAny_bind (wpAny_entryPlaceOf fun pl hpl => ?_))
  unfold EntryCells.newEntry newFields
  refine wpAny_bind (wpAny_newObj_type ?_ (hpl.sizeOk5 _ _ _ _ _))
  have he₁ : h₁.get? e = some oe := (hs₁.2.1 e hne).trans he
  have kb₁ : base.StaysIn h₁ := fun b o hbo => (hs₁.2.1 b fun hm => by rw [(hl.mem hm).1] at hbo; cases hbo).trans (hkb b o hbo)
  generalize hN : ({ cls := .type "traceback", dict := none, data := .fields ([head, .ref L, .none, rawInt L, .none] ++ (if pl.isEmpty then List.replicate 6 Value.none else pl)).toArray } : Obj) = oN
  have dN : oN.data = .fields ([head, .ref L, .none, rawInt L, .none] ++ (if pl.isEmpty then List.replicate 6 Value.none else pl)).toArray := by rw [← hN]
  have he₂ := Heap.get?_push_of_some (h := h₁) oN he₁
  refine wpAny_setField he₂ hd hsz ?_
  have hTe : h₁.objs.size ≠ e := Nat.ne_of_gt (Heap.lt_size he₁)
  have hd₃ := Obj.data_mapFields hd (·.setIfInBounds 1 (Value.ref h₁.objs.size))
  have he₃ := Heap.get?_update_self (Obj.mapFields (·.setIfInBounds 1 (Value.ref h₁.objs.size))) he₂ (Obj.isFreed_of_fields hd₃)
  have hT₃ := (Heap.get?_update_other (h₁.push oN) (Obj.mapFields (·.setIfInBounds 1 (Value.ref h₁.objs.size))) (Ne.symm hTe)).trans (Heap.get?_push_size h₁ (Obj.isFreed_of_fields dN))
  have keep : ∀ b o, b ≠ e → h₁.get? b = some o → ((h₁.push oN).update e (Obj.mapFields (·.setIfInBounds 1 (Value.ref h₁.objs.size)))).get? b = some o := fun b o hbe hb => by
    rw [Heap.get?_update_other _ _ (Ne.symm hbe)]
    exact Heap.get?_push_of_some _ hb
  have nr : ∀ b o, s.heap.get? b = some o → (∀ vs, o.data ≠ .fields vs) → b ≠ e := fun b o hb hnf q => by
    rw [q, he] at hb; cases hb; exact hnf vs hd
  refine h _ ⟨fun b o hbo => keep b o (fun q => by rw [q, hen] at hbo; cases hbo) (kb₁ b o hbo), hen, hl.of_keeps fun b o hb hnf => ?_, ?_⟩ fun b o hb hnf => ?_
  · obtain ⟨sl, hs⟩ := hs₁.2.2 b o hb
    exact ⟨_, keep b _ (nr b o hb hnf) hs, rfl⟩
  · exact ⟨_, _, h₁.objs.size, oN, _, he₃, ⟨Obj.cls_mapFields _ _, dict_mapFields _ _⟩, hd₃, by simp [hsz], kb₁.fresh, hTe, hT₃, dN, rfl⟩
  · obtain ⟨sl, hs⟩ := hs₁.2.2 b o hb
    exact ⟨sl, keep b _ (nr b o hb hnf) hs⟩
theorem noteD0 (hfr : A.frames = some (env :: outer)) (hl : s.heap.FunFrames base (env :: outer)) (hf : env.frame = some L) (he : s.heap.get? e = some oe) (hkb : base.StaysIn s.heap) (hen : base.get? e = none) (hd : oe.data = .fields vs) (h1 : vs[1]? = some .none)
    (h : ∀ h', FyD base (env :: outer) e oe.cls oe.dict (rawInt L) h' → s.heap.UpToSlots h' → Q () { s with heap := h' }) : wpAny M A (noteFrame (.ref e) env) Q E s := by
  unfold noteFrame
  simp only [hf]
  refine wpAny_bind (wpAny_field he hd h1 ?_)
  rw [if_neg (by decide)]
  exact entryD hfr hl hf he hkb hen hd (Array.getElem?_eq_some_iff.mp h1).1 h
theorem noteD (hfr : A.frames = some (env :: outer)) (hf : env.frame = some L) (x : FyD base (env :: outer) e cls od .none s.heap)
    (h : ∀ h', FyD base (env :: outer) e cls od (rawInt L) h' → s.heap.UpToSlots h' → Q () { s with heap := h' }) : wpAny M A (noteFrame (.ref e) env) Q E s := by
  obtain ⟨hkb, hen, hl, oe, vs, T, oT, ts, he, ⟨hc, hdi⟩, hd, h1, hnT, hTe, hT, hdT, h3⟩ := x
  subst hc hdi
  unfold noteFrame
  simp only [hf]
  refine wpAny_bind (wpAny_field he hd h1 ?_)
  rw [if_pos (show (Value.ref T != Value.none) = true from by simp)]
  refine wpAny_bind (wpAny_field hT hdT h3 ?_)
  rw [if_neg (show ¬ ((Value.none == rawInt L) = true) from by simp [rawInt])]
  refine wpAny_bind (wpAny_setField hT hdT (Array.getElem?_eq_some_iff.mp h3).1 ?_)
  have other : ∀ b, b ≠ T → (s.heap.update T (Obj.mapFields (·.setIfInBounds 3 Value.none))).get? b = s.heap.get? b := fun b hb => Heap.get?_update_other _ _ (Ne.symm hb)
  have nr : ∀ b o, s.heap.get? b = some o → (∀ vs, o.data ≠ .fields vs) → b ≠ T := fun b o hb hnf q => by
    rw [q, hT] at hb; cases hb; exact hnf ts hdT
  refine entryD hfr (hl.of_keeps fun b o hb hnf => ⟨o, (other b (nr b o hb hnf)).trans hb, rfl⟩) hf ((other e (Ne.symm hTe)).trans he) (fun b o hbo => (other b fun q => by rw [q, hnT] at hbo; cases hbo).trans (hkb b o hbo)) hen hd (Array.getElem?_eq_some_iff.mp h1).1
    fun h' y up => h h' y fun b o hb hnf => up b o ((other b (nr b o hb hnf)).trans hb) hnf
theorem landD (x : FyD base l e cls od fl s.heap) (h : ∀ h', FyD base l e cls od .none h' → s.heap.UpToSlots h' → Q () { s with heap := h' }) : wpAny M A (setFlight (.ref e) none) Q E s := by
  obtain ⟨hkb, hen, hl, oe, vs, T, oT, ts, he, hc, hd, h1, hnT, hTe, hT, hdT, h3⟩ := x
  have hsz : 3 < ts.size := (Array.getElem?_eq_some_iff.mp h3).1
  have other : ∀ b, b ≠ T → (s.heap.update T (Obj.mapFields (·.setIfInBounds 3 ((none : Option Addr).elim Value.none fun f => rawInt f)))).get? b = s.heap.get? b := fun b hb => Heap.get?_update_other _ _ (Ne.symm hb)
  have nr : ∀ b o, s.heap.get? b = some o → (∀ vs, o.data ≠ .fields vs) → b ≠ T := fun b o hb hnf q => by
    rw [q, hT] at hb; cases hb; exact hnf ts hdT
  unfold setFlight
  refine wpAny_bind (wpAny_field he hd h1 ?_)
  rw [if_pos (show (Value.ref T != Value.none) = true from by simp)]
  refine wpAny_setField hT hdT hsz (h _ ⟨fun b o hbo => (other b fun q => by rw [q, hnT] at hbo; cases hbo).trans (hkb b o hbo), hen, hl.of_keeps fun b o hb hnf => ⟨o, (other b (nr b o hb hnf)).trans hb, rfl⟩, ?_⟩ fun b o hb hnf => ⟨o.slots, (other b (nr b o hb hnf)).trans hb⟩)
  exact ⟨oe, vs, T, _, _, (other e (Ne.symm hTe)).trans he, hc, hd, h1, hnT, hTe, Heap.get?_update_self _ hT (Obj.isFreed_of_fields (Obj.data_mapFields hdT _)), Obj.data_mapFields hdT _, by simp [hsz]⟩
theorem leaveD0 (hfr : A.frames = some (env :: outer)) (hl : s.heap.FunFrames base (env :: outer)) (hf : env.frame = some L) (he : s.heap.get? e = some oe) (hkb : base.StaysIn s.heap) (hen : base.get? e = none) (hd : oe.data = .fields vs) (h1 : vs[1]? = some .none)
    (h : ∀ h', FyD base (env :: outer) e oe.cls oe.dict .none h' → s.heap.UpToSlots h' → Q () { s with heap := h' }) : wpAny M A (leaving env (.ref e)) Q E s := by
  unfold leaving
  exact wpAny_bind (noteD0 hfr hl hf he hkb hen hd h1 fun h1 x1 u1 => landD x1 fun h2 x2 u2 => h h2 x2 (u1.trans u2))
end

structure FlD (h0 h : Heap) (H : Hp) (a T : Addr) (cls : Value) (od : Option Addr) : Prop where
  na : h0.get? a = none
  nT : h0.get? T = none
  fa : H a = none
  fT : H T = none
  ne : T ≠ a
  obj : ∃ oe vs oT ts, h.get? a = some oe ∧ (oe.cls = cls ∧ oe.dict = od) ∧ oe.data = .fields vs ∧ vs[1]? = some (.ref T) ∧ h.get? T = some oT ∧ oT.data = .fields ts ∧ ts[3]? = some Value.none
section
variable {P : Program} {w : World} {h0 h h' base : Heap} {H : Hp} {a T : Addr} {cls : Value} {od : Option Addr} {l : List Env}
theorem FlD.fly (x : FlD h0 h H a T cls od) (hl : h.FunFrames base l) : FyD (hidF h (frs l) a T) l a cls od .none h := by
  obtain ⟨oe, vs, oT, ts, ha, hc, hd, h1, hT, hdT, h3⟩ := x.obj
  exact ⟨fun b o e => (of_hidF e).1, hidF_none (.inr (.inl rfl)), ff_base hl fun b hb => hidF_none (.inl hb), oe, vs, T, oT, ts, ha, hc, hd, h1, hidF_none (.inr (.inr rfl)), x.ne, hT, hdT, h3⟩
theorem FlD.after (x : FlD h0 h H a T cls od) (hl : h.FunFrames base l) (hfn : ∀ b ∈ frs l, H b = none) (hok : HOk P w H h) (th : ∀ b o, h0.get? b = some o → ∃ o', h.get? b = some o')
    (fy : FyD (hidF h (frs l) a T) l a cls od .none h') (up : h.UpToSlots h') : ∃ T', FlD h0 h' H a T' cls od ∧ HOk P w H h' ∧ Un (frs l) [a, T] H H h h' := by
  obtain ⟨st, _, _, oe, vs, T', oT, ts, ha, hc, hd, h1, hnT, hne, hT, hdT, h3⟩ := fy
  have key : T' = T ∨ h.get? T' = none := by
    cases q : h.get? T' with
    | none => exact .inr rfl
    | some o =>
      by_cases hf : T' ∈ frs l
      · obtain ⟨_, o2, ho2, hd2⟩ := hl.mem hf
        obtain ⟨sl, e2⟩ := up T' o2 ho2 hd2
        rw [hT] at e2; cases e2
        exact absurd hdT (hd2 ts)
      · by_cases hz : T' = T
        · exact .inl hz
        · rw [hidF_get q hf hne hz] at hnT; cases hnT
  have keep : ∀ b o, b ∉ frs l → b ≠ a → b ≠ T → h.get? b = some o → h'.get? b = some o := fun b o n1 n2 n3 e => st b o (hidF_get e n1 n2 n3)
  refine ⟨T', ⟨x.na, ?_, x.fa, ?_, hne, oe, vs, oT, ts, ha, hc, hd, h1, hT, hdT, h3⟩, hok.traced hfn x.fa x.fT keep, Un.traced hl keep up⟩
  · rcases key with e | e
    · rw [e]; exact x.nT
    · cases q : h0.get? T' with
      | none => rfl
      | some o => obtain ⟨o', e'⟩ := th _ _ q; rw [e] at e'; cases e'
  · rcases key with e | e
    · rw [e]; exact x.fT
    · exact hok.un0 e
end
/-- an error leaves a def, with its dict -/
def CXD (P : Program) (w : World) : CXT := fun outer H s E e s' => ∃ a T C od H', e = .ref a ∧ FlD s.heap s'.heap H' a T (.ref C) od ∧ s'.os = s.os ∧ AllBare s'.gens ∧ Un (frs outer) [] H H' s.heap s'.heap ∧ HOk P w H' s'.heap ∧ E (.ref C) od H'
theorem passND {P : Program} {w : World} {X : Cx} : Passes (CXD P w) X E0 := fun _ _ _ _ _ _ _ ⟨_, _, _, _, _, _, _, _, _, _, _, q⟩ => q.elim
section
variable {P : Program} {w : World} {K : PySem.W.Frag} {mg : Str → Option Value} {base : Heap} {N : List Str} {qual : Str} {scope : Scope} {f : Addr} {cd : Value} {A : Around} {outer : List Env} {s0 : Shared} {H0 : Hp} {E : XK}
/-- what a raise wants: the error is new and not ours, its dict (if it has one) is ours -/
def RaisesD (X : Cx) (E : XK) : Prop := ∀ (pins : List (Addr × Obj)) (σ : St) (H : Hp) (s : Shared) (C e : Addr) (oe : Obj) (vs : Array Value), Inv X pins σ H s → X.s₀.heap.get? e = none → H e = none → s.heap.get? e = some oe → oe.cls = .ref C → oe.data = .fields vs → vs[1]? = some .none → E (.ref C) oe.dict H → X.xe (.ref e) s
theorem raiseD : RaisesD (cxOf (CXD P w) P w K mg base N qual scope f cd A outer s0 H0 E) E := by
  intro pins σ H s C e oe vs I hn0 fe he hc hd hv q
  have nn : ∀ b, s.heap.get? b = none → s0.heap.get? b = none := fun b n => by
    cases q : s0.heap.get? b with
    | none => rfl
    | some o => obtain ⟨o', e⟩ := I.base.there b o q (fun z => nomatch z); rw [n] at e; cases e
  refine leaveD0 (base := hidF s.heap (frs (cxOf (CXD P w) P w K mg base N qual scope f cd A outer s0 H0 E).stack) e e) I.ok.frames (ff_base I.stack fun b hb => hidF_none (.inl hb)) rfl he (fun b o z => (of_hidF z).1) (hidF_none (.inr (.inl rfl))) hd hv fun h2 fl up2 => ?_
  obtain ⟨st, _, _, oe2, us, T, oT, ts, ha, hc2, hd2, h1, hnT, hne, hT, hdT, h3⟩ := fl
  have hT0 : s.heap.get? T = none := by
    cases q : s.heap.get? T with
    | none => rfl
    | some o =>
      by_cases hf : T ∈ frs (cxOf (CXD P w) P w K mg base N qual scope f cd A outer s0 H0 E).stack
      · obtain ⟨_, o2, ho2, hd2⟩ := I.stack.mem hf
        obtain ⟨sl, e2⟩ := up2 T o2 ho2 hd2
        rw [hT] at e2; cases e2
        exact absurd hdT (hd2 ts)
      · rw [hidF_get q hf hne hne] at hnT; cases hnT
  have keep : ∀ b o, b ∉ frs (cxOf (CXD P w) P w K mg base N qual scope f cd A outer s0 H0 E).stack → b ≠ e → b ≠ T → s.heap.get? b = some o → h2.get? b = some o := fun b o n1 n2 _ z => st b o (hidF_get z n1 n2 n2)
  have fT := I.hok.un0 hT0
  refine ⟨e, T, C, oe.dict, H, rfl, ⟨hn0, nn _ hT0, fe, fT, hne, oe2, us, oT, ts, ha, ⟨hc2.1.trans hc, hc2.2⟩, hd2, h1, hT, hdT, h3⟩, I.os, I.bare, I.base.past (Un.traced I.stack keep up2) (fun b hb => ?_) fun b hb => ?_, I.hok.traced I.stkFree fe fT keep, q⟩
  · rcases List.mem_cons.mp hb with z | z
    · rw [z]; exact hn0
    · rw [List.mem_singleton.mp z]; exact nn _ hT0
  · rcases List.mem_cons.mp (I.stkSub b hb) with z | z
    · exact .inr (z ▸ Heap.get?_none_of_le I.ok.above)
    · exact .inl z
end
/-- a def that may raise, with what the error holds -/
structure FnD (P : Program) (w : World) (K : PySem.W.Frag) (mg : Str → Option Value) (base : Heap) (k : Nat) (x : Str) (ps : List Str) (sp : Sp) : Prop where
  ex : ∃ f fd, FnOk P w K mg base (CXD P w) k f fd ps sp ∧ Binds K fd ps [] ∧ PySem.W.keepIn K (.ref f) = true ∧ mg x = some (.ref f)
section
variable {X : Cx} {k j : Nat} {x : Str} {ps : List Str} {sp : Sp} {e : Expr} {es : List Expr} {t : TA} {p pos : Pos} {E : XK}
end
theorem fn_mkD {P : Program} {w : World} {K : PySem.W.Frag} {mg : Str → Option Value} {base : Heap} {x : Str} {st : Stmt} {N ps : List Str} {k : Nat} {sp : Sp} (D : Def K mg x st ps) (S : FnScope N ps (defScope st)) (len : ∀ vs H Q E, sp vs H Q E → vs.length = ps.length)
    (hbody : ∀ (f : Addr) (cdv : Value) (A : Around) (outer : List Env) (s : Shared) (H : Hp) (vs : List V) (Q : VK) (E : XK), Room k (A.deeper (envOfC x (defScope st) s.heap.objs.size f cdv)) → sp vs H Q E →
      ∃ t, PSs (cxOf (CXD P w) P w K mg base N x (defScope st) f cdv A outer s H E) (defBody st) t ∧ t { nx := fun _ H' => Q .non H', rt := Q } (start N vs) H) : FnD P w K mg base (k + 1) x ps sp := by
  obtain ⟨f, fd, F, b, m⟩ := D
  obtain ⟨oc, od, kV, doc, pm, an, cdv, ct, osl, rfl, lk, hcd⟩ := F.ex
  exact ⟨f, _, fn_of lk hcd S len fun A outer s H vs Q E hr hsp => hbody f cdv A outer s H vs Q E hr hsp, b, F.kp, m⟩
end L2

/-! ### errors with a field: made, stored into, read -/
namespace L2
open PySem PySem.Spec PyProof.Rows PySem.W PySem.Builtin PySem.Builtin.ObjectAttr
section
variable {prog : Program} {w : World} {A : Around} {E : Value → Shared → Prop} {K : Frag} {x C P : Addr} {s : Shared} {cd : ClassData} {vs : Array Value} {sl : Array (Option Value)} {name : Str} {v : Value}
theorem storeD {Q : Unit → Shared → Prop} (X : K.In s.heap) (hx : s.heap.get? x = some ⟨.ref C, none, .fields vs, sl⟩) (hc : clsIn K C = some cd) (hm : cd.mro = .ref C :: .ref P :: vEr) (hd : cd.hasDict = true)
    (hs : findIn K (.ref C) "__setattr__" = some (some (.builtin "object.__setattr__"))) (hn : findIn K (.ref C) name = some none)
    (h : ∀ h' dx tk, s.heap.get? dx = none → h'.get? x = some ⟨.ref C, some dx, .fields vs, sl⟩ → h'.Ns1 dx (fun y => if y = name then some v else none) → (∀ b o, b ≠ x → s.heap.get? b = some o → h'.get? b = some o) → Q () { s with heap := h', toks := tk }) :
    wpAny (model prog w) A (setAttr (.ref x) name v) Q E s := by
  have I : InstAt s.heap x ⟨.ref C, none, .fields vs, sl⟩ C none := ⟨hx, rfl, rfl, trivial⟩
  refine set_plain X I hs ?_
  have SF := PySem.F.store_object
  have hmro : Looks (model prog w) s.heap (mroOf (.ref C)) cd.mro := (looks_clsIn X hc).andThen .now
  have sub : Looks (model prog w) s.heap (isInstance (.ref x) (.type "object")) true := I.type.andThen (looks_mroIn X (by unfold mroIn; rw [hc, Option.bind_some, hm]; rfl))
  refine codeAny_call_builtin SF.slot.plain SF.entry (@check_slot (model prog w) _ _ _ "object.__setattr__" "object" "__setattr__" (.ref x) [.str name _, v] [] _ SF.kind SF.split sub (SF.args (.ref x) (.str name _) v) ?_)
  rw [osa_eq, refuse_eq]
  refine wpAny_bind (wpAny_bind (I.type.at (wpAny_bind (hmro.at ?_))))
  rw [hm, refuseLoop_ref, refuseLoop_ref, PySem.F.store_ValueError.passes]
  refine wpAny_pure (wpAny_bind (I.type.at (wpAny_bind ((looks_findIn X hn).at (wpAny_bind ?_)))))
  refine wpAny_pure ?_
  refine wpAny_bind (wpAny_pure (wpAny_bind (wpAny_bind (wpAny_loadPart hx (wpAny_bind ((looks_clsIn X hc).at ?_))))))
  rw [hd]
  dsimp only
  rw [if_neg (show ¬ ((!true) = true) by decide), if_neg (show ¬ ((!true || !typeHasDict (Value.ref C)) = true) by simp [typeHasDict])]
  refine wpAny_bind (wpAny_alloc' ?_)
  have hx₁ : (s.heap.push { cls := .type "dict", data := .dict #[] }).get? x = some ⟨.ref C, none, .fields vs, sl⟩ := Heap.get?_push_of_some _ hx
  have hxs : x ≠ s.heap.objs.size := Nat.ne_of_lt (Heap.lt_size hx)
  refine wpAny_bind (wpAny_update' hx₁ ?_)
  refine wpAny_pure ?_
  have hgd : ((s.heap.push { cls := .type "dict", data := .dict #[] }).update x fun o => { cls := o.cls, dict := some s.heap.objs.size, data := o.data, slots := o.slots }).get? s.heap.objs.size = some { cls := .type "dict", data := .dict #[] } :=
    (Heap.get?_update_ne _ _ _ _ hxs.symm).trans (Heap.get?_push_at rfl rfl)
  have hnd : ((s.heap.push { cls := .type "dict", data := .dict #[] }).update x fun o => { cls := o.cls, dict := some s.heap.objs.size, data := o.data, slots := o.slots }).Ns s.heap.objs.size (fun _ => none) :=
    ⟨_, #[], _, hgd, rfl, fun e he => absurd he (by simp), fun _ => rfl⟩
  show wpAny _ _ (storeInDict s.heap.objs.size (.str name s.toks) name v) _ _ _
  unfold storeInDict newKeyGuard
  refine wpAny_bind (wpAny_pure (wpAny_bind (wpAny_nsSet1 (Heap.Ns1.of_empty hnd) fun h' hn' hs' => ?_)))
  obtain ⟨oD, esD, epD, hoD, hdD, hcD⟩ := hn'.count (Within.cons name v Within.nil)
  refine wpAny_bind (wpAny_lookBehind hoD (by rw [hdD]; exact pastItsLine_dict (Nat.le_trans hcD (by rw [List.length_cons, List.length_nil, sizeLine_eq]; omega))) ?_)
  refine wpAny_pure (h h' s.heap.objs.size _ (Heap.get?_none_of_le (Nat.le_refl _)) ?_ hn' fun b o hb e => ?_)
  · exact (hs'.2 x hxs).trans (Heap.get?_update_self _ hx₁ rfl)
  · exact (hs'.2 b (Nat.ne_of_lt (Heap.lt_size e))).trans ((Heap.get?_update_ne _ _ _ _ hb).trans (Heap.get?_push_of_some _ e))
theorem getD {expr : Bool} {Q : Value → Shared → Prop} {dx : Addr} {mA : Str → Option Value} (X : K.In s.heap) (hx : s.heap.get? x = some ⟨.ref C, some dx, .fields vs, sl⟩) (hns : s.heap.Ns1 dx mA) (hv : mA name = some v) (hh : handedIn v = true)
    (ga : findIn K (.ref C) "__getattribute__" = some (some (.builtin "BaseException.__getattribute__"))) (gh : findIn K (.ref C) "__getattr__" = some none) (mb : mroIn K C (.type "BaseException") = some true) (hd : hasDictIn K C = true) (hn : findIn K (.ref C) name = some none)
    (h : Q v { s with toks := s.toks + 1 }) : wpAny (model prog w) A (getAttr (.ref x) name expr) Q E s := by
  obtain ⟨hh', g, d, t, os⟩ := s
  obtain ⟨oD, es, ep, hoD, hdD, hks, hnd, hfi⟩ := id hns
  have I : InstAt hh' x ⟨.ref C, some dx, .fields vs, sl⟩ C (some oD) := ⟨hx, rfl, rfl, hoD⟩
  have hl : lookIn name oD = some (some v) := by
    unfold lookIn
    rw [hdD]
    have q := hfi name
    rw [hv] at q
    unfold nsFind findBy at q
    rw [← Array.find?_toList] at q
    dsimp only
    cases z : List.find? (fun x => x.key.isStr name) es.toList with
    | none => rw [z] at q; cases q
    | some en => rw [z] at q; exact congrArg some q
  have L0 := I.type (M := model prog w)
  have L1 := looks_findIn (M := model prog w) X ga
  have L2 := looks_findIn (M := model prog w) X gh
  have LB := looks_mroIn (M := model prog w) X mb
  have LF := looks_find (M := model prog w) X I (findObj_own hd hn rfl hl)
  have f3 := PySem.F.attr_ValueError.ga.bind (.ref x)
  have hx2 : (Value.builtin "BaseException.__getattribute__" == Value.builtin "object.__getattribute__") = false := by decide +kernel
  unfold getAttr getAttrBy
  refine wpAny_bind (wpAny_mkText (wpAny_holding (wpAny_bind (L0.at (wpAny_bind (L1.at ?_))))))
  dsimp only
  rw [hx2, Bool.and_false, if_neg Bool.false_ne_true]
  unfold getAttrByItsOwn hookBefore callGetattribute boundAndCalled
  refine wpAny_bind (L2.at ?_)
  have hx0 : (expr && onTheHeap (Value.builtin "BaseException.__getattribute__")) = false := by cases expr <;> rfl
  refine wpAny_bind (wpAny_attempt (wpAny_holding ?_))
  rw [hx0, if_neg Bool.false_ne_true, f3]
  refine wpAny_bind (wpAny_pure ?_)
  refine wpAny_call (codeAny_call_builtin PySem.F.attr_ValueError.ga.plain PySem.F.entry_bexc_ga ?_)
  have hk : builtinKind "BaseException.__getattribute__" = some .slot := by decide +kernel
  have hsplit : splitId "BaseException.__getattribute__" = some ("BaseException", "__getattribute__") := by decide +kernel
  have ha := PySem.F.args_bexc_ga (.ref x) (Value.str name t)
  simp only [checkBuiltinCall, hk, hsplit]
  unfold isInstance
  refine wpAny_bind (wpAny_bind (L0.at ?_))
  refine LB.at ?_
  rw [if_neg (by decide)]
  have fin : ∀ s1 : Shared, s1 = ⟨hh', g, d, t + 1, os⟩ → wpAny (model prog w) A.in1 («object.__getattribute__» { pos := [Value.ref x] ++ [Value.str name t] }) (fun fin s' => match fin with | .done (.ret u) => u = v ∧ s' = s1 | _ => False) (fun _ _ => False) s1 := by
    intro s1 hs1
    subst hs1
    unfold «object.__getattribute__» bindTo
    repeat (any_goals lk)
    exact ⟨rfl, rfl⟩
  unfold argsOk at ha
  have sg2 : ∀ sig, Manifest.signature? "BaseException.__getattribute__" = some sig → Bind.checkArgs "BaseException.__getattribute__" sig { pos := [Value.ref x, Value.str name t] } = pure () := fun sig e => by
    rw [e] at ha
    exact ha
  have rest : ∀ {P : Unit → Shared → Prop} {E' : Value → Shared → Prop} {s1 : Shared}, P () s1 → wpAny (model prog w) A.in1 (match Manifest.signature? "BaseException.__getattribute__" with | some sig => Bind.checkArgs "BaseException.__getattribute__" sig { pos := [Value.ref x] ++ [Value.str name t] } | _ => pure ()) P E' s1 := fun {P E' s1} p => by
    split
    · rename_i sig e
      rw [show [Value.ref x] ++ [Value.str name t] = [Value.ref x, Value.str name t] from rfl, sg2 sig e]
      exact wpAny_pure p
    · exact wpAny_pure p
  refine rest ?_
  refine wpAny_mono (fin _ rfl) (fun fi s' z => ?_) fun _ _ z => z.elim
  rcases fi with (_ | _ | _ | u) | _
  all_goals first | exact z.elim | skip
  obtain ⟨rfl, rfl⟩ := z
  show wpAny _ _ (handedOut _) _ _ _
  rw [handedOut_of hh]
  exact wpAny_pure h

end
section
variable {prog : Program} {w : World} {A : Around} {E : Value → Shared → Prop} {h : Heap} {g : Array GenState} {d : Drawn} {t : Nat} {os : OsState}
variable {nm q : Str} {C N : Addr} {bs bm bmB : List Value} {hdct : Bool} {sn : List Str} {sub : List Value} {ab : Bool} {col : Option Bool} {dd : Option Addr} {k0 k1 k2 k3 k5 : Option Value}
theorem callI0 {K : Frag} {rest : List Value} {fI : Addr} {Q : Fin → Shared → Prop} (X : K.In h) (T : OwnTail h vEr bm)
    (hC : h.get? C = some (excClassObj nm q C N bs bm hdct sn sub ab col dd k0 k1 k2 k3 k5 "ValueError.__new__")) (hi : findIn K (.ref C) "__init__" = some (some (.ref fI))) (hf : isFn K (.ref fI) = true)
    (hq : ∀ h' e, Heap.MadeExcOf h h' e (.ref C) rest → wpAny (model prog w) A (call (.ref fI) (.ref e :: rest)) (fun r s' => r = .none ∧ Q (.done (.ret (.ref e))) s') E ⟨h', g, d, t, os⟩) (hrest : rest.length ≤ sizeLine) :
    wpAny (model prog w) A (Builtin.«type.__call__» ⟨.ref C :: rest, []⟩) Q E ⟨h, g, d, t, os⟩ := by
  have Fn := PySem.F.excBase_ValueError
  repeat (first | with_reducible refine wpAny_loadPart_at hC ?_ | with_reducible refine wpAny_madeBy_exc hC ?_ | wp_step)
  refine codeAny_call_builtin_code (Code.quiet_builtin _ Fn.quiet) (wpAny_check_new_subU Fn (bmB := vEr) rfl T hC ?_)
  refine codeAny_exc_new_subU Fn (bmB := vEr) rfl Fn T hC ?_ hrest
  show wpAny _ _ _ _ _ _
  have kp : ∀ b o, h.get? b = some o → ((h.push { cls := .type "tuple", data := .seq rest.toArray }).push { cls := .ref C, data := .fields #[.ref h.objs.size, .none, .none, .none, .bool false, .none] }).get? b = some o := fun b o hb => Heap.get?_push_of_some _ (Heap.get?_push_of_some _ hb)
  have hget : ((h.push { cls := .type "tuple", data := .seq rest.toArray }).push { cls := .ref C, data := .fields #[.ref h.objs.size, .none, .none, .none, .bool false, .none] }).get? (h.objs.size + 1) = some { cls := .ref C, data := .fields #[.ref h.objs.size, .none, .none, .none, .bool false, .none] } := by heap_get
  have hC₁ := kp _ _ hC
  have X2 := X.keeps kp
  have hcC : (Value.ref C :: bm).contains (.ref C) = true := by simp
  have L1 := looks_findIn (M := model prog w) X2 hi
  have L2 := looks_typeIn (M := model prog w) X2 (beq_iff_eq.mp hf)
  unfold isInstance
  repeat (first | with_reducible refine wpAny_loadPart_at hget ?_ | (with_reducible refine wpAny_isSubtype_exc hC₁ ?_; rw [hcC]) | wp_step)
  show wpAny _ _ (typeLookup (.ref C) _) _ _ _
  refine L1.at ?_
  refine wpAny_holding (wpAny_bind ?_)
  unfold bindSpecial
  refine wpAny_bind (L2.at ?_)
  rw [if_pos (by decide)]
  refine wpAny_pure (wpAny_bind (wpAny_mono (hq _ (h.objs.size + 1) ⟨kp, Heap.get?_none_of_le (Nat.le_succ _), h.objs.size, hget, Heap.get?_none_of_le (Nat.le_refl _), ?_⟩) (fun r s' hr => ?_) fun _ _ x => x))
  · exact Heap.get?_push_of_some _ (Heap.get?_push_at rfl rfl)
  · obtain ⟨rfl, hQ⟩ := hr
    wp_walk
    exact hQ
/-- C(..), C an error's class with an __init__ of its own -/
theorem callI {K : Frag} {rest : List Value} {fI : Addr} {Q : Value → Shared → Prop} (X : K.In h) (T : OwnTail h vEr bm)
    (hC : h.get? C = some (excClassObj nm q C N bs bm hdct sn sub ab col dd k0 k1 k2 k3 k5 "ValueError.__new__")) (hi : findIn K (.ref C) "__init__" = some (some (.ref fI))) (hf : isFn K (.ref fI) = true)
    (hq : ∀ h' e, Heap.MadeExcOf h h' e (.ref C) rest →
      wpAny (model prog w) (A.under (.builtin "type.__call__" ⟨.ref C :: rest, []⟩)) (call (.ref fI) (.ref e :: rest)) (fun r s' => r = .none ∧ Q (.ref e) s') E ⟨h', g, d, t, os⟩) (hrest : rest.length ≤ sizeLine) :
    wpAny (model prog w) A (call (.ref C) rest) Q E ⟨h, g, d, t, os⟩ := by
  have f1 := tc_lookup
  have f2 := tc_bind (.ref C)
  have hT : (⟨h, g, d, t, os⟩ : Shared).TypeIs (.ref C) "type" := ⟨_, hC, rfl⟩
  refine wpAny_call (codeAny_of_tree ?_)
  show wpAny _ _ (callAny (.ref C) _) _ _ _
  repeat (any_goals (first | assumption | with_reducible refine wpAny_loadPart_at hC ?_ | wp_step))
  refine ⟨rfl, ?_⟩
  refine codeAny_call_builtin_at (Code.quiet_builtin _ (by decide +kernel)) entry_typeCall (wpAny_check_type_call_sub hC (callI0 X T hC hi hf (fun h' e hm => ?_) hrest))
  exact hq h' e hm
end
end L2

/-! ### raise C(v), C an error's class that keeps v in a field of its own -/
namespace L2
open PySem PySem.Spec PyProof.Rows PySem.W PySem.Builtin PySem.Builtin.ObjectAttr
/-- the error's object, as it lies -/
def EX (e C : Addr) (od : Option Addr) (vals : Array Value) (sl : Array (Option Value)) : Heap → Prop := fun h => h.get? e = some ⟨.ref C, od, .fields vals, sl⟩
theorem ex_ok {P : Program} {w : World} {H : Hp} {h : Heap} {e C : Addr} {od : Option Addr} {vals : Array Value} {sl : Array (Option Value)} (q : h.get? e = some ⟨.ref C, od, .fields vals, sl⟩) : ObjOk P w H h e (.ext (EX e C od vals sl)) :=
  ⟨q, ⟨_, q⟩, fun _ _ p k => k _ p⟩
def rem (H : Hp) (e : Addr) : Hp := fun b => if b = e then none else H b
section
variable {P : Program} {w : World} {fs ex : List Addr} {H : Hp} {h h' : Heap} {a e dx : Addr} {o o1 o2 : HO} {φ : Heap → Prop}
theorem Un.put (k : ∀ b u, h.get? b = some u → h'.get? b = some u) (hn : h.get? a = none) (hH : H a = none) : Un fs ex H (upd H a o) h h' where
  keep := fun b o e _ _ _ => k b o e
  slot := fun b o e _ _ _ => ⟨o.slots, k b o e⟩
  free := fun b o e n _ => by rw [upd_ne (fun z => by rw [z, hn] at e; cases e)]; exact n
  there := fun b o e _ => ⟨o, k b o e⟩
  tups := fun b xs q => by rw [upd_ne (ne_of_none q hH)]; exact q
  frzs := fun b o xs q => by rw [upd_ne (ne_of_none q hH)]; exact q
  tbls := fun b ps q => ⟨#[], by rw [upd_ne (ne_of_none q hH)]; simpa using q⟩
theorem HOk.put (x : HOk P w H h) (k : ∀ b u, h.get? b = some u → h'.get? b = some u) (hn : H a = none) (new : ObjOk P w (upd H a o) h' a o) : HOk P w (upd H a o) h' := fun b u e => by
  by_cases hb : b = a
  · subst hb; rw [upd_same] at e; cases e; exact new
  · rw [upd_ne hb] at e
    exact (x b u e).stay (fun c v _ q => k c v q) (fun c q => by rw [upd_ne (ne_of_none q hn)]; exact q) fun c xs q => by rw [upd_ne (ne_of_none q hn)]; exact q
theorem Un.store (he : H e = some (.ext φ)) (k : ∀ b u, b ≠ e → h.get? b = some u → h'.get? b = some u) (heo : ∃ u, h'.get? e = some u) (hn : h.get? dx = none) (hH : H dx = none) : Un fs ex H (upd (upd H dx o1) e o2) h h' := by
  have ne : ∀ b u, H b = some u → (∀ φ, u ≠ .ext φ) → b ≠ e := fun b u q n z => by rw [z, he] at q; cases q; exact n _ rfl
  have n0 : ∀ b, H b = none → b ≠ e := fun b q z => by rw [z, he] at q; cases q
  have two : ∀ b u, H b = some u → (∀ φ, u ≠ .ext φ) → upd (upd H dx o1) e o2 b = some u := fun b u q n => by rw [upd_ne (ne b u q n), upd_ne (ne_of_none q hH)]; exact q
  exact {
    keep := fun b o e n _ _ => k b o (n0 b n) e
    slot := fun b o e n _ _ => ⟨o.slots, k b o (n0 b n) e⟩
    free := fun b o e n _ => by rw [upd_ne (n0 b n), upd_ne (fun z => by rw [z, hn] at e; cases e)]; exact n
    there := fun b o q _ => by
      by_cases z : b = e
      · rw [z]; exact heo
      · exact ⟨o, k b o z q⟩
    tups := fun b xs q => two b _ q fun _ z => nomatch z
    frzs := fun b o xs q => two b _ q fun _ z => nomatch z
    tbls := fun b ps q => ⟨#[], by rw [two b _ q fun _ z => nomatch z]; simp⟩ }
theorem HOk.store (x : HOk P w H h) (he : H e = some (.ext φ)) (k : ∀ b u, b ≠ e → h.get? b = some u → h'.get? b = some u) (hH : H dx = none) (n1 : ObjOk P w (upd (upd H dx o1) e o2) h' dx o1) (n2 : ObjOk P w (upd (upd H dx o1) e o2) h' e o2) : HOk P w (upd (upd H dx o1) e o2) h' := fun b u q => by
  have ne : ∀ b u, H b = some u → (∀ φ, u ≠ .ext φ) → b ≠ e := fun b u q n z => by rw [z, he] at q; cases q; exact n _ rfl
  by_cases hb : b = e
  · subst hb; rw [upd_same] at q; cases q; exact n2
  · rw [upd_ne hb] at q
    by_cases hd : b = dx
    · subst hd; rw [upd_same] at q; cases q; exact n1
    · rw [upd_ne hd] at q
      refine (x b u q).stay (fun c v hc z => k c v ?_ z) (fun c z => by rw [upd_ne (ne c _ z fun _ y => nomatch y), upd_ne (ne_of_none z hH)]; exact z) fun c xs z => by rw [upd_ne (ne c _ z fun _ y => nomatch y), upd_ne (ne_of_none z hH)]; exact z
      rcases hc with z | z
      · rw [z]; exact hb
      · exact ne c _ z fun _ y => nomatch y
theorem Un.drop (he : H e = some (.ext φ)) : Un fs ex H (rem H e) h h := by
  have two : ∀ b u, H b = some u → (∀ φ, u ≠ .ext φ) → rem H e b = some u := fun b u q n => by
    unfold rem
    rw [if_neg (fun z => by rw [z, he] at q; cases q; exact n _ rfl)]; exact q
  exact {
    keep := fun b o e _ _ _ => e
    slot := fun b o e _ _ _ => ⟨o.slots, e⟩
    free := fun b o _ n _ => by unfold rem; split <;> first | rfl | exact n
    there := fun b o e _ => ⟨o, e⟩
    tups := fun b xs q => two b _ q fun _ z => nomatch z
    frzs := fun b o xs q => two b _ q fun _ z => nomatch z
    tbls := fun b ps q => ⟨#[], by rw [two b _ q fun _ z => nomatch z]; simp⟩ }
theorem HOk.drop (x : HOk P w H h) (he : H e = some (.ext φ)) : HOk P w (rem H e) h := fun b u q => by
  unfold rem at q
  split at q
  · cases q
  · have two : ∀ b u, H b = some u → (∀ φ, u ≠ .ext φ) → rem H e b = some u := fun b u q n => by
      unfold rem
      rw [if_neg (fun z => by rw [z, he] at q; cases q; exact n _ rfl)]; exact q
    exact (x b u q).stay (fun c v _ z => z) (fun c z => two c _ z fun _ y => nomatch y) fun c xs z => two c _ z fun _ y => nomatch y
end
/-- an error's class that keeps what it is made with in the field f -/
structure ExI (K : Frag) (C P fI : Addr) (f : Str) : Prop where
  cls : ∃ nm q N bs sn sub ab col dd k0 k1 k2 k3 k5, K.lookup C = some (excClassObj nm q C N bs (.ref P :: vEr) true sn sub ab col dd k0 k1 k2 k3 k5 "ValueError.__new__")
  par : excIn K P vEr "ValueError.__new__" = true
  sa : findIn K (.ref C) "__setattr__" = some (some (.builtin "object.__setattr__"))
  no : findIn K (.ref C) f = some none
  ini : findIn K (.ref C) "__init__" = some (some (.ref fI))
  fn : isFn K (.ref fI) = true
theorem ExI.cd {K : Frag} {C P fI : Addr} {f : Str} (Y : ExI K C P fI f) : ∃ cd, clsIn K C = some cd ∧ cd.mro = .ref C :: .ref P :: vEr ∧ cd.hasDict = true := by
  obtain ⟨nm, q, N, bs, sn, sub, ab, col, dd, k0, k1, k2, k3, k5, h⟩ := Y.cls
  unfold clsIn
  rw [h]
  exact ⟨_, rfl, rfl, rfl⟩
theorem ExI.tail {K : Frag} {C P fI : Addr} {f : Str} {h : Heap} (Y : ExI K C P fI f) (X : K.In h) : OwnTail h vEr (.ref P :: vEr) := by
  obtain ⟨bm, N, nm, q, bs, hdct, sn, sub, ab, col, dd, k0, k1, k2, k3, k5, mN, hC, hN, hni, T⟩ := exc_obj X Y.par
  exact .own hC hN hni .base
def sFldX (C : Addr) (f : Str) (ta tv : TE) : TS := fun D σ H => tv σ H fun y H1 => ta σ H1 fun x H2 => ∃ e vals sl, x = .ref e ∧ H2 e = some (.ext (EX e C none vals sl)) ∧ ∀ dx, H2 dx = none → D.nx σ (upd (upd H2 dx (.xd [(f, y)])) e (.ext (EX e C (some dx) vals sl)))
theorem ps_fldX {X : Cx} {o value : Expr} {ta tv : TE} {f : Str} {pos pos' : Pos} {C P fI : Addr} (Y : ExI X.K C P fI f) (ha : PE X o ta) (hv : PE X value tv) (hs : swapsWith value (some (.Attribute o f pos')) pos.line X.env = pure false) : PS X (.Assign [.Attribute o f pos'] value pos) (sFldX C f ta tv) := by
  intro pins s σ H D I h
  refine plainObj_wpAny_Assign_Attribute (thn (hv pins s σ H _ I h) fun u s1 ⟨y, H1, I1, ry, q⟩ => thn (ha pins s1 σ H1 _ I1 q) fun ov s2 ⟨x, H2, I2, rx, e, vals, sl, ex, he, q2⟩ => ?_) hs
  subst ex
  obtain rfl : ov = Value.ref e := rx
  obtain ⟨cd, hc, hm, hd⟩ := Y.cd
  have hx : s2.heap.get? e = some ⟨.ref C, none, .fields vals, sl⟩ := (show ObjOk _ _ _ _ _ _ from I2.hok e _ he).1
  refine storeD I2.kIn hx hc hm hd Y.sa Y.no fun h' dx tk hn hx' hns hk => ⟨σ, _, I2.un (Un.store he hk ⟨_, hx'⟩ hn (I2.hok.un0 hn)) (I2.hok.store he hk (I2.hok.un0 hn) ?_ (ex_ok hx')), q2 dx (I2.hok.un0 hn)⟩
  refine ⟨_, hns, fun g => ?_⟩
  by_cases z : g = f
  · rw [if_pos z, z]
    show RelO (List.lookup f [(f, y)]) _
    rw [List.lookup_cons, beq_self_eq_true]; exact ry
  · rw [if_neg z]
    show RelO (List.lookup g [(f, y)]) _
    rw [List.lookup_cons, beq_eq_false_iff_ne.mpr z]; exact True.intro
/-- what its __init__ does -/
def spI (C : Addr) (f : Str) : Sp := fun vs H Q _ => ∃ e v vals sl, vs = [.ref e, v] ∧ H e = some (.ext (EX e C none vals sl)) ∧ ∀ dx, H dx = none → Q .non (upd (upd H dx (.xd [(f, v)])) e (.ext (EX e C (some dx) vals sl)))
/-- raise C(v) -/
def tRaiseF (C : Addr) (f : Str) (E : XK) (t : TA) : TS := fun _ σ H => t σ H fun vs H1 => ∃ v, vs = [v] ∧ ∀ dx, H1 dx = none → E (.ref C) (some dx) (upd H1 dx (.xd [(f, v)]))
section
variable {M : Model} {A : Around} {E : Value → Shared → Prop} {env : Env}
variable {nm q : Str} {C N : Addr} {bs bm : List Value} {hdct : Bool} {sn : List Str} {sub : List Value} {ab : Bool} {col : Option Bool} {dd : Option Addr} {k0 k1 k2 k3 k5 : Option Value} {newId : String}
theorem raiseStmtD {s : Shared} {x : Sem Value} {Q : Flow → Shared → Prop} (hbase : bm.contains (.type "BaseException") = true) (hh : A.handled = none)
    (h : wpAny M A x (fun v s₁ => ∃ e t od sl, v = .ref e ∧ s₁.heap.get? C = some (excClassObj nm q C N bs bm hdct sn sub ab col dd k0 k1 k2 k3 k5 newId) ∧
      s₁.heap.get? e = some ⟨.ref C, od, .fields #[.ref t, .none, .none, .none, .bool false, .none], sl⟩ ∧ E (.ref e) s₁) E s) : wpAny M A (raiseStmt env (some x) none) Q E s := by
  have hcB : (Value.ref C :: bm).contains (.type "BaseException") = true := by rw [List.contains_cons, hbase, Bool.or_true]
  unfold raiseStmt
  refine wpAny_bind (wpAny_mono h (fun v s₁ h₁ => ?_) fun _ _ x => x)
  obtain ⟨e, t, od, sl, rfl, hC, he, hE⟩ := h₁
  obtain ⟨hp, g, d, tk, os⟩ := s₁
  repeat (first | with_reducible refine wpAny_loadPart_at he ?_ | with_reducible refine wpAny_loadPart_at hC ?_ | (with_reducible refine wpAny_isSubtype_exc hC ?_; rw [hcB]) | wp_step)
  exact wpAny_raiseNew_none hh hE
end
section
variable {X : Cx} {E : XK} {C P fI : Addr} {f x a b : Str} {e : Expr} {t : TA} {np cpos pos : Pos} {fd : FuncData} {k : Nat}
theorem ps_raiseF (hR : RaisesD X E) (hc : X.calm = true) (hex : X.ex = []) (Y : ExI X.K C P fI f) (F : FnOk X.prog X.w X.K X.mg X.base (CXD X.prog X.w) 1 fI fd [a, b] (spI C f)) (hb : Binds X.K fd [a, b] []) (hr : Room k X.A) (hk : 2 ≤ k) (hp : Passes (CXD X.prog X.w) X E0) (hg : Gl X x) (hm : X.mg x = some (.ref C)) (ha : PA X [e] t) (hdb : (x == ("__debug__" : Str)) = false := by decide)
    (he : starEach [e] X.env = (false, eval e X.env) :: starEach [] X.env := by rfl) (hpl : (backTo cpos (starEach [] X.env)).any (·.1) = false := by rfl) :
    PS X (.Raise (some (.Call (.Name x np) [e] [] cpos)) none pos) (tRaiseF C f E t) := by
  intro pins s σ H D I h
  obtain ⟨nm, q, N, bs, sn, sub, ab, col, dd, k0, k1, k2, k3, k5, hK⟩ := Y.cls
  rw [arm_exec_Raise]
  have hpl2 : (backTo cpos (starEach [e] X.env)).any (·.1) = false := by rw [he]; show (false || (backTo cpos (starEach [] X.env)).any (·.1)) = false; rw [hpl]; rfl
  have T0 := Y.tail I.kIn
  refine wpAny_bind (wpAny_standAt (raiseStmtD (C := C) (bm := .ref P :: vEr) (nm := nm) (q := q) (N := N) (bs := bs) (hdct := true) (sn := sn) (sub := sub) (ab := ab) (col := col) (dd := dd) (k0 := k0) (k1 := k1) (k2 := k2) (k3 := k3) (k5 := k5) (newId := "ValueError.__new__") (T0.hasType rfl) (I.ok.hd hc) (wpAny_bind (wpAny_mono (wpAny_Call_ofName (ld_glob I hg hm ?_ hdb)) (fun v s₃ h₃ => wpAny_bind (wpAny_standAt (wpAny_pure h₃))) fun _ _ x => x))))
  have h2 := ha cpos pins s σ H _ I h
  have h3 : wpAny (model X.prog X.w) X.A (evalArgs (.ref C) true (backTo cpos (starEach [e] X.env)) []) (fun a s₂ => ∃ us v H1, a = ⟨us, []⟩ ∧ Inv X pins σ H1 s₂ ∧ Vals [v] us ∧ ∀ dx, H1 dx = none → E (.ref C) (some dx) (upd H1 dx (.xd [(f, v)]))) X.xe s := by
    rw [he] at h2 ⊢
    refine Calls.evalArgs_plain (wpAny_mono h2 (fun us s2 ⟨vs, H1, I1, r, v, hv, hq⟩ => ?_) fun _ _ y => y)
    subst hv
    exact ⟨us, v, H1, rfl, I1, r, hq⟩
  unfold callWith
  refine wpAny_bind (wpAny_holding (wpAny_mono h3 (fun a s₂ h₂ => wpAny_bind (wpAny_standAt ?_)) fun _ _ x => x))
  obtain ⟨us, v, H1, rfl, I1, r, hE⟩ := h₂
  obtain ⟨hh, g, d, tk, os⟩ := s₂
  simp only [hpl2]
  have hC := I1.kIn C _ hK
  refine wpAny_bind (wpAny_keeperOf_exc hC ?_)
  refine wpAny_bind (callI I1.kIn (Y.tail I1.kIn) hC Y.ini Y.fn (fun h' ea hm => ?_) ?_)
  · obtain ⟨ta, hea, hta, htt⟩ := hm.there
    have fe := I1.hok.un0 hm.new
    have I2 : Inv X pins σ (upd H1 ea (.ext (EX ea C none #[.ref ta, .none, .none, .none, .bool false, .none] #[]))) ⟨h', g, d, tk, os⟩ := I1.un (t' := tk) (Un.put hm.keeps hm.new fe) (I1.hok.put hm.keeps fe (ex_ok hea))
    have r2 : Vals [V.ref ea, v] (Value.ref ea :: us) := .cons rfl r
    refine wpAny_call (codeAny_mono (F.run _ X.stack _ _ ⟨Value.ref ea :: us, []⟩ (Value.ref ea :: us) [V.ref ea, v]
      (fun v2 H2 => v2 = .non ∧ ∃ dx, H1 dx = none ∧ dx ≠ ea ∧ H2 = upd (upd (upd H1 ea (.ext (EX ea C none #[.ref ta, .none, .none, .none, .bool false, .none] #[]))) dx (.xd [(f, v)])) ea (.ext (EX ea C (some dx) #[.ref ta, .none, .none, .none, .bool false, .none] #[])))
      E0 ((hr.mono hk).make C us []) (I2.env0.make C us []) ?_ r2 ⟨ea, v, _, _, rfl, upd_same, fun dx hdx => ⟨rfl, dx, ?_, ?_, rfl⟩⟩) fun rr s' hq' => ?_)
    · have z := hb ⟨h', g, d, tk, os⟩ (Value.ref ea :: us) I2.kIn (by rw [List.append_nil, ← r2.length]; rfl)
      rwa [List.append_nil] at z
    · by_cases z : dx = ea
      · rw [z]; exact fe
      · rw [upd_ne z] at hdx; exact hdx
    · intro z
      rw [z, upd_same] at hdx; cases hdx
    · cases rr with
      | error e => exact (hp pins σ _ _ e s' I2 hq')
      | ok fl =>
        cases fl with
        | next => exact False.elim hq'
        | brk => exact False.elim hq'
        | cont => exact False.elim hq'
        | ret u =>
          obtain ⟨v2, H2, I3, rv, ev, dx, hdx, ned, rfl⟩ := I2.after hq'
          subst ev
          refine ⟨rv, wpAny_bind (wpAny_holding (wpAny_point (wpAny_pure ?_)))⟩
          have hx : s'.heap.get? ea = some ⟨.ref C, some dx, .fields #[.ref ta, .none, .none, .none, .bool false, .none], #[]⟩ := (show ObjOk _ _ _ _ _ _ from I3.hok ea _ upd_same).1
          have I4 : Inv X pins σ _ s' := I3.un (t' := s'.toks) (Un.drop upd_same) (I3.hok.drop upd_same)
          have eH : rem (upd (upd (upd H1 ea (.ext (EX ea C none #[.ref ta, .none, .none, .none, .bool false, .none] #[]))) dx (.xd [(f, v)])) ea (.ext (EX ea C (some dx) #[.ref ta, .none, .none, .none, .bool false, .none] #[]))) ea = upd H1 dx (.xd [(f, v)]) := by
            funext b
            unfold rem
            by_cases z : b = ea
            · rw [if_pos z, z, upd_ne ned.symm]; exact fe.symm
            · rw [if_neg z, upd_ne z]
              by_cases y : b = dx
              · rw [y, upd_same, upd_same]
              · rw [upd_ne y, upd_ne y, upd_ne z]
          rw [eH] at I4
          have hs0 : X.s₀.heap.get? ea = none := by
            cases q : X.s₀.heap.get? ea with
            | none => rfl
            | some o => obtain ⟨o', z⟩ := I1.base.there ea o q (by rw [hex]; exact fun y => nomatch y); rw [hm.new] at z; cases z
          exact ⟨ea, ta, some dx, #[], rfl, I3.kIn C _ hK, hx, hR pins σ _ s' C ea _ _ I4 hs0 (by rw [upd_ne ned.symm]; exact fe) hx rfl rfl rfl (hE dx hdx)⟩
  · rw [List.nil_append, ← r.length]; exact (show 1 ≤ sizeLine by decide)
/-- raise C(..), C made with no doing of its own -/
theorem ps_raiseP {es : List Expr} (hR : RaisesD X E) (hc : X.calm = true) (hex : X.ex = []) (hq : PySem.W.excIn X.K C vEr "ValueError.__new__" = true) (hg : Gl X x) (hm : X.mg x = some (.ref C)) (ha : PA X (e :: es) t) (hdb : (x == ("__debug__" : Str)) = false := by decide)
    (he : starEach (e :: es) X.env = (false, eval e X.env) :: starEach es X.env := by rfl) (hpl : (backTo cpos (starEach es X.env)).any (·.1) = false := by rfl) :
    PS X (.Raise (some (.Call (.Name x np) (e :: es) [] cpos)) none pos) (tRaise C E t) := by
  intro pins s σ H D I h
  obtain ⟨bm, N, nm, q, bs, hdct, sn, sub, ab, col, dd, k0, k1, k2, k3, k5, mN, hC, hN, hni, T⟩ := exc_obj I.ok.mod.kin hq
  refine wpAny_Raise_call_subU (C := C) (nm := nm) (q := q) (N := N) (bs := bs) (bm := bm) (hdct := hdct) (sn := sn) (sub := sub) (ab := ab) (col := col) (dd := dd) (k0 := k0) (k1 := k1) (k2 := k2) (k3 := k3) (k5 := k5) (bmB := vEr)
    PySem.F.excBase_ValueError rfl PySem.F.excBase_ValueError (mN := mN) (T.hasType rfl) (I.ok.hd hc) (by rw [he]; show (false || (backTo cpos (starEach es X.env)).any (·.1)) = false; rw [hpl]; rfl) hni (ld_glob I hg hm ⟨rfl, ?_⟩ hdb)
  have h2 := ha cpos pins s σ H _ I h
  rw [he] at h2 ⊢
  refine Calls.evalArgs_plain (wpAny_mono h2 (fun us s2 ⟨vs, H1, I1, r, hl, hE⟩ => ⟨rfl, ?_, I1.bk _ _ hC, hN.keeps I1.bk, T.keeps I1.bk, fun h' a hx => ?_⟩) fun _ _ y => y)
  · have : us.length ≤ 9 := by rw [← r.length]; exact hl
    exact Nat.le_trans this (by decide)
  · obtain ⟨ta, hea, _⟩ := hx.there
    have hs0 : X.s₀.heap.get? a = none := by
      cases q : X.s₀.heap.get? a with
      | none => rfl
      | some o => obtain ⟨o', z⟩ := I1.base.there a o q (by rw [hex]; exact fun y => nomatch y); rw [hx.new] at z; cases z
    exact hR pins σ H1 _ C a _ _ (I1.kept (t' := s2.toks) hx.keeps) hs0 (I1.hok.un0 hx.new) hea rfl rfl rfl hE
end
/-! try, with what the error holds -/
section
variable {X : Cx} {body suite : List Stmt} {b₀ : Stmt} {cn n : Str} {Ch : Addr} {i : Nat} {tb : XK → TS} {ts : Addr → Addr → Option Addr → TS} {np hpos pos : Pos}
end
/-! e.f of the error that is held -/
/-- the error at a, of the class C, with the dict od: e.f -/
def tFldE (K : Frag) (C : Addr) (od : Option Addr) (ta : TE) (a : Addr) (f : Str) : TE := fun σ H Q => ta σ H fun x H1 => ∃ dx v, x = .ref a ∧ od = some dx ∧ erA K C = true ∧ hasDictIn K C = true ∧ findIn K (.ref C) f = some none ∧ H1 dx = some (.xd [(f, v)]) ∧ Q v H1
theorem pe_fldE {X : Cx} {a C : Addr} {od : Option Addr} {o : Obj} {vs : Array Value} {f : Str} {e : Expr} {ta : TE} {pos : Pos} {pn : List (Addr × Obj)} (hpn : X.pn = pn) (hp : (a, o) ∈ pn) (hc : o.cls = .ref C) (ho : o.dict = od) (hd : o.data = .fields vs) (ha : PE X e ta) (hb : attributeBase e f X.env (eval e X.env) = eval e X.env) {K : Frag} (hK : X.K = K) : PE X (.Attribute e f pos) (tFldE K C od ta a f) := by
  subst hpn hK ho
  intro pins s σ H Q I h
  refine attr_of hb (thn (ha pins s σ H _ I h) fun ov s1 ⟨x, H1, I1, rx, dx, v, ex, hod, hA, hdi, hn, hx, q⟩ => ?_)
  subst ex
  obtain rfl : ov = Value.ref a := rx
  obtain ⟨e1, _⟩ := I1.pin (a, o) (List.mem_append_left _ hp)
  obtain ⟨oc, odd, oda, osl⟩ := o
  dsimp only at hc hd hod e1
  subst hc hd hod
  obtain ⟨mA, hns, hr⟩ := (show ObjOk X.prog X.w H1 s1.heap dx (.xd [(f, v)]) from I1.hok dx _ hx)
  have hf := hr f
  rw [List.lookup_cons, beq_self_eq_true] at hf
  obtain ⟨u, hu, ru⟩ : ∃ u, mA f = some u ∧ RelV v u := by
    cases z : mA f with
    | none => rw [z] at hf; exact hf.elim
    | some u => rw [z] at hf; exact ⟨u, rfl, hf⟩
  unfold erA at hA
  simp only [Bool.and_eq_true, beq_iff_eq] at hA
  obtain ⟨⟨⟨⟨⟨⟨⟨ga, gh⟩, cl⟩, sg⟩, tk⟩, mo⟩, ci⟩, mb⟩ := hA
  refine getD I1.kIn e1 hns hu ?_ ga gh mb hdi hn ⟨v, H1, I1.tok _, ru, q⟩
  cases v <;> first | (obtain ⟨t, rfl⟩ := (show ∃ t, _ from ru); rfl) | (have z := ru; unfold RelV at z; rw [z]; rfl)
end L2

/-! ### try: f(..), the names kept -/
namespace L2
open PySem PySem.Spec PyProof.Rows PySem.W
section
variable {X : Cx} {pins : List (Addr × Obj)} {σ : St} {H : Hp} {s : Shared} {h' : Heap}
theorem Inv.gone {m : Str → Option Value} {t' i : Nat} {n : Str} {v' : Option Value} (I : Inv X pins σ H s) (hN : X.N.Nodup) (hi : X.N[i]? = some n)
    (hl : ∀ (i : Nat) (x : Str) (v : V), X.N[i]? = some x → σ[i]? = some (some v) → Vis X.env.scope x → ∃ u, RelV v u ∧ Look X.env s.heap m x u)
    (hn : h'.Ns X.env.locals (fun x => if x = n then v' else m x)) (sb : Heap.SameBut X.env.locals s.heap h') : Inv X pins (σ.set i none) H { s with heap := h', toks := t' } := by
  have v : Un [] [X.env.locals] H H s.heap h' := ⟨fun b o e n _ hx => (sb.2 b fun z => hx (by simp [z])).trans e, (fun b o e n hb _ => nomatch hb), fun b o e n _ => n, fun b o e hx => ⟨o, (sb.2 b fun z => hx (by simp [z])).trans e⟩, fun _ _ q => q, fun _ _ _ q => q, fun _ ps q => ⟨#[], by simpa using q⟩⟩
  refine ⟨I.ok, I.os, I.bare, I.base.past v (fun b hb => ?_) (fun b hb => nomatch hb), ⟨_, hn, fun j x w e1 e2 e3 => ?_⟩, fun x c e => ?_, I.free, I.freeC, fun p hp => ?_, fun b o e => ?_, by rw [List.length_set]; exact I.len⟩
  · rw [List.mem_singleton.mp hb]; exact Heap.get?_none_of_le I.ok.above
  · by_cases hj : i = j
    · subst hj
      rw [List.getElem?_set] at e2
      rw [if_pos rfl] at e2
      split at e2 <;> cases e2
    · rw [List.getElem?_set_ne hj] at e2
      have hx : x ≠ n := fun z => by
        subst z
        obtain ⟨p1, q1⟩ := List.getElem?_eq_some_iff.mp hi
        exact hj ((List.getElem?_inj p1 hN).mp (hi.trans e1.symm))
      obtain ⟨u, r, q⟩ := hl j x w e1 e2 e3
      refine ⟨u, r, ?_⟩
      rcases q with ⟨k, q⟩ | ⟨k, c, e, o, z1, z2⟩
      · exact .inl ⟨k, by show (if x = n then v' else m x) = some u; rw [if_neg hx]; exact q⟩
      · exact .inr ⟨k, c, e, o, (sb.2 c (I.cne x c e)).trans z1, z2⟩
  · obtain ⟨v, o, e1, e2⟩ := I.cell x c e
    exact ⟨v, o, (sb.2 c (I.cne x c e)).trans e1, e2⟩
  · obtain ⟨e, n, ne, nf, d⟩ := I.pin p hp
    exact ⟨(sb.2 p.1 ne).trans e, n, ne, nf, d⟩
  · refine (I.hok b o e).stay (fun c u hc q => (sb.2 c fun z => ?_).trans q) (fun _ q => q) fun _ _ q => q
    have hf := I.free
    rw [← z] at hf
    rcases hc with y | y
    · rw [y, e] at hf; cases hf
    · rw [y] at hf; cases hf
end
def tTryC (sp : Sp) (K : Frag) (cc : Value) (i : Nat) (t : TA) (ts : Addr → Addr → Option Addr → TS) : TS := fun D σ H =>
  t σ H fun vs H1 => sp vs H1 (fun _ H2 => D.nx σ H2) (fun c od H' => exmOne K c cc = some true ∧ ∀ a C, c = .ref C → H' a = none → ts a C od { nx := fun σ' => D.nx (σ'.set i none), rt := D.rt, bk := fun σ' => D.bk (σ'.set i none), ct := fun σ' => D.ct (σ'.set i none) } (σ.set i (some (.ref a))) H')
section
variable {X : Cx} {suite : List Stmt} {b₀ : Stmt} {cn n fx : Str} {Ch : Addr} {i k j : Nat} {ts : Addr → Addr → Option Addr → TS} {np hpos pos p cpos epos : Pos} {ps : List Str} {sp : Sp} {e : Expr} {es : List Expr} {t : TA}
theorem ps_tryC (hxe : ∀ e s, ¬ X.xe e s) (G : FnD X.prog X.w X.K X.mg X.base k fx ps sp) (hr : Room j X.A) (hj : k ≤ j) (ha : PA X (e :: es) t) (hst : X.stack = X.env :: X.outer) (hex : X.ex = []) (hfr : X.env.frame = some X.env.locals) (hg : Gl X cn) (hm : X.mg cn = some (.ref Ch)) (hN : X.N.Nodup) (hi : X.N[i]? = some n) (hlo : X.env.kindOf n = some .local) (hlo2 : X.env.scope.names.lookup n = some .local)
    (hs : ∀ pn a o C vs od, (a, o) ∈ pn → o.cls = .ref C → o.dict = od → o.data = .fields vs → PSs (X.held a pn) (b₀ :: suite) (ts a C od))
    (hgf : Gl X fx := by rfl) (hdf : (fx == ("__debug__" : Str)) = false := by decide) (hsw : swapsWith (.Call (.Name fx p) (e :: es) [] cpos) none epos.line X.env = pure false := by rfl)
    (he : starEach (e :: es) X.env = (false, eval e X.env) :: starEach es X.env := by rfl) (hpl : (backTo cpos (starEach es X.env)).any (·.1) = false := by rfl) (hdb : (cn == ("__debug__" : Str)) = false := by decide) :
    PS X (.Try [.Expr (.Call (.Name fx p) (e :: es) [] cpos) epos] [.ExceptHandler (some (.Name cn np)) (some n) (b₀ :: suite) hpos] [] [] pos) (tTryC sp X.K (.ref Ch) i t ts) := by
  intro pins s σ H D I h
  obtain ⟨f, fd, F, b, kp, mf⟩ := G.ex
  refine wpAny_Try_except (wpAny_execs_cons (wpAny_Expr_any ?_ I.quiet hsw))
  refine wpAny_Call_Name_kw (ld_glob I hgf mf ?_ hdf)
  refine PySem.W.callWith_K (h₀ := X.base) I.ok.mod.kin kp (wpAny_mono (ha cpos pins s σ H _ I h) (fun us s1 ⟨vs, H1, I1, r, q⟩ => ⟨I1.kIn, ?_⟩) fun e s z => (hxe e s z).elim) he hpl
  have hl : (us ++ []).length = ps.length := by rw [List.append_nil, ← r.length]; exact F.len _ _ _ _ q
  have bb := b s1 us I1.kIn hl
  rw [List.append_nil] at bb
  refine wpAny_call (codeAny_mono (F.run X.A X.stack s1 H1 ⟨us, []⟩ us vs _ _ (hr.mono hj) I1.env0 bb r q) fun rr s' hq => ?_)
  cases rr with
  | ok fl =>
    cases fl with
    | ret u =>
      obtain ⟨v, H2, I2, _, q2⟩ := I1.after hq
      exact wpAny_execs_nil (wpAny_execs_nil ⟨σ, H2, I2, q2⟩)
    | next => exact False.elim hq
    | brk => exact False.elim hq
    | cont => exact False.elim hq
  | error e =>
    obtain ⟨a, T, C, od, H', he, x, os, bare, un, hok, hexm, hts⟩ := hq
    subst he
    have J : Inv X pins σ H' s' := I1.call' os un hok bare (fun b z => nomatch z)
    have q1 : ∀ b, s1.heap.get? b = none → X.s₀.heap.get? b = none ∧ b ≠ X.env.locals ∧ (∀ y c, X.env.cells.lookup y = some c → c ≠ b) ∧ ∀ p ∈ X.pn ++ pins, p.1 ≠ b := fun b nb => by
      refine ⟨?_, fun z => ?_, fun y c hy z => ?_, fun p hp z => ?_⟩
      · cases q : X.s₀.heap.get? b with
        | none => rfl
        | some o => obtain ⟨o', e⟩ := I1.base.there b o q (by rw [hex]; simp); rw [nb] at e; cases e
      · obtain ⟨m, ⟨o, es, ep, ho, _⟩, _⟩ := I1.loc
        rw [← z, nb] at ho; cases ho
      · obtain ⟨v, o, ho, _⟩ := I1.cell y c hy
        rw [z, nb] at ho; cases ho
      · obtain ⟨e, _⟩ := I1.pin p hp
        rw [z, nb] at e; cases e
    have hl : s'.heap.FunFrames X.base (X.env :: X.outer) := hst ▸ J.stack
    have hfn : ∀ b ∈ frs (X.env :: X.outer), H' b = none := hst ▸ J.stkFree
    have hA : X.A.frames = some (X.env :: X.outer) := hst ▸ I.ok.frames
    refine noteD hA hfr (x.fly hl) fun h2 hd2 up2 => ?_
    refine landD hd2 fun h3 fl3 up3 => ?_
    obtain ⟨T3, x3, hok3, un3⟩ := x.after hl hfn hok (fun b o e => un.there b o e (fun z => nomatch z)) fl3 (up2.trans up3)
    have ch : ∀ {U : Addr}, s1.heap.get? U = none → ∀ b ∈ [a, U], X.s₀.heap.get? b = none ∧ b ≠ X.env.locals ∧ (∀ y c, X.env.cells.lookup y = some c → c ≠ b) ∧ ∀ p ∈ X.pn ++ pins, p.1 ≠ b := fun {U} nU b hb => by
      rcases List.mem_cons.mp hb with z | z
      · rw [z]; exact q1 a x.na
      · rw [List.mem_singleton.mp z]; exact q1 U nU
    have J3 : Inv X pins σ H' { s' with heap := h3 } := J.past (by rw [hst]; exact un3) hok3 (ch x.nT)
    have hh : ∀ {pn : List (Addr × Obj)} {s4 : Shared}, Inv X pins σ H' s4 → (∀ p ∈ pn, p ∈ X.pn ++ pins ∨ (p.1 = a ∧ s4.heap.get? a = some p.2 ∧ ∀ v, p.2.data ≠ .cell v)) → Inv (X.held a pn) [] σ H' s4 := fun {pn s4} J4 hp4 => by
      refine ⟨I.ok.held _ _, J4.os, J4.bare, J4.base, J4.loc, J4.cell, J4.free, J4.freeC, fun p hp => ?_, J4.hok, J4.len⟩
      rcases hp4 p (by simpa using hp) with z | ⟨z1, z2, z3⟩
      · exact J4.pin p z
      · refine ⟨by rw [z1]; exact z2, by rw [z1]; exact x.fa, by rw [z1]; exact (q1 a x.na).2.1, ?_, z3⟩
        rw [z1]
        intro y
        obtain ⟨_, o2, ho2, _⟩ := I.ok.funs.mem y
        rw [(q1 a x.na).1] at ho2
        cases ho2
    have hl3 : h3.FunFrames X.base (X.env :: X.outer) := hst ▸ J3.stack
    obtain ⟨oe, vs, oT, tts, ha3, hc3, _⟩ := id x3.obj
    have J3h := hh (pn := X.pn ++ pins) J3 fun p hp => .inl hp
    refine wpAny_handleBy_cons (codeAny_handlers_test (ld_glob J3h hg hm ?_ hdb)) (by intro q; cases q)
    have LT : PySem.W.Looks (model X.prog X.w) h3 (typeOf (.ref a)) (.ref C) := hc3.1 ▸ (PySem.W.Looks.ld ha3).andThen .now
    refine PySem.W.exm_one J3.kIn LT hexm _ _ _ _ (fun _ _ e => e) ?_
    refine codeAny_handlers_suite_as ?_
    refine landD (x3.fly hl3) fun h5 fl5 up5 => ?_
    obtain ⟨T5, x5, hok5, un5⟩ := x3.after hl3 hfn hok3 (fun b o e => by
      obtain ⟨o', e'⟩ := un.there b o e (fun z => nomatch z)
      by_cases z : b ∈ [a, T]
      · rcases List.mem_cons.mp z with z | z
        · rw [z, x.na] at e; cases e
        · rw [List.mem_singleton.mp z, x.nT] at e; cases e
      · exact un3.there b o' e' z) fl5 up5
    have J5 : Inv X pins σ H' { s' with heap := h5 } := J3.past (by rw [hst]; exact un5) hok5 (ch x3.nT)
    obtain ⟨oe5, vs5, oT5, ts5, ha5, hc5, hd5, _⟩ := id x5.obj
    have J5h := hh (pn := (a, oe5) :: (X.pn ++ pins)) J5 fun p hp => by
      rcases List.mem_cons.mp hp with z | z
      · rw [z]; exact .inr ⟨rfl, ha5, fun v q => by rw [hd5] at q; cases q⟩
      · exact .inl z
    refine store_ok (X := X.held a ((a, oe5) :: (X.pn ++ pins))) (v := .ref a) J5h hN hi (.inl hlo2) rfl (fun s6 J6 => ?_) (.inr hlo2)
    refine wpAny_mono (hs _ a oe5 C vs5 od List.mem_cons_self hc5.1 hc5.2 hd5 [] s6 _ H' _ J6 (hts a C rfl x.fa)) (fun f s7 hq => ?_) fun _ _ z => z.elim
    have fin : ∀ {σ7 H7} {Q : Unit → Shared → Prop}, Inv (X.held a ((a, oe5) :: (X.pn ++ pins))) [] σ7 H7 s7 → (∀ s8, Inv X pins (σ7.set i none) H7 s8 → Q () s8) → wpAny (model X.prog X.w) X.A (do bindName X.env n .none; unbindBehindTheSuite X.env n hpos) Q X.xe s7 := fun {σ7 H7 Q} J7 q => by
      obtain ⟨m, hn, hnl⟩ := id J7.loc
      refine wpAny_nameGoes_keeps hlo hn (by rw [I.ok.kind]; rfl) fun h8 v8 hn8 sb8 => q _ ?_
      have J8 := J7.gone (t' := s7.toks + 1) hN hi hnl hn8 sb8
      exact ⟨I.ok, J8.os, J8.bare, J8.base, J8.loc, J8.cell, J8.free, J8.freeC, fun p hp => J8.pin p (by simpa using .inr (by simpa using hp)), J8.hok, J8.len⟩
    cases f with
    | next => obtain ⟨σ7, H7, J7, q⟩ := hq; exact fin J7 fun s8 J8 => ⟨_, H7, J8, q⟩
    | brk => obtain ⟨σ7, H7, J7, q⟩ := hq; exact fin J7 fun s8 J8 => ⟨_, H7, J8, q⟩
    | cont => obtain ⟨σ7, H7, J7, q⟩ := hq; exact fin J7 fun s8 J8 => ⟨_, H7, J8, q⟩
    | ret u => obtain ⟨v, σ7, H7, J7, r, q⟩ := hq; exact fin J7 fun s8 J8 => ⟨v, _, H7, J8, r, q⟩
end
end L2

/-! ### mirrors: errors with a field -/
namespace L2
open PySem PySem.Spec PyProof.Rows
abbrev SI := Str ⊕ Int
abbrev rSI : Enc SI := rEi rStr rInt
/-- what the error holds in its field f; its dict is od -/
def payR (f : Str) (od : Option Addr) : Enc Pay := fun K H _ p => match p with
  | .non => True
  | .int i => ∃ dx, od = some dx ∧ H dx = some (.xd [(f, .int i)])
  | .tag t xs => ∃ dx v, od = some dx ∧ H dx = some (.xd [(f, v)]) ∧ rPL rSI K H v (.inl t :: xs.map .inr)
instance {f : Str} {od : Option Addr} : MonoE (payR f od) := ⟨fun {K H H' v p} s h => by
  cases p with
  | non => exact True.intro
  | int i => obtain ⟨dx, e, q⟩ := h; exact ⟨dx, e, s _ _ q⟩
  | tag t xs => obtain ⟨dx, v, e, q, r⟩ := h; exact ⟨dx, v, e, s _ _ q, MonoE.mono s r⟩⟩
theorem W.vis {OO : List (List Cell)} {H : Hp} {b : Addr} {o : HO} (w : W OO H) (h : H b = some o) (m : mutK o = false) : hid H OO b = some o := hid_of h fun z => by
  obtain ⟨u, hu⟩ := fl_ex z
  have h1 := w.tr _ hu
  have h2 := w.mu _ hu
  rw [h] at h1
  cases h1
  rw [m] at h2; cases h2
theorem pay_hid {K : PySem.W.Frag} {f : Str} {od : Option Addr} {H : Hp} {OO : List (List Cell)} {v : V} {p : Pay} (w : W OO H) (h : payR f od K H v p) : payR f od K (hid H OO) v p := by
  cases p with
  | non => exact True.intro
  | int i => obtain ⟨dx, e, q⟩ := h; exact ⟨dx, e, w.vis q rfl⟩
  | tag t xs => obtain ⟨dx, v, e, q, r⟩ := h; exact ⟨dx, v, e, w.vis q rfl, FlatE.flat w.i r⟩
def fOf (n : Str) : Str := if n = ("NoChain" : Str) then "at" else "fault"
def ErD (K : PySem.W.Frag) (mg : Str → Option Value) (E : XK) : Exc → Hp → Prop := fun x H => ∀ C, mg x.cls = some (.ref C) → ∀ od, payR (fOf x.cls) od K H .non x.pay → E (.ref C) od H
def intsOf : List SI → Option (List Int)
  | [] => some []
  | .inr n :: r => (intsOf r).map (n :: ·)
  | .inl _ :: _ => none
def payT : List SI → Res Pay
  | .inl t :: r => match intsOf r with
    | some l => .ok (.tag t l)
    | none => .bad
  | _ => .bad
theorem intsOf_map : ∀ {r : List SI} {l : List Int}, intsOf r = some l → r = l.map .inr
  | [], l, h => by cases h; rfl
  | .inr n :: r, l, h => by
    unfold intsOf at h
    cases q : intsOf r with
    | none => rw [q] at h; cases h
    | some l' => rw [q] at h; cases h; rw [intsOf_map q]; rfl
  | .inl _ :: _, _, h => nomatch h
theorem intsOf_of : ∀ (l : List Int), intsOf (l.map .inr) = some l
  | [] => rfl
  | n :: r => by show (intsOf (r.map .inr)).map _ = _; rw [intsOf_of r]; rfl
theorem payT_ok {xs : List SI} {p : Pay} (h : payT xs = .ok p) : ∃ t l, p = .tag t l ∧ xs = .inl t :: l.map .inr := by
  unfold payT at h
  split at h
  · split at h
    · rename_i q; cases h; exact ⟨_, _, rfl, by rw [intsOf_map q]⟩
    · cases h
  · cases h
section
variable {K : PySem.W.Frag} {Er : Exc → Hp → Prop} {S : SC} {OO OO' OO2 : List (List Cell)} {σ : St} {α β γ ρ ι : Type} {α1 α2 α3 : Type} {mg : Str → Option Value} {E : XK} {u : TS}
def spD3 (mg : Str → Option Value) (r1 : Enc α1) (r2 : Enc α2) (r3 : Enc α3) (o : OE ρ) (f : α1 → α2 → α3 → Res ρ) (K : PySem.W.Frag) : Sp := fun vs H Q E => ∃ v1 v2 v3 a1 a2 a3, vs = [v1, v2, v3] ∧ r1 K H v1 a1 ∧ r2 K H v2 a2 ∧ r3 K H v3 a3 ∧ PX (ErD K mg E) (FF K o Q) H (f a1 a2 a3)
theorem top_UE {J : Jn Unit ι} {t : TS} {m : Res Unit} {Q : VK} {H : Hp} {D : Ends} (n : Nat) (h : Sv Er S (List.replicate n []) σ t (FNd J) m) (hs : S.p H) (PP : PX Er (FF K oU Q) H m) (hD : ∀ σ H, D.nx σ H = Q .non H) : t D σ H := by
  have P := PP.z
  refine h H D (nilsW n H) (by rw [nilsH]; exact hs) ?_
  rw [nilsH]
  cases m with
  | bad => exact P
  | err x => exact P
  | ok b =>
    intro x H' w mm ho
    rw [hD]
    have hs : Same (hid H' (J.oo x)) (hid H' [[]]) := hid_sub (Same.refl _) fun b hb => by simp [fl] at hb
    exact P .non [] H' ⟨fun c hc => by simp at hc, by simp [fl], fun c hc => by simp at hc⟩ (mm.trans hs) ⟨rfl, rfl⟩
variable {Fd : Ends → β → Hp → Prop} [fd : FdOk Fd]
theorem sv_raiseP {te : TE} {m : Res Unit} {C : Addr} {n : Str} (hm : mg n = some (.ref C)) (h : EvX (ErD K mg E) S OO σ te m) : Sv (ErD K mg E) S OO σ (tSeq (tRaise C E (tCons te tNil)) u) Fd (m.bind fun _ => .err ⟨n, .non⟩) := fun H D w s P =>
  h H _ w s (by
    cases m with
    | bad => exact P
    | err x => exact fun H' s' => P H' (hid_same.trans s')
    | ok b => exact fun H' s' v => ⟨Nat.le_of_ble_eq_true rfl, P H' (hid_same.trans s') C hm none True.intro⟩)
theorem sv_raiseFi {te : TE} {m : Res Int} {C : Addr} {n f : Str} (hm : mg n = some (.ref C)) (hf : fOf n = f) (h : EvB K (ErD K mg E) S OO σ te rInt m) : Sv (ErD K mg E) S OO σ (tSeq (tRaiseF C f E (tCons te tNil)) u) Fd (m.bind fun i => .err ⟨n, .int i⟩) := fun H D w s P =>
  h H _ w s (by
    cases m with
    | bad => exact P
    | err x => exact fun H' s' => P H' (hid_same.trans s')
    | ok i =>
      intro v H' s' r
      have e : v = .int i := r
      subst e
      exact ⟨_, rfl, fun dx hdx => P _ (hid_same.trans (s'.trans (same_new hdx _))) C hm (some dx) ⟨dx, rfl, by rw [upd_same, hf]⟩⟩)
theorem sv_raiseFt {te : TE} {m : Res (List SI)} {C : Addr} {n f : Str} (hm : mg n = some (.ref C)) (hf : fOf n = f) (h : EvB K (ErD K mg E) S OO σ te (rPL rSI) m) : Sv (ErD K mg E) S OO σ (tSeq (tRaiseF C f E (tCons te tNil)) u) Fd (m.bind fun xs => (payT xs).bind fun p => .err ⟨n, p⟩) := fun H D w s P =>
  h H _ w s (by
    cases m with
    | bad => exact P
    | err x => exact fun H' s' => P H' (hid_same.trans s')
    | ok xs =>
      intro v H' s' r
      have P2 : PZ (ErD K mg E) (Fd D) (hid H OO) ((payT xs).bind fun p => .err ⟨n, p⟩) := P
      cases q : payT xs with
      | bad => rw [q] at P2; exact P2.elim
      | err x => unfold payT at q; split at q <;> (try split at q) <;> cases q
      | ok p =>
        rw [q] at P2
        obtain ⟨t, l, rfl, rfl⟩ := payT_ok q
        exact ⟨_, rfl, fun dx hdx => P2 _ (hid_same.trans (s'.trans (same_new hdx _))) C hm (some dx) ⟨dx, v, rfl, by rw [upd_same, hf], MonoE.mono (same_new hdx _) r⟩⟩)
theorem EvB.stB {te : TE} {r : Enc α} {m : Res α} (he : EvB K Er S OO σ te r m) {H : Hp} {D : Ends} {Q : VK} (w : W OO H) (s : S.p (hid H OO)) {f : α → Res β} (P : PZ Er (Fd D) (hid H OO) (m.bind f))
    (hk : ∀ a v H', Same H H' → W OO H' → S.p (hid H' OO) → r K H' v a → PZ Er (Fd D) (hid H' OO) (f a) → Q v H') : te σ H Q := by
  refine he H Q w s ?_
  cases m with
  | bad => exact P
  | err x => exact fun H' s' => P H' (hid_same.trans s')
  | ok a => exact fun v H' s' r => hk a v H' s' (w.keep s') (S.mono _ _ (hid_mono s') s) r (PZ.tr (fd.tr D) (hid_mono s') P)
/-- try: f(a, b, c), the names kept; the suite may return or go on -/
theorem sv_tryC3 {ta tb tc : TE} {r1 : Enc α1} {r2 : Enc α2} {r3 : Enc α3} [z1 : MonoE r1] [z2 : MonoE r2] {f : α1 → α2 → α3 → Res Unit} {ma : Res α1} {mb : Res α2} {mc : Res α3} {ts : Addr → Addr → Option Addr → TS} {i : Nat} {Ch : Addr} {o : OE ρ} {J : Jn γ ι} {g : Exc → Res (Ctl ρ γ)} {k : γ → Res ρ} {ns : List Str} {d : Str} (Y : Ecs ns K mg) (hd : d ∈ ns) (hm : mg d = some (.ref Ch))
    (ha : EvB K Er S OO σ ta r1 ma) (hb : EvB K Er S OO σ tb r2 mb) (hc : EvB K Er S OO σ tc r3 mc)
    (hs : ∀ x, x.cls ∈ ns → isSub x.cls d = true → ∀ C a od, mg x.cls = some (.ref C) → Sv Er (S.add K (payR (fOf x.cls) od) .non x.pay) OO (σ.set i (some (.ref a))) (ts a C od) (FCd K o J) (g x))
    (hr : ∀ b x, Sv Er (J.sc b x) (J.oo x) ((J.ss x).set i none) u (FTd K o) (k b)) :
    Sv Er S OO σ (tSeq (tTryC (spD3 mg r1 r2 r3 oU f K) K (.ref Ch) i (tCons ta (tCons tb (tCons tc tNil))) ts) u) (FTd K o)
      (ma.bind fun a => mb.bind fun b => mc.bind fun c => (f a b c).tryC (fun _ => .bad) (fun x => chk (cau ns x.cls d = true) ((g x).bind (retOr k)))) := fun H D w s P => by
  refine ha.stB (Fd := FTd K o) w s P fun a v1 H1 s1 w1 q1 ra P1 => hb.stB (Fd := FTd K o) w1 q1 P1 fun b v2 H2 s2 w2 q2 rb P2 => hc.stB (Fd := FTd K o) w2 q2 P2 fun c v3 H3 s3 w3 q3 rc P3 => ?_
  refine ⟨v1, v2, v3, a, b, c, rfl, z1.mono (s2.trans s3) ra, z2.mono s3 rb, rc, ⟨?_⟩⟩
  generalize f a b c = m at P3 ⊢
  cases m with
  | bad => exact P3
  | ok b => exact P3.elim
  | err x =>
    intro H' s' C hC od hp
    obtain ⟨hc', P4⟩ := chk_yes (c := cau ns x.cls d = true) (m := (g x).bind (retOr k)) P3
    unfold cau at hc'
    rw [Bool.and_eq_true, decide_eq_true_eq] at hc'
    refine ⟨by rw [Y.exm _ hc'.1 d hd C Ch hC hm, hc'.2], fun a' C' hC' _ => hs x hc'.1 hc'.2 C' a' od (hC'.symm ▸ hC) H' _ (w3.keep s') ⟨S.mono _ _ (hid_mono s') q3, pay_hid (w3.keep s') hp⟩ ?_⟩
    have P5 := PZ.tr (FdOk.tr (Fd := FTd K o) D) (hid_mono s') P4
    generalize g x = gx at P5 ⊢
    cases gx with
    | bad => exact P5
    | err y => exact P5
    | ok c => cases c with
      | ret r => exact P5
      | nx z => exact fun x1 H1 w1 m1 q1 => hr z x1 H1 D w1 q1 (PZ.tr (FdOk.tr (Fd := FTd K o) D) m1 P5)
/-! what is held in a list of two: nothing, a whole number, a tuple -/
inductive Fv where
  | non | int (i : Int) | tup (xs : List SI)
  deriving DecidableEq
def rFv : Enc Fv := fun K H v x => match x with
  | .non => v = .non
  | .int i => v = .int i
  | .tup xs => rPL rSI K H v xs
instance : FlatE rFv := ⟨fun {K H H' v a} s h => by
  cases a with
  | non => exact h
  | int i => exact h
  | tup xs => exact FlatE.flat (r := rPL rSI) s h⟩
def fvP : Pay → Fv
  | .non => .non
  | .int i => .int i
  | .tag t xs => .tup (.inl t :: xs.map .inr)
theorem evs_fvN : EvS K Er S OO σ (tC .non) rFv (.ok .non) := fun H Q w s P => P _ H (Same.refl _) rfl
/-- e.f of the error that is held -/
theorem evs_fldE {a C : Addr} {od : Option Addr} {p : Pay} {n f : Str} (hf : fOf n = f) (i : Nat) (hσ : σ[i]? = some (some (.ref a))) (hA : erA K C = true) (hd : PySem.W.hasDictIn K C = true) (hn : PySem.W.findIn K (.ref C) f = some none) (h : ∀ x, S.p x → payR (fOf n) od K x .non p) :
    EvS K Er S OO σ (tFldE K C od (tVar i) a f) rFv (chk (p ≠ .non) (.ok (fvP p))) := fun H Q w s P => by
  obtain ⟨hp, P2⟩ := chk_yes P
  subst hf
  have q := h _ s
  cases p with
  | non => exact absurd rfl hp
  | int j =>
    obtain ⟨dx, e, q⟩ := q
    exact ⟨_, hσ, dx, _, rfl, e, hA, hd, hn, (hid_some q).1, P2 _ H (Same.refl _) rfl⟩
  | tag t xs =>
    obtain ⟨dx, v, e, q, r⟩ := q
    exact ⟨_, hσ, dx, v, rfl, e, hA, hd, hn, (hid_some q).1, P2 _ H (Same.refl _) r⟩
theorem evs_inl {te : TE} {o : Enc α} {p : Enc γ} {m : Res α} (he : EvS K Er S OO σ te o m) : EvS K Er S OO σ te (rEi o p) (m.bind fun a => .ok (.inl a)) := fun H Q w s P => by
  refine he H Q w s ?_
  cases m with
  | bad => exact P
  | err x => exact P
  | ok a => exact P
theorem evs_inr {te : TE} {o : Enc α} {p : Enc γ} {m : Res γ} (he : EvS K Er S OO σ te p m) : EvS K Er S OO σ te (rEi o p) (m.bind fun a => .ok (.inr a)) := fun H Q w s P => by
  refine he H Q w s ?_
  cases m with
  | bad => exact P
  | err x => exact P
  | ok a => exact P
def fvO : Fv → Res (Option Int)
  | .non => .ok none
  | .int i => .ok (some i)
  | .tup _ => .bad
theorem evb_fvO {te : TE} {m : Res Fv} (he : EvB K Er S OO σ te rFv m) : EvB K Er S OO σ te (rOpt rInt) (m.bind fvO) := fun H Q w s P => by
  refine he H Q w s ?_
  cases m with
  | bad => exact P
  | err x => exact P
  | ok a => cases a with
    | non => exact fun v H' s' r => P v H' s' r
    | int i => exact fun v H' s' r => P v H' s' ⟨fun z => (by have e : v = .int i := r; rw [e] at z; cases z), r⟩
    | tup xs => exact P.elim
def fvT : Fv → Res (List SI)
  | .tup xs => .ok xs
  | _ => .bad
theorem evb_fvT {te : TE} {m : Res Fv} (he : EvB K Er S OO σ te rFv m) : EvB K Er S OO σ te (rPL rSI) (m.bind fvT) := fun H Q w s P => by
  refine he H Q w s ?_
  cases m with
  | bad => exact P
  | err x => exact P
  | ok a => cases a with
    | non => exact P.elim
    | int i => exact P.elim
    | tup xs => exact fun v H' s' r => P v H' s' r
def fvU : List Fv → Res (List (Int ⊕ List SI))
  | [] => .ok []
  | .int i :: r => (fvU r).bind fun l => .ok (.inl i :: l)
  | .tup xs :: r => (fvU r).bind fun l => .ok (.inr xs :: l)
  | .non :: _ => .bad
theorem fvU_pair {H : Hp} : ∀ {vs : List V} {l : List Fv} {l' : List (Int ⊕ List SI)}, Paired (rFv K H) vs l → fvU l = .ok l' → Paired (rEi rInt (rPL rSI) K H) vs l' := fun {vs l l'} p => by
  induction p generalizing l' with
  | nil => intro q; cases q; exact .nil
  | @cons v x vs l r _ ih =>
    intro q
    cases x with
    | non => cases q
    | int i =>
      unfold fvU at q
      cases z : fvU l with
      | bad => rw [z] at q; cases q
      | err y => rw [z] at q; cases q
      | ok m => rw [z] at q; cases q; exact .cons r (ih z)
    | tup xs =>
      unfold fvU at q
      cases z : fvU l with
      | bad => rw [z] at q; cases q
      | err y => rw [z] at q; cases q
      | ok m => rw [z] at q; cases q; exact .cons r (ih z)
theorem fvU_noerr : ∀ {l : List Fv} {x : Exc}, fvU l ≠ .err x
  | [], _, h => nomatch h
  | .non :: _, _, h => nomatch h
  | .int i :: r, x, h => by
    unfold fvU at h
    cases z : fvU r with
    | bad => rw [z] at h; cases h
    | err y => exact fvU_noerr z
    | ok m => rw [z] at h; cases h
  | .tup i :: r, x, h => by
    unfold fvU at h
    cases z : fvU r with
    | bad => rw [z] at h; cases h
    | err y => exact fvU_noerr z
    | ok m => rw [z] at h; cases h
theorem evb_fvU {te : TE} {m : Res (List Fv)} (he : EvB K Er S OO σ te (rV rFv) m) : EvB K Er S OO σ te (rV (rEi rInt (rPL rSI))) (m.bind fvU) := fun H Q w s P => by
  refine he H Q w s ?_
  cases m with
  | bad => exact P
  | err x => exact P
  | ok a =>
    intro v H' s' ⟨p, xs, e, q, r⟩
    have P2 : PZ Er (FB K (rV (rEi rInt (rPL rSI))) Q) H (fvU a) := P
    cases z : fvU a with
    | bad => rw [z] at P2; exact P2.elim
    | err x => exact (fvU_noerr z).elim
    | ok l => rw [z] at P2; exact P2 v H' s' ⟨p, xs, e, q, fvU_pair r z⟩
end
/-- the classes of errors that keep a field -/
structure XI (K : PySem.W.Frag) (mg : Str → Option Value) (n f : Str) : Prop where
  ex : ∀ C, mg n = some (.ref C) → ∃ Pa fI fd, ExI K C Pa fI f ∧ Binds K fd ["self", f] [] ∧ ∀ (P : Program) (w : World) (base : Heap), FnOk P w K mg base (CXD P w) 1 fI fd ["self", f] (spI C f)
  di : ∀ C, mg n = some (.ref C) → PySem.W.hasDictIn K C = true ∧ PySem.W.findIn K (.ref C) f = some none
theorem isSub_eq {n d : Str} (h : isSub n d = true) (hd : (d == ("PlaitError" : Str)) = false) : n = d := by
  unfold isSub at h
  rw [hd, Bool.or_false] at h
  exact eq_of_beq h
theorem kit_none_int (K : PySem.W.Frag) : PySem.W.kitOne K (.type "NoneType") (.type "int") = some false := by
  first
    | rfl
    | decide +kernel
    | (unfold PySem.W.kitOne PySem.W.kitCls; rfl)
theorem kit_none_bool (K : PySem.W.Frag) : PySem.W.kitOne K (.type "NoneType") (.type "bool") = some false := by
  first
    | rfl
    | decide +kernel
    | (unfold PySem.W.kitOne PySem.W.kitCls; rfl)
end L2

namespace My
open PySem L2
abbrev exNames : List Str := ["PlaitError", "NotADrawing", "NoCrossing", "TooBig", "NoUnit", "NotClosed", "NoFit", "TooMuch", "NoMove", "NoChain", "NoPrime", "NoLine"]
def m_cell (a_0 : (List Int)) (a_1 : Int) : Res Int := (Res.bind (Res.bind (Res.ok a_1) fun x2 => (Res.bind (Res.bind (Res.ok a_0) fun x1 => (Res.ok (x1.length : Int))) fun x3 => (Res.ok (decide (x2 < x3))))) fun x4 => (if x4 = true then (Res.bind (Res.ok a_0) fun x5 => (Res.bind (Res.ok a_1) fun x6 => (atR x5 x6))) else (Res.bind (Res.ok (5 : Int)) fun a7 => (Res.bind (Res.bind (Res.ok a_0) fun x10 => (Res.bind (Res.ok none) fun x11 => (Res.bind (Res.bind (Res.ok (63 : Int)) fun x9 => (Res.ok (some x9))) fun x12 => (Res.ok (cutL x10 x11 x12))))) fun x39 => (Res.bind (forN x39 (a7) (fun g15 a17 => (Res.bind (Res.bind (Res.bind (Res.bind (Res.bind (Res.ok g15) fun x21 => (Res.bind (Res.ok (48271 : Int)) fun x22 => (mulR x21 x22))) fun x25 => (Res.bind (Res.bind (Res.ok a17) fun x23 => (Res.bind (Res.ok (1000003 : Int)) fun x24 => (modR x23 x24))) fun x26 => (Res.ok (x25 + x26)))) fun x27 => (Res.bind (Res.ok (1 : Int)) fun x28 => (Res.ok (x27 + x28)))) fun x29 => (Res.bind (Res.ok (2147483647 : Int)) fun x30 => (modR x29 x30))) fun a19 => (Res.ok (a19))))) fun g31 => (Res.bind (Res.bind (Res.ok g31) fun x35 => (Res.bind (Res.bind (Res.ok (7919 : Int)) fun x33 => (Res.bind (Res.ok a_1) fun x34 => (mulR x33 x34))) fun x36 => (Res.ok (x35 + x36)))) fun x37 => (Res.bind (Res.ok (1000003 : Int)) fun x38 => (modR x37 x38))))))))
def m_mix (a_0 : Int) (a_1 : Int) : Res Int := (Res.bind (Res.bind (Res.bind (Res.bind (Res.bind (Res.bind (Res.ok a_0) fun x3 => (Res.bind (Res.ok (2147483629 : Int)) fun x4 => (modR x3 x4))) fun x7 => (Res.bind (Res.bind (Res.ok (1013 : Int)) fun x5 => (Res.bind (Res.ok a_1) fun x6 => (mulR x5 x6))) fun x8 => (Res.ok (x7 + x8)))) fun x9 => (Res.bind (Res.ok (7919 : Int)) fun x10 => (Res.ok (x9 + x10)))) fun x11 => (Res.bind (Res.ok (3 : Int)) fun x12 => (powR x11 x12))) fun x13 => (Res.bind (Res.ok (2147483647 : Int)) fun x14 => (modR x13 x14))) fun a1 => (Res.bind (Res.bind (Res.bind (Res.bind (Res.bind (Res.ok a1) fun x17 => (Res.bind (Res.ok (40699 : Int)) fun x18 => (mulR x17 x18))) fun x23 => (Res.bind (Res.bind (Res.bind (Res.ok (3793 : Int)) fun x19 => (Res.bind (Res.ok a_1) fun x20 => (mulR x19 x20))) fun x21 => (Res.bind (Res.ok a_1) fun x22 => (mulR x21 x22))) fun x24 => (Res.ok (x23 + x24)))) fun x25 => (Res.bind (Res.ok (11 : Int)) fun x26 => (Res.ok (x25 + x26)))) fun x27 => (Res.bind (Res.ok (2147483399 : Int)) fun x28 => (modR x27 x28))) fun a15 => (Res.bind (Res.ok a15) fun x29 => (Res.bind (Res.ok (101 : Int)) fun x30 => (divR x29 x30)))))
def m_row (a_0 : (List Int)) (a_1 : Int) (a_2 : (List Int)) : Res (List Int) := (Res.bind (Res.bind (Res.ok a_0) fun x4 => (Res.bind (Res.ok a_1) fun x5 => (noE (m_cell x4 x5)))) fun a1 => (Res.bind (Res.ok a1) fun a6 => (Res.bind (Res.ok []) fun a8 => (Res.bind (Res.bind (Res.bind (Res.ok a_2) fun x11 => (Res.ok (x11.length : Int))) fun x12 => (rngR 0 x12)) fun x81 => (Res.bind (forN x81 (a8, a6) (fun g15 a17 => (Res.bind (Res.bind (Res.bind (Res.ok a1) fun x21 => (Res.bind (Res.bind (Res.ok (10 : Int)) fun x19 => (Res.bind (Res.ok (18 : Int)) fun x20 => (powR x19 x20))) fun x22 => (Res.ok (decide (x21 < x22))))) fun x23 => (if x23 = true then (Res.bind (Res.bind (Res.bind (Res.ok a1) fun x27 => (Res.bind (Res.ok a17) fun x28 => (noE (m_mix x27 x28)))) fun x31 => (Res.bind (Res.bind (Res.ok a_2) fun x29 => (Res.bind (Res.ok a17) fun x30 => (atR x29 x30))) fun x32 => (modR x31 x32))) fun a33 => (chk (g15.1.length < sizeLine) ((fun a35 => (Res.ok (a35, g15.2))) (g15.1 ++ [a33])))) else (Res.bind (Res.bind (Res.bind (Res.ok g15.2) fun x36 => (Res.bind (Res.ok (0 : Int)) fun x37 => (Res.ok (decide (x37 < x36))))) fun x38 => (if x38 = true then (Res.bind (Res.bind (Res.ok g15.2) fun x43 => (Res.bind (Res.bind (Res.ok a_2) fun x41 => (Res.bind (Res.ok a17) fun x42 => (atR x41 x42))) fun x44 => (modR x43 x44))) fun a45 => (chk (g15.1.length < sizeLine) ((fun a47 => (Res.bind (Res.bind (Res.ok g15.2) fun x52 => (Res.bind (Res.bind (Res.ok a_2) fun x50 => (Res.bind (Res.ok a17) fun x51 => (atR x50 x51))) fun x53 => (divR x52 x53))) fun a48 => (Res.ok (a48, a47)))) (g15.1 ++ [a45])))) else (Res.bind (Res.bind (Res.ok a_0) fun x63 => (Res.bind (Res.bind (Res.bind (Res.bind (Res.ok a_1) fun x57 => (Res.bind (Res.ok (1 : Int)) fun x58 => (Res.ok (x57 + x58)))) fun x59 => (Res.bind (Res.ok a17) fun x60 => (Res.ok (x59 + x60)))) fun x61 => (Res.bind (Res.ok (63 : Int)) fun x62 => (modR x61 x62))) fun x64 => (noE (m_cell x63 x64)))) fun a54 => (Res.bind (Res.bind (Res.bind (Res.ok a54) fun x66 => (Res.bind (Res.ok a17) fun x67 => (noE (m_mix x66 x67)))) fun x70 => (Res.bind (Res.bind (Res.ok a_2) fun x68 => (Res.bind (Res.ok a17) fun x69 => (atR x68 x69))) fun x71 => (modR x70 x71))) fun a72 => (chk (g15.1.length < sizeLine) ((fun a74 => (Res.ok (g15.2, a74))) (g15.1 ++ [a72]))))))) fun g76 => (Res.ok (g76.2, g76.1))))) fun g78 => (Res.ok (g78.1, g78.2))))) fun g79 => (Res.ok g79.1))))))
def m_is_whole (a_0 : (Option Int)) : Res Bool := (andR (Res.bind (Res.ok a_0) fun x1 => (Res.ok (if x1.isSome = true then true else false))) (Res.bind (Res.bind (Res.ok a_0) fun x2 => (Res.ok (if x2.isSome = true then false else false))) fun x3 => (Res.ok (!x3))))
def m_thrown (a_0 : Int) (a_1 : Int) (a_2 : List SI) : Res Unit := (Res.bind (Res.bind (Res.ok a_0) fun x => (Res.bind (Res.ok (0 : Int)) fun y => (Res.ok (decide (x = y))))) fun b => (if b = true then (Res.bind ((Res.bind (Res.ok a_2) fun xs => (Res.bind (payT xs) fun p => (Res.err ⟨"NotADrawing", p⟩))) : Res Unit) fun _ => Res.bad) else (Res.bind (Res.bind (Res.ok a_0) fun x => (Res.bind (Res.ok (1 : Int)) fun y => (Res.ok (decide (x = y))))) fun b => (if b = true then (Res.bind ((Res.bind (Res.ok ()) fun _ => (Res.err ⟨"NoCrossing", Pay.non⟩)) : Res Unit) fun _ => Res.bad) else (Res.bind (Res.bind (Res.ok a_0) fun x => (Res.bind (Res.ok (2 : Int)) fun y => (Res.ok (decide (x = y))))) fun b => (if b = true then (Res.bind ((Res.bind (Res.ok ()) fun _ => (Res.err ⟨"TooBig", Pay.non⟩)) : Res Unit) fun _ => Res.bad) else (Res.bind (Res.bind (Res.ok a_0) fun x => (Res.bind (Res.ok (3 : Int)) fun y => (Res.ok (decide (x = y))))) fun b => (if b = true then (Res.bind ((Res.bind (Res.ok ()) fun _ => (Res.err ⟨"NoUnit", Pay.non⟩)) : Res Unit) fun _ => Res.bad) else (Res.bind (Res.bind (Res.ok a_0) fun x => (Res.bind (Res.ok (4 : Int)) fun y => (Res.ok (decide (x = y))))) fun b => (if b = true then (Res.bind ((Res.bind (Res.ok ()) fun _ => (Res.err ⟨"NotClosed", Pay.non⟩)) : Res Unit) fun _ => Res.bad) else (Res.bind (Res.bind (Res.ok a_0) fun x => (Res.bind (Res.ok (5 : Int)) fun y => (Res.ok (decide (x = y))))) fun b => (if b = true then (Res.bind ((Res.bind (Res.ok ()) fun _ => (Res.err ⟨"NoFit", Pay.non⟩)) : Res Unit) fun _ => Res.bad) else (Res.bind (Res.bind (Res.ok a_0) fun x => (Res.bind (Res.ok (6 : Int)) fun y => (Res.ok (decide (x = y))))) fun b => (if b = true then (Res.bind ((Res.bind (Res.ok ()) fun _ => (Res.err ⟨"TooMuch", Pay.non⟩)) : Res Unit) fun _ => Res.bad) else (Res.bind (Res.bind (Res.ok a_0) fun x => (Res.bind (Res.ok (7 : Int)) fun y => (Res.ok (decide (x = y))))) fun b => (if b = true then (Res.bind ((Res.bind (Res.ok ()) fun _ => (Res.err ⟨"NoMove", Pay.non⟩)) : Res Unit) fun _ => Res.bad) else (Res.bind (Res.bind (Res.ok a_0) fun x => (Res.bind (Res.ok (8 : Int)) fun y => (Res.ok (decide (x = y))))) fun b => (if b = true then (Res.bind ((Res.bind (Res.ok a_1) fun i => (Res.err ⟨"NoChain", Pay.int i⟩)) : Res Unit) fun _ => Res.bad) else (Res.bind (Res.bind (Res.ok a_0) fun x => (Res.bind (Res.ok (9 : Int)) fun y => (Res.ok (decide (x = y))))) fun b => (if b = true then (Res.bind ((Res.bind (Res.ok ()) fun _ => (Res.err ⟨"NoPrime", Pay.non⟩)) : Res Unit) fun _ => Res.bad) else (Res.bind (Res.bind (Res.ok a_0) fun x => (Res.bind (Res.ok (10 : Int)) fun y => (Res.ok (decide (x = y))))) fun b => (if b = true then (Res.bind ((Res.bind (Res.ok ()) fun _ => (Res.err ⟨"NoLine", Pay.non⟩)) : Res Unit) fun _ => Res.bad) else (Res.bind (Res.ok ()) fun _ => (Res.err ⟨"PlaitError", Pay.non⟩))))))))))))))))))))))))
def m_sorts (a_0 : Int) (a_1 : Int) (a_2 : List SI) : Res (List Bool) := (Res.bind (Res.ok a_0) fun y1 => (Res.bind (Res.ok a_1) fun y2 => (Res.bind (Res.ok a_2) fun y3 => (Res.tryC (m_thrown y1 y2 y3) (fun _ => Res.bad) (fun x => (chk (cau exNames x.cls "PlaitError" = true) (Res.bind ((Res.bind (Res.bind ((Res.bind (Res.ok (isSub x.cls "NotADrawing")) fun y => (Res.bind (Res.bind (Res.ok (isSub x.cls "NoCrossing")) fun y => (Res.bind (Res.bind (Res.ok (isSub x.cls "TooBig")) fun y => (Res.bind (Res.ok []) fun l => (Res.ok (y :: l)))) fun l => (Res.ok (y :: l)))) fun l => (Res.ok (y :: l)))) : Res (List Bool)) fun l => (chk (l.length ≤ sizeLine) (Res.ok l))) fun a1 => (Res.bind (Res.bind ((Res.bind (Res.ok (isSub x.cls "NoUnit")) fun y => (Res.bind (Res.bind (Res.ok (isSub x.cls "NotClosed")) fun y => (Res.bind (Res.bind (Res.ok (isSub x.cls "NoFit")) fun y => (Res.bind (Res.ok []) fun l => (Res.ok (y :: l)))) fun l => (Res.ok (y :: l)))) fun l => (Res.ok (y :: l)))) : Res (List Bool)) fun l => (chk (l.length ≤ sizeLine) (Res.ok l))) fun b2 => (chk (a1.length + b2.length ≤ sizeLine) ((fun a2 => (Res.bind (Res.bind ((Res.bind (Res.ok (isSub x.cls "TooMuch")) fun y => (Res.bind (Res.bind (Res.ok (isSub x.cls "NoMove")) fun y => (Res.bind (Res.bind (Res.ok (isSub x.cls "NoChain")) fun y => (Res.bind (Res.ok []) fun l => (Res.ok (y :: l)))) fun l => (Res.ok (y :: l)))) fun l => (Res.ok (y :: l)))) : Res (List Bool)) fun l => (chk (l.length ≤ sizeLine) (Res.ok l))) fun b3 => (chk (a2.length + b3.length ≤ sizeLine) ((fun a3 => (Res.bind (Res.bind ((Res.bind (Res.ok (isSub x.cls "NoPrime")) fun y => (Res.bind (Res.bind (Res.ok (isSub x.cls "NoLine")) fun y => (Res.bind (Res.ok []) fun l => (Res.ok (y :: l)))) fun l => (Res.ok (y :: l)))) : Res (List Bool)) fun l => (chk (l.length ≤ sizeLine) (Res.ok l))) fun b4 => (chk (a3.length + b4.length ≤ sizeLine) ((fun a4 => (Res.bind (Res.ok true) fun b => (if b = true then (Res.bind (Res.ok a4) fun r => (Res.ok (Ctl.ret r))) else Res.bad))) (a3 ++ b4))))) (a2 ++ b3))))) (a1 ++ b2))))) : Res (Ctl (List Bool) Unit)) (retOr fun _ => Res.bad))))))))
def m_fields (a_0 : Int) (a_1 : List SI) : Res Bool := (Res.bind (Res.bind (Res.bind (Res.ok Fv.non) fun x => (Res.bind (Res.bind (Res.ok Fv.non) fun x => (Res.bind (Res.ok []) fun l => (Res.ok (x :: l)))) fun l => (Res.ok (x :: l)))) fun l => (chk (l.length ≤ sizeLine) (Res.ok l))) fun a1 => (Res.bind (Res.ok (8 : Int)) fun y1 => (Res.bind (Res.ok a_0) fun y2 => (Res.bind (Res.ok a_1) fun y3 => (Res.tryC (m_thrown y1 y2 y3) (fun _ => Res.bad) (fun x => (chk (cau exNames x.cls "NoChain" = true) (Res.bind ((Res.bind (Res.bind (chk (x.pay ≠ Pay.non) (Res.ok (fvP x.pay))) fun a => (Res.bind (Res.ok (0 : Int)) fun j => (Res.bind (setR a1 j a) fun bs => (Res.ok bs)))) fun r => (Res.ok (Ctl.nx r))) : Res (Ctl Bool (List Fv))) (retOr (fun g2 => (Res.bind (Res.ok (0 : Int)) fun y1 => (Res.bind (Res.ok a_0) fun y2 => (Res.bind (Res.ok a_1) fun y3 => (Res.tryC (m_thrown y1 y2 y3) (fun _ => Res.bad) (fun x => (chk (cau exNames x.cls "NotADrawing" = true) (Res.bind ((Res.bind (Res.bind (chk (x.pay ≠ Pay.non) (Res.ok (fvP x.pay))) fun a => (Res.bind (Res.ok (1 : Int)) fun j => (Res.bind (setR g2 j a) fun bs => (Res.ok bs)))) fun r => (Res.ok (Ctl.nx r))) : Res (Ctl Bool (List Fv))) (retOr (fun g3 => (Res.bind (orR (Res.bind (Res.bind (Res.bind (Res.bind (Res.ok g3) fun x => (Res.bind (Res.ok (0 : Int)) fun y => (atR x y))) fvO) fun x => (noE (m_is_whole x))) fun x => (Res.ok (!x))) (Res.bind (Res.bind (Res.bind (Res.bind (Res.ok g3) fun x => (Res.bind (Res.ok (1 : Int)) fun y => (atR x y))) fvT) fun x => (Res.ok true)) fun x => (Res.ok (!x)))) fun b => (if b = true then (Res.ok false) else (Res.bind (Res.bind (Res.ok g3) fvU) fun x => (Res.bind (Res.bind (Res.bind (Res.bind (Res.ok a_0) fun a => (Res.ok (Sum.inl a))) fun x => (Res.bind (Res.bind (Res.bind (Res.ok a_1) fun a => (Res.ok (Sum.inr a))) fun x => (Res.bind (Res.ok []) fun l => (Res.ok (x :: l)))) fun l => (Res.ok (x :: l)))) fun l => (chk (l.length ≤ sizeLine) (Res.ok l))) fun y => (Res.ok (decide (x = y))))))))))))))))))))))))))
def m_wrong (a_0 : List Int) : Res (List SI) := (Res.bind (Res.bind (Res.bind (Res.ok a_0) fun x => (Res.bind (Res.ok (0 : Int)) fun y => (atR x y))) fun x => (Res.bind (Res.ok (0 : Int)) fun y => (Res.ok (decide (x = y))))) fun b => (if b = true then (Res.bind ((Res.bind (Res.bind (Res.ok ("walk" : Str)) fun a => (Res.ok (Sum.inl a))) fun x => (Res.bind (Res.bind (Res.bind (Res.bind (Res.ok a_0) fun x => (Res.bind (Res.ok (1 : Int)) fun y => (atR x y))) fun a => (Res.ok (Sum.inr a))) fun x => (Res.bind (Res.bind (Res.bind (Res.bind (Res.ok a_0) fun x => (Res.bind (Res.ok (2 : Int)) fun y => (atR x y))) fun a => (Res.ok (Sum.inr a))) fun x => (Res.bind (Res.ok []) fun l => (Res.ok (x :: l)))) fun l => (Res.ok (x :: l)))) fun l => (Res.ok (x :: l)))) : Res (List SI)) fun as => (chk (as.length ≤ sizeLine) (Res.ok as))) else (Res.bind (Res.bind (Res.bind (Res.ok a_0) fun x => (Res.bind (Res.ok (0 : Int)) fun y => (atR x y))) fun x => (Res.bind (Res.ok (1 : Int)) fun y => (Res.ok (decide (x = y))))) fun b => (if b = true then (Res.bind ((Res.bind (Res.bind (Res.ok ("sign" : Str)) fun a => (Res.ok (Sum.inl a))) fun x => (Res.bind (Res.bind (Res.bind (Res.bind (Res.ok a_0) fun x => (Res.bind (Res.ok (1 : Int)) fun y => (atR x y))) fun a => (Res.ok (Sum.inr a))) fun x => (Res.bind (Res.ok []) fun l => (Res.ok (x :: l)))) fun l => (Res.ok (x :: l)))) : Res (List SI)) fun as => (chk (as.length ≤ sizeLine) (Res.ok as))) else (Res.bind ((Res.bind (Res.bind (Res.ok ("many" : Str)) fun a => (Res.ok (Sum.inl a))) fun x => (Res.bind (Res.bind (Res.bind (Res.bind (Res.ok (41 : Int)) fun x => (Res.bind (Res.bind (Res.ok a_0) fun x => (Res.bind (Res.ok (1 : Int)) fun y => (atR x y))) fun y => (Res.ok (x + y)))) fun a => (Res.ok (Sum.inr a))) fun x => (Res.bind (Res.ok []) fun l => (Res.ok (x :: l)))) fun l => (Res.ok (x :: l)))) : Res (List SI)) fun as => (chk (as.length ≤ sizeLine) (Res.ok as)))))))
def m_law (a_0 : (List Int)) : Res Bool := (Res.bind (Res.bind (Res.ok a_0) fun x19 => (Res.bind (Res.ok (0 : Int)) fun x20 => (Res.bind (Res.bind (Res.bind (Res.ok (3 : Int)) fun x17 => (Res.bind (Res.bind (Res.bind (Res.ok (10 : Int)) fun x5 => (Res.bind (Res.ok (9 : Int)) fun x6 => (powR x5 x6))) fun x15 => (Res.bind (Res.bind (Res.bind (Res.ok (10 : Int)) fun x7 => (Res.bind (Res.ok (9 : Int)) fun x8 => (powR x7 x8))) fun x13 => (Res.bind (Res.bind (Res.bind (Res.ok (10 : Int)) fun x9 => (Res.bind (Res.ok (60 : Int)) fun x10 => (powR x9 x10))) fun x11 => (Res.bind (Res.ok []) fun x12 => (Res.ok (x11 :: x12)))) fun x14 => (Res.ok (x13 :: x14)))) fun x16 => (Res.ok (x15 :: x16)))) fun x18 => (Res.ok (x17 :: x18)))) fun x4 => (chk (x4.length ≤ sizeLine) (Res.ok x4))) fun x21 => (noE (m_row x19 x20 x21))))) fun a1 => (Res.bind (Res.bind (Res.ok a_0) fun x40 => (Res.bind (Res.ok (1 : Int)) fun x41 => (Res.bind (Res.bind (Res.bind (Res.ok (3 : Int)) fun x38 => (Res.bind (Res.bind (Res.bind (Res.ok (10 : Int)) fun x26 => (Res.bind (Res.ok (9 : Int)) fun x27 => (powR x26 x27))) fun x36 => (Res.bind (Res.bind (Res.bind (Res.ok (10 : Int)) fun x28 => (Res.bind (Res.ok (9 : Int)) fun x29 => (powR x28 x29))) fun x34 => (Res.bind (Res.bind (Res.bind (Res.ok (10 : Int)) fun x30 => (Res.bind (Res.ok (60 : Int)) fun x31 => (powR x30 x31))) fun x32 => (Res.bind (Res.ok []) fun x33 => (Res.ok (x32 :: x33)))) fun x35 => (Res.ok (x34 :: x35)))) fun x37 => (Res.ok (x36 :: x37)))) fun x39 => (Res.ok (x38 :: x39)))) fun x25 => (chk (x25.length ≤ sizeLine) (Res.ok x25))) fun x42 => (noE (m_row x40 x41 x42))))) fun a22 => (Res.bind (Res.bind (Res.ok a1) fun x46 => (noE (m_wrong x46))) fun a43 => (Res.bind (Res.bind (Res.ok a22) fun x50 => (noE (m_wrong x50))) fun a47 => (Res.bind (Res.bind (Res.ok (12 : Int)) fun x51 => (rngR 0 x51)) fun x101 => (Res.bind (forC x101 () (fun g54 a56 => (Res.bind (Res.bind (Res.bind (Res.ok a56) fun x61 => (Res.bind (Res.bind (Res.ok a1) fun x59 => (Res.bind (Res.ok (3 : Int)) fun x60 => (atR x59 x60))) fun x62 => (Res.bind (Res.ok a43) fun x63 => (noE (m_sorts x61 x62 x63))))) fun x71 => (Res.bind (Res.bind (Res.bind (Res.ok (11 : Int)) fun x64 => (rngR 0 x64)) fun x68 => (mapC x68 (fun a66 => (Res.bind (Res.ok a56) fun x69 => (Res.bind (Res.ok a66) fun x70 => (Res.ok (decide (x69 = x70)))))))) fun x72 => (Res.ok (!(decide (x71 = x72)))))) fun x73 => (if x73 = true then (Res.bind (Res.ok false) fun x75 => (Res.ok (Ctl.ret x75))) else (Res.bind (Res.ok ()) fun x74 => (Res.ok (Ctl.nx x74))))))) (retOr fun g76 => (Res.bind (orR (Res.bind (Res.bind (Res.bind (Res.ok a1) fun x79 => (Res.bind (Res.ok (3 : Int)) fun x80 => (atR x79 x80))) fun x81 => (Res.bind (Res.ok a43) fun x82 => (noE (m_fields x81 x82)))) fun x83 => (Res.ok (!x83))) (Res.bind (Res.bind (Res.bind (Res.ok a22) fun x85 => (Res.bind (Res.ok (3 : Int)) fun x86 => (atR x85 x86))) fun x87 => (Res.bind (Res.ok a47) fun x88 => (noE (m_fields x87 x88)))) fun x89 => (Res.ok (!x89)))) fun x90 => (if x90 = true then (Res.ok false) else (andR (Res.bind (Res.bind (Res.ok a1) fun x92 => (Res.bind (Res.ok (3 : Int)) fun x93 => (atR x92 x93))) fun x94 => (Res.bind (Res.ok a47) fun x95 => (noE (m_fields x94 x95)))) (Res.bind (Res.bind (Res.ok a1) fun x97 => (Res.bind (Res.ok (3 : Int)) fun x98 => (atR x97 x98))) fun x99 => (Res.bind (Res.ok a43) fun x100 => (noE (m_fields x99 x100))))))))))))))
end My
/-! ### mirrors reckoned: loops and lists -/
namespace L2
open PySem
section
variable {α β γ ρ : Type}
theorem Res.okb (a : α) (f : α → Res β) : (Res.ok a).bind f = f a := (Eq.refl (f a)).symm.symm
theorem mapR_ok {f : α → Res β} {h : α → β} : ∀ {as : List α}, (∀ a ∈ as, f a = .ok (h a)) → mapR as f = .ok (as.map h)
  | [], _ => rfl
  | a :: as, hf => by
    show (f a).bind _ = _
    rw [hf a (by simp), Res.ok_bind, mapR_ok fun b hb => hf b (by simp [hb])]; rfl
theorem mapC_ok {f : α → Res β} {h : α → β} {as : List α} (hl : as.length ≤ sizeLine) (hf : ∀ a ∈ as, f a = .ok (h a)) : mapC as f = .ok (as.map h) := by
  unfold mapC; rw [chk_ok hl]; exact mapR_ok hf
theorem forN_inv' {f : γ → α → Res γ} (P : Nat → γ → Prop) : ∀ (as : List α) (k : Nat) (g : γ), P k g → (∀ i a g, as[i]? = some a → P (k + i) g → ∃ g', f g a = .ok g' ∧ P (k + i + 1) g') → ∃ g', forN as g f = .ok g' ∧ P (k + as.length) g'
  | [], k, g, h0, _ => ⟨g, rfl, h0⟩
  | a :: as, k, g, h0, hs => by
    obtain ⟨g1, e1, p1⟩ := hs 0 a g rfl h0
    obtain ⟨g2, e2, p2⟩ := forN_inv' P as (k + 1) g1 p1 fun i b g hb hp => by
      obtain ⟨g', e', p'⟩ := hs (i + 1) b g (by simpa using hb) (by rw [show k + (i + 1) = k + 1 + i by omega]; exact hp)
      exact ⟨g', e', by rw [show k + 1 + i + 1 = k + (i + 1) + 1 by omega]; exact p'⟩
    refine ⟨g2, ?_, by rw [List.length_cons, show k + (as.length + 1) = k + 1 + as.length by omega]; exact p2⟩
    show (f g a).bind _ = _
    rw [e1, Res.ok_bind]; exact e2
theorem forN_inv {f : γ → α → Res γ} (P : Nat → γ → Prop) {as : List α} {g : γ} (h0 : P 0 g) (hs : ∀ i a g, as[i]? = some a → P i g → ∃ g', f g a = .ok g' ∧ P (i + 1) g') : ∃ g', forN as g f = .ok g' ∧ P as.length g' := by
  have := forN_inv' P as 0 g h0 (by simpa using hs)
  simpa using this
/-- a loop that finds nothing -/
theorem forC_all {f : γ → α → Res (Ctl ρ γ)} : ∀ {as : List α} {g : γ}, (∀ a ∈ as, f g a = .ok (.nx g)) → forC as g f = .ok (.nx g)
  | [], _, _ => rfl
  | a :: as, g, hf => by
    show (f g a).bind _ = _
    rw [hf a (by simp), Res.ok_bind]
    exact forC_all fun b hb => hf b (by simp [hb])
theorem forC_inv' {f : γ → α → Res (Ctl ρ γ)} (P : Nat → γ → Prop) : ∀ (as : List α) (k : Nat) (g : γ), P k g → (∀ i a g, as[i]? = some a → P (k + i) g → ∃ g', f g a = .ok (.nx g') ∧ P (k + i + 1) g') → ∃ g', forC as g f = .ok (.nx g') ∧ P (k + as.length) g'
  | [], k, g, h0, _ => ⟨g, rfl, h0⟩
  | a :: as, k, g, h0, hs => by
    obtain ⟨g1, e1, p1⟩ := hs 0 a g rfl h0
    obtain ⟨g2, e2, p2⟩ := forC_inv' P as (k + 1) g1 p1 fun i b g hb hp => by
      obtain ⟨g', e', p'⟩ := hs (i + 1) b g (by simpa using hb) (by rw [show k + (i + 1) = k + 1 + i by omega]; exact hp)
      exact ⟨g', e', by rw [show k + 1 + i + 1 = k + (i + 1) + 1 by omega]; exact p'⟩
    refine ⟨g2, ?_, by rw [List.length_cons, show k + (as.length + 1) = k + 1 + as.length by omega]; exact p2⟩
    show (f g a).bind _ = _
    rw [e1, Res.ok_bind]; exact e2
theorem forC_inv {f : γ → α → Res (Ctl ρ γ)} (P : Nat → γ → Prop) {as : List α} {g : γ} (h0 : P 0 g) (hs : ∀ i a g, as[i]? = some a → P i g → ∃ g', f g a = .ok (.nx g') ∧ P (i + 1) g') : ∃ g', forC as g f = .ok (.nx g') ∧ P as.length g' := by
  have := forC_inv' P as 0 g h0 (by simpa using hs)
  simpa using this
theorem mod_ok {a b : Int} (h : 0 < b) : modR a b = .ok (a % b) := chk_ok h
theorem mul_okL {a b : Int} (h1 : -(2 ^ 64) < a) (h2 : a < 2 ^ 64) : mulR a b = .ok (a * b) := chk_ok (.inl ⟨h1, h2⟩)
theorem mul_okR {a b : Int} (h1 : -(2 ^ 64) < b) (h2 : b < 2 ^ 64) : mulR a b = .ok (a * b) := chk_ok (.inr ⟨h1, h2⟩)
theorem div_ok {a b : Int} (h : 0 < b) (h2 : b < 2 ^ 250) : divR a b = .ok (a / b) := chk_ok ⟨h, by
  have h3 : b.natAbs < 2 ^ 250 := by omega
  rcases Nat.eq_zero_or_pos b.natAbs with h0 | h0
  · omega
  · have := (Nat.log2_lt (by omega)).mpr h3
    omega⟩
theorem pow_ok {a b : Int} (h0 : 0 ≤ b) (h1 : b ≤ 1000000) (h2 : -(2 ^ 64) < a) (h3 : a < 2 ^ 64) : powR a b = .ok (a ^ b.toNat) := chk_ok ⟨h0, h1, by omega⟩
theorem at_nat {as : List α} {i : Nat} {a : α} (h : as[i]? = some a) : atR as (i : Int) = .ok a := by
  have hlt := (List.getElem?_eq_some_iff.mp h).1
  unfold atR atI ixN
  rw [if_pos (by omega), if_pos (by omega)]
  simp [h]
theorem at_int {as : List α} {i : Int} {a : α} (h0 : 0 ≤ i) (h : as[i.toNat]? = some a) : atR as i = .ok a := by
  have : i = (i.toNat : Int) := by omega
  rw [this]; exact at_nat h
theorem rng_ok {n : Nat} (h : n < 2 ^ 62) : rngR 0 (n : Int) = .ok ((List.range n).map fun (i : Nat) => (i : Int)) := by
  unfold rngR
  rw [chk_ok (by omega)]
  unfold rangeI
  congr 1
  rw [Int.sub_zero, Int.toNat_natCast]
  exact List.map_congr_left fun i _ => by omega
theorem range_get {n i : Nat} {a : Int} (h : ((List.range n).map fun (i : Nat) => (i : Int))[i]? = some a) : a = (i : Int) ∧ i < n := by
  have hlt := (List.getElem?_eq_some_iff.mp h).1
  simp only [List.length_map, List.length_range] at hlt
  rw [List.getElem?_map, List.getElem?_range hlt] at h
  exact ⟨(Option.some.inj h).symm, hlt⟩
theorem range_len {n : Nat} : ((List.range n).map fun (i : Nat) => (i : Int)).length = n := by simp
theorem sz {n : Nat} (h : n ≤ 100000) : n ≤ sizeLine := Nat.le_trans h (by decide)
theorem szlt {n : Nat} (h : n ≤ 100000) : n < sizeLine := Nat.lt_of_le_of_lt h (by decide)
/-! what a mirror comes to -/
def Ok (m : Res β) (R : β → Prop) : Prop := ∃ r, m = .ok r ∧ R r
theorem Ok.pure {R : β → Prop} {a : β} (h : R a) : Ok (.ok a) R := ⟨a, rfl, h⟩
theorem Ok.bind {m : Res α} {f : α → Res β} {R : α → Prop} {T : β → Prop} (h : Ok m R) (hf : ∀ a, R a → Ok (f a) T) : Ok (m.bind f) T := by
  obtain ⟨a, e, ha⟩ := h
  rw [e]; exact hf a ha
theorem Ok.imp {m : Res α} {R T : α → Prop} (h : Ok m R) (hf : ∀ a, R a → T a) : Ok m T := by
  obtain ⟨a, e, ha⟩ := h
  exact ⟨a, e, hf a ha⟩
theorem Ok.noE {m : Res α} {R : α → Prop} (h : Ok m R) : Ok (noE m) R := by
  obtain ⟨a, e, ha⟩ := h
  rw [e]; exact ⟨a, rfl, ha⟩
theorem Ok.chk {c : Prop} [Decidable c] {m : Res α} {R : α → Prop} (hc : c) (h : Ok m R) : Ok (chk c m) R := by rw [chk_ok hc]; exact h
theorem Ok.forN {f : γ → α → Res γ} (P : Nat → γ → Prop) {as : List α} {g : γ} (h0 : P 0 g) (hs : ∀ i a g, as[i]? = some a → P i g → Ok (f g a) (P (i + 1))) : Ok (forN as g f) (P as.length) := forN_inv P h0 hs
theorem Ok.forC {f : γ → α → Res (Ctl ρ γ)} (P : Nat → γ → Prop) {as : List α} {g : γ} (h0 : P 0 g) (hs : ∀ i a g, as[i]? = some a → P i g → ∃ g', f g a = .ok (.nx g') ∧ P (i + 1) g') : Ok (forC as g f) (fun c => ∃ g', c = .nx g' ∧ P as.length g') := by
  obtain ⟨g', e, h⟩ := forC_inv P h0 hs
  exact ⟨_, e, g', rfl, h⟩
theorem retOr_nx {f : γ → Res ρ} (g : γ) : retOr f (.nx g) = f g := (Eq.refl (f g)).symm.symm
theorem noE_okb (a : α) : noE (Res.ok a) = .ok a := (Eq.refl (Res.ok a)).symm.symm
theorem Ok.of {m : Res α} {a : α} (h : m = .ok a) : Ok m (fun b => b = a) := ⟨a, h, rfl⟩
theorem Ok.eq {m : Res α} {a : α} (h : Ok m (fun b => b = a)) : m = .ok a := by
  obtain ⟨b, e, rfl⟩ := h
  exact e
end
end L2

/-! ### what the scripts draw: a row of numbers -/
namespace My
open PySem L2
theorem cell_ok (ns : List Int) {p : Int} (hp : 0 ≤ p) : ∃ c, m_cell ns p = .ok c := by
  unfold m_cell
  simp only [Res.okb]
  by_cases h : p < (ns.length : Int)
  · rw [decide_eq_true h, if_pos rfl]
    have hl : p.toNat < ns.length := by omega
    exact ⟨ns[p.toNat], at_int hp (by simp [hl])⟩
  · rw [decide_eq_false h, if_neg Bool.false_ne_true]
    obtain ⟨g, e, _⟩ := forN_inv (as := cutL ns none (some 63)) (g := (5 : Int)) (f := fun g15 a17 => (Res.bind (Res.bind (Res.bind (Res.bind (mulR g15 48271) fun x25 => (Res.bind (modR a17 1000003) fun x26 => (Res.ok (x25 + x26)))) fun x27 => Res.ok (x27 + 1)) fun x29 => modR x29 2147483647) fun a19 => (Res.ok (a19)))) (fun _ _ => True) True.intro fun i a g _ _ => by
      rw [mul_okR (by decide) (by decide), Res.ok_bind, mod_ok (by decide), Res.ok_bind, Res.ok_bind, Res.ok_bind, mod_ok (by decide), Res.ok_bind]
      exact ⟨_, rfl, True.intro⟩
    rw [e, Res.ok_bind, mul_okL (by decide) (by decide), Res.ok_bind, Res.ok_bind, mod_ok (by decide)]
    exact ⟨_, rfl⟩
theorem mix_ok (c : Int) {k : Int} (h0 : 0 ≤ k) (h1 : k ≤ 100000) : ∃ y, m_mix c k = .ok y ∧ 0 ≤ y := by
  unfold m_mix
  simp only [Res.okb]
  have hm : 0 ≤ c % 2147483629 ∧ c % 2147483629 < 2147483629 := ⟨Int.emod_nonneg _ (by decide), Int.emod_lt_of_pos _ (by decide)⟩
  rw [mod_ok (by decide), Res.ok_bind, mul_okL (by decide) (by decide), Res.ok_bind, Res.ok_bind, Res.ok_bind, pow_ok (by decide) (by decide) (by omega) (by omega), Res.ok_bind, mod_ok (by decide), Res.ok_bind]
  rw [mul_okR (by decide) (by decide), Res.ok_bind, mul_okL (by decide) (by decide), Res.ok_bind, mul_okR (by omega) (by omega), Res.ok_bind, Res.ok_bind, Res.ok_bind, mod_ok (by decide), Res.ok_bind, div_ok (by decide) (by decide)]
  exact ⟨_, rfl, Int.ediv_nonneg (Int.emod_nonneg _ (by decide)) (by decide)⟩
theorem row_ok (ns : List Int) {p : Int} (hp : 0 ≤ p) (sizes : List Int) (hl : sizes.length ≤ 100000) (hs : ∀ x ∈ sizes, 0 < x ∧ x < 2 ^ 250) :
    Ok (m_row ns p sizes) fun r => r.length = sizes.length ∧ ∀ (i : Nat) x s, r[i]? = some x → sizes[i]? = some s → 0 ≤ x ∧ x < s := by
  obtain ⟨c, ec⟩ := cell_ok ns hp
  unfold m_row
  simp only [Res.okb]
  rw [ec, show noE (Res.ok c) = .ok c from rfl, Res.ok_bind, rng_ok (by omega), Res.ok_bind, pow_ok (by decide) (by decide) (by decide) (by decide)]
  simp only [Res.okb]
  have key : ∀ (i : Nat) (a : Int) (g : List Int × Int), ((List.range sizes.length).map fun (i : Nat) => (i : Int))[i]? = some a → (g.1.length = i ∧ ∀ (j : Nat) x s, g.1[j]? = some x → sizes[j]? = some s → 0 ≤ x ∧ x < s) → ∀ y z : Int, ∀ s, sizes[i]? = some s → 0 ≤ y ∧ y < s → ((g.1 ++ [y], z).1.length = i + 1 ∧ ∀ (j : Nat) x s, (g.1 ++ [y], z).1[j]? = some x → sizes[j]? = some s → 0 ≤ x ∧ x < s) := by
    intro i a g ha ⟨hg, hq⟩ y z s hs1 hy
    refine ⟨by simp [hg], fun j x s' hx hs' => ?_⟩
    have hx : (g.1 ++ [y])[j]? = some x := hx
    rcases Nat.lt_trichotomy j i with hj | hj | hj
    · rw [List.getElem?_append_left (by omega)] at hx; exact hq j x s' hx hs'
    · subst hj
      rw [List.getElem?_append_right (by omega), hg, Nat.sub_self] at hx
      have : y = x := by simpa using hx
      rw [hs1] at hs'
      cases hs'
      rw [← this]; exact hy
    · rw [List.getElem?_eq_none (by simp; omega)] at hx; cases hx
  refine Ok.bind (Ok.forN (fun i (g : List Int × Int) => g.1.length = i ∧ ∀ (j : Nat) x s, g.1[j]? = some x → sizes[j]? = some s → 0 ≤ x ∧ x < s) ⟨rfl, fun j x s h _ => by simp at h⟩ fun i a g ha hg => ?_) (T := fun (r : List Int) => r.length = sizes.length ∧ ∀ (i : Nat) x s, r[i]? = some x → sizes[i]? = some s → 0 ≤ x ∧ x < s) fun g ⟨hg, hq⟩ => ?_
  · obtain ⟨rfl, hi⟩ := range_get ha
    have hsz : sizes[i]? = some sizes[i] := by simp [hi]
    have hsp := hs _ (List.getElem_mem hi)
    have hgl : g.1.length < sizeLine := szlt (by have := hg.1; omega)
    by_cases hc : c < 10 ^ (18 : Int).toNat
    · rw [decide_eq_true hc, if_pos rfl]
      obtain ⟨y, ey, hy⟩ := mix_ok c (k := (i : Int)) (by omega) (by omega)
      rw [ey, show noE (Res.ok y) = .ok y from rfl, Res.ok_bind, at_nat hsz, Res.ok_bind, mod_ok hsp.1, Res.ok_bind, chk_ok hgl]
      exact ⟨_, rfl, key i _ g ha hg _ _ _ hsz ⟨Int.emod_nonneg _ (by omega), Int.emod_lt_of_pos _ hsp.1⟩⟩
    · rw [decide_eq_false hc, if_neg Bool.false_ne_true]
      by_cases hq : 0 < g.2
      · rw [decide_eq_true hq, if_pos rfl, at_nat hsz, Res.ok_bind, mod_ok hsp.1, Res.ok_bind, chk_ok hgl]
        simp only [Res.okb]
        rw [div_ok hsp.1 hsp.2]
        exact ⟨_, rfl, key i _ g ha hg _ _ _ hsz ⟨Int.emod_nonneg _ (by omega), Int.emod_lt_of_pos _ hsp.1⟩⟩
      · rw [decide_eq_false hq, if_neg Bool.false_ne_true, mod_ok (by decide), Res.ok_bind]
        obtain ⟨c2, ec2⟩ := cell_ok ns (p := (p + 1 + (i : Int)) % 63) (Int.emod_nonneg _ (by decide))
        obtain ⟨y, ey, hy⟩ := mix_ok c2 (k := (i : Int)) (by omega) (by omega)
        rw [ec2, show noE (Res.ok c2) = .ok c2 from rfl, Res.ok_bind, ey, show noE (Res.ok y) = .ok y from rfl, Res.ok_bind, at_nat hsz, Res.ok_bind, mod_ok hsp.1, Res.ok_bind, chk_ok hgl]
        exact ⟨_, rfl, key i _ g ha hg _ _ _ hsz ⟨Int.emod_nonneg _ (by omega), Int.emod_lt_of_pos _ hsp.1⟩⟩
  · rw [range_len] at hg
    exact ⟨g.1, rfl, hg, hq⟩
end My

namespace My
open PySem L2
abbrev Tg (t : Str) (l : List Int) : List SI := .inl t :: l.map .inr
theorem payT_tg (t : Str) (l : List Int) : payT (Tg t l) = .ok (.tag t l) := by
  show (match intsOf (l.map .inr) with | some l => Res.ok (Pay.tag t l) | none => .bad) = _
  rw [intsOf_of]
section
variable {a b : Int} {c : List SI} {t : Str} {l : List Int} {n : Str} {p : Pay}
theorem thrown0 : m_thrown 0 b (Tg t l) = .err ⟨"NotADrawing", .tag t l⟩ := by
  show (((payT (Tg t l)).bind fun p => (Res.err ⟨"NotADrawing", p⟩ : Res Unit)).bind fun _ => Res.bad) = _
  rw [payT_tg]; rfl
theorem thrown8 : m_thrown 8 b c = .err ⟨"NoChain", .int b⟩ := rfl
theorem chkS {β : Type} {k : Nat} {m : Res β} (h : k < 100) : chk (k ≤ sizeLine) m = m := chk_ok (by rw [sizeLine_eq]; omega)
theorem sorts_of (h : m_thrown a b c = .err ⟨n, p⟩) (hc : cau exNames n "PlaitError" = true) : m_sorts a b c = .ok [isSub n "NotADrawing", isSub n "NoCrossing", isSub n "TooBig", isSub n "NoUnit", isSub n "NotClosed", isSub n "NoFit", isSub n "TooMuch", isSub n "NoMove", isSub n "NoChain", isSub n "NoPrime", isSub n "NoLine"] := by
  unfold m_sorts
  simp only [Res.okb]
  rw [h]
  show chk (cau exNames n "PlaitError" = true) _ = _
  rw [chk_ok hc]
  have z : ∀ k : Nat, k < 100 → k ≤ sizeLine := fun k h => by rw [sizeLine_eq]; omega
  simp only [Res.okb, List.length_cons, List.length_nil, List.length_append, List.cons_append, List.nil_append, Nat.zero_add, Nat.reduceAdd, Nat.reduceLT, chkS, if_true, retOr]
theorem sorts_all (t : Str) (l : List Int) (b : Int) (w : Nat) (hw : w < 12) : m_sorts (w : Int) b (Tg t l) = .ok (((List.range 11).map fun (i : Nat) => (i : Int)).map fun k => decide ((w : Int) = k)) := by
  have h : w = 0 ∨ w = 1 ∨ w = 2 ∨ w = 3 ∨ w = 4 ∨ w = 5 ∨ w = 6 ∨ w = 7 ∨ w = 8 ∨ w = 9 ∨ w = 10 ∨ w = 11 := by omega
  rcases h with rfl | rfl | rfl | rfl | rfl | rfl | rfl | rfl | rfl | rfl | rfl | rfl
  · exact (sorts_of (a := 0) (n := "NotADrawing") thrown0 (by decide)).trans (congrArg Res.ok (by decide))
  · exact (sorts_of (a := 1) (n := "NoCrossing") (p := .non) rfl (by decide)).trans (congrArg Res.ok (by decide))
  · exact (sorts_of (a := 2) (n := "TooBig") (p := .non) rfl (by decide)).trans (congrArg Res.ok (by decide))
  · exact (sorts_of (a := 3) (n := "NoUnit") (p := .non) rfl (by decide)).trans (congrArg Res.ok (by decide))
  · exact (sorts_of (a := 4) (n := "NotClosed") (p := .non) rfl (by decide)).trans (congrArg Res.ok (by decide))
  · exact (sorts_of (a := 5) (n := "NoFit") (p := .non) rfl (by decide)).trans (congrArg Res.ok (by decide))
  · exact (sorts_of (a := 6) (n := "TooMuch") (p := .non) rfl (by decide)).trans (congrArg Res.ok (by decide))
  · exact (sorts_of (a := 7) (n := "NoMove") (p := .non) rfl (by decide)).trans (congrArg Res.ok (by decide))
  · exact (sorts_of (a := 8) (n := "NoChain") (p := .int b) rfl (by decide)).trans (congrArg Res.ok (by decide))
  · exact (sorts_of (a := 9) (n := "NoPrime") (p := .non) rfl (by decide)).trans (congrArg Res.ok (by decide))
  · exact (sorts_of (a := 10) (n := "NoLine") (p := .non) rfl (by decide)).trans (congrArg Res.ok (by decide))
  · exact (sorts_of (a := 11) (n := "PlaitError") (p := .non) rfl (by decide)).trans (congrArg Res.ok (by decide))
theorem fields_ok : m_fields b (Tg t l) = .ok true := by
  have z : ∀ k : Nat, k < 100 → k ≤ sizeLine := fun k h => by rw [sizeLine_eq]; omega
  unfold m_fields
  simp only [Res.okb, List.length_cons, List.length_nil, Nat.zero_add, Nat.reduceAdd, Nat.reduceLT, chkS]
  rw [thrown8]
  show chk (cau exNames "NoChain" "NoChain" = true) _ = _
  rw [chk_ok (show cau exNames "NoChain" "NoChain" = true by decide)]
  dsimp only
  rw [chk_ok (show Pay.int b ≠ Pay.non from fun z => nomatch z), Res.okb, show setR [Fv.non, Fv.non] 0 (fvP (Pay.int b)) = .ok [Fv.int b, Fv.non] from rfl]
  simp only [Res.okb, retOr]
  rw [thrown0]
  show chk (cau exNames "NotADrawing" "NotADrawing" = true) _ = _
  rw [chk_ok (show cau exNames "NotADrawing" "NotADrawing" = true by decide)]
  dsimp only
  rw [chk_ok (show Pay.tag t l ≠ Pay.non from fun z => nomatch z), Res.okb, show setR [Fv.int b, Fv.non] 1 (fvP (Pay.tag t l)) = .ok [Fv.int b, Fv.tup (Tg t l)] from rfl]
  simp only [Res.okb, retOr]
  rw [show atR [Fv.int b, Fv.tup (Tg t l)] 0 = .ok (Fv.int b) from rfl, show atR [Fv.int b, Fv.tup (Tg t l)] 1 = .ok (Fv.tup (Tg t l)) from rfl]
  simp only [Res.okb, fvO, fvT, fvU]
  rw [show noE (m_is_whole (some b)) = .ok true from rfl]
  simp only [Res.okb, Bool.not_true]
  simp only [decide_true]
  rfl
theorem wrong_ok {r : List Int} (h0 : 3 ≤ r.length) : ∃ t l, m_wrong r = .ok (Tg t l) := by
  have z : ∀ k : Nat, k < 100 → k ≤ sizeLine := fun k h => by rw [sizeLine_eq]; omega
  have a0 : atR r 0 = .ok r[0] := at_nat (i := 0) (by simp [h0])
  have a1 : atR r 1 = .ok r[1] := at_nat (i := 1) (by simp [h0])
  have a2 : atR r 2 = .ok r[2] := at_nat (i := 2) (by simp [h0])
  unfold m_wrong
  simp only [Res.okb, a0, a1, a2, List.length_cons, List.length_nil, Nat.zero_add, Nat.reduceAdd, Nat.reduceLT, chkS]
  by_cases e : r[0] = 0
  · rw [if_pos (decide_eq_true e)]; exact ⟨"walk", [r[1], r[2]], rfl⟩
  · rw [if_neg (by rw [decide_eq_true_eq]; exact e)]
    by_cases e : r[0] = 1
    · rw [if_pos (decide_eq_true e)]; exact ⟨"sign", [r[1]], rfl⟩
    · rw [if_neg (by rw [decide_eq_true_eq]; exact e)]; exact ⟨"many", [41 + r[1]], rfl⟩
end
theorem p9 : powR 10 9 = .ok 1000000000 := (pow_ok (by decide) (by decide) (by decide) (by decide)).trans (congrArg Res.ok (by decide +kernel))
theorem p60 : powR 10 60 = .ok 1000000000000000000000000000000000000000000000000000000000000 := (pow_ok (by decide) (by decide) (by decide) (by decide)).trans (congrArg Res.ok (by decide +kernel))
theorem law_true (ns : List Int) (_ : ns.length ≤ 63) : m_law ns = .ok true := by
  have z : ∀ k : Nat, k < 100 → k ≤ sizeLine := fun k h => by rw [sizeLine_eq]; omega
  have hs : ∀ x ∈ [(3 : Int), 1000000000, 1000000000, 1000000000000000000000000000000000000000000000000000000000000], 0 < x ∧ x < 2 ^ 250 := by
    intro x hx
    simp only [List.mem_cons, List.not_mem_nil, or_false] at hx
    rcases hx with rfl | rfl | rfl | rfl <;> exact ⟨by decide, by decide +kernel⟩
  obtain ⟨r1, e1, l1, _⟩ := row_ok ns (p := 0) (by decide) [3, 1000000000, 1000000000, 1000000000000000000000000000000000000000000000000000000000000] (by decide) hs
  obtain ⟨r2, e2, l2, _⟩ := row_ok ns (p := 1) (by decide) [3, 1000000000, 1000000000, 1000000000000000000000000000000000000000000000000000000000000] (by decide) hs
  obtain ⟨t1, w1, f1⟩ := wrong_ok (r := r1) (by rw [l1]; decide)
  obtain ⟨t2, w2, f2⟩ := wrong_ok (r := r2) (by rw [l2]; decide)
  have l1' : r1.length = 4 := l1
  have l2' : r2.length = 4 := l2
  have b1 : atR r1 3 = .ok r1[3] := at_nat (i := 3) (by simp [l1'])
  have b2 : atR r2 3 = .ok r2[3] := at_nat (i := 3) (by simp [l2'])
  unfold m_law
  simp only [Res.okb]
  rw [p9, p60]
  simp only [Res.okb, List.length_cons, List.length_nil, Nat.zero_add, Nat.reduceAdd, Nat.reduceLT, chkS]
  rw [e1, e2]
  simp only [noE_okb, Res.okb]
  rw [f1, f2]
  simp only [noE_okb, Res.okb]
  rw [show rngR 0 12 = .ok ((List.range 12).map fun (i : Nat) => (i : Int)) from rng_ok (n := 12) (by decide)]
  simp only [Res.okb]
  rw [forC_all fun a ha => ?_]
  · simp only [Res.okb, retOr_nx]
    rw [b1, b2]
    simp only [Res.okb]
    simp only [fields_ok, noE_okb, Res.okb]
    rfl
  · obtain ⟨w, hw, rfl⟩ := List.mem_map.mp ha
    rw [b1, Res.okb, sorts_all t1 w1 r1[3] w (List.mem_range.mp hw), noE_okb, Res.okb, show rngR 0 11 = .ok ((List.range 11).map fun (i : Nat) => (i : Int)) from rng_ok (n := 11) (by decide)]
    simp only [Res.okb]
    rw [mapC_ok (h := fun k => decide ((w : Int) = k)) (by simp; exact z 11 (by decide)) fun k _ => rfl]
    simp only [Res.okb, decide_true, Bool.not_true]
    rfl
end My

namespace My
open PySem L2
def top (i : Nat) : Stmt := PySem.Challenge.pw_plait_k17_refusals.main.body.getD i (.Pass ⟨0, 0, 0, 0⟩)
abbrev s_cell : Stmt := top 14
abbrev s_mix : Stmt := top 15
abbrev s_row : Stmt := top 16
abbrev s_is_whole : Stmt := top 17
abbrev s_thrown : Stmt := top 18
abbrev s_sorts : Stmt := top 19
abbrev s_fields : Stmt := top 20
abbrev s_wrong : Stmt := top 21
abbrev s_law : Stmt := top 22
structure Blt (mg : Str → Option Value) : Prop where
  b_ValueError : mg "ValueError" = none
  b_bool : mg "bool" = none
  b_int : mg "int" = none
  b_isinstance : mg "isinstance" = none
  b_len : mg "len" = none
  b_range : mg "range" = none
  b_tuple : mg "tuple" = none
def iniOf (st : Stmt) : Stmt := match st with
  | .ClassDef _ _ _ b _ _ _ _ _ _ _ => b.getD 0 (.Pass ⟨0, 0, 0, 0⟩)
  | s => s
abbrev s_i1 : Stmt := iniOf (top 2)
abbrev s_i2 : Stmt := iniOf (top 10)
theorem sc_i1 : FnScope ["self", "fault"] ["self", "fault"] (defScope s_i1) := ⟨rfl, rfl, rfl, by decide +kernel, rfl, by decide +kernel, by decide +kernel⟩
theorem sc_i2 : FnScope ["self", "at"] ["self", "at"] (defScope s_i2) := ⟨rfl, rfl, rfl, by decide +kernel, rfl, by decide +kernel, by decide +kernel⟩
theorem xi_mk {K : PySem.W.Frag} {mg : Str → Option Value} {n f qual : Str} {st : Stmt} {C Pa fI : Addr} {nm0 qn0 : Str} {Ns0 : Addr} {bs0 sb0 : List Value} {sn0 : List Str} {ab0 : Bool} {co0 : Option Bool} {dd0 od0 an0 : Option Addr} {ka0 kb0 kc0 ke0 kf0 : Option Value} {oc0 kV0 dc0 pm0 cd0 ct0 : Value} {sl0 : Array (Option Value)} (hm : mg n = some (.ref C)) (lC : K.lookup C = some (excClassObj nm0 qn0 C Ns0 bs0 (.ref Pa :: vEr) true sn0 sb0 ab0 co0 dd0 ka0 kb0 kc0 ke0 kf0 "ValueError.__new__")) (par : PySem.W.excIn K Pa vEr "ValueError.__new__" = true)
    (sa : PySem.W.findIn K (.ref C) "__setattr__" = some (some (.builtin "object.__setattr__"))) (no : PySem.W.findIn K (.ref C) f = some none) (ini : PySem.W.findIn K (.ref C) "__init__" = some (some (.ref fI))) (fn : PySem.W.isFn K (.ref fI) = true) (di : PySem.W.hasDictIn K C = true)
    (l : K.lookup fI = some ⟨oc0, od0, .func (PySem.W.fnOf "__init__" qual (defArgs st) (defBody st) (defScope st) .none kV0 dc0 pm0 an0 cd0 ct0), sl0⟩) (c : PySem.W.codeIn K cd0 qual = true) (k : PySem.W.keepIn K (.ref fI) = true) (S : FnScope ["self", f] ["self", f] (defScope st))
    (hb : ∀ (kV doc pm : Value) (an : Option Addr) (cdv ct u0 u1 : Value), bindArgs (PySem.W.fnOf "__init__" qual (defArgs st) (defBody st) (defScope st) .none kV doc pm an cdv ct) ⟨[u0, u1], []⟩ = pure ([("self" : Str), f].zip [u0, u1]))
    (pb : ∀ (_ : ExI K C Pa fI f) (P : Program) (w : World) (base : Heap) (cdv : Value) (A : Around) (outer : List Env) (s : Shared) (H : Hp) (E : XK), PSs (cxOf (CXD P w) P w K mg base ["self", f] qual (defScope st) fI cdv A outer s H E) (defBody st) (sFldX C f (tVar 0) (tVar 1))) : XI K mg n f := by
  have Y : ExI K C Pa fI f := ⟨⟨_, _, _, _, _, _, _, _, _, _, _, _, _, _, lC⟩, par, sa, no, ini, fn⟩
  refine ⟨fun C' h' => ?_, fun C' h' => ?_⟩
  · rw [hm] at h'
    cases h'
    refine ⟨Pa, fI, _, Y, (fun_mk l c k).binds fun _ _ _ _ _ _ us hl => (by obtain ⟨_, _, rfl⟩ := lenL2 hl; exact hb ..), fun P w base => fn_of (k := 0) l c S (fun vs H Q E h => by obtain ⟨e, v, _, _, rfl, _⟩ := h; rfl) fun A outer s H vs Q E hr hsp => ⟨_, pb Y P w base _ A outer s H E, ?_⟩⟩
    obtain ⟨e, v, vals, sl, rfl, he, q⟩ := hsp
    exact ⟨_, rfl, _, rfl, e, vals, sl, rfl, he, q⟩
  · rw [hm] at h'
    cases h'
    exact ⟨di, no⟩
section
variable {P : Program} {w : World} {K : PySem.W.Frag} {mg : Str → Option Value} {base : Heap}
theorem sc_cell : FnScope ["_law_script", "_law_place", "_law_seed", "_law_cell_here"] ["_law_script", "_law_place"] (defScope s_cell) := ⟨rfl, rfl, rfl, by decide +kernel, rfl, by decide +kernel, by decide +kernel⟩
set_option maxHeartbeats 4000000 in
theorem ok_cell (D : Def K mg "_law_cell" s_cell ["_law_script", "_law_place"])  (Y : Ecs exNames K mg) (N1 : XI K mg "NotADrawing" "fault") (N2 : XI K mg "NoChain" "at") (Z : Blt mg) : Fn P w K mg base 1 "_law_cell" ["_law_script", "_law_place"] (sp2 (rL rInt) rInt (oF rInt) m_cell K) := by
  refine fn_mk D sc_cell (fun vs H Q E h => ?_) (fun f cdv A outer s H vs Q E hr h => ?_)
  · obtain ⟨v_0, v_1, a_0, a_1, b, rfl, _⟩ := h; rfl
  obtain ⟨v_0, v_1, a_0, a_1, b, rfl, h_0, h_1, hm, q⟩ := h
  have hu := hu8 hr
  have hu1 := hu_of hr
  refine ⟨_, (pss_cons (ps_if (pt_cmpR op_lt (pv 1) (pe_callB (call_len_seqK K rfl) rfl Z.b_len PySem.boot_len (pa_cons (pv 0) pa_nil)) (nomark _))
      (pss_cons (ps_ret (pe_ix (ix_listK K rfl) (pv 0) (pv 1) (fun _ _ => rfl)))
      pss_nil)
      pss_nil)
    (pss_cons (ps_set (i := 2) sc_cell.nd rfl (Or.inl rfl) pe_int)
    (pss_cons (ps_for PassesOwn.never rfl (pi_listK (K := K) rfl (pe_slice (sl_listK K rfl) (pv 0) po_none (po_some pe_int))) (pg_name (i := 3) sc_cell.nd rfl (Or.inl rfl))
      (pss_cons (ps_set (i := 2) sc_cell.nd rfl (Or.inl rfl) (pe_op op_mod (pe_op op_add (pe_op op_add (pe_op op_mul (pv 2) pe_int) (pe_op op_mod (pv 3) pe_int)) pe_int) pe_int))
      pss_nil))
    (pss_cons (ps_ret (pe_op op_mod (pe_op op_add (pv 2) (pe_op op_mul pe_int (pv 1))) pe_int))
    pss_nil)))), ?_⟩
  refine top_T (S := (SC.add (SC.add SC.nil K (rL rInt) v_0 a_0) K rInt v_1 a_1)) (σ := [some v_0, some v_1, none, none]) 0 ?_ (SC.i (SC.i SC.t h_0) h_1) hm q rfl
  unfold m_cell
  exact (sv_ifR (evt_test (K := K) (evb_lt (evb_var (r := rInt) 1 rfl (fun _ s => (SC.r s))) (evb_lenS (evb_var (r := (rL rInt)) 0 rfl (fun _ s => (SC.r (SC.l s))))))) (sv_ret (EvS.ev (EvB.sh (evb_ixS (evb_var (r := (rL rInt)) 0 rfl (fun _ s => (SC.r (SC.l s)))) (evb_var (r := rInt) 1 rfl (fun _ s => (SC.r s))))))) (sv_set (K := K) (r := rInt) 2 (EvB.sh (evb_int 5)) fun a7 v8 => (sv_for (K := K) (J := ({ oo := fun x13 => [], ss := fun x13 => [some v_0, some v_1, some x13.2, x13.1], sc := fun g14 x13 => (SC.add (SC.add (SC.add SC.nil K (rL rInt) v_0 a_0) K rInt v_1 a_1) K rInt x13.2 g14) } : Jn (Int) (Option V × V))) (fun _ => tg1 3) ((none), v8) (a7) (walk_list (Ev.sh (ev_sliceS (evb_var (r := (rL rInt)) 0 rfl (fun _ s => (SC.r (SC.l (SC.l s))))) evp_none (evp_some (K := K) (evb_int 63))))) rfl rfl (fun _ s => (SC.i (SC.i (SC.i SC.t (SC.r (SC.l (SC.l s)))) (SC.r (SC.l s))) (SC.r s))) (fun g15 x16 a17 v18 => (sv_set (K := K) (r := rInt) 2 (EvB.sh (evb_mod (evb_add (evb_add (evb_mul (evb_var (r := rInt) 2 rfl (fun _ s => (SC.r (SC.l s)))) (evb_int 48271)) (evb_mod (evb_var (r := rInt) 3 rfl (fun _ s => (SC.r s))) (evb_int 1000003))) (evb_int 1)) (evb_int 2147483647))) fun a19 v20 => (sv_end (J := _) ((some v18), v20) (a19) rfl rfl (fun _ s => (SC.i (SC.i (SC.i SC.t (SC.r (SC.l (SC.l (SC.l (SC.l s)))))) (SC.r (SC.l (SC.l (SC.l s))))) (SC.r s)))))) fun g31 x32 => (sv_ret (EvS.ev (EvB.sh (evb_mod (evb_add (evb_var (r := rInt) 2 rfl (fun _ s => (SC.r s))) (evb_mul (evb_int 7919) (evb_var (r := rInt) 1 rfl (fun _ s => (SC.r (SC.l s)))))) (evb_int 1000003))))))))
theorem sc_mix : FnScope ["_law_cell_here", "_law_k", "_law_one", "_law_two"] ["_law_cell_here", "_law_k"] (defScope s_mix) := ⟨rfl, rfl, rfl, by decide +kernel, rfl, by decide +kernel, by decide +kernel⟩
set_option maxHeartbeats 4000000 in
theorem ok_mix (D : Def K mg "_law_mix" s_mix ["_law_cell_here", "_law_k"])  (Y : Ecs exNames K mg) (N1 : XI K mg "NotADrawing" "fault") (N2 : XI K mg "NoChain" "at") (Z : Blt mg) : Fn P w K mg base 1 "_law_mix" ["_law_cell_here", "_law_k"] (sp2 rInt rInt (oF rInt) m_mix K) := by
  refine fn_mk D sc_mix (fun vs H Q E h => ?_) (fun f cdv A outer s H vs Q E hr h => ?_)
  · obtain ⟨v_0, v_1, a_0, a_1, b, rfl, _⟩ := h; rfl
  obtain ⟨v_0, v_1, a_0, a_1, b, rfl, h_0, h_1, hm, q⟩ := h
  have hu := hu8 hr
  have hu1 := hu_of hr
  refine ⟨_, (pss_cons (ps_set (i := 2) sc_mix.nd rfl (Or.inl rfl) (pe_op op_mod (pe_op op_pow (pe_op op_add (pe_op op_add (pe_op op_mod (pv 0) pe_int) (pe_op op_mul pe_int (pv 1))) pe_int) pe_int) pe_int))
    (pss_cons (ps_set (i := 3) sc_mix.nd rfl (Or.inl rfl) (pe_op op_mod (pe_op op_add (pe_op op_add (pe_op op_mul (pv 2) pe_int) (pe_op op_mul (pe_op op_mul pe_int (pv 1)) (pv 1))) pe_int) pe_int))
    (pss_cons (ps_ret (pe_op op_fdivB (pv 3) pe_int))
    pss_nil))), ?_⟩
  refine top_T (S := (SC.add (SC.add SC.nil K rInt v_0 a_0) K rInt v_1 a_1)) (σ := [some v_0, some v_1, none, none]) 0 ?_ (SC.i (SC.i SC.t h_0) h_1) hm q rfl
  unfold m_mix
  exact (sv_set (K := K) (r := rInt) 2 (EvB.sh (evb_mod (evb_pow (evb_add (evb_add (evb_mod (evb_var (r := rInt) 0 rfl (fun _ s => (SC.r (SC.l s)))) (evb_int 2147483629)) (evb_mul (evb_int 1013) (evb_var (r := rInt) 1 rfl (fun _ s => (SC.r s))))) (evb_int 7919)) (evb_int 3)) (evb_int 2147483647))) fun a1 v2 => (sv_set (K := K) (r := rInt) 3 (EvB.sh (evb_mod (evb_add (evb_add (evb_mul (evb_var (r := rInt) 2 rfl (fun _ s => (SC.r s))) (evb_int 40699)) (evb_mul (evb_mul (evb_int 3793) (evb_var (r := rInt) 1 rfl (fun _ s => (SC.r (SC.l s))))) (evb_var (r := rInt) 1 rfl (fun _ s => (SC.r (SC.l s)))))) (evb_int 11)) (evb_int 2147483399))) fun a15 v16 => (sv_ret (EvS.ev (EvB.sh (evb_div (evb_var (r := rInt) 3 rfl (fun _ s => (SC.r s))) (evb_int 101)))))))
theorem sc_row : FnScope ["_law_script", "_law_place", "_law_sizes", "_law_cell_here", "_law_left", "_law_some", "_law_k", "_law_other"] ["_law_script", "_law_place", "_law_sizes"] (defScope s_row) := ⟨rfl, rfl, rfl, by decide +kernel, rfl, by decide +kernel, by decide +kernel⟩
set_option maxHeartbeats 4000000 in
theorem ok_row (D : Def K mg "_law_row" s_row ["_law_script", "_law_place", "_law_sizes"]) (g_cell : Fn P w K mg base 1 "_law_cell" ["_law_script", "_law_place"] (sp2 (rL rInt) rInt (oF rInt) m_cell K)) (g_mix : Fn P w K mg base 1 "_law_mix" ["_law_cell_here", "_law_k"] (sp2 rInt rInt (oF rInt) m_mix K)) (Y : Ecs exNames K mg) (N1 : XI K mg "NotADrawing" "fault") (N2 : XI K mg "NoChain" "at") (Z : Blt mg) : Fn P w K mg base 2 "_law_row" ["_law_script", "_law_place", "_law_sizes"] (sp3 (rL rInt) rInt (rV rInt) (oL (oF rInt)) m_row K) := by
  refine fn_mk D sc_row (fun vs H Q E h => ?_) (fun f cdv A outer s H vs Q E hr h => ?_)
  · obtain ⟨v_0, v_1, v_2, a_0, a_1, a_2, b, rfl, _⟩ := h; rfl
  obtain ⟨v_0, v_1, v_2, a_0, a_1, a_2, b, rfl, h_0, h_1, h_2, hm, q⟩ := h
  have hu := hu8 hr
  have hu1 := hu_of hr
  refine ⟨_, (pss_cons (ps_set (i := 3) sc_row.nd rfl (Or.inl rfl) (pe_fn g_cell hr (by decide) (pa_cons (pv 0) (pa_cons (pv 1) pa_nil))))
    (pss_cons (ps_set (i := 4) sc_row.nd rfl (Or.inl rfl) (pv 3))
    (pss_cons (ps_set (i := 5) sc_row.nd rfl (Or.inl rfl) (pe_lst pa_nil))
    (pss_cons (ps_for PassesOwn.never rfl (pi_range1 rfl Z.b_range (pa_cons (pe_callB (call_len_seqK K rfl) rfl Z.b_len PySem.boot_len (pa_cons (pv 2) pa_nil)) pa_nil)) (pg_name (i := 6) sc_row.nd rfl (Or.inl rfl))
      (pss_cons (ps_if (pt_cmpR op_lt (pv 3) (pe_op op_pow pe_int pe_int) (nomark _))
        (pss_cons (ps_expr (pe_bm PySem.F.plainAttrs_list PySem.F.slot_list_append PySem.F.type_list_append mt_append (pv 5) (pa_cons (pe_op op_mod (pe_fn g_mix hr (by decide) (pa_cons (pv 3) (pa_cons (pv 6) pa_nil))) (pe_ix (ix_listK K rfl) (pv 2) (pv 6) (fun _ _ => rfl))) pa_nil)))
        pss_nil)
        (pss_cons (ps_if (pt_cmpR op_gt (pv 4) pe_int (nomark _))
          (pss_cons (ps_expr (pe_bm PySem.F.plainAttrs_list PySem.F.slot_list_append PySem.F.type_list_append mt_append (pv 5) (pa_cons (pe_op op_mod (pv 4) (pe_ix (ix_listK K rfl) (pv 2) (pv 6) (fun _ _ => rfl))) pa_nil)))
          (pss_cons (ps_set (i := 4) sc_row.nd rfl (Or.inl rfl) (pe_op op_fdivB (pv 4) (pe_ix (ix_listK K rfl) (pv 2) (pv 6) (fun _ _ => rfl))))
          pss_nil))
          (pss_cons (ps_set (i := 7) sc_row.nd rfl (Or.inl rfl) (pe_fn g_cell hr (by decide) (pa_cons (pv 0) (pa_cons (pe_op op_mod (pe_op op_add (pe_op op_add (pv 1) pe_int) (pv 6)) pe_int) pa_nil))))
          (pss_cons (ps_expr (pe_bm PySem.F.plainAttrs_list PySem.F.slot_list_append PySem.F.type_list_append mt_append (pv 5) (pa_cons (pe_op op_mod (pe_fn g_mix hr (by decide) (pa_cons (pv 7) (pa_cons (pv 6) pa_nil))) (pe_ix (ix_listK K rfl) (pv 2) (pv 6) (fun _ _ => rfl))) pa_nil)))
          pss_nil)))
        pss_nil))
      pss_nil))
    (pss_cons (ps_ret (pv 5))
    pss_nil))))), ?_⟩
  refine top_T (S := (SC.add (SC.add (SC.add SC.nil K (rL rInt) v_0 a_0) K rInt v_1 a_1) K (rV rInt) v_2 a_2)) (σ := [some v_0, some v_1, some v_2, none, none, none, none, none]) 1 ?_ (SC.i (SC.i (SC.i SC.t h_0) h_1) h_2) hm q rfl
  unfold m_row
  exact (sv_set (K := K) (r := rInt) 3 (EvB.sh (Ev.toB (ev_call2 (evb_var (r := (rL rInt)) 0 rfl (fun _ s => (SC.r (SC.l (SC.l s))))) (evb_var (r := rInt) 1 rfl (fun _ s => (SC.r (SC.l s))))))) fun a1 v2 => (sv_set (K := K) (r := rInt) 4 (evs_var (r := rInt) 3 rfl (fun _ s => (SC.r s))) fun a6 v7 => (sv_setO (K := K) (o := (oL (oF rInt))) 5 0 (ev_l0 (o := (oF rInt))) (Nat.le_of_ble_eq_true rfl) fun a8 v9 C10 => (sv_for (K := K) (J := ({ oo := fun x13 => [x13.2.2.2.2], ss := fun x13 => [some v_0, some v_1, some v_2, some v2, some x13.2.2.1, some x13.2.1, x13.1, x13.2.2.2.1], sc := fun g14 x13 => (SC.add (SC.addO (SC.add (SC.add (SC.add (SC.add SC.nil K (rL rInt) v_0 a_0) K rInt v_1 a_1) K (rV rInt) v_2 a_2) K rInt v2 a1) K (oL (oF rInt)) x13.2.1 g14.1 x13.2.2.2.2) K rInt x13.2.2.1 g14.2) } : Jn ((List Int) × Int) (Option V × V × V × Option V × List Cell))) (fun _ => tg1 6) ((none), v9, v7, (none), C10) (a8, a6) (walk_range1 (evb_len (evb_var (r := (rV rInt)) 2 rfl (fun _ s => (SC.r (SC.l (SC.l (SC.l s)))))))) rfl rfl (fun _ s => (SC.i (SC.i (SC.i (SC.i (SC.i (SC.i SC.t (SC.r (SC.l (SC.l (SC.l (SC.l (SC.l s))))))) (SC.r (SC.l (SC.l (SC.l (SC.l s)))))) (SC.r (SC.l (SC.l (SC.l s))))) (SC.r (SC.l (SC.l s)))) (SC.r s)) (SC.r (SC.l s)))) (fun g15 x16 a17 v18 => (sv_seqN (J := ({ oo := fun x24 => [x24.2.2.2], ss := fun x24 => [some v_0, some v_1, some v_2, some v2, some x24.2.1, some x24.1, some v18, x24.2.2.1], sc := fun g25 x24 => (SC.add (SC.addO (SC.add (SC.add (SC.add (SC.add (SC.add SC.nil K (rL rInt) v_0 a_0) K rInt v_1 a_1) K (rV rInt) v_2 a_2) K rInt v2 a1) K rInt v18 a17) K (oL (oF rInt)) x24.1 g25.1 x24.2.2.2) K rInt x24.2.1 g25.2) } : Jn ((List Int) × Int) (V × V × Option V × List Cell))) (sv_if2 (Fd := FNd ({ oo := fun x24 => [x24.2.2.2], ss := fun x24 => [some v_0, some v_1, some v_2, some v2, some x24.2.1, some x24.1, some v18, x24.2.2.1], sc := fun g25 x24 => (SC.add (SC.addO (SC.add (SC.add (SC.add (SC.add (SC.add SC.nil K (rL rInt) v_0 a_0) K rInt v_1 a_1) K (rV rInt) v_2 a_2) K rInt v2 a1) K rInt v18 a17) K (oL (oF rInt)) x24.1 g25.1 x24.2.2.2) K rInt x24.2.1 g25.2) } : Jn ((List Int) × Int) (V × V × Option V × List Cell))) (evt_test (K := K) (evb_lt (evb_var (r := rInt) 3 rfl (fun _ s => (SC.r (SC.l (SC.l (SC.l s)))))) (evb_pow (evb_int 10) (evb_int 18)))) (sv_app (K := K) (o := (oF rInt)) (f := fun a35 => (Res.ok (a35, g15.2))) 5 0 rfl rfl rfl (fun _ s => (SC.r (SC.l (SC.l s)))) (EvS.ev (EvB.sh (evb_mod (Ev.toB (ev_call2 (evb_var (r := rInt) 3 rfl (fun _ s => (SC.r (SC.l (SC.l (SC.l s)))))) (evb_var (r := rInt) 6 rfl (fun _ s => (SC.r s))))) (evb_ix (evb_var (r := (rV rInt)) 2 rfl (fun _ s => (SC.r (SC.l (SC.l (SC.l (SC.l s))))))) (evb_var (r := rInt) 6 rfl (fun _ s => (SC.r s))))))) fun a33 C34 => (sv_end (J := _) (x16.2.1, x16.2.2.1, (x16.2.2.2.1), C34) ((g15.1 ++ [a33]), g15.2) rfl rfl (fun _ s => (SC.i (SC.i (SC.i (SC.i (SC.i (SC.i (SC.i SC.t (SC.r (SC.l (SC.l (SC.l (SC.l (SC.l (SC.l (SC.l s))))))))) (SC.r (SC.l (SC.l (SC.l (SC.l (SC.l (SC.l s)))))))) (SC.r (SC.l (SC.l (SC.l (SC.l (SC.l s))))))) (SC.r (SC.l (SC.l (SC.l (SC.l s)))))) (SC.r (SC.l s))) (SC.r s)) (SC.r (SC.l (SC.l s))))))) (sv_seqN (J := ({ oo := fun x39 => [x39.2.2.2], ss := fun x39 => [some v_0, some v_1, some v_2, some v2, some x39.1, some x39.2.2.1, some v18, x39.2.1], sc := fun g40 x39 => (SC.addO (SC.add (SC.add (SC.add (SC.add (SC.add (SC.add SC.nil K (rL rInt) v_0 a_0) K rInt v_1 a_1) K (rV rInt) v_2 a_2) K rInt v2 a1) K rInt v18 a17) K rInt x39.1 g40.1) K (oL (oF rInt)) x39.2.2.1 g40.2 x39.2.2.2) } : Jn (Int × (List Int)) (V × Option V × V × List Cell))) (sv_if2 (Fd := FNd ({ oo := fun x39 => [x39.2.2.2], ss := fun x39 => [some v_0, some v_1, some v_2, some v2, some x39.1, some x39.2.2.1, some v18, x39.2.1], sc := fun g40 x39 => (SC.addO (SC.add (SC.add (SC.add (SC.add (SC.add (SC.add SC.nil K (rL rInt) v_0 a_0) K rInt v_1 a_1) K (rV rInt) v_2 a_2) K rInt v2 a1) K rInt v18 a17) K rInt x39.1 g40.1) K (oL (oF rInt)) x39.2.2.1 g40.2 x39.2.2.2) } : Jn (Int × (List Int)) (V × Option V × V × List Cell))) (evt_test (K := K) (evb_gt (evb_var (r := rInt) 4 rfl (fun _ s => (SC.r (SC.l s)))) (evb_int 0))) (sv_app (K := K) (o := (oF rInt)) (f := fun a47 => (Res.bind (Res.bind (Res.ok g15.2) fun x52 => (Res.bind (Res.bind (Res.ok a_2) fun x50 => (Res.bind (Res.ok a17) fun x51 => (atR x50 x51))) fun x53 => (divR x52 x53))) fun a48 => (Res.ok (a48, a47)))) 5 0 rfl rfl rfl (fun _ s => (SC.r (SC.l (SC.l s)))) (EvS.ev (EvB.sh (evb_mod (evb_var (r := rInt) 4 rfl (fun _ s => (SC.r (SC.l s)))) (evb_ix (evb_var (r := (rV rInt)) 2 rfl (fun _ s => (SC.r (SC.l (SC.l (SC.l (SC.l s))))))) (evb_var (r := rInt) 6 rfl (fun _ s => (SC.r s))))))) fun a45 C46 => (sv_set (K := K) (r := rInt) 4 (EvB.sh (evb_div (evb_var (r := rInt) 4 rfl (fun _ s => (SC.r (SC.l (SC.l s))))) (evb_ix (evb_var (r := (rV rInt)) 2 rfl (fun _ s => (SC.r (SC.l (SC.l (SC.l (SC.l (SC.l s)))))))) (evb_var (r := rInt) 6 rfl (fun _ s => (SC.r (SC.l s))))))) fun a48 v49 => (sv_end (J := _) (v49, (x16.2.2.2.1), x16.2.1, C46) (a48, (g15.1 ++ [a45])) rfl rfl (fun _ s => (SC.i (SC.i (SC.i (SC.i (SC.i (SC.i (SC.i SC.t (SC.r (SC.l (SC.l (SC.l (SC.l (SC.l (SC.l (SC.l (SC.l s)))))))))) (SC.r (SC.l (SC.l (SC.l (SC.l (SC.l (SC.l (SC.l s))))))))) (SC.r (SC.l (SC.l (SC.l (SC.l (SC.l (SC.l s)))))))) (SC.r (SC.l (SC.l (SC.l (SC.l (SC.l s))))))) (SC.r (SC.l (SC.l s)))) (SC.r s)) (SC.r (SC.l s))))))) (sv_set (K := K) (r := rInt) 7 (EvB.sh (Ev.toB (ev_call2 (evb_var (r := (rL rInt)) 0 rfl (fun _ s => (SC.r (SC.l (SC.l (SC.l (SC.l (SC.l (SC.l s))))))))) (evb_mod (evb_add (evb_add (evb_var (r := rInt) 1 rfl (fun _ s => (SC.r (SC.l (SC.l (SC.l (SC.l (SC.l s)))))))) (evb_int 1)) (evb_var (r := rInt) 6 rfl (fun _ s => (SC.r s)))) (evb_int 63))))) fun a54 v55 => (sv_app (K := K) (o := (oF rInt)) (f := fun a74 => (Res.ok (g15.2, a74))) 5 0 rfl rfl rfl (fun _ s => (SC.r (SC.l (SC.l (SC.l s))))) (EvS.ev (EvB.sh (evb_mod (Ev.toB (ev_call2 (evb_var (r := rInt) 7 rfl (fun _ s => (SC.r s))) (evb_var (r := rInt) 6 rfl (fun _ s => (SC.r (SC.l s)))))) (evb_ix (evb_var (r := (rV rInt)) 2 rfl (fun _ s => (SC.r (SC.l (SC.l (SC.l (SC.l (SC.l s)))))))) (evb_var (r := rInt) 6 rfl (fun _ s => (SC.r (SC.l s)))))))) fun a72 C73 => (sv_end (J := _) (x16.2.2.1, (some v55), x16.2.1, C73) (g15.2, (g15.1 ++ [a72])) rfl rfl (fun _ s => (SC.i (SC.i (SC.i (SC.i (SC.i (SC.i (SC.i SC.t (SC.r (SC.l (SC.l (SC.l (SC.l (SC.l (SC.l (SC.l (SC.l s)))))))))) (SC.r (SC.l (SC.l (SC.l (SC.l (SC.l (SC.l (SC.l s))))))))) (SC.r (SC.l (SC.l (SC.l (SC.l (SC.l (SC.l s)))))))) (SC.r (SC.l (SC.l (SC.l (SC.l (SC.l s))))))) (SC.r (SC.l (SC.l s)))) (SC.r (SC.l (SC.l (SC.l s))))) (SC.r s))))))) fun g76 x75 => (sv_end (J := _) (x75.2.2.1, x75.1, (x75.2.1), x75.2.2.2) (g76.2, g76.1) rfl rfl (fun _ s => (SC.i (SC.i (SC.i (SC.i (SC.i (SC.i (SC.i SC.t (SC.r (SC.l (SC.l (SC.l (SC.l (SC.l (SC.l s)))))))) (SC.r (SC.l (SC.l (SC.l (SC.l (SC.l s))))))) (SC.r (SC.l (SC.l (SC.l (SC.l s)))))) (SC.r (SC.l (SC.l (SC.l s))))) (SC.r (SC.l (SC.l s)))) (SC.r s)) (SC.r (SC.l s))))))) fun g78 x77 => (sv_end (J := _) ((some v18), x77.1, x77.2.1, (x77.2.2.1), x77.2.2.2) (g78.1, g78.2) rfl rfl (fun _ s => (SC.i (SC.i (SC.i (SC.i (SC.i (SC.i SC.t (SC.r (SC.l (SC.l (SC.l (SC.l (SC.l (SC.l s)))))))) (SC.r (SC.l (SC.l (SC.l (SC.l (SC.l s))))))) (SC.r (SC.l (SC.l (SC.l (SC.l s)))))) (SC.r (SC.l (SC.l (SC.l s))))) (SC.r (SC.l s))) (SC.r s)))))) fun g79 x80 => (sv_ret (ev_move (o := (oL (oF rInt))) 5 0 rfl rfl (fun _ s => (SC.r (SC.l s)))))))))
theorem sc_is_whole : FnScope ["_law_one"] ["_law_one"] (defScope s_is_whole) := ⟨rfl, rfl, rfl, by decide +kernel, rfl, by decide +kernel, by decide +kernel⟩
set_option maxHeartbeats 4000000 in
theorem ok_is_whole (D : Def K mg "_law_is_whole" s_is_whole ["_law_one"])  (Y : Ecs exNames K mg) (N1 : XI K mg "NotADrawing" "fault") (N2 : XI K mg "NoChain" "at") (Z : Blt mg) : Fn P w K mg base 1 "_law_is_whole" ["_law_one"] (sp1 (rOpt rInt) (oF rBool) m_is_whole K) := by
  refine fn_mk D sc_is_whole (fun vs H Q E h => ?_) (fun f cdv A outer s H vs Q E hr h => ?_)
  · obtain ⟨v_0, a_0, b, rfl, _⟩ := h; rfl
  obtain ⟨v_0, a_0, b, rfl, h_0, hm, q⟩ := h
  have hu := hu8 hr
  have hu1 := hu_of hr
  refine ⟨_, (pss_cons (ps_ret (pe_and (pe_callB call_isinst rfl Z.b_isinstance PyProof.Rows.boot_isinstance (pa_cons (pv 0) (pa_cons (pe_bltn (v := V.ty "int") rfl Z.b_int PyProof.Rows.boot_int rfl) pa_nil))) (pe_one (pe_not (pe_callB call_isinst rfl Z.b_isinstance PyProof.Rows.boot_isinstance (pa_cons (pv 0) (pa_cons (pe_bltn (v := V.ty "bool") rfl Z.b_bool PyProof.Rows.boot_bool rfl) pa_nil)))))))
    pss_nil), ?_⟩
  refine top_T (S := (SC.add SC.nil K (rOpt rInt) v_0 a_0)) (σ := [some v_0]) 0 ?_ (SC.i SC.t h_0) hm q rfl
  unfold m_is_whole
  exact (sv_ret (EvS.ev (EvB.sh (evb_andV (evb_isinstO "int" true false (kit_same K "int") (kit_none_int K) (evb_var (r := (rOpt rInt)) 0 rfl (fun _ s => (SC.r s)))) (evb_notV (evb_isinstO "bool" false false (kit_int_bool K) (kit_none_bool K) (evb_var (r := (rOpt rInt)) 0 rfl (fun _ s => (SC.r s)))))))))
theorem sc_thrown : FnScope ["_law_which", "_law_at", "_law_wrong_here"] ["_law_which", "_law_at", "_law_wrong_here"] (defScope s_thrown) := ⟨rfl, rfl, rfl, by decide +kernel, rfl, by decide +kernel, by decide +kernel⟩
set_option maxHeartbeats 4000000 in
theorem ok_thrown (D : Def K mg "_law_thrown" s_thrown ["_law_which", "_law_at", "_law_wrong_here"]) (Y : Ecs exNames K mg) (N1 : XI K mg "NotADrawing" "fault") (N2 : XI K mg "NoChain" "at") (Z : Blt mg) : FnD P w K mg base 3 "_law_thrown" ["_law_which", "_law_at", "_law_wrong_here"] (spD3 mg rInt rInt (rPL rSI) oU m_thrown K) := by
  refine fn_mkD D sc_thrown (fun vs H Q E h => ?_) (fun f cdv A outer s H vs Q E hr h => ?_)
  · obtain ⟨v_0, v_1, v_2, a_0, a_1, a_2, rfl, _⟩ := h; rfl
  obtain ⟨v_0, v_1, v_2, a_0, a_1, a_2, rfl, h_0, h_1, h_2, hz⟩ := h
  obtain ⟨C_NotADrawing, h_NotADrawing, q_NotADrawing⟩ := Y.adr "NotADrawing" (.tail _ (.head _))
  obtain ⟨Pa_NotADrawing, fI_NotADrawing, fd_NotADrawing, Y_NotADrawing, b_NotADrawing, F_NotADrawing⟩ := N1.ex C_NotADrawing h_NotADrawing
  obtain ⟨C_NoCrossing, h_NoCrossing, q_NoCrossing⟩ := Y.adr "NoCrossing" (.tail _ (.tail _ (.head _)))
  replace q_NoCrossing := q_NoCrossing (by decide)
  obtain ⟨C_TooBig, h_TooBig, q_TooBig⟩ := Y.adr "TooBig" (.tail _ (.tail _ (.tail _ (.head _))))
  replace q_TooBig := q_TooBig (by decide)
  obtain ⟨C_NoUnit, h_NoUnit, q_NoUnit⟩ := Y.adr "NoUnit" (.tail _ (.tail _ (.tail _ (.tail _ (.head _)))))
  replace q_NoUnit := q_NoUnit (by decide)
  obtain ⟨C_NotClosed, h_NotClosed, q_NotClosed⟩ := Y.adr "NotClosed" (.tail _ (.tail _ (.tail _ (.tail _ (.tail _ (.head _))))))
  replace q_NotClosed := q_NotClosed (by decide)
  obtain ⟨C_NoFit, h_NoFit, q_NoFit⟩ := Y.adr "NoFit" (.tail _ (.tail _ (.tail _ (.tail _ (.tail _ (.tail _ (.head _)))))))
  replace q_NoFit := q_NoFit (by decide)
  obtain ⟨C_TooMuch, h_TooMuch, q_TooMuch⟩ := Y.adr "TooMuch" (.tail _ (.tail _ (.tail _ (.tail _ (.tail _ (.tail _ (.tail _ (.head _))))))))
  replace q_TooMuch := q_TooMuch (by decide)
  obtain ⟨C_NoMove, h_NoMove, q_NoMove⟩ := Y.adr "NoMove" (.tail _ (.tail _ (.tail _ (.tail _ (.tail _ (.tail _ (.tail _ (.tail _ (.head _)))))))))
  replace q_NoMove := q_NoMove (by decide)
  obtain ⟨C_NoChain, h_NoChain, q_NoChain⟩ := Y.adr "NoChain" (.tail _ (.tail _ (.tail _ (.tail _ (.tail _ (.tail _ (.tail _ (.tail _ (.tail _ (.head _))))))))))
  obtain ⟨Pa_NoChain, fI_NoChain, fd_NoChain, Y_NoChain, b_NoChain, F_NoChain⟩ := N2.ex C_NoChain h_NoChain
  obtain ⟨C_NoPrime, h_NoPrime, q_NoPrime⟩ := Y.adr "NoPrime" (.tail _ (.tail _ (.tail _ (.tail _ (.tail _ (.tail _ (.tail _ (.tail _ (.tail _ (.tail _ (.head _)))))))))))
  replace q_NoPrime := q_NoPrime (by decide)
  obtain ⟨C_NoLine, h_NoLine, q_NoLine⟩ := Y.adr "NoLine" (.tail _ (.tail _ (.tail _ (.tail _ (.tail _ (.tail _ (.tail _ (.tail _ (.tail _ (.tail _ (.tail _ (.head _))))))))))))
  replace q_NoLine := q_NoLine (by decide)
  obtain ⟨C_PlaitError, h_PlaitError, q_PlaitError⟩ := Y.adr "PlaitError" (.head _)
  replace q_PlaitError := q_PlaitError (by decide)
  have hu := hu8 hr
  have hu1 := hu_of hr
  refine ⟨_, (pss_cons (ps_if (pt_cmpR op_eq (pv 0) pe_int (nomark _))
      (pss_cons (ps_raiseF raiseD rfl rfl Y_NotADrawing (F_NotADrawing _ _ _) b_NotADrawing hr (by decide) passND rfl h_NotADrawing (pa_cons (pv 2) pa_nil))
      pss_nil)
      pss_nil)
    (pss_cons (ps_if (pt_cmpR op_eq (pv 0) pe_int (nomark _))
      (pss_cons (ps_raiseP raiseD rfl rfl q_NoCrossing rfl h_NoCrossing (pa_cons pe_str pa_nil))
      pss_nil)
      pss_nil)
    (pss_cons (ps_if (pt_cmpR op_eq (pv 0) pe_int (nomark _))
      (pss_cons (ps_raiseP raiseD rfl rfl q_TooBig rfl h_TooBig (pa_cons pe_str pa_nil))
      pss_nil)
      pss_nil)
    (pss_cons (ps_if (pt_cmpR op_eq (pv 0) pe_int (nomark _))
      (pss_cons (ps_raiseP raiseD rfl rfl q_NoUnit rfl h_NoUnit (pa_cons pe_str pa_nil))
      pss_nil)
      pss_nil)
    (pss_cons (ps_if (pt_cmpR op_eq (pv 0) pe_int (nomark _))
      (pss_cons (ps_raiseP raiseD rfl rfl q_NotClosed rfl h_NotClosed (pa_cons pe_str pa_nil))
      pss_nil)
      pss_nil)
    (pss_cons (ps_if (pt_cmpR op_eq (pv 0) pe_int (nomark _))
      (pss_cons (ps_raiseP raiseD rfl rfl q_NoFit rfl h_NoFit (pa_cons pe_str pa_nil))
      pss_nil)
      pss_nil)
    (pss_cons (ps_if (pt_cmpR op_eq (pv 0) pe_int (nomark _))
      (pss_cons (ps_raiseP raiseD rfl rfl q_TooMuch rfl h_TooMuch (pa_cons pe_str pa_nil))
      pss_nil)
      pss_nil)
    (pss_cons (ps_if (pt_cmpR op_eq (pv 0) pe_int (nomark _))
      (pss_cons (ps_raiseP raiseD rfl rfl q_NoMove rfl h_NoMove (pa_cons pe_str pa_nil))
      pss_nil)
      pss_nil)
    (pss_cons (ps_if (pt_cmpR op_eq (pv 0) pe_int (nomark _))
      (pss_cons (ps_raiseF raiseD rfl rfl Y_NoChain (F_NoChain _ _ _) b_NoChain hr (by decide) passND rfl h_NoChain (pa_cons (pv 1) pa_nil))
      pss_nil)
      pss_nil)
    (pss_cons (ps_if (pt_cmpR op_eq (pv 0) pe_int (nomark _))
      (pss_cons (ps_raiseP raiseD rfl rfl q_NoPrime rfl h_NoPrime (pa_cons pe_str pa_nil))
      pss_nil)
      pss_nil)
    (pss_cons (ps_if (pt_cmpR op_eq (pv 0) pe_int (nomark _))
      (pss_cons (ps_raiseP raiseD rfl rfl q_NoLine rfl h_NoLine (pa_cons pe_str pa_nil))
      pss_nil)
      pss_nil)
    (pss_cons (ps_raiseP raiseD rfl rfl q_PlaitError rfl h_PlaitError (pa_cons pe_str pa_nil))
    pss_nil)))))))))))), ?_⟩
  refine top_UE (J := ({ oo := fun _ => [], ss := fun _ => [], sc := fun _ _ => SC.nil } : Jn Unit Unit)) (K := K) (S := (SC.add (SC.add (SC.add SC.nil K rInt v_0 a_0) K rInt v_1 a_1) K (rPL rSI) v_2 a_2)) (σ := [some v_0, some v_1, some v_2]) 0 ?_ (SC.i (SC.i (SC.i SC.t h_0) h_1) h_2) hz (fun _ _ => rfl)
  unfold m_thrown
  exact (sv_ifX (K := K) (o := oU) (evt_test (K := K) (evb_eq (evb_var (r := rInt) 0 rfl (fun _ s => (SC.r (SC.l (SC.l s))))) (evb_int 0))) (sv_raiseFt h_NotADrawing rfl (evb_var (r := (rPL rSI)) 2 rfl (fun _ s => (SC.r s)))) (sv_ifX (K := K) (o := oU) (evt_test (K := K) (evb_eq (evb_var (r := rInt) 0 rfl (fun _ s => (SC.r (SC.l (SC.l s))))) (evb_int 1))) (sv_raiseP h_NoCrossing evx_str) (sv_ifX (K := K) (o := oU) (evt_test (K := K) (evb_eq (evb_var (r := rInt) 0 rfl (fun _ s => (SC.r (SC.l (SC.l s))))) (evb_int 2))) (sv_raiseP h_TooBig evx_str) (sv_ifX (K := K) (o := oU) (evt_test (K := K) (evb_eq (evb_var (r := rInt) 0 rfl (fun _ s => (SC.r (SC.l (SC.l s))))) (evb_int 3))) (sv_raiseP h_NoUnit evx_str) (sv_ifX (K := K) (o := oU) (evt_test (K := K) (evb_eq (evb_var (r := rInt) 0 rfl (fun _ s => (SC.r (SC.l (SC.l s))))) (evb_int 4))) (sv_raiseP h_NotClosed evx_str) (sv_ifX (K := K) (o := oU) (evt_test (K := K) (evb_eq (evb_var (r := rInt) 0 rfl (fun _ s => (SC.r (SC.l (SC.l s))))) (evb_int 5))) (sv_raiseP h_NoFit evx_str) (sv_ifX (K := K) (o := oU) (evt_test (K := K) (evb_eq (evb_var (r := rInt) 0 rfl (fun _ s => (SC.r (SC.l (SC.l s))))) (evb_int 6))) (sv_raiseP h_TooMuch evx_str) (sv_ifX (K := K) (o := oU) (evt_test (K := K) (evb_eq (evb_var (r := rInt) 0 rfl (fun _ s => (SC.r (SC.l (SC.l s))))) (evb_int 7))) (sv_raiseP h_NoMove evx_str) (sv_ifX (K := K) (o := oU) (evt_test (K := K) (evb_eq (evb_var (r := rInt) 0 rfl (fun _ s => (SC.r (SC.l (SC.l s))))) (evb_int 8))) (sv_raiseFi h_NoChain rfl (evb_var (r := rInt) 1 rfl (fun _ s => (SC.r (SC.l s))))) (sv_ifX (K := K) (o := oU) (evt_test (K := K) (evb_eq (evb_var (r := rInt) 0 rfl (fun _ s => (SC.r (SC.l (SC.l s))))) (evb_int 9))) (sv_raiseP h_NoPrime evx_str) (sv_ifX (K := K) (o := oU) (evt_test (K := K) (evb_eq (evb_var (r := rInt) 0 rfl (fun _ s => (SC.r (SC.l (SC.l s))))) (evb_int 10))) (sv_raiseP h_NoLine evx_str) (sv_raiseP h_PlaitError evx_str))))))))))))

theorem sc_sorts : FnScope ["_law_which", "_law_at", "_law_wrong_here", "e", "_law_some"] ["_law_which", "_law_at", "_law_wrong_here"] (defScope s_sorts) := ⟨rfl, rfl, rfl, by decide +kernel, rfl, by decide +kernel, by decide +kernel⟩
set_option maxHeartbeats 4000000 in
theorem ok_sorts (D : Def K mg "_law_sorts" s_sorts ["_law_which", "_law_at", "_law_wrong_here"]) (g_thrown : FnD P w K mg base 3 "_law_thrown" ["_law_which", "_law_at", "_law_wrong_here"] (spD3 mg rInt rInt (rPL rSI) oU m_thrown K)) (Y : Ecs exNames K mg) (N1 : XI K mg "NotADrawing" "fault") (N2 : XI K mg "NoChain" "at") (Z : Blt mg) : Fn P w K mg base 4 "_law_sorts" ["_law_which", "_law_at", "_law_wrong_here"] (sp3 rInt rInt (rPL rSI) (oL (oF rBool)) m_sorts K) := by
  refine fn_mk D sc_sorts (fun vs H Q E h => ?_) (fun f cdv A outer s H vs Q E hr h => ?_)
  · obtain ⟨v_0, v_1, v_2, a_0, a_1, a_2, b, rfl, _⟩ := h; rfl
  obtain ⟨v_0, v_1, v_2, a_0, a_1, a_2, b, rfl, h_0, h_1, h_2, hm, q⟩ := h
  obtain ⟨C_NotADrawing, h_NotADrawing, q_NotADrawing⟩ := Y.adr "NotADrawing" (.tail _ (.head _))
  obtain ⟨C_NoCrossing, h_NoCrossing, q_NoCrossing⟩ := Y.adr "NoCrossing" (.tail _ (.tail _ (.head _)))
  obtain ⟨C_TooBig, h_TooBig, q_TooBig⟩ := Y.adr "TooBig" (.tail _ (.tail _ (.tail _ (.head _))))
  obtain ⟨C_NoUnit, h_NoUnit, q_NoUnit⟩ := Y.adr "NoUnit" (.tail _ (.tail _ (.tail _ (.tail _ (.head _)))))
  obtain ⟨C_NotClosed, h_NotClosed, q_NotClosed⟩ := Y.adr "NotClosed" (.tail _ (.tail _ (.tail _ (.tail _ (.tail _ (.head _))))))
  obtain ⟨C_NoFit, h_NoFit, q_NoFit⟩ := Y.adr "NoFit" (.tail _ (.tail _ (.tail _ (.tail _ (.tail _ (.tail _ (.head _)))))))
  obtain ⟨C_TooMuch, h_TooMuch, q_TooMuch⟩ := Y.adr "TooMuch" (.tail _ (.tail _ (.tail _ (.tail _ (.tail _ (.tail _ (.tail _ (.head _))))))))
  obtain ⟨C_NoMove, h_NoMove, q_NoMove⟩ := Y.adr "NoMove" (.tail _ (.tail _ (.tail _ (.tail _ (.tail _ (.tail _ (.tail _ (.tail _ (.head _)))))))))
  obtain ⟨C_NoChain, h_NoChain, q_NoChain⟩ := Y.adr "NoChain" (.tail _ (.tail _ (.tail _ (.tail _ (.tail _ (.tail _ (.tail _ (.tail _ (.tail _ (.head _))))))))))
  obtain ⟨C_NoPrime, h_NoPrime, q_NoPrime⟩ := Y.adr "NoPrime" (.tail _ (.tail _ (.tail _ (.tail _ (.tail _ (.tail _ (.tail _ (.tail _ (.tail _ (.tail _ (.head _)))))))))))
  obtain ⟨C_NoLine, h_NoLine, q_NoLine⟩ := Y.adr "NoLine" (.tail _ (.tail _ (.tail _ (.tail _ (.tail _ (.tail _ (.tail _ (.tail _ (.tail _ (.tail _ (.tail _ (.head _))))))))))))
  obtain ⟨C_PlaitError, h_PlaitError, q_PlaitError⟩ := Y.adr "PlaitError" (.head _)
  have hu := hu8 hr
  have hu1 := hu_of hr
  refine ⟨_, (pss_cons (ps_tryC (fun _ _ z => z) g_thrown hr (by decide) (pa_cons (pv 0) (pa_cons (pv 1) (pa_cons (pv 2) pa_nil))) rfl rfl rfl rfl h_PlaitError sc_sorts.nd (i := 3) rfl rfl rfl (fun pn a o C vs od hm hc ho hd => by exact (pss_cons (ps_set (i := 4) sc_sorts.nd rfl (Or.inl rfl) (pe_lst (pa_cons (pe_callB (call_isE rfl hm hc rfl) rfl Z.b_isinstance PyProof.Rows.boot_isinstance (pa_cons (pv 3) (pa_cons (pe_glob (v := V.ref C_NotADrawing) rfl h_NotADrawing rfl) pa_nil))) (pa_cons (pe_callB (call_isE rfl hm hc rfl) rfl Z.b_isinstance PyProof.Rows.boot_isinstance (pa_cons (pv 3) (pa_cons (pe_glob (v := V.ref C_NoCrossing) rfl h_NoCrossing rfl) pa_nil))) (pa_cons (pe_callB (call_isE rfl hm hc rfl) rfl Z.b_isinstance PyProof.Rows.boot_isinstance (pa_cons (pv 3) (pa_cons (pe_glob (v := V.ref C_TooBig) rfl h_TooBig rfl) pa_nil))) pa_nil)))))
      (pss_cons (ps_expr (pe_bmK (K := K) rfl PySem.F.plainAttrs_list PySem.F.slot_list_extend PySem.F.type_list_extend mt_extend (pv 4) (by exact (pa_cons (pe_lst (pa_cons (pe_callB (call_isE rfl hm hc rfl) rfl Z.b_isinstance PyProof.Rows.boot_isinstance (pa_cons (pv 3) (pa_cons (pe_glob (v := V.ref C_NoUnit) rfl h_NoUnit rfl) pa_nil))) (pa_cons (pe_callB (call_isE rfl hm hc rfl) rfl Z.b_isinstance PyProof.Rows.boot_isinstance (pa_cons (pv 3) (pa_cons (pe_glob (v := V.ref C_NotClosed) rfl h_NotClosed rfl) pa_nil))) (pa_cons (pe_callB (call_isE rfl hm hc rfl) rfl Z.b_isinstance PyProof.Rows.boot_isinstance (pa_cons (pv 3) (pa_cons (pe_glob (v := V.ref C_NoFit) rfl h_NoFit rfl) pa_nil))) pa_nil)))) pa_nil star_list))))
      (pss_cons (ps_expr (pe_bmK (K := K) rfl PySem.F.plainAttrs_list PySem.F.slot_list_extend PySem.F.type_list_extend mt_extend (pv 4) (by exact (pa_cons (pe_lst (pa_cons (pe_callB (call_isE rfl hm hc rfl) rfl Z.b_isinstance PyProof.Rows.boot_isinstance (pa_cons (pv 3) (pa_cons (pe_glob (v := V.ref C_TooMuch) rfl h_TooMuch rfl) pa_nil))) (pa_cons (pe_callB (call_isE rfl hm hc rfl) rfl Z.b_isinstance PyProof.Rows.boot_isinstance (pa_cons (pv 3) (pa_cons (pe_glob (v := V.ref C_NoMove) rfl h_NoMove rfl) pa_nil))) (pa_cons (pe_callB (call_isE rfl hm hc rfl) rfl Z.b_isinstance PyProof.Rows.boot_isinstance (pa_cons (pv 3) (pa_cons (pe_glob (v := V.ref C_NoChain) rfl h_NoChain rfl) pa_nil))) pa_nil)))) pa_nil star_list))))
      (pss_cons (ps_expr (pe_bmK (K := K) rfl PySem.F.plainAttrs_list PySem.F.slot_list_extend PySem.F.type_list_extend mt_extend (pv 4) (by exact (pa_cons (pe_lst (pa_cons (pe_callB (call_isE rfl hm hc rfl) rfl Z.b_isinstance PyProof.Rows.boot_isinstance (pa_cons (pv 3) (pa_cons (pe_glob (v := V.ref C_NoPrime) rfl h_NoPrime rfl) pa_nil))) (pa_cons (pe_callB (call_isE rfl hm hc rfl) rfl Z.b_isinstance PyProof.Rows.boot_isinstance (pa_cons (pv 3) (pa_cons (pe_glob (v := V.ref C_NoLine) rfl h_NoLine rfl) pa_nil))) pa_nil))) pa_nil star_list))))
      (pss_cons (ps_if (pt_val (pe_callB (call_isE rfl hm hc rfl) rfl Z.b_isinstance PyProof.Rows.boot_isinstance (pa_cons (pv 3) (pa_cons (pe_bltn (v := V.ty "ValueError") rfl Z.b_ValueError PyProof.Rows.Boot.«ValueError» rfl) pa_nil))))
        (pss_cons (ps_ret (pv 4))
        pss_nil)
        pss_nil)
      pss_nil)))))))
    (pss_cons (ps_ret (pe_lst pa_nil))
    pss_nil)), ?_⟩
  refine top_T (S := (SC.add (SC.add (SC.add SC.nil K rInt v_0 a_0) K rInt v_1 a_1) K (rPL rSI) v_2 a_2)) (σ := [some v_0, some v_1, some v_2, none, none]) 1 ?_ (SC.i (SC.i (SC.i SC.t h_0) h_1) h_2) hm q rfl
  unfold m_sorts
  exact (sv_tryC3 (K := K) (d := "PlaitError") (ns := exNames) (o := (oL (oF rBool))) (J := jB [] SC.nil) (k := fun _ => Res.bad) Y (.head _) h_PlaitError (evb_var (r := rInt) 0 rfl (fun _ s => (SC.r (SC.l (SC.l s))))) (evb_var (r := rInt) 1 rfl (fun _ s => (SC.r (SC.l s)))) (evb_var (r := (rPL rSI)) 2 rfl (fun _ s => (SC.r s))) (fun x hx hi C a od hC => (sv_setO (K := K) (o := (oL (oF rBool))) 4 0 (ev_lst (eva_cons (EvB.sh (evb_isE 3 rfl (Y.att _ hx C hC) (Y.kit _ hx "NotADrawing" (.tail _ (.head _)) C C_NotADrawing hC h_NotADrawing))) (eva_cons (EvB.sh (evb_isE 3 rfl (Y.att _ hx C hC) (Y.kit _ hx "NoCrossing" (.tail _ (.tail _ (.head _))) C C_NoCrossing hC h_NoCrossing))) (eva_cons (EvB.sh (evb_isE 3 rfl (Y.att _ hx C hC) (Y.kit _ hx "TooBig" (.tail _ (.tail _ (.tail _ (.head _)))) C C_TooBig hC h_TooBig))) eva_nil)))) (Nat.le_of_ble_eq_true rfl) fun a1 v5 C6 => (sv_ext (K := K) (o := (oF rBool)) (f := fun a2 => ((Res.bind (Res.bind ((Res.bind (Res.ok (isSub x.cls "TooMuch")) fun y => (Res.bind (Res.bind (Res.ok (isSub x.cls "NoMove")) fun y => (Res.bind (Res.bind (Res.ok (isSub x.cls "NoChain")) fun y => (Res.bind (Res.ok []) fun l => (Res.ok (y :: l)))) fun l => (Res.ok (y :: l)))) fun l => (Res.ok (y :: l)))) : Res (List Bool)) fun l => (chk (l.length ≤ sizeLine) (Res.ok l))) fun b3 => (chk (a2.length + b3.length ≤ sizeLine) ((fun (a3 : List Bool) => ((Res.bind (Res.bind ((Res.bind (Res.ok (isSub x.cls "NoPrime")) fun y => (Res.bind (Res.bind (Res.ok (isSub x.cls "NoLine")) fun y => (Res.bind (Res.ok []) fun l => (Res.ok (y :: l)))) fun l => (Res.ok (y :: l)))) : Res (List Bool)) fun l => (chk (l.length ≤ sizeLine) (Res.ok l))) fun b4 => (chk (a3.length + b4.length ≤ sizeLine) ((fun (a4 : List Bool) => ((Res.bind (Res.ok true) fun b => (if b = true then (Res.bind (Res.ok a4) fun r => (Res.ok (Ctl.ret r))) else Res.bad)) : Res (Ctl (List Bool) Unit))) (a3 ++ b4)))) : Res (Ctl (List Bool) Unit))) (a2 ++ b3)))) : Res (Ctl (List Bool) Unit))) 4 0 rfl rfl rfl (fun _ s => (SC.r s)) (ev_lst (eva_cons (EvB.sh (evb_isE 3 rfl (Y.att _ hx C hC) (Y.kit _ hx "NoUnit" (.tail _ (.tail _ (.tail _ (.tail _ (.head _))))) C C_NoUnit hC h_NoUnit))) (eva_cons (EvB.sh (evb_isE 3 rfl (Y.att _ hx C hC) (Y.kit _ hx "NotClosed" (.tail _ (.tail _ (.tail _ (.tail _ (.tail _ (.head _)))))) C C_NotClosed hC h_NotClosed))) (eva_cons (EvB.sh (evb_isE 3 rfl (Y.att _ hx C hC) (Y.kit _ hx "NoFit" (.tail _ (.tail _ (.tail _ (.tail _ (.tail _ (.tail _ (.head _))))))) C C_NoFit hC h_NoFit))) eva_nil)))) fun b2 C7 => (sv_ext (K := K) (o := (oF rBool)) (f := fun a3 => ((Res.bind (Res.bind ((Res.bind (Res.ok (isSub x.cls "NoPrime")) fun y => (Res.bind (Res.bind (Res.ok (isSub x.cls "NoLine")) fun y => (Res.bind (Res.ok []) fun l => (Res.ok (y :: l)))) fun l => (Res.ok (y :: l)))) : Res (List Bool)) fun l => (chk (l.length ≤ sizeLine) (Res.ok l))) fun b4 => (chk (a3.length + b4.length ≤ sizeLine) ((fun (a4 : List Bool) => ((Res.bind (Res.ok true) fun b => (if b = true then (Res.bind (Res.ok a4) fun r => (Res.ok (Ctl.ret r))) else Res.bad)) : Res (Ctl (List Bool) Unit))) (a3 ++ b4)))) : Res (Ctl (List Bool) Unit))) 4 0 rfl rfl rfl (fun _ s => (SC.r s)) (ev_lst (eva_cons (EvB.sh (evb_isE 3 rfl (Y.att _ hx C hC) (Y.kit _ hx "TooMuch" (.tail _ (.tail _ (.tail _ (.tail _ (.tail _ (.tail _ (.tail _ (.head _)))))))) C C_TooMuch hC h_TooMuch))) (eva_cons (EvB.sh (evb_isE 3 rfl (Y.att _ hx C hC) (Y.kit _ hx "NoMove" (.tail _ (.tail _ (.tail _ (.tail _ (.tail _ (.tail _ (.tail _ (.tail _ (.head _))))))))) C C_NoMove hC h_NoMove))) (eva_cons (EvB.sh (evb_isE 3 rfl (Y.att _ hx C hC) (Y.kit _ hx "NoChain" (.tail _ (.tail _ (.tail _ (.tail _ (.tail _ (.tail _ (.tail _ (.tail _ (.tail _ (.head _)))))))))) C C_NoChain hC h_NoChain))) eva_nil)))) fun b3 C8 => (sv_ext (K := K) (o := (oF rBool)) (f := fun a4 => ((Res.bind (Res.ok true) fun b => (if b = true then (Res.bind (Res.ok a4) fun r => (Res.ok (Ctl.ret r))) else Res.bad)) : Res (Ctl (List Bool) Unit))) 4 0 rfl rfl rfl (fun _ s => (SC.r s)) (ev_lst (eva_cons (EvB.sh (evb_isE 3 rfl (Y.att _ hx C hC) (Y.kit _ hx "NoPrime" (.tail _ (.tail _ (.tail _ (.tail _ (.tail _ (.tail _ (.tail _ (.tail _ (.tail _ (.tail _ (.head _))))))))))) C C_NoPrime hC h_NoPrime))) (eva_cons (EvB.sh (evb_isE 3 rfl (Y.att _ hx C hC) (Y.kit _ hx "NoLine" (.tail _ (.tail _ (.tail _ (.tail _ (.tail _ (.tail _ (.tail _ (.tail _ (.tail _ (.tail _ (.tail _ (.head _)))))))))))) C C_NoLine hC h_NoLine))) eva_nil))) fun b4 C9 => (sv_ifRC (evt_B (K := K) (evb_isT 3 rfl (Y.att _ hx C hC) (Y.val _ hx C hC))) (sv_ret (ev_move (o := (oL (oF rBool))) 4 0 rfl rfl (fun _ s => (SC.r s)))) sv_bad)))))) (fun _ _ => sv_bad))

theorem sc_fields : FnScope ["_law_at", "_law_wrong_here", "_law_found", "e"] ["_law_at", "_law_wrong_here"] (defScope s_fields) := ⟨rfl, rfl, rfl, by decide +kernel, rfl, by decide +kernel, by decide +kernel⟩
set_option maxHeartbeats 4000000 in
theorem ok_fields (D : Def K mg "_law_fields" s_fields ["_law_at", "_law_wrong_here"]) (g_thrown : FnD P w K mg base 3 "_law_thrown" ["_law_which", "_law_at", "_law_wrong_here"] (spD3 mg rInt rInt (rPL rSI) oU m_thrown K)) (g_is_whole : Fn P w K mg base 1 "_law_is_whole" ["_law_one"] (sp1 (rOpt rInt) (oF rBool) m_is_whole K)) (Y : Ecs exNames K mg) (N1 : XI K mg "NotADrawing" "fault") (N2 : XI K mg "NoChain" "at") (Z : Blt mg) : Fn P w K mg base 4 "_law_fields" ["_law_at", "_law_wrong_here"] (sp2 rInt (rPL rSI) (oF rBool) m_fields K) := by
  refine fn_mk D sc_fields (fun vs H Q E h => ?_) (fun f cdv A outer s H vs Q E hr h => ?_)
  · obtain ⟨v_0, v_1, a_0, a_1, b, rfl, _⟩ := h; rfl
  obtain ⟨v_0, v_1, a_0, a_1, b, rfl, h_0, h_1, hm, q⟩ := h
  obtain ⟨C_NoChain, h_NoChain, q_NoChain⟩ := Y.adr "NoChain" (.tail _ (.tail _ (.tail _ (.tail _ (.tail _ (.tail _ (.tail _ (.tail _ (.tail _ (.head _))))))))))
  obtain ⟨C_NotADrawing, h_NotADrawing, q_NotADrawing⟩ := Y.adr "NotADrawing" (.tail _ (.head _))
  have hu := hu8 hr
  have hu1 := hu_of hr
  refine ⟨_, (pss_cons (ps_set (i := 2) sc_fields.nd rfl (Or.inl rfl) (pe_lst (pa_cons pe_non (pa_cons pe_non pa_nil))))
    (pss_cons (ps_tryC (fun _ _ z => z) g_thrown hr (by decide) (pa_cons pe_int (pa_cons (pv 0) (pa_cons (pv 1) pa_nil))) rfl rfl rfl rfl h_NoChain sc_fields.nd (i := 3) rfl rfl rfl (fun pn a o C vs od hm hc ho hd => (pss_cons (ps_asg (pe_fldE rfl hm hc ho hd (pv 3) rfl rfl) (pg_sub (pv 2) pe_int set_list)) pss_nil)))
    (pss_cons (ps_tryC (fun _ _ z => z) g_thrown hr (by decide) (pa_cons pe_int (pa_cons (pv 0) (pa_cons (pv 1) pa_nil))) rfl rfl rfl rfl h_NotADrawing sc_fields.nd (i := 3) rfl rfl rfl (fun pn a o C vs od hm hc ho hd => (pss_cons (ps_asg (pe_fldE rfl hm hc ho hd (pv 3) rfl rfl) (pg_sub (pv 2) pe_int set_list)) pss_nil)))
    (pss_cons (ps_if (PW.pt (pw_or (pt_not (pt_val (pe_fn g_is_whole hr (by decide) (pa_cons (pe_ix (ix_listK K rfl) (pv 2) pe_int (fun _ _ => rfl)) pa_nil)))) (pw_or1 (pt_not (pt_val (pe_callB call_isinst rfl Z.b_isinstance PyProof.Rows.boot_isinstance (pa_cons (pe_ix (ix_listK K rfl) (pv 2) pe_int (fun _ _ => rfl)) (pa_cons (pe_bltn (v := V.ty "tuple") rfl Z.b_tuple PyProof.Rows.boot_tuple rfl) pa_nil))))))))
      (pss_cons (ps_ret pe_bl)
      pss_nil)
      pss_nil)
    (pss_cons (ps_ret (pe_cmpR (op_eqE (eq_V (eq_sum (eq_int.up (by decide)) (eq_PL (eq_sum eq_st eq_int (crs_kd (r := rStr) (q := rInt) rfl rfl))) ((crs_kd (r := rInt) (q := (rPL (rEi rStr rInt))) rfl rfl).up (by decide)))) (le_hu (by decide) hu)) (pv 2) (pe_lst (pa_cons (pv 0) (pa_cons (pv 1) pa_nil))) (nomark _)))
    pss_nil))))), ?_⟩
  refine top_T (S := (SC.add (SC.add SC.nil K rInt v_0 a_0) K (rPL rSI) v_1 a_1)) (σ := [some v_0, some v_1, none, none]) 1 ?_ (SC.i (SC.i SC.t h_0) h_1) hm q rfl
  unfold m_fields
  exact (sv_setO (K := K) (o := (oL (oF rFv))) 2 0 (ev_lst (eva_cons evs_fvN (eva_cons evs_fvN eva_nil))) (Nat.le_of_ble_eq_true rfl) fun a1 v2 C1 => (sv_tryC3 (K := K) (d := "NoChain") (ns := exNames) (o := (oF rBool)) (J := ({ oo := fun y => [y.2], ss := fun y => [some v_0, some v_1, some v2, y.1], sc := fun g y => (SC.addO (SC.add (SC.add SC.nil K rInt v_0 a_0) K (rPL rSI) v_1 a_1) K (oL (oF rFv)) v2 g y.2) } : Jn (List Fv) (Option V × List Cell))) (k := (fun g2 => (Res.bind (Res.ok (0 : Int)) fun y1 => (Res.bind (Res.ok a_0) fun y2 => (Res.bind (Res.ok a_1) fun y3 => (Res.tryC (m_thrown y1 y2 y3) (fun _ => Res.bad) (fun x => (chk (cau exNames x.cls "NotADrawing" = true) (Res.bind ((Res.bind (Res.bind (chk (x.pay ≠ Pay.non) (Res.ok (fvP x.pay))) fun a => (Res.bind (Res.ok (1 : Int)) fun j => (Res.bind (setR g2 j a) fun bs => (Res.ok bs)))) fun r => (Res.ok (Ctl.nx r))) : Res (Ctl Bool (List Fv))) (retOr (fun g3 => (Res.bind (orR (Res.bind (Res.bind (Res.bind (Res.bind (Res.ok g3) fun x => (Res.bind (Res.ok (0 : Int)) fun y => (atR x y))) fvO) fun x => (noE (m_is_whole x))) fun x => (Res.ok (!x))) (Res.bind (Res.bind (Res.bind (Res.bind (Res.ok g3) fun x => (Res.bind (Res.ok (1 : Int)) fun y => (atR x y))) fvT) fun x => (Res.ok true)) fun x => (Res.ok (!x)))) fun b => (if b = true then (Res.ok false) else (Res.bind (Res.bind (Res.ok g3) fvU) fun x => (Res.bind (Res.bind (Res.bind (Res.bind (Res.ok a_0) fun a => (Res.ok (Sum.inl a))) fun x => (Res.bind (Res.bind (Res.bind (Res.ok a_1) fun a => (Res.ok (Sum.inr a))) fun x => (Res.bind (Res.ok []) fun l => (Res.ok (x :: l)))) fun l => (Res.ok (x :: l)))) fun l => (chk (l.length ≤ sizeLine) (Res.ok l))) fun y => (Res.ok (decide (x = y)))))))))))))))))) Y (.tail _ (.tail _ (.tail _ (.tail _ (.tail _ (.tail _ (.tail _ (.tail _ (.tail _ (.head _)))))))))) h_NoChain (evb_int 8) (evb_var (r := rInt) 0 rfl (fun _ s => (SC.r (SC.l (SC.l s))))) (evb_var (r := (rPL rSI)) 1 rfl (fun _ s => (SC.r (SC.l s)))) (fun x hx hi C a od hC => (sv_nxC (sv_setix (K := K) (o := (oF rFv)) 2 0 rfl rfl (fun _ s => (SC.r (SC.l s))) (EvS.ev (evs_fldE (n := x.cls) (by rw [isSub_eq hi (by decide)]; rfl) 3 rfl (Y.att _ hx C hC) (N2.di C (isSub_eq hi (by decide) ▸ hC)).1 (N2.di C (isSub_eq hi (by decide) ▸ hC)).2 (fun _ s => (SC.r s)))) (fun _ => (evb_int 0)) fun a5 C5 => (sv_end (J := _) (some (.ref a), C5) a5 rfl rfl (fun _ s => (SC.i (SC.i (SC.i SC.t (SC.r (SC.l (SC.l (SC.l (SC.l s)))))) (SC.r (SC.l (SC.l (SC.l s))))) (SC.r s))))))) fun g2 y2 => (sv_tryC3 (K := K) (d := "NotADrawing") (ns := exNames) (o := (oF rBool)) (J := ({ oo := fun y => [y.2], ss := fun y => [some v_0, some v_1, some v2, y.1], sc := fun g y => (SC.addO (SC.add (SC.add SC.nil K rInt v_0 a_0) K (rPL rSI) v_1 a_1) K (oL (oF rFv)) v2 g y.2) } : Jn (List Fv) (Option V × List Cell))) (k := (fun g3 => (Res.bind (orR (Res.bind (Res.bind (Res.bind (Res.bind (Res.ok g3) fun x => (Res.bind (Res.ok (0 : Int)) fun y => (atR x y))) fvO) fun x => (noE (m_is_whole x))) fun x => (Res.ok (!x))) (Res.bind (Res.bind (Res.bind (Res.bind (Res.ok g3) fun x => (Res.bind (Res.ok (1 : Int)) fun y => (atR x y))) fvT) fun x => (Res.ok true)) fun x => (Res.ok (!x)))) fun b => (if b = true then (Res.ok false) else (Res.bind (Res.bind (Res.ok g3) fvU) fun x => (Res.bind (Res.bind (Res.bind (Res.bind (Res.ok a_0) fun a => (Res.ok (Sum.inl a))) fun x => (Res.bind (Res.bind (Res.bind (Res.ok a_1) fun a => (Res.ok (Sum.inr a))) fun x => (Res.bind (Res.ok []) fun l => (Res.ok (x :: l)))) fun l => (Res.ok (x :: l)))) fun l => (chk (l.length ≤ sizeLine) (Res.ok l))) fun y => (Res.ok (decide (x = y))))))))) Y (.tail _ (.head _)) h_NotADrawing (evb_int 0) (evb_var (r := rInt) 0 rfl (fun _ s => (SC.r (SC.l (SC.l s))))) (evb_var (r := (rPL rSI)) 1 rfl (fun _ s => (SC.r (SC.l s)))) (fun x hx hi C a od hC => (sv_nxC (sv_setix (K := K) (o := (oF rFv)) 2 0 rfl rfl (fun _ s => (SC.r (SC.l s))) (EvS.ev (evs_fldE (n := x.cls) (by rw [isSub_eq hi (by decide)]; rfl) 3 rfl (Y.att _ hx C hC) (N1.di C (isSub_eq hi (by decide) ▸ hC)).1 (N1.di C (isSub_eq hi (by decide) ▸ hC)).2 (fun _ s => (SC.r s)))) (fun _ => (evb_int 1)) fun a5 C5 => (sv_end (J := _) (some (.ref a), C5) a5 rfl rfl (fun _ s => (SC.i (SC.i (SC.i SC.t (SC.r (SC.l (SC.l (SC.l (SC.l s)))))) (SC.r (SC.l (SC.l (SC.l s))))) (SC.r s))))))) fun g3 y3 => (sv_ifR (evt_or (evt_not (evt_B (K := K) (Ev.toB (ev_call1 (evb_fvO (evb_ix (evb_own (o := (oL (oF rFv))) 2 0 rfl rfl (fun _ s => (SC.r s))) (evb_int 0))))))) (evt_not (evt_B (K := K) (evb_isinst "tuple" true (kit_same K "tuple") (evb_fvT (evb_ix (evb_own (o := (oL (oF rFv))) 2 0 rfl rfl (fun _ s => (SC.r s))) (evb_int 1))))))) (sv_ret (EvS.ev (EvB.sh (evb_bl false)))) (sv_ret (EvS.ev (EvB.sh (evb_eqE (r := rV (rEi rInt (rPL rSI))) (evb_fvU (evb_own (o := (oL (oF rFv))) 2 0 rfl rfl (fun _ s => (SC.r s)))) (Ev.toB (ev_lst (eva_cons (evs_inl (p := (rPL rSI)) (evs_var (r := rInt) 0 rfl (fun _ s => (SC.r (SC.l (SC.l s)))))) (eva_cons (evs_inr (o := rInt) (evs_var (r := (rPL rSI)) 1 rfl (fun _ s => (SC.r (SC.l s))))) eva_nil))))))))))))

theorem sc_wrong : FnScope ["_law_some"] ["_law_some"] (defScope s_wrong) := ⟨rfl, rfl, rfl, by decide +kernel, rfl, by decide +kernel, by decide +kernel⟩
set_option maxHeartbeats 4000000 in
theorem ok_wrong (D : Def K mg "_law_wrong" s_wrong ["_law_some"])  (Y : Ecs exNames K mg) (N1 : XI K mg "NotADrawing" "fault") (N2 : XI K mg "NoChain" "at") (Z : Blt mg) : Fn P w K mg base 1 "_law_wrong" ["_law_some"] (sp1 (rV rInt) (oF (rPL rSI)) m_wrong K) := by
  refine fn_mk D sc_wrong (fun vs H Q E h => ?_) (fun f cdv A outer s H vs Q E hr h => ?_)
  · obtain ⟨v_0, a_0, b, rfl, _⟩ := h; rfl
  obtain ⟨v_0, a_0, b, rfl, h_0, hm, q⟩ := h
  have hu := hu8 hr
  have hu1 := hu_of hr
  refine ⟨_, (pss_cons (ps_if (pt_cmpR op_eq (pe_ix (ix_listK K rfl) (pv 0) pe_int (fun _ _ => rfl)) pe_int (nomark _))
      (pss_cons (ps_ret (pe_tup (pa_cons pe_str (pa_cons (pe_ix (ix_listK K rfl) (pv 0) pe_int (fun _ _ => rfl)) (pa_cons (pe_ix (ix_listK K rfl) (pv 0) pe_int (fun _ _ => rfl)) pa_nil)))))
      pss_nil)
      pss_nil)
    (pss_cons (ps_if (pt_cmpR op_eq (pe_ix (ix_listK K rfl) (pv 0) pe_int (fun _ _ => rfl)) pe_int (nomark _))
      (pss_cons (ps_ret (pe_tup (pa_cons pe_str (pa_cons (pe_ix (ix_listK K rfl) (pv 0) pe_int (fun _ _ => rfl)) pa_nil))))
      pss_nil)
      pss_nil)
    (pss_cons (ps_ret (pe_tup (pa_cons pe_str (pa_cons (pe_op op_add pe_int (pe_ix (ix_listK K rfl) (pv 0) pe_int (fun _ _ => rfl))) pa_nil))))
    pss_nil))), ?_⟩
  refine top_T (S := (SC.add SC.nil K (rV rInt) v_0 a_0)) (σ := [some v_0]) 0 ?_ (SC.i SC.t h_0) hm q rfl
  unfold m_wrong
  exact (sv_ifR (evt_test (K := K) (evb_eq (evb_ix (evb_var (r := (rV rInt)) 0 rfl (fun _ s => (SC.r s))) (evb_int 0)) (evb_int 0))) (sv_ret (EvS.ev (evs_tupL (eva_cons (evs_inl (p := rInt) (EvB.sh (evb_str _))) (eva_cons (evs_inr (o := rStr) (EvB.sh (evb_ix (evb_var (r := (rV rInt)) 0 rfl (fun _ s => (SC.r s))) (evb_int 1)))) (eva_cons (evs_inr (o := rStr) (EvB.sh (evb_ix (evb_var (r := (rV rInt)) 0 rfl (fun _ s => (SC.r s))) (evb_int 2)))) eva_nil)))))) (sv_ifR (evt_test (K := K) (evb_eq (evb_ix (evb_var (r := (rV rInt)) 0 rfl (fun _ s => (SC.r s))) (evb_int 0)) (evb_int 1))) (sv_ret (EvS.ev (evs_tupL (eva_cons (evs_inl (p := rInt) (EvB.sh (evb_str _))) (eva_cons (evs_inr (o := rStr) (EvB.sh (evb_ix (evb_var (r := (rV rInt)) 0 rfl (fun _ s => (SC.r s))) (evb_int 1)))) eva_nil))))) (sv_ret (EvS.ev (evs_tupL (eva_cons (evs_inl (p := rInt) (EvB.sh (evb_str _))) (eva_cons (evs_inr (o := rStr) (EvB.sh (evb_add (evb_int 41) (evb_ix (evb_var (r := (rV rInt)) 0 rfl (fun _ s => (SC.r s))) (evb_int 1))))) eva_nil)))))))

theorem sc_law : FnScope ["_law_script", "_law_some", "_law_more", "_law_one", "_law_other", "_law_which"] ["_law_script"] (defScope s_law) := ⟨rfl, rfl, rfl, by decide +kernel, rfl, by decide +kernel, by decide +kernel⟩
set_option maxHeartbeats 4000000 in
theorem ok_law {f : Addr} {fd : FuncData} (F : Fun K "law" "law" s_law f fd) (g_row : Fn P w K mg base 2 "_law_row" ["_law_script", "_law_place", "_law_sizes"] (sp3 (rL rInt) rInt (rV rInt) (oL (oF rInt)) m_row K)) (g_wrong : Fn P w K mg base 1 "_law_wrong" ["_law_some"] (sp1 (rV rInt) (oF (rPL rSI)) m_wrong K)) (g_fields : Fn P w K mg base 4 "_law_fields" ["_law_at", "_law_wrong_here"] (sp2 rInt (rPL rSI) (oF rBool) m_fields K)) (g_sorts : Fn P w K mg base 4 "_law_sorts" ["_law_which", "_law_at", "_law_wrong_here"] (sp3 rInt rInt (rPL rSI) (oL (oF rBool)) m_sorts K)) (Y : Ecs exNames K mg) (N1 : XI K mg "NotADrawing" "fault") (N2 : XI K mg "NoChain" "at") (Z : Blt mg) : FnOk P w K mg base CX0 5 f fd ["_law_script"] (sp1 (rL rInt) (oF rBool) m_law K) := by
  refine F.ok sc_law (fun vs H Q E h => ?_) (fun cdv A outer s H vs Q E hr h => ?_)
  · obtain ⟨v_0, a_0, b, rfl, _⟩ := h; rfl
  obtain ⟨v_0, a_0, b, rfl, h_0, hm, q⟩ := h
  have hu := hu8 hr
  have hu1 := hu_of hr
  refine ⟨_, (pss_cons (ps_set (i := 1) sc_law.nd rfl (Or.inl rfl) (pe_fn g_row hr (by decide) (pa_cons (pv 0) (pa_cons pe_int (pa_cons (pe_lst (pa_cons pe_int (pa_cons (pe_op op_pow pe_int pe_int) (pa_cons (pe_op op_pow pe_int pe_int) (pa_cons (pe_op op_pow pe_int pe_int) pa_nil))))) pa_nil star_list)))))
    (pss_cons (ps_set (i := 2) sc_law.nd rfl (Or.inl rfl) (pe_fn g_row hr (by decide) (pa_cons (pv 0) (pa_cons pe_int (pa_cons (pe_lst (pa_cons pe_int (pa_cons (pe_op op_pow pe_int pe_int) (pa_cons (pe_op op_pow pe_int pe_int) (pa_cons (pe_op op_pow pe_int pe_int) pa_nil))))) pa_nil star_list)))))
    (pss_cons (ps_set (i := 3) sc_law.nd rfl (Or.inl rfl) (pe_fn g_wrong hr (by decide) (pa_cons (pv 1) pa_nil)))
    (pss_cons (ps_set (i := 4) sc_law.nd rfl (Or.inl rfl) (pe_fn g_wrong hr (by decide) (pa_cons (pv 2) pa_nil)))
    (pss_cons (ps_for PassesOwn.never rfl (pi_range1 rfl Z.b_range (pa_cons pe_int pa_nil)) (pg_name (i := 5) sc_law.nd rfl (Or.inr rfl))
      (pss_cons (ps_if (pt_cmpR (op_neE (eq_V eq_bl) (le_hu (by decide) hu)) (pe_fn g_sorts hr (by decide) (pa_cons (pv 5) (pa_cons (pe_ix (ix_listK K rfl) (pv 1) pe_int (fun _ _ => rfl)) (pa_cons (pv 3) pa_nil)))) (pe_compI (sc := (defScope s_law)) (N0 := ["_law_script", "_law_some", "_law_more", "_law_one", "_law_other", "_law_which"]) (tns := ["_law_k"]) (caps := [(5, "_law_which")]) rfl (pi_range1 rfl Z.b_range (pa_cons pe_int pa_nil)) (gk_name (by decide)) (fun cl C s H ex E => ⟨pg_name (i := 0) (show List.Nodup (["_law_k", "_law_which"] : List Str) by decide +kernel) rfl (Or.inl rfl), pts_nil, (pe_cmpR op_eq (pv 1) (pv 0) (nomark _))⟩)) (nomark _))
        (pss_cons (ps_ret pe_bl)
        pss_nil)
        pss_nil)
      pss_nil))
    (pss_cons (ps_if (PW.pt (pw_or (pt_not (pt_val (pe_fn g_fields hr (by decide) (pa_cons (pe_ix (ix_listK K rfl) (pv 1) pe_int (fun _ _ => rfl)) (pa_cons (pv 3) pa_nil))))) (pw_or1 (pt_not (pt_val (pe_fn g_fields hr (by decide) (pa_cons (pe_ix (ix_listK K rfl) (pv 2) pe_int (fun _ _ => rfl)) (pa_cons (pv 4) pa_nil))))))))
      (pss_cons (ps_ret pe_bl)
      pss_nil)
      pss_nil)
    (pss_cons (ps_ret (pe_and (pe_fn g_fields hr (by decide) (pa_cons (pe_ix (ix_listK K rfl) (pv 1) pe_int (fun _ _ => rfl)) (pa_cons (pv 4) pa_nil))) (pe_one (pe_fn g_fields hr (by decide) (pa_cons (pe_ix (ix_listK K rfl) (pv 1) pe_int (fun _ _ => rfl)) (pa_cons (pv 3) pa_nil))))))
    pss_nil))))))), ?_⟩
  refine top_T (S := (SC.add SC.nil K (rL rInt) v_0 a_0)) (σ := [some v_0, none, none, none, none, none]) 0 ?_ (SC.i SC.t h_0) hm q rfl
  unfold m_law
  exact (sv_set (K := K) (r := (rV rInt)) 1 (Ev.sh (ev_call3 (evb_var (r := (rL rInt)) 0 rfl (fun _ s => (SC.r s))) (evb_int 0) (Ev.toB (ev_lst (eva_cons (EvB.sh (evb_int 3)) (eva_cons (EvB.sh (evb_pow (evb_int 10) (evb_int 9))) (eva_cons (EvB.sh (evb_pow (evb_int 10) (evb_int 9))) (eva_cons (EvB.sh (evb_pow (evb_int 10) (evb_int 60))) eva_nil)))))))) fun a1 v2 => (sv_set (K := K) (r := (rV rInt)) 2 (Ev.sh (ev_call3 (evb_var (r := (rL rInt)) 0 rfl (fun _ s => (SC.r (SC.l s)))) (evb_int 1) (Ev.toB (ev_lst (eva_cons (EvB.sh (evb_int 3)) (eva_cons (EvB.sh (evb_pow (evb_int 10) (evb_int 9))) (eva_cons (EvB.sh (evb_pow (evb_int 10) (evb_int 9))) (eva_cons (EvB.sh (evb_pow (evb_int 10) (evb_int 60))) eva_nil)))))))) fun a22 v23 => (sv_set (K := K) (r := (rPL rSI)) 3 (EvB.sh (Ev.toB (ev_call1 (evb_var (r := (rV rInt)) 1 rfl (fun _ s => (SC.r (SC.l s))))))) fun a43 v44 => (sv_set (K := K) (r := (rPL rSI)) 4 (EvB.sh (Ev.toB (ev_call1 (evb_var (r := (rV rInt)) 2 rfl (fun _ s => (SC.r (SC.l s))))))) fun a47 v48 => (sv_forC (K := K) (J := ({ oo := fun x52 => [], ss := fun x52 => [some v_0, some v2, some v23, some v44, some v48, x52], sc := fun g53 x52 => (SC.add (SC.add (SC.add (SC.add (SC.add SC.nil K (rL rInt) v_0 a_0) K (rV rInt) v2 a1) K (rV rInt) v23 a22) K (rPL rSI) v44 a43) K (rPL rSI) v48 a47) } : Jn (Unit) (Option V))) (fun _ => tg1 5) ((none)) () (walk_range1 (evb_int 12)) rfl rfl (fun _ s => (SC.i (SC.i (SC.i (SC.i (SC.i SC.t (SC.r (SC.l (SC.l (SC.l (SC.l s)))))) (SC.r (SC.l (SC.l (SC.l s))))) (SC.r (SC.l (SC.l s)))) (SC.r (SC.l s))) (SC.r s))) (fun g54 x55 a56 v57 => (sv_ifRC (evt_test (K := K) (evb_neE (Ev.toB (ev_call3 (evb_var (r := rInt) 5 rfl (fun _ s => (SC.r s))) (evb_ix (evb_var (r := (rV rInt)) 1 rfl (fun _ s => (SC.r (SC.l (SC.l (SC.l (SC.l s))))))) (evb_int 3)) (evb_var (r := (rPL rSI)) 3 rfl (fun _ s => (SC.r (SC.l (SC.l s))))))) (Ev.toB (ev_comp (fun _ => tg1 0) (walk_range1 (evb_int 11)) (fun C65 a66 v67 => (EvS.ev (EvB.sh (evb_eq (evb_var (r := rInt) 1 rfl (fun _ s => (SC.r (SC.l s)))) (evb_var (r := rInt) 0 rfl (fun _ s => (SC.r s))))))))))) (sv_ret (EvS.ev (EvB.sh (evb_bl false)))) (sv_nxC (sv_end (J := _) ((some v57)) () rfl rfl (fun _ s => (SC.i (SC.i (SC.i (SC.i (SC.i SC.t (SC.r (SC.l (SC.l (SC.l (SC.l (SC.l s))))))) (SC.r (SC.l (SC.l (SC.l (SC.l s)))))) (SC.r (SC.l (SC.l (SC.l s))))) (SC.r (SC.l (SC.l s)))) (SC.r (SC.l s)))))))) fun g76 x77 => (sv_ifR (evt_or (evt_not (evt_B (K := K) (Ev.toB (ev_call2 (evb_ix (evb_var (r := (rV rInt)) 1 rfl (fun _ s => (SC.r (SC.l (SC.l (SC.l s)))))) (evb_int 3)) (evb_var (r := (rPL rSI)) 3 rfl (fun _ s => (SC.r (SC.l s)))))))) (evt_not (evt_B (K := K) (Ev.toB (ev_call2 (evb_ix (evb_var (r := (rV rInt)) 2 rfl (fun _ s => (SC.r (SC.l (SC.l s))))) (evb_int 3)) (evb_var (r := (rPL rSI)) 4 rfl (fun _ s => (SC.r s)))))))) (sv_ret (EvS.ev (EvB.sh (evb_bl false)))) (sv_ret (EvS.ev (EvB.sh (evb_andV (Ev.toB (ev_call2 (evb_ix (evb_var (r := (rV rInt)) 1 rfl (fun _ s => (SC.r (SC.l (SC.l (SC.l s)))))) (evb_int 3)) (evb_var (r := (rPL rSI)) 4 rfl (fun _ s => (SC.r s))))) (Ev.toB (ev_call2 (evb_ix (evb_var (r := (rV rInt)) 1 rfl (fun _ s => (SC.r (SC.l (SC.l (SC.l s)))))) (evb_int 3)) (evb_var (r := (rPL rSI)) 3 rfl (fun _ s => (SC.r (SC.l s))))))))))))))))
end
set_option maxHeartbeats 4000000 in
theorem dmk1 {K : PySem.W.Frag} {mg : Str → Option Value} {h : Heap} (X : K.In h) (G : h.Ns mainGlobals mg) {x p0 : Str} {st : Stmt} {f : Addr} {oc : Value} {od an : Option Addr} {osl : Array (Option Value)} {kV doc pm cdv ct : Value} (hb : ∀ (kV doc pm : Value) (an : Option Addr) (cdv ct u0 : Value), bindArgs (PySem.W.fnOf x x (defArgs st) (defBody st) (defScope st) .none kV doc pm an cdv ct) ⟨[u0], []⟩ = pure ([p0].zip [u0])) (a : PySem.W.nsIn K mainGlobals x = some (some (.ref f))) (l : K.lookup f = some ⟨oc, od, .func (PySem.W.fnOf x x (defArgs st) (defBody st) (defScope st) .none kV doc pm an cdv ct), osl⟩) (c : PySem.W.codeIn K cdv x = true) (k : PySem.W.keepIn K (.ref f) = true) : Def K mg x st [p0] := ⟨f, _, fun_mk l c k, (fun_mk l c k).binds fun _ _ _ _ _ _ us hl => (by obtain ⟨_, rfl⟩ := lenL1 hl; exact hb ..), PySem.W.mg_of X G a⟩
theorem dmk2 {K : PySem.W.Frag} {mg : Str → Option Value} {h : Heap} (X : K.In h) (G : h.Ns mainGlobals mg) {x p0 p1 : Str} {st : Stmt} {f : Addr} {oc : Value} {od an : Option Addr} {osl : Array (Option Value)} {kV doc pm cdv ct : Value} (hb : ∀ (kV doc pm : Value) (an : Option Addr) (cdv ct u0 u1 : Value), bindArgs (PySem.W.fnOf x x (defArgs st) (defBody st) (defScope st) .none kV doc pm an cdv ct) ⟨[u0, u1], []⟩ = pure ([p0, p1].zip [u0, u1])) (a : PySem.W.nsIn K mainGlobals x = some (some (.ref f))) (l : K.lookup f = some ⟨oc, od, .func (PySem.W.fnOf x x (defArgs st) (defBody st) (defScope st) .none kV doc pm an cdv ct), osl⟩) (c : PySem.W.codeIn K cdv x = true) (k : PySem.W.keepIn K (.ref f) = true) : Def K mg x st [p0, p1] := ⟨f, _, fun_mk l c k, (fun_mk l c k).binds fun _ _ _ _ _ _ us hl => (by obtain ⟨_, _, rfl⟩ := lenL2 hl; exact hb ..), PySem.W.mg_of X G a⟩
theorem dmk3 {K : PySem.W.Frag} {mg : Str → Option Value} {h : Heap} (X : K.In h) (G : h.Ns mainGlobals mg) {x p0 p1 p2 : Str} {st : Stmt} {f : Addr} {oc : Value} {od an : Option Addr} {osl : Array (Option Value)} {kV doc pm cdv ct : Value} (hb : ∀ (kV doc pm : Value) (an : Option Addr) (cdv ct u0 u1 u2 : Value), bindArgs (PySem.W.fnOf x x (defArgs st) (defBody st) (defScope st) .none kV doc pm an cdv ct) ⟨[u0, u1, u2], []⟩ = pure ([p0, p1, p2].zip [u0, u1, u2])) (a : PySem.W.nsIn K mainGlobals x = some (some (.ref f))) (l : K.lookup f = some ⟨oc, od, .func (PySem.W.fnOf x x (defArgs st) (defBody st) (defScope st) .none kV doc pm an cdv ct), osl⟩) (c : PySem.W.codeIn K cdv x = true) (k : PySem.W.keepIn K (.ref f) = true) : Def K mg x st [p0, p1, p2] := ⟨f, _, fun_mk l c k, (fun_mk l c k).binds fun _ _ _ _ _ _ us hl => (by obtain ⟨_, _, _, rfl⟩ := lenL3 hl; exact hb ..), PySem.W.mg_of X G a⟩
theorem all_mk {l : PySem.W.OpenLaw} {w : World} {K : PySem.W.Frag} {h : Heap} {mg : Str → Option Value} {fa f E0 E1 E2 E3 E4 E5 E6 E7 E8 E9 E10 E11 : Addr} {fI1 fI2 : Addr} {nm1 qn1 : Str} {Ns1 : Addr} {bs1 sb1 : List Value} {sn1 : List Str} {ab1 : Bool} {co1 : Option Bool} {dd1 od1 an1 : Option Addr} {ka1 kb1 kc1 ke1 kf1 : Option Value} {oc1 kV1 dc1 pm1 cd1 ct1 : Value} {sl1 : Array (Option Value)} {nm2 qn2 : Str} {Ns2 : Addr} {bs2 sb2 : List Value} {sn2 : List Str} {ab2 : Bool} {co2 : Option Bool} {dd2 od2 an2 : Option Addr} {ka2 kb2 kc2 ke2 kf2 : Option Value} {oc2 kV2 dc2 pm2 cd2 ct2 : Value} {sl2 : Array (Option Value)} (X : K.In h) (G : h.Ns mainGlobals mg) (hfa : mg "law" = some (.ref fa)) {od an : Option Addr} {sl : Array (Option Value)} {oc kV dc pm cd ct : Value}
    (D1 : Def K mg "_law_cell" s_cell ["_law_script", "_law_place"])
    (D2 : Def K mg "_law_mix" s_mix ["_law_cell_here", "_law_k"])
    (D3 : Def K mg "_law_row" s_row ["_law_script", "_law_place", "_law_sizes"])
    (D4 : Def K mg "_law_is_whole" s_is_whole ["_law_one"])
    (D5 : Def K mg "_law_thrown" s_thrown ["_law_which", "_law_at", "_law_wrong_here"])
    (D6 : Def K mg "_law_sorts" s_sorts ["_law_which", "_law_at", "_law_wrong_here"])
    (D7 : Def K mg "_law_fields" s_fields ["_law_at", "_law_wrong_here"])
    (D8 : Def K mg "_law_wrong" s_wrong ["_law_some"])
    (a : PySem.W.nsIn K mainGlobals "law" = some (some (.ref f))) (l0 : K.lookup f = some ⟨oc, od, .func (PySem.W.fnOf "law" "law" (defArgs s_law) (defBody s_law) (defScope s_law) .none kV dc pm an cd ct), sl⟩) (c : PySem.W.codeIn K cd "law" = true) (k : PySem.W.keepIn K (.ref f) = true)
    (z1 : PySem.W.nsIn K mainGlobals "ValueError" = some none)
    (z2 : PySem.W.nsIn K mainGlobals "bool" = some none)
    (z3 : PySem.W.nsIn K mainGlobals "int" = some none)
    (z4 : PySem.W.nsIn K mainGlobals "isinstance" = some none)
    (z5 : PySem.W.nsIn K mainGlobals "len" = some none)
    (z6 : PySem.W.nsIn K mainGlobals "range" = some none)
    (z7 : PySem.W.nsIn K mainGlobals "tuple" = some none)
    (x0 : PySem.W.nsIn K mainGlobals "PlaitError" = some (some (.ref E0)))
    (x1 : PySem.W.nsIn K mainGlobals "NotADrawing" = some (some (.ref E1)))
    (x2 : PySem.W.nsIn K mainGlobals "NoCrossing" = some (some (.ref E2)))
    (x3 : PySem.W.nsIn K mainGlobals "TooBig" = some (some (.ref E3)))
    (x4 : PySem.W.nsIn K mainGlobals "NoUnit" = some (some (.ref E4)))
    (x5 : PySem.W.nsIn K mainGlobals "NotClosed" = some (some (.ref E5)))
    (x6 : PySem.W.nsIn K mainGlobals "NoFit" = some (some (.ref E6)))
    (x7 : PySem.W.nsIn K mainGlobals "TooMuch" = some (some (.ref E7)))
    (x8 : PySem.W.nsIn K mainGlobals "NoMove" = some (some (.ref E8)))
    (x9 : PySem.W.nsIn K mainGlobals "NoChain" = some (some (.ref E9)))
    (x10 : PySem.W.nsIn K mainGlobals "NoPrime" = some (some (.ref E10)))
    (x11 : PySem.W.nsIn K mainGlobals "NoLine" = some (some (.ref E11)))
    (yg : PySem.W.specialIn K (.builtin "object.__class__") "__get__" = some (some (.builtin "getset_descriptor.__get__")))
    (yt : PySem.W.takesIn K (.builtin "object.__class__") = some true)
    (ya0 : PySem.W.excIn K E0 vEr "ValueError.__new__" = true)
    (yb0 : PySem.W.findIn K (.ref E0) "__getattribute__" = some (some (.builtin "BaseException.__getattribute__")))
    (yc0 : PySem.W.findIn K (.ref E0) "__getattr__" = some none)
    (yd0 : PySem.W.findIn K (.ref E0) "__class__" = some (some (.builtin "object.__class__")))
    (ye0 : PySem.W.mroIn K E0 (.type "object") = some true)
    (yf0 : PySem.W.isClsIn K E0 = true)
    (yh0 : PySem.W.mroIn K E0 (.type "BaseException") = some true)
    (yi0 : PySem.W.subIn K (.ref E0) (.type "ValueError") = some true)
    (yj0 : PySem.W.typeIn K (.ref E0) = some (.type "type"))
    (yk0 : PySem.W.subIn K (.ref E0) (.type "BaseException") = some true)
    (yb1 : PySem.W.findIn K (.ref E1) "__getattribute__" = some (some (.builtin "BaseException.__getattribute__")))
    (yc1 : PySem.W.findIn K (.ref E1) "__getattr__" = some none)
    (yd1 : PySem.W.findIn K (.ref E1) "__class__" = some (some (.builtin "object.__class__")))
    (ye1 : PySem.W.mroIn K E1 (.type "object") = some true)
    (yf1 : PySem.W.isClsIn K E1 = true)
    (yh1 : PySem.W.mroIn K E1 (.type "BaseException") = some true)
    (yi1 : PySem.W.subIn K (.ref E1) (.type "ValueError") = some true)
    (yj1 : PySem.W.typeIn K (.ref E1) = some (.type "type"))
    (yk1 : PySem.W.subIn K (.ref E1) (.type "BaseException") = some true)
    (ya2 : PySem.W.excIn K E2 vEr "ValueError.__new__" = true)
    (yb2 : PySem.W.findIn K (.ref E2) "__getattribute__" = some (some (.builtin "BaseException.__getattribute__")))
    (yc2 : PySem.W.findIn K (.ref E2) "__getattr__" = some none)
    (yd2 : PySem.W.findIn K (.ref E2) "__class__" = some (some (.builtin "object.__class__")))
    (ye2 : PySem.W.mroIn K E2 (.type "object") = some true)
    (yf2 : PySem.W.isClsIn K E2 = true)
    (yh2 : PySem.W.mroIn K E2 (.type "BaseException") = some true)
    (yi2 : PySem.W.subIn K (.ref E2) (.type "ValueError") = some true)
    (yj2 : PySem.W.typeIn K (.ref E2) = some (.type "type"))
    (yk2 : PySem.W.subIn K (.ref E2) (.type "BaseException") = some true)
    (ya3 : PySem.W.excIn K E3 vEr "ValueError.__new__" = true)
    (yb3 : PySem.W.findIn K (.ref E3) "__getattribute__" = some (some (.builtin "BaseException.__getattribute__")))
    (yc3 : PySem.W.findIn K (.ref E3) "__getattr__" = some none)
    (yd3 : PySem.W.findIn K (.ref E3) "__class__" = some (some (.builtin "object.__class__")))
    (ye3 : PySem.W.mroIn K E3 (.type "object") = some true)
    (yf3 : PySem.W.isClsIn K E3 = true)
    (yh3 : PySem.W.mroIn K E3 (.type "BaseException") = some true)
    (yi3 : PySem.W.subIn K (.ref E3) (.type "ValueError") = some true)
    (yj3 : PySem.W.typeIn K (.ref E3) = some (.type "type"))
    (yk3 : PySem.W.subIn K (.ref E3) (.type "BaseException") = some true)
    (ya4 : PySem.W.excIn K E4 vEr "ValueError.__new__" = true)
    (yb4 : PySem.W.findIn K (.ref E4) "__getattribute__" = some (some (.builtin "BaseException.__getattribute__")))
    (yc4 : PySem.W.findIn K (.ref E4) "__getattr__" = some none)
    (yd4 : PySem.W.findIn K (.ref E4) "__class__" = some (some (.builtin "object.__class__")))
    (ye4 : PySem.W.mroIn K E4 (.type "object") = some true)
    (yf4 : PySem.W.isClsIn K E4 = true)
    (yh4 : PySem.W.mroIn K E4 (.type "BaseException") = some true)
    (yi4 : PySem.W.subIn K (.ref E4) (.type "ValueError") = some true)
    (yj4 : PySem.W.typeIn K (.ref E4) = some (.type "type"))
    (yk4 : PySem.W.subIn K (.ref E4) (.type "BaseException") = some true)
    (ya5 : PySem.W.excIn K E5 vEr "ValueError.__new__" = true)
    (yb5 : PySem.W.findIn K (.ref E5) "__getattribute__" = some (some (.builtin "BaseException.__getattribute__")))
    (yc5 : PySem.W.findIn K (.ref E5) "__getattr__" = some none)
    (yd5 : PySem.W.findIn K (.ref E5) "__class__" = some (some (.builtin "object.__class__")))
    (ye5 : PySem.W.mroIn K E5 (.type "object") = some true)
    (yf5 : PySem.W.isClsIn K E5 = true)
    (yh5 : PySem.W.mroIn K E5 (.type "BaseException") = some true)
    (yi5 : PySem.W.subIn K (.ref E5) (.type "ValueError") = some true)
    (yj5 : PySem.W.typeIn K (.ref E5) = some (.type "type"))
    (yk5 : PySem.W.subIn K (.ref E5) (.type "BaseException") = some true)
    (ya6 : PySem.W.excIn K E6 vEr "ValueError.__new__" = true)
    (yb6 : PySem.W.findIn K (.ref E6) "__getattribute__" = some (some (.builtin "BaseException.__getattribute__")))
    (yc6 : PySem.W.findIn K (.ref E6) "__getattr__" = some none)
    (yd6 : PySem.W.findIn K (.ref E6) "__class__" = some (some (.builtin "object.__class__")))
    (ye6 : PySem.W.mroIn K E6 (.type "object") = some true)
    (yf6 : PySem.W.isClsIn K E6 = true)
    (yh6 : PySem.W.mroIn K E6 (.type "BaseException") = some true)
    (yi6 : PySem.W.subIn K (.ref E6) (.type "ValueError") = some true)
    (yj6 : PySem.W.typeIn K (.ref E6) = some (.type "type"))
    (yk6 : PySem.W.subIn K (.ref E6) (.type "BaseException") = some true)
    (ya7 : PySem.W.excIn K E7 vEr "ValueError.__new__" = true)
    (yb7 : PySem.W.findIn K (.ref E7) "__getattribute__" = some (some (.builtin "BaseException.__getattribute__")))
    (yc7 : PySem.W.findIn K (.ref E7) "__getattr__" = some none)
    (yd7 : PySem.W.findIn K (.ref E7) "__class__" = some (some (.builtin "object.__class__")))
    (ye7 : PySem.W.mroIn K E7 (.type "object") = some true)
    (yf7 : PySem.W.isClsIn K E7 = true)
    (yh7 : PySem.W.mroIn K E7 (.type "BaseException") = some true)
    (yi7 : PySem.W.subIn K (.ref E7) (.type "ValueError") = some true)
    (yj7 : PySem.W.typeIn K (.ref E7) = some (.type "type"))
    (yk7 : PySem.W.subIn K (.ref E7) (.type "BaseException") = some true)
    (ya8 : PySem.W.excIn K E8 vEr "ValueError.__new__" = true)
    (yb8 : PySem.W.findIn K (.ref E8) "__getattribute__" = some (some (.builtin "BaseException.__getattribute__")))
    (yc8 : PySem.W.findIn K (.ref E8) "__getattr__" = some none)
    (yd8 : PySem.W.findIn K (.ref E8) "__class__" = some (some (.builtin "object.__class__")))
    (ye8 : PySem.W.mroIn K E8 (.type "object") = some true)
    (yf8 : PySem.W.isClsIn K E8 = true)
    (yh8 : PySem.W.mroIn K E8 (.type "BaseException") = some true)
    (yi8 : PySem.W.subIn K (.ref E8) (.type "ValueError") = some true)
    (yj8 : PySem.W.typeIn K (.ref E8) = some (.type "type"))
    (yk8 : PySem.W.subIn K (.ref E8) (.type "BaseException") = some true)
    (yb9 : PySem.W.findIn K (.ref E9) "__getattribute__" = some (some (.builtin "BaseException.__getattribute__")))
    (yc9 : PySem.W.findIn K (.ref E9) "__getattr__" = some none)
    (yd9 : PySem.W.findIn K (.ref E9) "__class__" = some (some (.builtin "object.__class__")))
    (ye9 : PySem.W.mroIn K E9 (.type "object") = some true)
    (yf9 : PySem.W.isClsIn K E9 = true)
    (yh9 : PySem.W.mroIn K E9 (.type "BaseException") = some true)
    (yi9 : PySem.W.subIn K (.ref E9) (.type "ValueError") = some true)
    (yj9 : PySem.W.typeIn K (.ref E9) = some (.type "type"))
    (yk9 : PySem.W.subIn K (.ref E9) (.type "BaseException") = some true)
    (ya10 : PySem.W.excIn K E10 vEr "ValueError.__new__" = true)
    (yb10 : PySem.W.findIn K (.ref E10) "__getattribute__" = some (some (.builtin "BaseException.__getattribute__")))
    (yc10 : PySem.W.findIn K (.ref E10) "__getattr__" = some none)
    (yd10 : PySem.W.findIn K (.ref E10) "__class__" = some (some (.builtin "object.__class__")))
    (ye10 : PySem.W.mroIn K E10 (.type "object") = some true)
    (yf10 : PySem.W.isClsIn K E10 = true)
    (yh10 : PySem.W.mroIn K E10 (.type "BaseException") = some true)
    (yi10 : PySem.W.subIn K (.ref E10) (.type "ValueError") = some true)
    (yj10 : PySem.W.typeIn K (.ref E10) = some (.type "type"))
    (yk10 : PySem.W.subIn K (.ref E10) (.type "BaseException") = some true)
    (ya11 : PySem.W.excIn K E11 vEr "ValueError.__new__" = true)
    (yb11 : PySem.W.findIn K (.ref E11) "__getattribute__" = some (some (.builtin "BaseException.__getattribute__")))
    (yc11 : PySem.W.findIn K (.ref E11) "__getattr__" = some none)
    (yd11 : PySem.W.findIn K (.ref E11) "__class__" = some (some (.builtin "object.__class__")))
    (ye11 : PySem.W.mroIn K E11 (.type "object") = some true)
    (yf11 : PySem.W.isClsIn K E11 = true)
    (yh11 : PySem.W.mroIn K E11 (.type "BaseException") = some true)
    (yi11 : PySem.W.subIn K (.ref E11) (.type "ValueError") = some true)
    (yj11 : PySem.W.typeIn K (.ref E11) = some (.type "type"))
    (yk11 : PySem.W.subIn K (.ref E11) (.type "BaseException") = some true)
    (yl0_0 : PySem.W.subIn K (.ref E0) (.ref E0) = some true)
    (yl0_1 : PySem.W.subIn K (.ref E0) (.ref E1) = some false)
    (yl0_2 : PySem.W.subIn K (.ref E0) (.ref E2) = some false)
    (yl0_3 : PySem.W.subIn K (.ref E0) (.ref E3) = some false)
    (yl0_4 : PySem.W.subIn K (.ref E0) (.ref E4) = some false)
    (yl0_5 : PySem.W.subIn K (.ref E0) (.ref E5) = some false)
    (yl0_6 : PySem.W.subIn K (.ref E0) (.ref E6) = some false)
    (yl0_7 : PySem.W.subIn K (.ref E0) (.ref E7) = some false)
    (yl0_8 : PySem.W.subIn K (.ref E0) (.ref E8) = some false)
    (yl0_9 : PySem.W.subIn K (.ref E0) (.ref E9) = some false)
    (yl0_10 : PySem.W.subIn K (.ref E0) (.ref E10) = some false)
    (yl0_11 : PySem.W.subIn K (.ref E0) (.ref E11) = some false)
    (yl1_0 : PySem.W.subIn K (.ref E1) (.ref E0) = some true)
    (yl1_1 : PySem.W.subIn K (.ref E1) (.ref E1) = some true)
    (yl1_2 : PySem.W.subIn K (.ref E1) (.ref E2) = some false)
    (yl1_3 : PySem.W.subIn K (.ref E1) (.ref E3) = some false)
    (yl1_4 : PySem.W.subIn K (.ref E1) (.ref E4) = some false)
    (yl1_5 : PySem.W.subIn K (.ref E1) (.ref E5) = some false)
    (yl1_6 : PySem.W.subIn K (.ref E1) (.ref E6) = some false)
    (yl1_7 : PySem.W.subIn K (.ref E1) (.ref E7) = some false)
    (yl1_8 : PySem.W.subIn K (.ref E1) (.ref E8) = some false)
    (yl1_9 : PySem.W.subIn K (.ref E1) (.ref E9) = some false)
    (yl1_10 : PySem.W.subIn K (.ref E1) (.ref E10) = some false)
    (yl1_11 : PySem.W.subIn K (.ref E1) (.ref E11) = some false)
    (yl2_0 : PySem.W.subIn K (.ref E2) (.ref E0) = some true)
    (yl2_1 : PySem.W.subIn K (.ref E2) (.ref E1) = some false)
    (yl2_2 : PySem.W.subIn K (.ref E2) (.ref E2) = some true)
    (yl2_3 : PySem.W.subIn K (.ref E2) (.ref E3) = some false)
    (yl2_4 : PySem.W.subIn K (.ref E2) (.ref E4) = some false)
    (yl2_5 : PySem.W.subIn K (.ref E2) (.ref E5) = some false)
    (yl2_6 : PySem.W.subIn K (.ref E2) (.ref E6) = some false)
    (yl2_7 : PySem.W.subIn K (.ref E2) (.ref E7) = some false)
    (yl2_8 : PySem.W.subIn K (.ref E2) (.ref E8) = some false)
    (yl2_9 : PySem.W.subIn K (.ref E2) (.ref E9) = some false)
    (yl2_10 : PySem.W.subIn K (.ref E2) (.ref E10) = some false)
    (yl2_11 : PySem.W.subIn K (.ref E2) (.ref E11) = some false)
    (yl3_0 : PySem.W.subIn K (.ref E3) (.ref E0) = some true)
    (yl3_1 : PySem.W.subIn K (.ref E3) (.ref E1) = some false)
    (yl3_2 : PySem.W.subIn K (.ref E3) (.ref E2) = some false)
    (yl3_3 : PySem.W.subIn K (.ref E3) (.ref E3) = some true)
    (yl3_4 : PySem.W.subIn K (.ref E3) (.ref E4) = some false)
    (yl3_5 : PySem.W.subIn K (.ref E3) (.ref E5) = some false)
    (yl3_6 : PySem.W.subIn K (.ref E3) (.ref E6) = some false)
    (yl3_7 : PySem.W.subIn K (.ref E3) (.ref E7) = some false)
    (yl3_8 : PySem.W.subIn K (.ref E3) (.ref E8) = some false)
    (yl3_9 : PySem.W.subIn K (.ref E3) (.ref E9) = some false)
    (yl3_10 : PySem.W.subIn K (.ref E3) (.ref E10) = some false)
    (yl3_11 : PySem.W.subIn K (.ref E3) (.ref E11) = some false)
    (yl4_0 : PySem.W.subIn K (.ref E4) (.ref E0) = some true)
    (yl4_1 : PySem.W.subIn K (.ref E4) (.ref E1) = some false)
    (yl4_2 : PySem.W.subIn K (.ref E4) (.ref E2) = some false)
    (yl4_3 : PySem.W.subIn K (.ref E4) (.ref E3) = some false)
    (yl4_4 : PySem.W.subIn K (.ref E4) (.ref E4) = some true)
    (yl4_5 : PySem.W.subIn K (.ref E4) (.ref E5) = some false)
    (yl4_6 : PySem.W.subIn K (.ref E4) (.ref E6) = some false)
    (yl4_7 : PySem.W.subIn K (.ref E4) (.ref E7) = some false)
    (yl4_8 : PySem.W.subIn K (.ref E4) (.ref E8) = some false)
    (yl4_9 : PySem.W.subIn K (.ref E4) (.ref E9) = some false)
    (yl4_10 : PySem.W.subIn K (.ref E4) (.ref E10) = some false)
    (yl4_11 : PySem.W.subIn K (.ref E4) (.ref E11) = some false)
    (yl5_0 : PySem.W.subIn K (.ref E5) (.ref E0) = some true)
    (yl5_1 : PySem.W.subIn K (.ref E5) (.ref E1) = some false)
    (yl5_2 : PySem.W.subIn K (.ref E5) (.ref E2) = some false)
    (yl5_3 : PySem.W.subIn K (.ref E5) (.ref E3) = some false)
    (yl5_4 : PySem.W.subIn K (.ref E5) (.ref E4) = some false)
    (yl5_5 : PySem.W.subIn K (.ref E5) (.ref E5) = some true)
    (yl5_6 : PySem.W.subIn K (.ref E5) (.ref E6) = some false)
    (yl5_7 : PySem.W.subIn K (.ref E5) (.ref E7) = some false)
    (yl5_8 : PySem.W.subIn K (.ref E5) (.ref E8) = some false)
    (yl5_9 : PySem.W.subIn K (.ref E5) (.ref E9) = some false)
    (yl5_10 : PySem.W.subIn K (.ref E5) (.ref E10) = some false)
    (yl5_11 : PySem.W.subIn K (.ref E5) (.ref E11) = some false)
    (yl6_0 : PySem.W.subIn K (.ref E6) (.ref E0) = some true)
    (yl6_1 : PySem.W.subIn K (.ref E6) (.ref E1) = some false)
    (yl6_2 : PySem.W.subIn K (.ref E6) (.ref E2) = some false)
    (yl6_3 : PySem.W.subIn K (.ref E6) (.ref E3) = some false)
    (yl6_4 : PySem.W.subIn K (.ref E6) (.ref E4) = some false)
    (yl6_5 : PySem.W.subIn K (.ref E6) (.ref E5) = some false)
    (yl6_6 : PySem.W.subIn K (.ref E6) (.ref E6) = some true)
    (yl6_7 : PySem.W.subIn K (.ref E6) (.ref E7) = some false)
    (yl6_8 : PySem.W.subIn K (.ref E6) (.ref E8) = some false)
    (yl6_9 : PySem.W.subIn K (.ref E6) (.ref E9) = some false)
    (yl6_10 : PySem.W.subIn K (.ref E6) (.ref E10) = some false)
    (yl6_11 : PySem.W.subIn K (.ref E6) (.ref E11) = some false)
    (yl7_0 : PySem.W.subIn K (.ref E7) (.ref E0) = some true)
    (yl7_1 : PySem.W.subIn K (.ref E7) (.ref E1) = some false)
    (yl7_2 : PySem.W.subIn K (.ref E7) (.ref E2) = some false)
    (yl7_3 : PySem.W.subIn K (.ref E7) (.ref E3) = some false)
    (yl7_4 : PySem.W.subIn K (.ref E7) (.ref E4) = some false)
    (yl7_5 : PySem.W.subIn K (.ref E7) (.ref E5) = some false)
    (yl7_6 : PySem.W.subIn K (.ref E7) (.ref E6) = some false)
    (yl7_7 : PySem.W.subIn K (.ref E7) (.ref E7) = some true)
    (yl7_8 : PySem.W.subIn K (.ref E7) (.ref E8) = some false)
    (yl7_9 : PySem.W.subIn K (.ref E7) (.ref E9) = some false)
    (yl7_10 : PySem.W.subIn K (.ref E7) (.ref E10) = some false)
    (yl7_11 : PySem.W.subIn K (.ref E7) (.ref E11) = some false)
    (yl8_0 : PySem.W.subIn K (.ref E8) (.ref E0) = some true)
    (yl8_1 : PySem.W.subIn K (.ref E8) (.ref E1) = some false)
    (yl8_2 : PySem.W.subIn K (.ref E8) (.ref E2) = some false)
    (yl8_3 : PySem.W.subIn K (.ref E8) (.ref E3) = some false)
    (yl8_4 : PySem.W.subIn K (.ref E8) (.ref E4) = some false)
    (yl8_5 : PySem.W.subIn K (.ref E8) (.ref E5) = some false)
    (yl8_6 : PySem.W.subIn K (.ref E8) (.ref E6) = some false)
    (yl8_7 : PySem.W.subIn K (.ref E8) (.ref E7) = some false)
    (yl8_8 : PySem.W.subIn K (.ref E8) (.ref E8) = some true)
    (yl8_9 : PySem.W.subIn K (.ref E8) (.ref E9) = some false)
    (yl8_10 : PySem.W.subIn K (.ref E8) (.ref E10) = some false)
    (yl8_11 : PySem.W.subIn K (.ref E8) (.ref E11) = some false)
    (yl9_0 : PySem.W.subIn K (.ref E9) (.ref E0) = some true)
    (yl9_1 : PySem.W.subIn K (.ref E9) (.ref E1) = some false)
    (yl9_2 : PySem.W.subIn K (.ref E9) (.ref E2) = some false)
    (yl9_3 : PySem.W.subIn K (.ref E9) (.ref E3) = some false)
    (yl9_4 : PySem.W.subIn K (.ref E9) (.ref E4) = some false)
    (yl9_5 : PySem.W.subIn K (.ref E9) (.ref E5) = some false)
    (yl9_6 : PySem.W.subIn K (.ref E9) (.ref E6) = some false)
    (yl9_7 : PySem.W.subIn K (.ref E9) (.ref E7) = some false)
    (yl9_8 : PySem.W.subIn K (.ref E9) (.ref E8) = some false)
    (yl9_9 : PySem.W.subIn K (.ref E9) (.ref E9) = some true)
    (yl9_10 : PySem.W.subIn K (.ref E9) (.ref E10) = some false)
    (yl9_11 : PySem.W.subIn K (.ref E9) (.ref E11) = some false)
    (yl10_0 : PySem.W.subIn K (.ref E10) (.ref E0) = some true)
    (yl10_1 : PySem.W.subIn K (.ref E10) (.ref E1) = some false)
    (yl10_2 : PySem.W.subIn K (.ref E10) (.ref E2) = some false)
    (yl10_3 : PySem.W.subIn K (.ref E10) (.ref E3) = some false)
    (yl10_4 : PySem.W.subIn K (.ref E10) (.ref E4) = some false)
    (yl10_5 : PySem.W.subIn K (.ref E10) (.ref E5) = some false)
    (yl10_6 : PySem.W.subIn K (.ref E10) (.ref E6) = some false)
    (yl10_7 : PySem.W.subIn K (.ref E10) (.ref E7) = some false)
    (yl10_8 : PySem.W.subIn K (.ref E10) (.ref E8) = some false)
    (yl10_9 : PySem.W.subIn K (.ref E10) (.ref E9) = some false)
    (yl10_10 : PySem.W.subIn K (.ref E10) (.ref E10) = some true)
    (yl10_11 : PySem.W.subIn K (.ref E10) (.ref E11) = some false)
    (yl11_0 : PySem.W.subIn K (.ref E11) (.ref E0) = some true)
    (yl11_1 : PySem.W.subIn K (.ref E11) (.ref E1) = some false)
    (yl11_2 : PySem.W.subIn K (.ref E11) (.ref E2) = some false)
    (yl11_3 : PySem.W.subIn K (.ref E11) (.ref E3) = some false)
    (yl11_4 : PySem.W.subIn K (.ref E11) (.ref E4) = some false)
    (yl11_5 : PySem.W.subIn K (.ref E11) (.ref E5) = some false)
    (yl11_6 : PySem.W.subIn K (.ref E11) (.ref E6) = some false)
    (yl11_7 : PySem.W.subIn K (.ref E11) (.ref E7) = some false)
    (yl11_8 : PySem.W.subIn K (.ref E11) (.ref E8) = some false)
    (yl11_9 : PySem.W.subIn K (.ref E11) (.ref E9) = some false)
    (yl11_10 : PySem.W.subIn K (.ref E11) (.ref E10) = some false)
    (yl11_11 : PySem.W.subIn K (.ref E11) (.ref E11) = some true)
    (na1 : K.lookup E1 = some (excClassObj nm1 qn1 E1 Ns1 bs1 (.ref E0 :: vEr) true sn1 sb1 ab1 co1 dd1 ka1 kb1 kc1 ke1 kf1 "ValueError.__new__"))
    (nb1 : PySem.W.findIn K (.ref E1) "__setattr__" = some (some (.builtin "object.__setattr__")))
    (nc1 : PySem.W.findIn K (.ref E1) "fault" = some none)
    (nd1 : PySem.W.findIn K (.ref E1) "__init__" = some (some (.ref fI1)))
    (ne1 : PySem.W.isFn K (.ref fI1) = true)
    (nf1 : PySem.W.hasDictIn K E1 = true)
    (ng1 : K.lookup fI1 = some ⟨oc1, od1, .func (PySem.W.fnOf "__init__" "NotADrawing.__init__" (defArgs s_i1) (defBody s_i1) (defScope s_i1) .none kV1 dc1 pm1 an1 cd1 ct1), sl1⟩)
    (nh1 : PySem.W.codeIn K cd1 "NotADrawing.__init__" = true)
    (ni1 : PySem.W.keepIn K (.ref fI1) = true)
    (na2 : K.lookup E9 = some (excClassObj nm2 qn2 E9 Ns2 bs2 (.ref E0 :: vEr) true sn2 sb2 ab2 co2 dd2 ka2 kb2 kc2 ke2 kf2 "ValueError.__new__"))
    (nb2 : PySem.W.findIn K (.ref E9) "__setattr__" = some (some (.builtin "object.__setattr__")))
    (nc2 : PySem.W.findIn K (.ref E9) "at" = some none)
    (nd2 : PySem.W.findIn K (.ref E9) "__init__" = some (some (.ref fI2)))
    (ne2 : PySem.W.isFn K (.ref fI2) = true)
    (nf2 : PySem.W.hasDictIn K E9 = true)
    (ng2 : K.lookup fI2 = some ⟨oc2, od2, .func (PySem.W.fnOf "__init__" "NoChain.__init__" (defArgs s_i2) (defBody s_i2) (defScope s_i2) .none kV2 dc2 pm2 an2 cd2 ct2), sl2⟩)
    (nh2 : PySem.W.codeIn K cd2 "NoChain.__init__" = true)
    (ni2 : PySem.W.keepIn K (.ref fI2) = true)
    : ∃ fd : FuncData, (∀ (s : Shared) (v : Value), BindsTo s fd ⟨[v], []⟩ [("_law_script", v)]) ∧ ∀ base : Heap, K.In base → base.Ns mainGlobals mg → FnOk l.prog w K mg base CX0 5 fa fd ["_law_script"] (sp1 (rL rInt) (oF rBool) m_law K) := by
  have e := hfa.symm.trans (PySem.W.mg_of X G a)
  cases e
  have N : ∀ {x : Str}, PySem.W.nsIn K mainGlobals x = some none → mg x = none := fun z => PySem.W.mg_none_of X G z
  have pz0 : plainEx "PlaitError" = true := by decide
  have er0 := erA_of yb0 yc0 yd0 ye0 yf0 yh0 yg yt
  have iz0_0 : isSub "PlaitError" "PlaitError" = true := by decide
  have kx0_0 := kx_of yl0_0 yl0_0 yf0 yj0 yk0
  have iz0_1 : isSub "PlaitError" "NotADrawing" = false := by decide
  have kx0_1 := kx_of yl0_0 yl0_1 yf1 yj1 yk1
  have iz0_2 : isSub "PlaitError" "NoCrossing" = false := by decide
  have kx0_2 := kx_of yl0_0 yl0_2 yf2 yj2 yk2
  have iz0_3 : isSub "PlaitError" "TooBig" = false := by decide
  have kx0_3 := kx_of yl0_0 yl0_3 yf3 yj3 yk3
  have iz0_4 : isSub "PlaitError" "NoUnit" = false := by decide
  have kx0_4 := kx_of yl0_0 yl0_4 yf4 yj4 yk4
  have iz0_5 : isSub "PlaitError" "NotClosed" = false := by decide
  have kx0_5 := kx_of yl0_0 yl0_5 yf5 yj5 yk5
  have iz0_6 : isSub "PlaitError" "NoFit" = false := by decide
  have kx0_6 := kx_of yl0_0 yl0_6 yf6 yj6 yk6
  have iz0_7 : isSub "PlaitError" "TooMuch" = false := by decide
  have kx0_7 := kx_of yl0_0 yl0_7 yf7 yj7 yk7
  have iz0_8 : isSub "PlaitError" "NoMove" = false := by decide
  have kx0_8 := kx_of yl0_0 yl0_8 yf8 yj8 yk8
  have iz0_9 : isSub "PlaitError" "NoChain" = false := by decide
  have kx0_9 := kx_of yl0_0 yl0_9 yf9 yj9 yk9
  have iz0_10 : isSub "PlaitError" "NoPrime" = false := by decide
  have kx0_10 := kx_of yl0_0 yl0_10 yf10 yj10 yk10
  have iz0_11 : isSub "PlaitError" "NoLine" = false := by decide
  have kx0_11 := kx_of yl0_0 yl0_11 yf11 yj11 yk11
  have pz1 : plainEx "NotADrawing" = false := by decide
  have er1 := erA_of yb1 yc1 yd1 ye1 yf1 yh1 yg yt
  have iz1_0 : isSub "NotADrawing" "PlaitError" = true := by decide
  have kx1_0 := kx_of yl1_1 yl1_0 yf0 yj0 yk0
  have iz1_1 : isSub "NotADrawing" "NotADrawing" = true := by decide
  have kx1_1 := kx_of yl1_1 yl1_1 yf1 yj1 yk1
  have iz1_2 : isSub "NotADrawing" "NoCrossing" = false := by decide
  have kx1_2 := kx_of yl1_1 yl1_2 yf2 yj2 yk2
  have iz1_3 : isSub "NotADrawing" "TooBig" = false := by decide
  have kx1_3 := kx_of yl1_1 yl1_3 yf3 yj3 yk3
  have iz1_4 : isSub "NotADrawing" "NoUnit" = false := by decide
  have kx1_4 := kx_of yl1_1 yl1_4 yf4 yj4 yk4
  have iz1_5 : isSub "NotADrawing" "NotClosed" = false := by decide
  have kx1_5 := kx_of yl1_1 yl1_5 yf5 yj5 yk5
  have iz1_6 : isSub "NotADrawing" "NoFit" = false := by decide
  have kx1_6 := kx_of yl1_1 yl1_6 yf6 yj6 yk6
  have iz1_7 : isSub "NotADrawing" "TooMuch" = false := by decide
  have kx1_7 := kx_of yl1_1 yl1_7 yf7 yj7 yk7
  have iz1_8 : isSub "NotADrawing" "NoMove" = false := by decide
  have kx1_8 := kx_of yl1_1 yl1_8 yf8 yj8 yk8
  have iz1_9 : isSub "NotADrawing" "NoChain" = false := by decide
  have kx1_9 := kx_of yl1_1 yl1_9 yf9 yj9 yk9
  have iz1_10 : isSub "NotADrawing" "NoPrime" = false := by decide
  have kx1_10 := kx_of yl1_1 yl1_10 yf10 yj10 yk10
  have iz1_11 : isSub "NotADrawing" "NoLine" = false := by decide
  have kx1_11 := kx_of yl1_1 yl1_11 yf11 yj11 yk11
  have pz2 : plainEx "NoCrossing" = true := by decide
  have er2 := erA_of yb2 yc2 yd2 ye2 yf2 yh2 yg yt
  have iz2_0 : isSub "NoCrossing" "PlaitError" = true := by decide
  have kx2_0 := kx_of yl2_2 yl2_0 yf0 yj0 yk0
  have iz2_1 : isSub "NoCrossing" "NotADrawing" = false := by decide
  have kx2_1 := kx_of yl2_2 yl2_1 yf1 yj1 yk1
  have iz2_2 : isSub "NoCrossing" "NoCrossing" = true := by decide
  have kx2_2 := kx_of yl2_2 yl2_2 yf2 yj2 yk2
  have iz2_3 : isSub "NoCrossing" "TooBig" = false := by decide
  have kx2_3 := kx_of yl2_2 yl2_3 yf3 yj3 yk3
  have iz2_4 : isSub "NoCrossing" "NoUnit" = false := by decide
  have kx2_4 := kx_of yl2_2 yl2_4 yf4 yj4 yk4
  have iz2_5 : isSub "NoCrossing" "NotClosed" = false := by decide
  have kx2_5 := kx_of yl2_2 yl2_5 yf5 yj5 yk5
  have iz2_6 : isSub "NoCrossing" "NoFit" = false := by decide
  have kx2_6 := kx_of yl2_2 yl2_6 yf6 yj6 yk6
  have iz2_7 : isSub "NoCrossing" "TooMuch" = false := by decide
  have kx2_7 := kx_of yl2_2 yl2_7 yf7 yj7 yk7
  have iz2_8 : isSub "NoCrossing" "NoMove" = false := by decide
  have kx2_8 := kx_of yl2_2 yl2_8 yf8 yj8 yk8
  have iz2_9 : isSub "NoCrossing" "NoChain" = false := by decide
  have kx2_9 := kx_of yl2_2 yl2_9 yf9 yj9 yk9
  have iz2_10 : isSub "NoCrossing" "NoPrime" = false := by decide
  have kx2_10 := kx_of yl2_2 yl2_10 yf10 yj10 yk10
  have iz2_11 : isSub "NoCrossing" "NoLine" = false := by decide
  have kx2_11 := kx_of yl2_2 yl2_11 yf11 yj11 yk11
  have pz3 : plainEx "TooBig" = true := by decide
  have er3 := erA_of yb3 yc3 yd3 ye3 yf3 yh3 yg yt
  have iz3_0 : isSub "TooBig" "PlaitError" = true := by decide
  have kx3_0 := kx_of yl3_3 yl3_0 yf0 yj0 yk0
  have iz3_1 : isSub "TooBig" "NotADrawing" = false := by decide
  have kx3_1 := kx_of yl3_3 yl3_1 yf1 yj1 yk1
  have iz3_2 : isSub "TooBig" "NoCrossing" = false := by decide
  have kx3_2 := kx_of yl3_3 yl3_2 yf2 yj2 yk2
  have iz3_3 : isSub "TooBig" "TooBig" = true := by decide
  have kx3_3 := kx_of yl3_3 yl3_3 yf3 yj3 yk3
  have iz3_4 : isSub "TooBig" "NoUnit" = false := by decide
  have kx3_4 := kx_of yl3_3 yl3_4 yf4 yj4 yk4
  have iz3_5 : isSub "TooBig" "NotClosed" = false := by decide
  have kx3_5 := kx_of yl3_3 yl3_5 yf5 yj5 yk5
  have iz3_6 : isSub "TooBig" "NoFit" = false := by decide
  have kx3_6 := kx_of yl3_3 yl3_6 yf6 yj6 yk6
  have iz3_7 : isSub "TooBig" "TooMuch" = false := by decide
  have kx3_7 := kx_of yl3_3 yl3_7 yf7 yj7 yk7
  have iz3_8 : isSub "TooBig" "NoMove" = false := by decide
  have kx3_8 := kx_of yl3_3 yl3_8 yf8 yj8 yk8
  have iz3_9 : isSub "TooBig" "NoChain" = false := by decide
  have kx3_9 := kx_of yl3_3 yl3_9 yf9 yj9 yk9
  have iz3_10 : isSub "TooBig" "NoPrime" = false := by decide
  have kx3_10 := kx_of yl3_3 yl3_10 yf10 yj10 yk10
  have iz3_11 : isSub "TooBig" "NoLine" = false := by decide
  have kx3_11 := kx_of yl3_3 yl3_11 yf11 yj11 yk11
  have pz4 : plainEx "NoUnit" = true := by decide
  have er4 := erA_of yb4 yc4 yd4 ye4 yf4 yh4 yg yt
  have iz4_0 : isSub "NoUnit" "PlaitError" = true := by decide
  have kx4_0 := kx_of yl4_4 yl4_0 yf0 yj0 yk0
  have iz4_1 : isSub "NoUnit" "NotADrawing" = false := by decide
  have kx4_1 := kx_of yl4_4 yl4_1 yf1 yj1 yk1
  have iz4_2 : isSub "NoUnit" "NoCrossing" = false := by decide
  have kx4_2 := kx_of yl4_4 yl4_2 yf2 yj2 yk2
  have iz4_3 : isSub "NoUnit" "TooBig" = false := by decide
  have kx4_3 := kx_of yl4_4 yl4_3 yf3 yj3 yk3
  have iz4_4 : isSub "NoUnit" "NoUnit" = true := by decide
  have kx4_4 := kx_of yl4_4 yl4_4 yf4 yj4 yk4
  have iz4_5 : isSub "NoUnit" "NotClosed" = false := by decide
  have kx4_5 := kx_of yl4_4 yl4_5 yf5 yj5 yk5
  have iz4_6 : isSub "NoUnit" "NoFit" = false := by decide
  have kx4_6 := kx_of yl4_4 yl4_6 yf6 yj6 yk6
  have iz4_7 : isSub "NoUnit" "TooMuch" = false := by decide
  have kx4_7 := kx_of yl4_4 yl4_7 yf7 yj7 yk7
  have iz4_8 : isSub "NoUnit" "NoMove" = false := by decide
  have kx4_8 := kx_of yl4_4 yl4_8 yf8 yj8 yk8
  have iz4_9 : isSub "NoUnit" "NoChain" = false := by decide
  have kx4_9 := kx_of yl4_4 yl4_9 yf9 yj9 yk9
  have iz4_10 : isSub "NoUnit" "NoPrime" = false := by decide
  have kx4_10 := kx_of yl4_4 yl4_10 yf10 yj10 yk10
  have iz4_11 : isSub "NoUnit" "NoLine" = false := by decide
  have kx4_11 := kx_of yl4_4 yl4_11 yf11 yj11 yk11
  have pz5 : plainEx "NotClosed" = true := by decide
  have er5 := erA_of yb5 yc5 yd5 ye5 yf5 yh5 yg yt
  have iz5_0 : isSub "NotClosed" "PlaitError" = true := by decide
  have kx5_0 := kx_of yl5_5 yl5_0 yf0 yj0 yk0
  have iz5_1 : isSub "NotClosed" "NotADrawing" = false := by decide
  have kx5_1 := kx_of yl5_5 yl5_1 yf1 yj1 yk1
  have iz5_2 : isSub "NotClosed" "NoCrossing" = false := by decide
  have kx5_2 := kx_of yl5_5 yl5_2 yf2 yj2 yk2
  have iz5_3 : isSub "NotClosed" "TooBig" = false := by decide
  have kx5_3 := kx_of yl5_5 yl5_3 yf3 yj3 yk3
  have iz5_4 : isSub "NotClosed" "NoUnit" = false := by decide
  have kx5_4 := kx_of yl5_5 yl5_4 yf4 yj4 yk4
  have iz5_5 : isSub "NotClosed" "NotClosed" = true := by decide
  have kx5_5 := kx_of yl5_5 yl5_5 yf5 yj5 yk5
  have iz5_6 : isSub "NotClosed" "NoFit" = false := by decide
  have kx5_6 := kx_of yl5_5 yl5_6 yf6 yj6 yk6
  have iz5_7 : isSub "NotClosed" "TooMuch" = false := by decide
  have kx5_7 := kx_of yl5_5 yl5_7 yf7 yj7 yk7
  have iz5_8 : isSub "NotClosed" "NoMove" = false := by decide
  have kx5_8 := kx_of yl5_5 yl5_8 yf8 yj8 yk8
  have iz5_9 : isSub "NotClosed" "NoChain" = false := by decide
  have kx5_9 := kx_of yl5_5 yl5_9 yf9 yj9 yk9
  have iz5_10 : isSub "NotClosed" "NoPrime" = false := by decide
  have kx5_10 := kx_of yl5_5 yl5_10 yf10 yj10 yk10
  have iz5_11 : isSub "NotClosed" "NoLine" = false := by decide
  have kx5_11 := kx_of yl5_5 yl5_11 yf11 yj11 yk11
  have pz6 : plainEx "NoFit" = true := by decide
  have er6 := erA_of yb6 yc6 yd6 ye6 yf6 yh6 yg yt
  have iz6_0 : isSub "NoFit" "PlaitError" = true := by decide
  have kx6_0 := kx_of yl6_6 yl6_0 yf0 yj0 yk0
  have iz6_1 : isSub "NoFit" "NotADrawing" = false := by decide
  have kx6_1 := kx_of yl6_6 yl6_1 yf1 yj1 yk1
  have iz6_2 : isSub "NoFit" "NoCrossing" = false := by decide
  have kx6_2 := kx_of yl6_6 yl6_2 yf2 yj2 yk2
  have iz6_3 : isSub "NoFit" "TooBig" = false := by decide
  have kx6_3 := kx_of yl6_6 yl6_3 yf3 yj3 yk3
  have iz6_4 : isSub "NoFit" "NoUnit" = false := by decide
  have kx6_4 := kx_of yl6_6 yl6_4 yf4 yj4 yk4
  have iz6_5 : isSub "NoFit" "NotClosed" = false := by decide
  have kx6_5 := kx_of yl6_6 yl6_5 yf5 yj5 yk5
  have iz6_6 : isSub "NoFit" "NoFit" = true := by decide
  have kx6_6 := kx_of yl6_6 yl6_6 yf6 yj6 yk6
  have iz6_7 : isSub "NoFit" "TooMuch" = false := by decide
  have kx6_7 := kx_of yl6_6 yl6_7 yf7 yj7 yk7
  have iz6_8 : isSub "NoFit" "NoMove" = false := by decide
  have kx6_8 := kx_of yl6_6 yl6_8 yf8 yj8 yk8
  have iz6_9 : isSub "NoFit" "NoChain" = false := by decide
  have kx6_9 := kx_of yl6_6 yl6_9 yf9 yj9 yk9
  have iz6_10 : isSub "NoFit" "NoPrime" = false := by decide
  have kx6_10 := kx_of yl6_6 yl6_10 yf10 yj10 yk10
  have iz6_11 : isSub "NoFit" "NoLine" = false := by decide
  have kx6_11 := kx_of yl6_6 yl6_11 yf11 yj11 yk11
  have pz7 : plainEx "TooMuch" = true := by decide
  have er7 := erA_of yb7 yc7 yd7 ye7 yf7 yh7 yg yt
  have iz7_0 : isSub "TooMuch" "PlaitError" = true := by decide
  have kx7_0 := kx_of yl7_7 yl7_0 yf0 yj0 yk0
  have iz7_1 : isSub "TooMuch" "NotADrawing" = false := by decide
  have kx7_1 := kx_of yl7_7 yl7_1 yf1 yj1 yk1
  have iz7_2 : isSub "TooMuch" "NoCrossing" = false := by decide
  have kx7_2 := kx_of yl7_7 yl7_2 yf2 yj2 yk2
  have iz7_3 : isSub "TooMuch" "TooBig" = false := by decide
  have kx7_3 := kx_of yl7_7 yl7_3 yf3 yj3 yk3
  have iz7_4 : isSub "TooMuch" "NoUnit" = false := by decide
  have kx7_4 := kx_of yl7_7 yl7_4 yf4 yj4 yk4
  have iz7_5 : isSub "TooMuch" "NotClosed" = false := by decide
  have kx7_5 := kx_of yl7_7 yl7_5 yf5 yj5 yk5
  have iz7_6 : isSub "TooMuch" "NoFit" = false := by decide
  have kx7_6 := kx_of yl7_7 yl7_6 yf6 yj6 yk6
  have iz7_7 : isSub "TooMuch" "TooMuch" = true := by decide
  have kx7_7 := kx_of yl7_7 yl7_7 yf7 yj7 yk7
  have iz7_8 : isSub "TooMuch" "NoMove" = false := by decide
  have kx7_8 := kx_of yl7_7 yl7_8 yf8 yj8 yk8
  have iz7_9 : isSub "TooMuch" "NoChain" = false := by decide
  have kx7_9 := kx_of yl7_7 yl7_9 yf9 yj9 yk9
  have iz7_10 : isSub "TooMuch" "NoPrime" = false := by decide
  have kx7_10 := kx_of yl7_7 yl7_10 yf10 yj10 yk10
  have iz7_11 : isSub "TooMuch" "NoLine" = false := by decide
  have kx7_11 := kx_of yl7_7 yl7_11 yf11 yj11 yk11
  have pz8 : plainEx "NoMove" = true := by decide
  have er8 := erA_of yb8 yc8 yd8 ye8 yf8 yh8 yg yt
  have iz8_0 : isSub "NoMove" "PlaitError" = true := by decide
  have kx8_0 := kx_of yl8_8 yl8_0 yf0 yj0 yk0
  have iz8_1 : isSub "NoMove" "NotADrawing" = false := by decide
  have kx8_1 := kx_of yl8_8 yl8_1 yf1 yj1 yk1
  have iz8_2 : isSub "NoMove" "NoCrossing" = false := by decide
  have kx8_2 := kx_of yl8_8 yl8_2 yf2 yj2 yk2
  have iz8_3 : isSub "NoMove" "TooBig" = false := by decide
  have kx8_3 := kx_of yl8_8 yl8_3 yf3 yj3 yk3
  have iz8_4 : isSub "NoMove" "NoUnit" = false := by decide
  have kx8_4 := kx_of yl8_8 yl8_4 yf4 yj4 yk4
  have iz8_5 : isSub "NoMove" "NotClosed" = false := by decide
  have kx8_5 := kx_of yl8_8 yl8_5 yf5 yj5 yk5
  have iz8_6 : isSub "NoMove" "NoFit" = false := by decide
  have kx8_6 := kx_of yl8_8 yl8_6 yf6 yj6 yk6
  have iz8_7 : isSub "NoMove" "TooMuch" = false := by decide
  have kx8_7 := kx_of yl8_8 yl8_7 yf7 yj7 yk7
  have iz8_8 : isSub "NoMove" "NoMove" = true := by decide
  have kx8_8 := kx_of yl8_8 yl8_8 yf8 yj8 yk8
  have iz8_9 : isSub "NoMove" "NoChain" = false := by decide
  have kx8_9 := kx_of yl8_8 yl8_9 yf9 yj9 yk9
  have iz8_10 : isSub "NoMove" "NoPrime" = false := by decide
  have kx8_10 := kx_of yl8_8 yl8_10 yf10 yj10 yk10
  have iz8_11 : isSub "NoMove" "NoLine" = false := by decide
  have kx8_11 := kx_of yl8_8 yl8_11 yf11 yj11 yk11
  have pz9 : plainEx "NoChain" = false := by decide
  have er9 := erA_of yb9 yc9 yd9 ye9 yf9 yh9 yg yt
  have iz9_0 : isSub "NoChain" "PlaitError" = true := by decide
  have kx9_0 := kx_of yl9_9 yl9_0 yf0 yj0 yk0
  have iz9_1 : isSub "NoChain" "NotADrawing" = false := by decide
  have kx9_1 := kx_of yl9_9 yl9_1 yf1 yj1 yk1
  have iz9_2 : isSub "NoChain" "NoCrossing" = false := by decide
  have kx9_2 := kx_of yl9_9 yl9_2 yf2 yj2 yk2
  have iz9_3 : isSub "NoChain" "TooBig" = false := by decide
  have kx9_3 := kx_of yl9_9 yl9_3 yf3 yj3 yk3
  have iz9_4 : isSub "NoChain" "NoUnit" = false := by decide
  have kx9_4 := kx_of yl9_9 yl9_4 yf4 yj4 yk4
  have iz9_5 : isSub "NoChain" "NotClosed" = false := by decide
  have kx9_5 := kx_of yl9_9 yl9_5 yf5 yj5 yk5
  have iz9_6 : isSub "NoChain" "NoFit" = false := by decide
  have kx9_6 := kx_of yl9_9 yl9_6 yf6 yj6 yk6
  have iz9_7 : isSub "NoChain" "TooMuch" = false := by decide
  have kx9_7 := kx_of yl9_9 yl9_7 yf7 yj7 yk7
  have iz9_8 : isSub "NoChain" "NoMove" = false := by decide
  have kx9_8 := kx_of yl9_9 yl9_8 yf8 yj8 yk8
  have iz9_9 : isSub "NoChain" "NoChain" = true := by decide
  have kx9_9 := kx_of yl9_9 yl9_9 yf9 yj9 yk9
  have iz9_10 : isSub "NoChain" "NoPrime" = false := by decide
  have kx9_10 := kx_of yl9_9 yl9_10 yf10 yj10 yk10
  have iz9_11 : isSub "NoChain" "NoLine" = false := by decide
  have kx9_11 := kx_of yl9_9 yl9_11 yf11 yj11 yk11
  have pz10 : plainEx "NoPrime" = true := by decide
  have er10 := erA_of yb10 yc10 yd10 ye10 yf10 yh10 yg yt
  have iz10_0 : isSub "NoPrime" "PlaitError" = true := by decide
  have kx10_0 := kx_of yl10_10 yl10_0 yf0 yj0 yk0
  have iz10_1 : isSub "NoPrime" "NotADrawing" = false := by decide
  have kx10_1 := kx_of yl10_10 yl10_1 yf1 yj1 yk1
  have iz10_2 : isSub "NoPrime" "NoCrossing" = false := by decide
  have kx10_2 := kx_of yl10_10 yl10_2 yf2 yj2 yk2
  have iz10_3 : isSub "NoPrime" "TooBig" = false := by decide
  have kx10_3 := kx_of yl10_10 yl10_3 yf3 yj3 yk3
  have iz10_4 : isSub "NoPrime" "NoUnit" = false := by decide
  have kx10_4 := kx_of yl10_10 yl10_4 yf4 yj4 yk4
  have iz10_5 : isSub "NoPrime" "NotClosed" = false := by decide
  have kx10_5 := kx_of yl10_10 yl10_5 yf5 yj5 yk5
  have iz10_6 : isSub "NoPrime" "NoFit" = false := by decide
  have kx10_6 := kx_of yl10_10 yl10_6 yf6 yj6 yk6
  have iz10_7 : isSub "NoPrime" "TooMuch" = false := by decide
  have kx10_7 := kx_of yl10_10 yl10_7 yf7 yj7 yk7
  have iz10_8 : isSub "NoPrime" "NoMove" = false := by decide
  have kx10_8 := kx_of yl10_10 yl10_8 yf8 yj8 yk8
  have iz10_9 : isSub "NoPrime" "NoChain" = false := by decide
  have kx10_9 := kx_of yl10_10 yl10_9 yf9 yj9 yk9
  have iz10_10 : isSub "NoPrime" "NoPrime" = true := by decide
  have kx10_10 := kx_of yl10_10 yl10_10 yf10 yj10 yk10
  have iz10_11 : isSub "NoPrime" "NoLine" = false := by decide
  have kx10_11 := kx_of yl10_10 yl10_11 yf11 yj11 yk11
  have pz11 : plainEx "NoLine" = true := by decide
  have er11 := erA_of yb11 yc11 yd11 ye11 yf11 yh11 yg yt
  have iz11_0 : isSub "NoLine" "PlaitError" = true := by decide
  have kx11_0 := kx_of yl11_11 yl11_0 yf0 yj0 yk0
  have iz11_1 : isSub "NoLine" "NotADrawing" = false := by decide
  have kx11_1 := kx_of yl11_11 yl11_1 yf1 yj1 yk1
  have iz11_2 : isSub "NoLine" "NoCrossing" = false := by decide
  have kx11_2 := kx_of yl11_11 yl11_2 yf2 yj2 yk2
  have iz11_3 : isSub "NoLine" "TooBig" = false := by decide
  have kx11_3 := kx_of yl11_11 yl11_3 yf3 yj3 yk3
  have iz11_4 : isSub "NoLine" "NoUnit" = false := by decide
  have kx11_4 := kx_of yl11_11 yl11_4 yf4 yj4 yk4
  have iz11_5 : isSub "NoLine" "NotClosed" = false := by decide
  have kx11_5 := kx_of yl11_11 yl11_5 yf5 yj5 yk5
  have iz11_6 : isSub "NoLine" "NoFit" = false := by decide
  have kx11_6 := kx_of yl11_11 yl11_6 yf6 yj6 yk6
  have iz11_7 : isSub "NoLine" "TooMuch" = false := by decide
  have kx11_7 := kx_of yl11_11 yl11_7 yf7 yj7 yk7
  have iz11_8 : isSub "NoLine" "NoMove" = false := by decide
  have kx11_8 := kx_of yl11_11 yl11_8 yf8 yj8 yk8
  have iz11_9 : isSub "NoLine" "NoChain" = false := by decide
  have kx11_9 := kx_of yl11_11 yl11_9 yf9 yj9 yk9
  have iz11_10 : isSub "NoLine" "NoPrime" = false := by decide
  have kx11_10 := kx_of yl11_11 yl11_10 yf10 yj10 yk10
  have iz11_11 : isSub "NoLine" "NoLine" = true := by decide
  have kx11_11 := kx_of yl11_11 yl11_11 yf11 yj11 yk11
  have y0 : ecsOk K [("PlaitError", E0), ("NotADrawing", E1), ("NoCrossing", E2), ("TooBig", E3), ("NoUnit", E4), ("NotClosed", E5), ("NoFit", E6), ("TooMuch", E7), ("NoMove", E8), ("NoChain", E9), ("NoPrime", E10), ("NoLine", E11)] = true := by
    unfold ecsOk
    simp only [List.all_cons, List.all_nil, Bool.and_true, Bool.and_self, beq_self_eq_true, Bool.not_true, Bool.not_false, Bool.false_or, Bool.true_or, pz0, ya0, er0, kval_of yi0, pz1, er1, kval_of yi1, pz2, ya2, er2, kval_of yi2, pz3, ya3, er3, kval_of yi3, pz4, ya4, er4, kval_of yi4, pz5, ya5, er5, kval_of yi5, pz6, ya6, er6, kval_of yi6, pz7, ya7, er7, kval_of yi7, pz8, ya8, er8, kval_of yi8, pz9, er9, kval_of yi9, pz10, ya10, er10, kval_of yi10, pz11, ya11, er11, kval_of yi11, iz0_0, kx0_0.1, kx0_0.2, iz0_1, kx0_1.1, kx0_1.2, iz0_2, kx0_2.1, kx0_2.2, iz0_3, kx0_3.1, kx0_3.2, iz0_4, kx0_4.1, kx0_4.2, iz0_5, kx0_5.1, kx0_5.2, iz0_6, kx0_6.1, kx0_6.2, iz0_7, kx0_7.1, kx0_7.2, iz0_8, kx0_8.1, kx0_8.2, iz0_9, kx0_9.1, kx0_9.2, iz0_10, kx0_10.1, kx0_10.2, iz0_11, kx0_11.1, kx0_11.2, iz1_0, kx1_0.1, kx1_0.2, iz1_1, kx1_1.1, kx1_1.2, iz1_2, kx1_2.1, kx1_2.2, iz1_3, kx1_3.1, kx1_3.2, iz1_4, kx1_4.1, kx1_4.2, iz1_5, kx1_5.1, kx1_5.2, iz1_6, kx1_6.1, kx1_6.2, iz1_7, kx1_7.1, kx1_7.2, iz1_8, kx1_8.1, kx1_8.2, iz1_9, kx1_9.1, kx1_9.2, iz1_10, kx1_10.1, kx1_10.2, iz1_11, kx1_11.1, kx1_11.2, iz2_0, kx2_0.1, kx2_0.2, iz2_1, kx2_1.1, kx2_1.2, iz2_2, kx2_2.1, kx2_2.2, iz2_3, kx2_3.1, kx2_3.2, iz2_4, kx2_4.1, kx2_4.2, iz2_5, kx2_5.1, kx2_5.2, iz2_6, kx2_6.1, kx2_6.2, iz2_7, kx2_7.1, kx2_7.2, iz2_8, kx2_8.1, kx2_8.2, iz2_9, kx2_9.1, kx2_9.2, iz2_10, kx2_10.1, kx2_10.2, iz2_11, kx2_11.1, kx2_11.2, iz3_0, kx3_0.1, kx3_0.2, iz3_1, kx3_1.1, kx3_1.2, iz3_2, kx3_2.1, kx3_2.2, iz3_3, kx3_3.1, kx3_3.2, iz3_4, kx3_4.1, kx3_4.2, iz3_5, kx3_5.1, kx3_5.2, iz3_6, kx3_6.1, kx3_6.2, iz3_7, kx3_7.1, kx3_7.2, iz3_8, kx3_8.1, kx3_8.2, iz3_9, kx3_9.1, kx3_9.2, iz3_10, kx3_10.1, kx3_10.2, iz3_11, kx3_11.1, kx3_11.2, iz4_0, kx4_0.1, kx4_0.2, iz4_1, kx4_1.1, kx4_1.2, iz4_2, kx4_2.1, kx4_2.2, iz4_3, kx4_3.1, kx4_3.2, iz4_4, kx4_4.1, kx4_4.2, iz4_5, kx4_5.1, kx4_5.2, iz4_6, kx4_6.1, kx4_6.2, iz4_7, kx4_7.1, kx4_7.2, iz4_8, kx4_8.1, kx4_8.2, iz4_9, kx4_9.1, kx4_9.2, iz4_10, kx4_10.1, kx4_10.2, iz4_11, kx4_11.1, kx4_11.2, iz5_0, kx5_0.1, kx5_0.2, iz5_1, kx5_1.1, kx5_1.2, iz5_2, kx5_2.1, kx5_2.2, iz5_3, kx5_3.1, kx5_3.2, iz5_4, kx5_4.1, kx5_4.2, iz5_5, kx5_5.1, kx5_5.2, iz5_6, kx5_6.1, kx5_6.2, iz5_7, kx5_7.1, kx5_7.2, iz5_8, kx5_8.1, kx5_8.2, iz5_9, kx5_9.1, kx5_9.2, iz5_10, kx5_10.1, kx5_10.2, iz5_11, kx5_11.1, kx5_11.2, iz6_0, kx6_0.1, kx6_0.2, iz6_1, kx6_1.1, kx6_1.2, iz6_2, kx6_2.1, kx6_2.2, iz6_3, kx6_3.1, kx6_3.2, iz6_4, kx6_4.1, kx6_4.2, iz6_5, kx6_5.1, kx6_5.2, iz6_6, kx6_6.1, kx6_6.2, iz6_7, kx6_7.1, kx6_7.2, iz6_8, kx6_8.1, kx6_8.2, iz6_9, kx6_9.1, kx6_9.2, iz6_10, kx6_10.1, kx6_10.2, iz6_11, kx6_11.1, kx6_11.2, iz7_0, kx7_0.1, kx7_0.2, iz7_1, kx7_1.1, kx7_1.2, iz7_2, kx7_2.1, kx7_2.2, iz7_3, kx7_3.1, kx7_3.2, iz7_4, kx7_4.1, kx7_4.2, iz7_5, kx7_5.1, kx7_5.2, iz7_6, kx7_6.1, kx7_6.2, iz7_7, kx7_7.1, kx7_7.2, iz7_8, kx7_8.1, kx7_8.2, iz7_9, kx7_9.1, kx7_9.2, iz7_10, kx7_10.1, kx7_10.2, iz7_11, kx7_11.1, kx7_11.2, iz8_0, kx8_0.1, kx8_0.2, iz8_1, kx8_1.1, kx8_1.2, iz8_2, kx8_2.1, kx8_2.2, iz8_3, kx8_3.1, kx8_3.2, iz8_4, kx8_4.1, kx8_4.2, iz8_5, kx8_5.1, kx8_5.2, iz8_6, kx8_6.1, kx8_6.2, iz8_7, kx8_7.1, kx8_7.2, iz8_8, kx8_8.1, kx8_8.2, iz8_9, kx8_9.1, kx8_9.2, iz8_10, kx8_10.1, kx8_10.2, iz8_11, kx8_11.1, kx8_11.2, iz9_0, kx9_0.1, kx9_0.2, iz9_1, kx9_1.1, kx9_1.2, iz9_2, kx9_2.1, kx9_2.2, iz9_3, kx9_3.1, kx9_3.2, iz9_4, kx9_4.1, kx9_4.2, iz9_5, kx9_5.1, kx9_5.2, iz9_6, kx9_6.1, kx9_6.2, iz9_7, kx9_7.1, kx9_7.2, iz9_8, kx9_8.1, kx9_8.2, iz9_9, kx9_9.1, kx9_9.2, iz9_10, kx9_10.1, kx9_10.2, iz9_11, kx9_11.1, kx9_11.2, iz10_0, kx10_0.1, kx10_0.2, iz10_1, kx10_1.1, kx10_1.2, iz10_2, kx10_2.1, kx10_2.2, iz10_3, kx10_3.1, kx10_3.2, iz10_4, kx10_4.1, kx10_4.2, iz10_5, kx10_5.1, kx10_5.2, iz10_6, kx10_6.1, kx10_6.2, iz10_7, kx10_7.1, kx10_7.2, iz10_8, kx10_8.1, kx10_8.2, iz10_9, kx10_9.1, kx10_9.2, iz10_10, kx10_10.1, kx10_10.2, iz10_11, kx10_11.1, kx10_11.2, iz11_0, kx11_0.1, kx11_0.2, iz11_1, kx11_1.1, kx11_1.2, iz11_2, kx11_2.1, kx11_2.2, iz11_3, kx11_3.1, kx11_3.2, iz11_4, kx11_4.1, kx11_4.2, iz11_5, kx11_5.1, kx11_5.2, iz11_6, kx11_6.1, kx11_6.2, iz11_7, kx11_7.1, kx11_7.2, iz11_8, kx11_8.1, kx11_8.2, iz11_9, kx11_9.1, kx11_9.2, iz11_10, kx11_10.1, kx11_10.2, iz11_11, kx11_11.1, kx11_11.2]
  have Y : Ecs exNames K mg := ecs_of (cs := [("PlaitError", E0), ("NotADrawing", E1), ("NoCrossing", E2), ("TooBig", E3), ("NoUnit", E4), ("NotClosed", E5), ("NoFit", E6), ("TooMuch", E7), ("NoMove", E8), ("NoChain", E9), ("NoPrime", E10), ("NoLine", E11)]) y0 (fun p hp => by
    simp only [List.mem_cons, List.not_mem_nil, or_false] at hp
    rcases hp with rfl | rfl | rfl | rfl | rfl | rfl | rfl | rfl | rfl | rfl | rfl | rfl
    · exact PySem.W.mg_of X G x0
    · exact PySem.W.mg_of X G x1
    · exact PySem.W.mg_of X G x2
    · exact PySem.W.mg_of X G x3
    · exact PySem.W.mg_of X G x4
    · exact PySem.W.mg_of X G x5
    · exact PySem.W.mg_of X G x6
    · exact PySem.W.mg_of X G x7
    · exact PySem.W.mg_of X G x8
    · exact PySem.W.mg_of X G x9
    · exact PySem.W.mg_of X G x10
    · exact PySem.W.mg_of X G x11)
  have Z : Blt mg := ⟨N z1, N z2, N z3, N z4, N z5, N z6, N z7⟩
  have N1 : XI K mg "NotADrawing" "fault" := xi_mk (st := s_i1) (PySem.W.mg_of X G x1) na1 ya0 nb1 nc1 nd1 ne1 nf1 ng1 nh1 ni1 sc_i1 (by intros; rfl) (fun Y _ _ _ _ _ _ _ _ _ => pss_one (ps_fldX Y (pv 0) (pv 1) rfl))
  have N2 : XI K mg "NoChain" "at" := xi_mk (st := s_i2) (PySem.W.mg_of X G x9) na2 ya0 nb2 nc2 nd2 ne2 nf2 ng2 nh2 ni2 sc_i2 (by intros; rfl) (fun Y _ _ _ _ _ _ _ _ _ => pss_one (ps_fldX Y (pv 0) (pv 1) rfl))
  refine ⟨PySem.W.fnOf "law" "law" (defArgs s_law) (defBody s_law) (defScope s_law) .none kV dc pm an cd ct, fun s v => .of_eq rfl, fun base _ _ => ?_⟩
  have g_cell := ok_cell (P := l.prog) (w := w) (base := base) D1  Y N1 N2 Z
  have g_mix := ok_mix (P := l.prog) (w := w) (base := base) D2  Y N1 N2 Z
  have g_row := ok_row (P := l.prog) (w := w) (base := base) D3 g_cell g_mix Y N1 N2 Z
  have g_wrong := ok_wrong (P := l.prog) (w := w) (base := base) D8  Y N1 N2 Z
  have g_thrown := ok_thrown (P := l.prog) (w := w) (base := base) D5  Y N1 N2 Z
  have g_is_whole := ok_is_whole (P := l.prog) (w := w) (base := base) D4  Y N1 N2 Z
  have g_fields := ok_fields (P := l.prog) (w := w) (base := base) D7 g_thrown g_is_whole Y N1 N2 Z
  have g_sorts := ok_sorts (P := l.prog) (w := w) (base := base) D6 g_thrown Y N1 N2 Z
  exact ok_law (P := l.prog) (w := w) (base := base) (fun_mk (st := s_law) l0 c k) g_row g_wrong g_fields g_sorts Y N1 N2 Z
theorem walk {l : PySem.W.OpenLaw} {q : Program} {loose : List Str} {XP : (Str → Option Value) → Heap → Prop} {YP : World → Heap → Prop} {d : DefRec} {K : Params → PySem.W.Frag} (hn : l.most = some 63) (hdf : d.params.defaults = [])
    (hY : ∀ (w : World) (h : Heap), YP w h → (K w.params).In h)
    (F : ∀ (w : World) (mg : Str → Option Value) (fa : Addr) (h : Heap), (K w.params).In h → h.Ns mainGlobals mg → mg d.name = some (.ref fa) →
      ∃ fd : FuncData, (∀ (s : Shared) (u : Value), BindsTo s fd ⟨[u], []⟩ [("_law_script", u)]) ∧ ∀ base : Heap, (K w.params).In base → base.Ns mainGlobals mg → FnOk l.prog w (K w.params) mg base CX0 5 fa fd ["_law_script"] (sp1 (rL rInt) (oF rBool) m_law (K w.params))) :
    PySem.W.WalkO q loose XP YP l.row.toRowW d [] (fun f vs => PySem.call f vs) :=
  L2.walk_of (n := 63) (k := 5) (x := "_law_script") (CX := fun _ => CX0) (sp := fun w => sp1 (rL rInt) (oF rBool) m_law (K w.params)) hn (by decide) hdf ⟨rfl, by decide, by decide⟩ hY F (fun _ _ a ns hl _ hS => ⟨.ref a, ns, true, rfl, ⟨a, _, rfl, hS, paired_ints ns⟩, law_true ns hl, fun v C H' w m ho => ho.2⟩) fun _ _ _ _ _ z => z
end My
open PySem PySem.W PyProof.Rows
set_option maxRecDepth 100000 in
set_option maxHeartbeats 0 in
theorem PySem.Challenge.cw_plait_k17_refusals_holds : PySem.Challenge.rw_plait_k17_refusals.Holds := by
  w_on; o_law; k_head; (case hw => w_witness2)
  k_fill
  refine My.walk (l := PySem.Challenge.rw_plait_k17_refusals) rfl rfl (fun w h Y => PySem.W.kIn_of Y) ?F
  case F =>
    intro w mg fa h KX G hmg
    refine' My.all_mk KX G hmg (My.dmk2 KX G (by intros; rfl) ?a1 ?l1 ?c1 ?k1) (My.dmk2 KX G (by intros; rfl) ?a2 ?l2 ?c2 ?k2) (My.dmk3 KX G (by intros; rfl) ?a3 ?l3 ?c3 ?k3) (My.dmk1 KX G (by intros; rfl) ?a4 ?l4 ?c4 ?k4) (My.dmk3 KX G (by intros; rfl) ?a5 ?l5 ?c5 ?k5) (My.dmk3 KX G (by intros; rfl) ?a6 ?l6 ?c6 ?k6) (My.dmk2 KX G (by intros; rfl) ?a7 ?l7 ?c7 ?k7) (My.dmk1 KX G (by intros; rfl) ?a8 ?l8 ?c8 ?k8) ?a9 ?l9 ?c9 ?k9 ?z1 ?z2 ?z3 ?z4 ?z5 ?z6 ?z7 ?x0 ?x1 ?x2 ?x3 ?x4 ?x5 ?x6 ?x7 ?x8 ?x9 ?x10 ?x11 ?yg ?yt ?ya0 ?yb0 ?yc0 ?yd0 ?ye0 ?yf0 ?yh0 ?yi0 ?yj0 ?yk0 ?yb1 ?yc1 ?yd1 ?ye1 ?yf1 ?yh1 ?yi1 ?yj1 ?yk1 ?ya2 ?yb2 ?yc2 ?yd2 ?ye2 ?yf2 ?yh2 ?yi2 ?yj2 ?yk2 ?ya3 ?yb3 ?yc3 ?yd3 ?ye3 ?yf3 ?yh3 ?yi3 ?yj3 ?yk3 ?ya4 ?yb4 ?yc4 ?yd4 ?ye4 ?yf4 ?yh4 ?yi4 ?yj4 ?yk4 ?ya5 ?yb5 ?yc5 ?yd5 ?ye5 ?yf5 ?yh5 ?yi5 ?yj5 ?yk5 ?ya6 ?yb6 ?yc6 ?yd6 ?ye6 ?yf6 ?yh6 ?yi6 ?yj6 ?yk6 ?ya7 ?yb7 ?yc7 ?yd7 ?ye7 ?yf7 ?yh7 ?yi7 ?yj7 ?yk7 ?ya8 ?yb8 ?yc8 ?yd8 ?ye8 ?yf8 ?yh8 ?yi8 ?yj8 ?yk8 ?yb9 ?yc9 ?yd9 ?ye9 ?yf9 ?yh9 ?yi9 ?yj9 ?yk9 ?ya10 ?yb10 ?yc10 ?yd10 ?ye10 ?yf10 ?yh10 ?yi10 ?yj10 ?yk10 ?ya11 ?yb11 ?yc11 ?yd11 ?ye11 ?yf11 ?yh11 ?yi11 ?yj11 ?yk11 ?yl0_0 ?yl0_1 ?yl0_2 ?yl0_3 ?yl0_4 ?yl0_5 ?yl0_6 ?yl0_7 ?yl0_8 ?yl0_9 ?yl0_10 ?yl0_11 ?yl1_0 ?yl1_1 ?yl1_2 ?yl1_3 ?yl1_4 ?yl1_5 ?yl1_6 ?yl1_7 ?yl1_8 ?yl1_9 ?yl1_10 ?yl1_11 ?yl2_0 ?yl2_1 ?yl2_2 ?yl2_3 ?yl2_4 ?yl2_5 ?yl2_6 ?yl2_7 ?yl2_8 ?yl2_9 ?yl2_10 ?yl2_11 ?yl3_0 ?yl3_1 ?yl3_2 ?yl3_3 ?yl3_4 ?yl3_5 ?yl3_6 ?yl3_7 ?yl3_8 ?yl3_9 ?yl3_10 ?yl3_11 ?yl4_0 ?yl4_1 ?yl4_2 ?yl4_3 ?yl4_4 ?yl4_5 ?yl4_6 ?yl4_7 ?yl4_8 ?yl4_9 ?yl4_10 ?yl4_11 ?yl5_0 ?yl5_1 ?yl5_2 ?yl5_3 ?yl5_4 ?yl5_5 ?yl5_6 ?yl5_7 ?yl5_8 ?yl5_9 ?yl5_10 ?yl5_11 ?yl6_0 ?yl6_1 ?yl6_2 ?yl6_3 ?yl6_4 ?yl6_5 ?yl6_6 ?yl6_7 ?yl6_8 ?yl6_9 ?yl6_10 ?yl6_11 ?yl7_0 ?yl7_1 ?yl7_2 ?yl7_3 ?yl7_4 ?yl7_5 ?yl7_6 ?yl7_7 ?yl7_8 ?yl7_9 ?yl7_10 ?yl7_11 ?yl8_0 ?yl8_1 ?yl8_2 ?yl8_3 ?yl8_4 ?yl8_5 ?yl8_6 ?yl8_7 ?yl8_8 ?yl8_9 ?yl8_10 ?yl8_11 ?yl9_0 ?yl9_1 ?yl9_2 ?yl9_3 ?yl9_4 ?yl9_5 ?yl9_6 ?yl9_7 ?yl9_8 ?yl9_9 ?yl9_10 ?yl9_11 ?yl10_0 ?yl10_1 ?yl10_2 ?yl10_3 ?yl10_4 ?yl10_5 ?yl10_6 ?yl10_7 ?yl10_8 ?yl10_9 ?yl10_10 ?yl10_11 ?yl11_0 ?yl11_1 ?yl11_2 ?yl11_3 ?yl11_4 ?yl11_5 ?yl11_6 ?yl11_7 ?yl11_8 ?yl11_9 ?yl11_10 ?yl11_11 ?na1 ?nb1 ?nc1 ?nd1 ?ne1 ?nf1 ?ng1 ?nh1 ?ni1 ?na2 ?nb2 ?nc2 ?nd2 ?ne2 ?nf2 ?ng2 ?nh2 ?ni2
    (case a1 => k_is); (case l1 => k_is); (case c1 => k_is); (case k1 => k_is); (case a2 => k_is); (case l2 => k_is); (case c2 => k_is); (case k2 => k_is); (case a3 => k_is); (case l3 => k_is); (case c3 => k_is); (case k3 => k_is); (case a4 => k_is); (case l4 => k_is); (case c4 => k_is); (case k4 => k_is); (case a5 => k_is); (case l5 => k_is); (case c5 => k_is); (case k5 => k_is); (case a6 => k_is); (case l6 => k_is); (case c6 => k_is); (case k6 => k_is); (case a7 => k_is); (case l7 => k_is); (case c7 => k_is); (case k7 => k_is); (case a8 => k_is); (case l8 => k_is); (case c8 => k_is); (case k8 => k_is); (case a9 => k_is); (case l9 => k_is); (case c9 => k_is); (case k9 => k_is); (case z1 => k_is); (case z2 => k_is); (case z3 => k_is); (case z4 => k_is); (case z5 => k_is); (case z6 => k_is); (case z7 => k_is); (case x0 => k_is); (case x1 => k_is); (case x2 => k_is); (case x3 => k_is); (case x4 => k_is); (case x5 => k_is); (case x6 => k_is); (case x7 => k_is); (case x8 => k_is); (case x9 => k_is); (case x10 => k_is); (case x11 => k_is); (case yg => k_is); (case yt => k_is); (case ya0 => k_exc); (case yb0 => k_is); (case yc0 => k_is); (case yd0 => k_is); (case ye0 => k_is); (case yf0 => k_is); (case yh0 => k_is); (case yi0 => k_is); (case yj0 => k_is); (case yk0 => k_is); (case yb1 => k_is); (case yc1 => k_is); (case yd1 => k_is); (case ye1 => k_is); (case yf1 => k_is); (case yh1 => k_is); (case yi1 => k_is); (case yj1 => k_is); (case yk1 => k_is); (case ya2 => k_exc); (case yb2 => k_is); (case yc2 => k_is); (case yd2 => k_is); (case ye2 => k_is); (case yf2 => k_is); (case yh2 => k_is); (case yi2 => k_is); (case yj2 => k_is); (case yk2 => k_is); (case ya3 => k_exc); (case yb3 => k_is); (case yc3 => k_is); (case yd3 => k_is); (case ye3 => k_is); (case yf3 => k_is); (case yh3 => k_is); (case yi3 => k_is); (case yj3 => k_is); (case yk3 => k_is); (case ya4 => k_exc); (case yb4 => k_is); (case yc4 => k_is); (case yd4 => k_is); (case ye4 => k_is); (case yf4 => k_is); (case yh4 => k_is); (case yi4 => k_is); (case yj4 => k_is); (case yk4 => k_is); (case ya5 => k_exc); (case yb5 => k_is); (case yc5 => k_is); (case yd5 => k_is); (case ye5 => k_is); (case yf5 => k_is); (case yh5 => k_is); (case yi5 => k_is); (case yj5 => k_is); (case yk5 => k_is); (case ya6 => k_exc); (case yb6 => k_is); (case yc6 => k_is); (case yd6 => k_is); (case ye6 => k_is); (case yf6 => k_is); (case yh6 => k_is); (case yi6 => k_is); (case yj6 => k_is); (case yk6 => k_is); (case ya7 => k_exc); (case yb7 => k_is); (case yc7 => k_is); (case yd7 => k_is); (case ye7 => k_is); (case yf7 => k_is); (case yh7 => k_is); (case yi7 => k_is); (case yj7 => k_is); (case yk7 => k_is); (case ya8 => k_exc); (case yb8 => k_is); (case yc8 => k_is); (case yd8 => k_is); (case ye8 => k_is); (case yf8 => k_is); (case yh8 => k_is); (case yi8 => k_is); (case yj8 => k_is); (case yk8 => k_is); (case yb9 => k_is); (case yc9 => k_is); (case yd9 => k_is); (case ye9 => k_is); (case yf9 => k_is); (case yh9 => k_is); (case yi9 => k_is); (case yj9 => k_is); (case yk9 => k_is); (case ya10 => k_exc); (case yb10 => k_is); (case yc10 => k_is); (case yd10 => k_is); (case ye10 => k_is); (case yf10 => k_is); (case yh10 => k_is); (case yi10 => k_is); (case yj10 => k_is); (case yk10 => k_is); (case ya11 => k_exc); (case yb11 => k_is); (case yc11 => k_is); (case yd11 => k_is); (case ye11 => k_is); (case yf11 => k_is); (case yh11 => k_is); (case yi11 => k_is); (case yj11 => k_is); (case yk11 => k_is); (case yl0_0 => k_is); (case yl0_1 => k_is); (case yl0_2 => k_is); (case yl0_3 => k_is); (case yl0_4 => k_is); (case yl0_5 => k_is); (case yl0_6 => k_is); (case yl0_7 => k_is); (case yl0_8 => k_is); (case yl0_9 => k_is); (case yl0_10 => k_is); (case yl0_11 => k_is); (case yl1_0 => k_is); (case yl1_1 => k_is); (case yl1_2 => k_is); (case yl1_3 => k_is); (case yl1_4 => k_is); (case yl1_5 => k_is); (case yl1_6 => k_is); (case yl1_7 => k_is); (case yl1_8 => k_is); (case yl1_9 => k_is); (case yl1_10 => k_is); (case yl1_11 => k_is); (case yl2_0 => k_is); (case yl2_1 => k_is); (case yl2_2 => k_is); (case yl2_3 => k_is); (case yl2_4 => k_is); (case yl2_5 => k_is); (case yl2_6 => k_is); (case yl2_7 => k_is); (case yl2_8 => k_is); (case yl2_9 => k_is); (case yl2_10 => k_is); (case yl2_11 => k_is); (case yl3_0 => k_is); (case yl3_1 => k_is); (case yl3_2 => k_is); (case yl3_3 => k_is); (case yl3_4 => k_is); (case yl3_5 => k_is); (case yl3_6 => k_is); (case yl3_7 => k_is); (case yl3_8 => k_is); (case yl3_9 => k_is); (case yl3_10 => k_is); (case yl3_11 => k_is); (case yl4_0 => k_is); (case yl4_1 => k_is); (case yl4_2 => k_is); (case yl4_3 => k_is); (case yl4_4 => k_is); (case yl4_5 => k_is); (case yl4_6 => k_is); (case yl4_7 => k_is); (case yl4_8 => k_is); (case yl4_9 => k_is); (case yl4_10 => k_is); (case yl4_11 => k_is); (case yl5_0 => k_is); (case yl5_1 => k_is); (case yl5_2 => k_is); (case yl5_3 => k_is); (case yl5_4 => k_is); (case yl5_5 => k_is); (case yl5_6 => k_is); (case yl5_7 => k_is); (case yl5_8 => k_is); (case yl5_9 => k_is); (case yl5_10 => k_is); (case yl5_11 => k_is); (case yl6_0 => k_is); (case yl6_1 => k_is); (case yl6_2 => k_is); (case yl6_3 => k_is); (case yl6_4 => k_is); (case yl6_5 => k_is); (case yl6_6 => k_is); (case yl6_7 => k_is); (case yl6_8 => k_is); (case yl6_9 => k_is); (case yl6_10 => k_is); (case yl6_11 => k_is); (case yl7_0 => k_is); (case yl7_1 => k_is); (case yl7_2 => k_is); (case yl7_3 => k_is); (case yl7_4 => k_is); (case yl7_5 => k_is); (case yl7_6 => k_is); (case yl7_7 => k_is); (case yl7_8 => k_is); (case yl7_9 => k_is); (case yl7_10 => k_is); (case yl7_11 => k_is); (case yl8_0 => k_is); (case yl8_1 => k_is); (case yl8_2 => k_is); (case yl8_3 => k_is); (case yl8_4 => k_is); (case yl8_5 => k_is); (case yl8_6 => k_is); (case yl8_7 => k_is); (case yl8_8 => k_is); (case yl8_9 => k_is); (case yl8_10 => k_is); (case yl8_11 => k_is); (case yl9_0 => k_is); (case yl9_1 => k_is); (case yl9_2 => k_is); (case yl9_3 => k_is); (case yl9_4 => k_is); (case yl9_5 => k_is); (case yl9_6 => k_is); (case yl9_7 => k_is); (case yl9_8 => k_is); (case yl9_9 => k_is); (case yl9_10 => k_is); (case yl9_11 => k_is); (case yl10_0 => k_is); (case yl10_1 => k_is); (case yl10_2 => k_is); (case yl10_3 => k_is); (case yl10_4 => k_is); (case yl10_5 => k_is); (case yl10_6 => k_is); (case yl10_7 => k_is); (case yl10_8 => k_is); (case yl10_9 => k_is); (case yl10_10 => k_is); (case yl10_11 => k_is); (case yl11_0 => k_is); (case yl11_1 => k_is); (case yl11_2 => k_is); (case yl11_3 => k_is); (case yl11_4 => k_is); (case yl11_5 => k_is); (case yl11_6 => k_is); (case yl11_7 => k_is); (case yl11_8 => k_is); (case yl11_9 => k_is); (case yl11_10 => k_is); (case yl11_11 => k_is); (case na1 => k_is); (case nb1 => k_is); (case nc1 => k_is); (case nd1 => k_is); (case ne1 => k_is); (case nf1 => k_is); (case ng1 => k_is); (case nh1 => k_is); (case ni1 => k_is); (case na2 => k_is); (case nb2 => k_is); (case nc2 => k_is); (case nd2 => k_is); (case ne2 => k_is); (case nf2 => k_is); (case ng2 => k_is); (case nh2 => k_is); (case ni2 => k_is)
