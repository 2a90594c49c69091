import PyProof.Rows.All
import Wide.All
import OpenK.AllK
import Wide.FinOn
import Lean
import PyProof.EqAt
import PyProof.EqKinds
import PyProof.TupleCall
import PySem.Challenge.RW_plait_k51_what_fits
set_option Elab.async false
set_option linter.all false
set_option maxRecDepth 100000
namespace L2
open PySem PySem.Spec PyProof.Rows
noncomputable abbrev Key := Sum Int Str
noncomputable def GZ : Key -> Value -> Bool
  | .inl k, v => Value.isInt k v
  | .inr x, v => Value.isStrOf x v
noncomputable def ID (w : World) : Key -> Int
  | .inl k => hashInt k
  | .inr x => hashStr w x
theorem YA : ∀ {k : Key} {v : Value}, GZ k v = true -> (∃ i t, k = Sum.inl i /\ v = Value.int i t) ∨ (∃ x t, k = Sum.inr x /\ v = Value.str x t)
  | .inl i, v, h => by
    obtain ⟨t, e⟩ := Value.isInt_shape (k := i) (v := v) h
    exact .inl ⟨i, t, rfl, e⟩
  | .inr x, v, h => by
    obtain ⟨t, e⟩ := Value.isStrOf_shape (x := x) (v := v) h
    exact .inr ⟨x, t, rfl, e⟩
theorem Dz (i : Int) (t : Tok) : GZ (.inl i) (.int i t) = true := by simp [GZ, Value.isInt]
theorem Dn (x : Str) (t : Tok) : GZ (.inr x) (.str x t) = true := by simp [GZ, Value.isStrOf]
theorem Hs (a b : Int) : decide ((Sum.inl a : Key) = Sum.inl b) = (a == b) := by
  by_cases e : a = b
  · subst e; simp
  · have h : ¬ (Sum.inl a : Key) = Sum.inl b := fun q => e (Sum.inl.inj q)
    rw [decide_eq_false h]
    exact (beq_eq_false_iff_ne.mpr e).symm
theorem EX (a b : Str) : decide ((Sum.inr a : Key) = Sum.inr b) = decide (a = b) := by
  by_cases e : a = b
  · subst e; simp
  · have h : ¬ (Sum.inr a : Key) = Sum.inr b := fun q => e (Sum.inr.inj q)
    rw [decide_eq_false h, decide_eq_false e]
theorem EW (a : Int) (b : Str) : decide ((Sum.inl a : Key) = Sum.inr b) = false := decide_eq_false (fun q => nomatch q)
theorem E9 (a : Str) (b : Int) : decide ((Sum.inr a : Key) = Sum.inl b) = false := decide_eq_false (fun q => nomatch q)
noncomputable def Y7 (prog : Program) (w : World) : PySem.KeyKind prog w Key where
  is := GZ
  hash := ID w
  inj := fun v a b ha hb => by
    rcases YA ha with ⟨i, t, rfl, rfl⟩ | ⟨x, t, rfl, rfl⟩
    · rcases YA hb with ⟨j, u, rfl, e⟩ | ⟨y, u, rfl, e⟩
      · injection e with e1 _; rw [e1]
      · exact nomatch e
    · rcases YA hb with ⟨j, u, rfl, e⟩ | ⟨y, u, rfl, e⟩
      · exact nomatch e
      · injection e with e1 _; rw [e1]
  byValue := fun k v h => by
    rcases YA h with ⟨i, t, rfl, rfl⟩ | ⟨x, t, rfl, rfl⟩ <;> rfl
  pyHash := fun hv h => by
    rcases YA hv with ⟨i, t, rfl, rfl⟩ | ⟨x, t, rfl, rfl⟩
    · exact wpAny_pyHash_int h
    · exact wpAny_pyHash_str h
  eqBool := fun hu hv h => by
    rcases YA hu with ⟨i, t, rfl, rfl⟩ | ⟨x, t, rfl, rfl⟩
    · rcases YA hv with ⟨j, u, rfl, rfl⟩ | ⟨y, u, rfl, rfl⟩
      · rw [Hs] at h; exact wpAny_eqBool_int h
      · rw [EW] at h; exact SeqAt.EqAt.int_str i t y u _ _ _ _ h
    · rcases YA hv with ⟨j, u, rfl, rfl⟩ | ⟨y, u, rfl, rfl⟩
      · rw [E9] at h; exact SeqAt.EqAt.str_int x t j u _ _ _ _ h
      · rw [EX] at h; exact wpAny_eqBool_str h
  «strs» := fun k x t v h => by
    rcases YA h with ⟨i, u, rfl, e⟩ | ⟨y, u, rfl, e⟩
    · exact nomatch e
    · injection e with e1 _
      subst e1
      cases v <;> rfl
theorem KR (prog : Program) (w : World) (i : Int) (t : Tok) : (Y7 prog w).is (.inl i) (.int i t) = true := Dz i t
theorem KH (prog : Program) (w : World) (x : Str) (t : Tok) : (Y7 prog w).is (.inr x) (.str x t) = true := Dn x t
end L2
namespace L2
open PySem PySem.Spec PyProof.Rows
inductive V where
  | non | bl (b : Bool) | int (i : Int) | str (x : Str) | byt (b : Array UInt8) | flt (b : UInt64) | ref (a : Addr) | ty (n : String)
  deriving DecidableEq
noncomputable def Yt : V -> Value -> Prop
  | .non, u => u = Value.none
  | .bl b, u => u = Value.bool b
  | .int i, u => ∃ t, u = Value.int i t
  | .str x, u => ∃ t, u = Value.str x t
  | .byt b, u => ∃ t, u = Value.bytes b t
  | .flt b, u => ∃ t, u = Value.float b t
  | .ref a, u => u = Value.ref a
  | .ty n, u => u = Value.type n
noncomputable abbrev Yl : List V -> List Value -> Prop := Paired Yt
theorem Yl.length {xs : List V} {us : List Value} (r : Yl xs us) : xs.length = us.length := Paired.length r
theorem Yl.get : ∀ {xs : List V} {us : List Value} {i : Nat} {x : V}, Yl xs us -> xs[i]? = some x -> ∃ u, us[i]? = some u /\ Yt x u
  | _, _, _, _, .nil, e => by simp at e
  | _, _, 0, _, .cons r _, e => by simp at e; subst e; exact ⟨_, rfl, r⟩
  | _, _, i + 1, x, .cons _ t, e => by
    obtain ⟨u, h1, h2⟩ := Yl.get (i := i) (x := x) t (by simpa using e)
    exact ⟨u, by simpa using h1, h2⟩
theorem Yl.set {x : V} {u : Value} (r : Yt x u) : ∀ {xs : List V} {us : List Value} (i : Nat), Yl xs us -> Yl (xs.set i x) (us.set i u)
  | _, _, _, .nil => .nil
  | _, _, 0, .cons _ t => .cons r t
  | _, _, i + 1, .cons q t => .cons q (Yl.set r i t)
theorem Yl.append : ∀ {xs ys : List V} {us ws : List Value}, Yl xs us -> Yl ys ws -> Yl (xs ++ ys) (us ++ ws)
  | _, _, _, _, .nil, s => s
  | _, _, _, _, .cons r t, s => .cons r (Yl.append t s)
theorem Yl.take : ∀ {xs : List V} {us : List Value} (n : Nat), Yl xs us -> Yl (xs.take n) (us.take n)
  | _, _, 0, _ => .nil
  | _, _, _ + 1, .nil => .nil
  | _, _, n + 1, .cons r t => .cons r (Yl.take n t)
theorem Yl.drop : ∀ {xs : List V} {us : List Value} (n : Nat), Yl xs us -> Yl (xs.drop n) (us.drop n)
  | _, _, 0, r => r
  | _, _, _ + 1, .nil => .nil
  | _, _, n + 1, .cons _ t => Yl.drop n t
noncomputable def GE : Option V -> Option Value -> Prop
  | some v, some u => Yt v u
  | none, none => True
  | _, _ => False
noncomputable def KV {κ : Type} : List (κ × V) -> List (κ × Value) -> Prop := Paired fun (p : κ × V) (q : κ × Value) => p.1 = q.1 /\ Yt p.2 q.2
noncomputable def kV : Key -> V
  | .inl i => .int i
  | .inr x => .str x
inductive HO where
  /-- a list -/
  | lst (xs : List V)
  /-- a tuple (never changes) -/
  | tup (xs : List V)
  /-- a dict whose keys are ints and texts; one whose keys are tuples of ints and texts (the empty one is both) -/
  | dK (kvs : List (Key × V)) | dT (kvs : List (List Key × V))
  /-- a set of ints: its members, its size -/
  | set (S : Int -> Bool) (n : Nat)
  /-- an instance of the class at C, its dict at dx, its attributes -/
  | ins (C dx : Addr) (fs : List (Str × V))
  /-- the dict of the instance at x -/
  | own (x : Addr)
  /-- the dict of an exception -/
  | xd (fs : List (Str × V))
  /-- a bound method, f of x -/
  | met (f x : Addr)
  /-- a range object lo, lo + 1, .. below hi -/
  | rng (lo hi : Int)
  /-- a thing that is known to the object (the script; a dict while a loop walks it): read, never written while it is so -/
  | frz (o : Obj) (u : HO)
  /-- a code object's table -/
  | tbl (ps : Array Value)
  /-- any other thing, by what is true of its one object (a def of one's own: SetO a S n := HO.ext fun h => ..) -/
  | ext (φ : Heap -> Prop)
noncomputable abbrev Hp := Addr -> Option HO
noncomputable def upd (H : Hp) (a : Addr) (o : HO) : Hp := fun b => if b = a then some o else H b
theorem YQ {H : Hp} {a : Addr} {o : HO} : upd H a o a = some o := by unfold upd; rw [if_pos rfl]
theorem XR {H : Hp} {a b : Addr} {o : HO} (h : b ≠ a) : upd H a o b = H b := by unfold upd; rw [if_neg h]
theorem H9 {H : Hp} {a b : Addr} {o u : HO} (h : H a = some o) (h' : H b = some u) (d : o ≠ u) : a ≠ b := by
  intro e; subst e; rw [h] at h'; exact d (Option.some.inj h')
theorem XT {H : Hp} {a b : Addr} {o : HO} (h : H a = some o) (h' : H b = none) : a ≠ b := by
  intro e; subst e; rw [h] at h'; cases h'
section
variable (P : Program) (w : World)
noncomputable def Y3 (H : Hp) (h : Heap) (a : Addr) : HO -> Prop
  | .lst xs => xs.length <= sizeLine /\ ∃ (its : List Value) (n : Nat), Yl xs its /\ h.get? a = some { cls := .type "list", data := .seq its.toArray n }
  | .tup xs => xs.length <= sizeLine /\ ∃ its : List Value, Yl xs its /\ IsTup h a its.toArray
  | .dK kvs => kvs.length <= sizeLine /\ (a == sysModules) = false /\ ∃ vs, KV kvs vs /\ h.DictOf (Y7 P w) a vs
  | .dT kvs => kvs.length <= sizeLine /\ (a == sysModules) = false /\ ∃ xs : List (List Key × Addr × Value),
      Paired (fun (p : List Key × V) (q : List Key × Addr × Value) => p.1 = q.1 /\ H q.2.1 = some (.tup (p.1.map kV)) /\ Yt p.2 q.2.2) kvs xs /\
      ∃ o es ep, h.get? a = some o /\ o.ExactDict /\ o.data = .dict es ep /\ es.toList = xs.map (entryOfKey (tupleKind (Y7 P w))) /\ (xs.map (·.1)).Nodup
  | .set S n => h.SetOf (intKind P w) a S n
  | .ins C dx fs => H dx = some (.own a) /\ fs.length <= 1000 /\ dx ≠ a /\ h.get? a = some (PySem.W.instObj C dx) /\
      ∃ mA, h.Ns1 dx mA /\ (∀ f, GE (fs.lookup f) (mA f)) /\ PySem.Within mA (fs.map (·.1))
  | .own _ => ∃ o, h.get? a = some o
  | .xd fs => ∃ mA, h.Ns1 a mA /\ ∀ f, GE (fs.lookup f) (mA f)
  | .rng lo hi => ∃ t u v, h.get? a = some { cls := .type "range", data := .fields #[.int lo t, .int hi u, .int 1 v] }
  | .frz o u => h.get? a = some o /\ Y3 H h a u
  | .tbl ps => h.get? a = some { cls := .none, data := .fields ps }
  | .met f x => h.get? a = some (PySem.W.methodObj (.ref f) (.ref x))
  | .ext φ => φ h /\ (∃ o, h.get? a = some o) /\ ∀ h1 h2 : Heap, φ h1 -> (∀ o, h1.get? a = some o -> h2.get? a = some o) -> φ h2
noncomputable def HOk (H : Hp) (h : Heap) : Prop := ∀ a o, H a = some o -> Y3 P w H h a o
end
section
variable {P : Program} {w : World} {H H' : Hp} {h h' : Heap} {a : Addr} {o : HO}
theorem Y3.lt (x : Y3 P w H h a o) : a < h.objs.size := by
  cases o with
  | lst xs => obtain ⟨_, _, _, _, e⟩ := x; exact Heap.lt_size e
  | tup xs => obtain ⟨_, _, _, p⟩ := x; exact p.lt
  | dK kvs => obtain ⟨_, _, _, _, o, _, _, e, _⟩ := x; exact Heap.lt_size e
  | dT kvs => obtain ⟨_, _, _, _, o, _, _, e, _⟩ := x; exact Heap.lt_size e
  | set S n => obtain ⟨o, _, _, _, e, _⟩ := x; exact Heap.lt_size e
  | ins C dx fs => obtain ⟨_, _, _, e, _⟩ := x; exact Heap.lt_size e
  | own y => obtain ⟨_, e⟩ := x; exact Heap.lt_size e
  | xd fs => obtain ⟨_, ⟨_, _, _, e, _⟩, _⟩ := x; exact Heap.lt_size e
  | rng lo hi => obtain ⟨_, _, _, e⟩ := x; exact Heap.lt_size e
  | frz ob u => obtain ⟨e, _⟩ := x; exact Heap.lt_size e
  | tbl ps => exact Heap.lt_size (show h.get? a = some _ from x)
  | met f y => exact Heap.lt_size (show h.get? a = some _ from x)
  | ext φ => obtain ⟨_, ⟨_, e⟩, _⟩ := x; exact Heap.lt_size e
theorem Paired.mapP {α β : Type} {F G : α -> β -> Prop} : ∀ {l₁ : List α} {l₂ : List β}, Paired F l₁ l₂ -> (∀ a b, F a b -> G a b) -> Paired G l₁ l₂
  | _, _, .nil, _ => .nil
  | _, _, .cons r t, f => .cons (f _ _ r) (Paired.mapP t f)
theorem Y3.stay (x : Y3 P w H h a o) (k : ∀ b u, (b = a ∨ H b = some (.own a)) -> h.get? b = some u -> h'.get? b = some u)
    (ho : ∀ b, H b = some (.own a) -> H' b = some (.own a)) (ht : ∀ b xs, H b = some (.tup xs) -> H' b = some (.tup xs)) : Y3 P w H' h' a o := by
  induction o with
  | lst xs => obtain ⟨z, its, n, r, e⟩ := x; exact ⟨z, its, n, r, k _ _ (.inl rfl) e⟩
  | tup xs => obtain ⟨z, its, r, ob, e, c⟩ := x; exact ⟨z, its, r, ob, k _ _ (.inl rfl) e, c⟩
  | dK kvs => obtain ⟨z, y, vs, r, ob, es, ep, e, c⟩ := x; exact ⟨z, y, vs, r, ob, es, ep, k _ _ (.inl rfl) e, c⟩
  | dT kvs =>
    obtain ⟨z, y, xs, r, ob, es, ep, e, c⟩ := x
    exact ⟨z, y, xs, Paired.mapP r fun p q z => ⟨z.1, ht _ _ z.2.1, z.2.2⟩, ob, es, ep, k _ _ (.inl rfl) e, c⟩
  | set S n => obtain ⟨ob, es, ep, t, e, c⟩ := x; exact ⟨ob, es, ep, t, k _ _ (.inl rfl) e, c⟩
  | ins C dx fs =>
    obtain ⟨d, z, ne, e, mA, ⟨od, es, ep, e2, c⟩, r⟩ := x
    exact ⟨ho _ d, z, ne, k _ _ (.inl rfl) e, mA, ⟨od, es, ep, k _ _ (.inr d) e2, c⟩, r⟩
  | own y => obtain ⟨ob, e⟩ := x; exact ⟨ob, k _ _ (.inl rfl) e⟩
  | xd fs => obtain ⟨mA, ⟨od, es, ep, e, c⟩, r⟩ := x; exact ⟨mA, ⟨od, es, ep, k _ _ (.inl rfl) e, c⟩, r⟩
  | rng lo hi => obtain ⟨t, u, v, e⟩ := x; exact ⟨t, u, v, k _ _ (.inl rfl) e⟩
  | frz ob u ih => obtain ⟨e, q⟩ := x; exact ⟨k _ _ (.inl rfl) e, ih q⟩
  | tbl ps =>
    have e : h.get? a = some { cls := .none, data := .fields ps } := x
    show h'.get? a = some { cls := .none, data := .fields ps }
    exact k a _ (.inl rfl) e
  | met f y =>
    have e : h.get? a = some (PySem.W.methodObj (.ref f) (.ref y)) := x
    show h'.get? a = some (PySem.W.methodObj (.ref f) (.ref y))
    exact k a _ (.inl rfl) e
  | ext φ => obtain ⟨p, ⟨o, e⟩, st⟩ := x; exact ⟨st _ _ p fun o q => k _ _ (.inl rfl) q, ⟨o, k _ _ (.inl rfl) e⟩, st⟩
theorem HOk.lt (x : HOk P w H h) (e : H a = some o) : a < h.objs.size := (x a o e).lt
theorem HOk.fresh (x : HOk P w H h) (e : h.objs.size <= a) : H a = none := by
  cases q : H a with
  | none => rfl
  | some u => exact absurd (Nat.lt_of_lt_of_le (x.lt q) e) (Nat.lt_irrefl _)
theorem HOk.kept (x : HOk P w H h) (k : ∀ b u, h.get? b = some u -> h'.get? b = some u) : HOk P w H h' := fun a o e =>
  (x a o e).stay (fun b u _ q => k b u q) (fun _ q => q) fun _ _ q => q
theorem HOk.laid (x : HOk P w H h) (k : ∀ b u, h.get? b = some u -> h'.get? b = some u) (hp : h.objs.size <= a) (new : Y3 P w (upd H a o) h' a o) : HOk P w (upd H a o) h' := fun b u e => by
  have hn := x.fresh hp
  by_cases hb : b = a
  · subst hb; rw [YQ] at e; cases e; exact new
  · rw [XR hb] at e
    exact (x b u e).stay (fun c v _ q => k c v q) (fun c q => by rw [XR (XT q hn)]; exact q) fun c xs q => by rw [XR (XT q hn)]; exact q
end
noncomputable def Rd (H : Hp) (a : Addr) (u : HO) : Prop := H a = some u ∨ ∃ o, H a = some (.frz o u)
theorem Rd.of {H : Hp} {a : Addr} {u : HO} (h : H a = some u) : Rd H a u := .inl h
theorem Rd.ok {P : Program} {w : World} {H : Hp} {h : Heap} {a : Addr} {u : HO} (r : Rd H a u) (x : HOk P w H h) : Y3 P w H h a u := by
  rcases r with r | ⟨o, r⟩
  · exact x a u r
  · obtain ⟨_, q⟩ := x a _ r
    exact q
noncomputable def Mut : Option HO -> Prop
  | some (.lst _) => True
  | some (.dK _) => True
  | some (.dT _) => True
  | some (.set _ _) => True
  | some (.ins _ _ _) => True
  | some (.ext _) => True
  | _ => False
section
variable {P : Program} {w : World} {H : Hp} {h h' : Heap} {x e : Addr} {o' : HO}
theorem HOk.write (ok : HOk P w H h) (mu : Mut (H x)) (he : e = x ∨ H e = some (.own x)) (k : ∀ b u, b ≠ e -> h.get? b = some u -> h'.get? b = some u) (heo : ∃ u, h'.get? e = some u)
    (new : Y3 P w (upd H x o') h' x o') : HOk P w (upd H x o') h' := fun b u q => by
  have nown : ∀ c y, H c = some (.own y) -> c ≠ x := fun c y r z => by subst z; rw [r] at mu; exact mu
  have ntup : ∀ c xs, H c = some (.tup xs) -> c ≠ x := fun c xs r z => by subst z; rw [r] at mu; exact mu
  by_cases hb : b = x
  · subst hb; rw [YQ] at q; cases q; exact new
  · rw [XR hb] at q
    by_cases hbe : b = e
    · have q' : H b = some (.own x) := by
        rcases he with z | z
        · exact absurd (hbe.trans z) hb
        · rw [hbe]; exact z
      rw [q] at q'; cases q'
      obtain ⟨v, hv⟩ := heo
      exact ⟨v, by rw [hbe]; exact hv⟩
    · refine (ok b u q).stay (fun c v hc r => k c v ?_ r) (fun c r => by rw [XR (nown c b r)]; exact r) fun c xs r => by rw [XR (ntup c xs r)]; exact r
      rcases hc with rfl | hc
      · exact hbe
      · rintro rfl
        rcases he with z | z
        · exact nown c b hc z
        · rw [hc] at z; cases z; exact hb rfl
end
structure Un (fs ex : List Addr) (H H' : Hp) (h h' : Heap) : Prop where
  keep : ∀ b o, h.get? b = some o -> H b = none -> b ∉ fs -> b ∉ ex -> h'.get? b = some o
  slot : ∀ b o, h.get? b = some o -> H b = none -> b ∈ fs -> b ∉ ex -> ∃ sl, h'.get? b = some { o with slots := sl }
  free : ∀ b o, h.get? b = some o -> H b = none -> b ∉ ex -> H' b = none
  there : ∀ b o, h.get? b = some o -> b ∉ ex -> ∃ o', h'.get? b = some o'
  tups : ∀ b xs, H b = some (.tup xs) -> H' b = some (.tup xs)
  frzs : ∀ b o u, H b = some (.frz o u) -> H' b = some (.frz o u)
  tbls : ∀ b ps, H b = some (.tbl ps) -> ∃ more, H' b = some (.tbl (ps ++ more))
section
variable {fs fs' ex ex' : List Addr} {H H1 H2 : Hp} {h h1 h2 h' : Heap} {a x e : Addr} {o : HO}
theorem Un.any (u : Un fs ex H H1 h h1) {b : Addr} {ob : Obj} (q : h.get? b = some ob) (n : H b = none) (hx : b ∉ ex) : ∃ sl, h1.get? b = some { ob with slots := sl } := by
  by_cases hb : b ∈ fs
  · exact u.slot b ob q n hb hx
  · exact ⟨ob.slots, u.keep b ob q n hb hx⟩
theorem Un.trans (a : Un fs ex H H1 h h1) (b : Un fs ex H1 H2 h1 h2) : Un fs ex H H2 h h2 where
  keep := fun c ob q n hc hx => b.keep c ob (a.keep c ob q n hc hx) (a.free c ob q n hx) hc hx
  slot := fun c ob q n hc hx => by
    obtain ⟨sl, e1⟩ := a.slot c ob q n hc hx
    obtain ⟨sl', e2⟩ := b.slot c _ e1 (a.free c ob q n hx) hc hx
    exact ⟨sl', e2⟩
  free := fun c ob q n hx => by
    obtain ⟨o', e1⟩ := a.there c ob q hx
    exact b.free c o' e1 (a.free c ob q n hx) hx
  there := fun c ob q hx => by
    obtain ⟨o', e1⟩ := a.there c ob q hx
    exact b.there c o' e1 hx
  tups := fun c xs q => b.tups c xs (a.tups c xs q)
  frzs := fun c ob xs q => b.frzs c ob xs (a.frzs c ob xs q)
  tbls := fun c ps q => by
    obtain ⟨m1, e1⟩ := a.tbls c ps q
    obtain ⟨m2, e2⟩ := b.tbls c _ e1
    exact ⟨m1 ++ m2, by rw [e2, Array.append_assoc]⟩
theorem Un.kept (k : ∀ b u, h.get? b = some u -> h'.get? b = some u) : Un fs ex H H h h' :=
  ⟨fun b ob q _ _ _ => k b ob q, fun b ob q _ _ _ => ⟨ob.slots, k b ob q⟩, fun _ _ _ n _ => n, fun b ob q _ => ⟨ob, k b ob q⟩, fun _ _ q => q, fun _ _ _ q => q, fun _ ps q => ⟨#[], by rw [q]; simp⟩⟩
theorem Un.refl : Un fs ex H H h h := Un.kept fun _ _ q => q
theorem Un.laid (k : ∀ b u, h.get? b = some u -> h'.get? b = some u) (hp : h.objs.size <= a) (hn : H a = none) : Un fs ex H (upd H a o) h h' where
  keep := fun b u q _ _ _ => k b u q
  slot := fun b u q _ _ _ => ⟨u.slots, k b u q⟩
  free := fun b u q n _ => by rw [XR (Nat.ne_of_lt (Nat.lt_of_lt_of_le (Heap.lt_size q) hp))]; exact n
  there := fun b u q _ => ⟨u, k b u q⟩
  tups := fun b xs q => by rw [XR (XT q hn)]; exact q
  frzs := fun b u xs q => by rw [XR (XT q hn)]; exact q
  tbls := fun b ps q => ⟨#[], by rw [XR (XT q hn), q]; simp⟩
theorem Un.write (mu : Mut (H x)) (he : e = x ∨ H e = some (.own x)) (k : ∀ b u, b ≠ e -> h.get? b = some u -> h'.get? b = some u) (heo : ∃ u, h'.get? e = some u) : Un fs ex H (upd H x o) h h' := by
  have hx : ∀ b, H b = none -> b ≠ x := fun b n z => by subst z; rw [n] at mu; exact mu
  have hb : ∀ b, H b = none -> b ≠ e := fun b n z => by
    subst z
    rcases he with r | r
    · exact hx b n r
    · rw [n] at r; cases r
  have hm : ∀ b u, H b = some u -> ¬ Mut (some u) -> b ≠ x := fun b u q nm z => by subst z; rw [q] at mu; exact nm mu
  refine ⟨fun b u q n _ _ => k b u (hb b n) q, fun b u q n _ _ => ⟨u.slots, k b u (hb b n) q⟩, fun b u q n _ => by rw [XR (hx b n)]; exact n, fun b u q _ => ?_,
    fun b xs q => by rw [XR (hm b _ q fun z => z)]; exact q, fun b u xs q => by rw [XR (hm b _ q fun z => z)]; exact q, fun b ps q => ⟨#[], by rw [XR (hm b _ q fun z => z), q]; simp⟩⟩
  by_cases hbe : b = e
  · subst hbe; exact heo
  · exact ⟨u, k b u hbe q⟩
theorem Un.mono (u : Un fs ex H H1 h h1) (hs : ∀ b ∈ fs, b ∈ fs') (hx : ∀ b ∈ ex, b ∈ ex') : Un fs' ex' H H1 h h1 :=
  ⟨fun b ob q n hb he => u.keep b ob q n (fun z => hb (hs b z)) fun z => he (hx b z), fun _ _ q n _ he => u.any q n fun z => he (hx _ z), fun b ob q n he => u.free b ob q n fun z => he (hx b z), fun b ob q he => u.there b ob q fun z => he (hx b z), u.tups, u.frzs, u.tbls⟩
end
noncomputable def trk (h : Heap) (H : Hp) : List Addr := (List.range h.objs.size).filter fun a => (H a).isSome
noncomputable def Cg (h : Heap) (H : Hp) : Heap := PySem.W.hideAll h (trk h H)
theorem Da (h : Heap) (H : Hp) : (Cg h H).objs.size = h.objs.size := PySem.W.hideAll_size _ _
theorem K4 {h : Heap} {H : Hp} {b : Addr} {o : Obj} (e : h.get? b = some o) (n : H b = none) : (Cg h H).get? b = some o :=
  PySem.W.hideAll_get _ e fun hm => by
    have q : (H b).isSome = true := (List.mem_filter.mp hm).2
    rw [n] at q; simp at q
theorem Bs {h : Heap} {H : Hp} {b : Addr} {o : Obj} (e : (Cg h H).get? b = some o) : h.get? b = some o /\ H b = none := by
  have e' : h.get? b = some o := PySem.W.of_hideAll (trk h H) e
  refine ⟨e', ?_⟩
  cases q : H b with
  | none => rfl
  | some x =>
    have hm : b ∈ trk h H := List.mem_filter.mpr ⟨List.mem_range.mpr (Heap.lt_size e'), by simp [q]⟩
    have z : (Cg h H).get? b = none := PySem.W.hideAll_none (trk h H) hm
    rw [z] at e; cases e
noncomputable def B5 (g h : Heap) (L : Addr) : List (Addr × Obj) := (List.range h.objs.size).filterMap fun a => if a = L ∨ (g.get? a).isSome = true then none else (h.get? a).map fun o => (a, o)
noncomputable def Ql (g h : Heap) (L d : Addr) : List (Addr × Obj) := (B5 g h L).filter fun p => decide (p.1 ≠ d)
end L2
namespace L2
open PySem PySem.Spec PyProof.Rows
structure Mod (K : PySem.W.Frag) (mg : Str -> Option Value) (base : Heap) : Prop where
  kin : K.In base
  glob : base.Ns mainGlobals mg
  blt : ∃ mb, base.Ns builtinsNs mb /\ ∀ x : Str, x ≠ "__name__" -> mb x = bootBuiltins x
  nolimit : base.NoLimit
structure Cx where
  prog : Program
  w : World
  K : PySem.W.Frag
  mg : Str -> Option Value
  base : Heap
  A : Around
  N : List Str
  s₀ : Shared
  H₀ : Hp
  env : Env
  outer : List Env
  stack : List Env
  ex : List Addr
  fn : Str -> Bool
  calm : Bool
  pn : List (Addr × Obj)
  xe : Value -> Shared -> Prop
noncomputable def frs (l : List Env) : List Addr := l.filterMap (·.frame)
noncomputable abbrev Cx.fs (X : Cx) : List Addr := frs X.outer
noncomputable def Vis (sc : Scope) (x : Str) : Prop := sc.names.lookup x = some .local ∨ sc.names.lookup x = some .cell ∨ sc.names.lookup x = some .free
noncomputable def Loc (sc : Scope) (x : Str) : Prop := sc.names.lookup x = some .local ∨ sc.names.lookup x = some .cell
noncomputable def IF (env : Env) (h : Heap) (m : Str -> Option Value) (x : Str) (u : Value) : Prop :=
  (env.kindOf x = some .local /\ m x = some u) ∨ ((env.kindOf x = some .cell ∨ env.kindOf x = some .free) /\ ∃ c, env.cells.lookup x = some c /\ h.IsCell c (some u))
structure Cx.Ok (X : Cx) : Prop where
  mod : Mod X.K X.mg X.base
  kind : X.env.scope.kind = .function
  glob : X.env.globals = mainGlobals
  blt : X.env.builtins = builtinsNs
  above : X.s₀.heap.objs.size <= X.env.locals
  inj : ∀ x y c, X.env.cells.lookup x = some c -> X.env.cells.lookup y = some c -> x = y
  has : ∀ x, (X.env.kindOf x = some .cell ∨ X.env.kindOf x = some .free) -> ∃ c, X.env.cells.lookup x = some c
  cab : ∀ x c, X.fn x = true -> X.env.cells.lookup x = some c -> X.s₀.heap.objs.size <= c
  hd : X.calm = true -> X.A.handled = none
  frames : X.A.frames = some X.stack
  stk : X.stack = X.outer ∨ (X.stack = X.env :: X.outer /\ X.env.frame = some X.env.locals)
  exf : ∀ b ∈ X.ex, b ≠ X.env.locals /\ ∀ x c, X.env.cells.lookup x = some c -> c ≠ b
  bs : ∀ b o, X.base.get? b = some o -> X.s₀.heap.get? b = some o /\ X.H₀ b = none
  bsz : X.base.objs.size <= X.s₀.heap.objs.size
  noex : ∀ b o, X.base.get? b = some o -> b ∉ X.ex
  exfs : ∀ b ∈ X.ex, b ∉ X.fs
  funs : X.s₀.heap.FunFrames X.base X.outer
  frf : ∀ b ∈ X.fs, X.H₀ b = none
structure Inv (X : Cx) (pins : List (Addr × Obj)) (σ : List (Option V)) (H : Hp) (s : Shared) : Prop where
  ok : X.Ok
  os : s.os = X.s₀.os
  bare : AllBare s.gens
  base : Un X.fs X.ex X.H₀ H X.s₀.heap s.heap
  loc : ∃ m, s.heap.Ns X.env.locals m /\ ∀ (i : Nat) (x : Str) (v : V), X.N[i]? = some x -> σ[i]? = some (some v) -> Vis X.env.scope x -> ∃ u, Yt v u /\ IF X.env s.heap m x u
  cell : ∀ x c, X.env.cells.lookup x = some c -> ∃ v, s.heap.IsCell c v
  free : H X.env.locals = none
  freeC : ∀ x c, X.env.cells.lookup x = some c -> H c = none
  pin : ∀ p ∈ X.pn ++ pins, s.heap.get? p.1 = some p.2 /\ H p.1 = none /\ p.1 ≠ X.env.locals /\ p.1 ∉ X.fs /\ ∀ v, p.2.data ≠ .cell v
  hok : HOk X.prog X.w H s.heap
  len : σ.length = X.N.length
section
variable {X : Cx} {pins : List (Addr × Obj)} {σ : List (Option V)} {H H' : Hp} {s : Shared} {h' : Heap}
theorem Cx.Ok.nofr (ok : X.Ok) {b : Addr} {o : Obj} (e : X.base.get? b = some o) : b ∉ X.fs := fun hb => by
  have := (ok.funs.mem hb).1
  rw [e] at this; cases this
theorem Inv.bs (I : Inv X pins σ H s) : ∀ b o, X.base.get? b = some o -> s.heap.get? b = some o /\ H b = none := fun b o e =>
  ⟨I.base.keep b o (I.ok.bs b o e).1 (I.ok.bs b o e).2 (I.ok.nofr e) (I.ok.noex b o e), I.base.free b o (I.ok.bs b o e).1 (I.ok.bs b o e).2 (I.ok.noex b o e)⟩
theorem Inv.bk (I : Inv X pins σ H s) : ∀ b o, X.base.get? b = some o -> s.heap.get? b = some o := fun b o e => (I.bs b o e).1
theorem Inv.mod (I : Inv X pins σ H s) : Mod X.K X.mg X.base := I.ok.mod
theorem Inv.kIn (I : Inv X pins σ H s) : X.K.In s.heap := I.ok.mod.kin.keeps I.bk
theorem Inv.nolimit (I : Inv X pins σ H s) : s.heap.NoLimit := I.ok.mod.nolimit.keeps I.bk
theorem Inv.lt (I : Inv X pins σ H s) : X.env.locals < s.heap.objs.size := let ⟨_, hn, _⟩ := I.loc; hn.lt
theorem Inv.sz (I : Inv X pins σ H s) : X.s₀.heap.objs.size <= s.heap.objs.size := Nat.le_trans I.ok.above (Nat.le_of_lt I.lt)
theorem Inv.nofs (I : Inv X pins σ H s) {a : Addr} (h : s.heap.objs.size <= a) : a ∉ X.fs := fun hb => by
  obtain ⟨_, o, ho, _⟩ := I.ok.funs.mem hb
  exact absurd (Nat.lt_of_lt_of_le (Heap.lt_size ho) (Nat.le_trans I.sz h)) (Nat.lt_irrefl _)
theorem Inv.cne (I : Inv X pins σ H s) : ∀ x c, X.env.cells.lookup x = some c -> c ≠ X.env.locals := fun x c e z => by
  obtain ⟨v, o, ho, hd⟩ := I.cell x c e
  obtain ⟨m, ⟨o', es, ep, ho', hd', _⟩, _⟩ := I.loc
  rw [z, ho'] at ho; cases ho; rw [hd'] at hd; cases hd
theorem Inv.funs (I : Inv X pins σ H s) : s.heap.FunFrames X.base X.outer := by
  have all : ∀ (l : List Env), (∀ b ∈ frs l, b ∈ X.fs) -> X.s₀.heap.FunFrames X.base l -> s.heap.FunFrames X.base l := by
    intro l
    induction l with
    | nil => intro _ _; trivial
    | cons env r ih =>
      intro hs hl
      obtain ⟨hk, ⟨L, o, hf, hn, ho, hd⟩, hr⟩ := hl
      have hL : L ∈ X.fs := hs L (by unfold frs; rw [List.filterMap_cons, hf]; exact List.mem_cons_self)
      obtain ⟨sl, e⟩ := I.base.slot L o ho (I.ok.frf L hL) hL fun z => I.ok.exfs L z hL
      exact ⟨hk, ⟨L, _, hf, hn, e, hd⟩, ih (fun b hb => hs b (by unfold frs; rw [List.filterMap_cons, hf]; exact List.mem_cons_of_mem _ hb)) hr⟩
  exact all X.outer (fun _ hb => hb) I.ok.funs
theorem Inv.stack (I : Inv X pins σ H s) : s.heap.FunFrames X.base X.stack := by
  rcases I.ok.stk with e | ⟨e, hf⟩
  · rw [e]; exact I.funs
  · rw [e]
    obtain ⟨m, hn, _⟩ := I.loc
    refine .cons (by rw [I.ok.kind]; decide) hf hn ?_ I.funs
    exact Heap.get?_none_of_le (Nat.le_trans I.ok.bsz I.ok.above)
theorem Inv.stkSub (I : Inv X pins σ H s) : ∀ b ∈ frs X.stack, b ∈ X.env.locals :: X.fs := fun b hb => by
  rcases I.ok.stk with e | ⟨e, hf⟩
  · rw [e] at hb; exact List.mem_cons_of_mem _ hb
  · rw [e] at hb
    unfold frs at hb
    rw [List.filterMap_cons, hf] at hb
    exact hb
theorem Inv.stkFree (I : Inv X pins σ H s) : ∀ b ∈ frs X.stack, H b = none := fun b hb => by
  rcases List.mem_cons.mp (I.stkSub b hb) with e | hb
  · rw [e]; exact I.free
  · obtain ⟨_, o, ho, _⟩ := I.ok.funs.mem hb
    exact I.base.free b o ho (I.ok.frf b hb) fun z => I.ok.exfs b z hb
theorem Inv.step {g' : Array GenState} {t' : Nat} {d' : Drawn} {ch : List Addr} (I : Inv X pins σ H s)
    (hch : ∀ b ∈ ch, (b ∈ X.ex ∨ X.s₀.heap.objs.size <= b) /\ b ≠ X.env.locals /\ (∀ x c, X.env.cells.lookup x = some c -> c ≠ b) /\ ∀ p ∈ X.pn ++ pins, p.1 ≠ b)
    (keep : ∀ b o, b ≠ X.env.locals -> b ∉ X.fs -> b ∉ ch -> s.heap.get? b = some o -> H b = none -> h'.get? b = some o)
    (slot : ∀ b o, b ≠ X.env.locals -> b ∈ X.fs -> b ∉ ch -> s.heap.get? b = some o -> H b = none -> ∃ sl, h'.get? b = some { o with slots := sl }) (free : ∀ b o, b ∉ ch -> s.heap.get? b = some o -> H b = none -> H' b = none)
    (there : ∀ b o, b ∉ ch -> s.heap.get? b = some o -> ∃ o', h'.get? b = some o')
    (tups : ∀ b xs, H b = some (.tup xs) -> H' b = some (.tup xs)) (frzs : ∀ b o u, H b = some (.frz o u) -> H' b = some (.frz o u)) (tbls : ∀ b ps, H b = some (.tbl ps) -> ∃ more, H' b = some (.tbl (ps ++ more)))
    (ns : ∀ m, s.heap.Ns X.env.locals m -> h'.Ns X.env.locals m) (hok : HOk X.prog X.w H' h') (hg : AllBare g') :
    Inv X pins σ H' { s with heap := h', gens := g', drawn := d', toks := t' } := by
  have neL : ∀ b o, X.s₀.heap.get? b = some o -> b ≠ X.env.locals := fun b o e => Nat.ne_of_lt (Nat.lt_of_lt_of_le (Heap.lt_size e) I.ok.above)
  have neC : ∀ b o, X.s₀.heap.get? b = some o -> b ∉ X.ex -> b ∉ ch := fun b o e hx hb => by
    rcases (hch b hb).1 with z | z
    · exact hx z
    · exact absurd (Nat.lt_of_lt_of_le (Heap.lt_size e) z) (Nat.lt_irrefl _)
  have cellK : ∀ x c, X.env.cells.lookup x = some c -> ∀ v, s.heap.IsCell c v -> h'.IsCell c v := fun x c e v ⟨o, ho, hd⟩ => by
    have nch : c ∉ ch := fun z => (hch c z).2.2.1 x c e rfl
    by_cases hc : c ∈ X.fs
    · obtain ⟨sl, q⟩ := slot c o (I.cne x c e) hc nch ho (I.freeC x c e)
      exact ⟨_, q, hd⟩
    · exact ⟨o, keep c o (I.cne x c e) hc nch ho (I.freeC x c e), hd⟩
  refine ⟨I.ok, I.os, hg, ⟨fun b o e n hb hx => ?_, fun b o e n hb hx => ?_, fun b o e n hx => ?_, fun b o e hx => ?_, fun b xs e => tups b xs (I.base.tups b xs e), fun b o xs e => frzs b o xs (I.base.frzs b o xs e), fun b ps e => ?_⟩, ?_, fun x c e => ?_, ?_, fun x c e => ?_, fun p hp => ?_, hok, I.len⟩
  · exact keep b o (neL b o e) hb (neC b o e hx) (I.base.keep b o e n hb hx) (I.base.free b o e n hx)
  · obtain ⟨sl, e1⟩ := I.base.slot b o e n hb hx
    obtain ⟨sl', e2⟩ := slot b _ (neL b o e) hb (neC b o e hx) e1 (I.base.free b o e n hx)
    exact ⟨sl', e2⟩
  · obtain ⟨o', e1⟩ := I.base.there b o e hx
    exact free b o' (neC b o e hx) e1 (I.base.free b o e n hx)
  · obtain ⟨o', e1⟩ := I.base.there b o e hx
    exact there b o' (neC b o e hx) e1
  · obtain ⟨m1, e1⟩ := I.base.tbls b ps e
    obtain ⟨m2, e2⟩ := tbls b _ e1
    exact ⟨m1 ++ m2, by rw [e2, Array.append_assoc]⟩
  · obtain ⟨m, hn, hl⟩ := I.loc
    refine ⟨m, ns m hn, fun i x v e1 e2 e3 => ?_⟩
    obtain ⟨u, r, l⟩ := hl i x v e1 e2 e3
    refine ⟨u, r, ?_⟩
    rcases l with l | ⟨k, c, e, z⟩
    · exact .inl l
    · exact .inr ⟨k, c, e, cellK x c e _ z⟩
  · obtain ⟨v, z⟩ := I.cell x c e
    exact ⟨v, cellK x c e v z⟩
  · obtain ⟨m, ⟨o, _, _, ho, _⟩, _⟩ := I.loc
    exact free _ o (fun z => (hch _ z).2.1 rfl) ho I.free
  · obtain ⟨v, o, ho, hd⟩ := I.cell x c e
    exact free c o (fun z => (hch c z).2.2.1 x c e rfl) ho (I.freeC x c e)
  · obtain ⟨e, n, ne, nf, d⟩ := I.pin p hp
    have nch : p.1 ∉ ch := fun z => (hch p.1 z).2.2.2 p hp rfl
    exact ⟨keep p.1 p.2 ne nf nch e n, free p.1 p.2 nch e n, ne, nf, d⟩
theorem Inv.un {t' : Nat} (I : Inv X pins σ H s) (u : Un X.fs [] H H' s.heap h') (hok : HOk X.prog X.w H' h') : Inv X pins σ H' { s with heap := h', toks := t' } := by
  obtain ⟨m, ⟨o, es, ep, ho, r⟩, _⟩ := id I.loc
  obtain ⟨sl, hL⟩ := u.any ho I.free (by simp)
  exact I.step (g' := s.gens) (d' := s.drawn) (ch := []) (fun _ z => nomatch z) (fun b o _ hb _ e n => u.keep b o e n hb (by simp)) (fun b o _ hb _ e n => u.slot b o e n hb (by simp)) (fun b o _ e n => u.free b o e n (by simp)) (fun b o _ e => u.there b o e (by simp)) u.tups u.frzs u.tbls (fun m' hm => by
    obtain ⟨o', es', ep', ho', r'⟩ := hm
    rw [ho] at ho'; cases ho'
    exact ⟨_, es', ep', hL, r'⟩) hok I.bare
theorem Inv.call {g' : Array GenState} {t' : Nat} {d' : Drawn} {ch : List Addr} (I : Inv X pins σ H s) (u : Un (frs X.stack) ch H H' s.heap h') (hok : HOk X.prog X.w H' h') (hg : AllBare g')
    (hch : ∀ b ∈ ch, (b ∈ X.ex ∨ X.s₀.heap.objs.size <= b) /\ b ≠ X.env.locals /\ (∀ x c, X.env.cells.lookup x = some c -> c ≠ b) /\ ∀ p ∈ X.pn ++ pins, p.1 ≠ b) :
    Inv X pins σ H' { s with heap := h', gens := g', drawn := d', toks := t' } := by
  obtain ⟨m, ⟨o, es, ep, ho, r⟩, _⟩ := id I.loc
  obtain ⟨sl, hL⟩ := u.any ho I.free fun z => (hch _ z).2.1 rfl
  exact I.step (ch := ch) hch (fun b o hL hb hc e n => u.keep b o e n (fun z => (List.mem_cons.mp (I.stkSub b z)).elim hL hb) hc) (fun b o _ _ hc e n => u.any e n hc) (fun b o hc e n => u.free b o e n hc) (fun b o hc e => u.there b o e hc) u.tups u.frzs u.tbls (fun m' hm => by
    obtain ⟨o', es', ep', ho', r'⟩ := hm
    rw [ho] at ho'; cases ho'
    exact ⟨_, es', ep', hL, r'⟩) hok hg
theorem Inv.turned {t' : Nat} {it : Addr} (I : Inv X pins σ H s) (k : ∀ b o, b ≠ it -> s.heap.get? b = some o -> h'.get? b = some o) (hn : H it = none) (hL : it ≠ X.env.locals)
    (h1 : it ∈ X.ex ∨ X.s₀.heap.objs.size <= it) (h2 : ∀ x c, X.env.cells.lookup x = some c -> c ≠ it) (h3 : ∀ p ∈ X.pn ++ pins, p.1 ≠ it) : Inv X pins σ H { s with heap := h', toks := t' } := by
  have nit : ∀ b u, H b = some u -> b ≠ it := fun b u e z => by rw [z, hn] at e; cases e
  refine I.step (g' := s.gens) (d' := s.drawn) (ch := [it]) (fun b hb => ?_) (fun b o _ _ hc e _ => k b o (fun z => hc (by simp [z])) e) (fun b o _ _ hc e _ => ⟨o.slots, k b o (fun z => hc (by simp [z])) e⟩) (fun _ _ _ _ n => n)
    (fun b o hc e => ⟨o, k b o (fun z => hc (by simp [z])) e⟩) (fun _ _ e => e) (fun _ _ _ e => e) (fun b ps e => ⟨#[], by rw [e]; simp⟩) (fun m hm => ?_) (fun b u e => ?_) I.bare
  · have e : b = it := by simpa using hb
    subst e
    exact ⟨h1, hL, h2, h3⟩
  · obtain ⟨o, es, ep, ho, r⟩ := hm
    exact ⟨o, es, ep, k _ o (Ne.symm hL) ho, r⟩
  · refine (I.hok b u e).stay (fun c v hc q => k c v ?_ q) (fun _ q => q) fun _ _ q => q
    rcases hc with z | z
    · rw [z]; exact nit b u e
    · exact nit c _ z
theorem Inv.tok (I : Inv X pins σ H s) (t : Nat) : Inv X pins σ H { s with toks := t } := I.un (h' := s.heap) (t' := t) Un.refl I.hok
theorem Inv.kept {t' : Nat} (I : Inv X pins σ H s) (k : ∀ b u, s.heap.get? b = some u -> h'.get? b = some u) : Inv X pins σ H { s with heap := h', toks := t' } := I.un (Un.kept k) (I.hok.kept k)
theorem Inv.laid {a : Addr} {o : HO} {t' : Nat} (I : Inv X pins σ H s) (k : ∀ b u, s.heap.get? b = some u -> h'.get? b = some u) (hp : s.heap.objs.size <= a) (new : Y3 X.prog X.w (upd H a o) h' a o) :
    Inv X pins σ (upd H a o) { s with heap := h', toks := t' } := I.un (Un.laid k hp (I.hok.fresh hp)) (I.hok.laid k hp new)
theorem Inv.write {x e : Addr} {o : HO} {t' : Nat} (I : Inv X pins σ H s) (mu : Mut (H x)) (he : e = x ∨ H e = some (.own x)) (k : ∀ b u, b ≠ e -> s.heap.get? b = some u -> h'.get? b = some u) (heo : ∃ u, h'.get? e = some u)
    (new : Y3 X.prog X.w (upd H x o) h' x o) : Inv X pins σ (upd H x o) { s with heap := h', toks := t' } := I.un (Un.write mu he k heo) (I.hok.write mu he k heo new)
theorem Inv.weak {σ' : List (Option V)} (I : Inv X pins σ H s) (hl : σ'.length = σ.length) (w : ∀ (i : Nat) v, σ'[i]? = some (some v) -> σ[i]? = some (some v)) : Inv X pins σ' H s :=
  ⟨I.ok, I.os, I.bare, I.base, let ⟨m, hn, hl'⟩ := I.loc; ⟨m, hn, fun i x v e1 e2 e3 => hl' i x v e1 (w i v e2) e3⟩, I.cell, I.free, I.freeC, I.pin, I.hok, hl.trans I.len⟩
theorem Inv.pins_of {pins' : List (Addr × Obj)} (I : Inv X pins σ H s) (h : ∀ p ∈ pins', s.heap.get? p.1 = some p.2 /\ H p.1 = none /\ p.1 ≠ X.env.locals /\ p.1 ∉ X.fs /\ ∀ v, p.2.data ≠ .cell v) : Inv X pins' σ H s :=
  ⟨I.ok, I.os, I.bare, I.base, I.loc, I.cell, I.free, I.freeC, fun p hp => (List.mem_append.mp hp).elim (fun z => I.pin p (List.mem_append_left _ z)) (h p), I.hok, I.len⟩
theorem Gb {N : List Str} (hN : N.Nodup) {i j : Nat} {x : Str} (a : N[i]? = some x) (b : N[j]? = some x) : i = j := by
  obtain ⟨h1, e1⟩ := List.getElem?_eq_some_iff.mp a
  obtain ⟨h2, e2⟩ := List.getElem?_eq_some_iff.mp b
  exact (List.getElem_inj hN).mp (e1.trans e2.symm)
theorem Ka {M : Model} {A : Around} {E : Value -> Shared -> Prop} {i : Nat} {x : Str} {v : V} {u : Value} {Q : Unit -> Shared -> Prop} (I : Inv X pins σ H s) (hN : X.N.Nodup) (hi : X.N[i]? = some x) (hx : Loc X.env.scope x) (r : Yt v u)
    (h : ∀ s', Inv X pins (σ.set i (some v)) H s' -> (∃ a, Heap.SameBut a s.heap s'.heap /\ (a = X.env.locals ∨ X.env.cells.lookup x = some a)) -> Q () s') (hf : X.fn x = true ∨ X.env.scope.names.lookup x = some .local := by first | exact .inl rfl | exact .inr rfl | assumption) : wpAny M A (storeName X.env x u) Q E s := by
  obtain ⟨m, hn, hl⟩ := id I.loc
  have hcls : (X.env.scope.kind == .class || (X.env.scope.kind == .module && X.env.locals != X.env.globals)) = false := by rw [I.ok.kind]; rfl
  have hiσ : i < σ.length := by rw [I.len]; exact (List.getElem?_eq_some_iff.mp hi).1
  have cne := I.cne
  have tracked : ∀ {a : Addr} {h' : Heap}, (∃ o, s.heap.get? a = some o /\ H a = none) -> Heap.SameBut a s.heap h' -> HOk X.prog X.w H h' := fun {a h'} ha hs b ob e => by
    obtain ⟨_, _, hfree⟩ := ha
    refine (I.hok b ob e).stay (fun c w' hc q => (hs.2 c ?_).trans q) (fun _ q => q) fun _ _ q => q
    rintro rfl
    rcases hc with rfl | hc
    · rw [hfree] at e; cases e
    · rw [hfree] at hc; cases hc
  rcases hx with hk | hk
  · refine wpAny_storeName_local hk hn (fun h' hn' hs => ?_) hcls
    obtain ⟨oL, _, _, hoL, _⟩ := id hn
    refine h _ ⟨I.ok, I.os, I.bare, ⟨fun b o e n hb hx => ?_, fun b o e n hb hx => ?_, I.base.free, fun b o e hx => ?_, I.base.tups, I.base.frzs, I.base.tbls⟩, ⟨_, hn', fun j y v' e1 e2 e3 => ?_⟩, fun y c e => ?_, I.free, I.freeC, fun p hp => ?_, tracked ⟨oL, hoL, I.free⟩ hs, by simpa using I.len⟩ ⟨_, hs, .inl rfl⟩
    · exact (hs.2 b (Nat.ne_of_lt (Nat.lt_of_lt_of_le (Heap.lt_size e) I.ok.above))).trans (I.base.keep b o e n hb hx)
    · obtain ⟨sl, e1⟩ := I.base.slot b o e n hb hx
      exact ⟨sl, (hs.2 b (Nat.ne_of_lt (Nat.lt_of_lt_of_le (Heap.lt_size e) I.ok.above))).trans e1⟩
    · obtain ⟨o', e1⟩ := I.base.there b o e hx
      exact ⟨o', (hs.2 b (Nat.ne_of_lt (Nat.lt_of_lt_of_le (Heap.lt_size e) I.ok.above))).trans e1⟩
    · by_cases hj : j = i
      · subst hj
        rw [hi] at e1; cases e1
        rw [List.getElem?_set_self hiσ] at e2
        cases e2
        exact ⟨u, r, .inl ⟨hk, by simp⟩⟩
      · rw [List.getElem?_set_ne (Ne.symm hj)] at e2
        obtain ⟨u', r', q⟩ := hl j y v' e1 e2 e3
        refine ⟨u', r', ?_⟩
        rcases q with ⟨k, e⟩ | ⟨k, c, e, z⟩
        · refine .inl ⟨k, ?_⟩
          have : y ≠ x := fun e => hj (Gb hN e1 (e ▸ hi))
          simp [this, e]
        · exact .inr ⟨k, c, e, z.sameBut hs (cne y c e)⟩
    · obtain ⟨w', z⟩ := I.cell y c e
      exact ⟨w', z.sameBut hs (cne y c e)⟩
    · obtain ⟨e, n, ne, nf, d⟩ := I.pin p hp
      exact ⟨(hs.2 p.1 ne).trans e, n, ne, nf, d⟩
  · have hfn : X.fn x = true := by
      rcases hf with z | z
      · exact z
      · rw [z] at hk; cases hk
    obtain ⟨c, hc⟩ := I.ok.has x (.inl hk)
    obtain ⟨w', z⟩ := I.cell x c hc
    refine wpAny_storeName_cell I.ok.kind hk hc z (fun h' hc' hs => ?_)
    obtain ⟨oc, hoc, hocd⟩ := id z
    refine h { s with heap := h' } ⟨I.ok, I.os, I.bare, ⟨fun b o e n hb hx => ?_, fun b o e n hb hx => ?_, I.base.free, fun b o e hx => ?_, I.base.tups, I.base.frzs, I.base.tbls⟩, ⟨m, hn.sameBut hs (Ne.symm (cne x c hc)), fun j y v' e1 e2 e3 => ?_⟩, fun y c' e => ?_, I.free, I.freeC, fun p hp => ?_, tracked ⟨oc, hoc, I.freeC x c hc⟩ hs, by simpa using I.len⟩ ⟨c, hs, .inr hc⟩
    · exact (hs.2 b (Nat.ne_of_lt (Nat.lt_of_lt_of_le (Heap.lt_size e) (I.ok.cab x c hfn hc)))).trans (I.base.keep b o e n hb hx)
    · obtain ⟨sl, e1⟩ := I.base.slot b o e n hb hx
      exact ⟨sl, (hs.2 b (Nat.ne_of_lt (Nat.lt_of_lt_of_le (Heap.lt_size e) (I.ok.cab x c hfn hc)))).trans e1⟩
    · obtain ⟨o', e1⟩ := I.base.there b o e hx
      exact ⟨o', (hs.2 b (Nat.ne_of_lt (Nat.lt_of_lt_of_le (Heap.lt_size e) (I.ok.cab x c hfn hc)))).trans e1⟩
    · by_cases hj : j = i
      · subst hj
        rw [hi] at e1; cases e1
        rw [List.getElem?_set_self hiσ] at e2
        cases e2
        exact ⟨u, r, .inr ⟨.inl hk, c, hc, hc'⟩⟩
      · rw [List.getElem?_set_ne (Ne.symm hj)] at e2
        obtain ⟨u', r', q⟩ := hl j y v' e1 e2 e3
        refine ⟨u', r', ?_⟩
        rcases q with q | ⟨k, c', e, z'⟩
        · exact .inl q
        · refine .inr ⟨k, c', e, z'.sameBut hs ?_⟩
          rintro rfl
          exact hj (Gb hN e1 (I.ok.inj _ _ _ e hc ▸ hi))
    · by_cases hcc : c' = c
      · subst hcc; exact ⟨_, hc'⟩
      · obtain ⟨w2, z2⟩ := I.cell y c' e
        exact ⟨w2, z2.sameBut hs hcc⟩
    · obtain ⟨e, n, ne, nf, d⟩ := I.pin p hp
      refine ⟨(hs.2 p.1 ?_).trans e, n, ne, nf, d⟩
      intro q
      rw [q, hoc] at e
      have q' : oc = p.2 := Option.some.inj e
      exact d w' (by rw [← q']; exact hocd)
theorem QU {M : Model} {A : Around} {E : Value -> Shared -> Prop} {i : Nat} {x : Str} {v : V} {u : Value} {Q : Unit -> Shared -> Prop} (I : Inv X pins σ H s) (hN : X.N.Nodup) (hi : X.N[i]? = some x) (hx : Loc X.env.scope x) (r : Yt v u)
    (h : ∀ s', Inv X pins (σ.set i (some v)) H s' -> Q () s') (hf : X.fn x = true ∨ X.env.scope.names.lookup x = some .local := by first | exact .inl rfl | exact .inr rfl | assumption) : wpAny M A (storeName X.env x u) Q E s :=
  Ka I hN hi hx r (fun s' I' _ => h s' I') hf
theorem Inv.call' {s' : Shared} {ch : List Addr} (I : Inv X pins σ H s) (ho : s'.os = s.os) (u : Un (frs X.stack) ch H H' s.heap s'.heap) (hok : HOk X.prog X.w H' s'.heap) (hg : AllBare s'.gens)
    (hch : ∀ b ∈ ch, (b ∈ X.ex ∨ X.s₀.heap.objs.size <= b) /\ b ≠ X.env.locals /\ (∀ x c, X.env.cells.lookup x = some c -> c ≠ b) /\ ∀ p ∈ X.pn ++ pins, p.1 ≠ b) : Inv X pins σ H' s' := by
  obtain ⟨h', g', d', t', o'⟩ := s'
  have e : o' = s.os := ho
  subst e
  exact I.call (g' := g') (t' := t') (d' := d') u hok hg hch
end
noncomputable abbrev XK := Value -> Option Addr -> Hp -> Prop
noncomputable abbrev St := List (Option V)
noncomputable abbrev VK := V -> Hp -> Prop
noncomputable abbrev TE := St -> Hp -> VK -> Prop
noncomputable abbrev TT := St -> Hp -> (Bool -> Hp -> Prop) -> Prop
noncomputable abbrev TA := St -> Hp -> (List V -> Hp -> Prop) -> Prop
structure Ends where
  nx : St -> Hp -> Prop
  rt : VK
  bk : St -> Hp -> Prop := fun _ _ => False
  ct : St -> Hp -> Prop := fun _ _ => False
noncomputable abbrev TS := Ends -> St -> Hp -> Prop
noncomputable def EP (X : Cx) (pins : List (Addr × Obj)) (σ : St) (Q : VK) (u : Value) (s' : Shared) : Prop := ∃ v H', Inv X pins σ H' s' /\ Yt v u /\ Q v H'
noncomputable def TP (X : Cx) (pins : List (Addr × Obj)) (σ : St) (Q : Bool -> Hp -> Prop) (b : Bool) (s' : Shared) : Prop := ∃ H', Inv X pins σ H' s' /\ Q b H'
noncomputable def AP (X : Cx) (pins : List (Addr × Obj)) (σ : St) (Q : List V -> Hp -> Prop) (us : List Value) (s' : Shared) : Prop := ∃ vs H', Inv X pins σ H' s' /\ Yl vs us /\ Q vs H'
noncomputable def SP (X : Cx) (pins : List (Addr × Obj)) (D : Ends) (f : Flow) (s' : Shared) : Prop :=
  match f with
  | .next => ∃ σ' H', Inv X pins σ' H' s' /\ D.nx σ' H'
  | .brk => ∃ σ' H', Inv X pins σ' H' s' /\ D.bk σ' H'
  | .cont => ∃ σ' H', Inv X pins σ' H' s' /\ D.ct σ' H'
  | .ret u => ∃ v σ' H', Inv X pins σ' H' s' /\ Yt v u /\ D.rt v H'
noncomputable def PE (X : Cx) (e : Expr) (t : TE) : Prop :=
  ∀ (pins : List (Addr × Obj)) (s : Shared) (σ : St) (H : Hp) (Q : VK), Inv X pins σ H s -> t σ H Q -> wpAny (model X.prog X.w) X.A (eval e X.env) (EP X pins σ Q) X.xe s
noncomputable def PT (X : Cx) (e : Expr) (t : TT) : Prop :=
  ∀ (pins : List (Addr × Obj)) (s : Shared) (σ : St) (H : Hp) (Q : Bool -> Hp -> Prop), Inv X pins σ H s -> t σ H Q -> wpAny (model X.prog X.w) X.A (isTrue e X.env (eval e X.env)) (TP X pins σ Q) X.xe s
noncomputable def PW (X : Cx) (e : Expr) (t : TT) : Prop :=
  ∀ (whole : Sem Value) (pins : List (Addr × Obj)) (s : Shared) (σ : St) (H : Hp) (Q : Bool -> Hp -> Prop), Inv X pins σ H s -> t σ H Q -> wpAny (model X.prog X.w) X.A (isTrue e X.env whole) (TP X pins σ Q) X.xe s
theorem PW.pt {X : Cx} {e : Expr} {t : TT} (h : PW X e t) : PT X e t := h _
noncomputable def PA (X : Cx) (es : List Expr) (t : TA) : Prop :=
  ∀ (pos : Pos) (pins : List (Addr × Obj)) (s : Shared) (σ : St) (H : Hp) (Q : List V -> Hp -> Prop), Inv X pins σ H s -> t σ H Q -> wpAny (model X.prog X.w) X.A (spliced (backTo pos (starEach es X.env))) (AP X pins σ Q) X.xe s
noncomputable def PS (X : Cx) (st : Stmt) (t : TS) : Prop :=
  ∀ (pins : List (Addr × Obj)) (s : Shared) (σ : St) (H : Hp) (D : Ends), Inv X pins σ H s -> t D σ H -> wpAny (model X.prog X.w) X.A (exec st X.env) (SP X pins D) X.xe s
noncomputable def PSs (X : Cx) (st : List Stmt) (t : TS) : Prop :=
  ∀ (pins : List (Addr × Obj)) (s : Shared) (σ : St) (H : Hp) (D : Ends), Inv X pins σ H s -> t D σ H -> wpAny (model X.prog X.w) X.A (execs st X.env) (SP X pins D) X.xe s
theorem thn {α : Type} {t : Sem α} {Q Q' : α -> Shared -> Prop} {M : Model} {A : Around} {E : Value -> Shared -> Prop} {s : Shared} (h : wpAny M A t Q E s) (hQ : ∀ a s, Q a s -> Q' a s) : wpAny M A t Q' E s := wpAny_mono h hQ fun _ _ x => x
end L2
namespace L2
open PySem PySem.Spec PyProof.Rows
section
variable {X : Cx}
noncomputable def Uw (i : Nat) : TE := fun σ H Q => ∃ v, σ[i]? = some (some v) /\ Q v H
noncomputable def tC (v : V) : TE := fun _ H Q => Q v H
theorem EO {i : Nat} {x : Str} {pos : Pos} (hN : X.N[i]? = some x) (hv : Vis X.env.scope x) (hd : (x == ("__debug__" : Str)) = false := by decide) (hcd : (x == ("__classdict__" : Str)) = false := by decide) : PE X (.Name x pos) (Uw i) := by
  intro pins s σ H Q I h
  obtain ⟨v, e, h⟩ := h
  obtain ⟨m, hn, hl⟩ := I.loc
  obtain ⟨u, r, l⟩ := hl i x v hN e hv
  have fin : EP X pins σ Q u s := ⟨v, H, I, r, h⟩
  rcases l with ⟨hk, hm⟩ | ⟨hk, c, hc, hcell⟩
  · exact wpAny_Name (wpAny_loadName_local I.ok.kind hk hn hm fin) hd
  · rcases hk with hk | hk
    · exact wpAny_Name (wpAny_loadName_cell I.ok.kind hk hc hcell fin) hd
    · exact wpAny_Name (wpAny_loadName_free I.ok.kind hk hc hcell fin hcd) hd
theorem Xf {i j pos} : PE X (.Constant (.int i) j pos) (tC (.int i)) := fun _ _ _ H _ I h => wpAny_Constant_int ⟨.int i, H, I.tok _, ⟨_, rfl⟩, h⟩
theorem VB {b j pos} : PE X (.Constant (.bool b) j pos) (tC (.bl b)) := fun _ _ _ H _ I h => Constant_bool ⟨.bl b, H, I, rfl, h⟩
noncomputable def Gl (X : Cx) (x : Str) : Prop := X.env.kindOf x = some .globalImplicit
theorem B8 {E : Value -> Shared -> Prop} {pins : List (Addr × Obj)} {s : Shared} {σ : St} {H : Hp} {x : Str} {u : Value} {pos : Pos} {Q : Value -> Shared -> Prop} (I : Inv X pins σ H s) (hg : Gl X x) (hm : X.mg x = some u) (h : Q u s)
    (hd : (x == ("__debug__" : Str)) = false := by decide) : wpAny (model X.prog X.w) X.A (eval (.Name x pos) X.env) Q E s :=
  Calls.Name_function_global I.ok.kind hg (Calls.loadGlobal_global (by rw [I.ok.glob]; exact I.mod.glob.keeps I.bk) hm h) hd
theorem Vg {E : Value -> Shared -> Prop} {pins : List (Addr × Obj)} {s : Shared} {σ : St} {H : Hp} {x : Str} {u : Value} {pos : Pos} {Q : Value -> Shared -> Prop} (I : Inv X pins σ H s) (hg : Gl X x) (hm : X.mg x = none) (hv : bootBuiltins x = some u) (h : Q u s)
    (hn : x ≠ "__name__" := by decide) (hd : (x == ("__debug__" : Str)) = false := by decide) : wpAny (model X.prog X.w) X.A (eval (.Name x pos) X.env) Q E s := by
  obtain ⟨mb, h1, h2⟩ := I.mod.blt
  exact Calls.Name_function_global I.ok.kind hg (Calls.loadGlobal_builtin (by rw [I.ok.glob]; exact I.mod.glob.keeps I.bk) hm (by rw [I.ok.blt]; exact h1.keeps I.bk) ((h2 x hn).trans hv) h) hd
theorem BI {x : Str} {v : V} {u : Value} {pos : Pos} (hg : Gl X x) (hm : X.mg x = none) (hv : bootBuiltins x = some u) (r : Yt v u) (hn : x ≠ "__name__" := by decide) (hd : (x == ("__debug__" : Str)) = false := by decide) : PE X (.Name x pos) (tC v) :=
  fun _ _ _ H _ I h => Vg I hg hm hv ⟨v, H, I, r, h⟩ hn hd
variable {a b : Expr} {ta tb : TE} {pos : Pos}
noncomputable def tB (t : TE) : TT := fun σ H Q => t σ H fun x H1 => ∃ c, x = .bl c /\ Q c H1
theorem U1 {e : Expr} {t : TE} (h : PE X e t) (he : ∀ whole, isTrue e X.env whole = (do let v ← whole; standAt e.pos; holding [v] (truthy v)) := by intro _; rfl) : PT X e (tB t) := by
  intro pins s σ H Q I hw
  refine isTrue_plain (thn (h pins s σ H _ I hw) fun v s1 ⟨x, H1, I1, r1, q1⟩ => ?_) (he _)
  obtain ⟨d, rfl, q⟩ := q1
  cases r1
  exact wpAny_truthy_bool ⟨H1, I1, q⟩
variable {tA tB' : TT} {Ql : List Expr}
noncomputable def Ij (t u : TT) : TT := fun σ H Q => t σ H fun c H1 => if c = true then u σ H1 Q else Q false H1
noncomputable def tOr (t u : TT) : TT := fun σ H Q => t σ H fun c H1 => if c = true then Q true H1 else u σ H1 Q
noncomputable def Ic (t : TT) : TT := fun σ H Q => t σ H fun c H1 => Q (!c) H1
theorem ZZ (ha : PT X a tA) : PW X (.BoolOp .And [a] pos) tA := by
  intro wh pins s σ H Q I h
  refine isTrue_and (thn (ha pins s σ H Q I h) fun c s1 e => ?_)
  cases c with
  | true => exact isTrue_and_nil e
  | false => exact e
theorem K0 (ha : PT X a tA) : PW X (.BoolOp .Or [a] pos) tA := by
  intro wh pins s σ H Q I h
  refine isTrue_or (thn (ha pins s σ H Q I h) fun c s1 e => ?_)
  cases c with
  | false => exact isTrue_or_nil e
  | true => exact e
theorem ZM (ha : PT X a tA) (hb : PW X (.BoolOp .And (b :: Ql) pos) tB') : PW X (.BoolOp .And (a :: b :: Ql) pos) (Ij tA tB') := by
  intro wh pins s σ H Q I h
  refine isTrue_and (thn (ha pins s σ H _ I h) fun c s1 ⟨H1, I1, q1⟩ => ?_)
  cases c with
  | true => exact hb wh pins s1 σ H1 Q I1 q1
  | false => exact ⟨H1, I1, q1⟩
theorem DV (ha : PT X a tA) (hb : PW X (.BoolOp .Or (b :: Ql) pos) tB') : PW X (.BoolOp .Or (a :: b :: Ql) pos) (tOr tA tB') := by
  intro wh pins s σ H Q I h
  refine isTrue_or (thn (ha pins s σ H _ I h) fun c s1 ⟨H1, I1, q1⟩ => ?_)
  cases c with
  | true => exact ⟨H1, I1, q1⟩
  | false => exact hb wh pins s1 σ H1 Q I1 q1
theorem GA (ha : PT X a tA) : PT X (.UnaryOp .Not a pos) (Ic tA) := by
  intro pins s σ H Q I h
  exact isTrue_not (ha pins s σ H (fun c H1 => Q (!c) H1) I h)
noncomputable def tIf (t : TT) (ta tb : TE) : TE := fun σ H Q => t σ H fun c H1 => if c = true then ta σ H1 Q else tb σ H1 Q
theorem C5 {c : Expr} (hc : PT X c tA) (ha : PE X a ta) (hb : PE X b tb) : PE X (.IfExp c a b pos) (tIf tA ta tb) := by
  intro pins s σ H Q I h
  refine wpAny_IfExp (thn (hc pins s σ H _ I h) fun d s1 ⟨H1, I1, q1⟩ => ?_)
  cases d with
  | true => exact ha pins s1 σ H1 Q I1 q1
  | false => exact hb pins s1 σ H1 Q I1 q1
end
end L2
namespace L2
open PySem PySem.Spec PyProof.Rows
noncomputable def SqL (K : PySem.W.Frag) (H : Hp) (a : Addr) (xs : List V) : Prop :=
  Rd H a (.lst xs) ∨
    ∃ (o : Obj) (its : Array Value) (n : Nat), K.lookup a = some o /\ o.cls = .type "list" /\ o.dict = none /\ o.data = .seq its n /\ its.size <= sizeLine /\ Yl xs its.toList
noncomputable def SqT (K : PySem.W.Frag) (H : Hp) (a : Addr) (xs : List V) : Prop :=
  Rd H a (.tup xs) ∨
    ∃ (o : Obj) (its : Array Value) (n : Nat), K.lookup a = some o /\ o.cls = .type "tuple" /\ o.data = .seq its n /\ its.size <= sizeLine /\ Yl xs its.toList
noncomputable def IC : Value -> Option V
  | .none => some .non
  | .bool b => some (.bl b)
  | .int i _ => some (.int i)
  | .str x _ => some (.str x)
  | .bytes b _ => some (.byt b)
  | .float b _ => some (.flt b)
  | .ref a => some (.ref a)
  | .type n => some (.ty n)
  | _ => none
theorem Yt.abs {x : V} {u : Value} (r : Yt x u) : IC u = some x := by
  cases x with
  | non => cases r; rfl
  | bl _ => cases r; rfl
  | int _ => obtain ⟨t, rfl⟩ := r; rfl
  | str _ => obtain ⟨t, rfl⟩ := r; rfl
  | byt _ => obtain ⟨t, rfl⟩ := r; rfl
  | flt _ => obtain ⟨t, rfl⟩ := r; rfl
  | ref _ => cases r; rfl
  | ty _ => cases r; rfl
theorem Yt.inj {x y : V} {u : Value} (r : Yt x u) (q : Yt y u) : x = y := Option.some.inj (r.abs.symm.trans q.abs)
theorem Yl.inj : ∀ {xs ys : List V} {us : List Value}, Yl xs us -> Yl ys us -> xs = ys
  | _, _, _, .nil, .nil => rfl
  | _, _, _, .cons r t, .cons r' t' => by rw [r.inj r', Yl.inj t t']
section
variable {X : Cx} {pins : List (Addr × Obj)} {σ : St} {H : Hp} {s : Shared} {a : Addr} {xs ys : List V}
theorem SqL.of {K : PySem.W.Frag} (h : H a = some (.lst xs)) : SqL K H a xs := .inl (.inl h)
theorem SqT.of {K : PySem.W.Frag} (h : H a = some (.tup xs)) : SqT K H a xs := .inl (.inl h)
theorem Inv.list (I : Inv X pins σ H s) (h : SqL X.K H a xs) : ∃ its : List Value, Yl xs its /\ PlainL s.heap a its.toArray /\ xs.length <= sizeLine := by
  rcases h with h | ⟨o, its, n, hk, hc, hd, hs, hz, r⟩
  · obtain ⟨z, its, n, r, e⟩ := h.ok I.hok
    exact ⟨its, r, ⟨_, n, e, rfl, rfl, rfl⟩, z⟩
  · refine ⟨its.toList, r, ⟨o, n, I.kIn a o hk, hc, hd, by simpa using hs⟩, ?_⟩
    have e := r.length
    simp only [Array.length_toList] at e
    omega
theorem Inv.tuple (I : Inv X pins σ H s) (h : SqT X.K H a xs) : ∃ its : List Value, Yl xs its /\ IsTup s.heap a its.toArray /\ xs.length <= sizeLine := by
  rcases h with h | ⟨o, its, n, hk, hc, hs, hz, r⟩
  · obtain ⟨z, its, r, p⟩ := h.ok I.hok
    exact ⟨its, r, p, z⟩
  · refine ⟨its.toList, r, ⟨o, I.kIn a o hk, hc, n, by simpa using hs⟩, ?_⟩
    have e := r.length
    simp only [Array.length_toList] at e
    omega
theorem Inv.list_inj (I : Inv X pins σ H s) (h : SqL X.K H a xs) (h' : SqL X.K H a ys) : xs = ys := by
  obtain ⟨its, r, ⟨o, n, e, _, _, d⟩, _⟩ := I.list h
  obtain ⟨its', r', ⟨o', n', e', _, _, d'⟩, _⟩ := I.list h'
  rw [e] at e'; cases e'
  rw [d] at d'
  injection d' with d1 _
  have : its = its' := by simpa using congrArg Array.toList d1
  subst this
  exact r.inj r'
theorem Inv.tuple_inj (I : Inv X pins σ H s) (h : SqT X.K H a xs) (h' : SqT X.K H a ys) : xs = ys := by
  obtain ⟨its, r, ⟨o, e, _, n, d⟩, _⟩ := I.tuple h
  obtain ⟨its', r', ⟨o', e', _, n', d'⟩, _⟩ := I.tuple h'
  rw [e] at e'; cases e'
  rw [d] at d'
  injection d' with d1 _
  have : its = its' := by simpa using congrArg Array.toList d1
  subst this
  exact r.inj r'
end
noncomputable abbrev Cx.wish (X : Cx) (E : Value -> Shared -> Prop) : Cx := { X with xe := E }
noncomputable abbrev Cx.nox (X : Cx) : Cx := X.wish fun _ _ => False
theorem Cx.Ok.wish {X : Cx} (ok : X.Ok) (E : Value -> Shared -> Prop) : (X.wish E).Ok :=
  ⟨ok.mod, ok.kind, ok.glob, ok.blt, ok.above, ok.inj, ok.has, ok.cab, ok.hd, ok.frames, ok.stk, ok.exf, ok.bs, ok.bsz, ok.noex, ok.exfs, ok.funs, ok.frf⟩
theorem Cx.Ok.unwish {X : Cx} {E : Value -> Shared -> Prop} (ok : (X.wish E).Ok) : X.Ok :=
  ⟨ok.mod, ok.kind, ok.glob, ok.blt, ok.above, ok.inj, ok.has, ok.cab, ok.hd, ok.frames, ok.stk, ok.exf, ok.bs, ok.bsz, ok.noex, ok.exfs, ok.funs, ok.frf⟩
section
variable {X : Cx} {pins : List (Addr × Obj)} {σ : St} {H : Hp} {s : Shared} {E : Value -> Shared -> Prop}
theorem Inv.wish (I : Inv X pins σ H s) (E : Value -> Shared -> Prop) : Inv (X.wish E) pins σ H s := ⟨I.ok.wish E, I.os, I.bare, I.base, I.loc, I.cell, I.free, I.freeC, I.pin, I.hok, I.len⟩
theorem Inv.unwish (I : Inv (X.wish E) pins σ H s) : Inv X pins σ H s := ⟨I.ok.unwish, I.os, I.bare, I.base, I.loc, I.cell, I.free, I.freeC, I.pin, I.hok, I.len⟩
theorem SP.unwish {D : Ends} {f : Flow} {s' : Shared} (h : SP (X.wish E) pins D f s') : SP X pins D f s' := by
  cases f with
  | next => obtain ⟨σ', H', I, q⟩ := h; exact ⟨σ', H', I.unwish, q⟩
  | brk => obtain ⟨σ', H', I, q⟩ := h; exact ⟨σ', H', I.unwish, q⟩
  | cont => obtain ⟨σ', H', I, q⟩ := h; exact ⟨σ', H', I.unwish, q⟩
  | ret u => obtain ⟨v, σ', H', I, r, q⟩ := h; exact ⟨v, σ', H', I.unwish, r, q⟩
theorem PE.nox {e : Expr} {t : TE} (h : PE X.nox e t) : PE X e t := fun pins s σ H Q I hw =>
  wpAny_mono (h pins s σ H Q (I.wish _) hw) (fun _ _ ⟨v, H', I', r, q⟩ => ⟨v, H', I'.unwish, r, q⟩) fun _ _ z => False.elim z
theorem PT.nox {e : Expr} {t : TT} (h : PT X.nox e t) : PT X e t := fun pins s σ H Q I hw =>
  wpAny_mono (h pins s σ H Q (I.wish _) hw) (fun _ _ ⟨H', I', q⟩ => ⟨H', I'.unwish, q⟩) fun _ _ z => False.elim z
theorem PSs.nox {st : List Stmt} {t : TS} (h : PSs X.nox st t) : PSs X st t := fun pins s σ H D I hw =>
  wpAny_mono (h pins s σ H D (I.wish _) hw) (fun _ _ q => q.unwish) fun _ _ z => False.elim z
end
section
variable {X : Cx} {st : Stmt} {Ql : List Stmt} {t u : TS} {e : Expr} {te : TE} {pos : Pos}
noncomputable def CJ : TS := fun D σ H => D.nx σ H
noncomputable def Vz (t u : TS) : TS := fun D σ H => t { D with nx := u D } σ H
theorem Xh : PSs X [] CJ := fun _ _ σ H _ I h => wpAny_execs_nil ⟨σ, H, I, h⟩
theorem Xc (h1 : PS X st t) (h2 : PSs X Ql u) : PSs X (st :: Ql) (Vz t u) := by
  intro pins s σ H D I h
  refine wpAny_execs_cons (thn (h1 pins s σ H { D with nx := u D } I h) fun f s1 q => ?_)
  cases f with
  | next =>
    obtain ⟨σ', H', I', q⟩ := q
    exact h2 pins s1 σ' H' D I' q
  | ret v => exact q
  | brk => exact q
  | cont => exact q
theorem Inv.quiet {pins : List (Addr × Obj)} {σ : St} {H : Hp} {s : Shared} (I : Inv X pins σ H s) : interactive X.env = false := by simp [interactive, I.ok.kind]
noncomputable def DF (te : TE) : TS := fun D σ H => te σ H fun _ H1 => D.nx σ H1
theorem Yz (he : PE X e te) (hs : swapsWith e none pos.line X.env = pure false := by rfl) : PS X (.Expr e pos) (DF te) := by
  intro pins s σ H D I h
  exact wpAny_Expr_any (thn (he pins s σ H _ I h) fun v s1 ⟨x, H1, I1, r1, q1⟩ => ⟨σ, H1, I1, q1⟩) I.quiet hs
noncomputable def Ix (te : TE) : TS := fun D σ H => te σ H D.rt
theorem XF (he : PE X e te) : PS X (.Return (some e) pos) (Ix te) := by
  intro pins s σ H D I h
  exact wpAny_Return_some (thn (he pins s σ H _ I h) fun v s1 ⟨x, H1, I1, r1, q1⟩ => ⟨x, σ, H1, I1, r1, q1⟩)
noncomputable def HE (c : TT) (t u : TS) : TS := fun D σ H => c σ H fun b H1 => if b = true then t D σ H1 else u D σ H1
theorem YD {c : Expr} {a b : List Stmt} {tc : TT} (hc : PT X c tc) (ha : PSs X a t) (hb : PSs X b u) : PS X (.If c a b pos) (HE tc t u) := by
  intro pins s σ H D I h
  refine wpAny_If (thn (hc pins s σ H _ I h) fun d s1 ⟨H1, I1, q1⟩ => ?_)
  cases d with
  | true => exact ha pins s1 σ H1 D I1 q1
  | false => exact hb pins s1 σ H1 D I1 q1
noncomputable def EV : TS := fun _ _ _ => False
theorem Cz : PS X st EV := fun _ _ _ _ _ _ h => h.elim
end
noncomputable abbrev TG := V -> St -> Hp -> (St -> Hp -> Prop) -> Prop
noncomputable abbrev TGs := List V -> St -> Hp -> (St -> Hp -> Prop) -> Prop
noncomputable def PG (X : Cx) (target : Expr) (t : TG) : Prop :=
  ∀ (pins : List (Addr × Obj)) (s : Shared) (σ : St) (H : Hp) (v : V) (u : Value) (Q : St -> Hp -> Prop), Inv X pins σ H s -> Yt v u -> t v σ H Q ->
    wpAny (model X.prog X.w) X.A (assign target X.env u) (fun _ s' => ∃ σ' H', Inv X pins σ' H' s' /\ Q σ' H') X.xe s
noncomputable def PGs (X : Cx) (ts : List Expr) (t : TGs) : Prop :=
  ∀ (pins : List (Addr × Obj)) (s : Shared) (σ : St) (H : Hp) (vs : List V) (us : List Value) (Q : St -> Hp -> Prop), Inv X pins σ H s -> Yl vs us -> t vs σ H Q ->
    wpAny (model X.prog X.w) X.A (assignInOrder ((assignEach ts X.env).map (·.2)) us) (fun _ s' => ∃ σ' H', Inv X pins σ' H' s' /\ Q σ' H') X.xe s
noncomputable abbrev HM := V -> V -> V -> Hp -> (Hp -> Prop) -> Prop
noncomputable def Is (X : Cx) (t : HM) : Prop :=
  ∀ (pins : List (Addr × Obj)) (s : Shared) (σ : St) (H : Hp) (o i v : V) (ov iv u : Value) (Q : Hp -> Prop), Inv X pins σ H s -> Yt o ov -> Yt i iv -> Yt v u -> t o i v H Q ->
    wpAny (model X.prog X.w) X.A (setItem ov iv u) (fun _ s' => ∃ H', Inv X pins σ H' s' /\ Q H') X.xe s
noncomputable abbrev TIp := V -> V -> Hp -> VK -> Prop
noncomputable def PIp (X : Cx) (op : Operator) (t : TIp) : Prop :=
  ∀ (pins : List (Addr × Obj)) (s : Shared) (σ : St) (H : Hp) (x y : V) (v u : Value) (Q : VK), Inv X pins σ H s -> Yt x v -> Yt y u -> t x y H Q ->
    wpAny (model X.prog X.w) X.A (inplaceOp op v u) (EP X pins σ Q) X.xe s
section
variable {X : Cx} {pos : Pos}
noncomputable def Zh (i : Nat) : TG := fun v σ H Q => Q (σ.set i (some v)) H
theorem Xr {i : Nat} {x : Str} (hN : X.N.Nodup) (hi : X.N[i]? = some x) (hx : Loc X.env.scope x) (hf : X.fn x = true ∨ X.env.scope.names.lookup x = some .local := by first | exact .inl rfl | exact .inr rfl | assumption) : PG X (.Name x pos) (Zh i) := by
  intro pins s σ H v u Q I r h
  exact wpAny_assign_Name (QU I hN hi hx r (fun s' I' => ⟨_, H, I', h⟩) hf)
noncomputable def Eh : TGs := fun vs σ H Q => vs = [] /\ Q σ H
noncomputable def Z9 (t : TG) (u : TGs) : TGs := fun vs σ H Q => ∃ v r, vs = v :: r /\ t v σ H fun σ' H' => u r σ' H' Q
theorem ZO : PGs X [] Eh := by
  intro pins s σ H vs us Q I r h
  obtain ⟨e, h⟩ := h
  subst e
  cases r
  exact assignInOrder_nil ⟨σ, H, I, h⟩
theorem XQ {e : Expr} {es : List Expr} {t : TG} {u : TGs} (h1 : PG X e t) (h2 : PGs X es u)
    (hs : (assignEach (e :: es) X.env).map (·.2) = assign e X.env :: (assignEach es X.env).map (·.2) := by rfl) : PGs X (e :: es) (Z9 t u) := by
  intro pins s σ H vs us Q I r h
  obtain ⟨v, vr, e1, h⟩ := h
  subst e1
  cases r with
  | cons r rr =>
    rw [hs]
    refine assignInOrder_cons (thn (h1 pins s σ H _ _ _ I r h) fun _ s1 ⟨σ1, H1, I1, q1⟩ => ?_)
    exact h2 pins s1 σ1 H1 _ _ Q I1 rr q1
noncomputable def Bb (K : PySem.W.Frag) (n : Nat) (t : TGs) : TG := fun v σ H Q => ∃ a xs, v = .ref a /\ SqT K H a xs /\ xs.length = n /\ t xs σ H Q
theorem Q3 {es : List Expr} {k : Nat} {t : TGs} {n : Nat} (hc : X.calm = true) (h : PGs X es t)
    (hn : (assignEach es X.env).length = n := by rfl) (hst : (assignEach es X.env).findIdx? (·.1) = none := by rfl) : PG X (.Tuple es k pos) (Bb X.K n t) := by
  intro pins s σ H v u Q I r hw
  obtain ⟨a, xs, e1, hq, hl, hw⟩ := hw
  subst e1
  cases r
  obtain ⟨its, rv, ht, hz⟩ := I.tuple hq
  refine assign_Tuple_tuple (I.ok.hd hc) ht (by simp [hn, ← hl, rv.length]) hst fun h' hx => ?_
  have I1 : Inv X pins σ H { s with heap := h' } := I.kept (t' := s.toks) fun b o e => hx b o (Nat.ne_of_lt (Heap.lt_size e)) e
  exact h pins _ σ H xs _ Q I1 (by simpa using rv) hw
noncomputable def HU (to ti : TE) (t : HM) : TG := fun v σ H Q => to σ H fun o H1 => ti σ H1 fun i H2 => t o i v H2 fun H3 => Q σ H3
theorem Kn {o i : Expr} {to ti : TE} {t : HM} (ho : PE X o to) (hi : PE X i ti) (hs : Is X t)
    (ha : ∀ v, assign (.Subscript o i pos) X.env v = (do
      let ov ← holding [v] (eval o X.env)
      let iv ← holding [v, ov] (eval i X.env)
      standAt pos
      holding [v, ov, iv] (setItem ov iv v)
      release [v, ov, iv] []) := by intro _; rfl) : PG X (.Subscript o i pos) (HU to ti t) := by
  intro pins s σ H v u Q I r h
  rw [ha]
  refine wpAny_bind (wpAny_holding (thn (ho pins s σ H _ I h) fun ov s1 ⟨x, H1, I1, r1, q1⟩ => ?_))
  refine wpAny_bind (wpAny_holding (thn (hi pins s1 σ H1 _ I1 q1) fun iv s2 ⟨y, H2, I2, r2, q2⟩ => ?_))
  refine wpAny_bind (wpAny_standAt (wpAny_bind (wpAny_holding (thn (hs pins s2 σ H2 x y v ov iv u _ I2 r1 r2 r q2) fun _ s3 ⟨H3, I3, q3⟩ => ?_))))
  exact wpAny_release ⟨σ, H3, I3, q3⟩
noncomputable def Cr (te : TE) (g : TG) : TS := fun D σ H => te σ H fun x H1 => g x σ H1 D.nx
theorem Jx {tg e : Expr} {te : TE} {g : TG} (he : PE X e te) (hg : PG X tg g) (hs : swapsWithSole [tg] e pos.line X.env = pure false := by rfl) (hw : swappedStores [tg] e X.env = pure none := by rfl)
    (h1 : (assignEach [tg] X.env).map (·.2) = [assign tg X.env] := by rfl) : PS X (.Assign [tg] e pos) (Cr te g) := by
  intro pins s σ H D I h
  refine wpAny_Assign_stores (thn (he pins s σ H _ I h) fun v s1 ⟨x, H1, I1, r1, q1⟩ => ?_) hs hw
  rw [h1]
  exact thn (hg pins s1 σ H1 x v _ I1 r1 q1) fun _ s2 q => q
theorem Xp {i : Nat} {x : Str} {e : Expr} {te : TE} {pos' : Pos} (hN : X.N.Nodup) (hi : X.N[i]? = some x) (hx : Loc X.env.scope x) (he : PE X e te) (hs : swapsWith e (some (.Name x pos')) pos.line X.env = pure false := by rfl) (hf : X.fn x = true ∨ X.env.scope.names.lookup x = some .local := by first | exact .inl rfl | exact .inr rfl | assumption) :
    PS X (.Assign [.Name x pos'] e pos) (Cr te (Zh i)) := by
  intro pins s σ H D I h
  refine wpAny_Assign_Name (thn (he pins s σ H _ I h) fun v s1 ⟨y, H1, I1, r1, q1⟩ => ?_) hs
  exact QU I1 hN hi hx r1 (fun s2 I2 => ⟨_, H1, I2, q1⟩) hf
noncomputable def Iw (i j : Nat) (ta : TA) : TS := fun D σ H => ta σ H fun vs H1 => ∃ v w, vs = [v, w] /\ D.nx ((σ.set i (some v)).set j (some w)) H1
theorem Go {i j : Nat} {x y : Str} {a b : Expr} {ta : TA} {px py pt : Pos} {kt k2 pt2} (hc : X.calm = true) (hN : X.N.Nodup) (hi : X.N[i]? = some x) (hj : X.N[j]? = some y) (hij : i ≠ j)
    (hx : X.env.scope.names.lookup x = some .local) (hy : X.env.scope.names.lookup y = some .local) (ha : PA X [a, b] ta)
    (hw : swappedStores [.Tuple [.Name x px, .Name y py] kt pt] (.Tuple [a, b] k2 pt2) X.env = pure (some [x, y]))
    (hs : swapsWithSole [.Tuple [.Name x px, .Name y py] kt pt] (.Tuple [a, b] k2 pt2) pos.line X.env = pure false := by rfl) :
    PS X (.Assign [.Tuple [.Name x px, .Name y py] kt pt] (.Tuple [a, b] k2 pt2) pos) (Iw i j ta) := by
  intro pins s σ H D I h
  rw [exec_Assign_arm]
  refine wpAny_bind (wpAny_standAt ?_)
  rw [hs]
  refine wpAny_bind (wpAny_pure ?_)
  rw [if_neg (by decide)]
  refine wpAny_bind (Tuple_ (thn (ha _ pins s σ H _ I h) fun us s1 ⟨vs, H1, I1, r1, q1⟩ => ?_))
  obtain ⟨v, w, e1, q1⟩ := q1
  subst e1
  obtain ⟨u1, u2, rfl, rv, rw'⟩ : ∃ u1 u2, us = [u1, u2] /\ Yt v u1 /\ Yt w u2 := by
    cases r1 with
    | cons p q =>
      cases q with
      | cons p' q' =>
        cases q'
        exact ⟨_, _, rfl, p, p'⟩
  refine wpAny_newObj_type ?_ (by show 2 <= sizeLine; decide)
  have I2 : Inv X pins σ H1 { s1 with heap := s1.heap.push { cls := .type "tuple", data := .seq [u1, u2].toArray } } := I1.kept (t' := s1.toks) fun b o e => Heap.get?_push_of_some _ e
  rw [hw]
  refine wpAny_bind (wpAny_pure ?_)
  show wpAny (model X.prog X.w) X.A (do rule "assign.swapped-stores"; let items ← unpackItems (.ref s1.heap.objs.size) 2 none; assignInOrder [fun v => bindName X.env y v, fun v => bindName X.env x v] items.reverse; pure Flow.next) _ _ _
  refine wpAny_bind (wpAny_rule (wpAny_bind (unpackItems_tuple (items := #[u1, u2]) (I.ok.hd hc) (IsTup.new s1.heap _) fun h' hx' => ?_)))
  have I3 := I2.kept (h' := h') (t' := s1.toks) fun b o e => hx' b o (Nat.ne_of_lt (Heap.lt_size e)) e
  show wpAny _ _ (assignInOrder [fun v => bindName X.env y v, fun v => bindName X.env x v] [u2, u1] >>= fun _ => pure Flow.next) _ _ _
  refine wpAny_bind (assignInOrder_cons (wpAny_bindName (QU I3 hN hj (.inl hy) rw' (fun s2 I4 => ?_) (.inr hy))))
  refine assignInOrder_cons (wpAny_bindName (QU I4 hN hi (.inl hx) rv (fun s3 I5 => assignInOrder_nil (wpAny_pure ?_)) (.inr hx)))
  rw [List.set_comm _ _ (Ne.symm hij)] at I5
  exact ⟨_, H1, I5, q1⟩
noncomputable def Ip (i : Nat) (te : TE) (ti : TIp) : TS := fun D σ H => ∃ x, σ[i]? = some (some x) /\ te σ H fun y H1 => ti x y H1 fun z H2 => D.nx (σ.set i (some z)) H2
theorem Bk {i : Nat} {x : Str} {e : Expr} {te : TE} {op : Operator} {ti : TIp} {pos' : Pos} (hN : X.N.Nodup) (hi : X.N[i]? = some x) (hx : Loc X.env.scope x) (he : PE X e te) (ho : PIp X op ti) (hf : X.fn x = true ∨ X.env.scope.names.lookup x = some .local := by first | exact .inl rfl | exact .inr rfl | assumption) :
    PS X (.AugAssign (.Name x pos') op e pos) (Ip i te ti) := by
  intro pins s σ H D I h
  obtain ⟨v, e1, h⟩ := h
  obtain ⟨m, hn, hl⟩ := I.loc
  have vis : Vis X.env.scope x := by rcases hx with k | k; exact .inl k; exact .inr (.inl k)
  obtain ⟨u, r, l⟩ := hl i x v hi e1 vis
  refine wpAny_AugAssign_Name ?_
  have go : wpAny (model X.prog X.w) X.A (eval e X.env) (fun w s₂ => wpAny (model X.prog X.w) X.A (inplaceOp op u w) (fun r s₃ => wpAny (model X.prog X.w) X.A (storeName X.env x r) (fun _ => SP X pins D .next) X.xe s₃) X.xe s₂) X.xe s := by
    refine thn (he pins s σ H _ I h) fun w s1 ⟨y, H1, I1, r1, q1⟩ => ?_
    refine thn (ho pins s1 σ H1 v y u w _ I1 r r1 q1) fun z s2 ⟨zv, H2, I2, r2, q2⟩ => ?_
    exact QU I2 hN hi hx r2 (fun s3 I3 => ⟨_, H2, I3, q2⟩) hf
  rcases l with ⟨hk, hm⟩ | ⟨hk, c, hc, hcell⟩
  · exact wpAny_loadName_local I.ok.kind hk hn hm go
  · rcases hk with hk | hk
    · exact wpAny_loadName_cell I.ok.kind hk hc hcell go
    · rcases hx with k | k
      · have : X.env.scope.names.lookup x = some .free := hk
        rw [k] at this; cases this
      · have : X.env.scope.names.lookup x = some .free := hk
        rw [k] at this; cases this
noncomputable def ipI (f : Int -> Int -> Int) : TIp := fun x y H Q => ∃ i j, x = .int i /\ y = .int j /\ Q (.int (f i j)) H
theorem Bo : PIp X .Add (ipI fun i j => i + j) := by
  intro pins s σ H x y v u Q I r1 r2 h
  obtain ⟨i, j, e1, e2, q⟩ := h
  subst e1; subst e2
  obtain ⟨t, rfl⟩ := r1
  obtain ⟨t', rfl⟩ := r2
  exact iadd_int ⟨.int _, H, I.tok _, ⟨_, rfl⟩, q⟩
end
section
variable {X : Cx} {pos : Pos}
noncomputable def Bp (c : TT) (tb : TS) : TS := fun D σ H => ∃ W : Nat -> St -> Hp -> Prop, (∃ m, W m σ H) /\ ∀ m σ H, W m σ H ->
  c σ H fun b H1 => if b = true then ∃ N : St -> Hp -> Prop, (∀ σ' H', N σ' H' -> ∃ m', m' < m /\ W m' σ' H') /\ tb { D with nx := N, ct := N, bk := D.nx } σ H1 else D.nx σ H1
theorem Uo {c : Expr} {body : List Stmt} {tc : TT} {tb : TS} (hp : PassesOwn (model X.prog X.w) X.A X.env X.xe) (hc : PT X c tc) (hb : PSs X body tb) : PS X (.While c body [] pos) (Bp tc tb) := by
  intro pins s σ H D I h
  obtain ⟨W, ⟨m0, w0⟩, turn⟩ := h
  refine wpAny_While (codeAny_whileLoop (fun n s' => ∃ σ' H', Inv X pins σ' H' s' /\ W n σ' H') ?_ m0 ⟨σ, H, I, w0⟩)
  rintro n s1 ⟨σ1, H1, I1, w1⟩
  refine wpAny_passesOwn hp (thn (hc pins s1 σ1 H1 _ I1 (turn n σ1 H1 w1)) fun b s2 ⟨H2, I2, q2⟩ => ?_)
  cases b with
  | true =>
    obtain ⟨N, hN, q2⟩ := q2
    rw [if_pos rfl]
    refine wpAny_passesOwn hp (thn (hb pins s2 σ1 H2 _ I2 q2) fun f s3 q3 => ?_)
    cases f with
    | next =>
      obtain ⟨σ3, H3, I3, n3⟩ := q3
      obtain ⟨m', hm, w3⟩ := hN σ3 H3 n3
      exact ⟨m', hm, σ3, H3, I3, w3⟩
    | cont =>
      obtain ⟨σ3, H3, I3, n3⟩ := q3
      obtain ⟨m', hm, w3⟩ := hN σ3 H3 n3
      exact ⟨m', hm, σ3, H3, I3, w3⟩
    | brk => exact q3
    | ret v => exact q3
  | false =>
    rw [if_neg Bool.false_ne_true]
    exact wpAny_execs_nil ⟨σ1, H2, I2, q2⟩
end
structure It where
  go : Nat -> Hp -> Prop
  yld : Nat -> Hp -> V -> Hp -> Prop
  stop : Nat -> Hp -> Prop
noncomputable def Ci (X : Cx) (pins : List (Addr × Obj)) (H : Hp) (b : Addr) : Prop :=
  H b = none /\ b ≠ X.env.locals /\ b ∉ X.fs /\ (b ∈ X.ex ∨ X.s₀.heap.objs.size <= b) /\ (∀ x c, X.env.cells.lookup x = some c -> c ≠ b) /\ ∀ p ∈ X.pn ++ pins, p.1 ≠ b
theorem Inv.fpOk {X : Cx} {pins : List (Addr × Obj)} {σ : St} {H H' : Hp} {s : Shared} {b : Addr} (I : Inv X pins σ H s) (hb : s.heap.objs.size <= b) (hn : H' b = none) : Ci X pins H' b := by
  refine ⟨hn, Nat.ne_of_gt (Nat.lt_of_lt_of_le I.lt hb), I.nofs hb, .inr (Nat.le_trans I.sz hb), fun x c e z => ?_, fun p hp z => ?_⟩
  · obtain ⟨v, q⟩ := I.cell x c e
    exact absurd (Nat.lt_of_lt_of_le q.lt (by rw [z]; exact hb)) (Nat.lt_irrefl _)
  · exact absurd (Nat.lt_of_lt_of_le (Heap.lt_size (I.pin p hp).1) (by rw [z]; exact hb)) (Nat.lt_irrefl _)
structure Turn (P : Program) (w : World) (K : PySem.W.Frag) (tg : Expr) (J : It) (fp : List Addr) (it : Addr) (tn : Nat -> Heap -> Prop) : Prop where
  mem : it ∈ fp
  obj : ∀ i h, tn i h -> ∀ b ∈ fp, ∃ o, h.get? b = some o /\ ∀ v, o.data ≠ .cell v
  keep : ∀ i h h', tn i h -> (∀ b ∈ fp, ∀ o, h.get? b = some o -> h'.get? b = some o) -> tn i h'
  item : ∀ (X : Cx), X.prog = P -> X.w = w -> X.K = K -> X.calm = true -> ∀ (i : Nat) (pins : List (Addr × Obj)) (s : Shared) (σ : St) (H : Hp) (E : Value -> Shared -> Prop), Inv X pins σ H s -> (∀ b ∈ fp, Ci X pins H b) -> tn i s.heap -> J.go i H ->
    wpAny (model P w) X.A (pyNext (.ref it)) (fun r s1 => ∃ u, r = some u /\
      wpAny (model P w) X.A (letOwnedTupleGo tg (.ref it) u) (fun _ s2 => ∃ x H', Inv X pins σ H' s2 /\ Yt x u /\ J.yld i H x H' /\ tn (i + 1) s2.heap /\ ∀ b ∈ fp, H' b = none) E s1) E s
  done : ∀ (X : Cx), X.prog = P -> X.w = w -> X.K = K -> X.calm = true -> ∀ (i : Nat) (pins : List (Addr × Obj)) (s : Shared) (σ : St) (H : Hp) (E : Value -> Shared -> Prop), Inv X pins σ H s -> (∀ b ∈ fp, Ci X pins H b) -> tn i s.heap -> J.stop i H ->
    wpAny (model P w) X.A (pyNext (.ref it)) (fun r s1 => r = none /\ Inv X pins σ H s1) E s
  self : ∀ (A : Around) (i : Nat) (s : Shared) (Q : Value -> Shared -> Prop) (E : Value -> Shared -> Prop), tn i s.heap -> Q (.ref it) s -> wpAny (model P w) A (pyIter (.ref it)) Q E s
noncomputable abbrev TI := St -> Hp -> (It -> Hp -> Prop) -> Prop
noncomputable def PIE (X : Cx) (pins : List (Addr × Obj)) (σ : St) (tg : Expr) (R : It -> Hp -> Prop) (itv : Value) (s2 : Shared) : Prop :=
  ∃ (it : Addr) (fp : List Addr) (tn : Nat -> Heap -> Prop) (J : It) (H' : Hp), itv = .ref it /\ Inv X pins σ H' s2 /\ Turn X.prog X.w X.K tg J fp it tn /\ tn 0 s2.heap /\ (∀ b ∈ fp, Ci X pins H' b) /\ R J H'
noncomputable def PI (X : Cx) (tg iter : Expr) (wi : TI) : Prop :=
  ∀ (pins : List (Addr × Obj)) (s : Shared) (σ : St) (H : Hp) (R : It -> Hp -> Prop), Inv X pins σ H s -> wi σ H R ->
    wpAny (model X.prog X.w) X.A (eval iter X.env) (fun v s1 => wpAny (model X.prog X.w) X.A (pyIter v) (PIE X pins σ tg R) X.xe s1) X.xe s
theorem EK {M : Model} {A : Around} {E : Value -> Shared -> Prop} {s : Shared} {tg : Expr} {it : Addr} {u : Value} {o : Obj} {n : String} {vs : Array Value} {Q : Unit -> Shared -> Prop} (ho : s.heap.get? it = some o) (hc : o.cls = .type n) (hd : o.data = .fields vs)
    (hn : ["enumerate", "zip", "dict_itemiterator", "dict_reverseitemiterator", "odict_iterator", "itertools.zip_longest", "itertools.pairwise"].contains n = false) (hQ : Q () s) : wpAny M A (letOwnedTupleGo tg (.ref it) u) Q E s := by
  unfold letOwnedTupleGo
  cases tg <;> first
    | exact wpAny_pure hQ
    | (cases u <;> first
        | exact wpAny_pure hQ
        | (refine wpAny_bind (wpAny_load ho ?_)
           rw [hc, hd]
           show wpAny M A (if (["enumerate", "zip", "dict_itemiterator", "dict_reverseitemiterator", "odict_iterator", "itertools.zip_longest", "itertools.pairwise"].contains n && vs[0]? == some (rawInt _)) = true then _ else _) Q E s
           rw [if_neg (by intro h; rw [hn, Bool.false_and] at h; cases h)]
           exact wpAny_pure hQ))
noncomputable def Itl (K : PySem.W.Frag) (a : Addr) : It :=
  ⟨fun i H => ∃ xs x, SqL K H a xs /\ xs[i]? = some x, fun i H x H' => H' = H /\ ∀ xs, SqL K H a xs -> xs[i]? = some x, fun i H => ∃ xs, SqL K H a xs /\ xs.length <= i⟩
noncomputable def Itr (lo : Int) (n : Nat) : It := ⟨fun i _ => i < n, fun i H x H' => H' = H /\ x = .int (lo + i), fun i _ => n <= i⟩
theorem Dd {P : Program} {w : World} {K : PySem.W.Frag} {tg : Expr} (a it : Addr) : Turn P w K tg (Itl K a) [it] it (fun i h => h.IsListIter it a i) where
  mem := by simp
  obj := fun i h st b hb => by
    have e : b = it := by simpa using hb
    subst e
    obtain ⟨o, e, c, d⟩ := st
    exact ⟨o, e, fun v z => by rw [d] at z; cases z⟩
  keep := fun i h h' st k => st.at fun o e => k it (by simp) o e
  item := by
    intro X hP hw hK hc i pins s σ H E I hf st hg
    subst hP hw hK
    obtain ⟨xs, x, hq, hx⟩ := hg
    obtain ⟨its, rv, p, hz⟩ := I.list hq
    obtain ⟨u, hu, ru⟩ := rv.get hx
    obtain ⟨f0, f1, f2, f3, f4, f5⟩ := hf it (by simp)
    refine wpAny_pyNext_list_item st p.isList (x := u) (by simpa using hu) fun h' st' sb => ?_
    have I1 : Inv X pins σ H { s with heap := h' } := I.turned (t' := s.toks) (fun b o hb e => (sb.2 b hb).trans e) f0 f1 f3 f4 f5
    obtain ⟨o, e, c, d⟩ := id st'
    exact ⟨u, rfl, EK (s := { s with heap := h' }) e c d (by decide) ⟨x, H, I1, ru, ⟨rfl, fun ys hy => by rw [I.list_inj hy hq]; exact hx⟩, st', fun b hb => (hf b hb).1⟩⟩
  done := by
    intro X hP hw hK hc i pins s σ H E I hf st hg
    subst hP hw hK
    obtain ⟨xs, hq, hx⟩ := hg
    obtain ⟨its, rv, p, hz⟩ := I.list hq
    obtain ⟨f0, f1, f2, f3, f4, f5⟩ := hf it (by simp)
    have hl := rv.length
    exact wpAny_pyNext_list_end (I.ok.hd hc) st p.isList (by simp; omega) fun h' eb => ⟨rfl, I.turned (t' := s.toks) (fun b o hb e => eb b o hb e) f0 f1 f3 f4 f5⟩
  self := fun _ _ _ _ _ st h => wpAny_pyIter_listiter st h
theorem G2 {P : Program} {w : World} {K : PySem.W.Frag} {tg : Expr} (it : Addr) (lo : Int) (n : Nat) : Turn P w K tg (Itr lo n) [it] it (fun i h => IsRangeIter h it (lo + (i : Nat) * 1) ((n : Int) - (i : Nat)) 1) where
  mem := by simp
  obj := fun i h st b hb => by
    have e : b = it := by simpa using hb
    subst e
    exact ⟨_, st, fun v z => by
      have z' : Data.fields _ = Data.cell v := z
      cases z'⟩
  keep := fun i h h' st k => k it (by simp) _ st
  item := by
    intro X hP hw hK hc i pins s σ H E I hf st hg
    subst hP hw hK
    obtain ⟨f0, f1, f2, f3, f4, f5⟩ := hf it (by simp)
    have W := Walks.range (prog := X.prog) (w := X.w) (I.ok.hd hc) it lo 1 n
    refine W.item i s _ _ hg st fun v h' tk hv st' kk => ?_
    obtain ⟨t, rfl⟩ := hv
    have I1 : Inv X pins σ H { s with heap := h', toks := tk } := I.turned (fun b o hb e => kk b o (by simpa using hb) e) f0 f1 f3 f4 f5
    refine ⟨_, rfl, EK (s := { s with heap := h', toks := tk }) (n := "range_iterator") st' rfl rfl (by decide) ⟨.int (lo + i), H, I1, ⟨t, ?_⟩, ⟨rfl, rfl⟩, st', fun b hb => (hf b hb).1⟩⟩
    rw [Int.mul_one]
  done := by
    intro X hP hw hK hc i pins s σ H E I hf st hg
    subst hP hw hK
    obtain ⟨f0, f1, f2, f3, f4, f5⟩ := hf it (by simp)
    exact wpAny_pyNext_range_end (I.ok.hd hc) st (by have : n <= i := hg; omega) fun h' eb => ⟨rfl, I.turned (t' := s.toks) (fun b o hb e => eb b o hb e) f0 f1 f3 f4 f5⟩
  self := fun _ _ _ _ _ st h => wpAny_pyIter_rangeiter st h
end L2
namespace L2
open PySem PySem.Spec PyProof.Rows
section
variable {X : Cx} {tg : Expr}
noncomputable def Ea (K : PySem.W.Frag) (tl : TE) : TI := fun σ H R => tl σ H fun x H1 => ∃ a, x = .ref a /\ (∃ xs, SqL K H1 a xs) /\ R (Itl K a) H1
theorem BU {l : Expr} {tl : TE} (hl : PE X l tl) : PI X tg l (Ea X.K tl) := by
  intro pins s σ H R I h
  refine thn (hl pins s σ H _ I h) fun v s1 ⟨x, H1, I1, r1, q1⟩ => ?_
  obtain ⟨a, e, ⟨xs, hq⟩, q⟩ := q1
  subst e
  cases r1
  obtain ⟨its, rv, p, hz⟩ := I1.list hq
  refine wpAny_pyIter_list p.isList ?_
  refine ⟨s1.heap.objs.size, [s1.heap.objs.size], _, _, H1, rfl, I1.kept (t' := s1.toks) fun b o e => Heap.get?_push_of_some _ e, Dd a _, ⟨_, Heap.get?_push_size _ rfl, rfl, rfl⟩, fun b hb => ?_, q⟩
  have e : b = s1.heap.objs.size := by simpa using hb
  subst e
  exact I1.fpOk (Nat.le_refl _) (I1.hok.fresh (Nat.le_refl _))
theorem CU {pins : List (Addr × Obj)} {σ : St} {H : Hp} {s : Shared} {R : It -> Hp -> Prop} {E : Value -> Shared -> Prop} {lo hi : Int} {t u v : Tok} {tk : Nat} (I : Inv X pins σ H s) (h1 : -(2 ^ 62) <= lo) (h2 : lo < 2 ^ 62) (h3 : -(2 ^ 62) <= hi) (h4 : hi < 2 ^ 62)
    (q : R (Itr lo (hi - lo).toNat) H) : wpAny (model X.prog X.w) X.A (pyIter (.ref s.heap.objs.size)) (PIE X pins σ tg R) E { s with heap := s.heap.push { cls := .type "range", data := .fields #[.int lo t, .int hi u, .int 1 v] }, toks := tk } := by
  refine wpAny_pyIter_range (IsRange.new ..) (small_one h1 h2 h3 h4) ?_
  have I1 : Inv X pins σ H { s with heap := s.heap.push { cls := .type "range", data := .fields #[.int lo t, .int hi u, .int 1 v] }, toks := tk } := I.kept fun b o e => Heap.get?_push_of_some _ e
  refine ⟨(s.heap.push { cls := .type "range", data := .fields #[.int lo t, .int hi u, .int 1 v] }).objs.size, [(s.heap.push { cls := .type "range", data := .fields #[.int lo t, .int hi u, .int 1 v] }).objs.size], _, _, H, rfl,
    I1.kept (t' := tk) fun b o e => Heap.get?_push_of_some _ e, G2 _ lo (hi - lo).toNat, ?_, fun b hb => ?_, q⟩
  · have e1 : lo + ((0 : Nat) : Int) * 1 = lo := by simp
    have e2 : (((hi - lo).toNat : Nat) : Int) - ((0 : Nat) : Int) = Builtin.Range.rangeSize lo hi 1 := by rw [rangeSize_one]; split <;> omega
    show IsRangeIter _ _ (lo + ((0 : Nat) : Int) * 1) ((((hi - lo).toNat : Nat) : Int) - ((0 : Nat) : Int)) 1
    rw [e1, e2]
    exact Heap.get?_push_size _ rfl
  · have e : b = (s.heap.push { cls := .type "range", data := .fields #[.int lo t, .int hi u, .int 1 v] }).objs.size := by simpa using hb
    subst e
    exact I1.fpOk (Nat.le_refl _) (I1.hok.fresh (Nat.le_refl _))
noncomputable def EJ (ta : TA) : TI := fun σ H R => ta σ H fun vs H1 => ∃ j : Int, vs = [.int j] /\ -(2 ^ 62) <= j /\ j < 2 ^ 62 /\ R (Itr 0 j.toNat) H1
theorem X1 {a : Expr} {ta : TA} {p pos : Pos} (hg : Gl X "range") (hm : X.mg "range" = none) (ha : PA X [a] ta) (hs : starEach [a] X.env = [(false, eval a X.env)] := by rfl) : PI X tg (.Call (.Name "range" p) [a] [] pos) (EJ ta) := by
  intro pins s σ H R I h
  refine Call_ (Vg I hg hm boot_range (PyProof.Rows.callWith_type1 (thn (ha pos pins s σ H _ I h) fun us s1 ⟨vs, H1, I1, r1, q1⟩ => ?_) hs rfl))
  obtain ⟨j, e, q1, q2, q⟩ := q1
  subst e
  cases r1 with
  | cons r rr =>
    cases rr
    obtain ⟨t, rfl⟩ := r
    exact call_range_1 (CU I1 (by omega) (by omega) q1 q2 (by simpa using q))
noncomputable def HX (wi : TI) (g : TG) (tb : TS) : TS := fun D σ H => wi σ H fun J H1 => ∃ W : Nat -> Nat -> St -> Hp -> Prop, (∃ m, W 0 m σ H1) /\ ∀ i m σ H, W i m σ H ->
  (J.stop i H /\ D.nx σ H) ∨ (J.go i H /\ ∃ N : St -> Hp -> Prop, (∀ σ' H', N σ' H' -> ∃ m', m' < m /\ W (i + 1) m' σ' H') /\ ∀ x H', J.yld i H x H' -> g x σ H' fun σ2 H2 => tb { D with nx := N, ct := N, bk := D.nx } σ2 H2)
noncomputable def VP (fp : List Addr) (h : Heap) : List (Addr × Obj) := fp.filterMap fun b => (h.get? b).map fun o => (b, o)
theorem Zs {fp : List Addr} {h : Heap} {b : Addr} {o : Obj} (hb : b ∈ fp) (e : h.get? b = some o) : (b, o) ∈ VP fp h := List.mem_filterMap.mpr ⟨b, hb, by rw [e]; rfl⟩
theorem Kf {fp : List Addr} {h : Heap} {p : Addr × Obj} (hp : p ∈ VP fp h) : p.1 ∈ fp /\ h.get? p.1 = some p.2 := by
  obtain ⟨b, hb, e⟩ := List.mem_filterMap.mp hp
  cases q : h.get? b with
  | none => rw [q] at e; cases e
  | some o =>
    rw [q] at e
    have e' : (b, o) = p := Option.some.inj e
    subst e'
    exact ⟨hb, q⟩
theorem Inv.pinned {pins : List (Addr × Obj)} {σ : St} {H : Hp} {s : Shared} {fp : List Addr} (I : Inv X pins σ H s) (hf : ∀ b ∈ fp, Ci X pins H b) (ho : ∀ b ∈ fp, ∃ o, s.heap.get? b = some o /\ ∀ v, o.data ≠ .cell v) : Inv X (pins ++ VP fp s.heap) σ H s :=
  I.pins_of fun p hp => (List.mem_append.mp hp).elim (fun z => I.pin p (List.mem_append_right _ z)) fun z => by
    obtain ⟨hb, e⟩ := Kf z
    obtain ⟨f0, f1, f2, _⟩ := hf p.1 hb
    obtain ⟨o, e', d⟩ := ho p.1 hb
    rw [e] at e'; cases e'
    exact ⟨e, f0, f1, f2, d⟩
theorem Inv.unpinned {pins pl : List (Addr × Obj)} {σ : St} {H : Hp} {s : Shared} (I : Inv X (pins ++ pl) σ H s) : Inv X pins σ H s := I.pins_of fun p hp => I.pin p (List.mem_append_right _ (List.mem_append_left _ hp))
theorem Yf {iter : Expr} {body : List Stmt} {wi : TI} {g : TG} {tb : TS} {pos : Pos} (hp : PassesOwn (model X.prog X.w) X.A X.env X.xe) (hc : X.calm = true) (hi : PI X tg iter wi) (hg : PG X tg g) (hb : PSs X body tb)
    (hs : ∀ x, foldedSetIterable iter X.env x = pure x := by intro _; rfl) : PS X (.For tg iter body [] pos) (HX wi g tb) := by
  intro pins s σ H D I h
  refine wpAny_For (thn (hi pins s σ H _ I h) fun v s1 h1 => thn h1 fun itv s2 h2 => ?_) hs
  obtain ⟨it, fp, tn, J, H2, e, I2, T, st2, f2, W, ⟨m0, w0⟩, turn⟩ := h2
  subst e
  -- what stays true of the iterator's objects through the loop
  have stat : ∀ {H' : Hp}, (∀ b ∈ fp, H' b = none) -> ∀ b ∈ fp, Ci X pins H' b := fun hn b hb => ⟨hn b hb, (f2 b hb).2⟩
  refine codeAny_forLoop_any (fun n s' => ∃ i σ' H', Inv X pins σ' H' s' /\ tn i s'.heap /\ (∀ b ∈ fp, H' b = none) /\ W i n σ' H') ?_ m0 ⟨0, σ, H2, I2, st2, fun b hb => (f2 b hb).1, w0⟩
  rintro n s3 ⟨i, σ3, H3, I3, st3, fr3, w3⟩
  rcases turn i n σ3 H3 w3 with ⟨stop, qn⟩ | ⟨go, N, hN, step⟩
  · refine wpAny_passesOwn hp (thn (T.done X rfl rfl rfl hc i pins s3 σ3 H3 X.xe I3 (stat fr3) st3 stop) fun r s4 ⟨hr, I4⟩ => ?_)
    subst hr
    exact wpAny_execs_nil ⟨σ3, H3, I4, qn⟩
  · refine wpAny_passesOwn hp (thn (T.item X rfl rfl rfl hc i pins s3 σ3 H3 X.xe I3 (stat fr3) st3 go) fun r s4 ⟨u, hr, h4⟩ => ?_)
    subst hr
    refine wpAny_passesOwn hp (thn h4 fun _ s5 ⟨x, H5, I5, r5, y5, st5, fr5⟩ => ?_)
    have I5' := I5.pinned (stat fr5) (T.obj _ _ st5)
    refine wpAny_passesOwn hp (thn (hg _ s5 σ3 H5 x u _ I5' r5 (step x H5 y5)) fun _ s6 ⟨σ6, H6, I6, q6⟩ => ?_)
    refine wpAny_passesOwn hp (thn (hb _ s6 σ6 H6 _ I6 q6) fun f s7 q7 => ?_)
    have again : ∀ {σ7 : St} {H7 : Hp}, Inv X (pins ++ VP fp s5.heap) σ7 H7 s7 -> N σ7 H7 -> ∃ m, m < n /\ ∃ i σ' H', Inv X pins σ' H' s7 /\ tn i s7.heap /\ (∀ b ∈ fp, H' b = none) /\ W i m σ' H' := fun {σ7 H7} I7 n7 => by
      obtain ⟨m', hm, w7⟩ := hN σ7 H7 n7
      refine ⟨m', hm, i + 1, σ7, H7, I7.unpinned, T.keep _ _ _ st5 fun b hb o e => (I7.pin (b, o) (List.mem_append_right _ (List.mem_append_right _ (Zs hb e)))).1, fun b hb => ?_, w7⟩
      obtain ⟨o, e, d⟩ := T.obj _ _ st5 b hb
      exact (I7.pin (b, o) (List.mem_append_right _ (List.mem_append_right _ (Zs hb e)))).2.1
    cases f with
    | next => obtain ⟨σ7, H7, I7, n7⟩ := q7; exact again I7 n7
    | cont => obtain ⟨σ7, H7, I7, n7⟩ := q7; exact again I7 n7
    | brk => obtain ⟨σ7, H7, I7, q7⟩ := q7; exact ⟨σ7, H7, I7.unpinned, q7⟩
    | ret v => obtain ⟨x7, σ7, H7, I7, r7, q7⟩ := q7; exact ⟨x7, σ7, H7, I7.unpinned, r7, q7⟩
end
end L2
namespace L2
open PySem PySem.Spec PyProof.Rows
noncomputable abbrev R2 := V -> V -> Hp -> VK -> Prop
noncomputable def OpR (X : Cx) (f : Value -> Value -> Sem Value) (r : R2) : Prop :=
  ∀ (pins : List (Addr × Obj)) (s : Shared) (σ : St) (H : Hp) (x y : V) (v u : Value) (Q : VK), Inv X pins σ H s -> Yt x v -> Yt y u -> r x y H Q ->
    wpAny (model X.prog X.w) X.A (f v u) (EP X pins σ Q) X.xe s
noncomputable def UnR (X : Cx) (f : Value -> Sem Value) (r : V -> Hp -> VK -> Prop) : Prop :=
  ∀ (pins : List (Addr × Obj)) (s : Shared) (σ : St) (H : Hp) (x : V) (v : Value) (Q : VK), Inv X pins σ H s -> Yt x v -> r x H Q ->
    wpAny (model X.prog X.w) X.A (f v) (EP X pins σ Q) X.xe s
noncomputable def Qi (X : Cx) (f : Value) (r : List V -> Hp -> VK -> Prop) : Prop :=
  ∀ (pins : List (Addr × Obj)) (s : Shared) (σ : St) (H : Hp) (xs : List V) (us : List Value) (Q : VK), Inv X pins σ H s -> Yl xs us -> r xs H Q ->
    wpAny (model X.prog X.w) X.A (call f us) (EP X pins σ Q) X.xe s
noncomputable def tOp (r : R2) (ta tb : TE) : TE := fun σ H Q => ta σ H fun x H1 => tb σ H1 fun y H2 => r x y H2 Q
noncomputable def tUn (r : V -> Hp -> VK -> Prop) (ta : TE) : TE := fun σ H Q => ta σ H fun x H1 => r x H1 Q
noncomputable def rI (C : Int -> Int -> Prop) (g : Int -> Int -> V) : R2 := fun x y H Q => ∃ i j, x = .int i /\ y = .int j /\ C i j /\ Q (g i j) H
noncomputable def rI0 (g : Int -> Int -> V) : R2 := fun x y H Q => ∃ i j, x = .int i /\ y = .int j /\ Q (g i j) H
noncomputable def rU (g : Int -> V) : V -> Hp -> VK -> Prop := fun x H Q => ∃ i, x = .int i /\ Q (g i) H
section
variable {X : Cx} {a b c : Expr} {ta tb tc : TE} {pos : Pos}
theorem HN (ha : PE X a ta) (hb : PE X b tb) {pins : List (Addr × Obj)} {s : Shared} {σ : St} {H : Hp} {R : V -> V -> Hp -> Prop} (I : Inv X pins σ H s)
    (h : ta σ H fun x H1 => tb σ H1 fun y H2 => R x y H2) {Q : Value -> Shared -> Prop} {f : Value -> Value -> Sem Value}
    (hf : ∀ v u s2 x y H2, Inv X pins σ H2 s2 -> Yt x v -> Yt y u -> R x y H2 -> wpAny (model X.prog X.w) X.A (f v u) Q X.xe s2) :
    wpAny (model X.prog X.w) X.A (eval a X.env) (fun v s₁ => wpAny (model X.prog X.w) X.A (eval b X.env) (fun u s₂ => wpAny (model X.prog X.w) X.A (f v u) Q X.xe s₂) X.xe s₁) X.xe s := by
  refine thn (ha pins s σ H _ I h) fun v s1 ⟨x, H1, I1, r1, q1⟩ => ?_
  refine thn (hb pins s1 σ H1 _ I1 q1) fun u s2 ⟨y, H2, I2, r2, q2⟩ => ?_
  exact hf v u s2 x y H2 I2 r1 r2 q2
theorem Xq {op : Operator} {r : R2} (ho : OpR X (binaryOp op) r) (ha : PE X a ta) (hb : PE X b tb) : PE X (.BinOp a op b pos) (tOp r ta tb) := by
  intro pins s σ H Q I h
  exact wpAny_BinOp (HN ha hb I h fun v u s2 x y H2 I2 rx ry q => ho pins s2 σ H2 x y v u Q I2 rx ry q)
theorem Vi {op : UnaryOp} {r : V -> Hp -> VK -> Prop} (ho : UnR X (unaryOp op) r) (ha : PE X a ta) : PE X (.UnaryOp op a pos) (tUn r ta) := by
  intro pins s σ H Q I h
  exact UnaryOp_ (thn (ha pins s σ H _ I h) fun v s1 ⟨x, H1, I1, r1, q1⟩ => ho pins s1 σ H1 x v Q I1 r1 q1)
theorem opI {f : Value -> Value -> Sem Value} {C : Int -> Int -> Prop} {g : Int -> Int -> Int}
    (rule : ∀ (i j : Int) (t u : Tok) (s : Shared) (Q : Value -> Shared -> Prop) (E : Value -> Shared -> Prop), C i j -> Q (.int (g i j) s.toks) { s with toks := s.toks + 1 } -> wpAny (model X.prog X.w) X.A (f (.int i t) (.int j u)) Q E s) :
    OpR X f (rI C fun i j => .int (g i j)) := by
  intro pins s σ H x y v u Q I rx ry h
  obtain ⟨i, j, rfl, rfl, hc, q⟩ := h
  obtain ⟨t, rfl⟩ := rx
  obtain ⟨t', rfl⟩ := ry
  exact rule i j t t' s _ _ hc ⟨.int (g i j), H, I.tok _, ⟨_, rfl⟩, q⟩
theorem Il {f : Value -> Value -> Sem Value} {g : Int -> Int -> Int}
    (rule : ∀ (i j : Int) (t u : Tok) (s : Shared) (Q : Value -> Shared -> Prop) (E : Value -> Shared -> Prop), Q (.int (g i j) s.toks) { s with toks := s.toks + 1 } -> wpAny (model X.prog X.w) X.A (f (.int i t) (.int j u)) Q E s) :
    OpR X f (rI0 fun i j => .int (g i j)) := by
  intro pins s σ H x y v u Q I rx ry h
  obtain ⟨i, j, rfl, rfl, q⟩ := h
  obtain ⟨t, rfl⟩ := rx
  obtain ⟨t', rfl⟩ := ry
  exact rule i j t t' s _ _ ⟨.int (g i j), H, I.tok _, ⟨_, rfl⟩, q⟩
theorem HD {f : Value -> Value -> Sem Value} {g : Int -> Int -> Bool}
    (rule : ∀ (i j : Int) (t u : Tok) (s : Shared) (Q : Value -> Shared -> Prop) (E : Value -> Shared -> Prop), Q (.bool (g i j)) s -> wpAny (model X.prog X.w) X.A (f (.int i t) (.int j u)) Q E s) :
    OpR X f (rI0 fun i j => .bl (g i j)) := by
  intro pins s σ H x y v u Q I rx ry h
  obtain ⟨i, j, rfl, rfl, q⟩ := h
  obtain ⟨t, rfl⟩ := rx
  obtain ⟨t', rfl⟩ := ry
  exact rule i j t t' s _ _ ⟨.bl (g i j), H, I, rfl, q⟩
noncomputable def Ih (i j : Int) : Prop := 0 <= j /\ j <= 1000000 /\ i.natAbs < 2 ^ 64
noncomputable def HF (i j : Int) : Prop := (-(2 ^ 64) < i /\ i < 2 ^ 64) ∨ (-(2 ^ 64) < j /\ j < 2 ^ 64)
theorem HF.ok {i j : Int} (h : HF i j) : IntMulOk i j := by
  rcases h with ⟨h1, h2⟩ | ⟨h1, h2⟩
  · exact .of_left (intBits_le_64 h1 h2)
  · exact .of_right (intBits_le_64 h1 h2)
theorem X0 : OpR X (binaryOp .Add) (rI0 fun i j => .int (i + j)) := Il fun _ _ _ _ _ _ _ q => add_int q
theorem ZK : OpR X (binaryOp .Sub) (rI0 fun i j => .int (i - j)) := Il fun _ _ _ _ _ _ _ q => sub_int q
theorem YM : OpR X (binaryOp .Mult) (rI HF fun i j => .int (i * j)) := opI fun _ _ _ _ _ _ _ hc q => mul_int q hc.ok
theorem X3 : OpR X (binaryOp .Mod) (rI (fun _ j => 0 < j) fun i j => .int (i % j)) := opI fun i j _ _ _ _ _ hc q => by
  have h1 : (0 : Int) < j := hc
  exact mod_int' (by omega) (by rw [Int.fmod_eq_emod_of_nonneg i (by omega)]; exact q)
theorem KW : OpR X (binaryOp .Pow) (rI Ih fun i j => .int (i ^ j.toNat)) := opI fun _ _ _ _ _ _ _ hc q => pow_int_small hc.1 hc.2.1 hc.2.2 q
theorem unI {f : Value -> Sem Value} {g : Int -> Int}
    (rule : ∀ (i : Int) (t : Tok) (s : Shared) (Q : Value -> Shared -> Prop) (E : Value -> Shared -> Prop), Q (.int (g i) s.toks) { s with toks := s.toks + 1 } -> wpAny (model X.prog X.w) X.A (f (.int i t)) Q E s) :
    UnR X f (rU fun i => .int (g i)) := by
  intro pins s σ H x v Q I rx h
  obtain ⟨i, rfl, q⟩ := h
  obtain ⟨t, rfl⟩ := rx
  exact rule i t s _ _ ⟨.int (g i), H, I.tok _, ⟨_, rfl⟩, q⟩
theorem Qd : UnR X (unaryOp .USub) (rU fun i => .int (-i)) := unI fun _ _ _ _ _ q => neg_int q
end
noncomputable def HZ : V -> V -> Bool
  | .non, .non => true | .non, .int _ => true | .int _, .non => true | .non, .bl _ => true | .bl _, .non => true | .non, .str _ => true | .str _, .non => true
  | .int _, .int _ => true | .bl _, .bl _ => true | .str _, .str _ => true | .byt _, .byt _ => true
  | .int _, .str _ => true | .str _, .int _ => true | .bl _, .str _ => true | .str _, .bl _ => true
  | _, _ => false
noncomputable def rEq : R2 := fun x y H Q => HZ x y = true /\ Q (.bl (decide (x = y))) H
noncomputable def rNe : R2 := fun x y H Q => HZ x y = true /\ Q (.bl (!decide (x = y))) H
theorem Cb {i j : Int} : decide (V.int i = V.int j) = (i == j) := by
  rw [Bool.eq_iff_iff]
  simp
theorem Bm {i j : Bool} : decide (V.bl i = V.bl j) = (i == j) := by
  rw [Bool.eq_iff_iff]
  simp
theorem Fu {i j : Str} : decide (V.str i = V.str j) = (i == j) := by
  rw [Bool.eq_iff_iff]
  simp
theorem FX {i j : Array UInt8} : decide (V.byt i = V.byt j) = (i.toList == j.toList) := by
  rw [Bool.eq_iff_iff]
  cases i
  cases j
  simp
section
variable {X : Cx} {a b c : Expr} {ta tb tc : TE} {pos : Pos}
theorem Yg {pins : List (Addr × Obj)} {σ : St} {H : Hp} {s : Shared} {Q : VK} {k k' : Bool} (I : Inv X pins σ H s) (q : Q (.bl k) H) (e : k = k') : EP X pins σ Q (.bool k') s := by
  subst e
  exact ⟨.bl k, H, I, rfl, q⟩
theorem Zp : OpR X (compareOp .Eq) rEq := by
  intro pins s σ H x y v u Q I rx ry h
  obtain ⟨hs, q⟩ := h
  cases x with
  | non =>
    cases rx
    cases y with
    | non => cases ry; exact PySem.EqNone.eq_none_none (Yg I q (by simp))
    | bl j => cases ry; exact PySem.EqNone.eq_none_bool (Yg I q (by simp))
    | int j => obtain ⟨t', rfl⟩ := ry; exact PySem.EqNone.eq_none_int (Yg I q (by simp))
    | str j => obtain ⟨t', rfl⟩ := ry; exact PySem.EqNone.eq_none_str (Yg I q (by simp))
    | _ => exact absurd (show false = true from hs) Bool.false_ne_true
  | bl i =>
    cases rx
    cases y with
    | non => cases ry; exact PySem.EqNone.eq_bool_none (Yg I q (by simp))
    | bl j => cases ry; exact eq_bool (Yg I q Bm)
    | str j => obtain ⟨t', rfl⟩ := ry; exact PySem.EqMixed.eq_bool_str (Yg I q (by simp))
    | _ => exact absurd (show false = true from hs) Bool.false_ne_true
  | int i =>
    obtain ⟨t, rfl⟩ := rx
    cases y with
    | non => cases ry; exact PySem.EqNone.eq_int_none (Yg I q (by simp))
    | int j => obtain ⟨t', rfl⟩ := ry; exact eq_int (Yg I q Cb)
    | str j => obtain ⟨t', rfl⟩ := ry; exact PySem.EqMixed.eq_int_str (Yg I q (by simp))
    | _ => exact absurd (show false = true from hs) Bool.false_ne_true
  | str i =>
    obtain ⟨t, rfl⟩ := rx
    cases y with
    | non => cases ry; exact PySem.EqNone.eq_str_none (Yg I q (by simp))
    | bl j => cases ry; exact PySem.EqMixed.eq_str_bool (Yg I q (by simp))
    | int j => obtain ⟨t', rfl⟩ := ry; exact PySem.EqMixed.eq_str_int (Yg I q (by simp))
    | str j => obtain ⟨t', rfl⟩ := ry; exact eq_str (Yg I q Fu)
    | _ => exact absurd (show false = true from hs) Bool.false_ne_true
  | byt i =>
    obtain ⟨t, rfl⟩ := rx
    cases y with
    | byt j => obtain ⟨t', rfl⟩ := ry; exact PySem.W.eq_bytes (Yg I q FX)
    | _ => exact absurd (show false = true from hs) Bool.false_ne_true
  | _ => cases y <;> exact absurd (show false = true from hs) Bool.false_ne_true
theorem Fg : OpR X (compareOp .NotEq) rNe := by
  intro pins s σ H x y v u Q I rx ry h
  obtain ⟨hs, q⟩ := h
  cases x with
  | non =>
    cases rx
    cases y with
    | non => cases ry; exact PySem.EqNone.ne_none_none (Yg I q (by simp))
    | bl j => cases ry; exact PySem.EqNone.ne_none_bool (Yg I q (by simp))
    | int j => obtain ⟨t', rfl⟩ := ry; exact PySem.EqNone.ne_none_int (Yg I q (by simp))
    | str j => obtain ⟨t', rfl⟩ := ry; exact PySem.EqNone.ne_none_str (Yg I q (by simp))
    | _ => exact absurd (show false = true from hs) Bool.false_ne_true
  | bl i =>
    cases rx
    cases y with
    | non => cases ry; exact PySem.EqNone.ne_bool_none (Yg I q (by simp))
    | bl j => cases ry; exact ne_bool (Yg I q (congrArg not Bm))
    | str j => obtain ⟨t', rfl⟩ := ry; exact PySem.EqMixed.ne_bool_str (Yg I q (by simp))
    | _ => exact absurd (show false = true from hs) Bool.false_ne_true
  | int i =>
    obtain ⟨t, rfl⟩ := rx
    cases y with
    | non => cases ry; exact PySem.EqNone.ne_int_none (Yg I q (by simp))
    | int j => obtain ⟨t', rfl⟩ := ry; exact ne_int (Yg I q (congrArg not Cb))
    | str j => obtain ⟨t', rfl⟩ := ry; exact PySem.EqMixed.ne_int_str (Yg I q (by simp))
    | _ => exact absurd (show false = true from hs) Bool.false_ne_true
  | str i =>
    obtain ⟨t, rfl⟩ := rx
    cases y with
    | non => cases ry; exact PySem.EqNone.ne_str_none (Yg I q (by simp))
    | bl j => cases ry; exact PySem.EqMixed.ne_str_bool (Yg I q (by simp))
    | int j => obtain ⟨t', rfl⟩ := ry; exact PySem.EqMixed.ne_str_int (Yg I q (by simp))
    | str j => obtain ⟨t', rfl⟩ := ry; exact ne_str (Yg I q (congrArg not Fu))
    | _ => exact absurd (show false = true from hs) Bool.false_ne_true
  | byt i =>
    obtain ⟨t, rfl⟩ := rx
    cases y with
    | byt j => obtain ⟨t', rfl⟩ := ry; exact PySem.W.ne_bytes (Yg I q (congrArg not FX))
    | _ => exact absurd (show false = true from hs) Bool.false_ne_true
  | _ => cases y <;> exact absurd (show false = true from hs) Bool.false_ne_true
theorem Qy : OpR X (compareOp .Lt) (rI0 fun i j => .bl (decide (i < j))) := HD fun _ _ _ _ _ _ _ q => lt_int q
theorem Ia : OpR X (compareOp .LtE) (rI0 fun i j => .bl (decide (i <= j))) := HD fun _ _ _ _ _ _ _ q => le_int q
theorem UW : OpR X (compareOp .Gt) (rI0 fun i j => .bl (decide (j < i))) := HD fun _ _ _ _ _ _ _ q => gt_int q
theorem Bt : OpR X (compareOp .GtE) (rI0 fun i j => .bl (decide (j <= i))) := HD fun _ _ _ _ _ _ _ q => ge_int q
theorem OpR.or {f : Value -> Value -> Sem Value} {r r' : R2} (h : OpR X f r) (h' : OpR X f r') : OpR X f (fun x y H Q => r x y H Q ∨ r' x y H Q) := by
  intro pins s σ H x y v u Q I rx ry q
  rcases q with q | q
  · exact h pins s σ H x y v u Q I rx ry q
  · exact h' pins s σ H x y v u Q I rx ry q
theorem XA (b : Expr) {op : CmpOp} (h : op ≠ .In := by decide) (h2 : op ≠ .NotIn := by decide) : behindInMarks op b = false := by
  have e1 : (op == CmpOp.In) = false := by cases op <;> first | rfl | exact absurd rfl h
  have e2 : (op == CmpOp.NotIn) = false := by cases op <;> first | rfl | exact absurd rfl h2
  cases b <;> simp [behindInMarks, e1, e2]
theorem B6 {op : CmpOp} {r : R2} (ho : OpR X (compareOp op) r) (ha : PE X a ta) (hb : PE X b tb) (hm : behindInMarks op b = false) : PE X (.Compare a [op] [b] pos) (tOp r ta tb) := by
  intro pins s σ H Q I h
  exact wpAny_Compare1 (HN ha hb I h fun v u s2 x y H2 I2 rx ry q => ho pins s2 σ H2 x y v u Q I2 rx ry q) hm
noncomputable def EM (t : TE) : TT := fun σ H Q => t σ H fun x H' => ∃ k, x = .bl k /\ Q k H'
theorem Xt {op : CmpOp} {r : R2} (ho : OpR X (compareOp op) r) (ha : PE X a ta) (hb : PE X b tb) (hm : behindInMarks op b = false) : PT X (.Compare a [op] [b] pos) (EM (tOp r ta tb)) := by
  intro pins s σ H Q I h
  refine wpAny_isTrue_Compare1 (thn (ha pins s σ H _ I h) fun v s1 ⟨x, H1, I1, r1, q1⟩ => thn (hb pins s1 σ H1 _ I1 q1) fun u s2 ⟨y, H2, I2, r2, q2⟩ =>
    thn (ho pins s2 σ H2 x y v u _ I2 r1 r2 q2) fun c s3 ⟨z, H3, I3, r3, k, e, q3⟩ => ?_) hm
  subst e
  cases r3
  exact wpAny_truthy_bool ⟨H3, I3, q3⟩
noncomputable def Bn (r r' : R2) (ta tb tc : TE) : TE := fun σ H Q => ta σ H fun x H1 => tb σ H1 fun y H2 => r x y H2 fun z H3 => ∃ k, z = .bl k /\
  (if k = true then tc σ H3 fun w' H4 => r' y w' H4 Q else Q (.bl false) H3)
theorem CK {op op' : CmpOp} {r r' : R2} (ho : OpR X (compareOp op) r) (ho' : OpR X (compareOp op') r') (ha : PE X a ta) (hb : PE X b tb) (hc : PE X c tc)
    (hm : lastMarks [op, op'] [b, c] = false := by with_unfolding_all rfl) : PE X (.Compare a [op, op'] [b, c] pos) (Bn r r' ta tb tc) := by
  intro pins s σ H Q I h
  refine Compare_chain (thn (ha pins s σ H _ I h) fun v s1 ⟨x, H1, I1, r1, q1⟩ => chain_link (thn (hb pins s1 σ H1 _ I1 q1) fun u s2 ⟨y, H2, I2, r2, q2⟩ =>
    thn (ho pins s2 σ H2 x y v u _ I2 r1 r2 q2) fun d s3 ⟨z, H3, I3, r3, k, e, q3⟩ => ?_)) hm
  subst e
  cases r3
  refine wpAny_truthy_bool ?_
  cases k with
  | false => exact ite_ff ⟨.bl false, H3, I3, rfl, q3⟩
  | true => exact ite_tt (chain_last (thn (hc pins s3 σ H3 _ I3 q3) fun w' s4 ⟨z', H4, I4, r4, q4⟩ => ho' pins s4 σ H4 y z' u w' Q I4 r2 r4 q4))
theorem KZ : (sizeLine : Nat) < 2 ^ 63 := by rw [sizeLine_eq]; decide
theorem GR {x : V} {us : List Value} (r : Yl [x] us) : ∃ u, us = [u] /\ Yt x u := by
  cases r with
  | cons r1 r2 => cases r2; exact ⟨_, rfl, r1⟩
theorem Ha {x y : V} {us : List Value} (r : Yl [x, y] us) : ∃ u w', us = [u, w'] /\ Yt x u /\ Yt y w' := by
  cases r with
  | cons r1 r2 =>
    cases r2 with
    | cons r3 r4 => cases r4; exact ⟨_, _, rfl, r1, r3⟩
theorem Gf : Qi X (.builtin "abs") (fun xs H Q => ∃ i, xs = [.int i] /\ Q (.int (if i < 0 then -i else i)) H) := by
  intro pins s σ H xs us Q I r h
  obtain ⟨i, rfl, q⟩ := h
  obtain ⟨u, rfl, t, rfl⟩ := GR r
  exact call_abs_int fun u tk => ⟨.int (if i < 0 then -i else i), H, I.tok _, ⟨_, rfl⟩, q⟩
theorem Vq (hc : X.calm = true) : Qi X (.builtin "max") (fun xs H Q => ∃ i j, xs = [.int i, .int j] /\ Q (.int (if j > i then j else i)) H) := by
  intro pins s σ H xs us Q I r h
  obtain ⟨i, j, rfl, q⟩ := h
  obtain ⟨u, w', rfl, ⟨t, rfl⟩, ⟨t', rfl⟩⟩ := Ha r
  refine max_two_ints (I.ok.hd hc) fun h' tk k => ⟨_, H, I.kept k, ?_, q⟩
  by_cases hj : j > i
  · rw [if_pos hj, if_pos hj]; exact ⟨_, rfl⟩
  · rw [if_neg hj, if_neg hj]; exact ⟨_, rfl⟩
theorem De (hc : X.calm = true) : Qi X (.builtin "min") (fun xs H Q => ∃ i j, xs = [.int i, .int j] /\ Q (.int (if j < i then j else i)) H) := by
  intro pins s σ H xs us Q I r h
  obtain ⟨i, j, rfl, q⟩ := h
  obtain ⟨u, w', rfl, ⟨t, rfl⟩, ⟨t', rfl⟩⟩ := Ha r
  refine min_two_ints (I.ok.hd hc) fun h' tk k => ⟨_, H, I.kept k, ?_, q⟩
  by_cases hj : j < i
  · rw [if_pos hj, if_pos hj]; exact ⟨_, rfl⟩
  · rw [if_neg hj, if_neg hj]; exact ⟨_, rfl⟩
end
end L2
namespace L2
open PySem PySem.Spec PyProof.Rows
structure ObjM (h : Heap) (x dx C : Addr) (mA : Str -> Option Value) : Prop where
  obj : h.get? x = some (PySem.W.instObj C dx)
  ns : h.Ns1 dx mA
  ne : dx ≠ x
theorem Fx {h : Heap} {dx : Addr} {mA : Str -> Option Value} (n : h.Ns1 dx mA) : ∃ od, h.get? dx = some od /\ ∀ name, PySem.W.lookIn name od = some (mA name) := by
  obtain ⟨o, es, ep, ho, hd, hk, _, hm⟩ := n
  refine ⟨o, ho, fun name => ?_⟩
  have e := hm name
  unfold nsFind findBy at e
  rw [← Array.find?_toList] at e
  unfold PySem.W.lookIn
  rw [hd]
  dsimp only
  split
  · rename_i y q
    rw [q] at e
    exact congrArg some e
  · rename_i q
    rw [q] at e
    have a : es.toList.any (·.refKey) = false := by
      rw [List.any_eq_false]
      intro y hy
      obtain ⟨z, t, hkey⟩ := hk y (Array.mem_toList_iff.mp hy)
      simp [DictEntry.refKey, hkey]
    have a' : ¬ es.toList.any (·.refKey) = true := by rw [a]; exact Bool.false_ne_true
    rw [if_neg a']
    exact congrArg some e
theorem ObjM.look {h : Heap} {x dx C : Addr} {mA : Str -> Option Value} (I : ObjM h x dx C mA) : ∃ od, PySem.W.InstAt h x (PySem.W.instObj C dx) C (some od) /\ ∀ name, PySem.W.lookIn name od = some (mA name) :=
  let ⟨od, ho, hl⟩ := Fx I.ns
  ⟨od, ⟨I.obj, rfl, rfl, ho⟩, hl⟩
section
variable {prog : Program} {w : World} {A : Around} {E : Value -> Shared -> Prop} {s : Shared} {K : PySem.W.Frag} {x dx C f : Addr} {mA : Str -> Option Value} {name : Str} {v : Value}
end
theorem GE.some_of {v : V} {o : Option Value} (r : GE (some v) o) : ∃ u, o = some u /\ Yt v u := by
  cases o with
  | none => exact (show False from r).elim
  | some u => exact ⟨u, rfl, r⟩
section
variable {P : Program} {w : World} {H H' : Hp} {h h' : Heap} {a C dx : Addr} {fs fs' : List (Str × V)}
theorem BG (hok : HOk P w H h) (e : H a = some (.ins C dx fs)) : ∃ mA, ObjM h a dx C mA /\ (∀ f, GE (fs.lookup f) (mA f)) /\ PySem.Within mA (fs.map (·.1)) /\ fs.length <= 1000 /\ H dx = some (.own a) := by
  obtain ⟨d, z, ne, ob, mA, n, r, q⟩ := (show Y3 P w H h a (.ins C dx fs) from hok a _ e)
  exact ⟨mA, ⟨ob, n, ne⟩, r, q, z, d⟩
end
structure Cls (K : PySem.W.Frag) (C : Addr) : Prop where
  pg : PySem.W.plainGet K C Str.empty = true
  hd : PySem.W.hasDictIn K C = true
  po : PySem.W.plainOver K C = true
  sa : PySem.W.findIn K (.ref C) "__setattr__" = some (some (.builtin "object.__setattr__"))
theorem Cls.get {K : PySem.W.Frag} {C : Addr} (c : Cls K C) (f : Str) : PySem.W.plainGet K C f = true := c.pg
section
variable {X : Cx} {pins : List (Addr × Obj)} {σ : St} {H : Hp} {s : Shared} {a C dx : Addr} {fs : List (Str × V)} {f : Str} {v : V} {A : Around} {E : Value -> Shared -> Prop}
theorem Inv.made (I : Inv X pins σ H s) : Inv X pins σ (upd (upd H s.heap.objs.size (.own (s.heap.objs.size + 1))) (s.heap.objs.size + 1) (.ins C s.heap.objs.size []))
    { s with heap := (s.heap.push PySem.W.emptyDict).push (PySem.W.instObj C s.heap.objs.size) } := by
  have e1 : (s.heap.push PySem.W.emptyDict).get? s.heap.objs.size = some PySem.W.emptyDict := Heap.get?_push_size s.heap rfl
  have e2 : ((s.heap.push PySem.W.emptyDict).push (PySem.W.instObj C s.heap.objs.size)).get? (s.heap.objs.size + 1) = some (PySem.W.instObj C s.heap.objs.size) := by
    have := Heap.get?_push_size (s.heap.push PySem.W.emptyDict) (o := PySem.W.instObj C s.heap.objs.size) rfl
    rwa [Heap.size_push] at this
  have e3 : (s.heap.push PySem.W.emptyDict).Ns s.heap.objs.size (fun _ => none) := ⟨PySem.W.emptyDict, #[], _, e1, rfl, (fun e he => absurd he (by simp)), fun _ => rfl⟩
  have I1 := I.laid (a := s.heap.objs.size) (o := .own (s.heap.objs.size + 1)) (h' := s.heap.push PySem.W.emptyDict) (t' := s.toks) (fun b u q => Heap.get?_push_of_some _ q) (Nat.le_refl _) ⟨_, e1⟩
  refine I1.laid (a := s.heap.objs.size + 1) (o := .ins C s.heap.objs.size []) (t' := s.toks) (fun b u q => Heap.get?_push_of_some _ q) (Nat.le_of_eq (Heap.size_push _ _)) ?_
  have ne : s.heap.objs.size ≠ s.heap.objs.size + 1 := Nat.ne_of_lt (Nat.lt_succ_self _)
  refine ⟨by rw [XR ne, YQ], Nat.zero_le _, ne, e2, fun _ => none, (Heap.Ns1.of_empty e3).at fun o q => Heap.get?_push_of_some _ q, fun _ => True.intro, fun y hy => absurd rfl hy⟩
end
section
variable {X : Cx} {o e value : Expr} {f : Str} {pos pos' tpos : Pos} {ta tv : TE}
end
section
variable {X : Cx} {pins : List (Addr × Obj)} {σ : St} {H : Hp} {s : Shared} {A : Around} {E : Value -> Shared -> Prop} {Q : Value -> Shared -> Prop} {c : Value} {b : Bool}
inductive TyOf (K : PySem.W.Frag) (H : Hp) : V -> Value -> Prop where
  | non : TyOf K H .non (.type "NoneType")
  | bl (x : Bool) : TyOf K H (.bl x) (.type "bool")
  | int (i : Int) : TyOf K H (.int i) (.type "int")
  | str (x : Str) : TyOf K H (.str x) (.type "str")
  | flt (x : UInt64) : TyOf K H (.flt x) (.type "float")
  | lst {a : Addr} {xs : List V} (e : H a = some (.lst xs)) : TyOf K H (.ref a) (.type "list")
  | frz {a : Addr} {o : Obj} {xs : List V} (e : H a = some (.frz o (.lst xs))) : TyOf K H (.ref a) (.type "list")
  | tup {a : Addr} {xs : List V} (e : H a = some (.tup xs)) : TyOf K H (.ref a) (.type "tuple")
  | dK {a : Addr} {kvs : List (Key × V)} (e : H a = some (.dK kvs)) : TyOf K H (.ref a) (.type "dict")
  | dT {a : Addr} {kvs : List (List Key × V)} (e : H a = some (.dT kvs)) : TyOf K H (.ref a) (.type "dict")
  | ins {a C dx : Addr} {fs : List (Str × V)} (e : H a = some (.ins C dx fs)) (cl : Cls K C) (ha : PySem.W.findIn K (.ref C) "__class__" = some (some (.builtin "object.__class__")))
      (hn : PySem.W.specialIn K (.builtin "object.__class__") "__get__" = some (some (.builtin "getset_descriptor.__get__"))) (htk : PySem.W.takesIn K (.builtin "object.__class__") = some true)
      (hm : PySem.W.mroIn K C (.type "object") = some true) : TyOf K H (.ref a) (.ref C)
theorem Dr {x : V} {u t : Value} (I : Inv X pins σ H s) (rx : Yt x u) (ty : TyOf X.K H x t) (e : PySem.W.kitOne X.K t c = some b) (h : ∀ tk, Q (.bool b) { s with toks := tk }) :
    wpAny (model X.prog X.w) A (call (.builtin "isinstance") [u, c]) Q E s := by
  cases ty with
  | non => cases (show u = Value.none from rx); exact PySem.W.kia_one PySem.W.kitx_none I.kIn True.intro e (fun z => nomatch z) h
  | bl y => cases (show u = Value.bool y from rx); exact PySem.W.kia_one PySem.W.kitx_bool I.kIn True.intro e (fun z => nomatch z) h
  | int i => obtain ⟨t, q⟩ := (show ∃ t, u = Value.int i t from rx); cases q; exact PySem.W.kia_one PySem.W.kitx_int I.kIn True.intro e (fun z => nomatch z) h
  | str y => obtain ⟨t, q⟩ := (show ∃ t, u = Value.str y t from rx); cases q; exact PySem.W.kia_one PySem.W.kitx_str I.kIn True.intro e (fun z => nomatch z) h
  | flt y => obtain ⟨t, q⟩ := (show ∃ t, u = Value.float y t from rx); cases q; exact PySem.W.kia_one PySem.W.kitx_float I.kIn True.intro e (fun z => nomatch z) h
  | @lst a xs ea =>
    cases (show u = Value.ref a from rx)
    obtain ⟨_, _, n, _, h1⟩ := (show Y3 X.prog X.w H s.heap a (.lst xs) from I.hok a _ ea)
    exact PySem.W.kia_one PySem.W.kitx_list I.kIn ⟨_, h1, rfl⟩ e (fun z => nomatch z) h
  | @frz a ob xs ea =>
    cases (show u = Value.ref a from rx)
    obtain ⟨_, _, _, n, _, h1⟩ := (show Y3 X.prog X.w H s.heap a (.frz ob (.lst xs)) from I.hok a _ ea)
    exact PySem.W.kia_one PySem.W.kitx_list I.kIn ⟨_, h1, rfl⟩ e (fun z => nomatch z) h
  | @tup a xs ea =>
    cases (show u = Value.ref a from rx)
    obtain ⟨_, _, _, p⟩ := (show Y3 X.prog X.w H s.heap a (.tup xs) from I.hok a _ ea)
    obtain ⟨o, h1, h2, _⟩ := p
    exact PySem.W.kia_one PySem.W.kitx_tuple I.kIn ⟨o, h1, h2⟩ e (fun z => nomatch z) h
  | @dK a kvs ea =>
    cases (show u = Value.ref a from rx)
    obtain ⟨_, _, vs, _, p⟩ := (show Y3 X.prog X.w H s.heap a (.dK kvs) from I.hok a _ ea)
    obtain ⟨o, es, ep, h1, h2, _⟩ := p
    exact PySem.W.kia_one PySem.W.kitx_dict I.kIn ⟨o, h1, h2.1⟩ e (fun z => nomatch z) h
  | @dT a kvs ea =>
    cases (show u = Value.ref a from rx)
    obtain ⟨_, _, xs, _, o, es, ep, h1, h2, _⟩ := (show Y3 X.prog X.w H s.heap a (.dT kvs) from I.hok a _ ea)
    exact PySem.W.kia_one PySem.W.kitx_dict I.kIn ⟨o, h1, h2.1⟩ e (fun z => nomatch z) h
  | @ins a C dx fs ea cl ha hn htk hm =>
    cases (show u = Value.ref a from rx)
    obtain ⟨mA, O, _⟩ := BG I.hok ea
    obtain ⟨od, J, _⟩ := O.look
    exact PySem.W.kia_one (PySem.W.kitx_own (cl.get _) cl.hd ha hn htk hm) I.kIn J e (fun z => nomatch z) h
end
end L2
namespace L2
open PySem PySem.Spec PyProof.Rows
structure Room (k : Nat) (A : Around) : Prop where
  hd : A.handled = none
  dp : A.depth + 3 * k + 5 < recursionLimit
  un : A.units + 16 * k + 200 < cLine
theorem Room.mono {j k : Nat} {A : Around} (r : Room k A) (h : j <= k) : Room j A := ⟨r.hd, by have := r.dp; omega, by have := r.un; omega⟩
theorem Room.deeper {k : Nat} {A : Around} (r : Room (k + 1) A) (env : Env) : Room k (A.deeper env) :=
  ⟨r.hd, by have := r.dp; show A.depth + 1 + 3 * k + 5 < _; omega, by have := r.un; show A.units + 3 + 16 * k + 200 < _; omega⟩
theorem Room.in1 {k : Nat} {A : Around} (r : Room (k + 1) A) : Room k A.in1 :=
  ⟨r.hd, by have := r.dp; show A.depth + 3 * k + 5 < _; omega, by have := r.un; show A.units + 1 + 16 * k + 200 < _; omega⟩
theorem Room.depth {k : Nat} {A : Around} (r : Room k A) : A.depth < recursionLimit := by have := r.dp; omega
theorem Room.units {k : Nat} {A : Around} (r : Room k A) : A.units + 64 < cLine := by have := r.un; omega
noncomputable def Z4 : TA := fun _ H Q => Q [] H
noncomputable def XH (ta : TE) (tr : TA) : TA := fun σ H Q => ta σ H fun x H1 => tr σ H1 fun xs H2 => Q (x :: xs) H2
section
variable {X : Cx} {e : Expr} {es : List Expr} {te : TE} {t : TA} {pos : Pos}
theorem Xg : PA X [] Z4 := fun _ _ _ _ H Q I h => Calls.spliced_nil ⟨[], H, I, .nil, h⟩
theorem Xd (ha : PE X e te) (hr : PA X es t) (hs : starEach (e :: es) X.env = (false, eval e X.env) :: starEach es X.env := by rfl) : PA X (e :: es) (XH te t) := by
  intro pos pins s σ H Q I h
  rw [hs]
  show wpAny _ _ (spliced ((false, eval e X.env) :: backTo pos (starEach es X.env))) _ _ s
  refine Calls.spliced_cons (thn (ha pins s σ H _ I h) fun u s1 ⟨x, H1, I1, r1, q1⟩ => ?_)
  exact thn (hr pos pins s1 σ H1 _ I1 q1) fun us s2 ⟨xs, H2, I2, r2, q2⟩ => ⟨x :: xs, H2, I2, .cons r1 r2, q2⟩
noncomputable def Hx (t : TA) : TE := fun σ H Q => t σ H fun xs H1 => xs.length <= sizeLine /\ ∀ p, H1 p = none -> Q (.ref p) (upd H1 p (.tup xs))
noncomputable def Ba (t : TA) : TE := fun σ H Q => t σ H fun xs H1 => xs.length <= sizeLine /\ ∀ p, H1 p = none -> Q (.ref p) (upd H1 p (.lst xs))
theorem Z8 {x1} (h : PA X es t) : PE X (.Tuple es x1 pos) (Hx t) := by
  intro pins s σ H Q I hq
  refine wpAny_Tuple_spliced (thn (h pos pins s σ H _ I hq) fun us s1 ⟨xs, H1, I1, r, z, q⟩ => ⟨by rw [← r.length]; exact z, ?_⟩)
  have hf : H1 s1.heap.objs.size = none := I1.hok.fresh (Nat.le_refl _)
  refine ⟨.ref s1.heap.objs.size, upd H1 s1.heap.objs.size (.tup xs), I1.laid (t' := s1.toks) (fun b u e => Heap.get?_push_of_some _ e) (Nat.le_refl _) ?_, rfl, q _ hf⟩
  exact ⟨z, us, r, ⟨_, Heap.get?_push_size _ rfl, rfl, _, rfl⟩⟩
theorem XV (h : PA X es t) : PE X (.List es pos) (Ba t) := by
  intro pins s σ H Q I hq
  refine wpAny_List_spliced (thn (h pos pins s σ H _ I hq) fun us s1 ⟨xs, H1, I1, r, z, q⟩ => ⟨by rw [← r.length]; exact z, ?_⟩)
  have hf : H1 s1.heap.objs.size = none := I1.hok.fresh (Nat.le_refl _)
  refine ⟨.ref s1.heap.objs.size, upd H1 s1.heap.objs.size (.lst xs), I1.laid (t' := s1.toks) (fun b u e => Heap.get?_push_of_some _ e) (Nat.le_refl _) ?_, rfl, q _ hf⟩
  exact ⟨z, us, 0, r, Heap.get?_push_size _ rfl⟩
end
noncomputable abbrev Sp := List V -> Hp -> VK -> XK -> Prop
noncomputable abbrev CXT := List Env -> Hp -> Shared -> XK -> Value -> Shared -> Prop
structure Env0 (P : Program) (w : World) (K : PySem.W.Frag) (mg : Str -> Option Value) (base : Heap) (A : Around) (outer : List Env) (s : Shared) (H : Hp) : Prop where
  frames : A.frames = some outer
  mod : Mod K mg base
  bs : ∀ b o, base.get? b = some o -> s.heap.get? b = some o /\ H b = none
  bsz : base.objs.size <= s.heap.objs.size
  funs : s.heap.FunFrames base outer
  frf : ∀ b ∈ frs outer, H b = none
  hok : HOk P w H s.heap
  bare : AllBare s.gens
noncomputable def CE (outer : List Env) (P : Program) (w : World) (H : Hp) (s : Shared) (Q : VK) (u : Value) (s' : Shared) : Prop :=
  ∃ v H', s'.os = s.os /\ AllBare s'.gens /\ Un (frs outer) [] H H' s.heap s'.heap /\ HOk P w H' s'.heap /\ Yt v u /\ Q v H'
noncomputable def CR (CX : CXT) (outer : List Env) (P : Program) (w : World) (H : Hp) (s : Shared) (Q : VK) (E : XK) (r : Result) (s' : Shared) : Prop :=
  match r with
  | .ok (.ret u) => CE outer P w H s Q u s'
  | .ok _ => False
  | .error e => CX outer H s E e s'
structure FnOk (P : Program) (w : World) (K : PySem.W.Frag) (mg : Str -> Option Value) (base : Heap) (CX : CXT) (k : Nat) (f : Addr) (fd : FuncData) (ps : List Str) (sp : Sp) : Prop where
  len : ∀ vs H Q E, sp vs H Q E -> vs.length = ps.length
  run : ∀ (A : Around) (outer : List Env) (s : Shared) (H : Hp) (args : Args) (us : List Value) (vs : List V) (Q : VK) (E : XK), Room k A -> Env0 P w K mg base A outer s H -> BindsTo s fd args (ps.zip us) -> Yl vs us -> sp vs H Q E ->
    codeAny (model P w) A (.call (.ref f) args) (CR CX outer P w H s Q E) s
theorem FnOk.mono {P : Program} {w : World} {K : PySem.W.Frag} {mg : Str -> Option Value} {base : Heap} {CX : CXT} {j k : Nat} {f : Addr} {fd : FuncData} {ps : List Str} {sp : Sp} (F : FnOk P w K mg base CX j f fd ps sp) (h : j <= k) :
    FnOk P w K mg base CX k f fd ps sp := ⟨F.len, fun A outer s H args us vs Q E hr => F.run A outer s H args us vs Q E (hr.mono h)⟩
theorem FnOk.imp {P : Program} {w : World} {K : PySem.W.Frag} {mg : Str -> Option Value} {base : Heap} {CX : CXT} {k : Nat} {f : Addr} {fd : FuncData} {ps : List Str} {sp sp' : Sp} (F : FnOk P w K mg base CX k f fd ps sp)
    (h : ∀ vs H Q E, sp' vs H Q E -> sp vs H Q E) : FnOk P w K mg base CX k f fd ps sp' :=
  ⟨fun vs H Q E q => F.len vs H Q E (h _ _ _ _ q), fun A outer s H args us vs Q E hr he hb hv hs => F.run A outer s H args us vs Q E hr he hb hv (h _ _ _ _ hs)⟩
theorem Env0.in1 {P : Program} {w : World} {K : PySem.W.Frag} {mg : Str -> Option Value} {base : Heap} {A : Around} {outer : List Env} {s : Shared} {H : Hp} (e : Env0 P w K mg base A outer s H) :
    Env0 P w K mg base A.in1 outer s H := ⟨e.frames, e.mod, e.bs, e.bsz, e.funs, e.frf, e.hok, e.bare⟩
section
variable {X : Cx} {pins : List (Addr × Obj)} {σ : St} {H : Hp} {s s' : Shared}
theorem Inv.env0 (I : Inv X pins σ H s) : Env0 X.prog X.w X.K X.mg X.base X.A X.stack s H :=
  ⟨I.ok.frames, I.ok.mod, I.bs, Nat.le_trans I.ok.bsz I.sz, I.stack, I.stkFree, I.hok, I.bare⟩
theorem Inv.after {Q : VK} {u : Value} (I : Inv X pins σ H s) (h : CE X.stack X.prog X.w H s Q u s') : EP X pins σ Q u s' := by
  obtain ⟨v, H', os, bare, un, hok, r, q⟩ := h
  obtain ⟨hh, g, d, t, os'⟩ := s'
  obtain rfl : os' = s.os := os
  exact ⟨v, H', I.call (h' := hh) (g' := g) (d' := d) (t' := t) (ch := []) un hok bare (fun b z => absurd z (by simp)), r, q⟩
end
noncomputable def KD (sp : Sp) (dvs : List V) (E : XK) (t : TA) : TE := fun σ H Q => t σ H fun vs H1 => sp (vs ++ dvs) H1 Q E
noncomputable def Kt (K : PySem.W.Frag) (fd : FuncData) (ps : List Str) (ds : List Value) : Prop :=
  ∀ (s : Shared) (us : List Value), K.In s.heap -> (us ++ ds).length = ps.length -> BindsTo s fd ⟨us, []⟩ (ps.zip (us ++ ds))
theorem Kt.all {K : PySem.W.Frag} {fd : FuncData} {ps : List Str} (h : ∀ us : List Value, us.length = ps.length -> bindArgs fd ⟨us, []⟩ = pure (ps.zip us)) : Kt K fd ps [] := fun s us _ hl => by
  rw [List.append_nil] at hl ⊢
  exact .of_eq (h us hl)
noncomputable def DI (CX : CXT) (X : Cx) (E : XK) : Prop := ∀ (pins : List (Addr × Obj)) (σ : St) (H : Hp) (s : Shared) (e : Value) (s' : Shared), Inv X pins σ H s -> CX X.stack H s E e s' -> X.xe e s'
section
variable {X : Cx} {CX : CXT} {k : Nat} {f C : Addr} {fd : FuncData} {ps : List Str} {sp : Sp} {dvs : List V} {ds : List Value} {E : XK} {x m : Str} {p pos apos : Pos} {e o : Expr} {es : List Expr} {ta : TE} {t : TA}
theorem EZ {pins : List (Addr × Obj)} {σ : St} {H : Hp} {s : Shared} {Q : VK} {us : List Value} {vs : List V} (F : FnOk X.prog X.w X.K X.mg X.base CX k f fd ps sp) (hr : Room k X.A) (hb : Kt X.K fd ps ds) (hd : Yl dvs ds) (hx : DI CX X E)
    (I : Inv X pins σ H s) (r : Yl vs us) (h : sp (vs ++ dvs) H Q E) : wpAny (model X.prog X.w) X.A (call (.ref f) us) (EP X pins σ Q) X.xe s := by
  have r2 : Yl (vs ++ dvs) (us ++ ds) := r.append hd
  have hl : (us ++ ds).length = ps.length := by rw [← r2.length]; exact F.len _ _ _ _ h
  refine wpAny_call (codeAny_mono (F.run X.A X.stack s H ⟨us, []⟩ (us ++ ds) (vs ++ dvs) Q E hr I.env0 (hb s us I.kIn hl) r2 h) fun r s' hq => ?_)
  cases r with
  | error e => exact hx pins σ H s e s' I hq
  | ok fl =>
    cases fl with
    | ret u => exact I.after hq
    | next => exact False.elim hq
    | brk => exact False.elim hq
    | cont => exact False.elim hq
theorem Bx (F : FnOk X.prog X.w X.K X.mg X.base CX k f fd ps sp) (hr : Room k X.A) (hg : Gl X x) (hm : X.mg x = some (.ref f)) (hk : PySem.W.keepIn X.K (.ref f) = true) (hb : Kt X.K fd ps ds) (hd : Yl dvs ds) (hx : DI CX X E)
    (ha : PA X (e :: es) t) (hdb : (x == ("__debug__" : Str)) = false := by decide) (he : starEach (e :: es) X.env = (false, eval e X.env) :: starEach es X.env := by rfl) (hpl : (backTo pos (starEach es X.env)).any (·.1) = false := by rfl) :
    PE X (.Call (.Name x p) (e :: es) [] pos) (KD sp dvs E t) := by
  intro pins s σ H Q I h
  refine wpAny_Call_Name_kw (B8 I hg hm ?_ hdb)
  refine PySem.W.callWith_K (h₀ := X.base) I.ok.mod.kin hk (thn (ha pos pins s σ H _ I h) fun us s1 ⟨vs, H1, I1, r, q⟩ => ⟨I1.kIn, ?_⟩) he hpl
  exact EZ F hr hb hd hx I1 r q
end
section
variable {X : Cx} {CX : CXT} {k : Nat} {f C : Addr} {fd : FuncData} {ps ks : List Str} {sp : Sp} {E : XK} {x m : Str} {p pos apos kpos : Pos} {e o : Expr} {es : List Expr} {kws : List Keyword} {te ta : TE} {t tk : TA} {nm : Option Str}
variable {g : List Value -> List Value -> List Value} {gV : List V -> List V -> List V}
end
structure FnScope (N P : List Str) (sc : Scope) : Prop where
  kind : sc.kind = .function
  co : sc.isCoroutine = false
  gen : sc.isGenerator = false
  nd : N.Nodup
  pre : N.take P.length = P
  par : ∀ x ∈ P, sc.names.lookup x = some .local ∨ sc.names.lookup x = some .cell
  nofree : ∀ y ∈ sc.names, y.2 ≠ .free
theorem UR {kindOf : Str -> Option NameKind} {x : Str} : ∀ {binds : List (Str × Value)} {m : Str -> Option Value}, (∀ v, (x, v) ∉ binds) -> bindL kindOf binds m x = m x
  | [], _, _ => rfl
  | (n, v) :: r, m, h => by
    unfold bindL
    rw [UR fun w hw => h w (List.mem_cons_of_mem _ hw)]
    split
    · have : x ≠ n := by rintro rfl; exact h v List.mem_cons_self
      simp [this]
    · rfl
theorem UC {kindOf : Str -> Option NameKind} {x : Str} : ∀ {binds : List (Str × Value)} {m : Str -> Option Value}, (∀ v, (x, v) ∉ binds) -> bindC kindOf binds m x = m x
  | [], _, _ => rfl
  | (n, v) :: r, m, h => by
    unfold bindC
    rw [UC fun w hw => h w (List.mem_cons_of_mem _ hw)]
    split
    · rfl
    · have : x ≠ n := by rintro rfl; exact h v List.mem_cons_self
      simp [this]
theorem UO {kindOf : Str -> Option NameKind} {x : Str} {v : Value} : ∀ {P : List Str} {vs : List Value} {i : Nat} {m : Str -> Option Value}, P.Nodup -> P[i]? = some x -> vs[i]? = some v -> kindOf x = some .local ->
    bindL kindOf (P.zip vs) m x = some v
  | [], _, _, _, _, h, _, _ => by simp at h
  | _ :: _, [], _, _, _, _, h, _ => by simp at h
  | p :: P, w :: vs, 0, m, nd, h1, h2, hk => by
    simp at h1 h2; subst h1; subst h2
    show bindL kindOf ((p, w) :: P.zip vs) m p = _
    unfold bindL
    rw [UR fun v hv => (List.nodup_cons.mp nd).1 (List.of_mem_zip hv).1, if_pos hk]
    simp
  | p :: P, w :: vs, i + 1, m, nd, h1, h2, hk => by
    show bindL kindOf ((p, w) :: P.zip vs) m x = _
    unfold bindL
    exact UO (i := i) (List.nodup_cons.mp nd).2 (by simpa using h1) (by simpa using h2) hk
theorem UK {kindOf : Str -> Option NameKind} {x : Str} {v : Value} : ∀ {P : List Str} {vs : List Value} {i : Nat} {m : Str -> Option Value}, P.Nodup -> P[i]? = some x -> vs[i]? = some v -> kindOf x ≠ some .local ->
    bindC kindOf (P.zip vs) m x = some v
  | [], _, _, _, _, h, _, _ => by simp at h
  | _ :: _, [], _, _, _, _, h, _ => by simp at h
  | p :: P, w :: vs, 0, m, nd, h1, h2, hk => by
    simp at h1 h2; subst h1; subst h2
    show bindC kindOf ((p, w) :: P.zip vs) m p = _
    unfold bindC
    rw [UC fun v hv => (List.nodup_cons.mp nd).1 (List.of_mem_zip hv).1, if_neg hk]
    simp
  | p :: P, w :: vs, i + 1, m, nd, h1, h2, hk => by
    show bindC kindOf ((p, w) :: P.zip vs) m x = _
    unfold bindC
    exact UK (i := i) (List.nodup_cons.mp nd).2 (by simpa using h1) (by simpa using h2) hk
noncomputable def Ud (N : List Str) (vs : List V) : St := vs.map some ++ List.replicate (N.length - vs.length) none
noncomputable def BC (CX : CXT) (P : Program) (w : World) (K : PySem.W.Frag) (mg : Str -> Option Value) (base : Heap) (N : List Str) (qual : Str) (scope : Scope) (f : Addr) (cd : Value) (A : Around) (outer : List Env) (s : Shared) (H : Hp) (E : XK) : Cx where
  prog := P
  w := w
  K := K
  mg := mg
  base := base
  A := A.deeper (envOfC qual scope s.heap.objs.size f cd)
  N := N
  s₀ := s
  H₀ := H
  env := envOfC qual scope s.heap.objs.size f cd
  outer := outer
  stack := envOfC qual scope s.heap.objs.size f cd :: outer
  ex := []
  calm := true
  fn := fun _ => true
  pn := []
  xe := fun e s' => wpAny (model P w) (A.deeper (envOfC qual scope s.heap.objs.size f cd)) (leaving (envOfC qual scope s.heap.objs.size f cd) e) (fun _ s'' => CX outer H s E e s'') (fun e' s'' => CX outer H s E e' s'') s'
theorem Gp {sc : Scope} {n : Nat} {x : Str} (h : sc.names.lookup x = some .cell) : ∃ c, (cellsFrom n sc.names []).lookup x = some c := by
  have q := PySem.W.cellsFrom_some sc.names n [] (.inl h)
  exact Option.isSome_iff_exists.mp q
theorem DC {CX : CXT} {P : Program} {w : World} {K : PySem.W.Frag} {mg : Str -> Option Value} {base : Heap} {N ps : List Str} {qual : Str} {scope : Scope} {f : Addr} {cd : Value} {A : Around} {outer : List Env} {s s1 : Shared} {H : Hp} {E : XK} {us : List Value} {vs : List V}
    (S : FnScope N ps scope) (hd : A.handled = none) (e0 : Env0 P w K mg base A outer s H) (hl : vs.length = ps.length) (r : Yl vs us)
    (x : InCallC s s.heap.objs.size (bindL (envOfC qual scope s.heap.objs.size f cd).kindOf (ps.zip us) fun _ => none) (cellsFrom (s.heap.objs.size + 1) scope.names []) (bindC (envOfC qual scope s.heap.objs.size f cd).kindOf (ps.zip us) fun _ => none) s1) :
    Inv (BC CX P w K mg base N qual scope f cd A outer s H E) [] (Ud N vs) H s1 := by
  have hpl : ps.length <= N.length := by have := congrArg List.length S.pre; rw [List.length_take] at this; omega
  obtain ⟨h1, tk, rfl, hk⟩ := x.done
  have noA : ∀ b : Addr, b ∉ (BC CX P w K mg base N qual scope f cd A outer s H E).ex := fun b z => absurd (show b ∈ ([] : List Addr) from z) (by simp)
  refine ⟨⟨e0.mod, S.kind, rfl, rfl, Nat.le_refl _, fun y z c h1 h2 => ?_, fun y hy => ?_, fun y c _ h => ?_, fun _ => hd, Around.frames_deeper e0.frames, .inr ⟨rfl, rfl⟩, fun b z => absurd z (noA b), e0.bs, e0.bsz, fun b _ _ => noA b, fun b z => absurd z (noA b), e0.funs, e0.frf⟩,
    rfl, e0.bare, Un.kept hk, ⟨_, x.toInCall.ns, fun i y v h1 h2 h3 => ?_⟩, fun y c h => ⟨_, x.cell y c h⟩, e0.hok.fresh (Nat.le_refl _), fun y c h => ?_, fun p hp => absurd (show p ∈ ([] : List (Addr × Obj)) from hp) (by simp), e0.hok.kept hk, ?_⟩
  · exact name_of_addr x.apart (PySem.mem_of_lookup h1) (PySem.mem_of_lookup h2)
  · have hy : scope.names.lookup y = some .cell ∨ scope.names.lookup y = some .free := hy
    rcases hy with hy | hy
    · exact Gp hy
    · exact absurd rfl (S.nofree _ (PySem.mem_of_lookup hy))
  · exact Nat.le_of_lt (x.above y c (PySem.mem_of_lookup h))
  · have hi : i < vs.length := by
      unfold Ud at h2
      by_cases hi : i < vs.length
      · exact hi
      · rw [List.getElem?_append_right (by simpa using hi)] at h2
        rw [List.getElem?_replicate] at h2
        split at h2 <;> cases h2
    have ha : vs[i]? = some v := by
      unfold Ud at h2
      rw [List.getElem?_append_left (by simpa using hi), List.getElem?_map] at h2
      cases e : vs[i]? with
      | none => rw [e] at h2; cases h2
      | some a => rw [e] at h2; cases h2; rfl
    obtain ⟨u, hu, rv⟩ := r.get ha
    have hp : ps[i]? = some y := by
      rw [← S.pre, List.getElem?_take_of_lt (by omega)]; exact h1
    have ndP : ps.Nodup := by rw [← S.pre]; exact S.nd.sublist (List.take_sublist _ _)
    refine ⟨u, rv, ?_⟩
    rcases S.par y (List.mem_of_getElem? hp) with k | k
    · exact .inl ⟨k, UO ndP hp hu k⟩
    · obtain ⟨c, e⟩ := Gp (n := s.heap.objs.size + 1) k
      refine .inr ⟨.inl k, c, e, ?_⟩
      have q := x.cell y c e
      rw [UK ndP hp hu (by show scope.names.lookup y ≠ _; rw [k]; decide)] at q
      exact q
  · exact e0.hok.fresh (Nat.le_of_lt (x.above y c (PySem.mem_of_lookup h)))
  · unfold Ud
    show _ = N.length
    rw [List.length_append, List.length_map, List.length_replicate]
    omega
theorem HW {CX : CXT} {P : Program} {w : World} {K : PySem.W.Frag} {mg : Str -> Option Value} {base : Heap} {k : Nat} {f : Addr} {name qual : Str} {params : Arguments} {body : List Stmt} {scope : Scope} {dV kV doc pm cdv ct oc : Value} {an od : Option Addr}
    {osl : Array (Option Value)} {N ps : List Str} {sp : Sp} (lk : K.lookup f = some ⟨oc, od, .func (PySem.W.fnOf name qual params body scope dV kV doc pm an cdv ct), osl⟩) (hcd : PySem.W.codeIn K cdv qual = true) (S : FnScope N ps scope)
    (len : ∀ vs H Q E, sp vs H Q E -> vs.length = ps.length)
    (hbody : ∀ (A : Around) (outer : List Env) (s : Shared) (H : Hp) (vs : List V) (Q : VK) (E : XK), Room k (A.deeper (envOfC qual scope s.heap.objs.size f cdv)) -> sp vs H Q E ->
      ∃ t, PSs (BC CX P w K mg base N qual scope f cdv A outer s H E) body t /\ t { nx := fun _ H' => Q .non H', rt := Q } (Ud N vs) H) :
    FnOk P w K mg base CX (k + 1) f (PySem.W.fnOf name qual params body scope dV kV doc pm an cdv ct) ps sp := by
  refine ⟨len, fun A outer s H args us vs Q E hr e0 hb r hsp => ?_⟩
  have hl := len _ _ _ _ hsp
  have KX : K.In s.heap := e0.mod.kin.keeps fun b o e => (e0.bs b o e).1
  have lim : s.heap.NoLimit := e0.mod.nolimit.keeps fun b o e => (e0.bs b o e).1
  have hkind : ∀ y ∈ ps.zip us, scope.names.lookup y.1 = some .local ∨ (scope.names.lookup y.1 = some .cell /\ ((cellsFrom (s.heap.objs.size + 1) scope.names []).lookup y.1).isSome = true) := fun ⟨n, v⟩ hy => by
    rcases S.par n (List.of_mem_zip hy).1 with q | q
    · exact .inl q
    · exact .inr ⟨q, PySem.W.cellsFrom_some _ _ _ (.inl q)⟩
  refine codeAny_call_function hr.depth (KX _ _ lk) rfl S.co S.gen rfl (PySem.W.codeRec_of KX hcd) (hb _ _ _ _ ?_)
  refine wpAny_newFunctionEnv_cells S.kind hkind fun env he s1 x => ?_
  subst he
  refine ⟨lim.keeps x.toInCall.keep, codeAny_func ?_⟩
  obtain ⟨t, ht, hq⟩ := hbody A outer s H vs Q E (hr.deeper _) hsp
  have I : Inv (BC CX P w K mg base N qual scope f cdv A outer s H E) [] (Ud N vs) H s1 := DC S hr.hd e0 hl r x
  refine wpAny_mono (ht [] s1 (Ud N vs) H _ I hq) (fun fl s' hs => ?_) fun e s' hs => hs
  have fin : ∀ {σ' : St} {H' : Hp} {v : V} {u : Value}, Inv (BC CX P w K mg base N qual scope f cdv A outer s H E) [] σ' H' s' -> Yt v u -> Q v H' -> CE outer P w H s Q u s' :=
    fun {σ' H' v u} J rv q => ⟨v, H', J.os, J.bare, J.base, J.hok, rv, q⟩
  cases fl with
  | ret u =>
    obtain ⟨v, σ', H', J, rv, q⟩ := hs
    exact fin J rv q
  | next =>
    obtain ⟨σ', H', J, q⟩ := hs
    exact fin (v := V.non) (u := Value.none) J rfl q
  | brk =>
    obtain ⟨_, _, _, q⟩ := hs
    exact False.elim q
  | cont =>
    obtain ⟨_, _, _, q⟩ := hs
    exact False.elim q
end L2
namespace L2
open PySem PySem.Spec PyProof.Rows
section
variable {X : Cx} {x : Str} {p pos : Pos} {e : Expr} {es : List Expr} {t : TA} {id T : String} {r : List V -> Hp -> VK -> Prop}
noncomputable def tCB (r : List V -> Hp -> VK -> Prop) (t : TA) : TE := fun σ H Q => t σ H fun vs H1 => r vs H1 Q
theorem Xu (hc : Qi X (.builtin id) r) (hg : Gl X x) (hm : X.mg x = none) (hv : bootBuiltins x = some (.builtin id)) (ha : PA X (e :: es) t) (hn : x ≠ "__name__" := by decide) (hdb : (x == ("__debug__" : Str)) = false := by decide)
    (he : starEach (e :: es) X.env = (false, eval e X.env) :: starEach es X.env := by rfl) (hpl : (backTo pos (starEach es X.env)).any (·.1) = false := by rfl) : PE X (.Call (.Name x p) (e :: es) [] pos) (tCB r t) := by
  intro pins s σ H Q I h
  refine wpAny_Call_Name_kw (Vg I hg hm hv ?_ hn hdb)
  exact PyProof.Rows.callWith_builtin1 (thn (ha pos pins s σ H _ I h) fun us s1 ⟨vs, H1, I1, r1, q1⟩ => hc pins s1 σ H1 vs us Q I1 r1 q1) he hpl
theorem ZR (hc : Qi X (.type T) r) (hg : Gl X x) (hm : X.mg x = none) (hv : bootBuiltins x = some (.type T)) (ha : PA X (e :: es) t) (hn : x ≠ "__name__" := by decide) (hdb : (x == ("__debug__" : Str)) = false := by decide)
    (he : starEach (e :: es) X.env = (false, eval e X.env) :: starEach es X.env := by rfl) (hpl : (backTo pos (starEach es X.env)).any (·.1) = false := by rfl) : PE X (.Call (.Name x p) (e :: es) [] pos) (tCB r t) := by
  intro pins s σ H Q I h
  refine wpAny_Call_Name_kw (Vg I hg hm hv ?_ hn hdb)
  exact PyProof.Rows.callWith_type1 (thn (ha pos pins s σ H _ I h) fun us s1 ⟨vs, H1, I1, r1, q1⟩ => hc pins s1 σ H1 vs us Q I1 r1 q1) he hpl
end
end L2
namespace HT
open PySem PyProof.Rows
section
open PySem.SeqAt
open PySem.AutoSeq1 (wpAny_loadPart')
open PySem.MeetsSeq PySem.MeetsSeq2 PySem.MeetsSeq3
end
section
variable {prog : Program} {w : World} {A : Around} {E : Value -> Shared -> Prop} {s : Shared}
noncomputable def sIx (n d : Nat) : Option Int -> Nat
  | none => d
  | some v => if v < 0 then (v + (n : Int)).toNat else min v.toNat n
theorem sIx_none (n d : Nat) : sIx n d none = d := rfl
theorem sIx_nat (n d k : Nat) : sIx n d (some (k : Int)) = min k n := by
  show (if (k : Int) < 0 then ((k : Int) + (n : Int)).toNat else min (k : Int).toNat n) = min k n
  rw [if_neg (by omega), Int.toNat_natCast]
theorem Ht (n d : Nat) (hd : d <= n) (o : Option Int) : sIx n d o <= n := by
  cases o with
  | none => exact hd
  | some v =>
    show (if v < 0 then (v + (n : Int)).toNat else min v.toNat n) <= n
    by_cases hv : v < 0
    · rw [if_pos hv]; omega
    · rw [if_neg hv]; exact Nat.min_le_right _ _
theorem FR (v : Int) (n d : Nat) : (if v < 0 then max (v + (n : Int)) 0 else min v (n : Int)) = ((sIx n d (some v) : Nat) : Int) := by
  show (if v < 0 then max (v + (n : Int)) 0 else min v (n : Int)) = (((if v < 0 then (v + (n : Int)).toNat else min v.toNat n) : Nat) : Int)
  by_cases hv : v < 0
  · simp only [if_pos hv]; omega
  · simp only [if_neg hv]; omega
theorem GT (lo hi : Option Int) (n : Nat) : Builtin.Slice.sliceAdjust lo hi 1 (n : Int) = (((sIx n 0 lo : Nat) : Int), ((sIx n n hi : Nat) : Int)) := by
  have h1 : ¬ ((1 : Int) < 0) := by omega
  unfold Builtin.Slice.sliceAdjust
  simp only [h1, if_false]
  refine Prod.ext ?_ ?_
  · cases lo with
    | none => rfl
    | some v => exact FR v n 0
  · cases hi with
    | none => rfl
    | some v => exact FR v n n
theorem GY (i j : Nat) : Builtin.Slice.slicePlaces (i : Int) (j : Int) 1 = j - i := by
  unfold Builtin.Slice.slicePlaces
  have h1 : (1 : Int) > 0 := by omega
  simp only [h1, if_true, Int.ediv_one]
  split <;> omega
theorem V0 {v : Value} {o : Option Int} {Q : Option Int -> Shared -> Prop} (p : IsPart v o) (h : Q o s) : wpAny (model prog w) A (Builtin.Slice.slicePartIndex v) Q E s := by
  cases p with
  | none => exact slicePart_none h
  | int i t => exact slicePart_int h
theorem JF {sl : Addr} {vl vu : Value} {lo hi : Option Int} {n : Nat} {Q : Int × Int × Nat -> Shared -> Prop} (hs : s.heap.IsSliceOf sl vl vu .none) (pl : IsPart vl lo) (pu : IsPart vu hi)
    (h : Q (((sIx n 0 lo : Nat) : Int), 1, sIx n n hi - sIx n 0 lo) s) : wpAny (model prog w) A (Builtin.Slice.sliceApplied (.ref sl) (pure (n : Int))) Q E s := by
  obtain ⟨os, hos, hcs, hds⟩ := id hs
  unfold Builtin.Slice.sliceApplied Builtin.Slice.sliceFields
  refine wpAny_bind (wpAny_bind (wpAny_field hos hds (x := vl) rfl (wpAny_bind (wpAny_field hos hds (x := vu) rfl (wpAny_bind (wpAny_field hos hds (x := .none) rfl (wpAny_pure ?_)))))))
  refine wpAny_bind (slicePart_none ?_)
  show wpAny _ _ (if ((1 : Int) == 0) = true then _ else _) _ _ s
  rw [if_neg (by decide)]
  refine wpAny_bind (V0 pl (wpAny_bind (V0 pu (wpAny_bind (wpAny_pure ?_)))))
  show wpAny _ _ (match Builtin.Slice.sliceAdjust lo hi 1 (n : Int) with | (lo, hi) => pure (lo, (1 : Int), Builtin.Slice.slicePlaces lo hi 1)) _ _ s
  rw [GT lo hi n]
  show wpAny _ _ (pure (((sIx n 0 lo : Nat) : Int), (1 : Int), Builtin.Slice.slicePlaces ((sIx n 0 lo : Nat) : Int) ((sIx n n hi : Nat) : Int) 1)) _ _ s
  rw [GY]
  exact wpAny_pure h
theorem Cp (xs : Array Value) (i k : Nat) : ((List.range k).filterMap fun (m : Nat) => xs[((i : Int) + (m : Int) * 1).toNat]?).toArray = ((xs.toList.drop i).take k).toArray := by
  have e : (fun (m : Nat) => xs[((i : Int) + (m : Int) * 1).toNat]?) = fun m => xs[i + m]? := by
    funext m
    have : ((i : Int) + (m : Int) * 1).toNat = i + m := by omega
    rw [this]
  rw [e]
  have := pick_run xs i k
  rw [List.filterMap_map] at this
  have e2 : ((fun x => xs[x]?) ∘ fun x => i + x) = fun m => xs[i + m]? := rfl
  rw [e2] at this
  rw [this]
theorem getItem_tuple_cut {t sl : Addr} {items : Array Value} {vl vu : Value} {lo hi : Option Int} {Q : Value -> Shared -> Prop} (ht : IsTup s.heap t items) (hs : s.heap.IsSliceOf sl vl vu .none) (pl : IsPart vl lo) (pu : IsPart vu hi)
    (hw : ¬ (sIx items.size 0 lo = 0 /\ sIx items.size items.size hi = items.size))
    (h : Q (.ref s.heap.objs.size) { s with heap := s.heap.push { cls := .type "tuple", data := .seq ((items.toList.drop (sIx items.size 0 lo)).take (sIx items.size items.size hi - sIx items.size 0 lo)).toArray } })
    (hsz : items.size <= sizeLine) : wpAny (model prog w) A (getItem (.ref t) (.ref sl)) Q E s := by
  have htake : sizeOk (.seq ((items.toList.drop (sIx items.size 0 lo)).take (sIx items.size items.size hi - sIx items.size 0 lo)).toArray) := by
    show ((items.toList.drop (sIx items.size 0 lo)).take (sIx items.size items.size hi - sIx items.size 0 lo)).toArray.size <= sizeLine
    rw [List.size_toArray, List.length_take, List.length_drop, Array.length_toList]
    omega
  have hj : sIx items.size items.size hi <= items.size := Ht _ _ (Nat.le_refl _) hi
  obtain ⟨os, hos, hcs, hds⟩ := id hs
  have hTs : s.TypeIs (.ref sl) "slice" := ⟨os, hos, hcs⟩
  unfold getItem
  try with_reducible refine wpAny_holding ?_
  first | refine wpAny_bind (wpAny_pure ?_) | skip
  refine wpAny_bind (wpAny_sequenceKey ht.typeIs (by decide) ?_)
  refine wpAny_bind (wpAny_callSpecial?_slot (name := Str.ofString "__getitem__") ht.typeIs PyProof.Rows.slot_tuple_getitem
    (wpAny_call_entry PyProof.Rows.slot_tuple_getitem ht.typeIs entry_tuple_getitem ?_ (args_tuple_getitem _ _)))
  show wpAny _ _ (Builtin.Tuple.tupleItemsOf (.ref t) >>= _) _ _ s
  refine wpAny_bind (tupleItemsOf_ ht ?_)
  refine wpAny_bind (wpAny_typeOf hTs ?_)
  rw [if_pos (by decide)]
  refine wpAny_bind (JF hs pl pu ?_)
  have hno : ¬ ((((sIx items.size 0 lo : Nat) : Int) == 0 && (1 : Int) == 1 && (sIx items.size items.size hi - sIx items.size 0 lo) == items.size) = true) := by
    intro q
    rw [Bool.and_eq_true, Bool.and_eq_true] at q
    have q1 : ((sIx items.size 0 lo : Nat) : Int) = 0 := eq_of_beq q.1.1
    have q2 : sIx items.size items.size hi - sIx items.size 0 lo = items.size := eq_of_beq q.2
    exact hw ⟨by omega, by omega⟩
  show wpAny _ _ (if (((sIx items.size 0 lo : Nat) : Int) == 0 && (1 : Int) == 1 && (sIx items.size items.size hi - sIx items.size 0 lo) == items.size) = true then _ else _) _ _ s
  rw [if_neg hno, Cp]
  first
    | exact wpAny_bind (m := Builtin.Tuple.tupleExact _) (wpAny_newObj_type (wpAny_pure ⟨_, rfl, wpAny_pure h⟩) htake)
    | exact wpAny_bind (m := Builtin.Tuple.tupleExact _) (wpAny_newObj_type (wpAny_bind (wpAny_pure (wpAny_pure ⟨_, rfl, wpAny_pure h⟩))) htake)
    | exact wpAny_bind (wpAny_bind (m := Builtin.Tuple.tupleExact _) (wpAny_newObj_type (wpAny_pure (wpAny_pure ⟨_, rfl, wpAny_pure h⟩)) htake))
    | exact wpAny_bind (wpAny_bind (m := Builtin.Tuple.tupleExact _) (wpAny_newObj_type (wpAny_pure ⟨_, rfl, wpAny_pure h⟩) htake))
end
end HT
namespace L2
open PySem PySem.Spec PyProof.Rows
noncomputable abbrev TO := St -> Hp -> (Option Int -> Hp -> Prop) -> Prop
noncomputable def PO (X : Cx) (e : Option Expr) (t : TO) : Prop :=
  ∀ (pins : List (Addr × Obj)) (s : Shared) (σ : St) (H : Hp) (Q : Option Int -> Hp -> Prop), Inv X pins σ H s -> t σ H Q ->
    wpAny (model X.prog X.w) X.A (evalPart e X.env) (fun u s' => ∃ o H', Inv X pins σ H' s' /\ IsPart u o /\ Q o H') X.xe s
noncomputable def Dv : TO := fun _ H Q => Q none H
noncomputable def E3 (t : TE) : TO := fun σ H Q => t σ H fun x H1 => ∃ i, x = .int i /\ Q (some i) H1
theorem G4 {ns : List Int} : ∀ {us : List Value}, Yl (ns.map V.int) us -> IntsAre us ns := by
  induction ns with
  | nil => intro us r; rw [List.map_nil] at r; cases r; exact .nil
  | cons n ns ih =>
    intro us r
    rw [List.map_cons] at r
    cases r with
    | cons r1 r2 =>
      obtain ⟨t, e⟩ := r1
      subst e
      exact .cons n t (ih r2)
section
variable {X : Cx} {e : Expr} {te : TE} {lo hi : Option Expr} {tl th : TO} {pos p2 : Pos}
theorem Jp : PO X none Dv := by
  intro pins s σ H Q I h
  rw [evalPart_none]
  exact wpAny_pure ⟨none, H, I, .none, h⟩
theorem Qg (h : PE X e te) : PO X (some e) (E3 te) := by
  intro pins s σ H Q I hw
  rw [evalPart_some]
  refine thn (h pins s σ H _ I hw) fun u s1 ⟨x, H1, I1, r1, q1⟩ => ?_
  obtain ⟨i, rfl, q⟩ := q1
  obtain ⟨t, rfl⟩ := r1
  exact ⟨some i, H1, I1, .int i t, q⟩
noncomputable def SlR (X : Cx) (r : V -> Option Int -> Option Int -> Hp -> VK -> Prop) : Prop :=
  ∀ (pins : List (Addr × Obj)) (s : Shared) (σ : St) (H : Hp) (x : V) (v vl vu : Value) (lo hi : Option Int) (sl : Addr) (Q : VK), Inv X pins σ H s -> Yt x v -> s.heap.IsSliceOf sl vl vu .none -> IsPart vl lo -> IsPart vu hi -> r x lo hi H Q ->
    ∃ T id, typeLookup (.type T) "__getitem__" = pure (some (.builtin id)) /\ s.TypeIs v T /\ wpAny (model X.prog X.w) X.A (getItem v (.ref sl)) (EP X pins σ Q) X.xe s
theorem SlR.or {r r' : V -> Option Int -> Option Int -> Hp -> VK -> Prop} (h : SlR X r) (h' : SlR X r') : SlR X (fun x lo hi H Q => r x lo hi H Q ∨ r' x lo hi H Q) := by
  intro pins s σ H x v vl vu lo hi sl Q I rx hs pl pu q
  rcases q with q | q
  · exact h pins s σ H x v vl vu lo hi sl Q I rx hs pl pu q
  · exact h' pins s σ H x v vl vu lo hi sl Q I rx hs pl pu q
noncomputable def tSl (r : V -> Option Int -> Option Int -> Hp -> VK -> Prop) (te : TE) (tl th : TO) : TE := fun σ H Q => te σ H fun x H1 => tl σ H1 fun l H2 => th σ H2 fun u H3 => r x l u H3 Q
theorem ZY {r : V -> Option Int -> Option Int -> Hp -> VK -> Prop} (hr : SlR X r) (he : PE X e te) (hl : PO X lo tl) (hu : PO X hi th) : PE X (.Subscript e (.Slice lo hi none p2) pos) (tSl r te tl th) := by
  intro pins s σ H Q I h
  refine Subscript_ (thn (he pins s σ H _ I h) fun v s1 ⟨x, H1, I1, r1, q1⟩ => ?_)
  refine wpAny_Slice (thn (hl pins s1 σ H1 _ I1 q1) fun vl s2 ⟨l, H2, I2, pl, q2⟩ => thn (hu pins s2 σ H2 _ I2 q2) fun vu s3 ⟨u, H3, I3, pu, q3⟩ => ?_)
  rw [evalPart_none]
  refine wpAny_pure ?_
  have I4 : Inv X pins σ H3 { s3 with heap := s3.heap.push { cls := .type "slice", data := .fields #[vl, vu, .none] } } := I3.kept (t' := s3.toks) fun b ob q => Heap.get?_push_of_some _ q
  obtain ⟨T, id, hT, ht, hg⟩ := hr pins { s3 with heap := s3.heap.push { cls := .type "slice", data := .fields #[vl, vu, .none] } } σ H3 x v vl vu l u s3.heap.objs.size Q I4 r1 (Heap.IsSliceOf.new ..) pl pu q3
  show wpAny (model X.prog X.w) X.A (subscriptTail e (.Slice lo hi none p2) v (.ref s3.heap.objs.size)) (EP X pins σ Q) X.xe { s3 with heap := s3.heap.push { cls := .type "slice", data := .fields #[vl, vu, .none] } }
  exact tail_any (ops := [.ref s3.heap.objs.size, v]) ht hT hg (by with_unfolding_all rfl)
noncomputable def Bh (xs : List V) (lo hi : Option Int) : List V := (xs.drop (HT.sIx xs.length 0 lo)).take (HT.sIx xs.length xs.length hi - HT.sIx xs.length 0 lo)
theorem Vt (xs : List V) (lo hi : Option Int) : (Bh xs lo hi).length <= xs.length := by
  unfold Bh
  rw [List.length_take, List.length_drop]
  omega
noncomputable def Ib (K : PySem.W.Frag) : V -> Option Int -> Option Int -> Hp -> VK -> Prop := fun x lo hi H Q => ∃ a xs, x = .ref a /\ SqT K H a xs /\
  ¬ (HT.sIx xs.length 0 lo = 0 /\ HT.sIx xs.length xs.length hi = xs.length) /\ ∀ p, H p = none -> Q (.ref p) (upd H p (.tup (Bh xs lo hi)))
theorem Hj : SlR X (Ib X.K) := by
  intro pins s σ H x v vl vu lo hi sl Q I rx hs pl pu h
  obtain ⟨a, xs, rfl, hx, hw, q⟩ := h
  cases rx
  obtain ⟨its, r, ht, hz⟩ := I.tuple hx
  have hlen : its.toArray.size = xs.length := by rw [List.size_toArray]; exact r.length.symm
  refine ⟨"tuple", _, PyProof.Rows.slot_tuple_getitem.lookup, ht.typeIs, ?_⟩
  refine HT.getItem_tuple_cut ht hs pl pu (by rw [hlen]; exact hw) ?_ (by rw [hlen]; exact hz)
  rw [hlen]
  refine ⟨.ref s.heap.objs.size, _, I.laid (t' := s.toks) (o := .tup (Bh xs lo hi)) (fun b ob q => Heap.get?_push_of_some _ q) (Nat.le_refl _) ?_, rfl, q _ (I.hok.fresh (Nat.le_refl _))⟩
  exact ⟨Nat.le_trans (Vt xs lo hi) hz, _, (r.drop (HT.sIx xs.length 0 lo)).take (HT.sIx xs.length xs.length hi - HT.sIx xs.length 0 lo), IsTup.new _ _⟩
end
end L2
namespace L2
open PySem PySem.Spec PyProof.Rows
noncomputable def ixN (n : Nat) (i : Int) : Option Nat := if 0 <= i then (if i < n then some i.toNat else none) else if -(n : Int) <= i then some (i + n).toNat else none
noncomputable def atI {α : Type} (xs : List α) (i : Int) : Option α := (ixN xs.length i).bind fun j => xs[j]?
theorem F9 {n : Nat} {i : Int} {j : Nat} (h : ixN n i = some j) : seqIndex? i n = some j /\ j < n /\ -(n : Int) <= i /\ i < n := by
  unfold ixN at h
  by_cases h0 : 0 <= i
  · rw [if_pos h0] at h
    by_cases h1 : i < n
    · rw [if_pos h1] at h
      have e : i.toNat = j := Option.some.inj h
      exact ⟨by rw [seqIndex_of h0 h1, e], by omega, by omega, h1⟩
    · rw [if_neg h1] at h; cases h
  · rw [if_neg h0] at h
    by_cases h1 : -(n : Int) <= i
    · rw [if_pos h1] at h
      have e : (i + n).toNat = j := Option.some.inj h
      exact ⟨by rw [seqIndex_neg (by omega) h1, e], by omega, h1, by omega⟩
    · rw [if_neg h1] at h; cases h
theorem FZ {α : Type} {xs : List α} {i : Int} {v : α} (h : atI xs i = some v) : ∃ j, seqIndex? i xs.length = some j /\ xs[j]? = some v /\ j < xs.length /\ -(xs.length : Int) <= i /\ i < xs.length := by
  unfold atI at h
  cases e : ixN xs.length i with
  | none => rw [e] at h; cases h
  | some j =>
    rw [e] at h
    obtain ⟨h1, h2, h3, h4⟩ := F9 e
    exact ⟨j, h1, h, h2, h3, h4⟩
noncomputable def B3 (b : Expr) : Prop := ∀ o i, subscripted b false o i = operate [o, i] (getItem o i)
noncomputable def IxR (X : Cx) (r : R2) : Prop :=
  ∀ (value slice : Expr) (pins : List (Addr × Obj)) (s : Shared) (σ : St) (H : Hp) (x y : V) (v u : Value) (Q : VK), Inv X pins σ H s -> Yt x v -> Yt y u -> r x y H Q ->
    subscripted slice false v u = operate [v, u] (getItem v u) -> wpAny (model X.prog X.w) X.A (subscriptTail value slice v u) (EP X pins σ Q) X.xe s
noncomputable def MtR (X : Cx) (id : String) (r : V -> List V -> Hp -> VK -> Prop) : Prop :=
  ∀ (pins : List (Addr × Obj)) (s : Shared) (σ : St) (H : Hp) (x : V) (xs : List V) (v : Value) (us : List Value) (Q : VK), Inv X pins σ H s -> Yt x v -> Yl xs us -> r x xs H Q ->
    wpAny (model X.prog X.w) X.A (call (.builtin id) (v :: us)) (EP X pins σ Q) X.xe s
section
variable {X : Cx} {a b : Expr} {ta tb : TE} {pos : Pos}
theorem IxR.or {r r' : R2} (h : IxR X r) (h' : IxR X r') : IxR X (fun x y H Q => r x y H Q ∨ r' x y H Q) := by
  intro value slice pins s σ H x y v u Q I rx ry q hs
  rcases q with q | q
  · exact h value slice pins s σ H x y v u Q I rx ry q hs
  · exact h' value slice pins s σ H x y v u Q I rx ry q hs
theorem MtR.or {id : String} {r r' : V -> List V -> Hp -> VK -> Prop} (h : MtR X id r) (h' : MtR X id r') : MtR X id (fun x xs H Q => r x xs H Q ∨ r' x xs H Q) := by
  intro pins s σ H x xs v us Q I rx rs q
  rcases q with q | q
  · exact h pins s σ H x xs v us Q I rx rs q
  · exact h' pins s σ H x xs v us Q I rx rs q
theorem Xx {r : R2} (hr : IxR X r) (ha : PE X a ta) (hb : PE X b tb) (hs : B3 b) : PE X (.Subscript a b pos) (tOp r ta tb) := by
  intro pins s σ H Q I h
  exact Subscript_ (HN ha hb I h fun v u s2 x y H2 I2 rx ry q => hr a b pins s2 σ H2 x y v u Q I2 rx ry q (hs _ _))
noncomputable def Bl (K : PySem.W.Frag) : R2 := fun x y H Q => ∃ p xs i v, x = .ref p /\ y = .int i /\ SqL K H p xs /\ atI xs i = some v /\ Q v H
noncomputable def EE (K : PySem.W.Frag) : R2 := fun x y H Q => ∃ p xs i v, x = .ref p /\ y = .int i /\ SqT K H p xs /\ atI xs i = some v /\ Q v H
theorem BP : IxR X (Bl X.K) := by
  intro value slice pins s σ H x y v u Q I rx ry h hs
  obtain ⟨p, xs, i, z, rfl, rfl, hq, he, q⟩ := h
  cases rx
  obtain ⟨t, rfl⟩ := ry
  obtain ⟨its, r, pl, hz⟩ := I.list hq
  obtain ⟨j, h1, h2, h3, h4, h5⟩ := FZ he
  obtain ⟨w, ew, rw'⟩ := r.get h2
  have hl := r.length
  have hn := KZ
  have fin : EP X pins σ Q w s := ⟨z, H, I, rw', q⟩
  by_cases h0 : 0 <= i
  · have hj : i.toNat = j := by
      rw [seqIndex_of h0 h5] at h1
      exact Option.some.inj h1
    exact item_listR pl.isList h0 (by omega) (by rw [hj]; simpa using ew) fin hs
  · have hj : (i + (its.toArray.size : Int)).toNat = j := by
      rw [seqIndex_neg (by omega) h4] at h1
      rw [List.size_toArray, ← hl]
      exact Option.some.inj h1
    exact subscriptTail_builtinR (x := w) pl.isList.typeIs slot_list_getitem.lookup
      (wpAny_getItem_list_neg (Q := fun r s' => r = w /\ EP X pins σ Q r s') pl.isList (by omega) (by rw [List.size_toArray] <;> omega) (by omega) (by rw [hj]; simpa using ew) ⟨rfl, fin⟩) hs
theorem E6 : IxR X (EE X.K) := by
  intro value slice pins s σ H x y v u Q I rx ry h hs
  obtain ⟨p, xs, i, z, rfl, rfl, hq, he, q⟩ := h
  cases rx
  obtain ⟨t, rfl⟩ := ry
  obtain ⟨its, r, pl, hz⟩ := I.tuple hq
  obtain ⟨j, h1, h2, h3, h4, h5⟩ := FZ he
  obtain ⟨w, ew, rw'⟩ := r.get h2
  have hl := r.length
  have hn := KZ
  have fin : EP X pins σ Q w s := ⟨z, H, I, rw', q⟩
  exact subscriptTail_builtinR (x := w) pl.typeIs slot_tuple_getitem.lookup
    (getItem_tuple (j := j) (Q := fun r s' => r = w /\ EP X pins σ Q r s') pl (by omega) (by omega) (by rw [List.size_toArray, ← hl]; exact h1) (by simpa using ew) ⟨rfl, fin⟩) hs
theorem G3 (its : List Value) (n j : Nat) (u : Value) : Obj.mapSeq (·.setIfInBounds j u) { cls := .type "list", data := .seq its.toArray n } = { cls := .type "list", data := .seq (its.set j u).toArray n } := by
  simp [Obj.mapSeq]
theorem Inv.lst {pins : List (Addr × Obj)} {σ : St} {H : Hp} {s : Shared} {p : Addr} {xs : List V} (I : Inv X pins σ H s) (h : H p = some (.lst xs)) :
    ∃ (its : List Value) (n : Nat), Yl xs its /\ s.heap.get? p = some { cls := .type "list", data := .seq its.toArray n } /\ xs.length <= sizeLine := by
  obtain ⟨z, its, n, r, e⟩ := I.hok p _ h
  exact ⟨its, n, r, e, z⟩
theorem Inv.lstUpd {pins : List (Addr × Obj)} {σ : St} {H : Hp} {s : Shared} {p : Addr} {xs ys : List V} {its its' : List Value} {n n' : Nat} {f : Obj -> Obj} (I : Inv X pins σ H s) (h : H p = some (.lst xs))
    (ho : s.heap.get? p = some { cls := .type "list", data := .seq its.toArray n }) (hf : f { cls := .type "list", data := .seq its.toArray n } = { cls := .type "list", data := .seq its'.toArray n' }) (r : Yl ys its') (hz : ys.length <= sizeLine) (t : Nat) :
    Inv X pins σ (upd H p (.lst ys)) { s with heap := s.heap.update p f, toks := t } := by
  have e : (s.heap.update p f).get? p = some { cls := .type "list", data := .seq its'.toArray n' } := by
    rw [Heap.get?_update_self f ho (by rw [hf] <;> rfl), hf]
  refine I.write (x := p) (e := p) (by rw [h]; trivial) (.inl rfl) (fun b u hb q => (Heap.get?_update_other _ _ (Ne.symm hb)).trans q) ⟨_, e⟩ ?_
  exact ⟨hz, its', n', r, e⟩
noncomputable def Ei : V -> V -> V -> Hp -> (Hp -> Prop) -> Prop := fun o i v H Q => ∃ p xs k j, o = .ref p /\ i = .int k /\ H p = some (.lst xs) /\ ixN xs.length k = some j /\ Q (upd H p (.lst (xs.set j v)))
theorem Q4 : Is X Ei := by
  intro pins s σ H o i v ov iv u Q I ro ri rv h
  obtain ⟨p, xs, k, j, rfl, rfl, hp, hj, q⟩ := h
  cases ro
  obtain ⟨t, rfl⟩ := ri
  obtain ⟨its, n, r, ho, hz⟩ := I.lst hp
  obtain ⟨h1, h2, h3, h4⟩ := F9 hj
  have hl := r.length
  have hn := KZ
  have I' : Inv X pins σ (upd H p (.lst (xs.set j v))) { s with heap := s.heap.update p (Obj.mapSeq (·.setIfInBounds j u)) } :=
    I.lstUpd hp ho (G3 its n j u) (r.set rv j) (by rw [List.length_set]; exact hz) s.toks
  by_cases h0 : 0 <= k
  · have hk : k.toNat = j := by
      rw [seqIndex_of h0 h4] at h1
      exact Option.some.inj h1
    exact PySem.W.ki_setAt ho h0 (by omega) (by rw [List.size_toArray, ← hl]; exact h4) (by rw [hk]; exact ⟨_, I', q⟩)
  · have hk : (k + (its.toArray.size : Int)).toNat = j := by
      rw [seqIndex_neg (by omega) h3] at h1
      rw [List.size_toArray, ← hl]
      exact Option.some.inj h1
    exact PySem.W.ki_setBack ho (by omega) (by rw [List.size_toArray, ← hl]; exact h3) (by omega) (by rw [hk]; exact ⟨_, I', q⟩)
theorem U3 (lo hi : Option Int) (n : Nat) : (sliceBounds lo hi none n).1 = ((HT.sIx n 0 lo : Nat) : Int) /\ (sliceBounds lo hi none n).2.1 = ((HT.sIx n n hi : Nat) : Int) /\ (sliceBounds lo hi none n).2.2 = 1 := by
  refine ⟨?_, ?_, rfl⟩
  · cases lo with
    | none => simp [sliceBounds, HT.sIx]
    | some i =>
      simp only [sliceBounds, HT.sIx, Option.getD_none, show (1 : Int) > 0 by decide, if_true]
      by_cases h : i < 0
      · simp only [h, if_true] <;> omega
      · simp only [h, if_false] <;> omega
  · cases hi with
    | none => simp [sliceBounds, HT.sIx]
    | some i =>
      simp only [sliceBounds, HT.sIx, Option.getD_none, show (1 : Int) > 0 by decide, if_true]
      by_cases h : i < 0
      · simp only [h, if_true] <;> omega
      · simp only [h, if_false] <;> omega
theorem Uf (its : List Value) (lo hi : Option Int) : slicePick its.toArray lo hi none = ((its.drop (HT.sIx its.length 0 lo)).take (HT.sIx its.length its.length hi - HT.sIx its.length 0 lo)).toArray := by
  obtain ⟨h1, h2, h3⟩ := U3 lo hi its.toArray.size
  unfold slicePick
  rw [h1, h2, h3]
  simp only [sliceRange_one, pick_run, List.size_toArray] <;> rfl
noncomputable def HC (K : PySem.W.Frag) : V -> Option Int -> Option Int -> Hp -> VK -> Prop := fun x lo hi H Q => ∃ a xs, x = .ref a /\ SqL K H a xs /\ ∀ p, H p = none -> Q (.ref p) (upd H p (.lst (Bh xs lo hi)))
theorem BM : SlR X (HC X.K) := by
  intro pins s σ H x v vl vu lo hi sl Q I rx hs pl pu h
  obtain ⟨a, xs, rfl, hx, q⟩ := h
  cases rx
  obtain ⟨its, r, ht, hz⟩ := I.list hx
  have hlen := r.length
  refine ⟨"list", _, slot_list_getitem.lookup, ht.isList.typeIs, ?_⟩
  refine wpAny_getItem_list_slice ht.isList hs pl pu .none (by simp) ?_ (by rw [List.size_toArray] <;> omega)
  rw [Uf, ← hlen]
  refine ⟨.ref s.heap.objs.size, _, I.laid (t' := s.toks) (o := .lst (Bh xs lo hi)) (fun b ob q => Heap.get?_push_of_some _ q) (Nat.le_refl _) ?_, rfl, q _ (I.hok.fresh (Nat.le_refl _))⟩
  exact ⟨Nat.le_trans (Vt xs lo hi) hz, _, 0, (r.drop (HT.sIx xs.length 0 lo)).take (HT.sIx xs.length xs.length hi - HT.sIx xs.length 0 lo), Heap.get?_push_size _ rfl⟩
noncomputable def JG : V -> Bool
  | .non => true
  | .bl _ => true
  | .int _ => true
  | .str _ => true
  | _ => false
noncomputable def eqV : V -> V -> Bool
  | .non, .non => true
  | .bl a, .bl b => a == b
  | .bl a, .int b => (if a then 1 else 0) == b
  | .int a, .bl b => a == (if b then 1 else 0)
  | .int a, .int b => a == b
  | .str a, .str b => a == b
  | _, _ => false
theorem EQ {A : Around} {s : Shared} {y x : V} {u v : Value} (ry : Yt y u) (rx : Yt x v) (fy : JG y = true) (fx : JG x = true) : SeqAt.EqAt A s u v (eqV y x) := by
  cases y with
  | non =>
    cases ry
    cases x with
    | non => cases rx; exact SeqAt.EqAt.same _
    | bl b => cases rx; exact SeqAt.EqAt.none_bool b
    | int b => obtain ⟨t, rfl⟩ := rx; exact SeqAt.EqAt.none_int b t
    | str b => obtain ⟨t, rfl⟩ := rx; exact SeqAt.EqAt.none_str b t
    | _ => exact absurd (show false = true from fx) Bool.false_ne_true
  | bl a =>
    cases ry
    cases x with
    | non => cases rx; exact SeqAt.EqAt.bool_none a
    | bl b => cases rx; exact SeqAt.EqAt.bool_bool a b
    | int b => obtain ⟨t, rfl⟩ := rx; exact SeqAt.EqAt.bool_int a b t
    | str b => obtain ⟨t, rfl⟩ := rx; exact SeqAt.EqAt.bool_str a b t
    | _ => exact absurd (show false = true from fx) Bool.false_ne_true
  | int a =>
    obtain ⟨t', rfl⟩ := ry
    cases x with
    | non => cases rx; exact SeqAt.EqAt.int_none a t'
    | bl b => cases rx; exact SeqAt.EqAt.int_bool a t' b
    | int b => obtain ⟨t, rfl⟩ := rx; exact SeqAt.EqAt.int_int a t' b t
    | str b => obtain ⟨t, rfl⟩ := rx; exact SeqAt.EqAt.int_str a t' b t
    | _ => exact absurd (show false = true from fx) Bool.false_ne_true
  | str a =>
    obtain ⟨t', rfl⟩ := ry
    cases x with
    | non => cases rx; exact SeqAt.EqAt.str_none a t'
    | bl b => cases rx; exact SeqAt.EqAt.str_bool a t' b
    | int b => obtain ⟨t, rfl⟩ := rx; exact SeqAt.EqAt.str_int a t' b t
    | str b => obtain ⟨t, rfl⟩ := rx; exact SeqAt.EqAt.str_str a t' b t
    | _ => exact absurd (show false = true from fx) Bool.false_ne_true
  | _ => exact absurd (show false = true from fy) Bool.false_ne_true
noncomputable def eqU (x : V) (u : Value) : Bool := match u with
  | .none => eqV .non x
  | .bool b => eqV (.bl b) x
  | .int i _ => eqV (.int i) x
  | .str z _ => eqV (.str z) x
  | _ => false
theorem FI {x y : V} {u : Value} (r : Yt y u) (f : JG y = true) : eqU x u = eqV y x := by
  cases y with
  | non => cases r; rfl
  | bl b => cases r; rfl
  | int i => obtain ⟨t, rfl⟩ := r; rfl
  | str z => obtain ⟨t, rfl⟩ := r; rfl
  | _ => exact absurd (show false = true from f) Bool.false_ne_true
theorem KE {x : V} : ∀ {xs : List V} {us : List Value}, Yl xs us -> xs.all JG = true -> us.any (eqU x) = xs.any fun y => eqV y x
  | _, _, .nil, _ => rfl
  | y :: xs, u :: us, .cons r t, f => by
    rw [List.all_cons, Bool.and_eq_true] at f
    rw [List.any_cons, List.any_cons, FI r f.1, KE t f.2]
theorem JN {A : Around} {s : Shared} {x : V} {v : Value} (rx : Yt x v) (fx : JG x = true) : ∀ {xs : List V} {us : List Value}, Yl xs us -> xs.all JG = true -> ∀ u ∈ us, SeqAt.EqAt A s u v (eqU x u)
  | _, _, .nil, _ => fun u hu => by cases hu
  | y :: xs, u :: us, .cons r t, f => fun u' hu => by
    rw [List.all_cons, Bool.and_eq_true] at f
    rcases List.mem_cons.mp hu with rfl | hu
    · rw [FI r f.1]; exact EQ r rx f.1 fx
    · exact JN rx fx t f.2 u' hu
noncomputable def inV (x : V) (xs : List V) : Bool := xs.any fun y => eqV y x
noncomputable def rIn (K : PySem.W.Frag) (neg : Bool) : R2 := fun x y H Q => ∃ p xs, y = .ref p /\ (SqL K H p xs ∨ SqT K H p xs) /\ JG x = true /\ xs.all JG = true /\ Q (.bl (if neg then !inV x xs else inV x xs)) H
theorem Km : OpR X (compareOp .In) (rIn X.K false) := by
  intro pins s σ H x y v u Q I rx ry h
  obtain ⟨p, xs, rfl, hq, fx, fs, q⟩ := h
  cases ry
  rcases hq with hq | hq
  · obtain ⟨its, r, pl, hz⟩ := I.list hq
    refine SeqAt.in_listAt (eqU x) pl.isList (fun w hw => JN rx fx r fs w (by simpa using hw)) ⟨.bl _, H, I, rfl, ?_⟩
    rw [show its.toArray.any (eqU x) = its.any (eqU x) by simp, KE r fs]
    exact q
  · obtain ⟨its, r, pl, hz⟩ := I.tuple hq
    refine SeqAt.in_tupleAt (eqU x) pl (fun w hw => JN rx fx r fs w (by simpa using hw)) ⟨.bl _, H, I, rfl, ?_⟩
    rw [show its.toArray.any (eqU x) = its.any (eqU x) by simp, KE r fs]
    exact q
theorem Kl : Qi X (.builtin "len") (fun xs H Q => ∃ p ys, xs = [.ref p] /\ (SqL X.K H p ys ∨ SqT X.K H p ys) /\ Q (.int ys.length) H) := by
  intro pins s σ H xs us Q I r h
  obtain ⟨p, ys, rfl, hq, q⟩ := h
  obtain ⟨u, rfl, rx⟩ := GR r
  cases rx
  have hn := KZ
  rcases hq with hq | hq
  · obtain ⟨its, r', pl, hz⟩ := I.list hq
    have hlen := r'.length
    exact Calls.call_len_list pl.isList (by simp only [List.size_toArray] <;> omega) ⟨.int ys.length, H, I.tok _, ⟨s.toks + 1, by rw [List.size_toArray, hlen]⟩, q⟩
  · obtain ⟨its, r', pl, hz⟩ := I.tuple hq
    have hlen := r'.length
    exact len_tuple pl (by simp only [List.size_toArray] <;> omega) ⟨.int ys.length, H, I.tok _, ⟨s.toks + 1, by rw [List.size_toArray, hlen]⟩, q⟩
theorem Qi.or {f : Value} {r r' : List V -> Hp -> VK -> Prop} (h : Qi X f r) (h' : Qi X f r') : Qi X f (fun xs H Q => r xs H Q ∨ r' xs H Q) := by
  intro pins s σ H xs us Q I rs q
  rcases q with q | q
  · exact h pins s σ H xs us Q I rs q
  · exact h' pins s σ H xs us Q I rs q
theorem UZ : Qi X (.type "list") (fun xs H Q => ∃ p ys, xs = [.ref p] /\ (SqL X.K H p ys ∨ SqT X.K H p ys) /\ ∀ l, H l = none -> Q (.ref l) (upd H l (.lst ys))) := by
  intro pins s σ H xs us Q I r h
  obtain ⟨p, ys, rfl, hq, q⟩ := h
  obtain ⟨u, rfl, rx⟩ := GR r
  cases rx
  have fin : ∀ (its : List Value), Yl ys its -> ys.length <= sizeLine -> ∀ (h' : Heap) (c' : Nat), (∀ b o', s.heap.get? b = some o' -> h'.get? b = some o') ->
      h'.get? s.heap.objs.size = some { cls := .type "list", dict := none, data := .seq its.toArray c', slots := #[] } -> EP X pins σ Q (.ref s.heap.objs.size) { s with heap := h' } := fun its r' hz h' c' kp e =>
    ⟨.ref s.heap.objs.size, _, I.laid (t' := s.toks) kp (Nat.le_refl _) (show Y3 X.prog X.w _ h' _ (.lst ys) from ⟨hz, its, c', r', e⟩), rfl, q _ (I.hok.fresh (Nat.le_refl _))⟩
  rcases hq with hq | hq
  · obtain ⟨its, r', pl, hz⟩ := I.list hq
    have hlen := r'.length
    obtain ⟨o, ho, hc, n, hd⟩ := pl.isList
    exact call_list_seq p (.inl rfl) ho hc hd (fun h' c' kp e => fin its r' hz h' c' kp e) (by simp only [List.size_toArray] <;> omega)
  · obtain ⟨its, r', pl, hz⟩ := I.tuple hq
    have hlen := r'.length
    obtain ⟨o, ho, hc, n, hd⟩ := pl
    exact call_list_seq p (.inr rfl) ho hc hd (fun h' c' kp e => fin its r' hz h' c' kp e) (by simp only [List.size_toArray] <;> omega)
noncomputable def tyV (K : PySem.W.Frag) (T : String) (x : V) (H : Hp) : Prop := match x with
  | .str _ => T = "str"
  | .int _ => T = "int"
  | .ref p => (T = "list" /\ ∃ xs, SqL K H p xs) ∨ (T = "tuple" /\ ∃ o, K.lookup p = some o /\ o.cls = .type "tuple" /\ o.dict = none) ∨
      (T = "dict" /\ ((∃ kvs, H p = some (.dK kvs)) ∨ ∃ kvs, H p = some (.dT kvs))) ∨ (T = "set" /\ ∃ S n, H p = some (.set S n))
  | _ => False
theorem Hn {pins : List (Addr × Obj)} {σ : St} {H : Hp} {s : Shared} {T : String} {x : V} {v : Value} (I : Inv X pins σ H s) (r : Yt x v) (ty : tyV X.K T x H) :
    s.TypeIs v T /\ ∀ a, v = .ref a -> ∃ ob, s.heap.get? a = some ob /\ ob.dict = none := by
  cases x with
  | str z =>
    obtain ⟨t, rfl⟩ := r
    cases (show T = "str" from ty)
    exact ⟨typeIs_str s z t, fun _ e => nomatch e⟩
  | int i =>
    obtain ⟨t, rfl⟩ := r
    cases (show T = "int" from ty)
    exact ⟨typeIs_int s i t, fun _ e => nomatch e⟩
  | ref p =>
    cases r
    rcases ty with ⟨rfl, xs, hq⟩ | ⟨rfl, o, hk, hc, hd⟩ | ⟨rfl, hk⟩ | ⟨rfl, S, n, hk⟩
    · obtain ⟨its, _, pl, _⟩ := I.list hq
      refine ⟨pl.isList.typeIs, fun a e => ?_⟩
      cases e
      obtain ⟨o, n, e, c, hd, _⟩ := pl
      exact ⟨o, e, hd⟩
    · refine ⟨⟨o, I.kIn p o hk, hc⟩, fun a e => ?_⟩
      cases e
      exact ⟨o, I.kIn _ o hk, hd⟩
    · have z : ∃ o, s.heap.get? p = some o /\ o.ExactDict := by
        rcases hk with ⟨kvs, hk⟩ | ⟨kvs, hk⟩
        · obtain ⟨_, _, _, _, o, _, _, e, ex, _⟩ := I.hok p _ hk
          exact ⟨o, e, ex⟩
        · obtain ⟨_, _, _, _, o, _, _, e, ex, _⟩ := I.hok p _ hk
          exact ⟨o, e, ex⟩
      obtain ⟨o, e, ex⟩ := z
      refine ⟨⟨o, e, ex.1⟩, fun a e2 => ?_⟩
      cases e2
      exact ⟨o, e, ex.2.1⟩
    · obtain ⟨o, _, _, _, e, ex, _⟩ := I.hok p _ hk
      refine ⟨⟨o, e, ex.1⟩, fun a e2 => ?_⟩
      cases e2
      exact ⟨o, e, ex.2.1⟩
  | _ => exact False.elim ty
noncomputable def tBM (K : PySem.W.Frag) (T : String) (r : V -> List V -> Hp -> VK -> Prop) (to : TE) (t : TA) : TE := fun σ H Q => to σ H fun x H1 => tyV K T x H1 /\ t σ H1 fun xs H2 => r x xs H2 Q
variable {o e : Expr} {es : List Expr} {to : TE} {t : TA} {name : Str} {apos cpos : Pos} {T id : String} {r : V -> List V -> Hp -> VK -> Prop}
theorem Zz (pa : PlainAttrs T) (slot : Slot T name id) (hty : typeOf (.builtin id) = pure (.type "method_descriptor")) (hm : MtR X id r) (ho : PE X o to) (ha : PA X (e :: es) t)
    (hbase : attributeBase o name X.env (eval o X.env) = eval o X.env := by rfl)
    (hfew : ((backTo cpos (starEach (e :: es) X.env)).all (fun x => !x.1) && (backToKw cpos (keywordEach [] X.env)).all (fun x => x.1.isSome)
      && decide ((e :: es).length + ([] : List Keyword).length + (if ([] : List Keyword).isEmpty then 0 else 1) < 30)) = true := by rfl)
    (hline : (apos.endLine == cpos.line) = true := by rfl) (hs : starEach (e :: es) X.env = (false, eval e X.env) :: starEach es X.env := by rfl) (hplain : (backTo cpos (starEach es X.env)).any (·.1) = false := by rfl) :
    PE X (.Call (.Attribute o name apos) (e :: es) [] cpos) (tBM X.K T r to t) := by
  intro pins s σ H Q I h
  refine wpAny_Call_method_late hbase hfew hline rfl (thn (ho pins s σ H _ I h) fun v s1 ⟨x, H1, I1, r1, ty, q1⟩ => ?_)
  obtain ⟨h1, h2⟩ := Hn I1 r1 ty
  refine ⟨T, id, pa, slot, hty, h1, h2, ?_⟩
  have hA := ha cpos pins s1 σ H1 _ I1 q1
  rw [hs] at hA ⊢
  refine Calls.callWith_builtin (by show (false || (backTo cpos (starEach es X.env)).any (·.1)) = false; rw [hplain] <;> rfl) (Calls.evalArgs_plain ?_)
  exact thn hA fun us s2 ⟨vs, H2, I2, r2, q2⟩ => hm pins s2 σ H2 x vs v us Q I2 r1 r2 q2
/- xs.append(e), list.index on a module's tuple .. are MtR facts of 06m -/
end
end L2
namespace L2
open PySem PySem.Spec PyProof.Rows
noncomputable def MtM (X : Cx) (id : String) (r : V -> List V -> Hp -> VK -> Prop) : Prop :=
  ∀ (pins : List (Addr × Obj)) (s : Shared) (σ : St) (H : Hp) (x : V) (xs : List V) (v : Value) (us : List Value) (Q : VK), Inv X pins σ H s -> Yt x v -> Yl xs us -> r x xs H Q ->
    wpAny (model X.prog X.w) X.A (call (.builtin id) (v :: us)) (EP X pins σ Q) X.xe s
theorem Yl.one : ∀ {x : V} {us : List Value}, Yl [x] us -> ∃ u, us = [u] /\ Yt x u := fun {x us} h => by
  cases h with
  | cons r t =>
    cases t
    exact ⟨_, rfl, r⟩
theorem Yl.two : ∀ {x y : V} {us : List Value}, Yl [x, y] us -> ∃ u v, us = [u, v] /\ Yt x u /\ Yt y v := fun {x y us} h => by
  cases h with
  | cons r t =>
    cases t with
    | cons q t =>
      cases t
      exact ⟨_, _, rfl, r, q⟩
theorem Yl.zero : ∀ {us : List Value}, Yl [] us -> us = []
  | _, .nil => rfl
theorem Yl.eraseIdx : ∀ {xs : List V} {us : List Value} (i : Nat), Yl xs us -> Yl (xs.eraseIdx i) (us.eraseIdx i)
  | _, _, _, .nil => .nil
  | _, _, 0, .cons _ t => t
  | _, _, i + 1, .cons r t => .cons r (Yl.eraseIdx i t)
theorem Yl.reverse {xs : List V} {us : List Value} (h : Yl xs us) : Yl xs.reverse us.reverse := by
  induction h with
  | nil => exact .nil
  | cons r t ih => rw [List.reverse_cons, List.reverse_cons]; exact Yl.append ih (.cons r .nil)
theorem Yl.rep {xs : List V} {us : List Value} (h : Yl xs us) : ∀ k : Nat, Yl (List.replicate k xs).flatten (List.replicate k us).flatten
  | 0 => .nil
  | k + 1 => by
    rw [List.replicate_succ, List.replicate_succ, List.flatten_cons, List.flatten_cons]
    exact Yl.append h (Yl.rep h k)
theorem U7 {α : Type} : ∀ (l : List α) (i : Nat), (l.eraseIdx i).length <= l.length
  | [], _ => Nat.le_refl _
  | _ :: _, 0 => Nat.le_succ _
  | _ :: r, i + 1 => Nat.succ_le_succ (U7 r i)
theorem Kk (its : List Value) : ∀ (k : Nat) (acc : List Value),
    List.foldl (fun x1 x2 => x1 ++ x2) acc.toArray (List.replicate k its.toArray) = (acc ++ (List.replicate k its).flatten).toArray
  | 0, acc => by simp
  | k + 1, acc => by
    have e : acc.toArray ++ its.toArray = (acc ++ its).toArray := by simp
    have e2 : (acc ++ its) ++ (List.replicate k its).flatten = acc ++ (List.replicate (k + 1) its).flatten := by
      rw [List.replicate_succ, List.flatten_cons, List.append_assoc]
    rw [← e2, ← Kk its k (acc ++ its), ← e, List.replicate_succ, List.foldl_cons]
section
variable {X : Cx} {pins : List (Addr × Obj)} {σ : St} {H : Hp} {s : Shared} {l b : Addr} {xs ys zs : List V}
theorem Inv.lset {its its' : List Value} {n : Nat} {f : Array Value -> Array Value} {t' : Nat} (I : Inv X pins σ H s) (hH : H l = some (.lst xs))
    (e : s.heap.get? l = some { cls := .type "list", data := .seq its.toArray n }) (hf : f its.toArray = its'.toArray) (hv : Yl ys its') (hz : ys.length <= sizeLine) :
    Inv X pins σ (upd H l (.lst ys)) { s with heap := s.heap.update l (Obj.mapSeq f), toks := t' } := by
  have q := PySem.IsL.update e f
  rw [hf] at q
  refine I.write (x := l) (e := l) (by rw [hH]; exact trivial) (.inl rfl) (fun b' u hb hu => (Heap.get?_update_other s.heap (Obj.mapSeq f) (Ne.symm hb)).trans hu) ⟨_, q⟩ ?_
  exact ⟨hz, its', _, hv, q⟩
theorem Inv.lnew {its : List Value} {t' : Nat} (I : Inv X pins σ H s) (hv : Yl ys its) (hz : ys.length <= sizeLine) :
    Inv X pins σ (upd H s.heap.objs.size (.lst ys)) { s with heap := s.heap.push { cls := .type "list", data := .seq its.toArray }, toks := t' } :=
  I.laid (fun _ _ q => Heap.get?_push_of_some _ q) (Nat.le_refl _) ⟨hz, its, 0, hv, Heap.get?_push_size _ rfl⟩
theorem Inv.fresh (I : Inv X pins σ H s) : H s.heap.objs.size = none := I.hok.fresh (Nat.le_refl _)
theorem Inv.lstM (I : Inv X pins σ H s) (hH : H l = some (.lst xs)) : xs.length <= sizeLine /\ ∃ (its : List Value) (n : Nat), Yl xs its /\ xs.length = its.length /\ s.heap.get? l = some { cls := .type "list", data := .seq its.toArray n } := by
  obtain ⟨z, its, n, r, e⟩ := I.hok l _ hH
  exact ⟨z, its, n, r, r.length, e⟩
theorem Gc {n : Nat} (h : n <= sizeLine) : Builtin.List.listTooLong n = false := by
  unfold Builtin.List.listTooLong
  exact decide_eq_false (by omega)
end
section
variable {X : Cx}
noncomputable def Ug : V -> List V -> Hp -> VK -> Prop := fun x vs H Q => ∃ l xs y, x = .ref l /\ vs = [y] /\ H l = some (.lst xs) /\ xs.length < sizeLine /\ Q .non (upd H l (.lst (xs ++ [y])))
theorem XZ : MtM X "list.append" Ug := by
  intro pins s σ H x vs v us Q I rx rv h
  obtain ⟨l, xs, y, rfl, rfl, hH, hz, q⟩ := h
  cases rx
  obtain ⟨u, rfl, ru⟩ := rv.one
  obtain ⟨z, its, n, r, hl, e⟩ := I.lstM hH
  refine call_meets F.slot_list_append ⟨_, e, rfl⟩ F.entry_list_append (F.args_list_append_2 _ _) (PySem.list_append l its.toArray n u (by rw [List.size_toArray]; omega)) ⟨e, ?_⟩
  refine ⟨.non, _, I.lset (its' := its ++ [u]) hH e (by simp) (r.append (.cons ru .nil)) ?_, rfl, q⟩
  rw [List.length_append, List.length_singleton]
  omega
noncomputable def DU : V -> List V -> Hp -> VK -> Prop := fun x vs H Q => ∃ l b xs zs, x = .ref l /\ vs = [.ref b] /\ H l = some (.lst xs) /\ H b = some (.lst zs) /\ xs.length + zs.length <= sizeLine /\ Q .non (upd H l (.lst (xs ++ zs)))
theorem Fv : MtM X "list.extend" DU := by
  intro pins s σ H x vs v us Q I rx rv h
  obtain ⟨l, b, xs, zs, rfl, rfl, hH, hB, hz, q⟩ := h
  cases rx
  obtain ⟨u, rfl, ru⟩ := rv.one
  cases ru
  obtain ⟨z, its, n, r, hl, e⟩ := I.lstM hH
  obtain ⟨z2, its2, n2, r2, hl2, e2⟩ := I.lstM hB
  have hsz : its.toArray.size + its2.toArray.size <= sizeLine := by rw [List.size_toArray, List.size_toArray]; omega
  have hlong : ¬ (!its.toArray.isEmpty && Builtin.List.listTooLong (its.toArray.size + its2.toArray.size)) = true := by
    rw [Gc hsz, Bool.and_false]
    exact Bool.false_ne_true
  refine call_meets F.slot_list_extend ⟨_, e, rfl⟩ F.entry_list_extend (F.args_list_extend_2 _ _)
    (AutoSeq1.list_extend_list_list_0 l its.toArray n b its2.toArray n2 hlong (by rw [List.size_toArray]; omega) (by omega)) ⟨e, e2, ?_⟩
  refine ⟨.non, _, I.lset (its' := its ++ its2) hH e (by simp) (r.append r2) ?_, rfl, q⟩
  rw [List.length_append]
  omega
noncomputable def Gx : V -> List V -> Hp -> VK -> Prop := fun x vs H Q => ∃ l xs i k y, x = .ref l /\ vs = [.int i] /\ H l = some (.lst xs) /\ -(2 ^ 63) <= i /\ i < 2 ^ 63 /\ seqIndex? i xs.length = some k /\ xs[k]? = some y /\ Q y (upd H l (.lst (xs.eraseIdx k)))
theorem Um : MtM X "list.pop" Gx := by
  intro pins s σ H x vs v us Q I rx rv h
  obtain ⟨l, xs, i, k, y, rfl, rfl, hH, h1, h2, hk, hy, q⟩ := h
  cases rx
  obtain ⟨u, rfl, ru⟩ := rv.one
  obtain ⟨t, rfl⟩ := ru
  obtain ⟨z, its, n, r, hl, e⟩ := I.lstM hH
  obtain ⟨w, hw, rw'⟩ := r.get hy
  refine call_meets F.slot_list_pop ⟨_, e, rfl⟩ F.entry_list_pop (F.args_list_pop_2 _ _)
    (MeetsSeq.list_pop_at l its.toArray n i t k w (fitsIndex_both h1 h2) (by rw [List.size_toArray, ← hl]; exact hk) (by rw [← Array.getElem?_toList]; exact hw) (by rw [List.size_toArray]; omega)) ⟨e, ?_⟩
  refine ⟨y, _, I.lset (its' := its.eraseIdx k) hH e ?_ (r.eraseIdx k) ?_, rw', q⟩
  · show its.toArray.eraseIdxIfInBounds k = (its.eraseIdx k).toArray
    rw [List.eraseIdxIfInBounds_toArray]
  · have := U7 xs k
    omega
noncomputable def Io : R2 := fun x y H Q => ∃ l b xs zs, x = .ref l /\ y = .ref b /\ H l = some (.lst xs) /\ H b = some (.lst zs) /\ xs.length + zs.length <= sizeLine /\ ∀ p, H p = none -> Q (.ref p) (upd H p (.lst (xs ++ zs)))
theorem VS : OpR X (binaryOp .Add) Io := by
  intro pins s σ H x y v u Q I rx ry h
  obtain ⟨l, b, xs, zs, rfl, rfl, hH, hB, hz, q⟩ := h
  cases rx
  cases ry
  obtain ⟨z, its, n, r, hl, e⟩ := I.lstM hH
  obtain ⟨z2, its2, n2, r2, hl2, e2⟩ := I.lstM hB
  refine PySem.P.add_list e e2 ?_ (by rw [List.size_toArray, List.size_toArray]; omega)
  have ea : its.toArray ++ its2.toArray = (its ++ its2).toArray := by simp
  rw [ea]
  exact ⟨.ref _, _, I.lnew (t' := s.toks) (r.append r2) (by rw [List.length_append]; omega), rfl, q _ I.fresh⟩
noncomputable def Iv : R2 := fun x y H Q => ∃ l k xs, x = .ref l /\ y = .int k /\ H l = some (.lst xs) /\ -(2 ^ 63) <= k /\ k < 2 ^ 63 /\ xs.length * k.toNat <= sizeLine /\
  ∀ p, H p = none -> Q (.ref p) (upd H p (.lst (List.replicate k.toNat xs).flatten))
theorem BN {α : Type} (xs : List α) (k : Nat) : (List.replicate k xs).flatten.length = k * xs.length := by
  induction k with
  | zero => simp
  | succ k ih => rw [List.replicate_succ, List.flatten_cons, List.length_append, ih, Nat.succ_mul, Nat.add_comm]
theorem Jv : OpR X (binaryOp .Mult) Iv := by
  intro pins s σ H x y v u Q I rx ry h
  obtain ⟨l, k, xs, rfl, rfl, hH, h1, h2, hz, q⟩ := h
  cases rx
  obtain ⟨t, rfl⟩ := ry
  obtain ⟨z, its, n, r, hl, e⟩ := I.lstM hH
  have hlen : its.toArray.size * k.toNat <= sizeLine := by rw [List.size_toArray, ← hl]; exact hz
  have hcap : ¬ its.toArray.size * k.toNat > (2 ^ 63 - 1) / 8 := by
    have : (sizeLine : Nat) <= (2 ^ 63 - 1) / 8 := by decide
    omega
  have hfit : ¬ (!Builtin.List.listFitsIndex k) = true := by
    rw [fitsIndex_both h1 h2]
    exact Bool.false_ne_true
  have hlong : ¬ Builtin.List.listTooLong (its.toArray.size * k.toNat) = true := by
    rw [Gc hlen]
    exact Bool.false_ne_true
  have hnew : List.foldl (fun x1 x2 => x1 ++ x2) #[] (List.replicate (if its.toArray.isEmpty = true then 0 else k.toNat) its.toArray) = (List.replicate k.toNat its).flatten.toArray := by
    have f0 : ∀ m : Nat, List.foldl (fun x1 x2 => x1 ++ x2) #[] (List.replicate m its.toArray) = (List.replicate m its).flatten.toArray := fun m => by
      have := Kk its m []
      rw [List.nil_append] at this
      exact this
    rw [f0]
    cases its with
    | nil => simp
    | cons a r' => rw [if_neg (by simp)]
  refine wpAny_binaryOp_repeat_ref (T := "list") (U := "int") (by decide) ⟨_, e, rfl⟩ (fun s' => typeIs_int s' k t) noFill_list_mul F.fills_int_mul F.slot_int_rmul repeat_list F.slot_int_index.lookup
    (call_meets F.slot_int_rmul (typeIs_int s k t) F.entry_int_rmul (F.args_int_rmul_2 _ _) (int___rmul___int_list k t l its.toArray n)
      ⟨e, rfl, ⟨_, e, rfl⟩, call_meets F.slot_list_mul ⟨_, e, rfl⟩ F.entry_list_mul (F.args_list_mul_2 _ _) (AutoListH.list___mul___list_int_3 l its.toArray n k t hfit hcap hlong) ⟨e, ?_⟩⟩)
  rw [hnew]
  exact ⟨.ref _, _, I.lnew (t' := s.toks) (r.rep k.toNat) (by rw [BN, Nat.mul_comm]; exact hz), rfl, q _ I.fresh⟩
end
section
variable {prog : Program} {w : World} {A : Around} {E : Value -> Shared -> Prop} {s : Shared}
end
section
variable {X : Cx}
end
end L2
namespace Att
open PySem PySem.W PySem.Calls PyProof.Rows
theorem Va {P : Params} {h : Heap} : ∀ (ns : List Int) (vs : List Value), WellAll P h vs (ns.map WData.int) -> IntsAre vs ns := by
  intro ns
  induction ns with
  | nil =>
    intro vs w
    rw [List.map_nil] at w
    cases w
    exact .nil
  | cons n ns ih =>
    intro vs w
    rw [List.map_cons] at w
    cases w with
    | cons a b =>
      cases a
      exact .cons _ _ (ih _ b)
theorem D0 {l : OpenLaw} {n : Nat} (hn : l.most = some n) {P : Params} {h : Heap} {args : List WData} {vals : List Value}
    (hpre : l.row.toRowW.claim.pre args = true) (hwl : WellAll P h vals args) :
    ∃ a vs ns, vals = [Value.ref a] /\ args = [WData.list (ns.map WData.int)] /\ h.get? a = some { cls := .type "list", data := .seq vs.toArray } /\ IntsAre vs ns /\ ns.length <= n := by
  have hsh : WShape.hasAll [] args [.list .int] = true := (pre_splitW hpre).1
  have hc : l.pre.holds [] { args := args } = true := (pre_splitW hpre).2
  obtain ⟨d, r, rfl, h1, h2⟩ := hasAllW_cons hsh
  obtain rfl := hasAllW_nil h2
  obtain ⟨xs, rfl, h3⟩ := hasW_list h1
  obtain ⟨ns, rfl⟩ := items_int h3
  have hlen : ns.length <= n := by
    unfold OpenLaw.pre at hc
    have h4 : (WTm.not (.lt (.lit (.int (n : Int))) (.len (.arg 0)))).holds [] { args := [.list (ns.map .int)] } = true := by
      have h4 := (holds_andW hc).1
      rw [hn] at h4
      exact h4
    have h5 := condW_of h4 (w_not (w_lt w_lit (w_len_list (w_arg rfl))))
    rw [List.length_map] at h5
    refine Nat.le_of_not_lt fun q => ?_
    have q' : (n : Int) < ((ns.length : Nat) : Int) := by omega
    first
      | (rw [decide_eq_true q'] at h5; exact absurd h5 (by decide))
      | (simp at h5; omega)
  cases hwl with
  | cons w1 w2 =>
    cases w2
    cases w1 with
    | list ho hall => exact ⟨_, _, ns, rfl, rfl, ho, Va ns _ hall, hlen⟩
theorem Dp (l : OpenLaw) (args : List WData) : l.row.toRowW.claim.post args (.bool true) args = true :=
  postW_of (r := l.row.toRowW) (X := (true == true))
    (show WShape.has [] (.bool true) .bool = true by first | rfl | decide | simp [WShape.has, WShape.arms, WShape.armsAll])
    (show (WTm.eq .res (.lit (.bool true))).value [] { args := args, res := some (.bool true), after := args } = some (.bool (true == true)) from w_eq_bool (w_res rfl) w_lit) rfl
theorem attach_call {l : OpenLaw} {n : Nat} {q : Program} {loose : List Str} {XP : (Str -> Option Value) -> Heap -> Prop} {YP : World -> Heap -> Prop} {d : DefRec}
    (hn : l.most = some n) (hdf : d.params.defaults = [])
    (call : ∀ (w : World) (s₀ s₁ : Shared) (mg mb : Str -> Option Value) (fa : Addr) (o : Obj) (pm cd doc : Value) (a : Addr) (vs : List Value) (ns : List Int),
      Ground q loose [] XP w s₀ mg mb s₁.heap -> YP w s₁.heap ->
      s₁.heap.get? fa = some o -> o.data = .func (docDef d.name d.params d.body d.scope pm cd doc) -> s₁.heap.CodeRec cd d.name -> mg d.name = some (.ref fa) ->
      s₁.heap.get? a = some { cls := .type "list", data := .seq vs.toArray } -> IntsAre vs ns -> ns.length <= n -> s₁.gens = #[] ->
      codeAny (model l.prog w) callerA (.call (.ref fa) ⟨[.ref a], []⟩) (fun r s' => r = .ok (.ret (.bool true)) /\ OldK s₁.heap s'.heap /\ s'.os = s₁.os /\ AllBare s'.gens) s₁) :
    WalkO q loose XP YP l.row.toRowW d [] (fun f vs => PySem.call f vs) := by
  intro w s₀ s₁ mg mb G Y fa o pm cd doc dV kV ho hd hcd hD hmg hg args vals as hpre hlay hrd hwl hlo
  obtain rfl : dV = .none := Dflts.none hD hdf
  obtain rfl : kV = .none := Dflts.noKw hD
  obtain ⟨a, vs, ns, rfl, rfl, hobj, hints, hlen⟩ := D0 hn hpre hwl
  refine enter_call (codeAny_mono (call w s₀ s₁ mg mb fa o pm cd doc a vs ns G Y ho (fd_plain hd) hcd hmg hobj hints hlen hg) fun r s' hq => ?_)
  obtain ⟨rfl, h2, h3, h4⟩ := hq
  exact ⟨.inl ⟨.bool true, .bool true, [], rfl, fun _ => rfl, .bool true, Dp l _, fun _ => ⟨List.Pairwise.nil, fun _ hm => (nomatch hm)⟩⟩, h2, h3, h4⟩
section
variable {prog : Program} {w : World} {A : Around} {E : Value -> Shared -> Prop} {s : Shared} {K : Frag}
noncomputable def Iq (h : Heap) (L d : Addr) : List (Addr × Obj) := (List.range h.objs.size).filterMap fun a => if a = L ∨ a = d then none else (h.get? a).map fun o => (a, o)
end
end Att
namespace L2
open PySem PySem.Spec PyProof.Rows
theorem UH : ∀ {vs : List Value} {ns : List Int}, IntsAre vs ns -> Yl (ns.map V.int) vs
  | _, _, .nil => .nil
  | _, _, .cons n t h => .cons ⟨t, rfl⟩ (UH h)
noncomputable def HS (H : Hp) : Prop := ∀ b, H b = none ∨ ∃ o xs, H b = some (.frz o (.lst xs))
theorem C0 {P : Program} {w : World} {K : PySem.W.Frag} {mg mb : Str -> Option Value} {CX : CXT} {k : Nat} {fa a : Addr} {fd : FuncData} {x : Str} {sp : Sp} {s₁ : Shared} {vs : List Value} {ns : List Int}
    (KX : K.In s₁.heap) (hns : s₁.heap.Ns mainGlobals mg) (hb : s₁.heap.Ns builtinsNs mb) (hbb : ∀ x : Str, x ≠ "__name__" -> mb x = bootBuiltins x) (hlim : s₁.heap.NoLimit) (hg : s₁.gens = #[])
    (ha : s₁.heap.get? a = some { cls := .type "list", data := .seq vs.toArray }) (hi : IntsAre vs ns) (hl : ns.length <= sizeLine) (hr : Room k callerA)
    (F : ∀ base : Heap, K.In base -> base.Ns mainGlobals mg -> FnOk P w K mg base CX k fa fd [x] sp) (hbind : ∀ (s : Shared) (u : Value), BindsTo s fd ⟨[u], []⟩ [(x, u)])
    (hsp : ∀ H : Hp, HS H -> SqL K H a (ns.map V.int) -> sp [.ref a] H (fun v _ => v = .bl true) fun _ _ _ => False)
    (hCX : ∀ H e s', CX [] H s₁ (fun _ _ _ => False) e s' -> False) :
    codeAny (model P w) callerA (.call (.ref fa) ⟨[.ref a], []⟩) (fun r s' => r = .ok (.ret (.bool true)) /\ OldK s₁.heap s'.heap /\ s'.os = s₁.os /\ AllBare s'.gens) s₁ := by
  have rv := UH hi
  have lenV := hi.length
  -- from an abstract heap in which nothing but the script may be tracked
  have core : ∀ H : Hp, HS H -> SqL K H a (ns.map V.int) -> HOk P w H s₁.heap -> (∀ b, H b ≠ none -> b = a) -> (H a ≠ none -> K.lookup a = none) ->
      codeAny (model P w) callerA (.call (.ref fa) ⟨[.ref a], []⟩) (fun r s' => r = .ok (.ret (.bool true)) /\ OldK s₁.heap s'.heap /\ s'.os = s₁.os /\ AllBare s'.gens) s₁ := by
    intro H hO hS hok hA hK
    have base_of : ∀ {b : Addr} {o : Obj}, s₁.heap.get? b = some o -> H b = none -> (Cg s₁.heap H).get? b = some o := fun e n => K4 e n
    have noA : ∀ {b : Addr} {o : Obj} {es : Array DictEntry} {ep : Nat}, s₁.heap.get? b = some o -> o.data = .dict es ep -> H b = none := fun {b o es ep} e d => by
      cases q : H b with
      | none => rfl
      | some u =>
        have e' : b = a := hA b (by rw [q]; simp)
        subst e'
        rw [ha] at e; cases e
        have d' : Data.seq vs.toArray _ = Data.dict es ep := d
        cases d'
    have nsK : ∀ {b : Addr} {m : Str -> Option Value}, s₁.heap.Ns b m -> (Cg s₁.heap H).Ns b m := fun {b m} ⟨o, es, ep, e, d, r⟩ => ⟨o, es, ep, base_of e (noA e d), d, r⟩
    have hKb : K.In (Cg s₁.heap H) := fun b o e => base_of (KX b o e) (by
      cases q : H b with
      | none => rfl
      | some u =>
        have e' : b = a := hA b (by rw [q]; simp)
        subst e'
        rw [hK (by rw [q]; simp)] at e; cases e)
    have hM : Mod K mg (Cg s₁.heap H) := ⟨hKb, nsK hns, ⟨mb, nsK hb, hbb⟩, let ⟨mc, h1, h2⟩ := hlim; ⟨mc, nsK h1, h2⟩⟩
    have e0 : Env0 P w K mg (Cg s₁.heap H) callerA [] s₁ H := ⟨rfl, hM, fun b o e => Bs e, Nat.le_of_eq (Da _ _), trivial, fun b hb => absurd (show b ∈ ([] : List Addr) from hb) (by simp), hok, .of_eq hg⟩
    refine codeAny_mono ((F _ hKb (nsK hns)).run callerA [] s₁ H ⟨[.ref a], []⟩ [.ref a] [.ref a] _ _ hr e0 (hbind s₁ (.ref a)) (.cons rfl .nil) (hsp H hO hS)) fun r s' h => ?_
    cases r with
    | error e => exact (hCX H e s' h).elim
    | ok fl =>
      cases fl with
      | next => exact False.elim h
      | brk => exact False.elim h
      | cont => exact False.elim h
      | ret u =>
        obtain ⟨v, H', os, bare, un, hok', r', q⟩ := h
        have q' : v = .bl true := q
        subst q'
        obtain rfl : u = Value.bool true := r'
        refine ⟨rfl, OldK.of_keep fun b o e => ?_, os, bare⟩
        cases q : H b with
        | none => exact un.keep b o e q (by intro z; exact absurd (show b ∈ ([] : List Addr) from z) (by simp)) (by simp)
        | some u =>
          rcases hO b with z | ⟨ob, xs, z⟩
          · rw [q] at z; cases z
          · have z2 := un.frzs b ob _ z
            obtain ⟨e1, _⟩ := hok b _ z
            obtain ⟨e2, _⟩ := hok' b _ z2
            rw [e] at e1; cases e1
            exact e2
  cases hk : K.lookup a with
  | some o =>
    -- the script is one of the module's own objects
    have e := KX a o hk
    rw [ha] at e
    cases e
    refine core (fun _ => none) (fun _ => .inl rfl) (.inr ⟨_, vs.toArray, _, hk, rfl, rfl, rfl, by rw [List.size_toArray, lenV]; exact hl, by simpa using rv⟩) (fun b u z => by have z' : (none : Option HO) = some u := z; cases z') (fun b z => absurd rfl z) fun z => absurd rfl z
  | none =>
    refine core (fun b => if b = a then some (.frz { cls := .type "list", data := .seq vs.toArray } (.lst (ns.map V.int))) else none) (fun b => ?_) (.inl (.inr ⟨{ cls := .type "list", data := .seq vs.toArray }, if_pos rfl⟩)) (fun b u z => ?_) (fun b z => ?_) fun _ => hk
    · by_cases hb : b = a
      · exact .inr ⟨_, _, if_pos hb⟩
      · exact .inl (if_neg hb)
    · by_cases hb : b = a
      · have z' := (if_pos hb).symm.trans z
        cases z'
        subst hb
        exact ⟨ha, by rw [List.length_map]; exact hl, vs, _, rv, ha⟩
      · have z' := (if_neg hb).symm.trans z
        cases z'
    · by_cases hb : b = a
      · exact hb
      · exact absurd (if_neg hb) z
end L2
namespace L2
open PySem PySem.Spec PyProof.Rows
theorem BL {l : PySem.W.OpenLaw} {n k : Nat} {q : Program} {loose : List Str} {XP : (Str -> Option Value) -> Heap -> Prop} {YP : World -> Heap -> Prop} {d : DefRec} {K : Params -> PySem.W.Frag} {CX : World -> CXT} {sp : World -> Sp} {x : Str}
    (hn : l.most = some n) (hn2 : n <= sizeLine) (hdf : d.params.defaults = []) (hr : Room k callerA)
    (hY : ∀ (w : World) (h : Heap), YP w h -> (K w.params).In h)
    (F : ∀ (w : World) (mg : Str -> Option Value) (fa : Addr) (h : Heap), (K w.params).In h -> h.Ns mainGlobals mg -> mg d.name = some (.ref fa) ->
      ∃ fd : FuncData, (∀ (s : Shared) (u : Value), BindsTo s fd ⟨[u], []⟩ [(x, u)]) /\
        ∀ base : Heap, (K w.params).In base -> base.Ns mainGlobals mg -> FnOk l.prog w (K w.params) mg base (CX w) k fa fd [x] (sp w))
    (hsp : ∀ (w : World) (H : Hp) (a : Addr) (ns : List Int), ns.length <= n -> HS H -> SqL (K w.params) H a (ns.map V.int) -> sp w [.ref a] H (fun v _ => v = .bl true) fun _ _ _ => False)
    (hCX : ∀ (w : World) (H : Hp) (s : Shared) (e : Value) (s' : Shared), CX w [] H s (fun _ _ _ => False) e s' -> False) :
    PySem.W.WalkO q loose XP YP l.row.toRowW d [] (fun f vs => PySem.call f vs) := by
  refine Att.attach_call hn hdf fun w s₀ s₁ mg mb fa o pm cd doc a vs ns G Y ho hd hcd hmg hobj hints hlen hg => ?_
  have KX := hY w _ Y
  obtain ⟨fd, hb, hF⟩ := F w mg fa _ KX G.T.g hmg
  exact C0 KX G.T.g G.T.b G.T.builtins G.T.nolimit hg hobj hints (Nat.le_trans hlen hn2) hr hF hb (fun H hO hS => hsp w H a ns hlen hO hS) fun H e s' => hCX w H s₁ e s'
end L2
namespace L2
open PySem PySem.Spec PyProof.Rows
noncomputable def XD (s : Stmt) : Arguments := match s with
  | .FunctionDef _ a _ _ _ _ _ _ _ _ => a
  | _ => { posonlyargs := [], args := [], vararg := none, kwonlyargs := [], kw_defaults := [], kwarg := none, defaults := [] }
noncomputable def XB (s : Stmt) : List Stmt := match s with
  | .FunctionDef _ _ b _ _ _ _ _ _ _ => b
  | _ => []
noncomputable def Xi (s : Stmt) : Scope := match s with
  | .FunctionDef _ _ _ _ _ _ sc _ _ _ => sc
  | _ => { kind := .function, names := [], isGenerator := false, isCoroutine := false }
noncomputable abbrev CX0 : CXT := fun _ _ _ _ _ _ => False
noncomputable abbrev E0 : XK := fun _ _ _ => False
theorem HV {X : Cx} : DI CX0 X E0 := fun _ _ _ _ _ _ _ h => h.elim
structure Fun (K : PySem.W.Frag) (x qual : Str) (st : Stmt) (f : Addr) (fd : FuncData) : Prop where
  ex : ∃ (oc : Value) (od : Option Addr) (kV doc pm : Value) (an : Option Addr) (cdv ct : Value) (osl : Array (Option Value)),
    fd = PySem.W.fnOf x qual (XD st) (XB st) (Xi st) .none kV doc pm an cdv ct /\ K.lookup f = some ⟨oc, od, .func fd, osl⟩ /\ PySem.W.codeIn K cdv qual = true
  kp : PySem.W.keepIn K (.ref f) = true
section
variable {P : Program} {w : World} {K : PySem.W.Frag} {mg : Str -> Option Value} {base : Heap}
theorem Fun.ok {x qual : Str} {st : Stmt} {f : Addr} {fd : FuncData} {N ps : List Str} {k : Nat} {sp : Sp} (F : Fun K x qual st f fd) (S : FnScope N ps (Xi st)) (len : ∀ vs H Q E, sp vs H Q E -> vs.length = ps.length)
    (hbody : ∀ (cdv : Value) (A : Around) (outer : List Env) (s : Shared) (H : Hp) (vs : List V) (Q : VK) (E : XK), Room k (A.deeper (envOfC qual (Xi st) s.heap.objs.size f cdv)) -> sp vs H Q E ->
      ∃ t, PSs (BC CX0 P w K mg base N qual (Xi st) f cdv A outer s H E).nox (XB st) t /\ t { nx := fun _ H' => Q .non H', rt := Q } (Ud N vs) H) : FnOk P w K mg base CX0 (k + 1) f fd ps sp := by
  obtain ⟨oc, od, kV, doc, pm, an, cdv, ct, osl, rfl, lk, hcd⟩ := F.ex
  refine HW lk hcd S len fun A outer s H vs Q E hr hsp => ?_
  obtain ⟨t, h, q⟩ := hbody cdv A outer s H vs Q E hr hsp
  exact ⟨t, h.nox, q⟩
theorem Fun.binds {x qual : Str} {st : Stmt} {f : Addr} {fd : FuncData} {ps : List Str} (F : Fun K x qual st f fd)
    (h : ∀ (kV doc pm : Value) (an : Option Addr) (cdv ct : Value) (us : List Value), us.length = ps.length -> bindArgs (PySem.W.fnOf x qual (XD st) (XB st) (Xi st) .none kV doc pm an cdv ct) ⟨us, []⟩ = pure (ps.zip us)) : Kt K fd ps [] := by
  obtain ⟨oc, od, kV, doc, pm, an, cdv, ct, osl, rfl, lk, hcd⟩ := F.ex
  exact .all (h kV doc pm an cdv ct)
theorem Xw {x qual : Str} {st : Stmt} {f : Addr} {oc : Value} {od an : Option Addr} {osl : Array (Option Value)} {kV doc pm cdv ct : Value} (l : K.lookup f = some ⟨oc, od, .func (PySem.W.fnOf x qual (XD st) (XB st) (Xi st) .none kV doc pm an cdv ct), osl⟩)
    (c : PySem.W.codeIn K cdv qual = true) (k : PySem.W.keepIn K (.ref f) = true) : Fun K x qual st f (PySem.W.fnOf x qual (XD st) (XB st) (Xi st) .none kV doc pm an cdv ct) := ⟨⟨oc, od, kV, doc, pm, an, cdv, ct, osl, rfl, l, c⟩, k⟩
end
theorem YK {A : Around} {k : Nat} (hr : Room k A) : A.units + 1 < cLine := Nat.lt_of_le_of_lt (Nat.add_le_add_left (by decide : 1 <= 64) _) hr.units
theorem Di {n : Nat} (h : n <= 1000) : n < sizeLine := Nat.lt_of_le_of_lt h (by decide)
section
variable {X : Cx}
theorem pv (i : Nat) {x : Str} {pos : Pos} (hN : X.N[i]? = some x := by rfl) (hv : Vis X.env.scope x := by first | exact Or.inl rfl | exact Or.inr (Or.inl rfl) | exact Or.inr (Or.inr rfl)) (hd : (x == ("__debug__" : Str)) = false := by decide)
    (hcd : (x == ("__classdict__" : Str)) = false := by decide) : PE X (.Name x pos) (Uw i) := EO hN hv hd hcd
end
noncomputable def XC (H H' : Hp) : Prop := ∀ b o, H b = some o -> H' b = some o
theorem XC.refl (H : Hp) : XC H H := fun _ _ h => h
theorem XC.trans {H H1 H2 : Hp} (a : XC H H1) (b : XC H1 H2) : XC H H2 := fun c o h => b c o (a c o h)
theorem XC.free {H H' : Hp} (e : XC H H') {l : Addr} (h : H' l = Option.none) : H l = Option.none := by
  cases q : H l with
  | none => rfl
  | some o =>
    rw [e l o q] at h
    cases h
theorem XC.seq {K : PySem.W.Frag} {H H' : Hp} {a : Addr} {xs : List V} (e : XC H H') (h : SqL K H a xs) : SqL K H' a xs := by
  rcases h with (h | ⟨o, h⟩) | h
  · exact .inl (.inl (e _ _ h))
  · exact .inl (.inr ⟨o, e _ _ h⟩)
  · exact .inr h
end L2
namespace L2
open PySem PySem.Spec PyProof.Rows
section
variable {κ : Type} [DecidableEq κ]
noncomputable def K8 (kvs : List (κ × V)) (k : κ) : Option V := (kvs.find? fun kv => decide (kv.1 = k)).map (·.2)
noncomputable def Ux (kvs : List (κ × V)) (k : κ) (v : V) : List (κ × V) :=
  if (kvs.any fun kv => decide (kv.1 = k)) = true then kvs.map (fun kv => if kv.1 = k then (kv.1, v) else kv) else kvs ++ [(k, v)]
noncomputable def Hd (kvs : List (κ × V)) (k : κ) : List (κ × V) := kvs.filter fun kv => decide (kv.1 ≠ k)
theorem JP {p : κ × V} {r : List (κ × V)} {k : κ} (e : p.1 = k) : K8 (p :: r) k = some p.2 := by simp [K8, List.find?_cons, e]
theorem JR {p : κ × V} {r : List (κ × V)} {k : κ} (e : ¬ p.1 = k) : K8 (p :: r) k = K8 r k := by simp [K8, List.find?_cons, e]
theorem Gm (k : κ) : ∀ kvs : List (κ × V), (kvs.any fun kv => decide (kv.1 = k)) = (K8 kvs k).isSome
  | [] => rfl
  | p :: r => by
    rw [List.any_cons]
    by_cases e : p.1 = k
    · simp only [JP e, decide_eq_true e, Bool.true_or, Option.isSome_some]
    · rw [JR e, decide_eq_false e, Bool.false_or]; exact Gm k r
theorem Vp (kvs : List (κ × V)) (k : κ) (v : V) : (Ux kvs k v).length <= kvs.length + 1 := by
  unfold Ux
  split
  · rw [List.length_map]; omega
  · rw [List.length_append, List.length_cons, List.length_nil]; omega
theorem GE.isSome_eq {o : Option V} {u : Option Value} (r : GE o u) : o.isSome = u.isSome := by
  cases o with
  | none => cases u with
    | none => rfl
    | some _ => exact (show False from r).elim
  | some _ => cases u with
    | none => exact (show False from r).elim
    | some _ => rfl
theorem GE.getD {o : Option V} {u : Option Value} {d : V} {d' : Value} (r : GE o u) (rd : Yt d d') : Yt (o.getD d) (u.getD d') := by
  cases o with
  | none => cases u with
    | none => exact rd
    | some _ => exact (show False from r).elim
  | some _ => cases u with
    | none => exact (show False from r).elim
    | some _ => exact r
theorem KV.val {kvs : List (κ × V)} {vs : List (κ × Value)} (r : KV kvs vs) (k : κ) : GE (K8 kvs k) (valueAt vs k) := by
  unfold KV at r
  induction r with
  | nil => exact True.intro
  | @cons p q ps qs h t ih =>
    obtain ⟨h1, h2⟩ := h
    by_cases e : p.1 = k
    · have e' : q.1 = k := h1.symm.trans e
      have b : valueAt (q :: qs) k = some q.2 := by simp [valueAt, List.find?_cons, e']
      rw [JP e, b]; exact h2
    · have e' : ¬ q.1 = k := fun z => e (h1.trans z)
      have b : valueAt (q :: qs) k = valueAt qs k := by simp [valueAt, List.find?_cons, e']
      rw [JR e, b]; exact ih
theorem KV.any {kvs : List (κ × V)} {vs : List (κ × Value)} (r : KV kvs vs) (k : κ) : (kvs.any fun kv => decide (kv.1 = k)) = vs.any fun kv => decide (kv.1 = k) := by
  unfold KV at r
  induction r with
  | nil => rfl
  | cons h t ih => rw [List.any_cons, List.any_cons, ih, h.1]
theorem KV.repl {kvs : List (κ × V)} {vs : List (κ × Value)} (r : KV kvs vs) (k : κ) {y : V} {u : Value} (ry : Yt y u) :
    KV (kvs.map fun kv => if kv.1 = k then (kv.1, y) else kv) (vs.map fun kv => if kv.1 = k then (kv.1, u) else kv) := by
  unfold KV at r ⊢
  induction r with
  | nil => exact .nil
  | @cons p q ps qs h t ih =>
    rw [List.map_cons, List.map_cons]
    refine .cons ?_ ih
    obtain ⟨h1, h2⟩ := h
    by_cases e : p.1 = k
    · rw [if_pos e, if_pos (h1.symm.trans e)]; exact ⟨h1, ry⟩
    · rw [if_neg e, if_neg (fun z => e (h1.trans z))]; exact ⟨h1, h2⟩
theorem KV.put {kvs : List (κ × V)} {vs : List (κ × Value)} (r : KV kvs vs) (k : κ) {y : V} {u : Value} (ry : Yt y u) : KV (Ux kvs k y) (stored vs k u) := by
  unfold Ux stored
  rw [r.any k]
  by_cases e : (vs.any fun kv => decide (kv.1 = k)) = true
  · rw [if_pos e, if_pos e]; exact r.repl k ry
  · rw [if_neg e, if_neg e]; exact Paired.snoc r ⟨rfl, ry⟩
theorem KV.drop {kvs : List (κ × V)} {vs : List (κ × Value)} (r : KV kvs vs) (k : κ) : KV (Hd kvs k) (without vs k) := by
  unfold KV at r ⊢
  unfold Hd without
  induction r with
  | nil => exact .nil
  | @cons p q ps qs h t ih =>
    obtain ⟨h1, h2⟩ := h
    rw [List.filter_cons, List.filter_cons]
    by_cases e : p.1 = k
    · have a : ¬ decide (p.1 ≠ k) = true := by simp [e]
      have b : ¬ decide (q.1 ≠ k) = true := by simp [h1.symm.trans e]
      rw [if_neg a, if_neg b]; exact ih
    · have e' : ¬ q.1 = k := fun z => e (h1.trans z)
      have a : decide (p.1 ≠ k) = true := by simp [e]
      have b : decide (q.1 ≠ k) = true := by simp [e']
      rw [if_pos a, if_pos b]; exact .cons ⟨h1, h2⟩ ih
theorem KV.keys {kvs : List (κ × V)} {vs : List (κ × Value)} (r : KV kvs vs) : kvs.map (·.1) = vs.map (·.1) := by
  unfold KV at r
  induction r with
  | nil => rfl
  | cons h t ih => rw [List.map_cons, List.map_cons, ih, h.1]
theorem KV.length {kvs : List (κ × V)} {vs : List (κ × Value)} (r : KV kvs vs) : kvs.length = vs.length := Paired.length r
end
theorem Eu {P : Program} {w : World} {k : Key} {u : Value} (r : Yt (kV k) u) : (Y7 P w).is k u = true := by
  cases k with
  | inl i => obtain ⟨t, e⟩ := (show ∃ t, u = Value.int i t from r); subst e; exact KR P w i t
  | inr x => obtain ⟨t, e⟩ := (show ∃ t, u = Value.str x t from r); subst e; exact KH P w x t
theorem UP {P : Program} {w : World} : ∀ {ks : List Key} {us : List Value}, Yl (ks.map kV) us -> ItemsAre (Y7 P w) ks us
  | [], _, r => by rw [List.map_nil] at r; cases r; exact .nil
  | k :: ks, _, r => by
    rw [List.map_cons] at r
    cases r with
    | cons h t => exact .cons (Eu h) (UP t)
noncomputable abbrev KT (H : Hp) : List (List Key × V) -> List (List Key × Addr × Value) -> Prop := Paired fun p q => p.1 = q.1 /\ H q.2.1 = some (.tup (p.1.map kV)) /\ Yt p.2 q.2.2
theorem KT.val {H : Hp} {kvs : List (List Key × V)} {xs : List (List Key × Addr × Value)} (r : KT H kvs xs) (k : List Key) : GE (K8 kvs k) ((atKey xs k).map (·.2)) := by
  induction r with
  | nil => exact True.intro
  | @cons p q ps qs h t ih =>
    obtain ⟨h1, _, h2⟩ := h
    by_cases e : p.1 = k
    · have e' : q.1 = k := h1.symm.trans e
      have b : atKey (q :: qs) k = some q.2 := by simp [atKey, List.find?_cons, e']
      rw [JP e, b]; exact h2
    · have e' : ¬ q.1 = k := fun z => e (h1.trans z)
      have b : atKey (q :: qs) k = atKey qs k := by simp [atKey, List.find?_cons, e']
      rw [JR e, b]; exact ih
theorem KT.repl {H : Hp} {kvs : List (List Key × V)} {xs : List (List Key × Addr × Value)} (r : KT H kvs xs) (k : List Key) {y : V} {u : Value} (ry : Yt y u) :
    KT H (kvs.map fun kv => if kv.1 = k then (kv.1, y) else kv) (xs.map (putAt k u)) := by
  induction r with
  | nil => exact .nil
  | @cons p q ps qs h t ih =>
    rw [List.map_cons, List.map_cons]
    refine .cons ?_ ih
    obtain ⟨h1, h2, h3⟩ := h
    unfold putAt
    by_cases e : p.1 = k
    · rw [if_pos e, if_pos (h1.symm.trans e)]; exact ⟨h1, h2, ry⟩
    · rw [if_neg e, if_neg (fun z => e (h1.trans z))]; exact ⟨h1, h2, h3⟩
theorem KT.put {H : Hp} {kvs : List (List Key × V)} {xs : List (List Key × Addr × Value)} (r : KT H kvs xs) (k : List Key) {b : Addr} {y : V} {u : Value} (hb : H b = some (.tup (k.map kV))) (ry : Yt y u) :
    KT H (Ux kvs k y) (storedH xs k b u) := by
  have e : (kvs.any fun kv => decide (kv.1 = k)) = (atKey xs k).isSome := by
    rw [Gm, (r.val k).isSome_eq, Option.isSome_map]
  unfold Ux storedH
  rw [e]
  by_cases q : (atKey xs k).isSome = true
  · rw [if_pos q, if_pos q]; exact r.repl k ry
  · rw [if_neg q, if_neg q]; exact Paired.snoc r ⟨rfl, hb, ry⟩
theorem KT.keeps {H H' : Hp} {kvs : List (List Key × V)} {xs : List (List Key × Addr × Value)} (r : KT H kvs xs) (ht : ∀ b ys, H b = some (.tup ys) -> H' b = some (.tup ys)) : KT H' kvs xs :=
  Paired.mapP r fun _ _ z => ⟨z.1, ht _ _ z.2.1, z.2.2⟩
section
variable {P : Program} {w : World} {H : Hp} {h : Heap} {a : Addr}
theorem ER {u : HO} (ok : HOk P w H h) (e : Rd H a u) : Y3 P w H h a u := e.ok ok
theorem Ey {kvs : List (Key × V)} (ok : HOk P w H h) (e : Rd H a (.dK kvs)) : kvs.length <= sizeLine /\ (a == sysModules) = false /\ ∃ vs, KV kvs vs /\ h.DictOf (Y7 P w) a vs :=
  show Y3 P w H h a (.dK kvs) from ER ok e
theorem HH {kvs : List (Key × V)} (ok : HOk P w H h) (e : H a = some (.dK kvs)) : kvs.length <= sizeLine /\ (a == sysModules) = false /\ ∃ vs, KV kvs vs /\ h.DictOf (Y7 P w) a vs := Ey ok (.inl e)
theorem DP {ks : List Key} (ok : HOk P w H h) (e : H a = some (.tup (ks.map kV))) : (tupleKind (Y7 P w)).is h ks a := by
  obtain ⟨_, its, r, o, h1, h2, n, h3⟩ := (show Y3 P w H h a (.tup (ks.map kV)) from ok a _ e)
  exact ⟨o, its.toArray, n, h1, h2, h3, by simpa using UP r⟩
theorem Bw {kvs : List (List Key × V)} (ok : HOk P w H h) (e : Rd H a (.dT kvs)) : kvs.length <= sizeLine /\ (a == sysModules) = false /\
    ∃ xs, KT H kvs xs /\ h.DictOfH (tupleKind (Y7 P w)) a xs := by
  obtain ⟨z, y, xs, r, o, es, ep, h1, h2, h3, h4, h5⟩ := (show Y3 P w H h a (.dT kvs) from ER ok e)
  refine ⟨z, y, xs, r, o, es, ep, h1, h2, h3, h4, fun x hx => ?_, h5⟩
  have all : ∀ {l : List (List Key × V)} {m : List (List Key × Addr × Value)}, KT H l m -> ∀ x ∈ m, (tupleKind (Y7 P w)).is h x.1 x.2.1 := by
    intro l m q
    induction q with
    | nil => intro x hx; exact nomatch hx
    | @cons p q ps qs hq t ih =>
      intro x hx
      rcases List.mem_cons.mp hx with e | hx
      · subst e
        exact DP ok (by rw [← hq.1]; exact hq.2.1)
      · exact ih x hx
  exact all r x hx
theorem HP {kvs : List (List Key × V)} (ok : HOk P w H h) (e : H a = some (.dT kvs)) : kvs.length <= sizeLine /\ (a == sysModules) = false /\
    ∃ xs, KT H kvs xs /\ h.DictOfH (tupleKind (Y7 P w)) a xs := Bw ok (.inl e)
end
noncomputable def EB (H : Hp) (a : Addr) (y : V) (r : Option V) : Prop :=
  (∃ kvs k, Rd H a (.dK kvs) /\ y = kV k /\ r = K8 kvs k) ∨ ∃ kvs k b, Rd H a (.dT kvs) /\ y = .ref b /\ H b = some (.tup (k.map kV)) /\ r = K8 kvs k
noncomputable def EG (H : Hp) (a : Addr) (y v : V) (H' : Hp) : Prop :=
  (∃ kvs k, H a = some (.dK kvs) /\ y = kV k /\ kvs.length < sizeLine /\ H' = upd H a (.dK (Ux kvs k v))) ∨
  ∃ kvs k b, H a = some (.dT kvs) /\ y = .ref b /\ H b = some (.tup (k.map kV)) /\ kvs.length < sizeLine /\ H' = upd H a (.dT (Ux kvs k v))
theorem EB.k {H : Hp} {a : Addr} {kvs : List (Key × V)} {k : Key} (e : H a = some (.dK kvs)) : EB H a (kV k) (K8 kvs k) := .inl ⟨kvs, k, .inl e, rfl, rfl⟩
theorem EB.t {H : Hp} {a b : Addr} {kvs : List (List Key × V)} {k : List Key} (e : H a = some (.dT kvs)) (eb : H b = some (.tup (k.map kV))) : EB H a (.ref b) (K8 kvs k) := .inr ⟨kvs, k, b, .inl e, rfl, eb, rfl⟩
theorem EG.k {H : Hp} {a : Addr} {kvs : List (Key × V)} {k : Key} {v : V} (e : H a = some (.dK kvs)) (hl : kvs.length < sizeLine) : EG H a (kV k) v (upd H a (.dK (Ux kvs k v))) := .inl ⟨kvs, k, e, rfl, hl, rfl⟩
theorem EG.t {H : Hp} {a b : Addr} {kvs : List (List Key × V)} {k : List Key} {v : V} (e : H a = some (.dT kvs)) (eb : H b = some (.tup (k.map kV))) (hl : kvs.length < sizeLine) :
    EG H a (.ref b) v (upd H a (.dT (Ux kvs k v))) := .inr ⟨kvs, k, b, e, rfl, eb, hl, rfl⟩
section
variable {X : Cx} {pins : List (Addr × Obj)} {σ : St} {H : Hp} {s : Shared} {a : Addr} {y v : V} {u r : Value} {o : Option V} {A : Around} {E : Value -> Shared -> Prop}
theorem Inv.big (I : Inv X pins σ H s) : sysModules < s.heap.objs.size := by
  have h : mainGlobals < s.heap.objs.size := (I.mod.glob.keeps I.bk).lt
  exact Nat.lt_trans (by decide) h
theorem FE {Q : Value -> Shared -> Prop} (hu : A.units + 1 < cLine) (I : Inv X pins σ H s) (g : EB H a y (some v)) (ry : Yt y u) (h : ∀ w' s', Inv X pins σ H s' -> Yt v w' -> Q w' s') :
    wpAny (model X.prog X.w) A (getItem (.ref a) u) Q E s := by
  rcases g with ⟨kvs, k, e, ey, l⟩ | ⟨kvs, k, b, e, ey, eb, l⟩
  · subst ey
    obtain ⟨z, hd, vs, rel, dd⟩ := Ey I.hok e
    obtain ⟨w', hw, rw'⟩ := GE.some_of (v := v) (o := valueAt vs k) (by rw [l]; exact rel.val k)
    exact wpAny_getItem_of (Eu ry) dd.mapOf hw (h w' _ (I.tok _) rw')
  · subst ey
    cases (show u = Value.ref b from ry)
    obtain ⟨z, hd, xs, rel, dd⟩ := Bw I.hok e
    obtain ⟨w', hw, rw'⟩ := GE.some_of (v := v) (o := (atKey xs k).map (·.2)) (by rw [l]; exact rel.val k)
    obtain ⟨p, hp, hp2⟩ := Option.map_eq_some_iff.mp hw
    refine wpAny_getItem_heap (tupleKind_room_in1 hu) (DP I.hok eb) dd hp ?_
    rw [hp2]
    exact h w' _ (I.tok _) rw'
theorem F2 {h' : Heap} {t' : Nat} {ob : HO} (I : Inv X pins σ H s) (mu : Mut (H a)) (hs : Heap.SameBut a s.heap h') (he : ∃ q, h'.get? a = some q) (new : Y3 X.prog X.w (upd H a ob) h' a ob) :
    Inv X pins σ (upd H a ob) { s with heap := h', toks := t' } :=
  I.write (x := a) (e := a) mu (.inl rfl) (fun b q hb z => (hs.2 b hb).trans z) he new
theorem Hk {P : Program} {w : World} {H' : Hp} {h' : Heap} {kvs : List (Key × V)} {vs : List (Key × Value)} (z : kvs.length <= sizeLine) (hd : (a == sysModules) = false) (rel : KV kvs vs) (dd : h'.DictOf (Y7 P w) a vs) :
    Y3 P w H' h' a (.dK kvs) := ⟨z, hd, vs, rel, dd⟩
theorem Fy {H' : Hp} {Q : Unit -> Shared -> Prop} (hu : A.units + 1 < cLine) (I : Inv X pins σ H s) (g : EG H a y v H') (ry : Yt y u) (rv : Yt v r) (h : ∀ s', Inv X pins σ H' s' -> Q () s') :
    wpAny (model X.prog X.w) A (setItem (.ref a) u r) Q E s := by
  rcases g with ⟨kvs, k, e, ey, l, eH⟩ | ⟨kvs, k, b, e, ey, eb, l, eH⟩
  · subst ey eH
    obtain ⟨z, hd, vs, rel, dd⟩ := HH I.hok e
    have hz : vs.length <= sizeLine := by rw [← rel.length]; exact z
    have hl : (Ux kvs k v).length <= sizeLine := by have := Vp kvs k v; omega
    refine wpAny_setItem_pairs (hsz := hz) (Eu ry) dd fun h' dd' hs => h _ ?_
    have he : ∃ q, h'.get? a = some q := let ⟨q, _, _, hq, _⟩ := dd'; ⟨q, hq⟩
    exact F2 I (by rw [e]; exact True.intro) hs he (Hk hl hd (rel.put k rv) dd')
  · subst ey eH
    cases (show u = Value.ref b from ry)
    obtain ⟨z, hd, xs, rel, dd⟩ := HP I.hok e
    have hz : xs.length <= sizeLine := by rw [← Paired.length rel]; exact z
    have hl : (Ux kvs k v).length <= sizeLine := by have := Vp kvs k v; omega
    refine wpAny_setItem_heap (hsz := hz) (tupleKind_room_in1 hu) (DP I.hok eb) dd fun h' dd' hs => h _ ?_
    obtain ⟨q, es, ep, hq, h2, h3, h4, _, h5⟩ := dd'
    refine F2 I (by rw [e]; exact True.intro) hs ⟨q, hq⟩ ⟨hl, hd, _, (rel.put k eb rv).keeps fun c ys ec => ?_, q, es, ep, hq, h2, h3, h4, h5⟩
    rw [XR (H9 ec e (fun z => nomatch z))]
    exact ec
end
section
variable {X : Cx} {pins : List (Addr × Obj)} {σ : St} {H : Hp} {s : Shared} {a : Addr} {kvs : List (Key × V)} {k : Key} {u : Value} {A : Around} {E : Value -> Shared -> Prop}
end
noncomputable def Iu (i : Expr) : Prop := ∀ ov iv, subscripted i false ov iv = operate [ov, iv] (getItem ov iv)
theorem Bv {prog : Program} {w : World} {A : Around} {E : Value -> Shared -> Prop} {s : Shared} {env : Env} {value slice : Expr} {pos : Pos} {T id : String} {Q : Value -> Shared -> Prop}
    (hl : typeLookup (.type T) "__getitem__" = pure (some (.builtin id))) (hs : Iu slice)
    (h : wpAny (model prog w) A (eval value env) (fun o s₁ => wpAny (model prog w) A (eval slice env) (fun i s₂ => s₂.TypeIs o T /\ wpAny (model prog w) A (getItem o i) Q E s₂) E s₁) E s) :
    wpAny (model prog w) A (eval (.Subscript value slice pos) env) Q E s := by
  refine Subscript_ (wpAny_mono h (fun o s₁ h₁ => wpAny_mono h₁ (fun i s₂ h₂ => ?_) fun _ _ x => x) fun _ _ x => x)
  obtain ⟨hT, h₂⟩ := h₂
  unfold subscriptTail
  refine wpAny_bind ?_
  rw [getitemInPython_of_ne hT.not_modules]
  refine wpAny_bind (wpAny_specialOf hT hl ?_)
  have fin : wpAny (model prog w) A (subscripted slice false o i) (fun r s₃ => wpAny (model prog w) A (letTemporaryGo value o r >>= fun _ => pure r) Q E s₃) E s₂ := by
    rw [hs o i]
    exact wpAny_operating (wpAny_mono h₂ (fun r s₃ h₃ => wpAny_bind (wpAny_letTemporaryGo (wpAny_pure h₃))) fun _ _ x => x)
  first
    | exact wpAny_pure (wpAny_bind fin)
    | exact wpAny_bind (wpAny_pure (wpAny_bind fin))
    | exact wpAny_bind fin
theorem KL {X : Cx} {pins : List (Addr × Obj)} {σ : St} {H : Hp} {s : Shared} {a : Addr} {y : V} {o : Option V} (I : Inv X pins σ H s) (g : EB H a y o) : s.TypeIs (.ref a) "dict" := by
  rcases g with ⟨kvs, k, e, _, _⟩ | ⟨kvs, k, b, e, _, _, _⟩
  · obtain ⟨_, _, vs, _, dd⟩ := Ey I.hok e
    exact dd.typeIs
  · obtain ⟨_, _, xs, _, dd⟩ := Bw I.hok e
    exact dd.typeIs
noncomputable def Hr (td ty : TE) : TE := fun σ H Q => td σ H fun x H1 => ty σ H1 fun y H2 => ∃ a v, x = .ref a /\ EB H2 a y (some v) /\ Q v H2
noncomputable def Hi (td ty tv : TE) : TS := fun D σ H => tv σ H fun v H1 => td σ H1 fun x H2 => ty σ H2 fun y H3 => ∃ a H4, x = .ref a /\ EG H3 a y v H4 /\ D.nx σ H4
section
variable {X : Cx} {o i e value : Expr} {pos pos' tpos : Pos} {td ty tv : TE}
theorem Kr (hu : X.A.units + 1 < cLine) (ho : PE X o td) (hi : PE X i ty) (hs : Iu i) : PE X (.Subscript o i pos) (Hr td ty) := by
  intro pins s σ H Q I h
  refine Bv PySem.F.slot_dict_getitem.lookup hs (thn (ho pins s σ H _ I h) fun u s1 ⟨x, H1, I1, rx, q1⟩ => thn (hi pins s1 σ H1 _ I1 q1) fun iv s2 ⟨y, H2, I2, ry, a, v, ex, g, q2⟩ => ?_)
  subst ex
  obtain rfl : u = Value.ref a := rx
  exact ⟨KL I2 g, FE hu I2 g ry fun w' s3 I3 rw' => ⟨v, H2, I3, rw', q2⟩⟩
theorem BE (hu : X.A.units + 1 < cLine) (ho : PE X o td) (hi : PE X i ty) (hv : PE X value tv) (hs : swapsWith value (some (.Subscript o i pos')) pos.line X.env = pure false) :
    PS X (.Assign [.Subscript o i pos'] value pos) (Hi td ty tv) := by
  intro pins s σ H D I h
  refine wpAny_Assign_Subscript (thn (hv pins s σ H _ I h) fun r s1 ⟨v, H1, I1, rv, q1⟩ => thn (ho pins s1 σ H1 _ I1 q1) fun u s2 ⟨x, H2, I2, rx, q2⟩ => thn (hi pins s2 σ H2 _ I2 q2) fun iv s3 ⟨y, H3, I3, ry, a, H4, ex, g, q3⟩ => ?_) hs
  subst ex
  obtain rfl : u = Value.ref a := rx
  exact Fy hu I3 g ry rv fun s4 I4 => ⟨σ, H4, I4, q3⟩
end
theorem CL {P : Program} {w : World} {H : Hp} (h : Heap) (hb : sysModules < h.objs.size) : Y3 P w H (h.push { cls := .type "dict", data := .dict #[] }) h.objs.size (.dK []) :=
  ⟨Nat.zero_le _, beq_eq_false_iff_ne.mpr (Ne.symm (Nat.ne_of_lt hb)), [], .nil, Heap.DictOf.new h⟩
noncomputable def Bd : TE := fun _ H Q => ∀ p, H p = none -> Q (.ref p) (upd H p (.dK []))
section
variable {X : Cx} {pos : Pos}
theorem CF : PE X (.Dict [] [] pos) Bd := fun pins s σ H Q I h =>
  wpAny_Dict_empty ⟨.ref s.heap.objs.size, _, I.laid (a := s.heap.objs.size) (o := .dK []) (t' := s.toks) (fun _ _ q => Heap.get?_push_of_some _ q) (Nat.le_refl _) (CL s.heap I.big), rfl, h _ (I.hok.fresh (Nat.le_refl _))⟩
end
section
variable {X : Cx} {pins : List (Addr × Obj)} {σ : St} {H : Hp} {s : Shared} {a : Addr} {y d : V} {u r : Value} {o : Option V} {A : Around} {E : Value -> Shared -> Prop}
end
section
variable {X : Cx} {o e f : Expr} {apos cpos : Pos} {td ty tx : TE}
end
section
variable {X : Cx} {pins : List (Addr × Obj)} {σ : St} {H : Hp} {s : Shared} {a : Addr} {kvs : List (Key × V)} {A : Around} {E : Value -> Shared -> Prop}
end
section
variable {X : Cx} {pins : List (Addr × Obj)} {σ : St} {H : Hp} {s : Shared} {a : Addr} {y : V} {u : Value} {A : Around} {E : Value -> Shared -> Prop}
end
end L2
namespace L2
open PySem PySem.Spec PyProof.Rows
section
variable {X : Cx}
end
section
variable {κ : Type} [DecidableEq κ]
end
end L2
namespace L2
open PySem PySem.Spec PyProof.Rows
theorem Dx {env : Env} : ∀ (names : List (Str × NameKind)), (∀ x ∈ names, x.2 = NameKind.free -> ∃ c, env.cells.lookup x.1 = some c) ->
    ∀ cs : List (Str × Addr), (∀ x c, cs.lookup x = some c -> env.cells.lookup x = some c) ->
    ∃ cl : List (Str × Addr), (forIn names cs (fun (x : Str × NameKind) (r : List (Str × Addr)) => (if (x.2 == NameKind.free) = true then do let a ← cellOf env x.1; pure (ForInStep.yield ((x.1, a) :: r)) else pure (ForInStep.yield r) : Sem (ForInStep (List (Str × Addr)))))) = (pure cl : Sem (List (Str × Addr))) /\
      (∀ x c, cl.lookup x = some c -> env.cells.lookup x = some c) /\ (∀ x, ((x, NameKind.free) ∈ names ∨ ∃ c, cs.lookup x = some c) -> ∃ c, cl.lookup x = some c)
  | [], _, cs, hs => ⟨cs, by rw [List.forIn_nil], hs, fun x h => h.elim (fun z => nomatch z) id⟩
  | (n, k) :: r, hf, cs, hs => by
    have hr : ∀ x ∈ r, x.2 = NameKind.free -> ∃ c, env.cells.lookup x.1 = some c := fun x hx => hf x (List.mem_cons_of_mem _ hx)
    by_cases hk : k = NameKind.free
    · subst hk
      obtain ⟨a, ha⟩ := hf (n, NameKind.free) List.mem_cons_self rfl
      have hs' : ∀ x c, ((n, a) :: cs).lookup x = some c -> env.cells.lookup x = some c := fun x c h => by
        rw [List.lookup_cons] at h
        by_cases hx : x = n
        · subst hx
          simp only [beq_self_eq_true] at h
          rw [← h]; exact ha
        · have : (x == n) = false := beq_eq_false_iff_ne.mpr hx
          rw [this] at h
          exact hs x c h
      obtain ⟨cl, e, h1, h2⟩ := Dx r hr ((n, a) :: cs) hs'
      refine ⟨cl, ?_, h1, fun x h => h2 x ?_⟩
      · rw [List.forIn_cons]
        have e1 : cellOf env n = pure a := by unfold cellOf; rw [show env.cells.lookup n = some a from ha]
        simp only [beq_self_eq_true, if_true, e1]
        exact e
      · rcases h with h | ⟨c, h⟩
        · rcases List.mem_cons.mp h with h | h
          · have : x = n := congrArg Prod.fst h
            subst this
            exact .inr ⟨a, by rw [List.lookup_cons]; simp⟩
          · exact .inl h
        · by_cases hx : x = n
          · subst hx; exact .inr ⟨a, by rw [List.lookup_cons]; simp⟩
          · exact .inr ⟨c, by rw [List.lookup_cons, beq_eq_false_iff_ne.mpr hx]; exact h⟩
    · obtain ⟨cl, e, h1, h2⟩ := Dx r hr cs hs
      refine ⟨cl, ?_, h1, fun x h => h2 x ?_⟩
      · rw [List.forIn_cons]
        have hb : (k == NameKind.free) = false := by simpa using hk
        simp only [hb, Bool.false_eq_true, if_false]
        exact e
      · rcases h with h | h
        · rcases List.mem_cons.mp h with h | h
          · exact absurd (congrArg Prod.snd h).symm hk
          · exact .inl h
        · exact .inr h
theorem Dl {scope : Scope} {env : Env} (hf : ∀ x ∈ scope.names, x.2 = NameKind.free -> ∃ c, env.cells.lookup x.1 = some c) :
    ∃ cl : List (Str × Addr), closureFor scope env = pure cl /\ (∀ x c, cl.lookup x = some c -> env.cells.lookup x = some c) /\ (∀ x, (x, NameKind.free) ∈ scope.names -> ∃ c, cl.lookup x = some c) := by
  obtain ⟨cl, e, h1, h2⟩ := Dx scope.names hf [] (fun x c h => by simp at h)
  refine ⟨cl, ?_, h1, fun x h => h2 x (.inl h)⟩
  unfold closureFor
  show ((forIn scope.names [] (fun (x : Str × NameKind) (r : List (Str × Addr)) => (if (x.2 == NameKind.free) = true then do let a ← cellOf env x.1; pure (ForInStep.yield ((x.1, a) :: r)) else pure (ForInStep.yield r) : Sem (ForInStep (List (Str × Addr)))))) >>= fun s => pure s) = pure cl
  rw [e]
  rfl
theorem QH {env : Env} : ∀ {names : List (Str × NameKind)} {x : Str} {k : NameKind}, (∀ y ∈ names, y.2 ≠ NameKind.cell) ->
    (names.map fun (n, k) => if (k == NameKind.free && env.scope.kind == .function && env.kindOf n == some .cell) then (n, NameKind.cell) else (n, k)).lookup x = some k -> (k = .cell ∨ k = .free) -> (x, NameKind.free) ∈ names
  | [], _, _, _, h, _ => by simp at h
  | (n, kk) :: r, x, k, hc, h, hk => by
    have ih := @QH env r x k (fun y hy => hc y (List.mem_cons_of_mem _ hy))
    have hh := hc (n, kk) List.mem_cons_self
    simp only [List.map_cons] at h
    by_cases hcond : (kk == NameKind.free && env.scope.kind == .function && env.kindOf n == some .cell) = true
    · rw [if_pos hcond, List.lookup_cons] at h
      have hfree : kk = NameKind.free := by
        rw [Bool.and_eq_true, Bool.and_eq_true] at hcond
        simpa using hcond.1.1
      cases hx : x == n with
      | true =>
        have : x = n := by simpa using hx
        subst this; subst hfree
        exact List.mem_cons_self
      | false => rw [hx] at h; exact List.mem_cons_of_mem _ (ih h hk)
    · rw [if_neg hcond, List.lookup_cons] at h
      cases hx : x == n with
      | true =>
        rw [hx] at h
        have hkk : kk = k := Option.some.inj h
        have : x = n := by simpa using hx
        subst this; subst hkk
        rcases hk with z | z
        · exact absurd z hh
        · subst z; exact List.mem_cons_self
      | false => rw [hx] at h; exact List.mem_cons_of_mem _ (ih h hk)
theorem JD {env : Env} : ∀ {names : List (Str × NameKind)} {x : Str}, names.lookup x = some .free ->
    let l := (names.map fun (n, k) => if (k == NameKind.free && env.scope.kind == .function && env.kindOf n == some .cell) then (n, NameKind.cell) else (n, k))
    l.lookup x = some .cell ∨ l.lookup x = some .free
  | [], _, h => by simp at h
  | (n, kk) :: r, x, h => by
    have ih := @JD env r x
    simp only [List.map_cons]
    rw [List.lookup_cons] at h
    by_cases hcond : (kk == NameKind.free && env.scope.kind == .function && env.kindOf n == some .cell) = true
    · rw [if_pos hcond, List.lookup_cons]
      cases hx : x == n with
      | true => exact .inl rfl
      | false => rw [hx] at h; exact ih h
    · rw [if_neg hcond, List.lookup_cons]
      cases hx : x == n with
      | true => rw [hx] at h; exact .inr h
      | false => rw [hx] at h; exact ih h
noncomputable abbrev Cx.comp (X : Cx) (N : List Str) (scope : Scope) (cl : List (Str × Addr)) (C : Addr) (s : Shared) (H : Hp) (ex : List Addr) (E : Value -> Shared -> Prop) : Cx :=
  { X with N := N, s₀ := s, H₀ := H, env := compEnvC scope cl C X.env, outer := X.stack, ex := ex, fn := fun _ => false, pn := [], xe := E }
noncomputable def PTs (X : Cx) (ifs : List Expr) (t : TT) : Prop :=
  ∀ (pins : List (Addr × Obj)) (s : Shared) (σ : St) (H : Hp) (Q : Bool -> Hp -> Prop), Inv X pins σ H s -> t σ H Q ->
    wpAny (model X.prog X.w) X.A (forIn ifs true fun c r => if r = true then do let ok ← isTrue c X.env (eval c X.env); pure (ForInStep.yield ok) else pure (ForInStep.yield r)) (TP X pins σ Q) X.xe s
noncomputable def Uv : TT := fun _ H Q => Q true H
theorem Hq {σ : St} {H : Hp} {A B : Hp -> Prop} (h : A H) : Uv σ H fun c H5 => if c = true then A H5 else B H5 := by
  show if true = true then A H else B H
  rw [if_pos rfl]
  exact h
theorem ZD {X : Cx} : PTs X [] Uv := fun _ _ _ H _ I h => wpAny_tests_nil ⟨H, I, h⟩
theorem KA {X : Cx} {c : Expr} {t : TT} (h : PT X c t) : PTs X [c] t := fun pins s σ H Q I hw => wpAny_tests_one (h pins s σ H Q I hw)
noncomputable def Kx (n : Nat) (g : TG) : Prop := ∀ x σ H Q, g x σ H Q -> g x σ H fun σ2 H2 => Q σ2 H2 /\ σ2.length = σ.length /\ ∀ i, n <= i -> σ2[i]? = σ[i]?
theorem Zm {n i : Nat} (h : i < n) : Kx n (Zh i) := fun x σ H Q q => ⟨q, by simp, fun j hj => by rw [List.getElem?_set_ne (by omega)]⟩
theorem Ee {K : PySem.W.Frag} {n i j : Nat} (hi : i < n) (hj : j < n) : Kx n (Bb K 2 (Z9 (Zh i) (Z9 (Zh j) Eh))) := fun x σ H Q q => by
  obtain ⟨a, xs, e1, hq, hl, v, r, e2, w, r2, e3, e4, q⟩ := q
  exact ⟨a, xs, e1, hq, hl, v, r, e2, w, r2, e3, e4, q, by simp, fun k hk => by rw [List.getElem?_set_ne (by omega), List.getElem?_set_ne (by omega)]⟩
noncomputable def Zo (n : Nat) (caps : List (Nat × Str)) (σ : St) : St := List.replicate n none ++ caps.map fun p => (σ[p.1]?).join
noncomputable def He (n : Nat) (caps : List (Nat × Str)) (g : TG) (tt : TT) (te : TE) (σ : St) (Q : VK) (J : It) (H1 : Hp) : Prop :=
  ∃ W : Nat -> Nat -> List V -> Hp -> Prop, (∃ m, W 0 m [] H1) /\ ∀ i m ys H2, W i m ys H2 -> ys.length <= sizeLine /\
    ((J.stop i H2 /\ ∀ p, H2 p = none -> Q (.ref p) (upd H2 p (.lst ys))) ∨
    (J.go i H2 /\ ∃ N : List V -> Hp -> Prop, (∀ ys' H', N ys' H' -> ∃ m', m' < m /\ W (i + 1) m' ys' H') /\ ∀ x H3, J.yld i H2 x H3 -> g x (Zo n caps σ) H3 fun σ4 H4 => tt σ4 H4 fun c H5 =>
      if c = true then te σ4 H5 fun v H6 => N (ys ++ [v]) H6 else N ys H5))
noncomputable def Dk (n : Nat) (caps : List (Nat × Str)) (wi : TI) (g : TG) (tt : TT) (te : TE) : TE := fun σ H Q => wi σ H fun J H1 => He n caps g tt te σ Q J H1
noncomputable def Vo (sc scope : Scope) (N0 tns : List Str) (caps : List (Nat × Str)) : Bool :=
  scope.kind == .function && scope.names.all (fun y => !(y.2 == .cell)) && scope.names.all (fun y => !(y.2 == .local) || scope.names.lookup y.1 == some .local) &&
  scope.names.all (fun y => !(y.2 == .free) || sc.names.lookup y.1 == some .cell) && caps.all (fun p => N0[p.1]? == some p.2 && sc.names.lookup p.2 == some .cell && scope.names.lookup p.2 == some .free)
section
variable {prog : Program} {w : World} {A : Around} {R : Result -> Shared -> Prop} {s : Shared}
theorem Kb {elt target iter : Expr} {ifs : List Expr} {scope : Scope} {pos : Pos} {it acc : Value} {env : Env} (I : Nat -> Shared -> Prop)
    (turn : ∀ n s, I n s -> wpAny (model prog w) A (pyNext it) (fun r s₁ => match r with
      | none => R (.ok .next) s₁
      | some v => wpAny (model prog w) A (letOwnedTupleGo target it v) (fun _ s₁ => wpAny (model prog w) A (assign target env v) (fun _ s₂ =>
          wpAny (model prog w) A (forIn ifs true fun c r => if r = true then do let ok ← isTrue c env (eval c env); pure (ForInStep.yield ok) else pure (ForInStep.yield r)) (fun ok s₃ =>
            if ok = true then wpAny (model prog w) A (eval elt env) (fun x s₄ =>
              wpAny (model prog w) A (call (.builtin "list.append") [acc, x]) (fun _ s₅ => ∃ m, m < n /\ I m s₅) (notedBy (model prog w) A env fun e s' => R (.error e) s') s₄) (notedBy (model prog w) A env fun e s' => R (.error e) s') s₃
            else ∃ m, m < n /\ I m s₃) (notedBy (model prog w) A env fun e s' => R (.error e) s') s₂) (notedBy (model prog w) A env fun e s' => R (.error e) s') s₁)
            (notedBy (model prog w) A env fun e s' => R (.error e) s') s₁) (notedBy (model prog w) A env fun e s' => R (.error e) s') s)
    (n : Nat) (h : I n s) :
    codeAny (model prog w) A (.compLoop (.ListComp elt [⟨target, iter, ifs, 0⟩] scope pos) 0 it acc env) R s := by
  refine codeAny_loop rfl I (fun n s hI => ?_) n h
  show wpAny _ A ((compTurn (.ListComp elt [⟨target, iter, ifs, 0⟩] scope pos) 0 it acc env).onRaise (fun x => do noteFrame x env; theTreesLotGoes x)) _ _ s
  refine wpAny_noted ?_
  rw [compTurn_list]
  refine wpAny_bind (wpAny_standAt (wpAny_bind (wpAny_mono (turn n s hI) (fun r s₁ h₁ => ?_) fun _ _ h' => h')))
  cases r with
  | none => exact wpAny_pure h₁
  | some v =>
    refine wpAny_bind (wpAny_mono h₁ (fun _ s₁' h₁' => ?_) fun _ _ h' => h')
    refine wpAny_bind (wpAny_mono h₁' (fun _ s₂ h₂ => wpAny_bind (wpAny_mono h₂ (fun ok s₃ h₃ => ?_) fun _ _ h' => h')) fun _ _ h' => h')
    cases ok with
    | false => exact wpAny_pure ⟨rfl, h₃⟩
    | true =>
      exact wpAny_bind (wpAny_bind (wpAny_mono h₃ (fun x s₄ h₄ => wpAny_bind (wpAny_mono h₄ (fun _ s₅ h₅ => wpAny_pure (wpAny_pure ⟨rfl, h₅⟩)) fun _ _ h' => h')) fun _ _ h' => h'))
end
section
variable {X : Cx} {elt tg iter : Expr} {ifs : List Expr} {scope sc : Scope} {pos : Pos} {n : Nat} {tns : List Str} {caps : List (Nat × Str)} {wi : TI} {g : TG} {tt : TT} {te : TE}
structure CompEnd (X : Cx) (pins : List (Addr × Obj)) (σ : St) (H3 : Hp) (D C : Addr) (ys : List V) (s' : Shared) : Prop where
  inv : Inv X pins σ (upd H3 D (.lst ys)) s'
  fresh : H3 D = none
  fp : Ci X pins (upd H3 D (.lst ys)) C
  ns : ∃ m, s'.heap.Ns C m
theorem VO {N0 : List Str} (hc : X.calm = true) (hsc : X.env.scope = sc) (hN0 : X.N = N0) (ok : Vo sc scope N0 tns caps = true) (hn : tns.length = n) (hG : Kx n g)
    (hb : ∀ cl C s H ex E, PG (X.comp (tns ++ caps.map (·.2)) scope cl C s H ex E) tg g /\ PTs (X.comp (tns ++ caps.map (·.2)) scope cl C s H ex E) ifs tt /\ PE (X.comp (tns ++ caps.map (·.2)) scope cl C s H ex E) elt te)
    {pins : List (Addr × Obj)} {σ : St} {H : Hp} {s : Shared} {J : It} {fp : List Addr} {it : Addr} {tn : Nat -> Heap -> Prop} {cl : List (Str × Addr)} {Q : V -> Hp -> Prop} {RR : Value -> Addr -> Result -> Shared -> Prop}
    (I : Inv X pins σ H s) (T : Turn X.prog X.w X.K tg J fp it tn) (t0 : tn 0 s.heap) (hf : ∀ b ∈ fp, Ci X pins H b)
    (hsub : ∀ x c, cl.lookup x = some c -> X.env.cells.lookup x = some c) (hall : ∀ x, (x, NameKind.free) ∈ scope.names -> ∃ c, cl.lookup x = some c)
    (W : Nat -> Nat -> List V -> Hp -> Prop) {m0 : Nat} (w0 : W 0 m0 [] H)
    (turn : ∀ i m ys H2, W i m ys H2 -> ys.length <= sizeLine /\
      ((J.stop i H2 /\ ∀ p, H2 p = none -> Q (.ref p) (upd H2 p (.lst ys))) ∨
      (J.go i H2 /\ ∃ N : List V -> Hp -> Prop, (∀ ys' H', N ys' H' -> ∃ m', m' < m /\ W (i + 1) m' ys' H') /\ ∀ x H3, J.yld i H2 x H3 -> g x (Zo n caps σ) H3 fun σ4 H4 => tt σ4 H4 fun c H5 =>
        if c = true then te σ4 H5 fun v H6 => N (ys ++ [v]) H6 else N ys H5)))
    (hRR : ∀ D C ys H3 s', CompEnd X pins σ H3 D C ys s' -> Q (.ref D) (upd H3 D (.lst ys)) -> RR (.ref D) C (.ok .next) s') {E : Value -> Shared -> Prop} :
    wpAny (model X.prog X.w) X.A (newList []) (fun acc s₃ => wpAny (model X.prog X.w) X.A (newFunctionEnv scope X.env.globals cl [] X.env.qual none .none (some X.env)) (fun cenv s₄ =>
      codeAny (model X.prog X.w) X.A (.compStart (.ListComp elt [⟨tg, iter, ifs, 0⟩] scope pos) 0 (.ref it) acc { cenv with scope := relabel scope X.env }) (RR acc cenv.locals) s₄) E s₃) E s := by
  subst hsc
  subst hN0
  unfold Vo at ok
  simp only [Bool.and_eq_true, List.all_eq_true] at ok
  obtain ⟨⟨⟨⟨ok1, ok2⟩, ok3⟩, ok4⟩, ok5⟩ := ok
  have hkind : scope.kind = .function := by simpa using ok1
  have hcell : ∀ y ∈ scope.names, y.2 ≠ NameKind.cell := fun y hy => by simpa using ok2 y hy
  refine wpAny_newObj_type (wpAny_newFunctionEnv hcell (by intro y hy; simp at hy) (fun h₁ hns₁ hsb₁ => ?_) hkind)
  dsimp only at hns₁ hsb₁ ⊢
  generalize hH2 : s.heap.push { cls := .type "list", dict := none, data := .seq ([] : List Value).toArray } = H2 at hns₁ hsb₁ ⊢
  have hC : H2.objs.size = s.heap.objs.size + 1 := by rw [← hH2, Heap.size_push]
  have hDC : s.heap.objs.size ≠ H2.objs.size := by rw [hC]; exact Nat.ne_of_lt (Nat.lt_succ_self _)
  have hCle : s.heap.objs.size <= H2.objs.size := by rw [hC]; exact Nat.le_succ _
  have below : ∀ b, b < s.heap.objs.size -> b ≠ H2.objs.size /\ b ≠ s.heap.objs.size := fun b hb => ⟨by rw [hC]; exact Nat.ne_of_lt (Nat.lt_succ_of_lt hb), Nat.ne_of_lt hb⟩
  have old : ∀ b o, s.heap.get? b = some o -> h₁.get? b = some o := fun b o e => hsb₁.extBut b o (below b (Heap.lt_size e)).1 (Heap.get?_push_of_some _ (hH2 ▸ Heap.get?_push_of_some _ e))
  have hacc : h₁.get? s.heap.objs.size = some { cls := .type "list", data := .seq ([] : List Value).toArray 0 } := hsb₁.extBut _ _ hDC (Heap.get?_push_of_some _ (hH2 ▸ Heap.get?_push_size _ rfl))
  have hst₁ : tn 0 h₁ := T.keep _ _ _ t0 fun b _ o e => old b o e
  -- addresses
  generalize hD : s.heap.objs.size = D at *
  generalize hCe : H2.objs.size = C at *
  have fpLt : ∀ b ∈ fp, b < D := fun b hb => by
    obtain ⟨o, e, _⟩ := T.obj _ _ t0 b hb
    rw [← hD]; exact Heap.lt_size e
  have cellLt : ∀ x c, cl.lookup x = some c -> c < D := fun x c e => by
    obtain ⟨v, z⟩ := I.cell x c (hsub x c e)
    rw [← hD]; exact z.lt
  have hDlt : D < C := by omega
  let X' : Cx := X.comp (tns ++ caps.map (·.2)) scope cl C s H fp (notedBy (model X.prog X.w) X.A (compEnvC scope cl C X.env) fun e s' => RR (.ref D) C (.error e) s')
  have okX : X'.Ok := by
    refine ⟨I.ok.mod, hkind, I.ok.glob, I.ok.blt, by show s.heap.objs.size <= C; omega, fun x y c h1 h2 => I.ok.inj x y c (hsub x c h1) (hsub y c h2), fun x hx => ?_, fun x c hx => (by cases hx), I.ok.hd, I.ok.frames, .inl rfl, fun b hb => ?_, I.bs, Nat.le_trans I.ok.bsz I.sz, fun b o e hb => ?_, fun b hb hz => ?_, I.stack, I.stkFree⟩
    · have hx' : (relabel scope X.env).names.lookup x = some .cell ∨ (relabel scope X.env).names.lookup x = some .free := hx
      rcases hx' with z | z
      · exact hall x (QH hcell z (.inl rfl))
      · exact hall x (QH hcell z (.inr rfl))
    · refine ⟨Nat.ne_of_lt (Nat.lt_trans (fpLt b hb) hDlt), fun x c e z => ?_⟩
      exact (hf b hb).2.2.2.2.1 x c (hsub x c e) z
    · rcases (hf b hb).2.2.2.1 with z | z
      · exact I.ok.noex b o e z
      · exact absurd (Nat.lt_of_lt_of_le (Heap.lt_size e) (Nat.le_trans I.ok.bsz z)) (Nat.lt_irrefl _)
    · rcases List.mem_cons.mp (I.stkSub b hz) with z | z
      · exact (hf b hb).2.1 z
      · exact (hf b hb).2.2.1 z
  have lenc : (Zo n caps σ).length = (tns ++ caps.map (·.2)).length := by unfold Zo; simp [hn]
  have I1 : ∀ tk, Inv X' [] (Zo n caps σ) H { s with heap := h₁, toks := tk } := fun tk => by
    refine ⟨okX, rfl, I.bare, Un.kept old, ⟨_, hns₁, fun i x v e1 e2 e3 => ?_⟩, fun x c e => ?_, I.hok.fresh (by rw [hD]; exact Nat.le_of_lt hDlt), fun x c e => I.freeC x c (hsub x c e), fun p hp => absurd (show p ∈ ([] : List (Addr × Obj)) from hp) (by simp), I.hok.kept old, lenc⟩
    · have hi : n <= i := by
        by_cases h : n <= i
        · exact h
        · have e2' : (Zo n caps σ)[i]? = some (some v) := e2
          unfold Zo at e2'
          rw [List.getElem?_append_left (by simp; omega), List.getElem?_replicate] at e2'
          split at e2' <;> cases e2'
      have e2' : (Zo n caps σ)[i]? = some (some v) := e2
      unfold Zo at e2'
      rw [List.getElem?_append_right (by simpa using hi), List.length_replicate, List.getElem?_map] at e2'
      have e1' : (tns ++ caps.map (·.2))[i]? = some x := e1
      rw [List.getElem?_append_right (by rw [hn]; exact hi), hn, List.getElem?_map] at e1'
      cases hcp : caps[i - n]? with
      | none => rw [hcp] at e2'; cases e2'
      | some p =>
        rw [hcp] at e2' e1'
        simp only [Option.map_some, Option.some.injEq] at e2' e1'
        have hp5 := ok5 p (List.mem_of_getElem? hcp)
        simp only [beq_iff_eq] at hp5
        obtain ⟨⟨p1, p2⟩, p3⟩ := hp5
        have hσ : σ[p.1]? = some (some v) := by
          cases hq : σ[p.1]? with
          | none => rw [hq] at e2'; cases e2'
          | some o => rw [hq] at e2'; simp at e2'; rw [e2']
        subst e1'
        obtain ⟨m, hm, hl⟩ := I.loc
        obtain ⟨u, r, l⟩ := hl p.1 p.2 v p1 hσ (.inr (.inl p2))
        refine ⟨u, r, .inr ?_⟩
        rcases l with ⟨k, _⟩ | ⟨k, c, e, z⟩
        · have k' : X.env.scope.names.lookup p.2 = some .local := k
          rw [p2] at k'; cases k'
        · obtain ⟨c', e'⟩ := hall p.2 (PySem.mem_of_lookup p3)
          have := hsub _ _ e'
          rw [e] at this; cases this
          obtain ⟨o, ho, hd⟩ := z
          exact ⟨JD (env := X.env) p3, c, e', ⟨o, old _ _ ho, hd⟩⟩
    · obtain ⟨v, o, ho, hd⟩ := I.cell x c (hsub x c e)
      exact ⟨v, o, old _ _ ho, hd⟩
  obtain ⟨hg, ht, he⟩ := hb cl C s H fp X'.xe
  have hg : PG X' tg g := hg
  have ht : PTs X' ifs tt := ht
  have he : PE X' elt te := he
  have FD : ∀ (H' : Hp) (obj : Obj), H' D = none -> (∀ b ∈ fp, H' b = none) -> ∀ b ∈ fp, Ci X' [(D, obj)] H' b := fun H' obj hD' hn' b hb => by
    refine ⟨hn' b hb, Nat.ne_of_lt (Nat.lt_trans (fpLt b hb) hDlt), fun hz => ?_, .inl hb, fun x c e z => (hf b hb).2.2.2.2.1 x c (hsub x c e) z, fun p hp z => ?_⟩
    · exact okX.exfs b hb hz
    · have hp' : p = (D, obj) := by simpa using (show p ∈ [] ++ [(D, obj)] from hp)
      subst hp'
      have := fpLt b hb
      exact Nat.lt_irrefl b (by rw [← z] at this; exact absurd this (Nat.lt_irrefl _))
  have fsLt : ∀ b ∈ X'.fs, b < D := fun b hb => by
    obtain ⟨_, o, ho, _⟩ := I.stack.mem hb
    rw [← hD]; exact Heap.lt_size ho
  have loop : ∀ s₃ : Shared, (∃ tk, s₃ = { s with heap := h₁, toks := tk }) ->
      codeAny (model X.prog X.w) X.A (.compLoop (.ListComp elt [⟨tg, iter, ifs, 0⟩] scope pos) 0 (.ref it) (.ref D) (compEnvC scope cl C X.env)) (RR (.ref D) C) s₃ := by
    rintro s₃ ⟨tk, rfl⟩
    refine Kb (env := compEnvC scope cl C X.env)
      (fun m s' => ∃ i H' ys its k, Inv X' [] (Zo n caps σ) H' s' /\ tn i s'.heap /\ (∀ b ∈ fp, H' b = none) /\ s'.heap.get? D = some { cls := .type "list", data := .seq (List.toArray its) k } /\ H' D = none /\ Yl ys its /\ W i m ys H') ?_ m0
      ⟨0, H, [], [], 0, I1 tk, hst₁, fun b hb => (hf b hb).1, hacc, I.hok.fresh (by rw [hD]; exact Nat.le_refl _), .nil, w0⟩
    rintro m s3 ⟨i, H3, ys, its, k, I3, st3, fr3, hL, hDn, rv, w3⟩
    have hne : D ≠ C := Nat.ne_of_lt hDlt
    have I3' : Inv X' [(D, { cls := .type "list", data := .seq (List.toArray its) k })] (Zo n caps σ) H3 s3 := I3.pins_of fun p hp => by
      have hp' : p = (D, { cls := .type "list", data := .seq (List.toArray its) k }) := by simpa using hp
      subst hp'
      exact ⟨hL, hDn, hne, fun hz => absurd (fsLt _ hz) (Nat.lt_irrefl _), fun v z => by cases z⟩
    obtain ⟨hz, cs⟩ := turn i m ys H3 w3
    rcases cs with ⟨stop, qn⟩ | ⟨go, NN, hNN, step⟩
    · refine thn (T.done X' rfl rfl rfl hc i _ s3 _ H3 X'.xe I3' (FD H3 _ hDn fr3) st3 stop) fun r s4 ⟨hr, I4⟩ => ?_
      subst hr
      have hL4 := (I4.pin (D, { cls := .type "list", data := .seq (List.toArray its) k }) (List.mem_append_right _ List.mem_cons_self)).1
      obtain ⟨mm, hnsC, _⟩ := id I4.loc
      refine hRR D C ys H3 s4 ⟨?_, hDn, ?_, mm, hnsC⟩ (qn D hDn)
      · refine I.call' (ch := fp) I4.os ?_ ?_ I4.bare fun b hb => ⟨(hf b hb).2.2.2.1, (hf b hb).2.1, (hf b hb).2.2.2.2.1, (hf b hb).2.2.2.2.2⟩
        · have u : Un (frs X.stack) fp H H3 s.heap s4.heap := I4.base
          refine ⟨u.keep, u.slot, fun b o e nn hx => ?_, u.there, fun b xs e => ?_, fun b o xs e => ?_, fun b ps e => ?_⟩
          · rw [XR (Nat.ne_of_lt (show b < D by rw [← hD]; exact Heap.lt_size e))]; exact u.free b o e nn hx
          · have := u.tups b xs e
            rw [XR (XT this hDn)]; exact this
          · have := u.frzs b o xs e
            rw [XR (XT this hDn)]; exact this
          · obtain ⟨more, this⟩ := u.tbls b ps e
            exact ⟨more, by rw [XR (XT this hDn)]; exact this⟩
        · intro a o e
          by_cases ha : a = D
          · subst ha
            rw [YQ] at e; cases e
            exact ⟨hz, its, k, rv, hL4⟩
          · rw [XR ha] at e
            exact (I4.hok a o e).stay (fun b u _ q => q) (fun b q => by rw [XR (XT q hDn)]; exact q) fun b xs q => by rw [XR (XT q hDn)]; exact q
      · refine ⟨by rw [XR (Ne.symm hne)]; exact I4.free, Nat.ne_of_gt (Nat.lt_trans (show X.env.locals < D by rw [← hD]; exact I.lt) hDlt), fun hz => ?_, .inr (Nat.le_trans I.sz (Nat.le_of_lt (by rw [hD]; exact hDlt))), fun x c e z => ?_, fun p hp z => ?_⟩
        · obtain ⟨_, o, ho, _⟩ := I.ok.funs.mem hz
          exact absurd (Nat.lt_trans hDlt (show C < D from Nat.lt_of_lt_of_le (Heap.lt_size ho) (by rw [← hD]; exact I.sz))) (Nat.lt_irrefl _)
        · obtain ⟨v, q⟩ := I.cell x c e
          exact absurd (Nat.lt_trans hDlt (show C < D by rw [← hD, ← z]; exact q.lt)) (Nat.lt_irrefl _)
        · exact absurd (Nat.lt_trans hDlt (show C < D by rw [← hD, ← z]; exact Heap.lt_size (I.pin p hp).1)) (Nat.lt_irrefl _)
    · refine thn (T.item X' rfl rfl rfl hc i _ s3 _ H3 X'.xe I3' (FD H3 _ hDn fr3) st3 go) fun r s4 ⟨u, hr, h4⟩ => ?_
      subst hr
      refine thn h4 fun _ s5 ⟨x, H5, I5, r5, y5, st5, fr5⟩ => ?_
      have hD5 : H5 D = none := (I5.pin (D, { cls := .type "list", data := .seq (List.toArray its) k }) (List.mem_append_right _ List.mem_cons_self)).2.1
      have I5' := I5.pinned (FD H5 _ hD5 fr5) (T.obj _ _ st5)
      refine thn (hg _ s5 _ H5 x u _ I5' r5 (hG _ _ _ _ (step x H5 y5))) fun _ s6 ⟨σ6, H6, I6, q6, l6, k6⟩ => ?_
      refine thn (ht _ s6 σ6 H6 _ I6 q6) fun c s7 ⟨H7, I7, q7⟩ => ?_
      have wk : ∀ (j : Nat) v, (Zo n caps σ)[j]? = some (some v) -> σ6[j]? = some (some v) := fun j v e => by
        by_cases hj : n <= j
        · rw [k6 j hj]; exact e
        · unfold Zo at e
          rw [List.getElem?_append_left (by simp; omega), List.getElem?_replicate] at e
          split at e <;> cases e
      have keepT : ∀ {h' : Heap}, (∀ b ∈ fp, ∀ o, s5.heap.get? b = some o -> h'.get? b = some o) -> tn (i + 1) h' := fun kk => T.keep _ _ _ st5 kk
      cases c with
      | false =>
        rw [if_neg Bool.false_ne_true] at q7
        rw [if_neg Bool.false_ne_true]
        obtain ⟨m', hm, w7⟩ := hNN _ _ q7
        refine ⟨m', hm, i + 1, H7, ys, its, k, ((I7.pins_of (pins' := []) fun p hp => by simp at hp).weak l6.symm wk), keepT fun b hb o e => (I7.pin (b, o) (List.mem_append_right _ (List.mem_append_right _ (Zs hb e)))).1, fun b hb => ?_, (I7.pin (D, { cls := .type "list", data := .seq (List.toArray its) k }) (List.mem_append_right _ (List.mem_append_left _ List.mem_cons_self))).1, (I7.pin (D, { cls := .type "list", data := .seq (List.toArray its) k }) (List.mem_append_right _ (List.mem_append_left _ List.mem_cons_self))).2.1, rv, w7⟩
        obtain ⟨o, e, _⟩ := T.obj _ _ st5 b hb
        exact (I7.pin (b, o) (List.mem_append_right _ (List.mem_append_right _ (Zs hb e)))).2.1
      | true =>
        rw [if_pos rfl] at q7
        rw [if_pos rfl]
        refine thn (he _ s7 σ6 H7 _ I7 q7) fun v8 s8 ⟨y8, H8, I8, r8, n8⟩ => ?_
        obtain ⟨m', hm, w8⟩ := hNN _ _ n8
        have hL8 := (I8.pin (D, { cls := .type "list", data := .seq (List.toArray its) k }) (List.mem_append_right _ (List.mem_append_left _ List.mem_cons_self))).1
        have hD8 := (I8.pin (D, { cls := .type "list", data := .seq (List.toArray its) k }) (List.mem_append_right _ (List.mem_append_left _ List.mem_cons_self))).2.1
        refine call_meets F.slot_list_append ⟨_, hL8, rfl⟩ F.entry_list_append (F.args_list_append_2 _ _) (PySem.list_append D (List.toArray its) k v8 (by rw [List.size_toArray, ← rv.length]; exact hz)) ⟨hL8, ?_⟩
        have q := PySem.IsL.update hL8 (·.push v8)
        have I9 : Inv X' (VP fp s5.heap) σ6 H8 s8 := I8.pins_of fun p hp => I8.pin p (List.mem_append_right _ (List.mem_append_right _ hp))
        have I10 := I9.turned (t' := s8.toks) (h' := s8.heap.update D (Obj.mapSeq (·.push v8))) (it := D) (fun b o hb' e => (Heap.get?_update_other s8.heap _ (Ne.symm hb')).trans e) hD8 hne (.inr (by show s.heap.objs.size <= D; omega))
          (fun x c e => Nat.ne_of_lt (cellLt x c e)) (fun p hp z => by
            have hp' : p ∈ VP fp s5.heap := (List.mem_append.mp hp).elim (fun q => absurd (show p ∈ ([] : List (Addr × Obj)) from q) (by simp)) id
            have := fpLt p.1 (Kf hp').1
            rw [z] at this
            exact absurd this (Nat.lt_irrefl _))
        refine ⟨m', hm, i + 1, H8, ys ++ [y8], its ++ [v8], (if (its ++ [v8]).toArray.size == (List.toArray its).size then k else k + 1), ((I10.pins_of (pins' := []) fun p hp => by simp at hp).weak l6.symm wk), keepT fun b hb o e => (I10.pin (b, o) (List.mem_append_right _ (Zs hb e))).1, fun b hb => ?_, ?_, hD8, rv.append (.cons r8 .nil), w8⟩
        · obtain ⟨o, e, _⟩ := T.obj _ _ st5 b hb
          exact (I10.pin (b, o) (List.mem_append_right _ (Zs hb e))).2.1
        · have e : (List.toArray its).push v8 = (its ++ [v8]).toArray := by simp
          have q' : (s8.heap.update D (Obj.mapSeq (·.push v8))).get? D = some { cls := .type "list", data := .seq ((List.toArray its).push v8) (if ((List.toArray its).push v8).size == (List.toArray its).size then k else k + 1) } := q
          rw [e] at q'
          exact q'
  exact codeAny_compStart_list (loop _ ⟨_, rfl⟩) (T.self _ 0 _ _ _ hst₁ (loop _ ⟨_, rfl⟩))
theorem BV (sc : Scope) (N0 : List Str) (tns : List Str) (caps : List (Nat × Str)) (hc : X.calm = true) (hi : PI X tg iter wi) (hG : Kx tns.length g)
    (hb : ∀ cl C s H ex E, PG (X.comp (tns ++ caps.map (·.2)) scope cl C s H ex E) tg g /\ PTs (X.comp (tns ++ caps.map (·.2)) scope cl C s H ex E) ifs tt /\ PE (X.comp (tns ++ caps.map (·.2)) scope cl C s H ex E) elt te)
    (hsc : X.env.scope = sc := by rfl) (hN0 : X.N = N0 := by rfl) (ok : Vo sc scope N0 tns caps = true := by decide +kernel)
    (hs : ∀ x, foldedSetIterable iter X.env x = pure x := by intro _; rfl) :
    PE X (.ListComp elt [⟨tg, iter, ifs, 0⟩] scope pos) (Dk tns.length caps wi g tt te) := by
  intro pins s σ H Q I h
  have ok' := ok
  unfold Vo at ok'
  simp only [Bool.and_eq_true, List.all_eq_true] at ok'
  obtain ⟨⟨⟨⟨ok1, ok2⟩, ok3⟩, ok4⟩, ok5⟩ := ok'
  obtain ⟨cl, ecl, hsub, hall⟩ := Dl (scope := scope) (env := X.env) fun x hx hfr => by
    have := ok4 x hx
    rw [hfr] at this
    have z : sc.names.lookup x.1 = some .cell := by simpa using this
    exact I.ok.has x.1 (.inl (by show X.env.scope.names.lookup x.1 = _; rw [hsc]; exact z))
  rw [eval_ListComp]
  refine wpAny_comprehension_free (use := none) rfl hs ecl (by simpa using ok1) (fun x hx hl => by have := ok3 x hx; rw [hl] at this; simpa using this) (thn (hi pins s σ H _ I h) fun xv s₁ h₁ => thn h₁ fun itv s₂ h₂ => ?_)
  obtain ⟨it, fp, tn, J, H', rfl, I2, T, st2, f2, W, ⟨m0, w0⟩, turn⟩ := h₂
  refine VO (RR := fun acc C => compPost (model X.prog X.w) X.A X.xe none (EP X pins σ Q) acc C) hc hsc hN0 ok rfl hG hb I2 T st2 f2 hsub hall W w0 turn ?_
  intro D C ys H3 s' ce q
  obtain ⟨mm, hns⟩ := ce.ns
  refine ⟨mm, hns, fun h' hs' => ⟨.ref D, _, ?_, rfl, q⟩⟩
  obtain ⟨c0, c1, c2, c3, c4, c5⟩ := ce.fp
  exact ce.inv.turned (t' := s'.toks) (fun b o hb' e => (hs'.extBut b o hb' e)) c0 c1 c3 c4 c5
theorem Q7 {x : Str} {px spos : Pos} (j : Nat) (sc : Scope) (N0 : List Str) (tns : List Str) (caps : List (Nat × Str)) (hc : X.calm = true) (hN : X.N.Nodup) (hj : X.N[j]? = some x) (hx : X.env.scope.names.lookup x = some .local) (hi : PI X tg iter wi) (hG : Kx tns.length g)
    (hb : ∀ cl C s H ex E, PG (X.comp (tns ++ caps.map (·.2)) scope cl C s H ex E) tg g /\ PTs (X.comp (tns ++ caps.map (·.2)) scope cl C s H ex E) ifs tt /\ PE (X.comp (tns ++ caps.map (·.2)) scope cl C s H ex E) elt te)
    (hsc : X.env.scope = sc := by rfl) (hN0 : X.N = N0 := by rfl) (ok : Vo sc scope N0 tns caps = true := by decide +kernel)
    (hsw : swapsWith (.ListComp elt [⟨tg, iter, ifs, 0⟩] scope pos) (some (.Name x px)) spos.line X.env = pure true := by rfl)
    (hs : ∀ x, foldedSetIterable iter X.env x = pure x := by intro _; rfl) :
    PS X (.Assign [.Name x px] (.ListComp elt [⟨tg, iter, ifs, 0⟩] scope pos) spos) (Cr (Dk tns.length caps wi g tt te) (Zh j)) := by
  intro pins s σ H D I h
  have ok' := ok
  unfold Vo at ok'
  simp only [Bool.and_eq_true, List.all_eq_true] at ok'
  obtain ⟨⟨⟨⟨ok1, ok2⟩, ok3⟩, ok4⟩, ok5⟩ := ok'
  obtain ⟨cl, ecl, hsub, hall⟩ := Dl (scope := scope) (env := X.env) fun x hx hfr => by
    have := ok4 x hx
    rw [hfr] at this
    have z : sc.names.lookup x.1 = some .cell := by simpa using this
    exact I.ok.has x.1 (.inl (by show X.env.scope.names.lookup x.1 = _; rw [hsc]; exact z))
  rw [exec_Assign_Name_used _ _ _ _ hsw]
  refine wpAny_bind (wpAny_standAt (wpAny_bind ?_))
  show wpAny _ _ (do let _ ← comprehension (.ListComp elt [⟨tg, iter, ifs, 0⟩] scope pos) scope X.env _ (newList []) false (eval iter X.env) (some (assign (.Name x px) X.env))) _ _ s
  refine wpAny_bind (thn (wpAny_comprehension_free (use := some (assign (.Name x px) X.env)) (Q := fun _ s' => SP X pins D .next s') rfl hs ecl (by simpa using ok1) (fun x hx hl => by have := ok3 x hx; rw [hl] at this; simpa using this)
    (thn (hi pins s σ H _ I h) fun xv s₁ h₁ => thn h₁ fun itv s₂ h₂ => ?_)) fun _ s' hq => wpAny_pure (wpAny_pure hq))
  obtain ⟨it, fp, tn, J, H', rfl, I2, T, st2, f2, W, ⟨m0, w0⟩, turn⟩ := h₂
  refine VO (Q := fun v H1 => Zh j v σ H1 D.nx) (RR := fun acc C => compPost (model X.prog X.w) X.A X.xe (some (assign (.Name x px) X.env)) (fun _ s' => SP X pins D .next s') acc C) hc hsc hN0 ok rfl hG hb I2 T st2 f2 hsub hall W w0 turn ?_
  intro DD C ys H3 s' ce q
  obtain ⟨mm, hns⟩ := ce.ns
  obtain ⟨c0, c1, c2, c3, c4, c5⟩ := ce.fp
  show wpAny _ _ (assign (.Name x px) X.env (.ref DD)) _ _ _
  refine wpAny_assign_Name (Ka ce.inv hN hj (.inl hx) (v := .ref DD) rfl (fun s2 I2 chg => ?_) (.inr hx))
  obtain ⟨c, hsb, hcc⟩ := chg
  have hCc : C ≠ c := by
    rcases hcc with z | z
    · rw [z]; exact c1
    · exact fun e => c4 x c z e.symm
  refine ⟨mm, ?_, fun h' hs' => ?_⟩
  · obtain ⟨o, es, ep, ho, r⟩ := hns
    exact ⟨o, es, ep, (hsb.2 C hCc).trans ho, r⟩
  · exact ⟨_, _, I2.turned (t' := s2.toks) (fun b o hb' e => (hs'.extBut b o hb' e)) c0 c1 c3 c4 c5, q⟩
end
section
variable {K : PySem.W.Frag} {a : Addr} {xs : List V} {n : Nat} {caps : List (Nat × Str)} {g : TG} {tt : TT} {te : TE} {σ : St} {H : Hp} {Q : V -> Hp -> Prop}
end
section
variable {X : Cx} {pos : Pos}
noncomputable def Dg (K : PySem.W.Frag) : List V -> Hp -> VK -> Prop := fun xs H Q => ∃ p ys, xs = [.ref p] /\ (SqL K H p ys ∨ SqT K H p ys) /\ ∀ l, H l = none -> Q (.ref l) (upd H l (.lst ys))
noncomputable def Fp (K : PySem.W.Frag) : List V -> Hp -> VK -> Prop := fun xs H Q => ∃ p ys, xs = [.ref p] /\ (SqL K H p ys ∨ SqT K H p ys) /\ Q (.int ys.length) H
theorem YS (K : PySem.W.Frag) (h : X.K = K) : Qi X (.type "list") (Dg K) := by subst h; exact UZ
theorem Xk (K : PySem.W.Frag) (h : X.K = K) : Qi X (.builtin "len") (Fp K) := by subst h; exact Kl
theorem Xj (K : PySem.W.Frag) (h : X.K = K) : IxR X (Bl K) := by subst h; exact BP
theorem YY (K : PySem.W.Frag) (h : X.K = K) : IxR X (EE K) := by subst h; exact E6
theorem Qs (K : PySem.W.Frag) (h : X.K = K) : SlR X (HC K) := by subst h; exact BM
theorem Dt (K : PySem.W.Frag) (h : X.K = K) {es : List Expr} {k : Nat} {t : TGs} {n : Nat} (hc : X.calm = true) (hh : PGs X es t)
    (hn : (assignEach es X.env).length = n := by rfl) (hst : (assignEach es X.env).findIdx? (·.1) = none := by rfl) : PG X (.Tuple es k pos) (Bb K n t) := by subst h; exact Q3 hc hh hn hst
end
end L2
namespace L2
open PySem PySem.Spec PyProof.Rows
structure Fn (P : Program) (w : World) (K : PySem.W.Frag) (mg : Str -> Option Value) (base : Heap) (k : Nat) (x : Str) (ps : List Str) (sp : Sp) : Prop where
  ex : ∃ f fd, FnOk P w K mg base CX0 k f fd ps sp /\ Kt K fd ps [] /\ PySem.W.keepIn K (.ref f) = true /\ mg x = some (.ref f)
section
variable {X : Cx} {k j : Nat} {x : Str} {ps : List Str} {sp : Sp} {e : Expr} {es : List Expr} {t : TA} {p pos : Pos}
theorem Ya (G : Fn X.prog X.w X.K X.mg X.base k x ps sp) (hr : Room j X.A) (hj : k <= j) (ha : PA X (e :: es) t) (hg : Gl X x := by rfl) (hdb : (x == ("__debug__" : Str)) = false := by decide)
    (he : starEach (e :: es) X.env = (false, eval e X.env) :: starEach es X.env := by rfl) (hpl : (backTo pos (starEach es X.env)).any (·.1) = false := by rfl) :
    PE X (.Call (.Name x p) (e :: es) [] pos) (KD sp [] E0 t) := by
  obtain ⟨f, fd, F, b, kp, m⟩ := G.ex
  exact Bx F (hr.mono hj) hg m kp b .nil HV ha hdb he hpl
end
noncomputable def Def (K : PySem.W.Frag) (mg : Str -> Option Value) (x : Str) (st : Stmt) (ps : List Str) : Prop := ∃ f fd, Fun K x x st f fd /\ Kt K fd ps [] /\ mg x = some (.ref f)
theorem YT {P : Program} {w : World} {K : PySem.W.Frag} {mg : Str -> Option Value} {base : Heap} {x : Str} {st : Stmt} {N ps : List Str} {k : Nat} {sp : Sp} (D : Def K mg x st ps) (S : FnScope N ps (Xi st)) (len : ∀ vs H Q E, sp vs H Q E -> vs.length = ps.length)
    (hbody : ∀ (f : Addr) (cdv : Value) (A : Around) (outer : List Env) (s : Shared) (H : Hp) (vs : List V) (Q : VK) (E : XK), Room k (A.deeper (envOfC x (Xi st) s.heap.objs.size f cdv)) -> sp vs H Q E ->
      ∃ t, PSs (BC CX0 P w K mg base N x (Xi st) f cdv A outer s H E).nox (XB st) t /\ t { nx := fun _ H' => Q .non H', rt := Q } (Ud N vs) H) : Fn P w K mg base (k + 1) x ps sp := by
  obtain ⟨f, fd, F, b, m⟩ := D
  exact ⟨f, fd, F.ok S len (hbody f), b, F.kp, m⟩
theorem Br {a d c : Nat} (h : d <= 8) (hu : a + 8 < c) : a + d < c := by omega
theorem XY {H : Hp} {p : Addr} (h : H p = none) (o : HO) : XC H (upd H p o) := fun b u q => by rw [XR (XT q h)]; exact q
theorem XC.own {H H2 : Hp} {p : Addr} (s : XC H H2) (h : H p = none) (o : HO) : XC H (upd H2 p o) := fun b u q => by rw [XR (XT q h)]; exact s b u q
theorem XC.new {H H2 : Hp} {p : Addr} (s : XC H H2) (h : H2 p = none) (o : HO) : XC H (upd H2 p o) := s.trans (XY h o)
theorem XC.seqT {K : PySem.W.Frag} {H H' : Hp} {a : Addr} {xs : List V} (e : XC H H') (h : SqT K H a xs) : SqT K H' a xs := by
  rcases h with (h | ⟨o, h⟩) | h
  · exact .inl (.inl (e _ _ h))
  · exact .inl (.inr ⟨o, e _ _ h⟩)
  · exact .inr h
theorem hu8 {A : Around} {k : Nat} (hr : Room k A) : A.units + 8 < cLine := Nat.lt_of_le_of_lt (Nat.add_le_add_left (by decide : 8 <= 64) _) hr.units
noncomputable abbrev Enc (α : Type) := PySem.W.Frag -> Hp -> V -> α -> Prop
noncomputable def Xa : Enc Int := fun _ _ v i => v = .int i
noncomputable def rL {α : Type} (r : Enc α) : Enc (List α) := fun K H v as => ∃ a xs, v = .ref a /\ SqL K H a xs /\ Paired (r K H) xs as
noncomputable def rT2 {α β : Type} (r : Enc α) (q : Enc β) : Enc (α × β) := fun K H v p => ∃ a x y, v = .ref a /\ SqT K H a [x, y] /\ r K H x p.1 /\ q K H y p.2
theorem Paired.getL {α β : Type} {F : α -> β -> Prop} : ∀ {l : List α} {m : List β} {i : Nat} {a : α}, Paired F l m -> l[i]? = some a -> ∃ b, m[i]? = some b /\ F a b
  | _, _, _, _, .nil, e => by simp at e
  | _, _, 0, _, .cons r _, e => by simp at e; subst e; exact ⟨_, rfl, r⟩
  | _, _, i + 1, a, .cons _ t, e => by
    obtain ⟨b, h1, h2⟩ := Paired.getL (i := i) (a := a) t (by simpa using e)
    exact ⟨b, by simpa using h1, h2⟩
theorem Paired.getR {α β : Type} {F : α -> β -> Prop} : ∀ {l : List α} {m : List β} {i : Nat} {b : β}, Paired F l m -> m[i]? = some b -> ∃ a, l[i]? = some a /\ F a b
  | _, _, _, _, .nil, e => by simp at e
  | _, _, 0, _, .cons r _, e => by simp at e; subst e; exact ⟨_, rfl, r⟩
  | _, _, i + 1, b, .cons _ t, e => by
    obtain ⟨a, h1, h2⟩ := Paired.getR (i := i) (b := b) t (by simpa using e)
    exact ⟨a, by simpa using h1, h2⟩
theorem Paired.len {α β : Type} {F : α -> β -> Prop} {l : List α} {m : List β} (h : Paired F l m) : l.length = m.length := Paired.length h
theorem Paired.app {α β : Type} {F : α -> β -> Prop} : ∀ {l l' : List α} {m m' : List β}, Paired F l m -> Paired F l' m' -> Paired F (l ++ l') (m ++ m')
  | _, _, _, _, .nil, h => h
  | _, _, _, _, .cons r t, h => .cons r (Paired.app t h)
theorem Ku (ns : List Int) : ∀ {K : PySem.W.Frag} {H : Hp}, Paired (Xa K H) (ns.map V.int) ns := by
  intro K H
  induction ns with
  | nil => exact .nil
  | cons n r ih => exact .cons rfl ih
theorem QK : ∀ {xs : List V} {ns : List Int} {K : PySem.W.Frag} {H : Hp}, Paired (Xa K H) xs ns -> xs = ns.map V.int
  | _, _, _, _, .nil => rfl
  | _, _, _, _, .cons r t => by
    have r' : _ = V.int _ := r
    rw [r', QK t]; rfl
structure EqOk {α : Type} [DecidableEq α] (r : Enc α) (d : Nat) : Prop where
  uniq : ∀ {X : Cx} {pins : List (Addr × Obj)} {σ : St} {H : Hp} {s : Shared} {x : V} {a b : α}, Inv X pins σ H s -> r X.K H x a -> r X.K H x b -> a = b
  eq : ∀ {X : Cx} {pins : List (Addr × Obj)} {σ : St} {H : Hp} {s : Shared} {x y : V} {v u : Value} {a b : α} {A : Around}, Inv X pins σ H s -> Yt x v -> Yt y u -> r X.K H x a -> r X.K H y b -> A.units + d < cLine -> SeqAt.EqAt A s v u (decide (a = b))
  rc : ∀ {X : Cx} {pins : List (Addr × Obj)} {σ : St} {H : Hp} {s : Shared} {x y : V} {v u : Value} {a b : α} {A : Around}, Inv X pins σ H s -> Yt x v -> Yt y u -> r X.K H x a -> r X.K H y b -> A.units + d < cLine -> SeqAt.RcAt A s v u (decide (a = b))
  ne : ∀ {X : Cx} {pins : List (Addr × Obj)} {σ : St} {H : Hp} {s : Shared} {x y : V} {v u : Value} {a b : α} {A : Around}, Inv X pins σ H s -> Yt x v -> Yt y u -> r X.K H x a -> r X.K H y b -> A.units + d < cLine -> SeqAt.RcNeAt A s v u (!decide (a = b))
  keep : ∀ {K : PySem.W.Frag} {H H' : Hp} {x : V} {a : α}, XC H H' -> r K H x a -> r K H' x a
theorem EqOk.up {α : Type} [DecidableEq α] {r : Enc α} {d e : Nat} (E : EqOk r d) (h : d <= e) : EqOk r e :=
  ⟨E.uniq, fun I rx ry h1 h2 hu => E.eq I rx ry h1 h2 (by omega), fun I rx ry h1 h2 hu => E.rc I rx ry h1 h2 (by omega), fun I rx ry h1 h2 hu => E.ne I rx ry h1 h2 (by omega), E.keep⟩
theorem Vk (A : Around) : A.in1.units = A.units + 1 := rfl
theorem CP {a b : Int} : (a == b) = decide (a = b) := by rw [Bool.eq_iff_iff]; simp
theorem eq_int : EqOk Xa 0 where
  uniq := fun _ h1 h2 => by
    have h1' : _ = V.int _ := h1
    have h2' : _ = V.int _ := h2
    rw [h1'] at h2'; injection h2'
  eq := fun {X pins σ H s x y v u a b A} I rx ry h1 h2 _ => by
    have h1' : x = V.int a := h1
    have h2' : y = V.int b := h2
    subst h1' h2'
    obtain ⟨t, rfl⟩ := rx
    obtain ⟨t', rfl⟩ := ry
    rw [← CP]; exact SeqAt.EqAt.int_int a t b t'
  rc := fun {X pins σ H s x y v u a b A} I rx ry h1 h2 _ => by
    have h1' : x = V.int a := h1
    have h2' : y = V.int b := h2
    subst h1' h2'
    obtain ⟨t, rfl⟩ := rx
    obtain ⟨t', rfl⟩ := ry
    rw [← CP]; exact SeqAt.RcAt.int_int a t b t'
  ne := fun {X pins σ H s x y v u a b A} I rx ry h1 h2 _ => by
    have h1' : x = V.int a := h1
    have h2' : y = V.int b := h2
    subst h1' h2'
    obtain ⟨t, rfl⟩ := rx
    obtain ⟨t', rfl⟩ := ry
    rw [← CP]; exact SeqAt.RcNeAt.int_int a t b t'
  keep := fun _ h => h
theorem DJ {α : Type} [DecidableEq α] {as bs : List α} (h : as.length = bs.length) : (List.range as.length).all (fun j => decide (as[j]? = bs[j]?)) = decide (as = bs) := by
  rw [Bool.eq_iff_iff]
  simp only [List.all_eq_true, List.mem_range, decide_eq_true_eq]
  constructor
  · intro hh
    apply List.ext_getElem?
    intro i
    by_cases hi : i < as.length
    · exact hh i hi
    · rw [List.getElem?_eq_none (by omega), List.getElem?_eq_none (by omega)]
  · rintro rfl; intros; rfl
theorem Paired.uniq {α β : Type} {F : α -> β -> Prop} (hu : ∀ a b c, F a b -> F a c -> b = c) : ∀ {l : List α} {m m' : List β}, Paired F l m -> Paired F l m' -> m = m'
  | _, _, _, .nil, .nil => rfl
  | _, _, _, .cons r t, .cons r' t' => by rw [hu _ _ _ r r', Paired.uniq hu t t']
theorem Paired.imp2 {α β : Type} {F G : α -> β -> Prop} (h : ∀ a b, F a b -> G a b) : ∀ {l : List α} {m : List β}, Paired F l m -> Paired G l m
  | _, _, .nil => .nil
  | _, _, .cons r t => .cons (h _ _ r) (Paired.imp2 h t)
section
variable {α : Type} [DecidableEq α] {r : Enc α} {d : Nat}
theorem VX (E : EqOk r d) {X : Cx} {pins : List (Addr × Obj)} {σ : St} {H : Hp} {s : Shared} {A : Around} (I : Inv X pins σ H s) (hu : A.units + (d + 1) < cLine) {xs ys : List V} {as bs : List α} {its its2 : List Value}
    (r1 : Yl xs its) (r2 : Yl ys its2) (p1 : Paired (r X.K H) xs as) (p2 : Paired (r X.K H) ys bs) :
    ∀ j (h1 : j < its.toArray.size) (h2 : j < its2.toArray.size), SeqAt.EqAt A.in1 s its.toArray[j] its2.toArray[j] (decide (as[j]? = bs[j]?)) := by
  intro j h1 h2
  have h1' : j < its.length := by simpa using h1
  have h2' : j < its2.length := by simpa using h2
  obtain ⟨x, ex, rx⟩ := Paired.getR (i := j) (b := its[j]) r1 (by simp [h1'])
  obtain ⟨y, ey, ry⟩ := Paired.getR (i := j) (b := its2[j]) r2 (by simp [h2'])
  obtain ⟨a, ea, ra⟩ := Paired.getL p1 ex
  obtain ⟨b, eb, rb⟩ := Paired.getL p2 ey
  have := E.eq (A := A.in1) I rx ry ra rb (by rw [Vk]; omega)
  rw [ea, eb]
  simpa using this
theorem Ez (E : EqOk r d) : EqOk (rL r) (d + 1) := by
  have un : ∀ {X : Cx} {pins : List (Addr × Obj)} {σ : St} {H : Hp} {s : Shared} {x : V} {a b : List α}, Inv X pins σ H s -> rL r X.K H x a -> rL r X.K H x b -> a = b := by
    intro X pins σ H s x as bs I h1 h2
    obtain ⟨a, xs, rfl, q1, p1⟩ := h1
    obtain ⟨b, ys, e, q2, p2⟩ := h2
    cases e
    cases I.list_inj q1 q2
    exact Paired.uniq (F := r X.K H) (fun _ _ _ z z' => E.uniq I z z') p1 p2
  have rc : ∀ {X : Cx} {pins : List (Addr × Obj)} {σ : St} {H : Hp} {s : Shared} {x y : V} {v u : Value} {a b : List α} {A : Around}, Inv X pins σ H s -> Yt x v -> Yt y u -> rL r X.K H x a -> rL r X.K H y b -> A.units + (d + 1) < cLine -> SeqAt.RcAt A s v u (decide (a = b)) := by
    intro X pins σ H s x y v u as bs A I rx ry h1 h2 hu
    obtain ⟨a, xs, rfl, q1, p1⟩ := h1
    obtain ⟨b, ys, rfl, q2, p2⟩ := h2
    cases rx; cases ry
    obtain ⟨its, r1, l1, _⟩ := I.list q1
    obtain ⟨its2, r2, l2, _⟩ := I.list q2
    have n1 := r1.length
    have n2 := r2.length
    have m1 := Paired.len p1
    have m2 := Paired.len p2
    by_cases hl : as.length = bs.length
    · have := SeqAt.RcAt.lists (A := A) (e := fun j => decide (as[j]? = bs[j]?)) l1.isList l2.isList (by simp only [List.size_toArray]; omega) (by omega) (VX E I hu r1 r2 p1 p2)
      rw [show its.toArray.size = as.length by simp only [List.size_toArray]; omega, DJ hl] at this
      exact this
    · rw [decide_eq_false (fun e => hl (congrArg List.length e))]
      exact SeqAt.RcAt.lists_lengths l1.isList l2.isList (by simp only [List.size_toArray, bne_iff_ne]; omega) (by omega)
  refine ⟨un, ?_, rc, ?_, ?_⟩
  · intro X pins σ H s x y v u as bs A I rx ry h1 h2 hu
    obtain ⟨a, xs, rfl, q1, p1⟩ := id h1
    obtain ⟨b, ys, rfl, q2, p2⟩ := id h2
    have R := rc (A := A) I rx ry h1 h2 hu
    cases rx; cases ry
    by_cases e : a = b
    · subst e
      rw [decide_eq_true (un I h1 h2)]
      exact SeqAt.EqAt.same _
    · exact SeqAt.EqAt.of_refs e R
  · intro X pins σ H s x y v u as bs A I rx ry h1 h2 hu
    obtain ⟨a, xs, rfl, q1, p1⟩ := h1
    obtain ⟨b, ys, rfl, q2, p2⟩ := h2
    cases rx; cases ry
    obtain ⟨its, r1, l1, _⟩ := I.list q1
    obtain ⟨its2, r2, l2, _⟩ := I.list q2
    have n1 := r1.length
    have n2 := r2.length
    have m1 := Paired.len p1
    have m2 := Paired.len p2
    by_cases hl : as.length = bs.length
    · have := SeqAt.RcNeAt.lists (A := A) (e := fun j => decide (as[j]? = bs[j]?)) l1.isList l2.isList (by simp only [List.size_toArray]; omega) (by omega) (VX E I hu r1 r2 p1 p2)
      rw [show its.toArray.size = as.length by simp only [List.size_toArray]; omega, DJ hl] at this
      exact this
    · rw [decide_eq_false (fun e => hl (congrArg List.length e))]
      exact SeqAt.RcNeAt.lists_lengths l1.isList l2.isList (by simp only [List.size_toArray, bne_iff_ne]; omega) (by omega)
  · intro K H H' x as e h
    obtain ⟨a, xs, rfl, q1, p1⟩ := h
    exact ⟨a, xs, rfl, e.seq q1, Paired.imp2 (fun _ _ z => E.keep e z) p1⟩
end
section
variable {α β : Type} [DecidableEq α] [DecidableEq β] {r : Enc α} {q : Enc β} {d : Nat}
theorem K1 {a1 a2 : α} {b1 b2 : β} : (decide (a1 = a2) && decide (b1 = b2)) = decide ((a1, b1) = (a2, b2)) := by
  rw [Bool.eq_iff_iff]; simp
theorem Et (E : EqOk r d) (F : EqOk q d) : EqOk (rT2 r q) (d + 1) := by
  have un : ∀ {X : Cx} {pins : List (Addr × Obj)} {σ : St} {H : Hp} {s : Shared} {x : V} {a b : α × β}, Inv X pins σ H s -> rT2 r q X.K H x a -> rT2 r q X.K H x b -> a = b := by
    rintro X pins σ H s x ⟨a1, a2⟩ ⟨b1, b2⟩ I h1 h2
    obtain ⟨a, x1, x2, rfl, q1, p1, p2⟩ := h1
    obtain ⟨b, y1, y2, e, q2, p3, p4⟩ := h2
    cases e
    cases I.tuple_inj q1 q2
    rw [show a1 = b1 from E.uniq I p1 p3, show a2 = b2 from F.uniq I p2 p4]
  have its : ∀ {X : Cx} {pins : List (Addr × Obj)} {σ : St} {H : Hp} {s : Shared} {x1 x2 y1 y2 : V} {u1 u2 w1 w2 : Value} {a b : α × β} {A : Around}, Inv X pins σ H s -> Yt x1 u1 -> Yt x2 u2 -> Yt y1 w1 -> Yt y2 w2 ->
      r X.K H x1 a.1 -> q X.K H x2 a.2 -> r X.K H y1 b.1 -> q X.K H y2 b.2 -> A.units + (d + 1) < cLine ->
      ∀ j (h1 : j < [u1, u2].toArray.size) (h2 : j < [w1, w2].toArray.size), SeqAt.EqAt A.in1 s [u1, u2].toArray[j] [w1, w2].toArray[j] ((fun j => if j = 0 then decide (a.1 = b.1) else decide (a.2 = b.2)) j) := by
    intro X pins σ H s x1 x2 y1 y2 u1 u2 w1 w2 a b A I e1 e2 e3 e4 p1 p2 p3 p4 hu j h1 h2
    have hj : j = 0 ∨ j = 1 := by
      have h1' : j < 2 := h1
      omega
    rcases hj with rfl | rfl
    · exact E.eq (A := A.in1) I e1 e3 p1 p3 (by rw [Vk]; omega)
    · exact F.eq (A := A.in1) I e2 e4 p2 p4 (by rw [Vk]; omega)
  have rc : ∀ {X : Cx} {pins : List (Addr × Obj)} {σ : St} {H : Hp} {s : Shared} {x y : V} {v u : Value} {a b : α × β} {A : Around}, Inv X pins σ H s -> Yt x v -> Yt y u -> rT2 r q X.K H x a -> rT2 r q X.K H y b -> A.units + (d + 1) < cLine -> SeqAt.RcAt A s v u (decide (a = b)) := by
    rintro X pins σ H s x y v u ⟨a1, a2⟩ ⟨b1, b2⟩ A I rx ry h1 h2 hu
    obtain ⟨a, x1, x2, rfl, q1, p1, p2⟩ := h1
    obtain ⟨b, y1, y2, rfl, q2, p3, p4⟩ := h2
    cases rx; cases ry
    obtain ⟨i1, r1, l1, _⟩ := I.tuple q1
    obtain ⟨i2, r2, l2, _⟩ := I.tuple q2
    obtain ⟨u1, u2, rfl, e1, e2⟩ := Yl.two r1
    obtain ⟨w1, w2, rfl, e3, e4⟩ := Yl.two r2
    have := SeqAt.RcAt.tuples (A := A) l1 l2 (by omega) (its (a := (a1, a2)) (b := (b1, b2)) I e1 e2 e3 e4 p1 p2 p3 p4 hu)
    rw [← K1]
    simpa [List.range_succ] using this
  refine ⟨un, ?_, rc, ?_, ?_⟩
  · intro X pins σ H s x y v u as bs A I rx ry h1 h2 hu
    obtain ⟨a, x1, x2, rfl, q1, p1, p2⟩ := id h1
    obtain ⟨b, y1, y2, rfl, q2, p3, p4⟩ := id h2
    have R := rc (A := A) I rx ry h1 h2 hu
    cases rx; cases ry
    by_cases e : a = b
    · subst e
      rw [decide_eq_true (un I h1 h2)]
      exact SeqAt.EqAt.same _
    · exact SeqAt.EqAt.of_refs e R
  · rintro X pins σ H s x y v u ⟨a1, a2⟩ ⟨b1, b2⟩ A I rx ry h1 h2 hu
    obtain ⟨a, x1, x2, rfl, q1, p1, p2⟩ := h1
    obtain ⟨b, y1, y2, rfl, q2, p3, p4⟩ := h2
    cases rx; cases ry
    obtain ⟨i1, r1, l1, _⟩ := I.tuple q1
    obtain ⟨i2, r2, l2, _⟩ := I.tuple q2
    obtain ⟨u1, u2, rfl, e1, e2⟩ := Yl.two r1
    obtain ⟨w1, w2, rfl, e3, e4⟩ := Yl.two r2
    have := SeqAt.RcNeAt.tuples (A := A) l1 l2 (by omega) (its (a := (a1, a2)) (b := (b1, b2)) I e1 e2 e3 e4 p1 p2 p3 p4 hu)
    rw [← K1]
    simpa [List.range_succ] using this
  · intro K H H' x as e h
    obtain ⟨a, x1, x2, rfl, q1, p1, p2⟩ := h
    exact ⟨a, x1, x2, rfl, e.seqT q1, E.keep e p1, F.keep e p2⟩
end
section
variable {X : Cx} {α : Type} [DecidableEq α] {r : Enc α} {d : Nat}
noncomputable def Im (K : PySem.W.Frag) (r : Enc α) : R2 := fun x y H Q => ∃ a b, r K H x a /\ r K H y b /\ Q (.bl (!decide (a = b))) H
theorem Dw (E : EqOk r d) (hu : X.A.units + d < cLine) : OpR X (compareOp .NotEq) (Im X.K r) := by
  intro pins s σ H x y v u Q I rx ry h
  obtain ⟨a, b, h1, h2, q⟩ := h
  exact E.ne (A := X.A) I rx ry h1 h2 hu _ _ _ _ ⟨.bl _, H, I, rfl, q⟩
theorem KF : Qi X (.builtin "isinstance") (fun xs H Q => ∃ x n t b, xs = [x, .ty n] /\ TyOf X.K H x t /\ PySem.W.kitOne X.K t (.type n) = some b /\ Q (.bl b) H) := by
  intro pins s σ H xs us Q I r h
  obtain ⟨x, n, t, b, rfl, ty, e, q⟩ := h
  obtain ⟨u, v, rfl, ru, rv⟩ := Yl.two r
  cases (show v = Value.type n from rv)
  exact Dr I ru ty e fun tk => ⟨.bl b, H, I.tok tk, rfl, q⟩
theorem QY : OpR X (binaryOp .FloorDiv) (rI (fun _ j => 0 < j /\ j.natAbs.log2 < 9000) fun i j => .int (i / j)) := opI fun i j _ _ _ _ _ hc q => by
  refine floordiv_int (by omega) ?_ (.inl (PyProof.noPylong_of_log2 hc.2))
  rw [Int.fdiv_eq_ediv_of_nonneg i (by omega)]
  exact q
end
end L2
namespace PySem
open Sem (wp)
section
variable {prog : Program} {w : World} {A : Around} {E : Value -> Shared -> Prop} {s : Shared}
end
end PySem
namespace L2
open PySem PySem.Spec PyProof.Rows
theorem V8 {α β : Type} {F : α -> β -> Prop} : ∀ {l : List α} {m : List β} {i : Nat} {b : β}, Paired F l m -> m[i]? = some b -> ∃ a, l[i]? = some a /\ F a b
  | _, _, _, _, .nil, e => by simp at e
  | _, _, 0, _, .cons r _, e => by simp at e; subst e; exact ⟨_, rfl, r⟩
  | _, _, i + 1, b, .cons _ t, e => by
    obtain ⟨a, h1, h2⟩ := V8 (i := i) (b := b) t (by simpa using e)
    exact ⟨a, by simpa using h1, h2⟩
section
variable {X : Cx} {e : Expr} {te : TE}
noncomputable def Ir (K : PySem.W.Frag) : List V -> Hp -> VK -> Prop := fun xs H Q => ∃ (a : Addr) (ns : List Int), xs = [.ref a] /\ SqL K H a (ns.map V.int) /\ Q (.int ns.sum) H
theorem DK (hc : X.calm = true) : Qi X (.builtin "sum") (Ir X.K) := by
  intro pins s σ H xs us Q I r h
  obtain ⟨a, ns, rfl, hq, q⟩ := h
  obtain ⟨u, rfl, ru⟩ := GR r
  cases ru
  obtain ⟨its, rv, pl, hz⟩ := I.list hq
  have hi : IntsAre its ns := G4 rv
  have hlen := hi.length
  have hlt : a < s.heap.objs.size := by obtain ⟨o, n, ho, _⟩ := pl; exact Heap.lt_size ho
  refine call_sum_walkG ?_
  refine wpAny_pyIter_list pl.isList ?_
  have W := Walks.list (prog := X.prog) (w := X.w) (A := X.A.in1) (I.ok.hd hc) s.heap.objs.size a (Nat.ne_of_lt hlt) its.toArray
  refine ⟨s.heap.objs.size, _, _, _, _, _, fun i => ns.getD i 0, rfl, W, ⟨⟨_, Heap.get?_push_size _ rfl, rfl, rfl⟩, pl.isList.at fun o e => Heap.get?_push_of_some _ e⟩, fun b hb => ?_, fun i v hv => ?_, fun h' tk t' hk => ?_⟩
  · rcases List.mem_cons.mp hb with e | hb
    · rw [e, Heap.size_push]; exact Nat.lt_succ_self _
    · rw [List.mem_singleton.mp hb, Heap.size_push]; exact Nat.lt_succ_of_lt hlt
  · have hv' : its[i]? = some v := by simpa using hv
    have hil : i < its.length := (List.getElem?_eq_some_iff.mp hv').1
    obtain ⟨x, ex, rx⟩ := V8 rv hv'
    rw [List.getElem?_map] at ex
    cases e : ns[i]? with
    | none => rw [e] at ex; cases ex
    | some z =>
      rw [e] at ex
      have ex' : V.int z = x := Option.some.inj ex
      subst ex'
      obtain ⟨t, rfl⟩ := rx
      exact ⟨t, by simp [List.getD, e]⟩
  · have I2 : Inv X pins σ H { s with heap := h', toks := tk } := I.kept (t' := tk) fun b o e => hk b o (fun hm => by
      rw [List.mem_singleton.mp hm] at e
      exact absurd (Heap.lt_size e) (Nat.lt_irrefl _)) (Heap.get?_push_of_some _ e)
    refine ⟨.int ns.sum, H, I2, ⟨t', ?_⟩, q⟩
    rw [List.size_toArray, hlen, preSum_getD, List.take_length]
end
end L2
namespace L2
open PySem PySem.Spec PyProof.Rows
section
variable {X : Cx} {pins : List (Addr × Obj)} {σ : St} {H : Hp} {s : Shared} {h' : Heap}
theorem Inv.turnLay {t' : Nat} {ch : List Addr} {T : Addr} {u : HO} (I : Inv X pins σ H s) (k : ∀ b o, b ∉ ch -> s.heap.get? b = some o -> h'.get? b = some o) (hf : ∀ b ∈ ch, Ci X pins H b)
    (hp : s.heap.objs.size <= T) (new : Y3 X.prog X.w (upd H T u) h' T u) : Inv X pins σ (upd H T u) { s with heap := h', toks := t' } := by
  have hn : H T = none := I.hok.fresh hp
  have nit : ∀ b o, H b = some o -> b ∉ ch := fun b o e z => by rw [(hf b z).1] at e; cases e
  refine I.step (g' := s.gens) (d' := s.drawn) (ch := ch) (fun b hb => ?_) (fun b o _ _ hc e _ => k b o hc e) (fun b o _ _ hc e _ => ⟨o.slots, k b o hc e⟩)
    (fun b o _ e n => by rw [XR (Nat.ne_of_lt (Nat.lt_of_lt_of_le (Heap.lt_size e) hp))]; exact n)
    (fun b o hc e => ⟨o, k b o hc e⟩) (fun b xs e => by rw [XR (XT e hn)]; exact e) (fun b o xs e => by rw [XR (XT e hn)]; exact e) (fun b ps e => ⟨#[], by rw [XR (XT e hn), e]; simp⟩) (fun m hm => ?_) (fun b v e => ?_) I.bare
  · obtain ⟨f0, f1, f2, f3, f4, f5⟩ := hf b hb
    exact ⟨f3, f1, f4, f5⟩
  · obtain ⟨o, es, ep, ho, r⟩ := hm
    exact ⟨o, es, ep, k _ o (fun z => (hf _ z).2.1 rfl) ho, r⟩
  · by_cases hb : b = T
    · subst hb; rw [YQ] at e; cases e; exact new
    · rw [XR hb] at e
      refine (I.hok b v e).stay (fun c o hc q => k c o ?_ q) (fun c q => by rw [XR (XT q hn)]; exact q) fun c xs q => by rw [XR (XT q hn)]; exact q
      rcases hc with z | z
      · rw [z]; exact nit b v e
      · exact nit c _ z
end
noncomputable def Ite (K : PySem.W.Frag) (a : Addr) : It :=
  ⟨fun i H => ∃ xs x, SqL K H a xs /\ xs[i]? = some x, fun i H y H' => ∃ p x, y = .ref p /\ H p = none /\ H' = upd H p (.tup [.int (i : Int), x]) /\ ∀ xs, SqL K H a xs -> xs[i]? = some x, fun i H => ∃ xs, SqL K H a xs /\ xs.length <= i⟩
theorem Fq {P : Program} {w : World} {K : PySem.W.Frag} {elts : List Expr} {k : Nat} {pos : Pos} (a e it : Addr) (h1 : e ≠ it) (h2 : a ≠ e) (h3 : a ≠ it) :
    Turn P w K (.Tuple elts k pos) (Ite K a) [e, it] e (fun i h => (∃ old, IsEnum h e it (i : Int) old) /\ h.IsListIter it a i) where
  mem := by simp
  obj := fun i h st b hb => by
    obtain ⟨⟨old, eo⟩, o, io, c, d⟩ := st
    rcases List.mem_cons.mp hb with z | z
    · subst z
      exact ⟨_, eo, fun v z => by cases z⟩
    · have z := List.mem_singleton.mp z
      subst z
      exact ⟨o, io, fun v z => by rw [d] at z; cases z⟩
  keep := fun i h h' st k => ⟨let ⟨old, eo⟩ := st.1; ⟨old, k e (by simp) _ eo⟩, st.2.at fun o q => k it (by simp) o q⟩
  item := by
    intro X hP hw hK hc i pins s σ H E I hf st hg
    subst hP hw hK
    obtain ⟨xs, x, hq, hx⟩ := hg
    obtain ⟨its, rv, p, hz⟩ := I.list hq
    obtain ⟨u, hu, ru⟩ := rv.get hx
    obtain ⟨⟨old, eo⟩, io⟩ := id st
    have hu' : its.toArray[i]? = some u := by simpa using hu
    have W := WalksT.enumerate (prog := X.prog) (w := X.w) (A := X.A) (I.ok.hd hc) e it a h1 h2 h3 its.toArray
    refine wpAny_pyNext_enum_item eo io p.isList hu' h1 fun h' eo' io' tup sz kk => ?_
    have hT : ∀ b o, s.heap.get? b = some o -> s.heap.objs.size ≠ b := fun b o q z => absurd (Heap.lt_size q) (by rw [← z]; exact Nat.lt_irrefl _)
    have hTe := hT e _ eo
    have hTi : s.heap.objs.size ≠ it := by obtain ⟨o, q, _⟩ := io; exact hT it o q
    have ha' : h'.IsList a its.toArray := p.isList.at fun o q => kk a o h2 h3 q
    refine ⟨_, rfl, W.go elts k pos i s.heap.objs.size _ _ _ ⟨⟨_, eo'⟩, io', ha', hTe, hTi⟩ fun h'' st' kk' => ?_⟩
    obtain ⟨st2, io2, _⟩ := st'
    have tup2 := kk' _ _ (by simp [hTe, hTi]) tup
    have k2 : ∀ b o, b ∉ [e, it] -> s.heap.get? b = some o -> h''.get? b = some o := fun b o q1 q => kk' b o q1 (kk b o (fun z => q1 (by simp [z])) (fun z => q1 (by simp [z])) q)
    refine ⟨.ref s.heap.objs.size, upd H s.heap.objs.size (.tup [.int (i : Int), x]), I.turnLay (h' := h'') (t' := s.toks + 1) k2 hf (Nat.le_refl _) ⟨by show 2 <= sizeLine; decide, [.int (i : Int) s.toks, u], .cons ⟨_, rfl⟩ (.cons ru .nil), ⟨_, tup2, rfl, _, rfl⟩⟩, rfl,
      ⟨_, x, rfl, I.hok.fresh (Nat.le_refl _), rfl, fun ys hy => by rw [I.list_inj hy hq]; exact hx⟩, ⟨by simpa using st2, io2⟩, fun b hb => ?_⟩
    rcases List.mem_cons.mp hb with z | z
    · rw [z, XR hTe.symm]; exact (hf e (by simp)).1
    · rw [List.mem_singleton.mp z, XR hTi.symm]; exact (hf it (by simp)).1
  done := by
    intro X hP hw hK hc i pins s σ H E I hf st hg
    subst hP hw hK
    obtain ⟨xs, hq, hx⟩ := hg
    obtain ⟨its, rv, p, hz⟩ := I.list hq
    obtain ⟨⟨old, eo⟩, io⟩ := id st
    obtain ⟨f0, f1, f2, f3, f4, f5⟩ := hf it (by simp)
    have hl := rv.length
    exact wpAny_pyNext_enum_end (I.ok.hd hc) eo io p.isList (by simp; omega) fun h' eb => ⟨rfl, I.turned (t' := s.toks) (fun b o hb q => eb b o hb q) f0 f1 f3 f4 f5⟩
  self := by
    intro A i s Q E st h
    obtain ⟨⟨old, eo⟩, io⟩ := st
    exact wpAny_pyIter_enum eo h
section
variable {X : Cx} {elts : List Expr} {k : Nat} {pos0 : Pos}
noncomputable def EL (K : PySem.W.Frag) (tl : TE) : TI := fun σ H R => tl σ H fun x H1 => ∃ a, x = .ref a /\ (∃ xs, SqL K H1 a xs) /\ R (Ite K a) H1
theorem En {l : Expr} {tl : TE} {p pos : Pos} (hg : Gl X "enumerate") (hm : X.mg "enumerate" = none) (hl : PE X l tl) (hs : starEach [l] X.env = [(false, eval l X.env)] := by rfl) :
    PI X (.Tuple elts k pos0) (.Call (.Name "enumerate" p) [l] [] pos) (EL X.K tl) := by
  intro pins s σ H R I h
  refine wpAny_Call_Name_kw (Vg I hg hm boot_enumerate ?_)
  refine PyProof.Rows.callWith_type1 ?_ hs rfl
  rw [hs]
  show wpAny _ _ (spliced ((false, eval l X.env) :: backTo pos [])) _ _ s
  refine Calls.spliced_cons (thn (hl pins s σ H _ I h) fun v s1 ⟨x, H1, I1, r1, a, ex, ⟨xs, hq⟩, q⟩ => ?_)
  subst ex
  cases r1
  obtain ⟨its, rv, pl, hz⟩ := I1.list hq
  refine Calls.spliced_nil ?_
  have hlt : a < s1.heap.objs.size := by obtain ⟨o, n, ho, _⟩ := pl; exact Heap.lt_size ho
  refine call_enumerate_list pl.isList fun h' en io sz kk => ?_
  refine wpAny_pyIter_enum en ?_
  refine ⟨_, [s1.heap.objs.size + 1, s1.heap.objs.size], _, _, H1, rfl, I1.kept (t' := s1.toks) kk, Fq a _ _ (Nat.ne_of_gt (Nat.lt_succ_self _)) (Nat.ne_of_lt (Nat.lt_succ_of_lt hlt)) (Nat.ne_of_lt hlt), ⟨⟨_, en⟩, io⟩, fun b hb => ?_, q⟩
  have hb' : s1.heap.objs.size <= b := by
    rcases List.mem_cons.mp hb with z | z
    · rw [z]; exact Nat.le_succ _
    · rw [List.mem_singleton.mp z]; exact Nat.le_refl _
  exact I1.fpOk hb' (I1.hok.fresh hb')
end
noncomputable def DN (K : PySem.W.Frag) : V -> List V -> Hp -> VK -> Prop := fun x vs H Q => ∃ l xs y, ∃ j : Nat, x = .ref l /\ vs = [y] /\ SqL K H l xs /\ JG y = true /\ xs.all JG = true /\ (∃ z, xs[j]? = some z /\ eqV z y = true) /\ (∀ (m : Nat) z, m < j -> xs[m]? = some z -> eqV z y = false) /\ Q (.int (j : Int)) H
section
variable {X : Cx}
theorem Ck : MtR X "list.index" (DN X.K) := by
  intro pins s σ H x vs v us Q I rx rv h
  obtain ⟨l, xs, y, j, rfl, rfl, hq, fy, fs, ⟨z, hz, ez⟩, hm, q⟩ := h
  cases rx
  obtain ⟨u, rfl, ry⟩ := Yl.one rv
  obtain ⟨its, r, pl, hle⟩ := I.list hq
  have hl := r.length
  have hjl := (List.getElem?_eq_some_iff.mp hz).1
  have ge : ∀ (m : Nat) (w : V), xs[m]? = some w -> ∀ hm : m < its.toArray.size, eqU y its.toArray[m] = eqV w y := fun m w hw hm => by
    obtain ⟨u', hu', ru'⟩ := r.get hw
    have e : its.toArray[m] = u' := by
      have := (List.getElem?_eq_some_iff.mp hu').2
      simpa using this
    rw [e]
    exact FI ru' (List.all_eq_true.mp fs w (List.mem_of_getElem? hw))
  obtain ⟨o, n, ho, hc, hd, hs⟩ := id pl
  obtain ⟨cls, dict, data, slots⟩ := o
  cases hc; cases hd; cases hs
  refine call_meets F.slot_list_index ⟨_, ho, rfl⟩ F.entry_list_index (F.args_list_index_2 _ _) (SeqAt.list_indexAt l its.toArray n none slots u (eqU y) j (by rw [List.size_toArray]; omega) ?_ ?_ ?_) ⟨ho, fun w hw => JN ry fy r fs w (by simpa using hw), ?_⟩
  · have : sizeLine < 2 ^ 63 - 1 := by decide
    omega
  · rw [ge j z hz]; exact ez
  · intro m hm' hlt
    rw [ge m xs[m] (List.getElem?_eq_getElem (by omega))]
    exact hm m _ hlt (List.getElem?_eq_getElem (by omega))
  · exact ⟨.int (j : Int), H, I.tok _, ⟨_, rfl⟩, q⟩
end
section
variable {α : Type} [DecidableEq α] {r : Enc α} {d : Nat}
end
end L2
namespace L2
open PySem PySem.Spec PyProof.Rows
section
variable {X : Cx} {o e f : Expr} {td ty tx : TE} {apos cpos : Pos}
end
end L2
namespace L2
open PySem PySem.Spec PyProof.Rows
section
variable {X : Cx} {elt tg iter : Expr} {ifs : List Expr} {scope sc : Scope} {pos : Pos} {n : Nat} {tns : List Str} {caps : List (Nat × Str)} {wi : TI} {g : TG} {tt : TT} {te : TE}
end
end L2
namespace L2
open PySem PySem.Spec PyProof.Rows
theorem J5 : ∀ (xs : List V) (us : List Value), xs.length = us.length -> (∀ (j : Nat) x u, xs[j]? = some x -> us[j]? = some u -> Yt x u) -> Yl xs us
  | [], [], _, _ => .nil
  | [], _ :: _, h, _ => by simp at h
  | _ :: _, [], h, _ => by simp at h
  | x :: xs, u :: us, h, r => .cons (r 0 x u rfl rfl) (J5 xs us (by simpa using h) fun j y v e1 e2 => r (j + 1) y v (by simpa using e1) (by simpa using e2))
noncomputable def K7 (ta : TA) : TE := fun σ H Q => ta σ H fun vs H1 => ∃ j : Int, vs = [.int j] /\ 0 <= j /\ j <= 1000 /\ ∀ p, H1 p = none -> Q (.ref p) (upd H1 p (.lst ((List.range j.toNat).map fun i => V.int ((i : Nat) : Int))))
variable {X : Cx}
theorem UI {e : Expr} {ta : TA} {p q q2 pos : Pos} (hc : X.calm = true) (hg : Gl X "list") (hg2 : Gl X "range") (hm : X.mg "list" = none) (hm2 : X.mg "range" = none) (ha : PA X [e] ta)
    (hs : starEach [.Call (.Name "range" q) [e] [] q2] X.env = [(false, eval (.Call (.Name "range" q) [e] [] q2) X.env)] := by rfl) (hs2 : starEach [e] X.env = [(false, eval e X.env)] := by rfl) :
    PE X (.Call (.Name "list" p) [.Call (.Name "range" q) [e] [] q2] [] pos) (K7 ta) := by
  intro pins s σ H Q I h
  refine wpAny_Call_Name_kw (Vg I hg hm PyProof.Rows.boot_list ?_)
  refine PyProof.Rows.callWith_type1 ?_ hs rfl
  rw [hs]
  show wpAny _ _ (spliced ((false, eval (.Call (.Name "range" q) [e] [] q2) X.env) :: backTo pos [])) _ _ s
  refine Calls.spliced_cons ?_
  refine wpAny_Call_Name_kw (Vg I hg2 hm2 boot_range ?_)
  refine PyProof.Rows.callWith_type1 (thn (ha q2 pins s σ H _ I h) fun us s1 ⟨vs, H1, I1, r1, q1⟩ => ?_) hs2 rfl
  obtain ⟨j, e, h0, h1, k⟩ := q1
  subst e
  cases r1 with
  | cons r rr =>
    cases rr
    obtain ⟨t, rfl⟩ := r
    refine call_range_1 ?_
    refine Calls.spliced_nil ?_
    refine call_list_range (n := j.toNat) (I.ok.hd hc) (IsRange.new ..) (small_one (by omega) (by omega) (by omega) (by omega)) (by rw [rangeSize_one]; split <;> omega) (by omega) fun h' tk acc' c' hk hS hacc => ?_
    refine ⟨.ref _, _, I1.laid (h' := h') (t' := tk) (o := .lst ((List.range j.toNat).map fun i => V.int ((i : Nat) : Int))) (fun b o e => hk b o (Heap.get?_push_of_some _ e)) (by rw [Heap.size_push]; exact Nat.le_succ _) ?_, rfl, k _ (I1.hok.fresh (by rw [Heap.size_push]; exact Nat.le_succ _))⟩
    refine ⟨by rw [List.length_map, List.length_range]; exact Nat.le_of_lt (Di (by omega)), acc'.toList, c', J5 _ _ (by simp [hacc.1]) fun i x u e1 e2 => ?_, hS⟩
    have e2' : acc'[i]? = some u := by simpa using e2
    obtain ⟨tk, rfl⟩ := hacc.2 i u e2'
    rw [List.getElem?_map] at e1
    cases e3 : (List.range j.toNat)[i]? with
    | none => rw [e3] at e1; cases e1
    | some z =>
      rw [e3] at e1
      have hz : z = i := by
        have hi : i < j.toNat := by have := (List.getElem?_eq_some_iff.mp e3).1; simpa using this
        rw [List.getElem?_range hi] at e3
        exact (Option.some.inj e3).symm
      subst hz
      have : x = V.int (z : Int) := (Option.some.inj e1).symm
      subst this
      exact ⟨tk, by simp⟩
end L2
namespace L2
open PySem PySem.Spec PyProof.Rows
theorem QZ {l : List Expr} {p : Pos} {es : List Expr} {env : Env} : starEach (.List l p :: es) env = (false, eval (.List l p) env) :: starEach es env := rfl
theorem Ub {X : Cx} {l : List Expr} {p : Pos} {es : List Expr} {te : TE} {t : TA} (ha : PE X (.List l p) te) (hr : PA X es t) : PA X (.List l p :: es) (XH te t) := Xd ha hr QZ
end L2
namespace L2
open PySem PySem.Spec PyProof.Rows
theorem UX {X : Cx} (K : PySem.W.Frag) (h : X.K = K) : MtR X "list.index" (DN K) := by subst h; exact Ck
end L2
namespace L2
open PySem PySem.Spec PyProof.Rows
variable {X : Cx} {o e : Expr} {es : List Expr} {to : TE} {t : TA} {name : Str} {apos cpos : Pos} {T id : String} {r : V -> List V -> Hp -> VK -> Prop}
theorem EY (K : PySem.W.Frag) (hK : X.K = K) (pa : PlainAttrs T) (slot : Slot T name id) (hty : typeOf (.builtin id) = pure (.type "method_descriptor")) (hm : MtR X id r) (ho : PE X o to) (ha : PA X (e :: es) t)
    (hbase : attributeBase o name X.env (eval o X.env) = eval o X.env := by rfl)
    (hfew : ((backTo cpos (starEach (e :: es) X.env)).all (fun x => !x.1) && (backToKw cpos (keywordEach [] X.env)).all (fun x => x.1.isSome)
      && decide ((e :: es).length + ([] : List Keyword).length + (if ([] : List Keyword).isEmpty then 0 else 1) < 30)) = true := by rfl)
    (hline : (apos.endLine == cpos.line) = true := by rfl) (hs : starEach (e :: es) X.env = (false, eval e X.env) :: starEach es X.env := by rfl) (hplain : (backTo cpos (starEach es X.env)).any (·.1) = false := by rfl) :
    PE X (.Call (.Attribute o name apos) (e :: es) [] cpos) (tBM K T r to t) := by
  subst hK
  exact Zz pa slot hty hm ho ha hbase hfew hline hs hplain
end L2
namespace PySem
open PySem.Spec
namespace SeqAt
open MeetsSeq
end SeqAt
end PySem
namespace L2
open PySem PySem.Spec PyProof.Rows
section
variable {X : Cx}
end
end L2
namespace L2
open PySem PySem.Spec PyProof.Rows
noncomputable def Ie (K : PySem.W.Frag) : List V -> Hp -> VK -> Prop := fun xs H Q => ∃ (a : Addr) (bs : List Bool), xs = [.ref a] /\ SqL K H a (bs.map V.bl) /\ Q (.bl (bs.all id)) H
section
variable {X : Cx}
theorem E8 : ∀ (bs : List Bool), ((List.range bs.length).all fun i => (bs[i]?).getD true) = bs.all id := fun bs => by
  rw [Bool.eq_iff_iff, List.all_eq_true, List.all_eq_true]
  constructor
  · intro h b hb
    obtain ⟨i, hi, rfl⟩ := List.getElem_of_mem hb
    have := h i (List.mem_range.mpr hi)
    simpa [List.getElem?_eq_getElem hi] using this
  · intro h i hi
    have hi' := List.mem_range.mp hi
    simpa [List.getElem?_eq_getElem hi'] using h _ (List.getElem_mem hi')
theorem U6 (hc : X.calm = true) : Qi X (.builtin "all") (Ie X.K) := by
  intro pins s σ H xs us Q I r h
  obtain ⟨a, bs, rfl, hq, q⟩ := h
  obtain ⟨u, rfl, ru⟩ := GR r
  cases ru
  obtain ⟨its, rv, pl, hz⟩ := I.list hq
  have hlen : bs.length = its.length := by have := rv.length; rwa [List.length_map] at this
  have hlt : a < s.heap.objs.size := by obtain ⟨o, n, ho, _⟩ := pl; exact Heap.lt_size ho
  refine call_all_walk (wpAny_pyIter_list pl.isList ?_)
  refine ⟨s.heap.objs.size, [s.heap.objs.size, a], [s.heap.objs.size], its.toArray.size, _, _, fun i => (bs[i]?).getD true, rfl, Walks.list (A := X.A.in1) (I.ok.hd hc) _ a (Nat.ne_of_lt hlt) its.toArray,
    ⟨⟨_, Heap.get?_push_size _ rfl, rfl, rfl⟩, pl.isList.at fun o e => Heap.get?_push_of_some _ e⟩, fun i v s' Q' E' hP hQ => ?_, fun h' tk hk => ?_⟩
  · have hv' : its[i]? = some v := by simpa using hP
    obtain ⟨x, ex, rx⟩ := V8 rv hv'
    rw [List.getElem?_map] at ex
    cases e : bs[i]? with
    | none => rw [e] at ex; cases ex
    | some z =>
      rw [e] at ex
      have ex' : V.bl z = x := Option.some.inj ex
      subst ex'
      cases rx
      simp only [e, Option.getD_some] at hQ
      exact wpAny_truthy_bool hQ
  · have e : ((List.range its.toArray.size).all fun i => (bs[i]?).getD true) = bs.all id := by
      rw [List.size_toArray, ← hlen]; exact E8 bs
    rw [e]
    have I2 : Inv X pins σ H { s with heap := h', toks := tk } := I.kept (t' := tk) fun b o e => hk b o (fun hm => by
      rw [List.mem_singleton.mp hm] at e
      exact absurd (Heap.lt_size e) (Nat.lt_irrefl _)) (Heap.get?_push_of_some _ e)
    exact ⟨.bl (bs.all id), H, I2, rfl, q⟩
end
end L2
namespace L2
open PySem PySem.Spec PyProof.Rows
section
variable {X : Cx} {α : Type} [DecidableEq α] {r : Enc α} {d : Nat}
end
section
variable {X : Cx}
end
section
variable {X : Cx}
variable {T : String} {name : Str} {id : String} {r : V -> List V -> Hp -> VK -> Prop} {o e : Expr} {es : List Expr} {to : TE} {t : TA} {apos cpos : Pos}
theorem Bj {K : PySem.W.Frag} (hK : X.K = K) (pa : PlainAttrs T) (slot : Slot T name id) (hty : typeOf (.builtin id) = pure (.type "method_descriptor")) (hm : MtR X id r) (ho : PE X o to) (ha : PA X (e :: es) t)
    (hbase : attributeBase o name X.env (eval o X.env) = eval o X.env := by rfl)
    (hfew : ((backTo cpos (starEach (e :: es) X.env)).all (fun x => !x.1) && (backToKw cpos (keywordEach [] X.env)).all (fun x => x.1.isSome)
      && decide ((e :: es).length + ([] : List Keyword).length + (if ([] : List Keyword).isEmpty then 0 else 1) < 30)) = true := by rfl)
    (hline : (apos.endLine == cpos.line) = true := by rfl) (hs : starEach (e :: es) X.env = (false, eval e X.env) :: starEach es X.env := by rfl) (hplain : (backTo cpos (starEach es X.env)).any (·.1) = false := by rfl) :
    PE X (.Call (.Attribute o name apos) (e :: es) [] cpos) (tBM K T r to t) := EY K hK pa slot hty hm ho ha hbase hfew hline hs hplain
end
section
variable {X : Cx} {elt tg iter : Expr} {ifs : List Expr} {scope : Scope} {pos : Pos} {wi : TI} {g : TG} {tt : TT} {te : TE}
theorem ZJ {sc : Scope} {N0 : List Str} {tns : List Str} {caps : List (Nat × Str)} (hc : X.calm = true) (hi : PI X tg iter wi) (hG : Kx tns.length g)
    (hb : ∀ cl C s H ex E, PG (X.comp (tns ++ caps.map (·.2)) scope cl C s H ex E) tg g /\ PTs (X.comp (tns ++ caps.map (·.2)) scope cl C s H ex E) ifs tt /\ PE (X.comp (tns ++ caps.map (·.2)) scope cl C s H ex E) elt te)
    (hsc : X.env.scope = sc := by rfl) (hN0 : X.N = N0 := by rfl) (ok : Vo sc scope N0 tns caps = true := by decide +kernel)
    (hs : ∀ x, foldedSetIterable iter X.env x = pure x := by intro _; rfl) :
    PE X (.ListComp elt [⟨tg, iter, ifs, 0⟩] scope pos) (Dk tns.length caps wi g tt te) := BV sc N0 tns caps hc hi hG hb hsc hN0 ok hs
end
section
variable {X : Cx} {tg l : Expr} {tl : TE} {p pos : Pos} {K : PySem.W.Frag}
theorem XW (h : X.K = K) (hl : PE X l tl) : PI X tg l (Ea K tl) := by subst h; exact BU hl
end
end L2
namespace L2
open PySem PySem.Spec PyProof.Rows
noncomputable def Fe : List Int -> Int
  | [] => 0
  | a :: r => r.foldl max a
theorem Gs (ns : List Int) : ∀ k, k < ns.length -> ns.getD (argBest (fun i j => decide (ns.getD i 0 > ns.getD j 0)) k) 0 = Fe (ns.take (k + 1))
  | 0, h => by
    cases ns with
    | nil => simp at h
    | cons a r => simp [argBest, Fe]
  | k + 1, h => by
    have ih := Gs ns k (by omega)
    have e : Fe (ns.take (k + 1 + 1)) = max (Fe (ns.take (k + 1))) (ns.getD (k + 1) 0) := by
      rw [List.take_succ_eq_append_getElem h]
      cases ns with
      | nil => simp at h
      | cons a r =>
        rw [List.take_succ_cons]
        simp only [Fe, List.cons_append, List.foldl_append, List.foldl_cons, List.foldl_nil]
        rw [List.getD_eq_getElem?_getD, List.getElem?_eq_getElem h]
        rfl
    rw [e, ← ih]
    show ns.getD (if (decide (ns.getD (k + 1) 0 > ns.getD (argBest _ k) 0)) = true then k + 1 else argBest _ k) 0 = _
    by_cases hc : ns.getD (k + 1) 0 > ns.getD (argBest (fun i j => decide (ns.getD i 0 > ns.getD j 0)) k) 0
    · rw [if_pos (by simpa using hc)]; omega
    · rw [if_neg (by simpa using hc)]; omega
section
variable {X : Cx}
theorem Ca {its : List Value} {ns : List Int} (rv : Yl (ns.map V.int) its) : ∀ (i : Nat) (v : Value), its.toArray[i]? = some v -> ∃ t, v = Value.int (ns.getD i 0) t := fun i v hv => by
  have hv' : its[i]? = some v := by simpa using hv
  obtain ⟨x, ex, rx⟩ := V8 rv hv'
  rw [List.getElem?_map] at ex
  cases e : ns[i]? with
  | none => rw [e] at ex; cases ex
  | some z =>
    rw [e] at ex
    have ex' : V.int z = x := Option.some.inj ex
    subst ex'
    obtain ⟨t, rfl⟩ := rx
    exact ⟨t, by simp [List.getD, e]⟩
noncomputable def E2 (K : PySem.W.Frag) (f : List Int -> Int) : List V -> Hp -> VK -> Prop := fun xs H Q => ∃ (a : Addr) (ns : List Int), xs = [.ref a] /\ SqT K H a (ns.map V.int) /\ 0 < ns.length /\ Q (.int (f ns)) H
theorem F8 (K : PySem.W.Frag) (hK : X.K = K) (hc : X.calm = true) : Qi X (.builtin "max") (E2 K Fe) := by
  subst hK
  intro pins s σ H xs us Q I r h
  obtain ⟨a, ns, rfl, hq, hne, q⟩ := h
  obtain ⟨u, rfl, ru⟩ := GR r
  cases ru
  obtain ⟨its, rv, pl, hz⟩ := I.tuple hq
  have hlen : its.length = ns.length := by have := rv.length; simpa using this.symm
  have hlt : a < s.heap.objs.size := by obtain ⟨o, ho, _⟩ := pl; exact Heap.lt_size ho
  refine call_max_walk (wpAny_pyIter_tuple pl ?_)
  refine ⟨s.heap.objs.size, _, _, _, _, _, _, rfl, Walks.tuple (prog := X.prog) (w := X.w) (A := X.A.in1) (I.ok.hd hc) s.heap.objs.size a (Nat.ne_of_lt hlt) its.toArray, ⟨⟨_, Heap.get?_push_size _ rfl, rfl, rfl⟩, (show s.heap.IsTuple a its.toArray from pl).at fun o e => Heap.get?_push_of_some _ e⟩, fun b hb => ?_, by rw [List.size_toArray, hlen]; exact hne, CmpOf.ints_gt (fun i => ns.getD i 0) (Ca rv), fun v h' tk hP hk => ?_⟩
  · rcases List.mem_cons.mp hb with e | hb
    · rw [e, Heap.size_push]; exact Nat.lt_succ_self _
    · rw [List.mem_singleton.mp hb, Heap.size_push]; exact Nat.lt_succ_of_lt hlt
  · have I2 : Inv X pins σ H { s with heap := h', toks := tk } := I.kept (t' := tk) fun b o e => hk b o (fun hm => by
      rw [List.mem_singleton.mp hm] at e
      exact absurd (Heap.lt_size e) (Nat.lt_irrefl _)) (Heap.get?_push_of_some _ e)
    obtain ⟨t, rfl⟩ := Ca rv _ _ hP
    refine ⟨.int (Fe ns), H, I2, ⟨t, ?_⟩, q⟩
    rw [List.size_toArray, hlen, Gs ns (ns.length - 1) (by omega), show ns.length - 1 + 1 = ns.length by omega, List.take_length]
theorem Bu (K : PySem.W.Frag) (h : X.K = K) : SlR X (Ib K) := by subst h; exact Hj
end
end L2
namespace L2
open PySem PySem.Spec PyProof.Rows
inductive Pay where
  | non | int (i : Int) | tag (t : Str) (xs : List Int)
  deriving DecidableEq
structure Exc where
  cls : Str
  pay : Pay
inductive Res (α : Type) where
  | bad | err (x : Exc) | ok (a : α)
noncomputable def Res.bind {α β : Type} : Res α -> (α -> Res β) -> Res β
  | .bad, _ => .bad
  | .err x, _ => .err x
  | .ok a, f => f a
theorem Res.ok_bind {α β : Type} (a : α) (f : α -> Res β) : (Res.ok a).bind f = f a := rfl
noncomputable def chk {α : Type} (c : Prop) [Decidable c] (m : Res α) : Res α := if c then m else .bad
theorem Xy {α : Type} {c : Prop} [Decidable c] {m : Res α} (h : c) : chk c m = m := if_pos h
noncomputable abbrev XL := Addr × HO
noncomputable def EI : HO -> Bool
  | .lst _ => true
  | .dK _ => true
  | .dT _ => true
  | _ => false
noncomputable def fl (OO : List (List XL)) : List Addr := OO.flatten.map (·.1)
open Classical in
noncomputable def hid (H : Hp) (OO : List (List XL)) : Hp := fun b => if b ∈ fl OO then none else H b
structure W (OO : List (List XL)) (H : Hp) : Prop where
  tr : ∀ c ∈ OO.flatten, H c.1 = some c.2
  nd : (fl OO).Nodup
  mu : ∀ c ∈ OO.flatten, EI c.2 = true
theorem Yv {H : Hp} {OO} {b : Addr} {o : HO} (h : hid H OO b = some o) : H b = some o /\ b ∉ fl OO := by
  unfold hid at h
  split at h
  · cases h
  · exact ⟨h, by assumption⟩
theorem ZQ {H : Hp} {OO} {b : Addr} {o : HO} (h : H b = some o) (n : b ∉ fl OO) : hid H OO b = some o := by
  unfold hid; rw [if_neg n]; exact h
theorem XS {H : Hp} {OO} : XC (hid H OO) H := fun b o h => (Yv h).1
theorem Xl {H H' : Hp} {OO} (s : XC H H') : XC (hid H OO) (hid H' OO) := fun b o h => ZQ (s _ _ (Yv h).1) (Yv h).2
theorem Jo {H H' : Hp} {OO OO'} (s : XC H H') (h : ∀ b, b ∈ fl OO' -> b ∈ fl OO) : XC (hid H OO) (hid H' OO') := fun b o q => ZQ (s _ _ (Yv q).1) fun z => (Yv q).2 (h b z)
theorem YB {C : List XL} {OO} : fl (C :: OO) = C.map (·.1) ++ fl OO := by simp [fl]
theorem Fi {OO} : fl ([] :: OO) = fl OO := by simp [fl]
theorem Zl {H : Hp} {OO} : hid H ([] :: OO) = hid H OO := by unfold hid; rw [Fi]
theorem W.keep {OO} {H H' : Hp} (w : W OO H) (s : XC H H') : W OO H' := ⟨fun c hc => s _ _ (w.tr c hc), w.nd, w.mu⟩
theorem W.of {OO OO' : List (List XL)} {H : Hp} (w : W OO H) (h : OO'.flatten.Perm OO.flatten) : W OO' H :=
  ⟨fun c hc => w.tr c (h.mem_iff.mp hc), (h.map _).nodup_iff.mpr w.nd, fun c hc => w.mu c (h.mem_iff.mp hc)⟩
theorem W.sub {OO OO' : List (List XL)} {H : Hp} (w : W OO H) (h : OO'.flatten.Sublist OO.flatten) : W OO' H :=
  ⟨fun c hc => w.tr c (h.mem hc), (h.map _).nodup w.nd, fun c hc => w.mu c (h.mem hc)⟩
theorem W.tail {C OO} {H : Hp} (w : W (C :: OO) H) : W OO H := w.sub (by simp)
theorem W.nil {OO} {H : Hp} (w : W OO H) : W ([] :: OO) H := w.of (by simp)
theorem W.cell {C OO} {H : Hp} (w : W (C :: OO) H) : ∀ c ∈ C, H c.1 = some c.2 := fun c hc => w.tr c (by simp [hc])
theorem VH {OO : List (List XL)} {c : XL} (h : c ∈ OO.flatten) : c.1 ∈ fl OO := List.mem_map.mpr ⟨c, h, rfl⟩
theorem DB {OO : List (List XL)} {b : Addr} (h : b ∈ fl OO) : ∃ o, (b, o) ∈ OO.flatten := by
  obtain ⟨⟨a, o⟩, hc, rfl⟩ := List.mem_map.mp h
  exact ⟨o, hc⟩
theorem W.fresh {OO} {H : Hp} (w : W OO H) {p : Addr} (h : H p = none) : p ∉ fl OO := fun z => by
  obtain ⟨o, ho⟩ := DB z
  have := w.tr _ ho
  rw [h] at this; cases this
theorem W.new {OO} {H : Hp} (w : W OO H) {p : Addr} (h : H p = none) {o : HO} (m : EI o = true) : W ([(p, o)] :: OO) (upd H p o) := by
  have hf := w.fresh h
  refine ⟨fun c hc => ?_, ?_, fun c hc => ?_⟩
  · simp only [List.flatten_cons, List.cons_append, List.nil_append, List.mem_cons] at hc
    rcases hc with rfl | hc
    · exact YQ
    · rw [XR (fun e => hf (by rw [← e]; exact VH hc))]; exact w.tr c hc
  · rw [YB]; simpa using ⟨hf, w.nd⟩
  · simp only [List.flatten_cons, List.cons_append, List.nil_append, List.mem_cons] at hc
    rcases hc with rfl | hc
    · exact m
    · exact w.mu c hc
theorem Ua {OO} {H : Hp} {p : Addr} (h : H p = none) {o : HO} : XC (hid H OO) (hid (upd H p o) ([(p, o)] :: OO)) := fun b u q => by
  obtain ⟨q1, q2⟩ := Yv q
  have hb : b ≠ p := XT q1 h
  refine ZQ (by rw [XR hb]; exact q1) ?_
  rw [YB]; simpa using ⟨hb, q2⟩
theorem QP {OO} {H : Hp} (w : W OO H) {p : Addr} (h : H p = none) {o : HO} : hid (upd H p o) OO p = some o := ZQ YQ (w.fresh h)
class MonoE {α : Type} (r : Enc α) : Prop where
  mono : ∀ {K : PySem.W.Frag} {H H' : Hp} {v : V} {a : α}, XC H H' -> r K H v a -> r K H' v a
noncomputable def Ii : HO -> Bool
  | .tup _ => true
  | .frz _ _ => true
  | _ => false
noncomputable def JI (H H' : Hp) : Prop := ∀ b o, H b = some o -> Ii o = true -> H' b = some o
theorem XC.i {H H' : Hp} (s : XC H H') : JI H H' := fun b o h _ => s b o h
theorem W.i {OO} {H : Hp} (w : W OO H) : JI H (hid H OO) := fun b o h i => ZQ h fun z => by
  obtain ⟨u, hu⟩ := DB z
  have h1 := w.tr _ hu
  have h2 := w.mu _ hu
  rw [h] at h1
  have e : o = u := Option.some.inj h1
  subst e
  revert i h2; cases o <;> simp [Ii, EI]
theorem JI.trans {H H1 H2 : Hp} (a : JI H H1) (b : JI H1 H2) : JI H H2 := fun c o h i => b c o (a c o h i) i
class FlatE {α : Type} (r : Enc α) : Prop where
  flat : ∀ {K : PySem.W.Frag} {H H' : Hp} {v : V} {a : α}, JI H H' -> r K H v a -> r K H' v a
instance {α : Type} {r : Enc α} [f : FlatE r] : MonoE r := ⟨fun s h => f.flat s.i h⟩
theorem JI.seqT {K : PySem.W.Frag} {H H' : Hp} {a : Addr} {xs : List V} (e : JI H H') (h : SqT K H a xs) : SqT K H' a xs := by
  rcases h with (h | ⟨o, h⟩) | h
  · exact .inl (.inl (e _ _ h rfl))
  · exact .inl (.inr ⟨o, e _ _ h rfl⟩)
  · exact .inr h
noncomputable def X7 : Enc Bool := fun _ _ v b => v = .bl b
noncomputable def rV {α : Type} (r : Enc α) : Enc (List α) := fun K H v as => ∃ a xs, v = .ref a /\ H a = some (.lst xs) /\ Paired (r K H) xs as
noncomputable def rPL {α : Type} (r : Enc α) : Enc (List α) := fun K H v as => ∃ a xs, v = .ref a /\ H a = some (.tup xs) /\ Paired (r K H) xs as
noncomputable def rP2 {α β : Type} (r : Enc α) (q : Enc β) : Enc (α × β) := fun K H v p => ∃ a x y, v = .ref a /\ H a = some (.tup [x, y]) /\ r K H x p.1 /\ q K H y p.2
noncomputable def rP3 {α β γ : Type} (r : Enc α) (q : Enc β) (t : Enc γ) : Enc (α × β × γ) := fun K H v p => ∃ a x y z, v = .ref a /\ H a = some (.tup [x, y, z]) /\ r K H x p.1 /\ q K H y p.2.1 /\ t K H z p.2.2
instance {α : Type} {r : Enc α} [m : MonoE r] : MonoE (rV r) := ⟨fun s h9 => (by obtain ⟨a, xs, e, q, p⟩ := h9; exact ⟨a, xs, e, s _ _ q, Paired.imp2 (fun _ _ z => m.mono s z) p⟩)⟩
instance {α : Type} {r : Enc α} [m : MonoE r] : MonoE (rPL r) := ⟨fun s h9 => (by obtain ⟨a, xs, e, q, p⟩ := h9; exact ⟨a, xs, e, s _ _ q, Paired.imp2 (fun _ _ z => m.mono s z) p⟩)⟩
instance {α : Type} {r : Enc α} [m : FlatE r] : FlatE (rPL r) := ⟨fun s h9 => (by obtain ⟨a, xs, e, q, p⟩ := h9; exact ⟨a, xs, e, s _ _ q rfl, Paired.imp2 (fun _ _ z => m.flat s z) p⟩)⟩
instance {α β : Type} {r : Enc α} {q : Enc β} [m : MonoE r] [n : MonoE q] : MonoE (rP2 r q) := ⟨fun s h9 => (by obtain ⟨a, x, y, e, h, p1, p2⟩ := h9; exact ⟨a, x, y, e, s _ _ h, m.mono s p1, n.mono s p2⟩)⟩
instance {α β : Type} {r : Enc α} {q : Enc β} [m : FlatE r] [n : FlatE q] : FlatE (rP2 r q) := ⟨fun s h9 => (by obtain ⟨a, x, y, e, h, p1, p2⟩ := h9; exact ⟨a, x, y, e, s _ _ h rfl, m.flat s p1, n.flat s p2⟩)⟩
instance {α β γ : Type} {r : Enc α} {q : Enc β} {t : Enc γ} [m : MonoE r] [n : MonoE q] [k : MonoE t] : MonoE (rP3 r q t) := ⟨fun s h9 => (by obtain ⟨a, x, y, z, e, h, p1, p2, p3⟩ := h9; exact ⟨a, x, y, z, e, s _ _ h, m.mono s p1, n.mono s p2, k.mono s p3⟩)⟩
instance {α β γ : Type} {r : Enc α} {q : Enc β} {t : Enc γ} [m : FlatE r] [n : FlatE q] [k : FlatE t] : FlatE (rP3 r q t) := ⟨fun s h9 => (by obtain ⟨a, x, y, z, e, h, p1, p2, p3⟩ := h9; exact ⟨a, x, y, z, e, s _ _ h rfl, m.flat s p1, n.flat s p2, k.flat s p3⟩)⟩
instance : FlatE Xa := ⟨fun _ h => h⟩
instance : FlatE X7 := ⟨fun _ h => h⟩
instance {α : Type} {r : Enc α} [m : MonoE r] : MonoE (rL r) := ⟨fun s h9 => (by obtain ⟨a, xs, e, q, p⟩ := h9; exact ⟨a, xs, e, s.seq q, Paired.imp2 (fun _ _ z => m.mono s z) p⟩)⟩
noncomputable abbrev OE (α : Type) := PySem.W.Frag -> Hp -> V -> α -> List XL -> Prop
inductive P3 {α β γ : Type} (F : α -> β -> γ -> Prop) : List α -> List β -> List γ -> Prop where
  | nil : P3 F [] [] []
  | cons {a b c l m n} : F a b c -> P3 F l m n -> P3 F (a :: l) (b :: m) (c :: n)
noncomputable def oF {α : Type} (r : Enc α) : OE α := fun K h v a C => C = [] /\ r K h v a
noncomputable def oL {α : Type} (o : OE α) : OE (List α) := fun K h v as C => ∃ p xs Cs, v = .ref p /\ P3 (o K h) xs as Cs /\ C = (p, .lst xs) :: Cs.flatten
noncomputable def oT2 {α β : Type} (o : OE α) (q : OE β) : OE (α × β) := fun K h v a C => ∃ p x y C1 C2, v = .ref p /\ h p = some (.tup [x, y]) /\ o K h x a.1 C1 /\ q K h y a.2 C2 /\ C = C1 ++ C2
section
variable {α β γ δ : Type}
theorem P3.imp {F G : α -> β -> γ -> Prop} (h : ∀ a b c, F a b c -> G a b c) : ∀ {l m n}, P3 F l m n -> P3 G l m n := fun p => by
  induction p with
  | nil => exact .nil
  | cons r _ ih => exact .cons (h _ _ _ r) ih
theorem P3.app {F : α -> β -> γ -> Prop} : ∀ {l m n l' m' n'}, P3 F l m n -> P3 F l' m' n' -> P3 F (l ++ l') (m ++ m') (n ++ n') := fun p h => by
  induction p with
  | nil => exact h
  | cons r _ ih => exact .cons r ih
theorem P3.snoc {F : α -> β -> γ -> Prop} {l m n a b c} (h : P3 F l m n) (r : F a b c) : P3 F (l ++ [a]) (m ++ [b]) (n ++ [c]) := h.app (.cons r .nil)
theorem P3.len {F : α -> β -> γ -> Prop} : ∀ {l m n}, P3 F l m n -> l.length = m.length /\ n.length = m.length
  | _, _, _, .nil => ⟨rfl, rfl⟩
  | _, _, _, .cons _ t => by simp [(P3.len t).1, (P3.len t).2]
theorem P3.pair {F : α -> β -> γ -> Prop} {G : α -> β -> Prop} : ∀ {l m n}, P3 F l m n -> (∀ a b c, c ∈ n -> F a b c -> G a b) -> Paired G l m := fun p h => by
  induction p with
  | nil => exact .nil
  | cons r _ ih => exact .cons (h _ _ _ List.mem_cons_self r) (ih fun a b c hc => h a b c (List.mem_cons_of_mem _ hc))
theorem P3.get {F : α -> β -> γ -> Prop} : ∀ {l m n} {i : Nat} {b : β}, P3 F l m n -> m[i]? = some b -> ∃ a c, l[i]? = some a /\ n[i]? = some c /\ F a b c
  | _, _, _, _, _, .nil, e => by simp at e
  | _, _, _, 0, _, .cons r _, e => by simp at e; subst e; exact ⟨_, _, rfl, rfl, r⟩
  | _, _, _, i + 1, b, .cons _ t, e => by
    obtain ⟨a, c, h1, h2, h3⟩ := P3.get (i := i) (b := b) t (by simpa using e)
    exact ⟨a, c, by simpa using h1, by simpa using h2, h3⟩
theorem P3.set {F : α -> β -> γ -> Prop} {a : α} {b : β} {c : γ} (r : F a b c) : ∀ {l m n} (i : Nat), P3 F l m n -> P3 F (l.set i a) (m.set i b) (n.set i c)
  | _, _, _, _, .nil => .nil
  | _, _, _, 0, .cons _ t => .cons r t
  | _, _, _, i + 1, .cons q t => .cons q (P3.set r i t)
theorem P3.flat {F : α -> β -> Prop} : ∀ {l : List α} {m : List β} {n : List (List XL)}, P3 (fun a b c => c = [] /\ F a b) l m n -> Paired F l m /\ n.flatten = [] := fun p => by
  induction p with
  | nil => exact ⟨.nil, rfl⟩
  | cons r _ ih => exact ⟨.cons r.2 ih.1, by rw [List.flatten_cons, r.1, ih.2]; rfl⟩
theorem P3.of {F : α -> β -> Prop} : ∀ {l : List α} {m : List β}, Paired F l m -> P3 (fun a b (c : List XL) => c = [] /\ F a b) l m (List.replicate m.length [])
  | _, _, .nil => .nil
  | _, _, .cons r t => .cons ⟨rfl, r⟩ (P3.of t)
theorem YJ : ∀ n : Nat, (List.replicate n ([] : List XL)).flatten = []
  | 0 => rfl
  | n + 1 => by simp [List.replicate_succ, YJ n]
end
class MonoO {α : Type} (o : OE α) : Prop where
  mono : ∀ {K : PySem.W.Frag} {H H' : Hp} {v : V} {a : α} {C : List XL}, XC H H' -> o K H v a C -> o K H' v a C
class FlatO {α : Type} (o : OE α) : Prop where
  flat : ∀ {K : PySem.W.Frag} {H H' : Hp} {v : V} {a : α} {C : List XL}, JI H H' -> o K H v a C -> o K H' v a C
class FrzC {α : Type} (o : OE α) (r : outParam (Enc α)) : Prop where
  frz : ∀ {K : PySem.W.Frag} {H H' : Hp} {v : V} {a : α} {C : List XL}, o K H v a C -> XC H H' -> (∀ c ∈ C, H' c.1 = some c.2) -> r K H' v a
instance {α : Type} {r : Enc α} [m : MonoE r] : MonoO (oF r) := ⟨fun s h => ⟨h.1, m.mono s h.2⟩⟩
instance {α : Type} {r : Enc α} [m : FlatE r] : FlatO (oF r) := ⟨fun s h => ⟨h.1, m.flat s h.2⟩⟩
instance {α : Type} {r : Enc α} [m : MonoE r] : FrzC (oF r) r := ⟨fun h s _ => m.mono s h.2⟩
instance {α : Type} {o : OE α} [m : MonoO o] : MonoO (oL o) := ⟨fun s h9 => (by obtain ⟨p, xs, Cs, e, q, c⟩ := h9; exact ⟨p, xs, Cs, e, q.imp fun _ _ _ z => m.mono s z, c⟩)⟩
instance {α : Type} {o : OE α} [m : FlatO o] : FlatO (oL o) := ⟨fun s h9 => (by obtain ⟨p, xs, Cs, e, q, c⟩ := h9; exact ⟨p, xs, Cs, e, q.imp fun _ _ _ z => m.flat s z, c⟩)⟩
instance {α : Type} {o : OE α} {r : Enc α} [m : FrzC o r] : FrzC (oL o) (rV r) := ⟨fun ⟨p, xs, Cs, e, q, c⟩ s hc => by
  subst c
  exact ⟨p, xs, e, hc _ List.mem_cons_self, q.pair fun a b c hm z => m.frz z s fun x hx => hc x (List.mem_cons_of_mem _ (List.mem_flatten.mpr ⟨c, hm, hx⟩))⟩⟩
instance {α β : Type} {o : OE α} {q : OE β} [m : MonoO o] [n : MonoO q] : MonoO (oT2 o q) := ⟨fun s h9 => (by obtain ⟨p, x, y, C1, C2, e, h, h1, h2, c⟩ := h9; exact ⟨p, x, y, C1, C2, e, s _ _ h, m.mono s h1, n.mono s h2, c⟩)⟩
instance {α β : Type} {o : OE α} {q : OE β} [m : FlatO o] [n : FlatO q] : FlatO (oT2 o q) := ⟨fun s h9 => (by obtain ⟨p, x, y, C1, C2, e, h, h1, h2, c⟩ := h9; exact ⟨p, x, y, C1, C2, e, s _ _ h rfl, m.flat s h1, n.flat s h2, c⟩)⟩
instance {α β : Type} {o : OE α} {q : OE β} {r : Enc α} {t : Enc β} [m : FrzC o r] [n : FrzC q t] : FrzC (oT2 o q) (rP2 r t) := ⟨fun ⟨p, x, y, C1, C2, e, h, h1, h2, c⟩ s hc => by
  subst c
  exact ⟨p, x, y, e, s _ _ h, m.frz h1 s fun c hm => hc c (by simp [hm]), n.frz h2 s fun c hm => hc c (by simp [hm])⟩⟩
structure SC where
  p : Hp -> Prop
  mono : ∀ h h', XC h h' -> p h -> p h'
noncomputable def SC.nil : SC := ⟨fun _ => True, fun _ _ _ _ => True.intro⟩
noncomputable def SC.and (S T : SC) : SC := ⟨fun h => S.p h /\ T.p h, fun _ _ s q => ⟨S.mono _ _ s q.1, T.mono _ _ s q.2⟩⟩
noncomputable def SC.one {α : Type} (K : PySem.W.Frag) (r : Enc α) [m : MonoE r] (v : V) (a : α) : SC := ⟨fun h => r K h v a, fun _ _ s q => m.mono s q⟩
noncomputable def SC.oneO {α : Type} (K : PySem.W.Frag) (o : OE α) [m : MonoO o] (v : V) (a : α) (C : List XL) : SC := ⟨fun h => o K h v a C, fun _ _ s q => m.mono s q⟩
noncomputable abbrev SC.add {α : Type} (S : SC) (K : PySem.W.Frag) (r : Enc α) [m : MonoE r] (v : V) (a : α) : SC := S.and (SC.one K r v a)
noncomputable abbrev SC.addO {α : Type} (S : SC) (K : PySem.W.Frag) (o : OE α) [m : MonoO o] (v : V) (a : α) (C : List XL) : SC := S.and (SC.oneO K o v a C)
theorem SC.l {S T : SC} {h : Hp} (q : (S.and T).p h) : S.p h := q.1
theorem SC.r {S T : SC} {h : Hp} (q : (S.and T).p h) : T.p h := q.2
theorem SC.i {S T : SC} {h : Hp} (q : S.p h) (p : T.p h) : (S.and T).p h := ⟨q, p⟩
theorem SC.t {h : Hp} : SC.nil.p h := True.intro
noncomputable def PZ {β : Type} (Er : Exc -> Hp -> Prop) (F : β -> Hp -> Prop) (H : Hp) (m : Res β) : Prop :=
  match m with
  | .bad => False
  | .err x => ∀ H', XC H H' -> Er x H'
  | .ok b => F b H
section
variable (K : PySem.W.Frag) (Er : Exc -> Hp -> Prop) (S : SC) (OO OO' : List (List XL)) (σ : St)
noncomputable def FB {α : Type} (r : Enc α) (Q : VK) (a : α) (H : Hp) : Prop := ∀ v H', XC H H' -> r K H' v a -> Q v H'
noncomputable def FO {α : Type} (o : OE α) (Q : VK) (a : α) (H : Hp) : Prop := ∀ v C H', XC H H' -> W (C :: OO') H' -> XC (hid H OO) (hid H' (C :: OO')) -> o K (hid H' (C :: OO')) v a C -> Q v H'
noncomputable def FT (Q : Bool -> Hp -> Prop) (b : Bool) (H : Hp) : Prop := ∀ H', XC H H' -> Q b H'
noncomputable def EvB {α : Type} (te : TE) (r : Enc α) (m : Res α) : Prop := ∀ H Q, W OO H -> S.p (hid H OO) -> PZ Er (FB K r Q) H m -> te σ H Q
noncomputable def Ev {α : Type} (te : TE) (o : OE α) (m : Res α) : Prop := ∀ H Q, W OO H -> S.p (hid H OO) -> PZ Er (FO K OO OO' o Q) H m -> te σ H Q
noncomputable def EvT (tt : TT) (m : Res Bool) : Prop := ∀ H Q, W OO H -> S.p (hid H OO) -> PZ Er (FT Q) H m -> tt σ H Q
end
section
variable {K : PySem.W.Frag} {Er : Exc -> Hp -> Prop} {S : SC} {OO OO' OO2 : List (List XL)} {σ : St} {α β γ : Type}
theorem FB.tr {r : Enc α} {Q : VK} : ∀ a H H', XC H H' -> FB K r Q a H -> FB K r Q a H' := fun a H H' s h v H2 s2 q => h v H2 (s.trans s2) q
theorem FO.tr {o : OE α} {Q : VK} : ∀ a H H', XC H H' -> FO K OO OO' o Q a H -> FO K OO OO' o Q a H' := fun a H H' s h v C H2 s2 w m q => h v C H2 (s.trans s2) w ((Xl s).trans m) q
theorem FT.tr {Q : Bool -> Hp -> Prop} : ∀ b H H', XC H H' -> FT Q b H -> FT Q b H' := fun a H H' s h H2 s2 => h H2 (s.trans s2)
theorem EvB.run {te : TE} {r : Enc α} {m : Res α} (he : EvB K Er S OO σ te r m) {H : Hp} {Q : VK} (w : W OO H) (s : S.p (hid H OO)) {f : α -> Res β} {F : β -> Hp -> Prop} (hF : ∀ b H H', XC H H' -> F b H -> F b H') (P : PZ Er F H (m.bind f))
    (hk : ∀ a v H', XC H H' -> W OO H' -> S.p (hid H' OO) -> r K H' v a -> PZ Er F H' (f a) -> Q v H') : te σ H Q := by
  refine he H Q w s ?_
  cases m with
  | bad => exact P
  | err x => exact P
  | ok a =>
    intro v H' s' hr
    refine hk a v H' s' (w.keep s') (S.mono _ _ (Xl s') s) hr ?_
    have P' : PZ Er F H (f a) := P
    revert P'
    cases f a with
    | bad => exact fun z => z
    | err x => exact fun z H2 s2 => z H2 (s'.trans s2)
    | ok b => exact fun z => hF b H H' s' z
theorem Ev.run {te : TE} {o : OE α} {m : Res α} (he : Ev K Er S OO OO' σ te o m) {H : Hp} {Q : VK} (w : W OO H) (s : S.p (hid H OO)) {f : α -> Res β} {F : β -> Hp -> Prop} (hF : ∀ b H H', XC H H' -> F b H -> F b H') (P : PZ Er F H (m.bind f))
    (hk : ∀ a v C H', XC H H' -> W (C :: OO') H' -> XC (hid H OO) (hid H' (C :: OO')) -> S.p (hid H' (C :: OO')) -> o K (hid H' (C :: OO')) v a C -> PZ Er F H' (f a) -> Q v H') : te σ H Q := by
  refine he H Q w s ?_
  cases m with
  | bad => exact P
  | err x => exact P
  | ok a =>
    intro v C H' s' w' m' ho
    refine hk a v C H' s' w' m' (S.mono _ _ m' s) ho ?_
    have P' : PZ Er F H (f a) := P
    revert P'
    cases f a with
    | bad => exact fun z => z
    | err x => exact fun z H2 s2 => z H2 (s'.trans s2)
    | ok b => exact fun z => hF b H H' s' z
theorem EvT.run {tt : TT} {m : Res Bool} (he : EvT Er S OO σ tt m) {H : Hp} {Q : Bool -> Hp -> Prop} (w : W OO H) (s : S.p (hid H OO)) {f : Bool -> Res β} {F : β -> Hp -> Prop} (hF : ∀ b H H', XC H H' -> F b H -> F b H') (P : PZ Er F H (m.bind f))
    (hk : ∀ b H', XC H H' -> W OO H' -> S.p (hid H' OO) -> PZ Er F H' (f b) -> Q b H') : tt σ H Q := by
  refine he H Q w s ?_
  cases m with
  | bad => exact P
  | err x => exact P
  | ok a =>
    intro H' s'
    refine hk a H' s' (w.keep s') (S.mono _ _ (Xl s') s) ?_
    have P' : PZ Er F H (f a) := P
    revert P'
    cases f a with
    | bad => exact fun z => z
    | err x => exact fun z H2 s2 => z H2 (s'.trans s2)
    | ok b => exact fun z => hF b H H' s' z
theorem Ev.toB {te : TE} {o : OE α} {r : Enc α} [z : FrzC o r] {m : Res α} (he : Ev K Er S OO OO σ te o m) : EvB K Er S OO σ te r m := fun H Q w s P => by
  refine he H Q w s ?_
  cases m with
  | bad => exact P
  | err x => exact P
  | ok a => exact fun v C H' s' w' m' ho => P v H' s' (z.frz ho XS w'.cell)
theorem Ev.frz {te : TE} {o : OE α} {r : Enc α} [z : FrzC o r] {m : Res α} (he : Ev K Er S OO OO' σ te o m) : Ev K Er S OO OO' σ te (oF r) m := fun H Q w s P => by
  refine he H Q w s ?_
  cases m with
  | bad => exact P
  | err x => exact P
  | ok a =>
    intro v C H' s' w' m' ho
    have hs : XC (hid H' (C :: OO')) (hid H' ([] :: OO')) := Jo (XC.refl _) fun b hb => by rw [Fi] at hb; rw [YB]; simp [hb]
    refine P v [] H' s' w'.tail.nil (m'.trans hs) ⟨rfl, z.frz ho hs fun c hc => ZQ (w'.cell c hc) ?_⟩
    rw [Fi]
    have := w'.nd
    rw [YB] at this
    intro hb
    exact (List.nodup_append.mp this).2.2 c.1 (List.mem_map.mpr ⟨c, hc, rfl⟩) c.1 hb rfl
theorem EvB.flat {te : TE} {r : Enc α} [z : FlatE r] {m : Res α} (he : EvB K Er S OO σ te r m) : Ev K Er S OO OO σ te (oF r) m := fun H Q w s P => by
  refine he H Q w s ?_
  cases m with
  | bad => exact P
  | err x => exact P
  | ok a =>
    intro v H' s' hr
    have w' := w.keep s'
    exact P v [] H' s' w'.nil (by rw [Zl]; exact Xl s') ⟨rfl, by rw [Zl]; exact z.flat w'.i hr⟩
theorem Xb {r : Enc α} [z : MonoE r] {v : V} {a : α} (i : Nat) (hσ : σ[i]? = some (some v)) (h : ∀ x, S.p x -> r K x v a) : EvB K Er S OO σ (Uw i) r (.ok a) := fun H Q w s P =>
  ⟨v, hσ, P v H (XC.refl _) (z.mono XS (h _ s))⟩
theorem Zj {o : OE α} {r : Enc α} [z : FrzC o r] {v : V} {a : α} {C : List XL} (i k : Nat) (hσ : σ[i]? = some (some v)) (hk : OO[k]? = some C) (h : ∀ x, S.p x -> o K x v a C) : EvB K Er S OO σ (Uw i) r (.ok a) := fun H Q w s P =>
  ⟨v, hσ, P v H (XC.refl _) (z.frz (h _ s) XS fun c hc => w.tr c (List.mem_flatten.mpr ⟨C, List.mem_of_getElem? hk, hc⟩))⟩
theorem Ye : ∀ {OO : List (List XL)} {k : Nat} {C : List XL}, OO[k]? = some C -> (C :: OO.set k []).flatten.Perm OO.flatten
  | [], _, _, h => by simp at h
  | D :: OO, 0, C, h => by simp at h; subst h; simp
  | D :: OO, k + 1, C, h => by
    have := Ye (OO := OO) (k := k) (C := C) (by simpa using h)
    simp only [List.set_cons_succ, List.flatten_cons] at this ⊢
    refine List.Perm.trans ?_ (this.append_left D)
    rw [← List.append_assoc, ← List.append_assoc]
    exact List.perm_append_comm.append_right _
theorem JZ {OO OO' : List (List XL)} (h : OO'.flatten.Perm OO.flatten) (b : Addr) : b ∈ fl OO' ↔ b ∈ fl OO := (h.map (·.1)).mem_iff
theorem Yy {H : Hp} {OO OO' : List (List XL)} (h : OO'.flatten.Perm OO.flatten) : hid H OO' = hid H OO := by
  funext b; unfold hid
  by_cases hb : b ∈ fl OO
  · rw [if_pos hb, if_pos ((JZ h b).mpr hb)]
  · rw [if_neg hb, if_neg fun z => hb ((JZ h b).mp z)]
theorem Yp {o : OE α} {v : V} {a : α} {C : List XL} (i k : Nat) (hσ : σ[i]? = some (some v)) (hk : OO[k]? = some C) (h : ∀ x, S.p x -> o K x v a C) : Ev K Er S OO (OO.set k []) σ (Uw i) o (.ok a) := fun H Q w s P => by
  have hp := Ye hk
  exact ⟨v, hσ, P v C H (XC.refl _) (w.of hp) (by rw [Yy hp]; exact XC.refl _) (by rw [Yy hp]; exact h _ s)⟩
theorem Xe (n : Int) : EvB K Er S OO σ (tC (.int n)) Xa (.ok n) := fun H Q w s P => P _ H (XC.refl _) rfl
theorem QA (b : Bool) : EvB K Er S OO σ (tC (.bl b)) X7 (.ok b) := fun H Q w s P => P _ H (XC.refl _) rfl
theorem Vc {ta tb : TE} {g : Int -> Int -> V} {r : Enc β} {f : Int -> Int -> β} {ma mb : Res Int} (hg : ∀ K H i j, r K H (g i j) (f i j)) (ha : EvB K Er S OO σ ta Xa ma) (hb : EvB K Er S OO σ tb Xa mb) :
    EvB K Er S OO σ (tOp (rI0 g) ta tb) r (ma.bind fun a => mb.bind fun b => .ok (f a b)) := fun H Q w s P =>
  ha.run w s FB.tr P fun a x H1 s1 w1 q1 r1 P1 => hb.run w1 q1 FB.tr P1 fun b y H2 s2 w2 q2 r2 P2 => ⟨a, b, r1, r2, P2 _ H2 (XC.refl _) (hg K H2 a b)⟩
theorem V4 {ta tb : TE} {Cc : Int -> Int -> Prop} {g : Int -> Int -> V} {r : Enc β} {f : Int -> Int -> Res β} {ma mb : Res Int} (hg : ∀ K H i j c, f i j = .ok c -> Cc i j /\ r K H (g i j) c) (he : ∀ i j x, f i j ≠ .err x)
    (ha : EvB K Er S OO σ ta Xa ma) (hb : EvB K Er S OO σ tb Xa mb) :
    EvB K Er S OO σ (tOp (rI Cc g) ta tb) r (ma.bind fun a => mb.bind fun b => f a b) := fun H Q w s P =>
  ha.run w s FB.tr P fun a x H1 s1 w1 q1 r1 P1 => hb.run w1 q1 FB.tr P1 fun b y H2 s2 w2 q2 r2 P2 => by
    cases e : f a b with
    | bad => rw [e] at P2; exact P2.elim
    | err x => exact absurd e (he a b x)
    | ok c =>
      rw [e] at P2
      obtain ⟨h1, h2⟩ := hg K H2 a b c e
      exact ⟨a, b, r1, r2, h1, P2 _ H2 (XC.refl _) h2⟩
noncomputable def QQ (a b : Int) : Res Int := chk ((-(2 ^ 64) < a /\ a < 2 ^ 64) ∨ (-(2 ^ 64) < b /\ b < 2 ^ 64)) (.ok (a * b))
noncomputable def ZS (a b : Int) : Res Int := chk (0 < b) (.ok (a % b))
noncomputable def Be (a b : Int) : Res Int := chk (0 < b /\ b.natAbs.log2 < 9000) (.ok (a / b))
noncomputable def EF (a b : Int) : Res Int := chk (0 <= b /\ b <= 1000000 /\ a.natAbs < 2 ^ 64) (.ok (a ^ b.toNat))
theorem ZP {c : Prop} [Decidable c] {m : Res α} {a : α} (h : chk c m = .ok a) : c /\ m = .ok a := by
  unfold chk at h; split at h
  · exact ⟨by assumption, h⟩
  · cases h
theorem QT {c : Prop} [Decidable c] {a : α} {x : Exc} : chk c (Res.ok a) ≠ .err x := by
  unfold chk; split <;> exact fun z => nomatch z
theorem Yd {ta tb : TE} {ma mb : Res Int} (ha : EvB K Er S OO σ ta Xa ma) (hb : EvB K Er S OO σ tb Xa mb) : EvB K Er S OO σ (tOp (rI HF fun i j => .int (i * j)) ta tb) Xa (ma.bind fun a => mb.bind fun b => QQ a b) :=
  V4 (fun K H i j c h => by obtain ⟨h1, h2⟩ := ZP h; cases h2; exact ⟨h1, rfl⟩) (fun i j x => QT) ha hb
theorem XM {ta tb : TE} {ma mb : Res Int} (ha : EvB K Er S OO σ ta Xa ma) (hb : EvB K Er S OO σ tb Xa mb) : EvB K Er S OO σ (tOp (rI (fun _ j => 0 < j) fun i j => .int (i % j)) ta tb) Xa (ma.bind fun a => mb.bind fun b => ZS a b) :=
  V4 (fun K H i j c h => by obtain ⟨h1, h2⟩ := ZP h; cases h2; exact ⟨h1, rfl⟩) (fun i j x => QT) ha hb
theorem Vw {ta tb : TE} {ma mb : Res Int} (ha : EvB K Er S OO σ ta Xa ma) (hb : EvB K Er S OO σ tb Xa mb) : EvB K Er S OO σ (tOp (rI (fun _ j => 0 < j /\ j.natAbs.log2 < 9000) fun i j => .int (i / j)) ta tb) Xa (ma.bind fun a => mb.bind fun b => Be a b) :=
  V4 (fun K H i j c h => by obtain ⟨h1, h2⟩ := ZP h; cases h2; exact ⟨h1, rfl⟩) (fun i j x => QT) ha hb
theorem Ui {ta tb : TE} {ma mb : Res Int} (ha : EvB K Er S OO σ ta Xa ma) (hb : EvB K Er S OO σ tb Xa mb) : EvB K Er S OO σ (tOp (rI Ih fun i j => .int (i ^ j.toNat)) ta tb) Xa (ma.bind fun a => mb.bind fun b => EF a b) :=
  V4 (fun K H i j c h => by obtain ⟨h1, h2⟩ := ZP h; cases h2; exact ⟨h1, rfl⟩) (fun i j x => QT) ha hb
theorem XI {ta tb : TE} {ma mb : Res Int} (ha : EvB K Er S OO σ ta Xa ma) (hb : EvB K Er S OO σ tb Xa mb) : EvB K Er S OO σ (tOp (rI0 fun i j => .int (i + j)) ta tb) Xa (ma.bind fun a => mb.bind fun b => .ok (a + b)) := Vc (fun _ _ _ _ => rfl) ha hb
theorem Y6 {ta tb : TE} {ma mb : Res Int} (ha : EvB K Er S OO σ ta Xa ma) (hb : EvB K Er S OO σ tb Xa mb) : EvB K Er S OO σ (tOp (rI0 fun i j => .int (i - j)) ta tb) Xa (ma.bind fun a => mb.bind fun b => .ok (a - b)) := Vc (fun _ _ _ _ => rfl) ha hb
theorem Zy {ta tb : TE} {ma mb : Res Int} (ha : EvB K Er S OO σ ta Xa ma) (hb : EvB K Er S OO σ tb Xa mb) : EvB K Er S OO σ (tOp (rI0 fun i j => .bl (decide (i < j))) ta tb) X7 (ma.bind fun a => mb.bind fun b => .ok (decide (a < b))) := Vc (fun _ _ _ _ => rfl) ha hb
theorem Jz {ta tb : TE} {ma mb : Res Int} (ha : EvB K Er S OO σ ta Xa ma) (hb : EvB K Er S OO σ tb Xa mb) : EvB K Er S OO σ (tOp (rI0 fun i j => .bl (decide (j < i))) ta tb) X7 (ma.bind fun a => mb.bind fun b => .ok (decide (b < a))) := Vc (fun _ _ _ _ => rfl) ha hb
theorem FK {ta tb : TE} {ma mb : Res Int} (ha : EvB K Er S OO σ ta Xa ma) (hb : EvB K Er S OO σ tb Xa mb) : EvB K Er S OO σ (tOp (rI0 fun i j => .bl (decide (j <= i))) ta tb) X7 (ma.bind fun a => mb.bind fun b => .ok (decide (b <= a))) := Vc (fun _ _ _ _ => rfl) ha hb
theorem ZC {ta : TE} {ma : Res Int} (ha : EvB K Er S OO σ ta Xa ma) : EvB K Er S OO σ (tUn (rU fun i => .int (-i)) ta) Xa (ma.bind fun a => .ok (-a)) := fun H Q w s P =>
  ha.run w s FB.tr P fun a x H1 s1 w1 q1 r1 P1 => ⟨a, r1, P1 _ H1 (XC.refl _) rfl⟩
class Scal {α : Type} [DecidableEq α] (r : Enc α) : Prop where
  to : ∀ {K : PySem.W.Frag} {H H' : Hp} {x y : V} {a b : α}, r K H x a -> r K H' y b -> HZ x y = true /\ decide (x = y) = decide (a = b)
instance : Scal Xa := ⟨fun {K H H' x y a b} h1 h2 => by cases (show x = .int a from h1); cases (show y = .int b from h2); exact ⟨rfl, by simp⟩⟩
instance : Scal X7 := ⟨fun {K H H' x y a b} h1 h2 => by cases (show x = .bl a from h1); cases (show y = .bl b from h2); exact ⟨rfl, by simp⟩⟩
theorem YH [DecidableEq α] {r : Enc α} [z : Scal r] [MonoE r] {ta tb : TE} {ma mb : Res α} (ha : EvB K Er S OO σ ta r ma) (hb : EvB K Er S OO σ tb r mb) : EvB K Er S OO σ (tOp rEq ta tb) X7 (ma.bind fun a => mb.bind fun b => .ok (decide (a = b))) := fun H Q w s P =>
  ha.run w s FB.tr P fun a x H1 s1 w1 q1 r1 P1 => hb.run w1 q1 FB.tr P1 fun b y H2 s2 w2 q2 r2 P2 => by
    obtain ⟨h1, h2⟩ := z.to r1 r2
    exact ⟨h1, P2 _ H2 (XC.refl _) (by rw [h2]; rfl)⟩
theorem UT [DecidableEq α] {r : Enc α} [z : Scal r] [MonoE r] {ta tb : TE} {ma mb : Res α} (ha : EvB K Er S OO σ ta r ma) (hb : EvB K Er S OO σ tb r mb) : EvB K Er S OO σ (tOp rNe ta tb) X7 (ma.bind fun a => mb.bind fun b => .ok (!decide (a = b))) := fun H Q w s P =>
  ha.run w s FB.tr P fun a x H1 s1 w1 q1 r1 P1 => hb.run w1 q1 FB.tr P1 fun b y H2 s2 w2 q2 r2 P2 => by
    obtain ⟨h1, h2⟩ := z.to r1 r2
    exact ⟨h1, P2 _ H2 (XC.refl _) (by rw [h2]; rfl)⟩
theorem KO [DecidableEq α] {r : Enc α} [z : MonoE r] {ta tb : TE} {ma mb : Res α} (ha : EvB K Er S OO σ ta r ma) (hb : EvB K Er S OO σ tb r mb) : EvB K Er S OO σ (tOp (Im K r) ta tb) X7 (ma.bind fun a => mb.bind fun b => .ok (!decide (a = b))) := fun H Q w s P =>
  ha.run w s FB.tr P fun a x H1 s1 w1 q1 r1 P1 => hb.run w1 q1 FB.tr P1 fun b y H2 s2 w2 q2 r2 P2 => ⟨a, b, z.mono s2 r1, r2, P2 _ H2 (XC.refl _) rfl⟩
theorem GC {te : TE} {m : Res Bool} (h : EvB K Er S OO σ te X7 m) : EvT Er S OO σ (tB te) m := fun H Q w s P => h H _ w s (by
  cases m with
  | bad => exact P
  | err x => exact P
  | ok a => exact fun v H' s' r => ⟨a, r, P H' s'⟩)
theorem Xo {te : TE} {m : Res Bool} (h : EvB K Er S OO σ te X7 m) : EvT Er S OO σ (EM te) m := GC h
theorem V5 {t : TT} {m : Res Bool} (h : EvT Er S OO σ t m) : EvT Er S OO σ (Ic t) (m.bind fun b => .ok (!b)) := fun H Q w s P => h.run w s FT.tr P fun b H1 s1 w1 q1 P1 => P1 H1 (XC.refl _)
noncomputable def UY (a b : Res Bool) : Res Bool := a.bind fun x => if x = true then b else .ok false
noncomputable def orR (a b : Res Bool) : Res Bool := a.bind fun x => if x = true then .ok true else b
theorem Y2 {t u : TT} {m n : Res Bool} (h : EvT Er S OO σ t m) (k : EvT Er S OO σ u n) : EvT Er S OO σ (Ij t u) (UY m n) := fun H Q w s P => h.run w s FT.tr P fun b H1 s1 w1 q1 P1 => by
  cases b with
  | true => rw [if_pos rfl] at P1 ⊢; exact k H1 Q w1 q1 P1
  | false => exact P1 H1 (XC.refl _)
theorem Uy {t u : TT} {m n : Res Bool} (h : EvT Er S OO σ t m) (k : EvT Er S OO σ u n) : EvT Er S OO σ (tOr t u) (orR m n) := fun H Q w s P => h.run w s FT.tr P fun b H1 s1 w1 q1 P1 => by
  cases b with
  | true => exact P1 H1 (XC.refl _)
  | false => exact k H1 Q w1 q1 P1
theorem HG {c : TT} {ta tb : TE} {o : OE α} {mc : Res Bool} {ma mb : Res α} (hc : EvT Er S OO σ c mc) (ha : Ev K Er S OO OO' σ ta o ma) (hb : Ev K Er S OO OO' σ tb o mb) : Ev K Er S OO OO' σ (tIf c ta tb) o (mc.bind fun b => if b = true then ma else mb) := fun H Q w s P =>
  hc.run w s FO.tr P fun b H1 s1 w1 q1 P1 => by
    cases b with
    | true => rw [if_pos rfl] at P1 ⊢; exact ha H1 Q w1 q1 P1
    | false => exact hb H1 Q w1 q1 P1
end
end L2
namespace L2
open PySem PySem.Spec PyProof.Rows
section
variable (K : PySem.W.Frag) (Er : Exc -> Hp -> Prop) (S : SC) (OO : List (List XL)) (σ : St)
noncomputable def FS {α : Type} (r : Enc α) (Q : VK) (a : α) (H : Hp) : Prop := ∀ v H', XC H H' -> r K (hid H' OO) v a -> Q v H'
noncomputable def EvS {α : Type} (te : TE) (r : Enc α) (m : Res α) : Prop := ∀ H Q, W OO H -> S.p (hid H OO) -> PZ Er (FS K OO r Q) H m -> te σ H Q
noncomputable def rE {α : Type} (r : Enc α) (H : Hp) (v : V) (as : List α) : Prop := ∃ p xs, v = .ref p /\ H p = some (.lst xs) /\ Paired (r K (hid H OO)) xs as
noncomputable def FL {α : Type} (r : Enc α) (Q : VK) (as : List α) (H : Hp) : Prop := ∀ v H', XC H H' -> rE K OO r H' v as -> Q v H'
noncomputable def EvL {α : Type} (te : TE) (r : Enc α) (m : Res (List α)) : Prop := ∀ H Q, W OO H -> S.p (hid H OO) -> PZ Er (FL K OO r Q) H m -> te σ H Q
end
section
variable {K : PySem.W.Frag} {Er : Exc -> Hp -> Prop} {S : SC} {OO OO' OO2 : List (List XL)} {σ : St} {α β γ : Type}
theorem FS.tr {r : Enc α} {Q : VK} : ∀ a H H', XC H H' -> FS K OO r Q a H -> FS K OO r Q a H' := fun a H H' s h v H2 s2 q => h v H2 (s.trans s2) q
theorem FL.tr {r : Enc α} {Q : VK} : ∀ a H H', XC H H' -> FL K OO r Q a H -> FL K OO r Q a H' := fun a H H' s h v H2 s2 q => h v H2 (s.trans s2) q
theorem PZ.run {F : β -> Hp -> Prop} {f : α -> Res β} {H H' : Hp} {a : α} {m : Res α} (hm : m = .ok a) (hF : ∀ b H H', XC H H' -> F b H -> F b H') (s : XC H H') (P : PZ Er F H (m.bind f)) : PZ Er F H' (f a) := by
  subst hm
  have P' : PZ Er F H (f a) := P
  revert P'
  cases f a with
  | bad => exact fun z => z
  | err x => exact fun z H2 s2 => z H2 (s.trans s2)
  | ok b => exact fun z => hF b H H' s z
theorem EvS.run {te : TE} {r : Enc α} {m : Res α} (he : EvS K Er S OO σ te r m) {H : Hp} {Q : VK} (w : W OO H) (s : S.p (hid H OO)) {f : α -> Res β} {F : β -> Hp -> Prop} (hF : ∀ b H H', XC H H' -> F b H -> F b H') (P : PZ Er F H (m.bind f))
    (hk : ∀ a v H', XC H H' -> W OO H' -> S.p (hid H' OO) -> r K (hid H' OO) v a -> PZ Er F H' (f a) -> Q v H') : te σ H Q := by
  refine he H Q w s ?_
  cases e : m with
  | bad => rw [e] at P; exact P
  | err x => rw [e] at P; exact P
  | ok a => exact fun v H' s' hr => hk a v H' s' (w.keep s') (S.mono _ _ (Xl s') s) hr (PZ.run e hF s' P)
theorem EvL.run {te : TE} {r : Enc α} {m : Res (List α)} (he : EvL K Er S OO σ te r m) {H : Hp} {Q : VK} (w : W OO H) (s : S.p (hid H OO)) {f : List α -> Res β} {F : β -> Hp -> Prop} (hF : ∀ b H H', XC H H' -> F b H -> F b H') (P : PZ Er F H (m.bind f))
    (hk : ∀ a v H', XC H H' -> W OO H' -> S.p (hid H' OO) -> rE K OO r H' v a -> PZ Er F H' (f a) -> Q v H') : te σ H Q := by
  refine he H Q w s ?_
  cases e : m with
  | bad => rw [e] at P; exact P
  | err x => rw [e] at P; exact P
  | ok a => exact fun v H' s' hr => hk a v H' s' (w.keep s') (S.mono _ _ (Xl s') s) hr (PZ.run e hF s' P)
theorem PZ.imp {F G : β -> Hp -> Prop} {H : Hp} {m : Res β} (P : PZ Er F H m) (h : ∀ b, m = .ok b -> F b H -> G b H) : PZ Er G H m := by
  cases m with
  | bad => exact P
  | err x => exact P
  | ok b => exact h b rfl P
theorem EvS.toB {te : TE} {r : Enc α} [z : MonoE r] {m : Res α} (he : EvS K Er S OO σ te r m) : EvB K Er S OO σ te r m := fun H Q w s P => he H Q w s (P.imp fun b _ h v H' s' q => h v H' s' (z.mono XS q))
theorem EvS.ev {te : TE} {r : Enc α} {m : Res α} (he : EvS K Er S OO σ te r m) : Ev K Er S OO OO σ te (oF r) m := fun H Q w s P => he H Q w s (P.imp fun b _ h v H' s' q =>
  h v [] H' s' (w.keep s').nil (by rw [Zl]; exact Xl s') ⟨rfl, by rw [Zl]; exact q⟩)
theorem EvB.sh {te : TE} {r : Enc α} [z : FlatE r] {m : Res α} (he : EvB K Er S OO σ te r m) : EvS K Er S OO σ te r m := fun H Q w s P => he H Q w s (P.imp fun b _ h v H' s' q => h v H' s' (z.flat (w.keep s').i q))
theorem Ev.sh {te : TE} {o : OE α} {r : Enc α} [z : FrzC o r] {m : Res α} (he : Ev K Er S OO OO σ te o m) : EvS K Er S OO σ te r m := fun H Q w s P => he.frz H Q w s (P.imp fun b _ h v C H' s' w' m' q => by
  obtain ⟨rfl, q⟩ := q
  rw [Zl] at q
  exact h v H' s' q)
theorem Xm {r : Enc α} {v : V} {a : α} (i : Nat) (hσ : σ[i]? = some (some v)) (h : ∀ x, S.p x -> r K x v a) : EvS K Er S OO σ (Uw i) r (.ok a) := fun H Q w s P => ⟨v, hσ, P v H (XC.refl _) (h _ s)⟩
theorem EvS.ls {te : TE} {r : Enc α} {m : Res (List α)} (he : EvS K Er S OO σ te (rV r) m) : EvL K Er S OO σ te r m := fun H Q w s P => he H Q w s (P.imp fun b _ h v H' s' ⟨p, xs, e, q, pr⟩ => h v H' s' ⟨p, xs, e, XS _ _ q, pr⟩)
theorem EvB.ls {te : TE} {r : Enc α} [z : FlatE r] {m : Res (List α)} (he : EvB K Er S OO σ te (rV r) m) : EvL K Er S OO σ te r m := fun H Q w s P => he H Q w s (P.imp fun b _ h v H' s' ⟨p, xs, e, q, pr⟩ => h v H' s' ⟨p, xs, e, q, Paired.imp2 (fun _ _ z' => z.flat (w.keep s').i z') pr⟩)
theorem Ev.ls {te : TE} {r : Enc α} [z : MonoE r] {m : Res (List α)} (he : Ev K Er S OO OO σ te (oL (oF r)) m) : EvL K Er S OO σ te r m := he.sh.ls
theorem KI {r : Enc α} [z : MonoE r] {v : V} {as : List α} {C : List XL} (i k : Nat) (hσ : σ[i]? = some (some v)) (hk : OO[k]? = some C) (h : ∀ x, S.p x -> oL (oF r) K x v as C) : EvL K Er S OO σ (Uw i) r (.ok as) := fun H Q w s P => by
  obtain ⟨p, xs, Cs, e, q, c⟩ := h _ s
  refine ⟨v, hσ, P v H (XC.refl _) ⟨p, xs, e, ?_, (P3.flat q).1⟩⟩
  exact w.tr (p, .lst xs) (List.mem_flatten.mpr ⟨C, List.mem_of_getElem? hk, by rw [c]; exact List.mem_cons_self⟩)
noncomputable def atR (as : List α) (i : Int) : Res α := match atI as i with
  | some a => .ok a
  | none => .bad
theorem Gr {as : List α} {i : Int} {a : α} (h : atR as i = .ok a) : atI as i = some a := by
  unfold atR at h; split at h
  · cases h; assumption
  · cases h
theorem V2 {as : List α} {i : Int} {x : Exc} : atR as i ≠ .err x := by unfold atR; split <;> exact fun z => nomatch z
theorem Q8 {F : V -> α -> Prop} {xs : List V} {as : List α} {i : Int} {a : α} (p : Paired F xs as) (h : atI as i = some a) : ∃ x, atI xs i = some x /\ F x a := by
  unfold atI at h ⊢
  rw [Paired.len p]
  cases e : ixN as.length i with
  | none => rw [e] at h; cases h
  | some j =>
    rw [e] at h
    obtain ⟨x, h1, h2⟩ := Paired.getR p h
    exact ⟨x, h1, h2⟩
theorem PZ.okOf {F : β -> Hp -> Prop} {H : Hp} {m : Res β} (he : ∀ x, m ≠ .err x) (P : PZ Er F H m) : ∃ b, m = .ok b /\ F b H := by
  cases m with
  | bad => exact P.elim
  | err x => exact absurd rfl (he x)
  | ok b => exact ⟨b, rfl, P⟩
theorem Xs {ta tb : TE} {r : Enc α} [z : MonoE r] {ma : Res (List α)} {mb : Res Int} (ha : EvB K Er S OO σ ta (rV r) ma) (hb : EvB K Er S OO σ tb Xa mb) : EvB K Er S OO σ (tOp (Bl K) ta tb) r (ma.bind fun as => mb.bind fun i => atR as i) := fun H Q w s P =>
  ha.run w s FB.tr P fun a x H1 s1 w1 q1 ⟨p, xs, e, q, pr⟩ P1 => hb.run w1 q1 FB.tr P1 fun b y H2 s2 w2 q2 r2 P2 => by
    obtain ⟨c, hc, P3⟩ := P2.okOf fun x => V2
    obtain ⟨u, h1, h2⟩ := Q8 pr (Gr hc)
    exact ⟨p, xs, b, u, e, r2, SqL.of (s2 _ _ q), h1, P3 u H2 (XC.refl _) (z.mono s2 h2)⟩
theorem EU {ta tb : TE} {r : Enc α} [z : MonoE r] {ma : Res (List α)} {mb : Res Int} (ha : EvL K Er S OO σ ta r ma) (hb : EvB K Er S OO σ tb Xa mb) : EvS K Er S OO σ (tOp (Bl K) ta tb) r (ma.bind fun as => mb.bind fun i => atR as i) := fun H Q w s P =>
  ha.run w s FS.tr P fun a x H1 s1 w1 q1 ⟨p, xs, e, q, pr⟩ P1 => hb.run w1 q1 FS.tr P1 fun b y H2 s2 w2 q2 r2 P2 => by
    obtain ⟨c, hc, P3⟩ := P2.okOf fun x => V2
    obtain ⟨u, h1, h2⟩ := Q8 pr (Gr hc)
    exact ⟨p, xs, b, u, e, r2, SqL.of (s2 _ _ q), h1, P3 u H2 (XC.refl _) (z.mono (Xl s2) h2)⟩
theorem DM {ta : TE} {r : Enc α} {q : Enc β} {m : Res (α × β)} (ha : EvB K Er S OO σ ta (rP2 r q) m) : EvB K Er S OO σ (tOp (EE K) ta (tC (.int 0))) r (m.bind fun p => .ok p.1) := fun H Q w s P =>
  ha.run w s FB.tr P fun a x H1 s1 w1 q1 ⟨p, x, y, e, q, h1, h2⟩ P1 => ⟨p, _, 0, x, e, rfl, SqT.of q, rfl, P1 _ H1 (XC.refl _) h1⟩
theorem Vj {ta : TE} {r : Enc α} {q : Enc β} {m : Res (α × β)} (ha : EvB K Er S OO σ ta (rP2 r q) m) : EvB K Er S OO σ (tOp (EE K) ta (tC (.int 1))) q (m.bind fun p => .ok p.2) := fun H Q w s P =>
  ha.run w s FB.tr P fun a x H1 s1 w1 q1 ⟨p, x, y, e, q, h1, h2⟩ P1 => ⟨p, _, 1, y, e, rfl, SqT.of q, rfl, P1 _ H1 (XC.refl _) h2⟩
theorem Ji {ta : TE} {r : Enc α} {q : Enc β} {m : Res (α × β)} (ha : EvS K Er S OO σ ta (rP2 r q) m) : EvS K Er S OO σ (tOp (EE K) ta (tC (.int 0))) r (m.bind fun p => .ok p.1) := fun H Q w s P =>
  ha.run w s FS.tr P fun a x H1 s1 w1 q1 ⟨p, x, y, e, q, h1, h2⟩ P1 => ⟨p, _, 0, x, e, rfl, SqT.of (XS _ _ q), rfl, P1 _ H1 (XC.refl _) h1⟩
theorem Fj {ta : TE} {r : Enc α} {q : Enc β} {m : Res (α × β)} (ha : EvS K Er S OO σ ta (rP2 r q) m) : EvS K Er S OO σ (tOp (EE K) ta (tC (.int 1))) q (m.bind fun p => .ok p.2) := fun H Q w s P =>
  ha.run w s FS.tr P fun a x H1 s1 w1 q1 ⟨p, x, y, e, q, h1, h2⟩ P1 => ⟨p, _, 1, y, e, rfl, SqT.of (XS _ _ q), rfl, P1 _ H1 (XC.refl _) h2⟩
theorem XO {ta : TE} {r : Enc α} {m : Res (List α)} (ha : EvB K Er S OO σ ta (rV r) m) : EvB K Er S OO σ (tCB (Fp K) (XH ta Z4)) Xa (m.bind fun as => .ok (as.length : Int)) := fun H Q w s P =>
  ha.run w s FB.tr P fun a x H1 s1 w1 q1 ⟨p, xs, e, q, pr⟩ P1 => ⟨p, xs, by rw [e], .inl (SqL.of q), P1 _ H1 (XC.refl _) (by rw [Paired.len pr]; rfl)⟩
theorem B1 {r : Enc α} [z : MonoE r] {xs : List V} {as : List α} {H : Hp} {Q : VK} (w : W OO H) (pr : Paired (r K (hid H OO)) xs as) (P : FO K OO OO (oL (oF r)) Q as H) : ∀ p, H p = none -> Q (.ref p) (upd H p (.lst xs)) := fun p hp => by
  have hn := Ua (OO := OO) hp (o := .lst xs)
  refine P (.ref p) [(p, .lst xs)] _ (XY hp _) (w.new hp rfl) hn ?_
  refine ⟨p, xs, List.replicate as.length [], rfl, (P3.of (Paired.imp2 (fun _ _ h => z.mono hn h) pr)).imp fun _ _ _ h => h, by rw [YJ]⟩
theorem Paired.take' {F : α -> β -> Prop} : ∀ {l : List α} {m : List β} (n : Nat), Paired F l m -> Paired F (l.take n) (m.take n)
  | _, _, 0, _ => .nil
  | _, _, _ + 1, .nil => .nil
  | _, _, n + 1, .cons r t => .cons r (Paired.take' n t)
theorem Paired.drop' {F : α -> β -> Prop} : ∀ {l : List α} {m : List β} (n : Nat), Paired F l m -> Paired F (l.drop n) (m.drop n)
  | _, _, 0, h => h
  | _, _, _ + 1, .nil => .nil
  | _, _, n + 1, .cons _ t => Paired.drop' n t
theorem Paired.rep' {F : α -> β -> Prop} {l : List α} {m : List β} (h : Paired F l m) : ∀ n : Nat, Paired F (List.replicate n l).flatten (List.replicate n m).flatten
  | 0 => .nil
  | n + 1 => by simp only [List.replicate_succ, List.flatten_cons]; exact Paired.app h (Paired.rep' h n)
noncomputable def JU (as : List α) (lo hi : Option Int) : List α := (as.drop (HT.sIx as.length 0 lo)).take (HT.sIx as.length as.length hi - HT.sIx as.length 0 lo)
theorem Jm {F : V -> α -> Prop} {xs : List V} {as : List α} (p : Paired F xs as) (lo hi : Option Int) : Paired F (Bh xs lo hi) (JU as lo hi) := by
  unfold Bh JU; rw [Paired.len p]; exact Paired.take' _ (Paired.drop' _ p)
noncomputable def FP (Q : Option Int -> Hp -> Prop) (a : Option Int) (H : Hp) : Prop := ∀ H', XC H H' -> Q a H'
noncomputable def EvP (Er : Exc -> Hp -> Prop) (S : SC) (OO : List (List XL)) (σ : St) (t : TO) (m : Res (Option Int)) : Prop := ∀ H Q, W OO H -> S.p (hid H OO) -> PZ Er (FP Q) H m -> t σ H Q
theorem EvP.run {t : TO} {m : Res (Option Int)} (he : EvP Er S OO σ t m) {H : Hp} {Q : Option Int -> Hp -> Prop} (w : W OO H) (s : S.p (hid H OO)) {f : Option Int -> Res β} {F : β -> Hp -> Prop} (hF : ∀ b H H', XC H H' -> F b H -> F b H') (P : PZ Er F H (m.bind f))
    (hk : ∀ a H', XC H H' -> W OO H' -> S.p (hid H' OO) -> PZ Er F H' (f a) -> Q a H') : t σ H Q := by
  refine he H Q w s ?_
  cases e : m with
  | bad => rw [e] at P; exact P
  | err x => rw [e] at P; exact P
  | ok a => exact fun H' s' => hk a H' s' (w.keep s') (S.mono _ _ (Xl s') s) (PZ.run e hF s' P)
theorem Qo : EvP Er S OO σ Dv (.ok none) := fun H Q w s P => P H (XC.refl _)
theorem ZE {te : TE} {m : Res Int} (h : EvB K Er S OO σ te Xa m) : EvP Er S OO σ (E3 te) (m.bind fun i => .ok (some i)) := fun H Q w s P =>
  h.run w s (fun _ _ _ s h H2 s2 => h H2 (s.trans s2)) P fun a v H1 s1 w1 q1 r1 P1 => ⟨a, r1, P1 H1 (XC.refl _)⟩
theorem QW {te : TE} {tl th : TO} {r : Enc α} [z : MonoE r] {m : Res (List α)} {ml mh : Res (Option Int)} (he : EvL K Er S OO σ te r m) (hl : EvP Er S OO σ tl ml) (hh : EvP Er S OO σ th mh) :
    Ev K Er S OO OO σ (tSl (HC K) te tl th) (oL (oF r)) (m.bind fun as => ml.bind fun lo => mh.bind fun hi => .ok (JU as lo hi)) := fun H Q w s P =>
  he.run w s FO.tr P fun as x H1 s1 w1 q1 ⟨p, xs, e, q, pr⟩ P1 => hl.run w1 q1 FO.tr P1 fun lo H2 s2 w2 q2 P2 => hh.run w2 q2 FO.tr P2 fun hi H3 s3 w3 q3 P3' =>
    ⟨p, xs, e, SqL.of (s3 _ _ (s2 _ _ q)), B1 w3 (Jm (Paired.imp2 (fun _ _ h => z.mono ((Xl s2).trans (Xl s3)) h) pr) lo hi) P3'⟩
theorem CT {ta : TE} {r : Enc α} {m : Res (List α)} (ha : EvB K Er S OO σ ta (rL r) m) : EvB K Er S OO σ (tCB (Fp K) (XH ta Z4)) Xa (m.bind fun as => .ok (as.length : Int)) := fun H Q w s P =>
  ha.run w s FB.tr P fun a x H1 s1 w1 q1 ⟨p, xs, e, q, pr⟩ P1 => ⟨p, xs, by rw [e], .inl q, P1 _ H1 (XC.refl _) (by rw [Paired.len pr]; rfl)⟩
theorem BB {ta tb : TE} {ma : Res (List Int)} {mb : Res Int} (ha : EvB K Er S OO σ ta (rL Xa) ma) (hb : EvB K Er S OO σ tb Xa mb) : EvB K Er S OO σ (tOp (Bl K) ta tb) Xa (ma.bind fun as => mb.bind fun i => atR as i) := fun H Q w s P =>
  ha.run w s FB.tr P fun a x H1 s1 w1 q1 ⟨p, xs, e, q, pr⟩ P1 => hb.run w1 q1 FB.tr P1 fun b y H2 s2 w2 q2 r2 P2 => by
    obtain ⟨c, hc, P3⟩ := P2.okOf fun x => V2
    obtain ⟨u, h1, h2⟩ := Q8 pr (Gr hc)
    exact ⟨p, xs, b, u, e, r2, s2.seq q, h1, P3 u H2 (XC.refl _) h2⟩
theorem Dc {te : TE} {tl th : TO} {m : Res (List Int)} {ml mh : Res (Option Int)} (he : EvB K Er S OO σ te (rL Xa) m) (hl : EvP Er S OO σ tl ml) (hh : EvP Er S OO σ th mh) :
    Ev K Er S OO OO σ (tSl (HC K) te tl th) (oL (oF Xa)) (m.bind fun as => ml.bind fun lo => mh.bind fun hi => .ok (JU as lo hi)) := fun H Q w s P =>
  he.run w s FO.tr P fun as x H1 s1 w1 q1 ⟨p, xs, e, q, pr⟩ P1 => hl.run w1 q1 FO.tr P1 fun lo H2 s2 w2 q2 P2 => hh.run w2 q2 FO.tr P2 fun hi H3 s3 w3 q3 P3' =>
    ⟨p, xs, e, s3.seq (s2.seq q), B1 w3 (Jm (Paired.imp2 (fun _ _ h => h) pr) lo hi) P3'⟩
noncomputable def Fb (as bs : List α) : Res (List α) := chk (as.length + bs.length <= sizeLine) (.ok (as ++ bs))
theorem VV {ta tb : TE} {r : Enc α} [z : MonoE r] {ma mb : Res (List α)} (ha : EvL K Er S OO σ ta r ma) (hb : EvL K Er S OO σ tb r mb) : Ev K Er S OO OO σ (tOp Io ta tb) (oL (oF r)) (ma.bind fun as => mb.bind fun bs => Fb as bs) := fun H Q w s P =>
  ha.run w s FO.tr P fun as x H1 s1 w1 q1 ⟨p, xs, e, q, pr⟩ P1 => hb.run w1 q1 FO.tr P1 fun bs y H2 s2 w2 q2 ⟨p', ys, e', q', pr'⟩ P2 => by
    obtain ⟨c, hc, P3⟩ := P2.okOf fun x => QT
    obtain ⟨h1, h2⟩ := ZP hc
    cases h2
    exact ⟨p, p', xs, ys, e, e', s2 _ _ q, q', by rw [Paired.len pr, Paired.len pr']; exact h1, B1 w2 (Paired.app (Paired.imp2 (fun _ _ h => z.mono (Xl s2) h) pr) pr') P3⟩
noncomputable def VL (as : List α) (n : Int) : Res (List α) := chk (-(2 ^ 63) <= n /\ n < 2 ^ 63 /\ as.length * n.toNat <= sizeLine) (.ok (List.replicate n.toNat as).flatten)
theorem Jr {ta tb : TE} {r : Enc α} [z : MonoE r] {ma : Res (List α)} {mb : Res Int} (ha : EvL K Er S OO σ ta r ma) (hb : EvB K Er S OO σ tb Xa mb) : Ev K Er S OO OO σ (tOp Iv ta tb) (oL (oF r)) (ma.bind fun as => mb.bind fun n => VL as n) := fun H Q w s P =>
  ha.run w s FO.tr P fun as x H1 s1 w1 q1 ⟨p, xs, e, q, pr⟩ P1 => hb.run w1 q1 FO.tr P1 fun n y H2 s2 w2 q2 r2 P2 => by
    obtain ⟨c, hc, P3⟩ := P2.okOf fun x => QT
    obtain ⟨⟨h0, h1, h3⟩, h2⟩ := ZP hc
    cases h2
    exact ⟨p, n, xs, e, r2, s2 _ _ q, h0, h1, by rw [Paired.len pr]; exact h3, B1 w2 (Paired.rep' (Paired.imp2 (fun _ _ h => z.mono (Xl s2) h) pr) _) P3⟩
theorem Q6 {ta : TE} {r : Enc α} [z : MonoE r] {ma : Res (List α)} (ha : EvL K Er S OO σ ta r ma) : Ev K Er S OO OO σ (tCB (Dg K) (XH ta Z4)) (oL (oF r)) (ma.bind fun as => .ok as) := fun H Q w s P =>
  ha.run w s FO.tr P fun as x H1 s1 w1 q1 ⟨p, xs, e, q, pr⟩ P1 => ⟨p, xs, by rw [e], .inl (SqL.of q), B1 w1 pr P1⟩
noncomputable def Qm (lo hi : Int) : List Int := (List.range (hi - lo).toNat).map fun (i : Nat) => lo + (i : Int)
theorem U5 {ta : TE} {ma : Res Int} (ha : EvB K Er S OO σ ta Xa ma) : Ev K Er S OO OO σ (K7 (XH ta Z4)) (oL (oF Xa)) (ma.bind fun n => chk (0 <= n /\ n <= 1000) (.ok (Qm 0 n))) := fun H Q w s P =>
  ha.run w s FO.tr P fun n x H1 s1 w1 q1 r1 P1 => by
    obtain ⟨c, hc, P3⟩ := P1.okOf fun x => QT
    obtain ⟨⟨h0, h1⟩, h2⟩ := ZP hc
    cases h2
    refine ⟨n, by rw [show x = .int n from r1], h0, h1, B1 w1 ?_ P3⟩
    unfold Qm
    rw [Int.sub_zero]
    have : ∀ l : List Nat, Paired (Xa K (hid H1 OO)) (l.map fun (i : Nat) => V.int (i : Int)) (l.map fun (i : Nat) => (0 : Int) + (i : Int)) := fun l => by
      induction l with
      | nil => exact .nil
      | cons a l ih => exact .cons (by show V.int (a : Int) = V.int (0 + (a : Int)); rw [Int.zero_add]) ih
    exact this _
theorem Qx {o : OE α} : Ev K Er S OO OO σ (Ba Z4) (oL o) (.ok []) := fun H Q w s P => ⟨Nat.zero_le _, fun p hp => P (.ref p) [(p, .lst [])] _ (XY hp _) (w.new hp rfl) (Ua hp) ⟨p, [], [], rfl, .nil, rfl⟩⟩
noncomputable def FA {α : Type} (K : PySem.W.Frag) (OO : List (List XL)) (r : Enc α) (Q : List V -> Hp -> Prop) (as : List α) (H : Hp) : Prop := ∀ vs H', XC H H' -> Paired (r K (hid H' OO)) vs as -> Q vs H'
noncomputable def EvA {α : Type} (K : PySem.W.Frag) (Er : Exc -> Hp -> Prop) (S : SC) (OO : List (List XL)) (σ : St) (t : TA) (r : Enc α) (m : Res (List α)) : Prop := ∀ H Q, W OO H -> S.p (hid H OO) -> PZ Er (FA K OO r Q) H m -> t σ H Q
theorem X9 {r : Enc α} : EvA K Er S OO σ Z4 r (.ok []) := fun H Q w s P => P [] H (XC.refl _) .nil
theorem Xn {te : TE} {t : TA} {r : Enc α} [z : MonoE r] {m : Res α} {n : Res (List α)} (he : EvS K Er S OO σ te r m) (ht : EvA K Er S OO σ t r n) : EvA K Er S OO σ (XH te t) r (m.bind fun a => n.bind fun as => .ok (a :: as)) := fun H Q w s P =>
  he.run w s (fun b H H' s h vs H2 s2 p => h vs H2 (s.trans s2) p) P fun a x H1 s1 w1 q1 r1 P1 => by
    refine ht H1 _ w1 q1 ?_
    cases e : n with
    | bad => rw [e] at P1; exact P1
    | err x => rw [e] at P1; exact P1
    | ok as => rw [e] at P1; exact fun vs H2 s2 p => P1 (x :: vs) H2 s2 (.cons (z.mono (Xl s2) r1) p)
theorem YG {t : TA} {r : Enc α} [z : MonoE r] {m : Res (List α)} (h : EvA K Er S OO σ t r m) : Ev K Er S OO OO σ (Ba t) (oL (oF r)) (m.bind fun as => chk (as.length <= sizeLine) (.ok as)) := fun H Q w s P => by
  refine h H _ w s ?_
  cases e : m with
  | bad => rw [e] at P; exact P
  | err x => rw [e] at P; exact P
  | ok as =>
    rw [e] at P
    intro vs H1 s1 p
    obtain ⟨c, hc, P3⟩ := PZ.okOf (fun x => QT) (show PZ Er _ H (chk (as.length <= sizeLine) (.ok as)) from P)
    obtain ⟨h1, h2⟩ := ZP hc
    cases h2
    exact ⟨by rw [Paired.len p]; exact h1, B1 (w.keep s1) p (FO.tr _ _ _ s1 P3)⟩
theorem Qv {ta tb : TE} {r : Enc α} {q : Enc β} [z : MonoE r] [y : MonoE q] {ma : Res α} {mb : Res β} (ha : EvS K Er S OO σ ta r ma) (hb : EvS K Er S OO σ tb q mb) : EvS K Er S OO σ (Hx (XH ta (XH tb Z4))) (rP2 r q) (ma.bind fun a => mb.bind fun b => .ok (a, b)) := fun H Q w s P =>
  ha.run w s FS.tr P fun a x H1 s1 w1 q1 r1 P1 => hb.run w1 q1 FS.tr P1 fun b y' H2 s2 w2 q2 r2 P2 =>
    ⟨by show 2 <= sizeLine; decide, fun p hp => P2 _ _ (XY hp _) ⟨p, x, y', rfl, QP w2 hp, z.mono ((Xl s2).trans (Xl (XY hp _))) r1, y.mono (Xl (XY hp _)) r2⟩⟩
theorem Gh {ta tb tc : TE} {r : Enc α} {q : Enc β} {t : Enc γ} [z : MonoE r] [y : MonoE q] [x : MonoE t] {ma : Res α} {mb : Res β} {mc : Res γ} (ha : EvS K Er S OO σ ta r ma) (hb : EvS K Er S OO σ tb q mb) (hc : EvS K Er S OO σ tc t mc) :
    EvS K Er S OO σ (Hx (XH ta (XH tb (XH tc Z4)))) (rP3 r q t) (ma.bind fun a => mb.bind fun b => mc.bind fun c => .ok (a, b, c)) := fun H Q w s P =>
  ha.run w s FS.tr P fun a x' H1 s1 w1 q1 r1 P1 => hb.run w1 q1 FS.tr P1 fun b y' H2 s2 w2 q2 r2 P2 => hc.run w2 q2 FS.tr P2 fun c z' H3 s3 w3 q3 r3 P3 =>
    ⟨by show 3 <= sizeLine; decide, fun p hp => P3 _ _ (XY hp _) ⟨p, x', y', z', rfl, QP w3 hp, z.mono (((Xl s2).trans (Xl s3)).trans (Xl (XY hp _))) r1, y.mono ((Xl s3).trans (Xl (XY hp _))) r2, x.mono (Xl (XY hp _)) r3⟩⟩
end
end L2
namespace L2
open PySem PySem.Spec PyProof.Rows
section
variable {K : PySem.W.Frag} {Er : Exc -> Hp -> Prop} {S : SC} {OO OO' OO2 : List (List XL)} {σ : St} {α β γ ρ ι : Type} {α1 α2 α3 α4 α5 α6 : Type}
noncomputable def noE (m : Res α) : Res α := match m with
  | .ok a => .ok a
  | _ => .bad
theorem UD {m : Res α} {a : α} (h : noE m = .ok a) : m = .ok a := by
  cases m with
  | ok b => exact h
  | bad => cases h
  | err x => cases h
theorem Kd {m : Res α} {x : Exc} : noE m ≠ .err x := by cases m <;> exact fun z => nomatch z
noncomputable def FF (K : PySem.W.Frag) (o : OE α) (Q : VK) (a : α) (H : Hp) : Prop := ∀ v C H', W [C] H' -> XC H (hid H' [C]) -> o K (hid H' [C]) v a C -> Q v H'
noncomputable def sp1 (r1 : Enc α1) (o : OE ρ) (f : α1 -> Res ρ) (K : PySem.W.Frag) : Sp := fun vs H Q _ => ∃ v1 a1 b, vs = [v1] /\ r1 K H v1 a1 /\ f a1 = .ok b /\ FF K o Q b H
noncomputable def sp2 (r1 : Enc α1) (r2 : Enc α2) (o : OE ρ) (f : α1 -> α2 -> Res ρ) (K : PySem.W.Frag) : Sp := fun vs H Q _ => ∃ v1 v2 a1 a2 b, vs = [v1, v2] /\ r1 K H v1 a1 /\ r2 K H v2 a2 /\ f a1 a2 = .ok b /\ FF K o Q b H
noncomputable def sp3 (r1 : Enc α1) (r2 : Enc α2) (r3 : Enc α3) (o : OE ρ) (f : α1 -> α2 -> α3 -> Res ρ) (K : PySem.W.Frag) : Sp := fun vs H Q _ => ∃ v1 v2 v3 a1 a2 a3 b, vs = [v1, v2, v3] /\ r1 K H v1 a1 /\ r2 K H v2 a2 /\ r3 K H v3 a3 /\ f a1 a2 a3 = .ok b /\ FF K o Q b H
noncomputable def sp4 (r1 : Enc α1) (r2 : Enc α2) (r3 : Enc α3) (r4 : Enc α4) (o : OE ρ) (f : α1 -> α2 -> α3 -> α4 -> Res ρ) (K : PySem.W.Frag) : Sp := fun vs H Q _ => ∃ v1 v2 v3 v4 a1 a2 a3 a4 b, vs = [v1, v2, v3, v4] /\ r1 K H v1 a1 /\ r2 K H v2 a2 /\ r3 K H v3 a3 /\ r4 K H v4 a4 /\ f a1 a2 a3 a4 = .ok b /\ FF K o Q b H
noncomputable def sp5 (r1 : Enc α1) (r2 : Enc α2) (r3 : Enc α3) (r4 : Enc α4) (r5 : Enc α5) (o : OE ρ) (f : α1 -> α2 -> α3 -> α4 -> α5 -> Res ρ) (K : PySem.W.Frag) : Sp := fun vs H Q _ => ∃ v1 v2 v3 v4 v5 a1 a2 a3 a4 a5 b, vs = [v1, v2, v3, v4, v5] /\ r1 K H v1 a1 /\ r2 K H v2 a2 /\ r3 K H v3 a3 /\ r4 K H v4 a4 /\ r5 K H v5 a5 /\ f a1 a2 a3 a4 a5 = .ok b /\ FF K o Q b H
theorem HK {C : List XL} {H H' : Hp} (w : W OO H) (w' : W [C] H') (m' : XC H (hid H' [C])) : W (C :: OO) H' /\ XC (hid H OO) (hid H' (C :: OO)) /\ JI (hid H' [C]) (hid H' (C :: OO)) := by
  have s : XC H H' := m'.trans XS
  have f1 : fl [C] = C.map (·.1) := by simp [fl]
  have hd : ∀ b, b ∈ fl OO -> b ∉ C.map (·.1) := fun b hb hc => by
    obtain ⟨u, hu⟩ := DB hb
    exact (Yv (m' _ _ (w.tr _ hu))).2 (by rw [f1]; exact hc)
  have w2 : W (C :: OO) H' := by
    refine ⟨fun c hc => ?_, ?_, fun c hc => ?_⟩
    · rw [List.flatten_cons, List.mem_append] at hc
      rcases hc with hc | hc
      · exact w'.tr c (by simp [hc])
      · exact s _ _ (w.tr c hc)
    · rw [YB]
      refine List.nodup_append.mpr ⟨by rw [← f1]; exact w'.nd, w.nd, fun a ha b hb e => ?_⟩
      subst e; exact hd a hb ha
    · rw [List.flatten_cons, List.mem_append] at hc
      rcases hc with hc | hc
      · exact w'.mu c (by simp [hc])
      · exact w.mu c hc
  refine ⟨w2, fun b u q => ?_, fun b u q i => ?_⟩
  · obtain ⟨q1, q2⟩ := Yv q
    obtain ⟨q3, q4⟩ := Yv (m' _ _ q1)
    refine ZQ q3 ?_
    rw [YB, List.mem_append]
    exact fun z => z.elim (fun z => q4 (by rw [f1]; exact z)) q2
  · exact w2.i b u (Yv q).1 i
theorem Vl {o : OE α} [z : FlatO o] {Q : VK} {b : α} {H : Hp} (w : W OO H) (P : FO K OO OO o Q b H) : FF K o Q b H := fun v C H' w' m' ho => by
  obtain ⟨w2, h2, h3⟩ := HK w w' m'
  exact P v C H' (m'.trans XS) w2 h2 (z.flat h3 ho)
theorem Yn {ta : TE} {r1 : Enc α1} {o : OE ρ} [FlatO o] {f : α1 -> Res ρ} {ma : Res α1} (ha : EvB K Er S OO σ ta r1 ma) : Ev K Er S OO OO σ (KD (sp1 r1 o f K) [] E0 (XH ta Z4)) o (ma.bind fun a => noE (f a)) := fun H Q w s P =>
  ha.run w s FO.tr P fun a x H1 s1 w1 q1 r1 P1 => by
    obtain ⟨b, hb, P2⟩ := P1.okOf fun x => Kd
    exact ⟨x, a, b, rfl, r1, UD hb, Vl w1 P2⟩
theorem Ym {ta tb : TE} {r1 : Enc α1} {r2 : Enc α2} [z1 : MonoE r1] {o : OE ρ} [FlatO o] {f : α1 -> α2 -> Res ρ} {ma : Res α1} {mb : Res α2} (ha : EvB K Er S OO σ ta r1 ma) (hb : EvB K Er S OO σ tb r2 mb) :
    Ev K Er S OO OO σ (KD (sp2 r1 r2 o f K) [] E0 (XH ta (XH tb Z4))) o (ma.bind fun a => mb.bind fun b => noE (f a b)) := fun H Q w s P =>
  ha.run w s FO.tr P fun a x H1 s1 w1 q1 r1 P1 => hb.run w1 q1 FO.tr P1 fun b y H2 s2 w2 q2 r2 P2 => by
    obtain ⟨c, hc, P3⟩ := P2.okOf fun x => Kd
    exact ⟨x, y, a, b, c, rfl, z1.mono s2 r1, r2, UD hc, Vl w2 P3⟩
theorem Yw {ta tb tc : TE} {r1 : Enc α1} {r2 : Enc α2} {r3 : Enc α3} [z1 : MonoE r1] [z2 : MonoE r2] {o : OE ρ} [FlatO o] {f : α1 -> α2 -> α3 -> Res ρ} {ma : Res α1} {mb : Res α2} {mc : Res α3} (ha : EvB K Er S OO σ ta r1 ma) (hb : EvB K Er S OO σ tb r2 mb) (hc : EvB K Er S OO σ tc r3 mc) :
    Ev K Er S OO OO σ (KD (sp3 r1 r2 r3 o f K) [] E0 (XH ta (XH tb (XH tc Z4)))) o (ma.bind fun a => mb.bind fun b => mc.bind fun c => noE (f a b c)) := fun H Q w s P =>
  ha.run w s FO.tr P fun a x H1 s1 w1 q1 r1 P1 => hb.run w1 q1 FO.tr P1 fun b y H2 s2 w2 q2 r2 P2 => hc.run w2 q2 FO.tr P2 fun c z H3 s3 w3 q3 r3 P3 => by
    obtain ⟨d, hd, P4⟩ := P3.okOf fun x => Kd
    exact ⟨x, y, z, a, b, c, d, rfl, z1.mono (s2.trans s3) r1, z2.mono s3 r2, r3, UD hd, Vl w3 P4⟩
theorem Cm {ta tb tc td : TE} {r1 : Enc α1} {r2 : Enc α2} {r3 : Enc α3} {r4 : Enc α4} [z1 : MonoE r1] [z2 : MonoE r2] [z3 : MonoE r3] {o : OE ρ} [FlatO o] {f : α1 -> α2 -> α3 -> α4 -> Res ρ} {ma : Res α1} {mb : Res α2} {mc : Res α3} {md : Res α4} (ha : EvB K Er S OO σ ta r1 ma) (hb : EvB K Er S OO σ tb r2 mb) (hc : EvB K Er S OO σ tc r3 mc) (hd : EvB K Er S OO σ td r4 md) :
    Ev K Er S OO OO σ (KD (sp4 r1 r2 r3 r4 o f K) [] E0 (XH ta (XH tb (XH tc (XH td Z4))))) o (ma.bind fun a => mb.bind fun b => mc.bind fun c => md.bind fun d => noE (f a b c d)) := fun H Q w s P =>
  ha.run w s FO.tr P fun a x H1 s1 w1 q1 r1 P1 => hb.run w1 q1 FO.tr P1 fun b y H2 s2 w2 q2 r2 P2 => hc.run w2 q2 FO.tr P2 fun c z H3 s3 w3 q3 r3 P3 => hd.run w3 q3 FO.tr P3 fun d u H4 s4 w4 q4 r4 P4 => by
    obtain ⟨e, he, P5⟩ := P4.okOf fun x => Kd
    exact ⟨x, y, z, u, a, b, c, d, e, rfl, z1.mono (s2.trans (s3.trans s4)) r1, z2.mono (s3.trans s4) r2, z3.mono s4 r3, r4, UD he, Vl w4 P5⟩
theorem Ct {ta tb tc td te : TE} {r1 : Enc α1} {r2 : Enc α2} {r3 : Enc α3} {r4 : Enc α4} {r5 : Enc α5} [z1 : MonoE r1] [z2 : MonoE r2] [z3 : MonoE r3] [z4 : MonoE r4] {o : OE ρ} [FlatO o] {f : α1 -> α2 -> α3 -> α4 -> α5 -> Res ρ} {ma : Res α1} {mb : Res α2} {mc : Res α3} {md : Res α4} {me : Res α5} (ha : EvB K Er S OO σ ta r1 ma) (hb : EvB K Er S OO σ tb r2 mb) (hc : EvB K Er S OO σ tc r3 mc) (hd : EvB K Er S OO σ td r4 md) (he : EvB K Er S OO σ te r5 me) :
    Ev K Er S OO OO σ (KD (sp5 r1 r2 r3 r4 r5 o f K) [] E0 (XH ta (XH tb (XH tc (XH td (XH te Z4)))))) o (ma.bind fun a => mb.bind fun b => mc.bind fun c => md.bind fun d => me.bind fun e => noE (f a b c d e)) := fun H Q w s P =>
  ha.run w s FO.tr P fun a x H1 s1 w1 q1 r1 P1 => hb.run w1 q1 FO.tr P1 fun b y H2 s2 w2 q2 r2 P2 => hc.run w2 q2 FO.tr P2 fun c z H3 s3 w3 q3 r3 P3 => hd.run w3 q3 FO.tr P3 fun d u H4 s4 w4 q4 r4 P4 => he.run w4 q4 FO.tr P4 fun e t H5 s5 w5 q5 r5 P5 => by
    obtain ⟨g, hg, P6⟩ := P5.okOf fun x => Kd
    exact ⟨x, y, z, u, t, a, b, c, d, e, g, rfl, z1.mono (s2.trans (s3.trans (s4.trans s5))) r1, z2.mono (s3.trans (s4.trans s5)) r2, z3.mono (s4.trans s5) r3, z4.mono s5 r4, r5, UD hg, Vl w5 P6⟩
structure Jn (γ ι : Type) where
  oo : ι -> List (List XL)
  ss : ι -> St
  sc : γ -> ι -> SC
inductive Ctl (ρ γ : Type) where
  | ret (r : ρ) | nx (g : γ)
noncomputable def FTd (K : PySem.W.Frag) (o : OE ρ) (D : Ends) (r : ρ) (h : Hp) : Prop := ∀ v C OO' H', W (C :: OO') H' -> XC h (hid H' (C :: OO')) -> o K (hid H' (C :: OO')) v r C -> D.rt v H'
noncomputable def FNd (J : Jn γ ι) (D : Ends) (g : γ) (h : Hp) : Prop := ∀ x H', W (J.oo x) H' -> XC h (hid H' (J.oo x)) -> (J.sc g x).p (hid H' (J.oo x)) -> D.nx (J.ss x) H'
noncomputable def FCd (K : PySem.W.Frag) (o : OE ρ) (J : Jn γ ι) (D : Ends) (c : Ctl ρ γ) (h : Hp) : Prop := match c with
  | .ret r => FTd K o D r h
  | .nx g => FNd J D g h
class FdOk (Fd : Ends -> β -> Hp -> Prop) : Prop where
  tr : ∀ D b h h', XC h h' -> Fd D b h -> Fd D b h'
instance {o : OE ρ} : FdOk (FTd K o) := ⟨fun D b h h' s q v C O H' w m x => q v C O H' w (s.trans m) x⟩
instance {J : Jn γ ι} : FdOk (FNd J) := ⟨fun D b h h' s q x H' w m y => q x H' w (s.trans m) y⟩
instance {o : OE ρ} {J : Jn γ ι} : FdOk (FCd K o J) := ⟨fun D b h h' s q => by
  cases b with
  | ret r => exact fun v C O H' w m x => q v C O H' w (s.trans m) x
  | nx g => exact fun x H' w m y => q x H' w (s.trans m) y⟩
theorem PZ.tr {F : β -> Hp -> Prop} (hF : ∀ b H H', XC H H' -> F b H -> F b H') {H H' : Hp} {m : Res β} (s : XC H H') (P : PZ Er F H m) : PZ Er F H' m := by
  cases m with
  | bad => exact P
  | err x => exact fun H2 s2 => P H2 (s.trans s2)
  | ok b => exact hF b H H' s P
noncomputable def Sv (Er : Exc -> Hp -> Prop) (S : SC) (OO : List (List XL)) (σ : St) (t : TS) (Fd : Ends -> β -> Hp -> Prop) (m : Res β) : Prop := ∀ H D, W OO H -> S.p (hid H OO) -> PZ Er (Fd D) (hid H OO) m -> t D σ H
variable {Fd : Ends -> β -> Hp -> Prop} [fd : FdOk Fd] {u : TS}
theorem Ev.st {te : TE} {o : OE α} {m : Res α} (he : Ev K Er S OO OO' σ te o m) {H : Hp} {D : Ends} {Q : VK} (w : W OO H) (s : S.p (hid H OO)) {f : α -> Res β} (P : PZ Er (Fd D) (hid H OO) (m.bind f))
    (hk : ∀ a v C H', W (C :: OO') H' -> S.p (hid H' (C :: OO')) -> o K (hid H' (C :: OO')) v a C -> PZ Er (Fd D) (hid H' (C :: OO')) (f a) -> Q v H') : te σ H Q := by
  refine he H Q w s ?_
  cases m with
  | bad => exact P
  | err x => exact fun H' s' => P H' (XS.trans s')
  | ok a => exact fun v C H' s' w' m' ho => hk a v C H' w' (S.mono _ _ m' s) ho (PZ.tr (fd.tr D) m' P)
theorem EvB.st {te : TE} {r : Enc α} {m : Res α} (he : EvB K Er S OO σ te r m) {H : Hp} {D : Ends} {Q : VK} (w : W OO H) (s : S.p (hid H OO)) {f : α -> Res β} (P : PZ Er (Fd D) (hid H OO) (m.bind f))
    (hk : ∀ a v H', XC H H' -> W OO H' -> S.p (hid H' OO) -> r K H' v a -> PZ Er (Fd D) (hid H' OO) (f a) -> Q v H') : te σ H Q := by
  refine he H Q w s ?_
  cases m with
  | bad => exact P
  | err x => exact fun H' s' => P H' (XS.trans s')
  | ok a => exact fun v H' s' hr => hk a v H' s' (w.keep s') (S.mono _ _ (Xl s') s) hr (PZ.tr (fd.tr D) (Xl s') P)
theorem EvS.st {te : TE} {r : Enc α} {m : Res α} (he : EvS K Er S OO σ te r m) {H : Hp} {D : Ends} {Q : VK} (w : W OO H) (s : S.p (hid H OO)) {f : α -> Res β} (P : PZ Er (Fd D) (hid H OO) (m.bind f))
    (hk : ∀ a v H', XC H H' -> W OO H' -> S.p (hid H' OO) -> r K (hid H' OO) v a -> PZ Er (Fd D) (hid H' OO) (f a) -> Q v H') : te σ H Q := by
  refine he H Q w s ?_
  cases m with
  | bad => exact P
  | err x => exact fun H' s' => P H' (XS.trans s')
  | ok a => exact fun v H' s' hr => hk a v H' s' (w.keep s') (S.mono _ _ (Xl s') s) hr (PZ.tr (fd.tr D) (Xl s') P)
theorem EvT.st {tt : TT} {m : Res Bool} (he : EvT Er S OO σ tt m) {H : Hp} {D : Ends} {Q : Bool -> Hp -> Prop} (w : W OO H) (s : S.p (hid H OO)) {f : Bool -> Res β} (P : PZ Er (Fd D) (hid H OO) (m.bind f))
    (hk : ∀ b H', W OO H' -> S.p (hid H' OO) -> PZ Er (Fd D) (hid H' OO) (f b) -> Q b H') : tt σ H Q := by
  refine he H Q w s ?_
  cases m with
  | bad => exact P
  | err x => exact fun H' s' => P H' (XS.trans s')
  | ok a => exact fun H' s' => hk a H' (w.keep s') (S.mono _ _ (Xl s') s) (PZ.tr (fd.tr D) (Xl s') P)
theorem Uu {OO : List (List XL)} {k : Nat} {C : List XL} : (OO.set k C).set k [] = OO.set k [] := by simp
theorem IB {C : List XL} {H : Hp} {k : Nat} (w : W (C :: OO) H) (hk : k < OO.length) : W (OO.set k C) H /\ XC (hid H (C :: OO)) (hid H (OO.set k C)) := by
  have h1 := Ye (OO := OO) (k := k) (C := OO[k]) (by simp [hk])
  have h2 := Ye (OO := OO.set k C) (k := k) (C := C) (by simp [hk])
  rw [Uu] at h2
  have h3 : (OO.set k C).flatten.Perm (C ++ (OO.set k []).flatten) := by simpa using h2.symm
  have h4 : (C :: OO).flatten.Perm (C ++ (OO[k] ++ (OO.set k []).flatten)) := by
    rw [List.flatten_cons]; exact (by simpa using h1.symm : OO.flatten.Perm (OO[k] ++ (OO.set k []).flatten)).append_left C
  have h5 : (C ++ (OO.set k []).flatten).Sublist (C ++ (OO[k] ++ (OO.set k []).flatten)) := List.Sublist.append (List.Sublist.refl _) (List.sublist_append_right _ _)
  have w1 : W [C ++ (OO[k] ++ (OO.set k []).flatten)] H := w.of (by simpa using h4.symm)
  have w2 : W [C ++ (OO.set k []).flatten] H := w1.sub (by simpa using h5)
  refine ⟨w2.of (by simpa using h3), Jo (XC.refl _) fun b hb => ?_⟩
  obtain ⟨o, ho⟩ := DB hb
  exact VH (h4.mem_iff.mpr (h5.mem (h3.mem_iff.mp ho)))
theorem XN {te : TE} {o : OE α} [MonoO o] {m : Res α} {f : α -> Res β} (i k : Nat) (he : Ev K Er S OO OO' σ te o m) (hk : k < OO'.length) (hr : ∀ a v C, Sv Er (S.addO K o v a C) (OO'.set k C) (σ.set i (some v)) u Fd (f a)) : Sv Er S OO σ (Vz (Cr te (Zh i)) u) Fd (m.bind f) := fun H D w s P =>
  he.st w s P fun a v C H' w' s' ho P' => by
    obtain ⟨w2, h2⟩ := IB w' hk
    exact hr a v C H' D w2 ⟨S.mono _ _ h2 s', MonoO.mono h2 ho⟩ (PZ.tr (fd.tr D) h2 P')
theorem Xz {te : TE} {r : Enc α} [MonoE r] {m : Res α} {f : α -> Res β} (i : Nat) (he : EvS K Er S OO σ te r m) (hr : ∀ a v, Sv Er (S.add K r v a) OO (σ.set i (some v)) u Fd (f a)) : Sv Er S OO σ (Vz (Cr te (Zh i)) u) Fd (m.bind f) := fun H D w s P =>
  he.st w s P fun a v H' s1 w' s' ho P' => hr a v H' D w' ⟨s', ho⟩ P'
theorem XE {te : TE} {o : OE ρ} {m : Res ρ} (he : Ev K Er S OO OO' σ te o m) : Sv Er S OO σ (Vz (Ix te) u) (FTd K o) m := fun H D w s P =>
  he H _ w s (by
    cases m with
    | bad => exact P
    | err x => exact fun H' s' => P H' (XS.trans s')
    | ok a => exact fun v C H' s' w' m' ho => P v C OO' H' w' m' ho)
theorem UE {J : Jn γ ι} {t : TS} {o : OE ρ} {m : Res γ} (h : Sv Er S OO σ t (FNd J) m) : Sv Er S OO σ t (FCd K o J) (m.bind fun r => .ok (.nx r)) := fun H D w s P => h H D w s (by
  cases m with
  | bad => exact P
  | err x => exact P
  | ok a => exact P)
theorem Xv {J : Jn γ ι} (x : ι) (g : γ) (h1 : OO = J.oo x) (h2 : σ = J.ss x) (h3 : ∀ h, S.p h -> (J.sc g x).p h) : Sv Er S OO σ CJ (FNd J) (.ok g) := fun H D w s P => by
  subst h1 h2
  exact P x H w (XC.refl _) (h3 _ s)
theorem E5 {t : TS} : Sv Er S OO σ t Fd .bad := fun H D w s P => P.elim
theorem Z5 {o : OE ρ} {c : TT} {t1 : TS} {mc : Res Bool} {m1 m2 : Res ρ} (hc : EvT Er S OO σ c mc) (h1 : Sv Er S OO σ t1 (FTd K o) m1) (h2 : Sv Er S OO σ u (FTd K o) m2) : Sv Er S OO σ (Vz (HE c t1 CJ) u) (FTd K o) (mc.bind fun b => if b = true then m1 else m2) := fun H D w s P =>
  hc.st (Fd := FTd K o) w s P fun b H' w' s' P' => by
    cases b with
    | true => rw [if_pos rfl] at P' ⊢; exact h1 H' _ w' s' P'
    | false => exact h2 H' D w' s' P'
theorem Jl {o : OE ρ} {J : Jn γ ι} {c : TT} {t1 : TS} {mc : Res Bool} {m1 : Res ρ} {m2 : Res (Ctl ρ γ)} (hc : EvT Er S OO σ c mc) (h1 : Sv Er S OO σ t1 (FTd K o) m1) (h2 : Sv Er S OO σ u (FCd K o J) m2) : Sv Er S OO σ (Vz (HE c t1 CJ) u) (FCd K o J) (mc.bind fun b => if b = true then m1.bind (fun r => .ok (.ret r)) else m2) := fun H D w s P =>
  hc.st (Fd := FCd K o J) w s P fun b H' w' s' P' => by
    cases b with
    | true =>
      rw [if_pos rfl] at P' ⊢
      refine h1 H' _ w' s' ?_
      cases m1 with
      | bad => exact P'
      | err x => exact P'
      | ok a => exact P'
    | false => exact h2 H' D w' s' P'
theorem Y0 {c : TT} {t1 t2 : TS} {mc : Res Bool} {m1 m2 : Res β} (hc : EvT Er S OO σ c mc) (h1 : Sv Er S OO σ t1 Fd m1) (h2 : Sv Er S OO σ t2 Fd m2) : Sv Er S OO σ (HE c t1 t2) Fd (mc.bind fun b => if b = true then m1 else m2) := fun H D w s P =>
  hc.st w s P fun b H' w' s' P' => by
    cases b with
    | true => rw [if_pos rfl] at P' ⊢; exact h1 H' _ w' s' P'
    | false => exact h2 H' D w' s' P'
theorem Yr {J : Jn γ ι} {t : TS} {m : Res γ} {f : γ -> Res β} (hb : Sv Er S OO σ t (FNd J) m) (hr : ∀ g x, Sv Er (J.sc g x) (J.oo x) (J.ss x) u Fd (f g)) : Sv Er S OO σ (Vz t u) Fd (m.bind f) := fun H D w s P =>
  hb H _ w s (by
    cases m with
    | bad => exact P
    | err x => exact P
    | ok g => exact fun x H' w' m' q => hr g x H' D w' q (PZ.tr (fd.tr D) m' P))
noncomputable def JE (f : γ -> Res ρ) : Ctl ρ γ -> Res ρ
  | .ret r => .ok r
  | .nx g => f g
theorem Sv.weak {S2 : SC} {t : TS} {m : Res β} (h : Sv Er S2 OO σ t Fd m) (hs : ∀ x, S.p x -> S2.p x) : Sv Er S OO σ t Fd m := fun H D w s P => h H D w (hs _ s) P
theorem ET {t : TS} {o : OE α} {r : Enc α} [z : FrzC o r] [MonoE r] {v : V} {a : α} {C : List XL} {m : Res β} (k : Nat) (hk : OO[k]? = some C) (h : ∀ x, S.p x -> o K x v a C) (hr : Sv Er (S.add K r v a) (OO.set k []) σ t Fd m) : Sv Er S OO σ t Fd m := fun H D w s P => by
  have hp := Ye hk
  have w1 : W (C :: OO.set k []) H := w.of hp
  have hs : XC (hid H OO) (hid H (OO.set k [])) := by
    rw [← Yy hp]
    exact Jo (XC.refl _) fun b hb => by rw [YB]; simp [hb]
  refine hr H D w1.tail ⟨S.mono _ _ hs s, z.frz (h _ s) hs fun c hc => ZQ (w1.cell c hc) ?_⟩ (PZ.tr (fd.tr D) hs P)
  have := w1.nd
  rw [YB] at this
  exact fun hb => (List.nodup_append.mp this).2.2 c.1 (List.mem_map.mpr ⟨c, hc, rfl⟩) c.1 hb rfl
theorem Iy {C D C' : List XL} {H : Hp} {k : Nat} {p : Addr} {o : HO} (w : W (D :: OO) H) (hk : OO[k]? = some C) (hp : p ∈ C.map (·.1)) (hC : (C'.map (·.1)).Perm ((C ++ D).map (·.1))) (ht : ∀ c ∈ C', upd H p o c.1 = some c.2) (hm : ∀ c ∈ C', EI c.2 = true) :
    W (OO.set k C') (upd H p o) /\ hid (upd H p o) (OO.set k C') = hid H (D :: OO) := by
  have hlt : k < OO.length := by
    rcases Nat.lt_or_ge k OO.length with h | h
    · exact h
    · rw [List.getElem?_eq_none h] at hk; cases hk
  have h1 := Ye hk
  have h2 := Ye (OO := OO.set k C') (k := k) (C := C') (by simp [hlt])
  rw [Uu] at h2
  have h3 : (OO.set k C').flatten.Perm (C' ++ (OO.set k []).flatten) := by simpa using h2.symm
  have h4 : (D :: OO).flatten.Perm (D ++ (C ++ (OO.set k []).flatten)) := by
    rw [List.flatten_cons]; exact (by simpa using h1.symm : OO.flatten.Perm (C ++ (OO.set k []).flatten)).append_left D
  have hfl : (fl (OO.set k C')).Perm (fl (D :: OO)) := by
    unfold fl
    refine (h3.map _).trans (List.Perm.trans ?_ (h4.map _).symm)
    simp only [List.map_append]
    refine (hC.append_right _).trans ?_
    simp only [List.map_append]
    rw [← List.append_assoc]
    exact List.perm_append_comm.append_right _
  have nd := w.nd
  refine ⟨⟨fun c hc => ?_, hfl.nodup_iff.mpr nd, fun c hc => ?_⟩, ?_⟩
  · rcases List.mem_append.mp (h3.mem_iff.mp hc) with hc | hc
    · exact ht c hc
    · have hne : c.1 ≠ p := fun e => by
        have nd2 : ((D ++ (C ++ (OO.set k []).flatten)).map (·.1)).Nodup := (h4.map _).nodup_iff.mp nd
        simp only [List.map_append] at nd2
        have nd3 := (List.nodup_append.mp nd2).2.1
        exact (List.nodup_append.mp nd3).2.2 p hp c.1 (List.mem_map.mpr ⟨c, hc, rfl⟩) e.symm
      rw [XR hne]
      exact w.tr c (h4.mem_iff.mpr (by simp [hc]))
  · rcases List.mem_append.mp (h3.mem_iff.mp hc) with hc | hc
    · exact hm c hc
    · exact w.mu c (h4.mem_iff.mpr (by simp [hc]))
  · funext b
    unfold hid
    by_cases hb : b ∈ fl (D :: OO)
    · rw [if_pos hb, if_pos (hfl.mem_iff.mpr hb)]
    · rw [if_neg hb, if_neg fun z => hb (hfl.mem_iff.mp z)]
      refine XR fun e => hb ?_
      rw [e]
      obtain ⟨c, hc, rfl⟩ := List.mem_map.mp hp
      exact VH (h4.mem_iff.mpr (by simp [hc]))
theorem ZT {Cs : List (List XL)} {D : List XL} : (Cs ++ [D]).flatten = Cs.flatten ++ D := by simp
theorem ZB {ta : TE} {o : OE α} [MonoO o] {m : Res α} {f : List α -> Res β} {v : V} {as : List α} {C : List XL} (i k : Nat) (hσ : σ[i]? = some (some v)) (hk : OO[k]? = some C) (hk' : OO'[k]? = some C) (h : ∀ x, S.p x -> oL o K x v as C) (he : Ev K Er S OO OO' σ ta o m)
    (hr : ∀ a C', Sv Er (S.addO K (oL o) v (as ++ [a]) C') (OO'.set k C') σ u Fd (f (as ++ [a]))) : Sv Er S OO σ (Vz (DF (tBM K "list" Ug (Uw i) (XH ta Z4))) u) Fd (m.bind fun a => chk (as.length < sizeLine) (f (as ++ [a]))) := fun H D w s P => by
  obtain ⟨p, xs, Cs, e, q, c⟩ := h _ s
  subst c
  have hH : H p = some (.lst xs) := w.tr (p, .lst xs) (List.mem_flatten.mpr ⟨_, List.mem_of_getElem? hk, List.mem_cons_self⟩)
  refine ⟨v, hσ, by rw [e]; exact .inl ⟨rfl, _, SqL.of hH⟩, he.st w s P fun a y D' H' w' s' ho P' => ?_⟩
  obtain ⟨p', xs', Cs', e2, q2, c2⟩ := h _ s'
  rw [e] at e2; cases e2
  have c3 : (p, HO.lst xs) = (p, HO.lst xs') /\ Cs.flatten = Cs'.flatten := by
    injection c2 with h1 h2
    exact ⟨h1, h2⟩
  obtain ⟨c3, c4⟩ := c3
  cases c3
  have hH' : H' p = some (.lst xs) := w'.tr (p, .lst xs) (by rw [List.flatten_cons]; exact List.mem_append_right _ (List.mem_flatten.mpr ⟨_, List.mem_of_getElem? hk', List.mem_cons_self⟩))
  cases hlt : decide (as.length < sizeLine) with
  | false => rw [chk, if_neg (by simpa using hlt)] at P'; exact P'.elim
  | true =>
    have hlt' : as.length < sizeLine := by simpa using hlt
    rw [Xy hlt'] at P'
    have wnd := w'.nd
    have hcell : ∀ c ∈ (p, HO.lst (xs ++ [y])) :: (Cs' ++ [D']).flatten, upd H' p (.lst (xs ++ [y])) c.1 = some c.2 := fun c hc => by
      rcases List.mem_cons.mp hc with rfl | hc
      · exact YQ
      · have hp1 := Ye hk'
        have w3 : W [D' ++ (((p, HO.lst xs) :: Cs.flatten) ++ (OO'.set k []).flatten)] H' := w'.of (by
          simp only [List.flatten_cons, List.flatten_nil, List.append_nil]
          exact (by simpa using hp1 : (((p, HO.lst xs) :: Cs.flatten) ++ (OO'.set k []).flatten).Perm OO'.flatten).append_left D')
        have hin : c ∈ D' ++ (((p, HO.lst xs) :: Cs.flatten) ++ (OO'.set k []).flatten) := by
          rw [ZT, List.mem_append] at hc
          rcases hc with hc | hc
          · rw [← c4] at hc; simp [hc]
          · simp [hc]
        have hne : c.1 ≠ p := fun ee => by
          have nd3 := w3.nd
          rw [ZT, List.mem_append, ← c4] at hc
          simp only [fl, List.flatten_cons, List.flatten_nil, List.append_nil, List.map_append, List.cons_append, List.map_cons] at nd3
          rw [List.nodup_append] at nd3
          obtain ⟨_, n2, n3⟩ := nd3
          rcases hc with hc | hc
          · exact (List.nodup_cons.mp n2).1 (List.mem_append_left _ (List.mem_map.mpr ⟨c, hc, ee⟩))
          · exact n3 c.1 (List.mem_map.mpr ⟨c, hc, rfl⟩) p List.mem_cons_self ee
        rw [XR hne]
        exact w3.tr c (by simpa using hin)
    obtain ⟨w4, h4⟩ := Iy (C' := (p, .lst (xs ++ [y])) :: (Cs' ++ [D']).flatten) w' hk' List.mem_cons_self (by simp [ZT, c4]) hcell (fun c hc => by
      rcases List.mem_cons.mp hc with rfl | hc
      · rfl
      · rw [ZT, List.mem_append, ← c4] at hc
        rcases hc with hc | hc
        · exact w'.mu c (by rw [List.flatten_cons]; exact List.mem_append_right _ (List.mem_flatten.mpr ⟨_, List.mem_of_getElem? hk', List.mem_cons_of_mem _ hc⟩))
        · exact w'.mu c (by rw [List.flatten_cons]; exact List.mem_append_left _ hc))
    refine ⟨p, xs, y, e, rfl, hH', by rw [(P3.len q).1]; exact hlt', ?_⟩
    refine hr a _ _ D w4 ?_ (by rw [h4]; exact P')
    rw [h4]
    exact ⟨s', ⟨p, xs ++ [y], Cs' ++ [D'], e, q2.snoc ho, rfl⟩⟩
end
end L2
namespace L2
open PySem PySem.Spec PyProof.Rows
section
variable {K : PySem.W.Frag} {Er : Exc -> Hp -> Prop} {S : SC} {OO OO' OO2 : List (List XL)} {σ : St} {α β γ ρ ι δ ε : Type}
variable {Fd : Ends -> β -> Hp -> Prop} [fd : FdOk Fd] {u : TS}
noncomputable def forN : List α -> γ -> (γ -> α -> Res γ) -> Res γ
  | [], g, _ => .ok g
  | a :: as, g, f => (f g a).bind fun g' => forN as g' f
noncomputable def forC : List α -> γ -> (γ -> α -> Res (Ctl ρ γ)) -> Res (Ctl ρ γ)
  | [], g, _ => .ok (.nx g)
  | a :: as, g, f => (f g a).bind fun c => match c with
    | .ret r => .ok (.ret r)
    | .nx g' => forC as g' f
theorem YV {m : Res α} {f : α -> Res β} {g : β -> Res γ} : (m.bind f).bind g = m.bind fun a => (f a).bind g := by cases m <;> rfl
structure Tgt (K : PySem.W.Frag) (OO : List (List XL)) (g : TG) (r : Enc α) (κ : Type) where
  set : κ -> St -> St
  sc : α -> κ -> SC -> SC
  ok : ∀ {H : Hp} {v : V} {a : α} {σ : St} {S : SC} {Q : St -> Hp -> Prop}, r K (hid H OO) v a -> S.p (hid H OO) -> (∀ x, (sc a x S).p (hid H OO) -> Q (set x σ) H) -> g v σ H Q
noncomputable def tg1 {r : Enc α} [MonoE r] (i : Nat) : Tgt K OO (Zh i) r V where
  set := fun v σ => σ.set i (some v)
  sc := fun a v S => S.add K r v a
  ok := fun {H v a σ S Q} hr hs hq => hq v ⟨hs, hr⟩
noncomputable def tg2 {r : Enc α} {q : Enc β} [MonoE r] [MonoE q] (i j : Nat) : Tgt K OO (Bb K 2 (Z9 (Zh i) (Z9 (Zh j) Eh))) (rP2 r q) (V × V) where
  set := fun v σ => (σ.set i (some v.1)).set j (some v.2)
  sc := fun a v S => (S.add K r v.1 a.1).add K q v.2 a.2
  ok := fun {H v a σ S Q} ⟨p, x, y, e, h, h1, h2⟩ hs hq => ⟨p, _, e, SqT.of (XS _ _ h), rfl, x, [y], rfl, y, [], rfl, rfl, hq (x, y) ⟨⟨hs, h1⟩, h2⟩⟩
noncomputable def tg3 {r : Enc α} {q : Enc β} {t : Enc γ} [MonoE r] [MonoE q] [MonoE t] (i j k : Nat) : Tgt K OO (Bb K 3 (Z9 (Zh i) (Z9 (Zh j) (Z9 (Zh k) Eh)))) (rP3 r q t) (V × V × V) where
  set := fun v σ => ((σ.set i (some v.1)).set j (some v.2.1)).set k (some v.2.2)
  sc := fun a v S => ((S.add K r v.1 a.1).add K q v.2.1 a.2.1).add K t v.2.2 a.2.2
  ok := fun {H v a σ S Q} ⟨p, x, y, z, e, h, h1, h2, h3⟩ hs hq => ⟨p, _, e, SqT.of (XS _ _ h), rfl, x, [y, z], rfl, y, [z], rfl, z, [], rfl, rfl, hq (x, y, z) ⟨⟨⟨hs, h1⟩, h2⟩, h3⟩⟩
structure Walk (K : PySem.W.Frag) (Er : Exc -> Hp -> Prop) (S : SC) (OO : List (List XL)) (σ : St) (wi : TI) (r : Enc α) (m : Res (List α)) : Prop where
  ok : ∀ {H : Hp} {R : It -> Hp -> Prop}, W OO H -> S.p (hid H OO) -> PZ Er (fun as H => ∀ J H', XC H H' ->
      (∀ (i : Nat) a, as[i]? = some a -> ∀ OO2 H2, W OO2 H2 -> XC (hid H' OO) (hid H2 OO2) -> J.go i H2 /\ ∀ x H3, J.yld i H2 x H3 -> XC H2 H3 /\ r K (hid H3 OO2) x a) ->
      (∀ OO2 H2, W OO2 H2 -> XC (hid H' OO) (hid H2 OO2) -> J.stop as.length H2) -> R J H') H m -> wi σ H R
theorem XG {te : TE} {r : Enc α} [z : MonoE r] {m : Res (List α)} (he : EvS K Er S OO σ te (rV r) m) : Walk K Er S OO σ (Ea K te) r m := ⟨fun {H R} w s P => by
  refine he H _ w s (P.imp fun as _ h v H' s' ⟨p, xs, e, hp, pr⟩ => ⟨p, e, ⟨xs, SqL.of (XS _ _ hp)⟩, h _ H' s' ?_ ?_⟩)
  · intro i a ha OO2 H2 w2 m2
    obtain ⟨x, hx, rx⟩ := Paired.getR pr ha
    have hq : SqL K H2 p xs := SqL.of (XS _ _ (m2 _ _ hp))
    refine ⟨⟨xs, x, hq, hx⟩, fun y H3 ⟨e3, hy⟩ => ?_⟩
    subst e3
    refine ⟨XC.refl _, ?_⟩
    have := hy xs hq
    rw [hx] at this
    cases this
    exact z.mono m2 rx
  · intro OO2 H2 w2 m2
    exact ⟨xs, SqL.of (XS _ _ (m2 _ _ hp)), by rw [Paired.len pr]; exact Nat.le_refl _⟩⟩
noncomputable def Ki (as : List α) : List (Int × α) := (List.range as.length).map (fun (i : Nat) => (i : Int)) |>.zip as
theorem U0 {as : List α} {i : Nat} {p : Int × α} (h : (Ki as)[i]? = some p) : p.1 = (i : Int) /\ as[i]? = some p.2 := by
  unfold Ki at h
  rw [List.getElem?_zip_eq_some] at h
  obtain ⟨h1, h2⟩ := h
  rw [List.getElem?_map] at h1
  have hlt : i < as.length := by
    rcases Nat.lt_or_ge i as.length with q | q
    · exact q
    · rw [List.getElem?_eq_none q] at h2; cases h2
  rw [List.getElem?_range hlt] at h1
  exact ⟨(Option.some.inj h1).symm, h2⟩
theorem Dq {as : List α} : (Ki as).length = as.length := by simp [Ki]
theorem Fh {te : TE} {r : Enc α} [z : MonoE r] {m : Res (List α)} (he : EvS K Er S OO σ te (rV r) m) : Walk K Er S OO σ (EL K te) (rP2 Xa r) (m.bind fun as => .ok (Ki as)) := ⟨fun {H R} w s P => by
  refine he H _ w s ?_
  cases em : m with
  | bad => rw [em] at P; exact P
  | err x => rw [em] at P; exact P
  | ok as =>
    rw [em] at P
    intro v H' s' ⟨p, xs, e, hp, pr⟩
    refine ⟨p, e, ⟨xs, SqL.of (XS _ _ hp)⟩, P _ H' s' ?_ ?_⟩
    · intro i a ha OO2 H2 w2 m2
      obtain ⟨ha1, ha2⟩ := U0 ha
      obtain ⟨x, hx, rx⟩ := Paired.getR pr ha2
      have hq : SqL K H2 p xs := SqL.of (XS _ _ (m2 _ _ hp))
      refine ⟨⟨xs, x, hq, hx⟩, fun y H3 h3 => ?_⟩
      obtain ⟨b, x', rfl, hb, rfl, hy⟩ := h3
      have := hy xs hq
      rw [hx] at this
      cases this
      refine ⟨XY hb _, ⟨b, .int i, x, rfl, QP w2 hb, by show V.int _ = V.int _; rw [ha1], z.mono (m2.trans (Xl (XY hb _))) rx⟩⟩
    · intro OO2 H2 w2 m2
      exact ⟨xs, SqL.of (XS _ _ (m2 _ _ hp)), by rw [Dq, Paired.len pr]; exact Nat.le_refl _⟩⟩
theorem G7 {lo hi : Int} {i : Nat} {a : Int} (h : (Qm lo hi)[i]? = some a) : a = lo + i /\ i < (hi - lo).toNat := by
  unfold Qm at h
  rw [List.getElem?_map] at h
  rcases Nat.lt_or_ge i (hi - lo).toNat with q | q
  · rw [List.getElem?_range q] at h; exact ⟨(Option.some.inj h).symm, q⟩
  · rw [List.getElem?_eq_none (by simpa using q)] at h; cases h
theorem GU {lo hi : Int} : (Qm lo hi).length = (hi - lo).toNat := by simp [Qm]
noncomputable def VF (lo hi : Int) : Res (List Int) := chk (-(2 ^ 62) <= lo /\ lo < 2 ^ 62 /\ -(2 ^ 62) <= hi /\ hi < 2 ^ 62) (.ok (Qm lo hi))
theorem XJ {te : TE} {m : Res Int} (he : EvB K Er S OO σ te Xa m) : Walk K Er S OO σ (EJ (XH te Z4)) Xa (m.bind fun n => VF 0 n) := ⟨fun {H R} w s P =>
  he.run w s (fun as H H' s' h J H2 s2 => h J H2 (s'.trans s2)) P fun n v H1 s1 w1 q1 r1 P1 => by
    obtain ⟨c, hc, P2⟩ := P1.okOf fun x => QT
    obtain ⟨⟨_, _, h1, h2⟩, h3⟩ := ZP hc
    cases h3
    refine ⟨n, by rw [show v = .int n from r1], h1, h2, P2 _ H1 (XC.refl _) (fun i a ha OO2 H2 w2 m2 => ?_) fun OO2 H2 w2 m2 => ?_⟩
    · obtain ⟨e1, e2⟩ := G7 ha
      rw [Int.sub_zero] at e2
      refine ⟨e2, fun x H3 ⟨e3, e4⟩ => ?_⟩
      subst e3
      exact ⟨XC.refl _, by rw [e4, e1]; rfl⟩
    · show n.toNat <= _
      rw [GU, Int.sub_zero]; exact Nat.le_refl _⟩
theorem YC {wi : TI} {g : TG} {tb : TS} {r : Enc α} {κ : Type} {m : Res (List α)} {body : γ -> α -> Res γ} {f : γ -> Res β} (J : Jn γ ι) (T : ∀ OO, Tgt K OO g r κ) (x0 : ι) (g0 : γ) (he : Walk K Er S OO σ wi r m) (h1 : OO = J.oo x0) (h2 : σ = J.ss x0) (h3 : ∀ h, S.p h -> (J.sc g0 x0).p h)
    (hb : ∀ g x a v, Sv Er ((T (J.oo x)).sc a v (J.sc g x)) (J.oo x) ((T (J.oo x)).set v (J.ss x)) tb (FNd J) (body g a))
    (hr : ∀ g x, Sv Er (J.sc g x) (J.oo x) (J.ss x) u Fd (f g)) : Sv Er S OO σ (Vz (HX wi g tb) u) Fd (m.bind fun as => (forN as g0 body).bind f) := fun H D w s P => by
  refine he.ok w s ?_
  cases em : m with
  | bad => rw [em] at P; exact P
  | err x => rw [em] at P; exact fun H' s' => P H' (XS.trans s')
  | ok as =>
    rw [em] at P
    have P : PZ Er (Fd D) (hid H OO) ((forN as g0 body).bind f) := P
    intro It H' s' hgo hstop
    refine ⟨fun i mm σ' H2 => mm = as.length - i /\ i <= as.length /\ ∃ x gg, σ' = J.ss x /\ W (J.oo x) H2 /\ XC (hid H' OO) (hid H2 (J.oo x)) /\ (J.sc gg x).p (hid H2 (J.oo x)) /\ PZ Er (Fd D) (hid H2 (J.oo x)) ((forN (as.drop i) gg body).bind f), ⟨as.length, rfl, Nat.zero_le _, x0, g0, h2, ?_, ?_, ?_, ?_⟩, ?_⟩
    · rw [← h1]; exact w.keep s'
    · rw [← h1]; exact XC.refl _
    · rw [← h1]; exact h3 _ (S.mono _ _ (Xl s') s)
    · rw [← h1, List.drop_zero]; exact PZ.tr (fd.tr D) (Xl s') P
    · rintro i mm σ' H2 ⟨rfl, hi, x, gg, rfl, w2, m2, sc2, P2⟩
      by_cases hlt : i < as.length
      · right
        have ha : as[i]? = some as[i] := by simp [hlt]
        obtain ⟨h4, h5⟩ := hgo i _ ha (J.oo x) H2 w2 m2
        refine ⟨h4, fun σ3 H3 => ∃ x gg, σ3 = J.ss x /\ W (J.oo x) H3 /\ XC (hid H' OO) (hid H3 (J.oo x)) /\ (J.sc gg x).p (hid H3 (J.oo x)) /\ PZ Er (Fd D) (hid H3 (J.oo x)) ((forN (as.drop (i + 1)) gg body).bind f), fun σ3 H3 q => ⟨as.length - (i + 1), by omega, rfl, hlt, q⟩, fun y H3 hy => ?_⟩
        obtain ⟨s3, r3⟩ := h5 y H3 hy
        have w3 := w2.keep s3
        have m3 := Xl (OO := J.oo x) s3
        refine (T (J.oo x)).ok r3 ((J.sc gg x).mono _ _ m3 sc2) fun v hv => hb gg x as[i] v H3 _ w3 hv ?_
        rw [List.drop_eq_getElem_cons hlt] at P2
        have P3 : PZ Er (Fd D) (hid H2 (J.oo x)) ((body gg as[i]).bind fun g' => (forN (as.drop (i + 1)) g' body).bind f) := by rw [← YV]; exact P2
        cases eb : body gg as[i] with
        | bad => rw [eb] at P3; exact P3
        | err x => rw [eb] at P3; exact fun H4 s4 => P3 H4 (m3.trans s4)
        | ok g' =>
          rw [eb] at P3
          exact fun x' H4 w4 m4 sc4 => ⟨x', g', rfl, w4, m2.trans (m3.trans m4), sc4, PZ.tr (fd.tr D) (m3.trans m4) P3⟩
      · left
        have e : i = as.length := by omega
        subst e
        refine ⟨hstop (J.oo x) H2 w2 m2, hr gg x H2 D w2 sc2 ?_⟩
        rw [List.drop_length] at P2
        exact P2
theorem J7 {o : OE ρ} {wi : TI} {g : TG} {tb : TS} {r : Enc α} {κ : Type} {m : Res (List α)} {body : γ -> α -> Res (Ctl ρ γ)} {f : γ -> Res ρ} (J : Jn γ ι) (T : ∀ OO, Tgt K OO g r κ) (x0 : ι) (g0 : γ) (he : Walk K Er S OO σ wi r m) (h1 : OO = J.oo x0) (h2 : σ = J.ss x0) (h3 : ∀ h, S.p h -> (J.sc g0 x0).p h)
    (hb : ∀ g x a v, Sv Er ((T (J.oo x)).sc a v (J.sc g x)) (J.oo x) ((T (J.oo x)).set v (J.ss x)) tb (FCd K o J) (body g a))
    (hr : ∀ g x, Sv Er (J.sc g x) (J.oo x) (J.ss x) u (FTd K o) (f g)) : Sv Er S OO σ (Vz (HX wi g tb) u) (FTd K o) (m.bind fun as => (forC as g0 body).bind (JE f)) := fun H D w s P => by
  refine he.ok w s ?_
  cases em : m with
  | bad => rw [em] at P; exact P
  | err x => rw [em] at P; exact fun H' s' => P H' (XS.trans s')
  | ok as =>
    rw [em] at P
    have P : PZ Er (FTd K o D) (hid H OO) ((forC as g0 body).bind (JE f)) := P
    intro It H' s' hgo hstop
    refine ⟨fun i mm σ' H2 => mm = as.length - i /\ i <= as.length /\ ∃ x gg, σ' = J.ss x /\ W (J.oo x) H2 /\ XC (hid H' OO) (hid H2 (J.oo x)) /\ (J.sc gg x).p (hid H2 (J.oo x)) /\ PZ Er (FTd K o D) (hid H2 (J.oo x)) ((forC (as.drop i) gg body).bind (JE f)), ⟨as.length, rfl, Nat.zero_le _, x0, g0, h2, ?_, ?_, ?_, ?_⟩, ?_⟩
    · rw [← h1]; exact w.keep s'
    · rw [← h1]; exact XC.refl _
    · rw [← h1]; exact h3 _ (S.mono _ _ (Xl s') s)
    · rw [← h1, List.drop_zero]; exact PZ.tr (FdOk.tr D) (Xl s') P
    · rintro i mm σ' H2 ⟨rfl, hi, x, gg, rfl, w2, m2, sc2, P2⟩
      by_cases hlt : i < as.length
      · right
        have ha : as[i]? = some as[i] := by simp [hlt]
        obtain ⟨h4, h5⟩ := hgo i _ ha (J.oo x) H2 w2 m2
        refine ⟨h4, fun σ3 H3 => ∃ x gg, σ3 = J.ss x /\ W (J.oo x) H3 /\ XC (hid H' OO) (hid H3 (J.oo x)) /\ (J.sc gg x).p (hid H3 (J.oo x)) /\ PZ Er (FTd K o D) (hid H3 (J.oo x)) ((forC (as.drop (i + 1)) gg body).bind (JE f)), fun σ3 H3 q => ⟨as.length - (i + 1), by omega, rfl, hlt, q⟩, fun y H3 hy => ?_⟩
        obtain ⟨s3, r3⟩ := h5 y H3 hy
        have w3 := w2.keep s3
        have m3 := Xl (OO := J.oo x) s3
        refine (T (J.oo x)).ok r3 ((J.sc gg x).mono _ _ m3 sc2) fun v hv => hb gg x as[i] v H3 _ w3 hv ?_
        rw [List.drop_eq_getElem_cons hlt] at P2
        have P3 : PZ Er (FTd K o D) (hid H2 (J.oo x)) ((body gg as[i]).bind fun c => (match c with
          | .ret r => Res.ok (Ctl.ret r)
          | .nx g' => forC (as.drop (i + 1)) g' body).bind (JE f)) := by rw [← YV]; exact P2
        cases eb : body gg as[i] with
        | bad => rw [eb] at P3; exact P3
        | err x => rw [eb] at P3; exact fun H4 s4 => P3 H4 (m3.trans s4)
        | ok c =>
          rw [eb] at P3
          cases c with
          | ret r => exact FdOk.tr (Fd := FTd K o) D r _ _ m3 P3
          | nx g' => exact fun x' H4 w4 m4 sc4 => ⟨x', g', rfl, w4, m2.trans (m3.trans m4), sc4, PZ.tr (FdOk.tr D) (m3.trans m4) P3⟩
      · left
        have e : i = as.length := by omega
        subst e
        refine ⟨hstop (J.oo x) H2 w2 m2, hr gg x H2 D w2 sc2 ?_⟩
        rw [List.drop_length] at P2
        exact P2
noncomputable def QN : Nat -> γ -> (γ -> Res Bool) -> (γ -> Res γ) -> Res γ
  | 0, _, _, _ => .bad
  | n + 1, g, c, f => (c g).bind fun b => if b = true then (f g).bind fun g' => QN n g' c f else .ok g
theorem Uh {c : TT} {tb : TS} {mc : γ -> Res Bool} {body : γ -> Res γ} {f : γ -> Res β} (J : Jn γ ι) (n : Nat) (x0 : ι) (g0 : γ) (h1 : OO = J.oo x0) (h2 : σ = J.ss x0) (h3 : ∀ h, S.p h -> (J.sc g0 x0).p h)
    (hc : ∀ g x, EvT Er (J.sc g x) (J.oo x) (J.ss x) c (mc g)) (hb : ∀ g x, Sv Er (J.sc g x) (J.oo x) (J.ss x) tb (FNd J) (body g))
    (hr : ∀ g x, Sv Er (J.sc g x) (J.oo x) (J.ss x) u Fd (f g)) : Sv Er S OO σ (Vz (Bp c tb) u) Fd ((QN n g0 mc body).bind f) := fun H D w s P => by
  refine ⟨fun mm σ' H2 => ∃ x gg, σ' = J.ss x /\ W (J.oo x) H2 /\ (J.sc gg x).p (hid H2 (J.oo x)) /\ PZ Er (Fd D) (hid H2 (J.oo x)) ((QN mm gg mc body).bind f), ⟨n, x0, g0, h2, by rw [← h1]; exact w, by rw [← h1]; exact h3 _ s, by rw [← h1]; exact P⟩, ?_⟩
  rintro mm σ' H2 ⟨x, gg, rfl, w2, sc2, P2⟩
  cases mm with
  | zero => exact P2.elim
  | succ mm =>
    have P3 : PZ Er (Fd D) (hid H2 (J.oo x)) ((mc gg).bind fun b => (if b = true then (body gg).bind fun g' => QN mm g' mc body else .ok gg).bind f) := by rw [← YV]; exact P2
    refine (hc gg x).st w2 sc2 P3 fun b H3 w3 sc3 P4 => ?_
    cases b with
    | false => exact hr gg x H3 D w3 sc3 P4
    | true =>
      rw [if_pos rfl] at P4 ⊢
      refine ⟨fun σ3 H4 => ∃ x gg, σ3 = J.ss x /\ W (J.oo x) H4 /\ (J.sc gg x).p (hid H4 (J.oo x)) /\ PZ Er (Fd D) (hid H4 (J.oo x)) ((QN mm gg mc body).bind f), fun σ3 H4 q => ⟨mm, Nat.lt_succ_self _, q⟩, hb gg x H3 _ w3 sc3 ?_⟩
      rw [YV] at P4
      cases eb : body gg with
      | bad => rw [eb] at P4; exact P4
      | err x => rw [eb] at P4; exact P4
      | ok g' =>
        rw [eb] at P4
        exact fun x' H5 w5 m5 sc5 => ⟨x', g', rfl, w5, sc5, PZ.tr (fd.tr D) m5 P4⟩
noncomputable def Fa (as : List α) (f : α -> Res β) : Res (List β) := match as with
  | [] => .ok []
  | a :: as => (f a).bind fun b => (Fa as f).bind fun bs => .ok (b :: bs)
noncomputable def Kp (as : List α) (f : α -> Res β) : Res (List β) := chk (as.length <= sizeLine) (Fa as f)
noncomputable def K5 (as : List α) (c : α -> Res Bool) (f : α -> Res β) : Res (List β) := match as with
  | [] => .ok []
  | a :: as => (c a).bind fun b => if b = true then (f a).bind fun b => (K5 as c f).bind fun bs => .ok (b :: bs) else K5 as c f
noncomputable def EH (as : List α) (c : α -> Res Bool) (f : α -> Res β) : Res (List β) := chk (as.length <= sizeLine) (K5 as c f)
theorem PZ.chk {F : β -> Hp -> Prop} {H : Hp} {c : Prop} [Decidable c] {m : Res β} (P : PZ Er F H (chk c m)) : c /\ PZ Er F H m := by
  unfold L2.chk at P; split at P
  · exact ⟨by assumption, P⟩
  · exact P.elim
theorem By {o : OE α} [z : MonoO o] {xs : List V} {as : List α} {Cs : List (List XL)} {H H0 : Hp} {Q : VK} (w : W (Cs.flatten :: OO) H) (m0 : XC (hid H0 OO) (hid H (Cs.flatten :: OO))) (s0 : XC H0 H) (pr : P3 (o K (hid H (Cs.flatten :: OO))) xs as Cs) (P : FO K OO OO (oL o) Q as H0) : ∀ p, H p = none -> Q (.ref p) (upd H p (.lst xs)) := fun p hp => by
  have hn := Ua (OO := Cs.flatten :: OO) hp (o := .lst xs)
  have wn := w.new hp (o := .lst xs) rfl
  have pe : (((p, HO.lst xs) :: Cs.flatten) :: OO).flatten.Perm ([(p, HO.lst xs)] :: Cs.flatten :: OO).flatten := by simp
  refine P (.ref p) ((p, .lst xs) :: Cs.flatten) _ (s0.trans (XY hp _)) (wn.of pe) ?_ ?_
  · rw [Yy pe]; exact m0.trans hn
  · rw [Yy pe]
    exact ⟨p, xs, Cs, rfl, pr.imp fun _ _ _ h => z.mono hn h, rfl⟩
theorem Zx {o : OE β} [z : MonoO o] {wi : TI} {g : TG} {te : TE} {r : Enc α} {κ : Type} {m : Res (List α)} {f : α -> Res β} {n : Nat} {caps : List (Nat × Str)} (T : ∀ OO, Tgt K OO g r κ) (he : Walk K Er S OO σ wi r m)
    (hb : ∀ C a v, Ev K Er ((T (C :: OO)).sc a v S) (C :: OO) (C :: OO) ((T (C :: OO)).set v (Zo n caps σ)) te o (f a)) : Ev K Er S OO OO σ (Dk n caps wi g Uv te) (oL o) (m.bind fun as => Kp as f) := fun H Q w s P => by
  refine he.ok w s ?_
  cases em : m with
  | bad => rw [em] at P; exact P
  | err x => rw [em] at P; exact P
  | ok as =>
    rw [em] at P
    obtain ⟨hsz, P⟩ := PZ.chk (show PZ Er _ H (chk (as.length <= sizeLine) (Fa as f)) from P)
    intro It H' s' hgo hstop
    -- what is left: the Ql of the items, then all
    refine ⟨fun i mm ys H2 => mm = as.length - i /\ i <= as.length /\ ∃ bs Cs, XC H H2 /\ W (Cs.flatten :: OO) H2 /\ XC (hid H' OO) (hid H2 (Cs.flatten :: OO)) /\ P3 (o K (hid H2 (Cs.flatten :: OO))) ys bs Cs /\ bs.length = i /\ PZ Er (FO K OO OO (oL o) Q) H ((Fa (as.drop i) f).bind fun Ql => .ok (bs ++ Ql)),
      ⟨as.length, rfl, Nat.zero_le _, [], [], s', (w.keep s').nil, by show XC _ (hid H' ([] :: OO)); rw [Zl]; exact XC.refl _, .nil, rfl, ?_⟩, ?_⟩
    · rw [List.drop_zero]
      revert P
      cases Fa as f <;> exact fun z => z
    · rintro i mm ys H2 ⟨rfl, hi, bs, Cs, s2, w2, m2, pr, hlen, P2⟩
      refine ⟨by rw [pr.len.1, hlen]; omega, ?_⟩
      by_cases hlt : i < as.length
      · right
        have ha : as[i]? = some as[i] := by simp [hlt]
        obtain ⟨h4, h5⟩ := hgo i _ ha (Cs.flatten :: OO) H2 w2 m2
        refine ⟨h4, fun ys' H3 => ∃ bs Cs, XC H H3 /\ W (Cs.flatten :: OO) H3 /\ XC (hid H' OO) (hid H3 (Cs.flatten :: OO)) /\ P3 (o K (hid H3 (Cs.flatten :: OO))) ys' bs Cs /\ bs.length = i + 1 /\ PZ Er (FO K OO OO (oL o) Q) H ((Fa (as.drop (i + 1)) f).bind fun Ql => .ok (bs ++ Ql)), fun ys' H3 q => ⟨as.length - (i + 1), by omega, rfl, hlt, q⟩, fun y H3 hy => ?_⟩
        obtain ⟨s3, r3⟩ := h5 y H3 hy
        have w3 := w2.keep s3
        have m3 := Xl (OO := Cs.flatten :: OO) s3
        have sS : S.p (hid H3 (Cs.flatten :: OO)) := S.mono _ _ ((Xl s').trans (m2.trans m3)) s
        refine (T (Cs.flatten :: OO)).ok r3 sS fun v hv => ?_
        show Uv _ _ _
        refine Hq ?_
        rw [List.drop_eq_getElem_cons hlt] at P2
        have P3' : PZ Er (FO K OO OO (oL o) Q) H ((f as[i]).bind fun b => (Fa (as.drop (i + 1)) f).bind fun Ql => .ok (bs ++ b :: Ql)) := by
          have : ((f as[i]).bind fun b => (Fa (as.drop (i + 1)) f).bind fun Ql => Res.ok (bs ++ b :: Ql)) = (Fa (as[i] :: as.drop (i + 1)) f).bind fun Ql => .ok (bs ++ Ql) := by
            show _ = ((f as[i]).bind fun b => (Fa (as.drop (i + 1)) f).bind fun bs => Res.ok (b :: bs)).bind _
            rw [YV]; congr 1; funext b; rw [YV]; rfl
          rw [this]; exact P2
        refine hb Cs.flatten as[i] v H3 _ w3 hv ?_
        cases eb : f as[i] with
        | bad => rw [eb] at P3'; exact P3'
        | err x => rw [eb] at P3'; exact fun H4 s4 => P3' H4 (s2.trans (s3.trans s4))
        | ok b =>
          rw [eb] at P3'
          intro v' C' H4 s4 w4 m4 ho
          have pe : ((Cs ++ [C']).flatten :: OO).flatten.Perm (C' :: Cs.flatten :: OO).flatten := by
            simp only [ZT, List.flatten_cons]
            rw [List.append_assoc, ← List.append_assoc, ← List.append_assoc]
            exact List.perm_append_comm.append_right _
          refine ⟨bs ++ [b], Cs ++ [C'], s2.trans (s3.trans s4), w4.of pe, ?_, ?_, by simp [hlen], ?_⟩
          · rw [Yy pe]; exact m2.trans (m3.trans m4)
          · rw [Yy pe]; exact P3.snoc (pr.imp fun _ _ _ h => z.mono (m3.trans m4) h) ho
          · have P4 : PZ Er (FO K OO OO (oL o) Q) H ((Fa (as.drop (i + 1)) f).bind fun Ql => .ok (bs ++ b :: Ql)) := P3'
            simpa using P4
      · left
        have e : i = as.length := by omega
        subst e
        refine ⟨hstop (Cs.flatten :: OO) H2 w2 m2, ?_⟩
        rw [List.drop_length] at P2
        have P3' : FO K OO OO (oL o) Q (bs ++ []) H := P2
        rw [List.append_nil] at P3'
        exact By (H0 := H) w2 ((Xl s').trans m2) s2 pr P3'
theorem V6 {o : OE β} [z : MonoO o] {wi : TI} {g : TG} {tt : TT} {te : TE} {r : Enc α} {κ : Type} {m : Res (List α)} {c : α -> Res Bool} {f : α -> Res β} {n : Nat} {caps : List (Nat × Str)} (T : ∀ OO, Tgt K OO g r κ) (he : Walk K Er S OO σ wi r m)
    (hc : ∀ C a v, EvT Er ((T (C :: OO)).sc a v S) (C :: OO) ((T (C :: OO)).set v (Zo n caps σ)) tt (c a))
    (hb : ∀ C a v, Ev K Er ((T (C :: OO)).sc a v S) (C :: OO) (C :: OO) ((T (C :: OO)).set v (Zo n caps σ)) te o (f a)) : Ev K Er S OO OO σ (Dk n caps wi g tt te) (oL o) (m.bind fun as => EH as c f) := fun H Q w s P => by
  refine he.ok w s ?_
  cases em : m with
  | bad => rw [em] at P; exact P
  | err x => rw [em] at P; exact P
  | ok as =>
    rw [em] at P
    obtain ⟨hsz, P⟩ := PZ.chk (show PZ Er _ H (chk (as.length <= sizeLine) (K5 as c f)) from P)
    intro It H' s' hgo hstop
    refine ⟨fun i mm ys H2 => mm = as.length - i /\ i <= as.length /\ ∃ bs Cs, XC H H2 /\ W (Cs.flatten :: OO) H2 /\ XC (hid H' OO) (hid H2 (Cs.flatten :: OO)) /\ P3 (o K (hid H2 (Cs.flatten :: OO))) ys bs Cs /\ bs.length <= i /\ PZ Er (FO K OO OO (oL o) Q) H ((K5 (as.drop i) c f).bind fun Ql => .ok (bs ++ Ql)),
      ⟨as.length, rfl, Nat.zero_le _, [], [], s', (w.keep s').nil, by show XC _ (hid H' ([] :: OO)); rw [Zl]; exact XC.refl _, .nil, Nat.zero_le _, ?_⟩, ?_⟩
    · rw [List.drop_zero]
      revert P
      cases K5 as c f <;> exact fun z => z
    · rintro i mm ys H2 ⟨rfl, hi, bs, Cs, s2, w2, m2, pr, hlen, P2⟩
      refine ⟨by rw [pr.len.1]; omega, ?_⟩
      by_cases hlt : i < as.length
      · right
        have ha : as[i]? = some as[i] := by simp [hlt]
        obtain ⟨h4, h5⟩ := hgo i _ ha (Cs.flatten :: OO) H2 w2 m2
        refine ⟨h4, fun ys' H3 => ∃ bs Cs, XC H H3 /\ W (Cs.flatten :: OO) H3 /\ XC (hid H' OO) (hid H3 (Cs.flatten :: OO)) /\ P3 (o K (hid H3 (Cs.flatten :: OO))) ys' bs Cs /\ bs.length <= i + 1 /\ PZ Er (FO K OO OO (oL o) Q) H ((K5 (as.drop (i + 1)) c f).bind fun Ql => .ok (bs ++ Ql)), fun ys' H3 q => ⟨as.length - (i + 1), by omega, rfl, hlt, q⟩, fun y H3 hy => ?_⟩
        obtain ⟨s3, r3⟩ := h5 y H3 hy
        have w3 := w2.keep s3
        have m3 := Xl (OO := Cs.flatten :: OO) s3
        have sS : S.p (hid H3 (Cs.flatten :: OO)) := S.mono _ _ ((Xl s').trans (m2.trans m3)) s
        refine (T (Cs.flatten :: OO)).ok r3 sS fun v hv => ?_
        rw [List.drop_eq_getElem_cons hlt] at P2
        have P3' : PZ Er (FO K OO OO (oL o) Q) H ((c as[i]).bind fun b => (if b = true then (f as[i]).bind fun b => (K5 (as.drop (i + 1)) c f).bind fun bs => .ok (b :: bs) else K5 (as.drop (i + 1)) c f).bind fun Ql => .ok (bs ++ Ql)) := by
          rw [← YV]; exact P2
        refine hc Cs.flatten as[i] v H3 _ w3 hv ?_
        cases ec : c as[i] with
        | bad => rw [ec] at P3'; exact P3'
        | err x => rw [ec] at P3'; exact fun H4 s4 => P3' H4 (s2.trans (s3.trans s4))
        | ok b =>
          rw [ec] at P3'
          intro H4 s4
          have w4 := w3.keep s4
          have m4 := Xl (OO := Cs.flatten :: OO) s4
          cases b with
          | false => exact ⟨bs, Cs, s2.trans (s3.trans s4), w4, m2.trans (m3.trans m4), pr.imp fun _ _ _ h => z.mono (m3.trans m4) h, Nat.le_succ_of_le hlen, P3'⟩
          | true =>
            rw [if_pos rfl]
            have P4 : PZ Er (FO K OO OO (oL o) Q) H ((f as[i]).bind fun b => (K5 (as.drop (i + 1)) c f).bind fun Ql => .ok (bs ++ b :: Ql)) := by
              have : ((f as[i]).bind fun b => (K5 (as.drop (i + 1)) c f).bind fun Ql => Res.ok (bs ++ b :: Ql)) = ((f as[i]).bind fun b => (K5 (as.drop (i + 1)) c f).bind fun bs => Res.ok (b :: bs)).bind fun Ql => .ok (bs ++ Ql) := by
                rw [YV]; congr 1; funext b; rw [YV]; rfl
              rw [this]; exact P3'
            refine hb Cs.flatten as[i] v H4 _ w4 (((T (Cs.flatten :: OO)).sc as[i] v S).mono _ _ m4 hv) ?_
            cases eb : f as[i] with
            | bad => rw [eb] at P4; exact P4
            | err x => rw [eb] at P4; exact fun H5 s5 => P4 H5 (s2.trans (s3.trans (s4.trans s5)))
            | ok b =>
              rw [eb] at P4
              intro v' C' H5 s5 w5 m5 ho
              have pe : ((Cs ++ [C']).flatten :: OO).flatten.Perm (C' :: Cs.flatten :: OO).flatten := by
                simp only [ZT, List.flatten_cons]
                rw [List.append_assoc, ← List.append_assoc, ← List.append_assoc]
                exact List.perm_append_comm.append_right _
              refine ⟨bs ++ [b], Cs ++ [C'], s2.trans (s3.trans (s4.trans s5)), w5.of pe, ?_, ?_, by simpa using hlen, ?_⟩
              · rw [Yy pe]; exact m2.trans (m3.trans (m4.trans m5))
              · rw [Yy pe]; exact P3.snoc (pr.imp fun _ _ _ h => z.mono (m3.trans (m4.trans m5)) h) ho
              · have P5 : PZ Er (FO K OO OO (oL o) Q) H ((K5 (as.drop (i + 1)) c f).bind fun Ql => .ok (bs ++ b :: Ql)) := P4
                simpa using P5
      · left
        have e : i = as.length := by omega
        subst e
        refine ⟨hstop (Cs.flatten :: OO) H2 w2 m2, ?_⟩
        rw [List.drop_length] at P2
        have P3' : FO K OO OO (oL o) Q (bs ++ []) H := P2
        rw [List.append_nil] at P3'
        exact By (H0 := H) w2 ((Xl s').trans m2) s2 pr P3'
noncomputable def QV (as : List α) (i : Int) (a : α) : Res (List α) := match ixN as.length i with
  | some j => .ok (as.set j a)
  | none => .bad
end
end L2
namespace L2
open PySem PySem.Spec PyProof.Rows
section
variable {K : PySem.W.Frag} {Er : Exc -> Hp -> Prop} {S : SC} {OO OO' OO2 : List (List XL)} {σ : St} {α β γ ρ ι δ ε : Type}
variable {Fd : Ends -> β -> Hp -> Prop} [fd : FdOk Fd] {u : TS}
theorem BO {C D C' : List XL} {H : Hp} {k : Nat} {p : Addr} {o : HO} (w : W (D :: OO) H) (hk : OO[k]? = some C) (hp : p ∈ C.map (·.1)) (hp' : p ∈ C'.map (·.1)) (hnd : (C'.map (·.1)).Nodup) (hin : ∀ b ∈ C'.map (·.1), b ∈ (C ++ D).map (·.1)) (ht : ∀ c ∈ C', upd H p o c.1 = some c.2) (hm : ∀ c ∈ C', EI c.2 = true) :
    W (OO.set k C') (upd H p o) /\ XC (hid H (D :: OO)) (hid (upd H p o) (OO.set k C')) := by
  have hlt : k < OO.length := by
    rcases Nat.lt_or_ge k OO.length with h | h
    · exact h
    · rw [List.getElem?_eq_none h] at hk; cases hk
  have h1 := Ye hk
  have h2 := Ye (OO := OO.set k C') (k := k) (C := C') (by simp [hlt])
  rw [Uu] at h2
  have h3 : (OO.set k C').flatten.Perm (C' ++ (OO.set k []).flatten) := by simpa using h2.symm
  have h4 : (D :: OO).flatten.Perm ((C ++ D) ++ (OO.set k []).flatten) := by
    rw [List.flatten_cons]
    refine ((by simpa using h1.symm : OO.flatten.Perm (C ++ (OO.set k []).flatten)).append_left D).trans ?_
    rw [← List.append_assoc]
    exact List.perm_append_comm.append_right _
  have nd2 : (((C ++ D) ++ (OO.set k []).flatten).map (·.1)).Nodup := (h4.map _).nodup_iff.mp w.nd
  rw [List.map_append] at nd2
  obtain ⟨n1, n2, n3⟩ := List.nodup_append.mp nd2
  refine ⟨⟨fun c hc => ?_, ?_, fun c hc => ?_⟩, fun b v q => ?_⟩
  · rcases List.mem_append.mp (h3.mem_iff.mp hc) with hc | hc
    · exact ht c hc
    · have hne : c.1 ≠ p := fun e => n3 p (hin p hp') c.1 (List.mem_map.mpr ⟨c, hc, rfl⟩) e.symm
      rw [XR hne]
      exact w.tr c (h4.mem_iff.mpr (by simp [hc]))
  · refine ((h3.map _).nodup_iff).mpr ?_
    rw [List.map_append]
    exact List.nodup_append.mpr ⟨hnd, n2, fun a ha b hb => n3 a (hin a ha) b hb⟩
  · rcases List.mem_append.mp (h3.mem_iff.mp hc) with hc | hc
    · exact hm c hc
    · exact w.mu c (h4.mem_iff.mpr (by simp [hc]))
  · obtain ⟨q1, q2⟩ := Yv q
    have hbp : b ≠ p := fun e => q2 (by
      rw [e]
      obtain ⟨c, hc, rfl⟩ := List.mem_map.mp hp
      exact VH (h4.mem_iff.mpr (by simp [hc])))
    refine ZQ (by rw [XR hbp]; exact q1) fun z => q2 ?_
    obtain ⟨o', ho'⟩ := DB z
    rcases List.mem_append.mp (h3.mem_iff.mp ho') with hc | hc
    · obtain ⟨c, hc2, e⟩ := List.mem_map.mp (hin b (List.mem_map.mpr ⟨_, hc, rfl⟩))
      rw [← e]
      exact VH (h4.mem_iff.mpr (List.mem_append_left _ hc2))
    · exact VH (c := (b, o')) (h4.mem_iff.mpr (by simp [hc]))
theorem HB {D : List XL} {Cs Cs' : List (List XL)} {H : Hp} {k : Nat} {p : Addr} {xs xs' : List V} (w : W (D :: OO) H) (hk : OO[k]? = some ((p, .lst xs) :: Cs.flatten)) (hin : ∀ c ∈ Cs'.flatten, c ∈ Cs.flatten ++ D) (hnd : (Cs'.flatten.map (·.1)).Nodup) :
    W (OO.set k ((p, .lst xs') :: Cs'.flatten)) (upd H p (.lst xs')) /\ XC (hid H (D :: OO)) (hid (upd H p (.lst xs')) (OO.set k ((p, .lst xs') :: Cs'.flatten))) := by
  have h1 := Ye hk
  have w3 : W [((p, HO.lst xs) :: (Cs.flatten ++ D)) ++ (OO.set k []).flatten] H := w.of (by
    simp only [List.flatten_cons, List.flatten_nil, List.append_nil]
    refine List.Perm.trans ?_ ((by simpa using h1 : (((p, HO.lst xs) :: Cs.flatten) ++ (OO.set k []).flatten).Perm OO.flatten).append_left D)
    rw [← List.append_assoc]
    refine List.Perm.append_right _ ?_
    exact (List.perm_append_comm (l₁ := (p, HO.lst xs) :: Cs.flatten) (l₂ := D)))
  have nd := w3.nd
  simp only [fl, List.flatten_cons, List.flatten_nil, List.append_nil, List.map_append, List.cons_append, List.map_cons] at nd
  have hne : ∀ c ∈ Cs'.flatten, c.1 ≠ p := fun c hc e => by
    refine (List.nodup_cons.mp nd).1 ?_
    rw [← e]
    refine List.mem_append_left _ ?_
    rw [← List.map_append]
    exact List.mem_map.mpr ⟨c, hin c hc, rfl⟩
  refine BO w hk List.mem_cons_self List.mem_cons_self ?_ ?_ ?_ ?_
  · rw [List.map_cons, List.nodup_cons]
    refine ⟨fun z => ?_, hnd⟩
    obtain ⟨c, hc, e⟩ := List.mem_map.mp z
    exact hne c hc e
  · intro b hb
    rcases List.mem_cons.mp hb with rfl | hb
    · exact List.mem_cons_self
    · obtain ⟨c, hc, rfl⟩ := List.mem_map.mp hb
      rw [List.cons_append, List.map_cons]
      exact List.mem_cons_of_mem _ (List.mem_map.mpr ⟨c, hin c hc, rfl⟩)
  · intro c hc
    rcases List.mem_cons.mp hc with rfl | hc
    · exact YQ
    · rw [XR (hne c hc)]
      exact w3.tr c (by
        rw [List.flatten_cons, List.flatten_nil, List.append_nil]
        exact List.mem_append_left _ (List.mem_cons_of_mem _ (hin c hc)))
  · intro c hc
    rcases List.mem_cons.mp hc with rfl | hc
    · rfl
    · exact w3.mu c (by
        rw [List.flatten_cons, List.flatten_nil, List.append_nil]
        exact List.mem_append_left _ (List.mem_cons_of_mem _ (hin c hc)))
theorem Kz {o : OE α} {h : Hp} {p : Addr} {xs : List V} {as : List α} {R : List XL} (q : oL o K h (.ref p) as ((p, .lst xs) :: R)) : ∃ Cs, P3 (o K h) xs as Cs /\ R = Cs.flatten := by
  obtain ⟨p', xs', Cs, e, q, c⟩ := q
  injection c with c1 c2
  injection c1 with c3 c4
  injection c4 with c5
  subst c5
  exact ⟨Cs, q, c2⟩
theorem DL {as : List α} {i : Int} {a : α} {bs : List α} (h : QV as i a = .ok bs) : ∃ j, ixN as.length i = some j /\ bs = as.set j a := by
  unfold QV at h; split at h
  · cases h; exact ⟨_, by assumption, rfl⟩
  · cases h
theorem Cd {as : List α} {i : Int} {a : α} {x : Exc} : QV as i a ≠ .err x := by unfold QV; split <;> exact fun z => nomatch z
theorem Jq {l r m : List XL} (h : (l ++ r).Perm m) (n : (m.map (·.1)).Nodup) : (l.map (·.1)).Nodup := by
  have : ((l ++ r).map (·.1)).Nodup := (h.map _).nodup_iff.mpr n
  rw [List.map_append] at this
  exact (List.nodup_append.mp this).1
theorem Gu {Cs : List (List XL)} {j : Nat} {D : List XL} (hj : j < Cs.length) : ((Cs.set j D).flatten ++ Cs[j]).Perm (Cs.flatten ++ D) := by
  have h1 := Ye (OO := Cs) (k := j) (C := Cs[j]) (by simp [hj])
  have h2 := Ye (OO := Cs.set j D) (k := j) (C := D) (by simp [hj])
  rw [Uu] at h2
  have h3 : (Cs.set j D).flatten.Perm (D ++ (Cs.set j []).flatten) := by simpa using h2.symm
  have h4 : Cs.flatten.Perm (Cs[j] ++ (Cs.set j []).flatten) := by simpa using h1.symm
  refine (h3.append_right _).trans (List.Perm.trans ?_ (h4.append_right _).symm)
  refine List.perm_append_comm.trans ((List.perm_append_comm.append_left _).trans ?_)
  rw [List.append_assoc]
theorem QL {D : List XL} {Cs : List (List XL)} {H : Hp} {k : Nat} {p : Addr} {xs : List V} (w : W (D :: OO) H) (hk : OO[k]? = some ((p, .lst xs) :: Cs.flatten)) : ((Cs.flatten ++ D).map (·.1)).Nodup := by
  have h1 := Ye hk
  have w3 : W [((p, HO.lst xs) :: (Cs.flatten ++ D)) ++ (OO.set k []).flatten] H := w.of (by
    simp only [List.flatten_cons, List.flatten_nil, List.append_nil]
    refine List.Perm.trans ?_ ((by simpa using h1 : (((p, HO.lst xs) :: Cs.flatten) ++ (OO.set k []).flatten).Perm OO.flatten).append_left D)
    rw [← List.append_assoc]
    refine List.Perm.append_right _ ?_
    exact (List.perm_append_comm (l₁ := (p, HO.lst xs) :: Cs.flatten) (l₂ := D)))
  have nd := w3.nd
  simp only [fl, List.flatten_cons, List.flatten_nil, List.append_nil, List.cons_append, List.map_cons] at nd
  have n2 := (List.nodup_cons.mp nd).2
  rw [List.map_append] at n2
  exact (List.nodup_append.mp n2).1
theorem JS {ta ti : TE} {o : OE α} [MonoO o] {m : Res α} {mi : Res Int} {f : List α -> Res β} {v : V} {as : List α} {C : List XL} (i k : Nat) (hσ : σ[i]? = some (some v)) (hk' : OO'[k]? = some C) (h : ∀ x, S.p x -> oL o K x v as C) (he : Ev K Er S OO OO' σ ta o m)
    (hi : ∀ D, EvB K Er S (D :: OO') σ ti Xa mi)
    (hr : ∀ bs C', Sv Er (S.addO K (oL o) v bs C') (OO'.set k C') σ u Fd (f bs)) : Sv Er S OO σ (Vz (Cr ta (HU (Uw i) ti Ei)) u) Fd (m.bind fun a => mi.bind fun j => (QV as j a).bind f) := fun H D w s P =>
  he.st w s P fun a y D' H' w' s' ho P' => ⟨v, hσ, (hi D').st w' s' P' fun j z H2 s2 w2 q2 r2 P2 => by
    obtain ⟨p, xs, Cs, e, q, c⟩ := h _ q2
    subst c
    have hH : H2 p = some (.lst xs) := w2.tr (p, .lst xs) (by rw [List.flatten_cons]; exact List.mem_append_right _ (List.mem_flatten.mpr ⟨_, List.mem_of_getElem? hk', List.mem_cons_self⟩))
    cases es : QV as j a with
    | bad => rw [es] at P2; exact P2.elim
    | err x => exact absurd es Cd
    | ok bs =>
      rw [es] at P2
      obtain ⟨jj, h1, rfl⟩ := DL es
      have hjl : jj < as.length := by
        unfold ixN at h1
        split at h1
        · split at h1
          · cases h1; omega
          · cases h1
        · split at h1
          · cases h1; omega
          · cases h1
      have hjC : jj < Cs.length := by rw [q.len.2]; exact hjl
      have hp := Gu (Cs := Cs) (j := jj) (D := D') hjC
      obtain ⟨w3, m3⟩ := HB (xs' := xs.set jj y) (Cs' := Cs.set jj D') w2 hk' (fun c hc => hp.mem_iff.mp (List.mem_append_left _ hc)) (Jq hp (QL w2 hk'))
      refine ⟨p, xs, j, jj, e, r2, hH, by rw [q.len.1]; exact h1, hr _ _ _ D w3 ⟨S.mono _ _ m3 q2, ⟨p, _, _, e, P3.imp (fun _ _ _ z => MonoO.mono m3 z) (P3.set (MonoO.mono (Xl s2) ho) jj q), rfl⟩⟩ (PZ.tr (fd.tr D) m3 P2)⟩⟩
theorem Hw {ta : TE} {o : OE α} [MonoO o] {m : Res (List α)} {f : List α -> Res β} {v : V} {as : List α} {C : List XL} (i k : Nat) (hσ : σ[i]? = some (some v)) (hk : OO[k]? = some C) (hk' : OO'[k]? = some C) (h : ∀ x, S.p x -> oL o K x v as C) (he : Ev K Er S OO OO' σ ta (oL o) m)
    (hr : ∀ bs C', Sv Er (S.addO K (oL o) v (as ++ bs) C') (OO'.set k C') σ u Fd (f (as ++ bs))) : Sv Er S OO σ (Vz (DF (tBM K "list" DU (Uw i) (XH ta Z4))) u) Fd (m.bind fun bs => chk (as.length + bs.length <= sizeLine) (f (as ++ bs))) := fun H D w s P => by
  obtain ⟨p, xs, Cs, e, q, c⟩ := h _ s
  subst c
  have hH : H p = some (.lst xs) := w.tr (p, .lst xs) (List.mem_flatten.mpr ⟨_, List.mem_of_getElem? hk, List.mem_cons_self⟩)
  refine ⟨v, hσ, by rw [e]; exact .inl ⟨rfl, _, SqL.of hH⟩, he.st w s P fun bs y D' H' w' s' ho P' => ?_⟩
  obtain ⟨hsz, P'⟩ := PZ.chk P'
  subst e
  obtain ⟨Cs2, q2, c2⟩ := Kz (h _ s')
  obtain ⟨p', zs, Ds, e3, q3, c3⟩ := ho
  subst c3
  have hH' : H' p = some (.lst xs) := w'.tr (p, .lst xs) (by rw [List.flatten_cons]; exact List.mem_append_right _ (List.mem_flatten.mpr ⟨_, List.mem_of_getElem? hk', List.mem_cons_self⟩))
  have hH2 : H' p' = some (.lst zs) := w'.tr (p', .lst zs) (by rw [List.flatten_cons]; exact List.mem_append_left _ List.mem_cons_self)
  have cn := QL w' hk'
  obtain ⟨w3, m3⟩ := HB (xs' := xs ++ zs) (Cs' := Cs2 ++ Ds) w' hk' (fun c hc => by
      rw [List.flatten_append, List.mem_append] at hc
      rcases hc with hc | hc
      · rw [c2]; exact List.mem_append_left _ hc
      · exact List.mem_append_right _ (List.mem_cons_of_mem _ hc)) (by
      rw [List.flatten_append, ← c2]
      refine List.Nodup.sublist (List.Sublist.map _ ?_) cn
      exact List.Sublist.append (List.Sublist.refl _) (List.sublist_cons_self _ _))
  refine ⟨p, p', xs, zs, rfl, by rw [e3], hH', hH2, by rw [q2.len.1, q3.len.1]; exact hsz, ?_⟩
  exact hr bs _ _ D w3 ⟨S.mono _ _ m3 s', ⟨p, _, _, rfl, P3.imp (fun _ _ _ z => MonoO.mono m3 z) (q2.app q3), rfl⟩⟩ (PZ.tr (fd.tr D) m3 P')
noncomputable def Fc (as : List α) (i : Int) : Res (α × List α) := chk (-(2 ^ 63) <= i /\ i < 2 ^ 63) (match seqIndex? i as.length with
  | none => .bad
  | some k => match as[k]? with
    | none => .bad
    | some a => .ok (a, as.eraseIdx k))
theorem BS {as : List α} {i : Int} {p : α × List α} (h : Fc as i = .ok p) : (-(2 ^ 63) <= i /\ i < 2 ^ 63) /\ ∃ k, seqIndex? i as.length = some k /\ as[k]? = some p.1 /\ p.2 = as.eraseIdx k := by
  obtain ⟨h1, h2⟩ := ZP h
  refine ⟨h1, ?_⟩
  split at h2
  · cases h2
  · split at h2
    · cases h2
    · cases h2; exact ⟨_, by assumption, by assumption, rfl⟩
theorem B0 {as : List α} {i : Int} {x : Exc} : Fc as i ≠ .err x := by
  unfold Fc chk; split
  · split
    · exact fun z => nomatch z
    · split <;> exact fun z => nomatch z
  · exact fun z => nomatch z
theorem Paired.erase' {F : α -> γ -> Prop} : ∀ {l : List α} {m : List γ} (n : Nat), Paired F l m -> Paired F (l.eraseIdx n) (m.eraseIdx n)
  | _, _, _, .nil => .nil
  | _, _, 0, .cons _ t => t
  | _, _, n + 1, .cons r t => .cons r (Paired.erase' n t)
theorem Df {te ti : TE} {r : Enc α} [MonoE r] {mi : Res Int} {f : α × List α -> Res β} {v : V} {as : List α} {C : List XL} {D : Ends} {H : Hp} {Q : VK} (i k : Nat) (hσ : σ[i]? = some (some v)) (hk : OO[k]? = some C) (h : ∀ x, S.p x -> oL (oF r) K x v as C) (hi : EvB K Er S OO σ ti Xa mi)
    (w : W OO H) (s : S.p (hid H OO)) (P : PZ Er (Fd D) (hid H OO) (mi.bind fun j => (Fc as j).bind f))
    (hr : ∀ a bs y C' H', W (OO.set k C') H' -> ((S.add K r y a).addO K (oL (oF r)) v bs C').p (hid H' (OO.set k C')) -> PZ Er (Fd D) (hid H' (OO.set k C')) (f (a, bs)) -> Q y H') : tBM K "list" Gx (Uw i) (XH ti Z4) σ H Q := by
  obtain ⟨p, xs, Cs, e, q, c⟩ := h _ s
  subst c
  have hH : H p = some (.lst xs) := w.tr (p, .lst xs) (List.mem_flatten.mpr ⟨_, List.mem_of_getElem? hk, List.mem_cons_self⟩)
  refine ⟨v, hσ, by rw [e]; exact .inl ⟨rfl, _, SqL.of hH⟩, hi.st w s P fun j z H' s1 w' s' ho P' => ?_⟩
  subst e
  obtain ⟨Cs2, q2, c2⟩ := Kz (h _ s')
  obtain ⟨pr, hfl⟩ := P3.flat q2
  cases es : Fc as j with
  | bad => rw [es] at P'; exact P'.elim
  | err x => exact absurd es B0
  | ok pp =>
    rw [es] at P'
    obtain ⟨a, bs⟩ := pp
    obtain ⟨h1, kk, h2, h3, h4⟩ := BS es
    obtain ⟨y, hy, ry⟩ := Paired.getR pr h3
    have w0 : W ([] :: OO) H' := w'.nil
    have hk0 : OO[k]? = some ((p, .lst xs) :: ([] : List (List XL)).flatten) := by rw [hk, c2, hfl]; rfl
    obtain ⟨w3, m3⟩ := HB (D := []) (Cs := []) (xs' := xs.eraseIdx kk) (Cs' := List.replicate bs.length []) w0 hk0 (fun c hc => by rw [YJ] at hc; cases hc) (by rw [YJ]; exact List.nodup_nil)
    rw [Zl] at m3
    refine ⟨p, xs, j, kk, y, rfl, by rw [show z = .int j from ho], s1 _ _ hH, h1.1, h1.2, by rw [Paired.len pr]; exact h2, hy, ?_⟩
    have pr2 : Paired (r K (hid H' OO)) (xs.eraseIdx kk) bs := by rw [show bs = as.eraseIdx kk from h4]; exact Paired.erase' kk pr
    exact hr a bs y _ _ w3 ⟨⟨S.mono _ _ m3 s', MonoE.mono m3 ry⟩, ⟨p, _, _, rfl, (P3.of (Paired.imp2 (fun _ _ z => MonoE.mono m3 z) pr2)).imp fun _ _ _ z => z, rfl⟩⟩ (PZ.tr (fd.tr D) m3 P')
theorem EN {ti : TE} {r : Enc α} [MonoE r] {mi : Res Int} {f : α × List α -> Res β} {v : V} {as : List α} {C : List XL} (x i k : Nat) (hσ : σ[i]? = some (some v)) (hk : OO[k]? = some C) (h : ∀ x, S.p x -> oL (oF r) K x v as C) (hi : EvB K Er S OO σ ti Xa mi)
    (hr : ∀ a bs y C', Sv Er ((S.add K r y a).addO K (oL (oF r)) v bs C') (OO.set k C') (σ.set x (some y)) u Fd (f (a, bs))) : Sv Er S OO σ (Vz (Cr (tBM K "list" Gx (Uw i) (XH ti Z4)) (Zh x)) u) Fd (mi.bind fun j => (Fc as j).bind f) := fun H D w s P =>
  Df (te := ti) i k hσ hk h hi w s P fun a bs y C' H' w' s' P' => hr a bs y C' H' D w' s' P'
theorem Ge {ti : TE} {r : Enc α} [MonoE r] {mi : Res Int} {f : List α -> List α -> Res β} {v v2 : V} {as zs : List α} {C C2 : List XL} (i k i2 k2 : Nat) (hne : k2 ≠ k) (hσ : σ[i]? = some (some v)) (hk : OO[k]? = some C) (h : ∀ x, S.p x -> oL (oF r) K x v as C)
    (hσ2 : σ[i2]? = some (some v2)) (hk2 : OO[k2]? = some C2) (h2 : ∀ x, S.p x -> oL (oF r) K x v2 zs C2) (hi : EvB K Er S OO σ ti Xa mi)
    (hr : ∀ a bs C' C2', Sv Er ((S.addO K (oL (oF r)) v bs C').addO K (oL (oF r)) v2 (zs ++ [a]) C2') ((OO.set k C').set k2 C2') σ u Fd (f bs (zs ++ [a]))) :
    Sv Er S OO σ (Vz (DF (tBM K "list" Ug (Uw i2) (XH (tBM K "list" Gx (Uw i) (XH ti Z4)) Z4))) u) Fd (mi.bind fun j => (Fc as j).bind fun p => chk (zs.length < sizeLine) (f p.2 (zs ++ [p.1]))) := fun H D w s P => by
  obtain ⟨p2, xs2, Cs2, e2, q2, c2⟩ := h2 _ s
  subst c2
  have hH2 : H p2 = some (.lst xs2) := w.tr (p2, .lst xs2) (List.mem_flatten.mpr ⟨_, List.mem_of_getElem? hk2, List.mem_cons_self⟩)
  refine ⟨v2, hσ2, by rw [e2]; exact .inl ⟨rfl, _, SqL.of hH2⟩, Df (te := ti) i k hσ hk h hi w s P fun a bs y C' H' w' s' P' => ?_⟩
  obtain ⟨hsz, P'⟩ := PZ.chk P'
  subst e2
  obtain ⟨Cs3, q3, c3⟩ := Kz (h2 _ s'.1.1)
  obtain ⟨pr, hfl⟩ := P3.flat q3
  have hkk : (OO.set k C')[k2]? = some ((p2, HO.lst xs2) :: ([] : List (List XL)).flatten) := by
    rw [List.getElem?_set_ne (fun e => hne e.symm), hk2, c3, hfl]; rfl
  have hH3 : H' p2 = some (.lst xs2) := w'.tr (p2, .lst xs2) (List.mem_flatten.mpr ⟨_, List.mem_of_getElem? hkk, List.mem_cons_self⟩)
  obtain ⟨w3, m3⟩ := HB (D := []) (Cs := []) (xs' := xs2 ++ [y]) (Cs' := List.replicate (zs ++ [a]).length []) w'.nil hkk (fun c hc => by rw [YJ] at hc; cases hc) (by rw [YJ]; exact List.nodup_nil)
  rw [Zl] at m3
  refine ⟨p2, xs2, y, rfl, rfl, hH3, by rw [Paired.len pr]; exact hsz, ?_⟩
  refine hr a bs C' _ _ D w3 ⟨⟨S.mono _ _ m3 s'.1.1, (SC.oneO K (oL (oF r)) v bs C').mono _ _ m3 s'.2⟩, ⟨p2, _, _, rfl, (P3.of (Paired.app (Paired.imp2 (fun _ _ z => MonoE.mono m3 z) pr) (.cons (MonoE.mono m3 (show r K _ y a from s'.1.2)) .nil))).imp fun _ _ _ z => z, rfl⟩⟩ (PZ.tr (fd.tr D) m3 P')
theorem Gd {ta tb : TE} {r : Enc α} {q : Enc γ} [z : MonoE r] [MonoE q] {ma : Res α} {mb : Res γ} {f : α -> γ -> Res β} (i j : Nat) (ha : EvS K Er S OO σ ta r ma) (hb : EvS K Er S OO σ tb q mb)
    (hr : ∀ a b v w, Sv Er ((S.add K r v a).add K q w b) OO ((σ.set i (some v)).set j (some w)) u Fd (f a b)) : Sv Er S OO σ (Vz (Iw i j (XH ta (XH tb Z4))) u) Fd (ma.bind fun a => mb.bind fun b => f a b) := fun H D w s P =>
  ha.st w s P fun a x H1 s1 w1 q1 r1 P1 => hb.st w1 q1 P1 fun b y H2 s2 w2 q2 r2 P2 => ⟨x, y, rfl, hr a b x y H2 D w2 ⟨⟨q2, z.mono (Xl s2) r1⟩, r2⟩ P2⟩
theorem Dh {te : TE} {r : Enc α} {q : Enc γ} [MonoE r] [MonoE q] {m : Res (α × γ)} {f : α × γ -> Res β} (i j : Nat) (he : EvS K Er S OO σ te (rP2 r q) m)
    (hr : ∀ a v w, Sv Er ((S.add K r v a.1).add K q w a.2) OO ((σ.set i (some v)).set j (some w)) u Fd (f a)) : Sv Er S OO σ (Vz (Cr te (Bb K 2 (Z9 (Zh i) (Z9 (Zh j) Eh)))) u) Fd (m.bind f) := fun H D w s P =>
  he.st w s P fun a v H1 s1 w1 q1 ⟨p, x, y, e, h, h1, h2⟩ P1 => ⟨p, _, e, SqT.of (XS _ _ h), rfl, x, [y], rfl, y, [], rfl, rfl, hr a x y H1 D w1 ⟨⟨q1, h1⟩, h2⟩ P1⟩
theorem Bg {te : TE} {g : Int -> Int -> Int} {m : Res Int} {f : Int -> Res β} {v : V} {a : Int} (i : Nat) (hσ : σ[i]? = some (some v)) (h : ∀ x, S.p x -> Xa K x v a) (he : EvB K Er S OO σ te Xa m)
    (hr : ∀ b v, Sv Er (S.add K Xa v b) OO (σ.set i (some v)) u Fd (f b)) : Sv Er S OO σ (Vz (Ip i te (ipI g)) u) Fd (m.bind fun b => f (g a b)) := fun H D w s P =>
  ⟨v, hσ, he.st w s P fun b y H1 s1 w1 q1 r1 P1 => ⟨a, b, h _ s, r1, hr _ _ H1 D w1 ⟨q1, rfl⟩ P1⟩⟩
theorem KQ {ta tb : TE} {ma mb : Res Int} (ha : EvB K Er S OO σ ta Xa ma) (hb : EvB K Er S OO σ tb Xa mb) : EvB K Er S OO σ (tCB (fun xs H Q => ∃ i j : Int, xs = [.int i, .int j] /\ Q (.int (if j > i then j else i)) H) (XH ta (XH tb Z4))) Xa (ma.bind fun a => mb.bind fun b => .ok (max a b)) := fun H Q w s P =>
  ha.run w s FB.tr P fun a x H1 s1 w1 q1 r1 P1 => hb.run w1 q1 FB.tr P1 fun b y H2 s2 w2 q2 r2 P2 => ⟨a, b, by rw [show x = .int a from r1, show y = .int b from r2], P2 _ H2 (XC.refl _) (by show V.int _ = V.int _; congr 1; omega)⟩
theorem BT {ta tb : TE} {ma mb : Res Int} (ha : EvB K Er S OO σ ta Xa ma) (hb : EvB K Er S OO σ tb Xa mb) : EvB K Er S OO σ (tCB (fun xs H Q => ∃ i j : Int, xs = [.int i, .int j] /\ Q (.int (if j < i then j else i)) H) (XH ta (XH tb Z4))) Xa (ma.bind fun a => mb.bind fun b => .ok (min a b)) := fun H Q w s P =>
  ha.run w s FB.tr P fun a x H1 s1 w1 q1 r1 P1 => hb.run w1 q1 FB.tr P1 fun b y H2 s2 w2 q2 r2 P2 => ⟨a, b, by rw [show x = .int a from r1, show y = .int b from r2], P2 _ H2 (XC.refl _) (by show V.int _ = V.int _; congr 1; omega)⟩
theorem Ef {ta : TE} {ma : Res (List Int)} (ha : EvB K Er S OO σ ta (rV Xa) ma) : EvB K Er S OO σ (tCB (Ir K) (XH ta Z4)) Xa (ma.bind fun a => .ok a.sum) := fun H Q w s P =>
  ha.run w s FB.tr P fun a x H1 s1 w1 q1 ⟨p, xs, e, q, pr⟩ P1 => ⟨p, a, by rw [e], by rw [← QK pr]; exact SqL.of q, P1 _ H1 (XC.refl _) rfl⟩
theorem Jt : ∀ {xs : List V} {bs : List Bool} {H : Hp}, Paired (X7 K H) xs bs -> xs = bs.map V.bl
  | _, _, _, .nil => rfl
  | _, _, _, .cons r t => by rw [show _ = V.bl _ from r, Jt t]; rfl
theorem Fr {ta : TE} {ma : Res (List Bool)} (ha : EvB K Er S OO σ ta (rV X7) ma) : EvB K Er S OO σ (tCB (Ie K) (XH ta Z4)) X7 (ma.bind fun a => .ok (a.all id)) := fun H Q w s P =>
  ha.run w s FB.tr P fun a x H1 s1 w1 q1 ⟨p, xs, e, q, pr⟩ P1 => ⟨p, a, by rw [e], by rw [← Jt pr]; exact SqL.of q, P1 _ H1 (XC.refl _) rfl⟩
class TyE {α : Type} (r : Enc α) (n : outParam String) : Prop where
  ty : ∀ {K : PySem.W.Frag} {H : Hp} {v : V} {a : α}, r K H v a -> TyOf K H v (.type n)
instance : TyE Xa "int" := ⟨fun {K H v a} h => by cases (show v = .int a from h); exact .int a⟩
instance : TyE X7 "bool" := ⟨fun {K H v a} h => by cases (show v = .bl a from h); exact .bl a⟩
instance {r : Enc α} : TyE (rV r) "list" := ⟨fun ⟨p, xs, e, q, _⟩ => by subst e; exact .lst q⟩
instance {r : Enc α} : TyE (rPL r) "tuple" := ⟨fun h9 => (by obtain ⟨p, xs, e, q, _⟩ := h9; subst e; exact .tup q)⟩
instance {r : Enc α} {q : Enc γ} : TyE (rP2 r q) "tuple" := ⟨fun h9 => (by obtain ⟨p, x, y, e, q, _⟩ := h9; subst e; exact .tup q)⟩
instance {r : Enc α} {q : Enc γ} {t : Enc δ} : TyE (rP3 r q t) "tuple" := ⟨fun h9 => (by obtain ⟨p, x, y, z, e, q, _⟩ := h9; subst e; exact .tup q)⟩
theorem G1 {te : TE} {r : Enc α} {n : String} [z : TyE r n] {m : Res α} (t : String) (b : Bool) (hk : PySem.W.kitOne K (.type n) (.type t) = some b) (he : EvB K Er S OO σ te r m) :
    EvB K Er S OO σ (tCB (fun xs H Q => ∃ x n t b, xs = [x, .ty n] /\ TyOf K H x t /\ PySem.W.kitOne K t (.type n) = some b /\ Q (.bl b) H) (XH te (XH (tC (.ty t)) Z4))) X7 (m.bind fun _ => .ok b) := fun H Q w s P =>
  he.run w s FB.tr P fun a x H1 s1 w1 q1 r1 P1 => ⟨x, t, .type n, b, rfl, z.ty r1, hk, P1 _ H1 (XC.refl _) rfl⟩
theorem FU {ta : TE} {ma : Res Int} (ha : EvB K Er S OO σ ta Xa ma) : EvB K Er S OO σ (tCB (fun xs H Q => ∃ i : Int, xs = [.int i] /\ Q (.int (if i < 0 then -i else i)) H) (XH ta Z4)) Xa (ma.bind fun a => .ok (a.natAbs : Int)) := fun H Q w s P =>
  ha.run w s FB.tr P fun a x H1 s1 w1 q1 r1 P1 => ⟨a, by rw [show x = .int a from r1], P1 _ H1 (XC.refl _) (by show V.int _ = V.int _; congr 1; omega)⟩
end
end L2
namespace L2
open PySem PySem.Spec PyProof.Rows
section
variable {K : PySem.W.Frag} {Er : Exc -> Hp -> Prop} {S : SC} {OO OO' OO1 OO2 : List (List XL)} {σ : St} {α β γ ρ ι δ ε : Type}
variable {Fd : Ends -> β -> Hp -> Prop} [fd : FdOk Fd] {u : TS}
theorem HY (n : Nat) (H : Hp) : W (List.replicate n []) H := ⟨fun c hc => (by rw [YJ] at hc; cases hc), (by unfold fl; rw [YJ]; exact List.nodup_nil), fun c hc => (by rw [YJ] at hc; cases hc)⟩
theorem Hg (n : Nat) (H : Hp) : hid H (List.replicate n []) = H := by funext b; unfold hid fl; rw [YJ]; simp
theorem Hb {o : OE ρ} [z : MonoO o] {Q : VK} {b : ρ} {H : Hp} (q : FF K o Q b H) : ∀ v C OO' H', W (C :: OO') H' -> XC H (hid H' (C :: OO')) -> o K (hid H' (C :: OO')) v b C -> Q v H' := fun v C OO' H' w m ho => by
  have hs : XC (hid H' (C :: OO')) (hid H' [C]) := Jo (XC.refl _) fun b hb => by
    rw [YB]
    refine List.mem_append_left _ ?_
    simpa [fl] using hb
  exact q v C H' (w.sub (by simp)) (m.trans hs) (z.mono hs ho)
theorem YN {o : OE ρ} [MonoO o] {t : TS} {m : Res ρ} {Q : VK} {b : ρ} {H : Hp} {D : Ends} (n : Nat) (h : Sv (fun _ _ => False) S (List.replicate n []) σ t (FTd K o) m) (hs : S.p H) (hm : m = .ok b) (q : FF K o Q b H) (hD : D.rt = Q) : t D σ H := by
  refine h H D (HY n H) (by rw [Hg]; exact hs) ?_
  subst hm
  rw [Hg]
  intro v C OO' H' w mm ho
  rw [hD]
  exact Hb q v C OO' H' w mm ho
noncomputable def FAO {α : Type} (K : PySem.W.Frag) (OO OO' : List (List XL)) (o : OE α) (Q : List V -> Hp -> Prop) (as : List α) (H : Hp) : Prop := ∀ vs Cs H', XC H H' -> W (Cs.flatten :: OO') H' -> XC (hid H OO) (hid H' (Cs.flatten :: OO')) -> P3 (o K (hid H' (Cs.flatten :: OO'))) vs as Cs -> Q vs H'
noncomputable def HA {α : Type} (K : PySem.W.Frag) (Er : Exc -> Hp -> Prop) (S : SC) (OO OO' : List (List XL)) (σ : St) (t : TA) (o : OE α) (m : Res (List α)) : Prop := ∀ H Q, W OO H -> S.p (hid H OO) -> PZ Er (FAO K OO OO' o Q) H m -> t σ H Q
theorem Uq {o : OE α} : HA K Er S OO OO σ Z4 o (.ok []) := fun H Q w s P => P [] [] H (XC.refl _) w.nil (by show XC _ (hid H ([] :: OO)); rw [Zl]; exact XC.refl _) .nil
theorem Ze {te : TE} {t : TA} {o : OE α} [z : MonoO o] {m : Res α} {n : Res (List α)} (he : Ev K Er S OO OO1 σ te o m) (ht : ∀ C, HA K Er S (C :: OO1) (C :: OO2) σ t o n) : HA K Er S OO OO2 σ (XH te t) o (m.bind fun a => n.bind fun as => .ok (a :: as)) := fun H Q w s P => by
  refine he H _ w s ?_
  cases em : m with
  | bad => rw [em] at P; exact P
  | err x => rw [em] at P; exact P
  | ok a =>
    rw [em] at P
    intro v C H1 s1 w1 m1 ho
    refine ht C H1 _ w1 (S.mono _ _ m1 s) ?_
    have P1 : PZ Er (FAO K OO OO2 o Q) H (n.bind fun as => .ok (a :: as)) := P
    cases en : n with
    | bad => rw [en] at P1; exact P1
    | err x => rw [en] at P1; exact fun H2 s2 => P1 H2 (s1.trans s2)
    | ok as =>
      rw [en] at P1
      have P1 : FAO K OO OO2 o Q (a :: as) H := P1
      intro vs Cs H2 s2 w2 m2 pr
      have pe : ((C :: Cs).flatten :: OO2).flatten.Perm (Cs.flatten :: C :: OO2).flatten := by
        simp only [List.flatten_cons]
        rw [← List.append_assoc]
        exact List.perm_append_comm.append_right _
      refine P1 (v :: vs) (C :: Cs) H2 (s1.trans s2) (w2.of pe) ?_ ?_
      · rw [Yy pe]; exact m1.trans m2
      · rw [Yy pe]; exact .cons (z.mono m2 ho) pr
theorem Kq {t : TA} {o : OE α} [z : MonoO o] {m : Res (List α)} (h : HA K Er S OO OO σ t o m) : Ev K Er S OO OO σ (Ba t) (oL o) (m.bind fun as => chk (as.length <= sizeLine) (.ok as)) := fun H Q w s P => by
  refine h H _ w s ?_
  cases e : m with
  | bad => rw [e] at P; exact P
  | err x => rw [e] at P; exact P
  | ok as =>
    rw [e] at P
    obtain ⟨hsz, P⟩ := PZ.chk (show PZ Er _ H (chk (as.length <= sizeLine) (.ok as)) from P)
    intro vs Cs H1 s1 w1 m1 p
    exact ⟨by rw [p.len.1]; exact hsz, By w1 m1 s1 p P⟩
class InE {α : Type} [DecidableEq α] (r : Enc α) : Prop where
  fl : ∀ {K : PySem.W.Frag} {H : Hp} {x : V} {a : α}, r K H x a -> JG x = true
  eq : ∀ {K : PySem.W.Frag} {H H' : Hp} {x y : V} {a b : α}, r K H x a -> r K H' y b -> eqV x y = decide (a = b)
instance : InE Xa := ⟨fun {K H x a} h => by cases (show x = .int a from h); rfl, fun {K H H' x y a b} h h' => by
  cases (show x = .int a from h); cases (show y = .int b from h'); show (a == b) = _; rw [CP]⟩
theorem Vh [DecidableEq α] {r : Enc α} [z : InE r] {H H' : Hp} {x : V} {a : α} (hx : r K H x a) : ∀ {xs : List V} {as : List α}, Paired (r K H') xs as -> xs.all JG = true /\ inV x xs = decide (a ∈ as)
  | _, _, .nil => ⟨rfl, by simp [inV]⟩
  | _, _, .cons h t => by
    obtain ⟨h1, h2⟩ := Vh hx t
    refine ⟨by rw [List.all_cons, h1, z.fl h]; rfl, ?_⟩
    unfold inV at h2 ⊢
    rw [List.any_cons, h2, z.eq h hx, Bool.eq_iff_iff, Bool.or_eq_true, decide_eq_true_eq, decide_eq_true_eq, decide_eq_true_eq, List.mem_cons]
    exact or_congr ⟨Eq.symm, Eq.symm⟩ Iff.rfl
theorem Bc [DecidableEq α] {ta tb : TE} {r : Enc α} [z : InE r] {ma : Res α} {mb : Res (List α)} (ha : EvB K Er S OO σ ta r ma) (hb : EvB K Er S OO σ tb (rV r) mb) : EvB K Er S OO σ (tOp (rIn K false) ta tb) X7 (ma.bind fun a => mb.bind fun as => .ok (decide (a ∈ as))) := fun H Q w s P =>
  ha.run w s FB.tr P fun a x H1 s1 w1 q1 r1 P1 => hb.run w1 q1 FB.tr P1 fun b y H2 s2 w2 q2 ⟨p, xs, e, q, pr⟩ P2 => by
    obtain ⟨h1, h2⟩ := Vh r1 pr
    exact ⟨p, xs, e, .inl (SqL.of q), z.fl r1, h1, P2 _ H2 (XC.refl _) (by rw [h2]; rfl)⟩
noncomputable def Cl [DecidableEq α] (as : List α) (a : α) : Res Int := match as.findIdx? (fun b => decide (b = a)) with
  | some j => .ok (j : Int)
  | none => .bad
theorem GN [DecidableEq α] {r : Enc α} [z : InE r] {H H' : Hp} {x : V} {a : α} (hx : r K H x a) {xs : List V} {as : List α} (p : Paired (r K H') xs as) {j : Nat} (hj : as.findIdx? (fun b => decide (b = a)) = some j) :
    (∃ y, xs[j]? = some y /\ eqV y x = true) /\ ∀ (m : Nat) y, m < j -> xs[m]? = some y -> eqV y x = false := by
  rw [List.findIdx?_eq_some_iff_getElem] at hj
  obtain ⟨h1, h2, h3⟩ := hj
  constructor
  · obtain ⟨y, hy, ry⟩ := Paired.getR p (i := j) (b := as[j]) (by simp [h1])
    exact ⟨y, hy, by rw [z.eq ry hx]; exact h2⟩
  · intro m y hm hy
    obtain ⟨b, hb, rb⟩ := Paired.getL p hy
    have hml : m < as.length := by omega
    have e : b = as[m] := by rw [List.getElem?_eq_getElem hml] at hb; exact (Option.some.inj hb).symm
    rw [z.eq rb hx, e]
    have := h3 m hm
    simpa using this
theorem B9 [DecidableEq α] {as : List α} {a : α} {x : Exc} : Cl as a ≠ .err x := by unfold Cl; split <;> exact fun z => nomatch z
theorem BX [DecidableEq α] {as : List α} {a : α} {n : Int} (h : Cl as a = .ok n) : ∃ j : Nat, as.findIdx? (fun b => decide (b = a)) = some j /\ n = j := by
  unfold Cl at h; split at h
  · cases h; exact ⟨_, by assumption, rfl⟩
  · cases h
theorem U9 [DecidableEq α] {ta tb : TE} {r : Enc α} [z : InE r] [y : MonoE r] {ma : Res (List α)} {mb : Res α} (ha : EvB K Er S OO σ ta (rV r) ma) (hb : EvB K Er S OO σ tb r mb) : EvB K Er S OO σ (tBM K "list" (DN K) ta (XH tb Z4)) Xa (ma.bind fun as => mb.bind fun a => Cl as a) := fun H Q w s P =>
  ha.run w s FB.tr P fun as x H1 s1 w1 q1 ⟨p, xs, e, q, pr⟩ P1 => ⟨by rw [e]; exact .inl ⟨rfl, _, SqL.of q⟩, hb.run w1 q1 FB.tr P1 fun b v H2 s2 w2 q2 r2 P2 => by
    obtain ⟨c, hc, P3⟩ := P2.okOf fun x => B9
    obtain ⟨j, hj, rfl⟩ := BX hc
    have pr2 := Paired.imp2 (G := r K H2) (fun _ _ h => y.mono s2 h) pr
    obtain ⟨h1, h2⟩ := GN r2 pr2 hj
    exact ⟨p, xs, v, j, e, rfl, SqL.of (s2 _ _ q), z.fl r2, (Vh r2 pr2).1, h1, h2, P3 _ H2 (XC.refl _) rfl⟩⟩
theorem DT {ta tb tc : TE} {p q : Int -> Int -> Bool} {ma mb mc : Res Int} (ha : EvB K Er S OO σ ta Xa ma) (hb : EvB K Er S OO σ tb Xa mb) (hc : EvB K Er S OO σ tc Xa mc) :
    EvB K Er S OO σ (Bn (rI0 fun i j => .bl (p i j)) (rI0 fun i j => .bl (q i j)) ta tb tc) X7 (ma.bind fun a => mb.bind fun b => if p a b = true then mc.bind fun c => .ok (q b c) else .ok false) := fun H Q w s P =>
  ha.run w s FB.tr P fun a x H1 s1 w1 q1 r1 P1 => hb.run w1 q1 FB.tr P1 fun b y H2 s2 w2 q2 r2 P2 => ⟨a, b, r1, r2, p a b, rfl, by
    cases h : p a b with
    | false => rw [h] at P2; exact P2 _ H2 (XC.refl _) rfl
    | true =>
      rw [h, if_pos rfl] at P2
      rw [if_pos rfl]
      exact hc.run w2 q2 FB.tr P2 fun c z H3 s3 w3 q3 r3 P3 => ⟨b, c, r2, r3, P3 _ H3 (XC.refl _) rfl⟩⟩
theorem DH {α : Type} [DecidableEq α] {r r' : Enc α} {d : Nat} (E : EqOk r d) (h : ∀ {K : PySem.W.Frag} {H : Hp} {v : V} {a : α}, r' K H v a -> r K H v a) (m : MonoE r') : EqOk r' d where
  uniq := fun I h1 h2 => E.uniq I (h h1) (h h2)
  eq := fun I rx ry h1 h2 hu => E.eq I rx ry (h h1) (h h2) hu
  rc := fun I rx ry h1 h2 hu => E.rc I rx ry (h h1) (h h2) hu
  ne := fun I rx ry h1 h2 hu => E.ne I rx ry (h h1) (h h2) hu
  keep := fun s q => m.mono s q
theorem ED {α : Type} [DecidableEq α] {r : Enc α} {d : Nat} [m : MonoE r] (E : EqOk r d) : EqOk (rV r) (d + 1) := DH (Ez E) (fun ⟨a, xs, e, q, p⟩ => ⟨a, xs, e, SqL.of q, p⟩) inferInstance
theorem E4 {α β : Type} [DecidableEq α] [DecidableEq β] {r : Enc α} {q : Enc β} {d : Nat} [m : MonoE r] [n : MonoE q] (E : EqOk r d) (F : EqOk q d) : EqOk (rP2 r q) (d + 1) := DH (Et E F) (fun ⟨a, x, y, e, q, p⟩ => ⟨a, x, y, e, SqT.of q, p⟩) inferInstance
end
end L2
namespace L2
open PySem PySem.Spec PyProof.Rows
section
variable {K : PySem.W.Frag} {Er : Exc -> Hp -> Prop} {S : SC} {OO OO' OO1 OO2 : List (List XL)} {σ : St} {α β γ ρ ι δ ε : Type}
variable {Fd : Ends -> β -> Hp -> Prop} [fd : FdOk Fd] {u : TS}
theorem Gw {ta tb : TE} {o : OE α} {q : OE β} [z : MonoO o] [y : MonoO q] {ma : Res α} {mb : Res β} (ha : Ev K Er S OO OO1 σ ta o ma) (hb : ∀ C, Ev K Er S (C :: OO1) (C :: OO2) σ tb q mb) : Ev K Er S OO OO2 σ (Hx (XH ta (XH tb Z4))) (oT2 o q) (ma.bind fun a => mb.bind fun b => .ok (a, b)) := fun H Q w s P => by
  refine ha H _ w s ?_
  cases em : ma with
  | bad => rw [em] at P; exact P
  | err x => rw [em] at P; exact P
  | ok a =>
    rw [em] at P
    intro v C H1 s1 w1 m1 ho
    refine hb C H1 _ w1 (S.mono _ _ m1 s) ?_
    have P1 : PZ Er (FO K OO OO2 (oT2 o q) Q) H (mb.bind fun b => .ok (a, b)) := P
    cases en : mb with
    | bad => rw [en] at P1; exact P1
    | err x => rw [en] at P1; exact fun H2 s2 => P1 H2 (s1.trans s2)
    | ok b =>
      rw [en] at P1
      have P1 : FO K OO OO2 (oT2 o q) Q (a, b) H := P1
      intro v2 C2 H2 s2 w2 m2 ho2
      refine ⟨by show 2 <= sizeLine; decide, fun p hp => ?_⟩
      have pe : ((C ++ C2) :: OO2).flatten.Perm (C2 :: C :: OO2).flatten := by
        simp only [List.flatten_cons]
        rw [← List.append_assoc]
        exact List.perm_append_comm.append_right _
      have s3 : XC H2 (upd H2 p (.tup [v, v2])) := XY hp _
      have w3 := (w2.keep s3).of pe
      have m3 : XC (hid H2 (C2 :: C :: OO2)) (hid (upd H2 p (.tup [v, v2])) ((C ++ C2) :: OO2)) := by rw [Yy pe]; exact Xl s3
      refine P1 (.ref p) (C ++ C2) _ (s1.trans (s2.trans s3)) w3 (m1.trans (m2.trans m3)) ⟨p, v, v2, C, C2, rfl, ?_, z.mono (m2.trans m3) ho, y.mono m3 ho2, rfl⟩
      rw [Yy pe]
      exact QP w2 hp
theorem UL : ∀ {l : List XL} {a b : XL}, (l.map (·.1)).Nodup -> a ∈ l -> b ∈ l -> a.1 = b.1 -> a = b
  | [], _, _, _, h, _, _ => by cases h
  | c :: l, a, b, n, ha, hb, e => by
    rw [List.map_cons, List.nodup_cons] at n
    cases ha with
    | head => cases hb with
      | head => rfl
      | tail _ hb => exact absurd (List.mem_map.mpr ⟨b, hb, e.symm⟩) n.1
    | tail _ ha => cases hb with
      | head => exact absurd (List.mem_map.mpr ⟨a, ha, e⟩) n.1
      | tail _ hb => exact UL n.2 ha hb e
theorem V7 {Cs : List (List XL)} {k : Nat} {C : List XL} (h : Cs[k]? = some C) : ∀ c ∈ C, c ∈ Cs.flatten := fun c hc => List.mem_flatten.mpr ⟨C, List.mem_of_getElem? h, hc⟩
theorem Dm {as : List α} {i : Int} {a : α} (h : atR as i = .ok a) : ∃ k, ixN as.length i = some k /\ as[k]? = some a := by
  have := Gr h
  unfold atI at this
  cases e : ixN as.length i with
  | none => rw [e] at this; cases this
  | some k => rw [e] at this; exact ⟨k, rfl, this⟩
theorem DZ {r : Enc α} [z : MonoE r] {v : V} {as : List (List α)} {row row' : List α} {H : Hp} {p q : Addr} {xs ys ys' : List V} {Cs : List (List XL)} {k kk : Nat} (w : W OO H) (hk : OO[k]? = some ((p, .lst xs) :: Cs.flatten)) (hP : P3 (oL (oF r) K (hid H OO)) xs as Cs) (hrow : as[kk]? = some row)
    (hx : xs[kk]? = some (.ref q)) (hq : H q = some (.lst ys)) (hcs : Cs[kk]? = some [(q, .lst ys)]) (pr : Paired (r K (hid H OO)) ys' row') :
    ∃ C', W (OO.set k C') (upd H q (.lst ys')) /\ XC (hid H OO) (hid (upd H q (.lst ys')) (OO.set k C')) /\ oL (oL (oF r)) K (hid (upd H q (.lst ys')) (OO.set k C')) (.ref p) (as.set kk row') C' := by
  have hkl : kk < Cs.length := by
    rcases Nat.lt_or_ge kk Cs.length with h | h
    · exact h
    · rw [List.getElem?_eq_none h] at hcs; cases hcs
  have hin : ∀ c ∈ (p, HO.lst xs) :: Cs.flatten, c ∈ OO.flatten := fun c hc => List.mem_flatten.mpr ⟨_, List.mem_of_getElem? hk, hc⟩
  have w0 : W ([] :: OO) H := w.nil
  have cn0 := QL w0 hk
  rw [List.append_nil] at cn0
  have e0 : Cs[kk] = [(q, .lst ys)] := by
    rw [List.getElem?_eq_getElem hkl] at hcs; exact Option.some.inj hcs
  have hp := Gu (Cs := Cs) (j := kk) (D := [(q, HO.lst ys')]) hkl
  rw [e0] at hp
  have hpm : ((Cs.set kk [(q, HO.lst ys')]).flatten.map (·.1)).Perm (Cs.flatten.map (·.1)) := by
    have := hp.map (·.1)
    simp only [List.map_append, List.map_cons, List.map_nil] at this
    exact (List.perm_append_right_iff _).mp this
  have hpne : p ∉ Cs.flatten.map (·.1) := by
    have h1 := Ye hk
    have := (w.of (OO' := ((p, HO.lst xs) :: Cs.flatten) :: OO.set k []) h1).nd
    rw [YB, List.map_cons, List.cons_append, List.nodup_cons] at this
    exact fun z => this.1 (List.mem_append_left _ z)
  have hqC : q ∈ Cs.flatten.map (·.1) := List.mem_map.mpr ⟨(q, .lst ys), V7 hcs _ (by simp), rfl⟩
  have hpq : p ≠ q := fun e => hpne (e ▸ hqC)
  have hcells : ∀ c ∈ (p, HO.lst xs) :: (Cs.set kk [(q, HO.lst ys')]).flatten, upd H q (.lst ys') c.1 = some c.2 /\ EI c.2 = true := fun c hc => by
    rcases List.mem_cons.mp hc with rfl | hc
    · rw [XR hpq]; exact ⟨w.tr _ (hin _ List.mem_cons_self), rfl⟩
    · obtain ⟨D, hD, hcD⟩ := List.mem_flatten.mp hc
      rcases List.mem_or_eq_of_mem_set hD with hD | hD
      · by_cases hcq : c.1 = q
        · -- a cell at q in another place: then it is this one
          have hc2 : c ∈ (Cs.set kk [(q, HO.lst ys')]).flatten := hc
          have n1 : ((Cs.set kk [(q, HO.lst ys')]).flatten.map (·.1)).Nodup := hpm.nodup_iff.mpr cn0
          have hm : (q, HO.lst ys') ∈ (Cs.set kk [(q, HO.lst ys')]).flatten := List.mem_flatten.mpr ⟨[(q, .lst ys')], List.mem_set (by simpa using hkl) _, by simp⟩
          have e1 : c = (q, HO.lst ys') := by
            have := UL n1 hc2 hm hcq
            exact this
          rw [e1]; exact ⟨YQ, rfl⟩
        · rw [XR hcq]
          have : c ∈ OO.flatten := hin c (List.mem_cons_of_mem _ (List.mem_flatten.mpr ⟨D, hD, hcD⟩))
          exact ⟨w.tr c this, w.mu c this⟩
      · rw [hD] at hcD
        have e1 : c = (q, HO.lst ys') := by simpa using hcD
        rw [e1]; exact ⟨YQ, rfl⟩
  have hq' : q ∈ (Cs.set kk [(q, HO.lst ys')]).flatten.map (·.1) := hpm.mem_iff.mpr hqC
  obtain ⟨w2, m2⟩ := BO (C' := (p, .lst xs) :: (Cs.set kk [(q, HO.lst ys')]).flatten) (p := q) (o := .lst ys') w0 hk (List.mem_cons_of_mem _ hqC) (List.mem_cons_of_mem _ hq') (by
      rw [List.map_cons, List.nodup_cons]
      exact ⟨fun z => hpne (hpm.mem_iff.mp z), hpm.nodup_iff.mpr cn0⟩) (fun b hb => by
      rw [List.append_nil]
      rcases List.mem_cons.mp hb with rfl | hb
      · exact List.mem_cons_self
      · exact List.mem_cons_of_mem _ (hpm.mem_iff.mp hb)) (fun c hc => (hcells c hc).1) fun c hc => (hcells c hc).2
  rw [Zl] at m2
  have e3 : xs.set kk (.ref q) = xs := by
    apply List.ext_getElem?
    intro n
    by_cases hn : n = kk
    · subst hn
      rw [hx, List.getElem?_set_self (by
        rcases Nat.lt_or_ge n xs.length with h | h
        · exact h
        · rw [List.getElem?_eq_none h] at hx; cases hx)]
    · rw [List.getElem?_set_ne (fun e => hn e.symm)]
  refine ⟨_, w2, m2, ⟨p, xs, Cs.set kk [(q, HO.lst ys')], rfl, ?_, rfl⟩⟩
  have := P3.set (F := oL (oF r) K (hid (upd H q (.lst ys')) (OO.set k ((p, .lst xs) :: (Cs.set kk [(q, HO.lst ys')]).flatten)))) (a := V.ref q) (b := row') (c := [(q, HO.lst ys')])
    ⟨q, ys', List.replicate row'.length [], rfl, (P3.of (Paired.imp2 (fun _ _ h => z.mono m2 h) pr)).imp fun _ _ _ h => h, by rw [YJ]⟩ kk (P3.imp (fun _ _ _ h => MonoO.mono m2 h) hP)
  rw [e3] at this
  exact this
theorem F5 {r : Enc α} {h : Hp} {as : List (List α)} {xs : List V} {Cs : List (List XL)} {kk : Nat} {row : List α} (q : P3 (oL (oF r) K h) xs as Cs) (hrow : as[kk]? = some row) : ∃ q0 ys, xs[kk]? = some (.ref q0) /\ Cs[kk]? = some [(q0, .lst ys)] /\ Paired (r K h) ys row := by
  obtain ⟨x, c, h1, h2, p, ys, Ds, e, h3, h4⟩ := q.get hrow
  obtain ⟨h5, h6⟩ := P3.flat h3
  rw [h6] at h4
  exact ⟨p, ys, by rw [h1, e], by rw [h2, h4], h5⟩
theorem VJ {F : V -> α -> Prop} {y : V} {a : α} (r : F y a) : ∀ {l : List V} {m : List α} (i : Nat), Paired F l m -> Paired F (l.set i y) (m.set i a)
  | _, _, _, .nil => .nil
  | _, _, 0, .cons _ t => .cons r t
  | _, _, i + 1, .cons q t => .cons q (VJ r i t)
theorem DY {ta ti tj : TE} {r : Enc α} [z : MonoE r] {m : Res α} {mi mj : Res Int} {f : List (List α) -> Res β} {v : V} {as : List (List α)} {C : List XL} (i k : Nat) (hσ : σ[i]? = some (some v)) (hk : OO[k]? = some C) (h : ∀ x, S.p x -> oL (oL (oF r)) K x v as C) (he : EvS K Er S OO σ ta r m)
    (hi : EvB K Er S OO σ ti Xa mi) (hj : EvB K Er S OO σ tj Xa mj)
    (hr : ∀ bs C', Sv Er (S.addO K (oL (oL (oF r))) v bs C') (OO.set k C') σ u Fd (f bs)) :
    Sv Er S OO σ (Vz (Cr ta (HU (tOp (Bl K) (Uw i) ti) tj Ei)) u) Fd (m.bind fun a => mi.bind fun x => (atR as x).bind fun row => mj.bind fun y => (QV row y a).bind fun row' => (QV as x row').bind f) := fun H D w s P =>
  he.st w s P fun a va H1 s1 w1 q1 r1 P1 => ⟨v, hσ, hi.st w1 q1 P1 fun x vx H2 s2 w2 q2 r2 P2 => by
    cases ea : atR as x with
    | bad => rw [ea] at P2; exact P2.elim
    | err ex => exact absurd ea V2
    | ok row =>
      rw [ea] at P2
      obtain ⟨kk, hkk, hrow⟩ := Dm ea
      obtain ⟨p, xs, Cs, e, q, c⟩ := h _ q2
      subst c e
      obtain ⟨q0, ys, g1, g2, g3⟩ := F5 q hrow
      have hin : ∀ c ∈ (p, HO.lst xs) :: Cs.flatten, c ∈ OO.flatten := fun c hc => List.mem_flatten.mpr ⟨_, List.mem_of_getElem? hk, hc⟩
      have hH : H2 p = some (.lst xs) := w2.tr (p, .lst xs) (hin _ List.mem_cons_self)
      have hq0 : H2 q0 = some (.lst ys) := w2.tr (q0, .lst ys) (hin _ (List.mem_cons_of_mem _ (V7 g2 _ (by simp))))
      refine ⟨p, xs, x, .ref q0, rfl, r2, SqL.of hH, by unfold atI; rw [q.len.1, hkk]; exact g1, hj.st w2 q2 (f := fun y => (QV row y a).bind fun row' => (QV as x row').bind f) P2 fun y vy H3 s3 w3 q3 r3 P3' => ?_⟩
      cases eb : QV row y a with
      | bad => rw [eb] at P3'; exact P3'.elim
      | err ex => exact absurd eb Cd
      | ok row' =>
        rw [eb] at P3'
        obtain ⟨jj, hjj, rfl⟩ := DL eb
        have P4 : PZ Er (Fd D) (hid H3 OO) (f (as.set kk (row.set jj a))) := by
          have e5 : QV as x (row.set jj a) = .ok (as.set kk (row.set jj a)) := by unfold QV; rw [hkk]
          have : PZ Er (Fd D) (hid H3 OO) ((QV as x (row.set jj a)).bind f) := P3'
          rw [e5] at this
          exact this
        have m3 := Xl (OO := OO) s3
        obtain ⟨C', w4, m4, o4⟩ := DZ (ys' := ys.set jj va) (row' := row.set jj a) (v := .ref p) w3 hk (P3.imp (fun _ _ _ h => MonoO.mono m3 h) q) hrow g1 (s3 _ _ hq0) g2 (VJ (z.mono ((Xl s2).trans m3) r1) jj (Paired.imp2 (fun _ _ h => z.mono m3 h) g3))
        exact ⟨q0, ys, y, jj, rfl, r3, s3 _ _ hq0, by rw [Paired.len g3]; exact hjj, hr _ C' _ D w4 ⟨S.mono _ _ m4 q3, o4⟩ (PZ.tr (fd.tr D) m4 P4)⟩⟩
theorem CB {ta ti : TE} {r : Enc α} [z : MonoE r] {m : Res α} {mi : Res Int} {f : List (List α) -> Res β} {v : V} {as : List (List α)} {C : List XL} (i k : Nat) (hσ : σ[i]? = some (some v)) (hk : OO[k]? = some C) (h : ∀ x, S.p x -> oL (oL (oF r)) K x v as C) (he : EvS K Er S OO σ ta r m)
    (hi : EvB K Er S OO σ ti Xa mi)
    (hr : ∀ bs C', Sv Er (S.addO K (oL (oL (oF r))) v bs C') (OO.set k C') σ u Fd (f bs)) :
    Sv Er S OO σ (Vz (DF (tBM K "list" Ug (tOp (Bl K) (Uw i) ti) (XH ta Z4))) u) Fd (mi.bind fun x => (atR as x).bind fun row => m.bind fun a => chk (row.length < sizeLine) ((QV as x (row ++ [a])).bind f)) := fun H D w s P =>
  ⟨v, hσ, hi.st w s P fun x vx H2 s2 w2 q2 r2 P2 => by
    cases ea : atR as x with
    | bad => rw [ea] at P2; exact P2.elim
    | err ex => exact absurd ea V2
    | ok row =>
      rw [ea] at P2
      obtain ⟨kk, hkk, hrow⟩ := Dm ea
      obtain ⟨p, xs, Cs, e, q, c⟩ := h _ q2
      subst c e
      obtain ⟨q0, ys, g1, g2, g3⟩ := F5 q hrow
      have hin : ∀ c ∈ (p, HO.lst xs) :: Cs.flatten, c ∈ OO.flatten := fun c hc => List.mem_flatten.mpr ⟨_, List.mem_of_getElem? hk, hc⟩
      have hH : H2 p = some (.lst xs) := w2.tr (p, .lst xs) (hin _ List.mem_cons_self)
      have hq0 : H2 q0 = some (.lst ys) := w2.tr (q0, .lst ys) (hin _ (List.mem_cons_of_mem _ (V7 g2 _ (by simp))))
      refine ⟨p, xs, x, .ref q0, rfl, r2, SqL.of hH, by unfold atI; rw [q.len.1, hkk]; exact g1, .inl ⟨rfl, _, SqL.of hq0⟩, he.st w2 q2 (f := fun a => chk (row.length < sizeLine) ((QV as x (row ++ [a])).bind f)) P2 fun a va H3 s3 w3 q3 r3 P3' => ?_⟩
      obtain ⟨hsz, P3'⟩ := PZ.chk P3'
      have P4 : PZ Er (Fd D) (hid H3 OO) (f (as.set kk (row ++ [a]))) := by
        have e5 : QV as x (row ++ [a]) = .ok (as.set kk (row ++ [a])) := by unfold QV; rw [hkk]
        rw [e5] at P3'
        exact P3'
      have m3 := Xl (OO := OO) s3
      obtain ⟨C', w4, m4, o4⟩ := DZ (ys' := ys ++ [va]) (row' := row ++ [a]) (v := .ref p) w3 hk (P3.imp (fun _ _ _ h => MonoO.mono m3 h) q) hrow g1 (s3 _ _ hq0) g2 (Paired.app (Paired.imp2 (fun _ _ h => z.mono m3 h) g3) (.cons r3 .nil))
      exact ⟨q0, ys, va, rfl, rfl, s3 _ _ hq0, by rw [Paired.len g3]; exact hsz, hr _ C' _ D w4 ⟨S.mono _ _ m4 q3, o4⟩ (PZ.tr (fd.tr D) m4 P4)⟩⟩
theorem HJ {H H' : Hp} {C D : List XL} {k : Nat} (w : W OO H) (hk : OO[k]? = some C) (s : XC H H') (w' : W (D :: OO.set k []) H') (m : XC (hid H (OO.set k [])) (hid H' (D :: OO.set k []))) :
    W (D :: OO) H' /\ XC (hid H OO) (hid H' (D :: OO)) /\ JI (hid H' (D :: OO.set k [])) (hid H' (D :: OO)) := by
  have hp := Ye hk
  have wk : W (C :: OO.set k []) H := w.of hp
  have hC : ∀ c ∈ C, hid H (OO.set k []) c.1 = some c.2 := fun c hc => ZQ (wk.cell c hc) (by
    have := wk.nd
    rw [YB] at this
    exact fun hb => (List.nodup_append.mp this).2.2 c.1 (List.mem_map.mpr ⟨c, hc, rfl⟩) c.1 hb rfl)
  have hC' : ∀ c ∈ C, H' c.1 = some c.2 /\ c.1 ∉ fl (D :: OO.set k []) := fun c hc => Yv (m _ _ (hC c hc))
  have w2 : W (C :: D :: OO.set k []) H' := by
    refine ⟨fun c hc => ?_, ?_, fun c hc => ?_⟩
    · rw [List.flatten_cons, List.mem_append] at hc
      exact hc.elim (fun hc => (hC' c hc).1) fun hc => w'.tr c hc
    · rw [YB]
      refine List.nodup_append.mpr ⟨?_, w'.nd, fun a ha b hb e => ?_⟩
      · have := wk.nd
        rw [YB] at this
        exact (List.nodup_append.mp this).1
      · obtain ⟨c, hc, rfl⟩ := List.mem_map.mp ha
        subst e
        exact (hC' c hc).2 hb
    · rw [List.flatten_cons, List.mem_append] at hc
      exact hc.elim (fun hc => wk.mu c (by simp [hc])) fun hc => w'.mu c hc
  have pe : (D :: OO).flatten.Perm (C :: D :: OO.set k []).flatten := by
    simp only [List.flatten_cons]
    refine List.Perm.trans (List.Perm.append_left D (by simpa using hp.symm : OO.flatten.Perm (C ++ (OO.set k []).flatten))) ?_
    rw [← List.append_assoc, ← List.append_assoc]
    exact List.perm_append_comm.append_right _
  have w3 := w2.of pe
  refine ⟨w3, fun b u q => ?_, fun b u q i => w3.i b u (Yv q).1 i⟩
  obtain ⟨q1, q2⟩ := Yv q
  have q3 : hid H (OO.set k []) b = some u := ZQ q1 fun z => q2 ((JZ hp b).mp (by rw [YB]; simp [z]))
  obtain ⟨q4, q5⟩ := Yv (m _ _ q3)
  refine ZQ q4 fun z => ?_
  have z2 := (JZ pe b).mp z
  rw [YB, List.mem_append] at z2
  rcases z2 with z2 | z2
  · exact q2 ((JZ hp b).mp (by rw [YB]; exact List.mem_append_left _ z2))
  · exact q5 z2
theorem HR {r1 : Enc γ} {o1 : OE γ} [z : FrzC o1 r1] [MonoE r1] {H : Hp} {v : V} {a : γ} {C : List XL} {k : Nat} (w : W OO H) (hk : OO[k]? = some C) (s : S.p (hid H OO)) (h : ∀ x, S.p x -> o1 K x v a C) :
    W (OO.set k []) H /\ (S.add K r1 v a).p (hid H (OO.set k [])) := by
  have hp := Ye hk
  have wk : W (C :: OO.set k []) H := w.of hp
  have hs : XC (hid H OO) (hid H (OO.set k [])) := by
    rw [← Yy hp]
    exact Jo (XC.refl _) fun b hb => by rw [YB]; simp [hb]
  refine ⟨wk.tail, S.mono _ _ hs s, z.frz (h _ s) hs fun c hc => ZQ (wk.cell c hc) ?_⟩
  have := wk.nd
  rw [YB] at this
  exact fun hb => (List.nodup_append.mp this).2.2 c.1 (List.mem_map.mpr ⟨c, hc, rfl⟩) c.1 hb rfl
theorem Ed {te : TE} {o : OE α} [y : FlatO o] {r1 : Enc γ} {o1 : OE γ} [FrzC o1 r1] [MonoE r1] {m : Res α} {v : V} {a : γ} {C : List XL} (k : Nat) (hk : OO[k]? = some C) (h : ∀ x, S.p x -> o1 K x v a C) (he : Ev K Er (S.add K r1 v a) (OO.set k []) (OO.set k []) σ te o m) : Ev K Er S OO OO σ te o m := fun H Q w s P => by
  obtain ⟨w1, s1⟩ := HR (r1 := r1) w hk s h
  refine he H Q w1 s1 (P.imp fun b _ hb v' D H' s' w' m' ho => ?_)
  obtain ⟨w3, m3, i3⟩ := HJ w hk s' w' m'
  exact hb v' D H' s' w3 m3 (y.flat i3 ho)
theorem Cj (K : PySem.W.Frag) (T : String) : PySem.W.kitOne K (.type T) (.type T) = some true := by
  unfold PySem.W.kitOne
  rw [if_pos (beq_self_eq_true _)]
end
end L2
namespace L2
open PySem PySem.Spec PyProof.Rows
section
variable {K : PySem.W.Frag} {Er : Exc -> Hp -> Prop} {S : SC} {OO OO' OO1 OO2 : List (List XL)} {σ : St} {α β γ ρ ι δ ε : Type}
variable {Fd : Ends -> β -> Hp -> Prop} [fd : FdOk Fd] {u : TS}
noncomputable def IE : Option α -> Res α
  | some a => .ok a
  | none => .bad
end
end L2
namespace L2
open PySem PySem.Spec PyProof.Rows
section
variable {K : PySem.W.Frag} {Er : Exc -> Hp -> Prop} {S : SC} {OO OO' OO1 OO2 : List (List XL)} {σ : St} {α β γ ρ ι δ ε : Type}
variable {α1 α2 α3 α4 α5 : Type}
noncomputable def rP4 (r1 : Enc α1) (r2 : Enc α2) (r3 : Enc α3) (r4 : Enc α4) : Enc (α1 × α2 × α3 × α4) := fun K H v p => ∃ a x1 x2 x3 x4, v = .ref a /\ H a = some (.tup [x1, x2, x3, x4]) /\ r1 K H x1 p.1 /\ r2 K H x2 p.2.1 /\ r3 K H x3 p.2.2.1 /\ r4 K H x4 p.2.2.2
instance {r1 : Enc α1} {r2 : Enc α2} {r3 : Enc α3} {r4 : Enc α4} [m1 : MonoE r1] [m2 : MonoE r2] [m3 : MonoE r3] [m4 : MonoE r4] : MonoE (rP4 r1 r2 r3 r4) := ⟨fun s h9 => (by obtain ⟨a, x1, x2, x3, x4, e, h, p1, p2, p3, p4⟩ := h9; exact ⟨a, x1, x2, x3, x4, e, s _ _ h, m1.mono s p1, m2.mono s p2, m3.mono s p3, m4.mono s p4⟩)⟩
instance {r1 : Enc α1} {r2 : Enc α2} {r3 : Enc α3} {r4 : Enc α4} [m1 : FlatE r1] [m2 : FlatE r2] [m3 : FlatE r3] [m4 : FlatE r4] : FlatE (rP4 r1 r2 r3 r4) := ⟨fun s h9 => (by obtain ⟨a, x1, x2, x3, x4, e, h, p1, p2, p3, p4⟩ := h9; exact ⟨a, x1, x2, x3, x4, e, s _ _ h rfl, m1.flat s p1, m2.flat s p2, m3.flat s p3, m4.flat s p4⟩)⟩
instance {r1 : Enc α1} {r2 : Enc α2} {r3 : Enc α3} {r4 : Enc α4} : TyE (rP4 r1 r2 r3 r4) "tuple" := ⟨fun h9 => (by obtain ⟨p, x1, x2, x3, x4, e, q, _⟩ := h9; subst e; exact .tup q)⟩
noncomputable def rP5 (r1 : Enc α1) (r2 : Enc α2) (r3 : Enc α3) (r4 : Enc α4) (r5 : Enc α5) : Enc (α1 × α2 × α3 × α4 × α5) := fun K H v p => ∃ a x1 x2 x3 x4 x5, v = .ref a /\ H a = some (.tup [x1, x2, x3, x4, x5]) /\ r1 K H x1 p.1 /\ r2 K H x2 p.2.1 /\ r3 K H x3 p.2.2.1 /\ r4 K H x4 p.2.2.2.1 /\ r5 K H x5 p.2.2.2.2
instance {r1 : Enc α1} {r2 : Enc α2} {r3 : Enc α3} {r4 : Enc α4} {r5 : Enc α5} [m1 : MonoE r1] [m2 : MonoE r2] [m3 : MonoE r3] [m4 : MonoE r4] [m5 : MonoE r5] : MonoE (rP5 r1 r2 r3 r4 r5) := ⟨fun s h9 => (by obtain ⟨a, x1, x2, x3, x4, x5, e, h, p1, p2, p3, p4, p5⟩ := h9; exact ⟨a, x1, x2, x3, x4, x5, e, s _ _ h, m1.mono s p1, m2.mono s p2, m3.mono s p3, m4.mono s p4, m5.mono s p5⟩)⟩
instance {r1 : Enc α1} {r2 : Enc α2} {r3 : Enc α3} {r4 : Enc α4} {r5 : Enc α5} [m1 : FlatE r1] [m2 : FlatE r2] [m3 : FlatE r3] [m4 : FlatE r4] [m5 : FlatE r5] : FlatE (rP5 r1 r2 r3 r4 r5) := ⟨fun s h9 => (by obtain ⟨a, x1, x2, x3, x4, x5, e, h, p1, p2, p3, p4, p5⟩ := h9; exact ⟨a, x1, x2, x3, x4, x5, e, s _ _ h rfl, m1.flat s p1, m2.flat s p2, m3.flat s p3, m4.flat s p4, m5.flat s p5⟩)⟩
instance {r1 : Enc α1} {r2 : Enc α2} {r3 : Enc α3} {r4 : Enc α4} {r5 : Enc α5} : TyE (rP5 r1 r2 r3 r4 r5) "tuple" := ⟨fun h9 => (by obtain ⟨p, x1, x2, x3, x4, x5, e, q, _⟩ := h9; subst e; exact .tup q)⟩
theorem K3 {t1 : TE} {t2 : TE} {t3 : TE} {t4 : TE} {t5 : TE} {r1 : Enc α1} {r2 : Enc α2} {r3 : Enc α3} {r4 : Enc α4} {r5 : Enc α5} [z1 : MonoE r1] [z2 : MonoE r2] [z3 : MonoE r3] [z4 : MonoE r4] [z5 : MonoE r5] {m1 : Res α1} {m2 : Res α2} {m3 : Res α3} {m4 : Res α4} {m5 : Res α5} (h1 : EvS K Er S OO σ t1 r1 m1) (h2 : EvS K Er S OO σ t2 r2 m2) (h3 : EvS K Er S OO σ t3 r3 m3) (h4 : EvS K Er S OO σ t4 r4 m4) (h5 : EvS K Er S OO σ t5 r5 m5) : EvS K Er S OO σ (Hx (XH t1 (XH t2 (XH t3 (XH t4 (XH t5 Z4)))))) (rP5 r1 r2 r3 r4 r5) (m1.bind fun a1 => m2.bind fun a2 => m3.bind fun a3 => m4.bind fun a4 => m5.bind fun a5 => .ok (a1, a2, a3, a4, a5)) := fun H Q w s P =>
  h1.run w s FS.tr P fun a1 y1 H1 s1 w1 u1 q1 P1 => h2.run w1 u1 FS.tr P1 fun a2 y2 H2 s2 w2 u2 q2 P2 => h3.run w2 u2 FS.tr P2 fun a3 y3 H3 s3 w3 u3 q3 P3 => h4.run w3 u3 FS.tr P3 fun a4 y4 H4 s4 w4 u4 q4 P4 => h5.run w4 u4 FS.tr P4 fun a5 y5 H5 s5 w5 u5 q5 P5 => ⟨by show 5 <= sizeLine; decide, fun p hp => P5 _ _ (XY hp _) ⟨p, y1, y2, y3, y4, y5, rfl, QP w5 hp, z1.mono ((Xl s2).trans ((Xl s3).trans ((Xl s4).trans ((Xl s5).trans (Xl (XY hp _)))))) q1, z2.mono ((Xl s3).trans ((Xl s4).trans ((Xl s5).trans (Xl (XY hp _))))) q2, z3.mono ((Xl s4).trans ((Xl s5).trans (Xl (XY hp _)))) q3, z4.mono ((Xl s5).trans (Xl (XY hp _))) q4, z5.mono (Xl (XY hp _)) q5⟩⟩
noncomputable def tg5 {r1 : Enc α1} {r2 : Enc α2} {r3 : Enc α3} {r4 : Enc α4} {r5 : Enc α5} [MonoE r1] [MonoE r2] [MonoE r3] [MonoE r4] [MonoE r5] (i1 i2 i3 i4 i5 : Nat) : Tgt K OO (Bb K 5 (Z9 (Zh i1) (Z9 (Zh i2) (Z9 (Zh i3) (Z9 (Zh i4) (Z9 (Zh i5) Eh)))))) (rP5 r1 r2 r3 r4 r5) (V × V × V × V × V) where
  set := fun v σ => (((((σ.set i1 (some v.1)).set i2 (some v.2.1)).set i3 (some v.2.2.1)).set i4 (some v.2.2.2.1)).set i5 (some v.2.2.2.2))
  sc := fun a v S => (((((S.add K r1 v.1 a.1).add K r2 v.2.1 a.2.1).add K r3 v.2.2.1 a.2.2.1).add K r4 v.2.2.2.1 a.2.2.2.1).add K r5 v.2.2.2.2 a.2.2.2.2)
  ok := fun {H v a σ S Q} ⟨p, x1, x2, x3, x4, x5, e, h, h1, h2, h3, h4, h5⟩ hs hq => ⟨p, _, e, SqT.of (XS _ _ h), rfl, x1, [x2, x3, x4, x5], rfl, x2, [x3, x4, x5], rfl, x3, [x4, x5], rfl, x4, [x5], rfl, x5, [], rfl, rfl, hq (x1, x2, x3, x4, x5) ⟨⟨⟨⟨⟨hs, h1⟩, h2⟩, h3⟩, h4⟩, h5⟩⟩
theorem Ec {K : PySem.W.Frag} {n i1 i2 i3 : Nat} (h1 : i1 < n) (h2 : i2 < n) (h3 : i3 < n) : Kx n (Bb K 3 (Z9 (Zh i1) (Z9 (Zh i2) (Z9 (Zh i3) Eh)))) := fun x σ H Q q => by
  obtain ⟨a, xs, e1, hq, hl, v1, r1, f1, v2, r2, f2, v3, r3, f3, e9, q⟩ := q
  exact ⟨a, xs, e1, hq, hl, v1, r1, f1, v2, r2, f2, v3, r3, f3, e9, q, by simp, fun k hk => by rw [List.getElem?_set_ne (by omega), List.getElem?_set_ne (by omega), List.getElem?_set_ne (by omega)]⟩
noncomputable def Ig (as : List Int) : Res Int := chk (0 < as.length) (.ok (Fe as))
theorem Cv {ta : TE} {ma : Res (List Int)} (ha : EvB K Er S OO σ ta (rPL Xa) ma) : EvB K Er S OO σ (tCB (E2 K Fe) (XH ta Z4)) Xa (ma.bind Ig) := fun H Q w s P =>
  ha.run w s FB.tr P fun a x H1 s1 w1 q1 ⟨p, xs, e, q, pr⟩ P1 => by
    obtain ⟨h1, P1⟩ := PZ.chk P1
    exact ⟨p, a, by rw [e], by rw [← QK pr]; exact SqT.of q, h1, P1 _ H1 (XC.refl _) rfl⟩
theorem Ew {ta : TE} {m : Res (Int × Int × Int × Int × Int)} (ha : EvB K Er S OO σ ta (rP5 Xa Xa Xa Xa Xa) m) : EvB K Er S OO σ ta (rPL Xa) (m.bind fun p => .ok [p.1, p.2.1, p.2.2.1, p.2.2.2.1, p.2.2.2.2]) := fun H Q w s P =>
  ha.run w s FB.tr P fun a x H1 s1 w1 q1 ⟨p, x1, x2, x3, x4, x5, e, q, h1, h2, h3, h4, h5⟩ P1 => P1 _ H1 (XC.refl _) ⟨p, _, e, q, .cons h1 (.cons h2 (.cons h3 (.cons h4 (.cons h5 .nil))))⟩
theorem GM {te : TE} {tl th : TO} {r : Enc α} [z : MonoE r] {m : Res (List α)} {ml mh : Res (Option Int)} (he : EvB K Er S OO σ te (rPL r) m) (hl : EvP Er S OO σ tl ml) (hh : EvP Er S OO σ th mh) :
    EvB K Er S OO σ (tSl (Ib K) te tl th) (rPL r) (m.bind fun as => ml.bind fun lo => mh.bind fun hi => chk (¬ (HT.sIx as.length 0 lo = 0 /\ HT.sIx as.length as.length hi = as.length)) (.ok (JU as lo hi))) := fun H Q w s P =>
  he.run w s FB.tr P fun as x H1 s1 w1 q1 ⟨p, xs, e, q, pr⟩ P1 => hl.run w1 q1 FB.tr P1 fun lo H2 s2 w2 q2 P2 => hh.run w2 q2 FB.tr P2 fun hi H3 s3 w3 q3 P3' => by
    obtain ⟨hn, P3'⟩ := PZ.chk P3'
    have pr2 := Jm (Paired.imp2 (G := r K H3) (fun _ _ h => z.mono (s2.trans s3) h) pr) lo hi
    exact ⟨p, xs, e, SqT.of (s3 _ _ (s2 _ _ q)), by rw [Paired.len pr]; exact hn, fun a ha => P3' _ _ (XY ha _) ⟨a, _, rfl, YQ, Paired.imp2 (fun _ _ h => z.mono (XY ha _) h) pr2⟩⟩
noncomputable def rDP {α : Type} (r : Enc α) (K : PySem.W.Frag) (H : Hp) (kv : Key × V) (kx : Int × α) : Prop := kv.1 = .inl kx.1 /\ r K H kv.2 kx.2
noncomputable def rD {α : Type} (r : Enc α) : Enc (List (Int × α)) := fun K H v d => ∃ p kvs, v = .ref p /\ H p = some (.dK kvs) /\ Paired (rDP r K H) kvs d
noncomputable def oD {α : Type} (r : Enc α) : OE (List (Int × α)) := fun K h v d C => ∃ p kvs, v = .ref p /\ Paired (rDP r K h) kvs d /\ C = [(p, .dK kvs)]
instance {r : Enc α} [m : MonoE r] : MonoE (rD r) := ⟨fun s ⟨p, kvs, e, q, pr⟩ => ⟨p, kvs, e, s _ _ q, Paired.imp2 (fun _ _ z => ⟨z.1, m.mono s z.2⟩) pr⟩⟩
instance {r : Enc α} [m : MonoE r] : MonoO (oD r) := ⟨fun s ⟨p, kvs, e, pr, c⟩ => ⟨p, kvs, e, Paired.imp2 (fun _ _ z => ⟨z.1, m.mono s z.2⟩) pr, c⟩⟩
instance {r : Enc α} [m : FlatE r] : FlatO (oD r) := ⟨fun s ⟨p, kvs, e, pr, c⟩ => ⟨p, kvs, e, Paired.imp2 (fun _ _ z => ⟨z.1, m.flat s z.2⟩) pr, c⟩⟩
instance {r : Enc α} [m : MonoE r] : FrzC (oD r) (rD r) := ⟨fun ⟨p, kvs, e, pr, c⟩ s hc => ⟨p, kvs, e, hc (p, .dK kvs) (by rw [c]; simp), Paired.imp2 (fun _ _ z => ⟨z.1, m.mono s z.2⟩) pr⟩⟩
noncomputable def Zu (d : List (Int × α)) (k : Int) : Option α := (d.find? fun kv => decide (kv.1 = k)).map (·.2)
noncomputable def KB (d : List (Int × α)) (k : Int) (v : α) : List (Int × α) := if (d.any fun kv => decide (kv.1 = k)) = true then d.map (fun kv => if kv.1 = k then (kv.1, v) else kv) else d ++ [(k, v)]
noncomputable def VD (d : List (Int × α)) (k : Int) : Res α := IE (Zu d k)
theorem J0 {r : Enc α} {H : Hp} {k : Int} : ∀ {kvs : List (Key × V)} {d : List (Int × α)}, Paired (rDP r K H) kvs d -> (∀ a, Zu d k = some a -> ∃ v, K8 kvs (.inl k) = some v /\ r K H v a) /\ (K8 kvs (.inl k)).isSome = (Zu d k).isSome
  | _, _, .nil => ⟨fun a h => (by cases h), rfl⟩
  | kv :: kvs, kx :: d, .cons h t => by
    obtain ⟨h1, h2⟩ := J0 (k := k) t
    by_cases e : kx.1 = k
    · have e2 : kv.1 = .inl k := by rw [h.1, e]
      rw [JP e2]
      have e3 : Zu (kx :: d) k = some kx.2 := by simp [Zu, List.find?_cons, e]
      rw [e3]
      exact ⟨fun a ha => by cases ha; exact ⟨_, rfl, h.2⟩, rfl⟩
    · have e2 : ¬ kv.1 = .inl k := by rw [h.1]; exact fun z => e (Sum.inl.inj z)
      rw [JR e2]
      have e3 : Zu (kx :: d) k = Zu d k := by simp [Zu, List.find?_cons, e]
      rw [e3]
      exact ⟨h1, h2⟩
theorem VR {r : Enc α} {H : Hp} {k : Int} : ∀ {kvs : List (Key × V)} {d : List (Int × α)}, Paired (rDP r K H) kvs d -> (kvs.any fun kv => decide (kv.1 = .inl k)) = d.any fun kx => decide (kx.1 = k)
  | _, _, .nil => rfl
  | kv :: kvs, kx :: d, .cons h t => by
    rw [List.any_cons, List.any_cons, VR t, h.1]
    congr 1
    rw [Bool.eq_iff_iff]; simp
theorem KU {r : Enc α} {H : Hp} {k : Int} {v : V} {a : α} (hv : r K H v a) {kvs : List (Key × V)} {d : List (Int × α)} (h : Paired (rDP r K H) kvs d) : Paired (rDP r K H) (Ux kvs (.inl k) v) (KB d k a) := by
  unfold Ux KB
  rw [VR h]
  by_cases e : (d.any fun kx => decide (kx.1 = k)) = true
  · rw [if_pos e, if_pos e]
    clear e
    induction h with
    | nil => exact .nil
    | @cons kv kx l m h t ih =>
      refine .cons ?_ ih
      show rDP r K H (if kv.1 = .inl k then (kv.1, v) else kv) (if kx.1 = k then (kx.1, a) else kx)
      by_cases e : kx.1 = k
      · rw [if_pos (show kv.1 = .inl k by rw [h.1, e]), if_pos e]; exact ⟨h.1, hv⟩
      · rw [if_neg (show ¬ kv.1 = .inl k by rw [h.1]; exact fun z => e (Sum.inl.inj z)), if_neg e]; exact h
  · rw [if_neg e, if_neg e]
    exact Paired.app h (.cons ⟨rfl, hv⟩ .nil)
theorem Eo {r : Enc α} : Ev K Er S OO OO σ Bd (oD r) (.ok []) := fun H Q w s P => fun p hp => P (.ref p) [(p, .dK [])] _ (XY hp _) (w.new hp rfl) (Ua hp) ⟨p, [], rfl, .nil, rfl⟩
theorem Ul {td ty : TE} {r : Enc α} [z : MonoE r] {md : Res (List (Int × α))} {mk : Res Int} (hd : EvB K Er S OO σ td (rD r) md) (hk : EvB K Er S OO σ ty Xa mk) : EvB K Er S OO σ (Hr td ty) r (md.bind fun d => mk.bind fun k => VD d k) := fun H Q w s P =>
  hd.run w s FB.tr P fun d x H1 s1 w1 q1 ⟨p, kvs, e, q, pr⟩ P1 => hk.run w1 q1 FB.tr P1 fun k y H2 s2 w2 q2 r2 P2 => by
    cases eg : Zu d k with
    | none => rw [VD, eg] at P2; exact P2.elim
    | some a =>
      rw [VD, eg] at P2
      obtain ⟨v, hv, rv⟩ := (J0 (k := k) pr).1 a eg
      exact ⟨p, v, e, .inl ⟨kvs, .inl k, .inl (s2 _ _ q), r2, hv.symm⟩, P2 _ H2 (XC.refl _) (z.mono s2 rv)⟩
variable {Fd : Ends -> β -> Hp -> Prop} [fd : FdOk Fd] {u : TS}
theorem BD {tv ty : TE} {r : Enc α} [z : MonoE r] {mv : Res α} {mk : Res Int} {f : List (Int × α) -> Res β} {v : V} {d : List (Int × α)} {C : List XL} (i k : Nat) (hσ : σ[i]? = some (some v)) (hk : OO[k]? = some C) (h : ∀ x, S.p x -> oD r K x v d C) (hv : EvS K Er S OO σ tv r mv) (hy : EvB K Er S OO σ ty Xa mk)
    (hr : ∀ d' C', Sv Er (S.addO K (oD r) v d' C') (OO.set k C') σ u Fd (f d')) : Sv Er S OO σ (Vz (Hi (Uw i) ty tv) u) Fd (mv.bind fun a => mk.bind fun n => chk (d.length < sizeLine) (f (KB d n a))) := fun H D w s P =>
  hv.st w s P fun a va H1 s1 w1 q1 r1 P1 => ⟨v, hσ, hy.st w1 q1 P1 fun n vn H2 s2 w2 q2 r2 P2 => by
    obtain ⟨hsz, P2⟩ := PZ.chk P2
    obtain ⟨p, kvs, e, pr, c⟩ := h _ q2
    subst c e
    have hH : H2 p = some (.dK kvs) := w2.tr (p, .dK kvs) (List.mem_flatten.mpr ⟨_, List.mem_of_getElem? hk, by simp⟩)
    obtain ⟨w3, m3⟩ := BO (D := []) (C' := [(p, .dK (Ux kvs (.inl n) va))]) (p := p) (o := .dK (Ux kvs (.inl n) va)) w2.nil hk (by simp) (by simp) (by simp) (fun b hb => by simpa using hb) (fun c hc => by
      have : c = (p, .dK (Ux kvs (.inl n) va)) := by simpa using hc
      rw [this]; exact YQ) (fun c hc => by
      have : c = (p, .dK (Ux kvs (.inl n) va)) := by simpa using hc
      rw [this]; rfl)
    rw [Zl] at m3
    refine ⟨p, _, rfl, .inl ⟨kvs, .inl n, hH, r2, by rw [Paired.len pr]; exact hsz, rfl⟩, ?_⟩
    exact hr _ _ _ D w3 ⟨S.mono _ _ m3 q2, ⟨p, _, rfl, KU (z.mono ((Xl s2).trans m3) r1) (Paired.imp2 (fun _ _ h => ⟨h.1, z.mono m3 h.2⟩) pr), rfl⟩⟩ (PZ.tr (fd.tr D) m3 P2)⟩
theorem Ho {tb : TE} {o : OE α} [z : MonoO o] {mb : Res Int} {v : V} {as : List α} {C : List XL} (i k : Nat) (hσ : σ[i]? = some (some v)) (hk : OO[k]? = some C) (h : ∀ x, S.p x -> oL o K x v as C) (hb : EvB K Er S OO σ tb Xa mb) :
    Ev K Er S OO (OO.set k []) σ (tOp (Bl K) (Uw i) tb) o (mb.bind fun n => atR as n) := fun H Q w s P =>
  ⟨v, hσ, hb H _ w s (by
    cases eb : mb with
    | bad => rw [eb] at P; exact P
    | err x => rw [eb] at P; exact P
    | ok n =>
      rw [eb] at P
      intro y H1 s1 r1
      have w1 := w.keep s1
      have q1 := S.mono _ _ (Xl (OO := OO) s1) s
      obtain ⟨c0, hc, P1⟩ := PZ.okOf (fun x => V2) (show PZ Er _ H (atR as n) from P)
      obtain ⟨kk, hkk, hrow⟩ := Dm hc
      obtain ⟨p, xs, Cs, e, q, c⟩ := h _ q1
      subst c e
      obtain ⟨x, D, g1, g2, g3⟩ := q.get hrow
      have hH : H1 p = some (.lst xs) := w1.tr (p, .lst xs) (List.mem_flatten.mpr ⟨_, List.mem_of_getElem? hk, List.mem_cons_self⟩)
      have hp := Ye hk
      have wa : W ((((p, HO.lst xs) :: Cs.flatten)) :: OO.set k []) H1 := w1.of hp
      have hDs : D.Sublist Cs.flatten := by
        have := List.sublist_flatten_of_mem (List.mem_of_getElem? g2)
        exact this
      have wb : W (D :: OO.set k []) H1 := wa.sub (by
        simp only [List.flatten_cons]
        exact List.Sublist.append (hDs.trans (List.sublist_cons_self _ _)) (List.Sublist.refl _))
      have hs : XC (hid H1 OO) (hid H1 (D :: OO.set k [])) := by
        rw [← Yy hp]
        refine Jo (XC.refl _) fun b hb => ?_
        rw [YB, List.mem_append] at hb ⊢
        rcases hb with hb | hb
        · obtain ⟨c, hc, rfl⟩ := List.mem_map.mp hb
          exact .inl (List.mem_map.mpr ⟨c, List.mem_cons_of_mem _ (hDs.mem hc), rfl⟩)
        · exact .inr hb
      exact ⟨p, xs, n, x, rfl, r1, SqL.of hH, by unfold atI; rw [q.len.1, hkk]; exact g1, P1 x D H1 s1 wb ((Xl s1).trans hs) (z.mono hs g3)⟩)⟩
end
end L2
namespace L2
open PySem PySem.Spec PyProof.Rows
theorem Y3.ex {P : Program} {w : World} {H : Hp} {h : Heap} {a : Addr} {o : HO} (x : Y3 P w H h a o) : ∃ u, h.get? a = some u := by
  cases o with
  | lst xs => obtain ⟨_, _, _, _, e⟩ := x; exact ⟨_, e⟩
  | tup xs => obtain ⟨_, _, _, p⟩ := x; obtain ⟨o, e, _⟩ := p; exact ⟨_, e⟩
  | dK kvs => obtain ⟨_, _, _, _, o, _, _, e, _⟩ := x; exact ⟨_, e⟩
  | dT kvs => obtain ⟨_, _, _, _, o, _, _, e, _⟩ := x; exact ⟨_, e⟩
  | set S n => obtain ⟨o, _, _, _, e, _⟩ := x; exact ⟨_, e⟩
  | ins C dx fs => obtain ⟨_, _, _, e, _⟩ := x; exact ⟨_, e⟩
  | own y => exact x
  | xd fs => obtain ⟨_, ⟨_, _, _, e, _⟩, _⟩ := x; exact ⟨_, e⟩
  | rng lo hi => obtain ⟨_, _, _, e⟩ := x; exact ⟨_, e⟩
  | frz ob u => exact ⟨_, x.1⟩
  | tbl ps => exact ⟨_, x⟩
  | met f y => exact ⟨_, x⟩
  | ext φ => exact x.2.1
theorem HOk.un0 {P : Program} {w : World} {H : Hp} {h : Heap} {a : Addr} (x : HOk P w H h) (e : h.get? a = none) : H a = none := by
  cases q : H a with
  | none => rfl
  | some u => obtain ⟨v, hv⟩ := (x a u q).ex; rw [e] at hv; cases hv
structure Fl (h0 h : Heap) (H : Hp) (a T : Addr) (cls : Value) : Prop where
  na : h0.get? a = none
  nT : h0.get? T = none
  fa : H a = none
  fT : H T = none
  ne : T ≠ a
  obj : ∃ oe vs oT ts a0, h.get? a = some oe /\ oe.cls = cls /\ vs[0]? = some a0 /\ oe.data = .fields vs /\ vs[1]? = some (.ref T) /\ h.get? T = some oT /\ oT.data = .fields ts /\ ts[3]? = some Value.none
noncomputable def HI (h : Heap) (fs : List Addr) (a T : Addr) : Heap := Cg h (fun b => if b ∈ fs ∨ b = a ∨ b = T then some (.own 0) else none)
theorem KY {h : Heap} {fs : List Addr} {a T b : Addr} {o : Obj} (e : h.get? b = some o) (n1 : b ∉ fs) (n2 : b ≠ a) (n3 : b ≠ T) : (HI h fs a T).get? b = some o :=
  K4 e (if_neg fun z => z.elim n1 fun z => z.elim n2 n3)
section
variable {P : Program} {w : World} {h0 h h' base : Heap} {H : Hp} {a T : Addr} {cls a0 : Value} {l : List Env}
theorem Un.traced (hl : h.FunFrames base l) (keep : ∀ b o, b ∉ frs l -> b ≠ a -> b ≠ T -> h.get? b = some o -> h'.get? b = some o) (up : h.UpToSlots h') : Un (frs l) [a, T] H H h h' where
  keep := fun b o e _ hb hx => keep b o hb (fun z => hx (by simp [z])) (fun z => hx (by simp [z])) e
  slot := fun b o e _ hb _ => by
    obtain ⟨_, o2, ho2, hd2⟩ := hl.mem hb
    rw [e] at ho2; cases ho2
    exact up b o e hd2
  free := fun b o e n _ => n
  there := fun b o e hx => by
    by_cases hb : b ∈ frs l
    · obtain ⟨_, o2, ho2, hd2⟩ := hl.mem hb
      obtain ⟨sl, q⟩ := up b o2 ho2 hd2
      exact ⟨_, q⟩
    · exact ⟨o, keep b o hb (fun z => hx (by simp [z])) (fun z => hx (by simp [z])) e⟩
  tups := fun _ _ q => q
  frzs := fun _ _ _ q => q
  tbls := fun _ ps q => ⟨#[], by simpa using q⟩
theorem HOk.traced (hok : HOk P w H h) (hfn : ∀ b ∈ frs l, H b = none) (fa : H a = none) (fT : H T = none) (keep : ∀ b o, b ∉ frs l -> b ≠ a -> b ≠ T -> h.get? b = some o -> h'.get? b = some o) : HOk P w H h' := fun b o e => by
  refine (hok b o e).stay (fun c u hc q => ?_) (fun _ q => q) fun _ _ q => q
  have hn : H c ≠ none := by
    rcases hc with z | z
    · rw [z, e]; exact fun y => nomatch y
    · rw [z]; exact fun y => nomatch y
  exact keep c u (fun z => hn (hfn c z)) (fun z => hn (z ▸ fa)) (fun z => hn (z ▸ fT)) q
theorem Fl.after (x : Fl h0 h H a T cls) (hl : h.FunFrames base l) (hfn : ∀ b ∈ frs l, H b = none) (hok : HOk P w H h) (th : ∀ b o, h0.get? b = some o -> ∃ o', h.get? b = some o')
    (st : (HI h (frs l) a T).StaysIn h') (tr : h'.TracedW (HI h (frs l) a T) a cls a0) (up : h.UpToSlots h') : ∃ T', Fl h0 h' H a T' cls /\ HOk P w H h' /\ Un (frs l) [a, T] H H h h' := by
  obtain ⟨oe, vs, T', oT, ts, ha, ⟨hc, h0'⟩, hd, h1, hnT, hne, hT, hdT, h3⟩ := tr
  have key : T' = T ∨ h.get? T' = none := by
    cases q : h.get? T' with
    | none => exact .inr rfl
    | some o =>
      by_cases hf : T' ∈ frs l
      · obtain ⟨_, o2, ho2, hd2⟩ := hl.mem hf
        obtain ⟨sl, e2⟩ := up T' o2 ho2 hd2
        rw [hT] at e2; cases e2
        exact absurd hdT (hd2 ts)
      · by_cases hz : T' = T
        · exact .inl hz
        · rw [KY q hf hne hz] at hnT; cases hnT
  have keep : ∀ b o, b ∉ frs l -> b ≠ a -> b ≠ T -> h.get? b = some o -> h'.get? b = some o := fun b o n1 n2 n3 e => st b o (KY e n1 n2 n3)
  refine ⟨T', ⟨x.na, ?_, x.fa, ?_, hne, oe, vs, oT, ts, a0, ha, hc, h0', hd, h1, hT, hdT, h3⟩, hok.traced hfn x.fa x.fT keep, Un.traced hl keep up⟩
  · rcases key with e | e
    · rw [e]; exact x.nT
    · cases q : h0.get? T' with
      | none => rfl
      | some o => obtain ⟨o', e'⟩ := th _ _ q; rw [e] at e'; cases e'
  · rcases key with e | e
    · rw [e]; exact x.fT
    · exact hok.un0 e
end
section
variable {fs fs2 ex ex2 : List Addr} {H0 H H' : Hp} {h0 h h' : Heap}
end
section
variable {P : Program} {w : World} {K : PySem.W.Frag} {mg : Str -> Option Value} {base : Heap} {N : List Str} {qual : Str} {scope : Scope} {f : Addr} {cd : Value} {A : Around} {outer : List Env} {s0 : Shared} {H0 : Hp} {E : XK}
end
section
variable {X : Cx} {k j : Nat} {x : Str} {ps : List Str} {sp : Sp} {e : Expr} {es : List Expr} {t : TA} {p pos : Pos} {E : XK}
end
section
variable {X : Cx} {E : XK} {C : Addr} {x : Str} {e : Expr} {es : List Expr} {t : TA} {np cpos pos : Pos}
end
end L2
namespace L2
open PySem PySem.Spec PyProof.Rows
noncomputable abbrev TJ := St -> Hp -> (Hp -> Prop) -> Prop
section
variable {X : Cx} {e : Expr} {es : List Expr} {te : TE} {t : TJ} {n : Nat} {pos p : Pos}
end
noncomputable abbrev Cx.held (X : Cx) (a : Addr) (pn : List (Addr × Obj)) : Cx := { X with A := X.A.mark (some (.ref a)), calm := false, pn := pn, xe := fun _ _ => False }
theorem Cx.Ok.held {X : Cx} (ok : X.Ok) (a : Addr) (pn : List (Addr × Obj)) : (X.held a pn).Ok :=
  ⟨ok.mod, ok.kind, ok.glob, ok.blt, ok.above, ok.inj, ok.has, ok.cab, (fun z => nomatch z), ok.frames, ok.stk, ok.exf, ok.bs, ok.bsz, ok.noex, ok.exfs, ok.funs, ok.frf⟩
section
variable {X : Cx} {pins : List (Addr × Obj)} {σ : St} {H : Hp} {s : Shared} {h' : Heap}
end
section
variable {X : Cx} {body suite : List Stmt} {b₀ : Stmt} {cn n : Str} {Ch : Addr} {i : Nat} {tb : XK -> TS} {ts : Addr -> Addr -> TS} {np hpos pos : Pos}
end
end L2
namespace L2
open PySem PySem.Spec PyProof.Rows
section
variable {K : PySem.W.Frag} {Er : Exc -> Hp -> Prop} {S : SC} {OO OO' OO2 : List (List XL)} {σ : St} {α β γ ρ ι : Type} {α1 α2 α3 α4 α5 α6 : Type} {mg : Str -> Option Value} {E : XK}
noncomputable def FJ (Q : Hp -> Prop) (_ : Unit) (H : Hp) : Prop := ∀ H', XC H H' -> Q H'
theorem FJ.tr {Q : Hp -> Prop} : ∀ (b : Unit) (H H' : Hp), XC H H' -> FJ Q b H -> FJ Q b H' := fun _ _ _ s h H2 s2 => h H2 (s.trans s2)
variable {Fd : Ends -> β -> Hp -> Prop} [fd : FdOk Fd] {u : TS}
section
variable {te : XK -> TE} {m : Res α} {ts : Addr -> Addr -> TS} {N i : Nat} {Ch : Addr} {o : OE ρ} {g : Exc -> Res ρ} {ns : List Str} {d : Str}
end
end
end L2
namespace L2
open PySem PySem.Spec PyProof.Rows PySem.W PySem.Builtin PySem.Builtin.ObjectAttr PySem.Builtin.Getset_descriptor
section
variable {prog : Program} {w : World} {A : Around} {E : Value -> Shared -> Prop} {K : Frag} {x D : Addr} {s : Shared}
end
theorem PS.nox {X : Cx} {st : Stmt} {t : TS} (h : PS X.nox st t) : PS X st t := fun pins s σ H D I hw =>
  wpAny_mono (h pins s σ H D (I.wish _) hw) (fun _ _ q => q.unwish) fun _ _ z => False.elim z
section
variable {K : PySem.W.Frag} {C D : Addr} {b : Bool}
end
end L2
namespace L2
open PySem PySem.Spec PyProof.Rows
section
variable {α β : Type} {K : PySem.W.Frag} {Er : Exc -> Hp -> Prop} {S : SC} {OO : List (List XL)} {σ : St} {Fd : Ends -> β -> Hp -> Prop} [fd : FdOk Fd] {u : TS}
end
end L2
namespace L2
open PySem PySem.Spec PyProof.Rows
section
variable {α β γ δ ε : Type}
structure Crs (r : Enc α) (q : Enc β) (d : Nat) : Prop where
  no : ∀ {X : Cx} {pins : List (Addr × Obj)} {σ : St} {H : Hp} {s : Shared} {x : V} {a : α} {b : β}, Inv X pins σ H s -> r X.K H x a -> q X.K H x b -> False
  lr : ∀ {X : Cx} {pins : List (Addr × Obj)} {σ : St} {H : Hp} {s : Shared} {x y : V} {v u : Value} {a : α} {b : β} {A : Around}, Inv X pins σ H s -> Yt x v -> Yt y u -> r X.K H x a -> q X.K H y b -> A.units + d < cLine -> SeqAt.EqAt A s v u false /\ SeqAt.RcAt A s v u false /\ SeqAt.RcNeAt A s v u true
  rl : ∀ {X : Cx} {pins : List (Addr × Obj)} {σ : St} {H : Hp} {s : Shared} {x y : V} {v u : Value} {a : α} {b : β} {A : Around}, Inv X pins σ H s -> Yt x v -> Yt y u -> q X.K H x b -> r X.K H y a -> A.units + d < cLine -> SeqAt.EqAt A s v u false /\ SeqAt.RcAt A s v u false /\ SeqAt.RcNeAt A s v u true
theorem Crs.up {r : Enc α} {q : Enc β} {d e : Nat} (c : Crs r q d) (h : d <= e) : Crs r q e := ⟨c.no, fun I rx ry h1 h2 hu => c.lr I rx ry h1 h2 (by omega), fun I rx ry h1 h2 hu => c.rl I rx ry h1 h2 (by omega)⟩
end
end L2
namespace L2
open PySem PySem.Spec PyProof.Rows
section
variable {K : PySem.W.Frag} {Er : Exc -> Hp -> Prop} {S : SC} {OO OO' OO1 OO2 : List (List XL)} {σ : St} {α β γ ρ ι δ ε ζ : Type}
variable {Fd : Ends -> β -> Hp -> Prop} [fd : FdOk Fd] {u : TS}
noncomputable def getL : α ⊕ γ -> Res α
  | .inl a => .ok a
  | .inr _ => .bad
noncomputable def getR : α ⊕ γ -> Res γ
  | .inl _ => .bad
  | .inr b => .ok b
end
end L2
namespace L2
theorem Vx {α : Type} {us : List α} (h : us.length = 1) : ∃ a, us = [a] := List.length_eq_one_iff.mp h
theorem Je {α : Type} {us : List α} (h : us.length = 2) : ∃ a0 a1, us = [a0, a1] := by
  cases us with
  | nil => cases h
  | cons a0 t =>
    obtain ⟨a1, rfl⟩ := Vx (Nat.succ.inj h)
    exact ⟨a0, a1, rfl⟩
theorem JJ {α : Type} {us : List α} (h : us.length = 3) : ∃ a0 a1 a2, us = [a0, a1, a2] := by
  cases us with
  | nil => cases h
  | cons a0 t =>
    obtain ⟨a1, a2, rfl⟩ := Je (Nat.succ.inj h)
    exact ⟨a0, a1, a2, rfl⟩
theorem Hy {α : Type} {us : List α} (h : us.length = 4) : ∃ a0 a1 a2 a3, us = [a0, a1, a2, a3] := by
  cases us with
  | nil => cases h
  | cons a0 t =>
    obtain ⟨a1, a2, a3, rfl⟩ := JJ (Nat.succ.inj h)
    exact ⟨a0, a1, a2, a3, rfl⟩
theorem HQ {α : Type} {us : List α} (h : us.length = 5) : ∃ a0 a1 a2 a3 a4, us = [a0, a1, a2, a3, a4] := by
  cases us with
  | nil => cases h
  | cons a0 t =>
    obtain ⟨a1, a2, a3, a4, rfl⟩ := Hy (Nat.succ.inj h)
    exact ⟨a0, a1, a2, a3, a4, rfl⟩
end L2
namespace My
open PySem L2
noncomputable def JY (a_0 : ((List (List Int)) × (List (Int × Int)))) (a_1 : Int) : Res (Int × Int) := (Res.bind (Res.bind (Res.bind (Res.ok a_0) fun x1 => (Res.ok x1.1)) fun x2 => (Res.ok (Ki x2))) fun x20 => (Res.bind (forC x20 () (fun g5 a7 => (Res.bind (Res.bind (Res.ok a_1) fun x9 => (Res.bind (Res.ok a7.2) fun x10 => (Res.ok (decide (x9 ∈ x10))))) fun x11 => (if x11 = true then (Res.bind (Res.bind (Res.ok a7.1) fun x14 => (Res.bind (Res.bind (Res.ok a7.2) fun x12 => (Res.bind (Res.ok a_1) fun x13 => (Cl x12 x13))) fun x15 => (Res.ok (x14, x15)))) fun x17 => (Res.ok (Ctl.ret x17))) else (Res.bind (Res.ok ()) fun x16 => (Res.ok (Ctl.nx x16))))))) (JE fun g18 => Res.bad)))
noncomputable def XU (a_0 : (List Int)) : Res Int := (Res.bind (Res.bind (Res.ok a_0) fun x6 => (EH x6 (fun a4 => (Res.bind (Res.ok a4) fun x7 => (Res.bind (Res.ok (0 : Int)) fun x8 => (Res.ok (decide (x7 < x8)))))) (fun a4 => (Res.ok a4)))) fun a1 => (Res.bind (Res.bind (Res.ok a1) fun x10 => (Res.ok (x10.length : Int))) fun x11 => (Res.bind (Res.ok (1 : Int)) fun x12 => (Res.ok (max x11 x12)))))
noncomputable def YE (a_0 : (List Int)) (a_1 : Int) : Res (List Int) := (Res.bind (Res.bind (Res.ok a_0) fun x4 => (noE (XU x4))) fun a1 => (Res.bind (Res.ok (0 : Int)) fun a5 => (Res.bind (Res.bind (Res.bind (Res.ok a_1) fun x11 => (Res.bind (Res.ok []) fun x12 => (Res.ok (x11 :: x12)))) fun x10 => (chk (x10.length <= sizeLine) (Res.ok x10))) fun a7 => (Res.bind (Res.bind (Res.ok a_0) fun x15 => (Res.bind (Res.ok none) fun x16 => (Res.bind (Res.bind (Res.bind (Res.ok (1 : Int)) fun x13 => (Res.ok (-x13))) fun x14 => (Res.ok (some x14))) fun x17 => (Res.ok (JU x15 x16 x17))))) fun x43 => (Res.bind (forN x43 (a5, a7) (fun g20 a22 => (Res.bind (Res.bind (Res.bind (Res.ok a22) fun x24 => (Res.bind (Res.ok (0 : Int)) fun x25 => (Res.ok (decide (x24 < x25))))) fun x26 => (if x26 = true then (Res.bind (Res.ok (1 : Int)) fun x29 => ((fun (a31 : Int) => (Res.ok (a31))) (g20.1 + x29))) else (Res.ok (g20.1)))) fun g33 => (Res.bind (Res.bind (Res.ok a_1) fun x36 => (Res.bind (Res.bind (Res.ok g33) fun x34 => (Res.bind (Res.ok a1) fun x35 => (ZS x34 x35))) fun x37 => (Res.ok (x36 + x37)))) fun a38 => (chk (g20.2.length < sizeLine) ((fun a40 => (Res.ok (g33, a40))) (g20.2 ++ [a38]))))))) fun g41 => (Res.ok g41.2))))))
noncomputable def VG (a_0 : ((List (List Int)) × (List (Int × Int)))) : Res (List (List Int)) := (Res.bind (Res.ok []) fun a1 => (Res.bind (Res.ok (0 : Int)) fun a4 => (Res.bind (Res.bind (Res.ok a_0) fun x6 => (Res.ok x6.1)) fun x26 => (Res.bind (forN x26 (a4, a1) (fun g9 a11 => (Res.bind (Res.bind (Res.ok a11) fun x14 => (Res.bind (Res.ok g9.1) fun x15 => (noE (YE x14 x15)))) fun a16 => (chk (g9.2.length < sizeLine) ((fun a18 => (Res.bind (Res.bind (Res.ok a11) fun x20 => (noE (XU x20))) fun x21 => ((fun (a23 : Int) => (Res.ok (a23, a18))) (g9.1 + x21)))) (g9.2 ++ [a16])))))) fun g24 => (Res.ok g24.2)))))
noncomputable def Za (a_0 : ((List (List Int)) × (List (Int × Int)))) : Res Int := (Res.bind (Res.bind (Res.bind (Res.ok a_0) fun x2 => (Res.ok x2.1)) fun x6 => (Kp x6 (fun a4 => (Res.bind (Res.ok a4) fun x8 => (noE (XU x8)))))) fun x9 => (Res.ok (x9.sum)))
noncomputable def QB (a_0 : ((List (List Int)) × (List (Int × Int)))) : Res (List (Int × Int × Int × Int × Int)) := (Res.bind (Res.bind (Res.ok a_0) fun x4 => (noE (VG x4))) fun a1 => (Res.bind (Res.ok []) fun a5 => (Res.bind (Res.bind (Res.ok a_0) fun x8 => (Res.ok x8.2)) fun x64 => (Res.bind (forN x64 (a5) (fun g11 a13 => (Res.bind (Res.bind (Res.ok a_0) fun x18 => (Res.bind (Res.ok a13.1) fun x19 => (noE (JY x18 x19)))) fun a15 => (Res.bind (Res.bind (Res.ok a_0) fun x24 => (Res.bind (Res.bind (Res.ok a13.1) fun x23 => (Res.ok (-x23))) fun x25 => (noE (JY x24 x25)))) fun a20 => (Res.bind (Res.bind (Res.bind (Res.ok a1) fun x29 => (Res.bind (Res.bind (Res.ok a15) fun x28 => (Res.ok x28.1)) fun x30 => (atR x29 x30))) fun x32 => (Res.bind (Res.bind (Res.ok a15) fun x31 => (Res.ok x31.2)) fun x33 => (atR x32 x33))) fun a26 => (Res.bind (Res.bind (Res.ok a1) fun x37 => (Res.bind (Res.bind (Res.ok a20) fun x36 => (Res.ok x36.1)) fun x38 => (atR x37 x38))) fun a34 => (Res.bind (Res.bind (Res.ok a34) fun x42 => (Res.bind (Res.bind (Res.ok a20) fun x41 => (Res.ok x41.2)) fun x43 => (atR x42 x43))) fun a39 => (Res.bind (Res.bind (Res.ok a34) fun x52 => (Res.bind (Res.bind (Res.bind (Res.bind (Res.ok a20) fun x46 => (Res.ok x46.2)) fun x47 => (Res.bind (Res.ok (1 : Int)) fun x48 => (Res.ok (x47 + x48)))) fun x50 => (Res.bind (Res.bind (Res.ok a34) fun x49 => (Res.ok (x49.length : Int))) fun x51 => (ZS x50 x51))) fun x53 => (atR x52 x53))) fun a44 => (Res.bind (Res.bind (Res.ok a13.1) fun x54 => (Res.bind (Res.ok a13.2) fun x55 => (Res.bind (Res.ok a26) fun x56 => (Res.bind (Res.ok a39) fun x57 => (Res.bind (Res.ok a44) fun x58 => (Res.ok (x54, x55, x56, x57, x58))))))) fun a59 => (chk (g11.length < sizeLine) ((fun a61 => (Res.ok (a61))) (g11 ++ [a59])))))))))))) fun g62 => (Res.ok g62)))))
noncomputable def YU (a_0 : (List Int)) (a_1 : Int) : Res Bool := (Res.bind (Res.bind (Res.ok a_0) fun x5 => (Kp x5 (fun a3 => (Res.bind (Res.ok (0 : Int)) fun x6 => (Res.bind (Res.ok a3) fun x7 => (if (decide (x6 <= x7)) = true then (Res.bind (Res.ok a_1) fun x8 => (Res.ok (decide (x7 < x8)))) else Res.ok false)))))) fun x9 => (Res.ok (x9.all id)))
noncomputable def Zr (a_0 : (List (List Int))) (a_1 : (List Int)) (a_2 : (List (Int × Int × Int))) : Res Bool := (Res.bind (Res.bind (Res.ok a_2) fun x5 => (Kp x5 (fun a3 => (Res.bind (Res.bind (Res.bind (Res.ok a_0) fun x8 => (Res.bind (Res.bind (Res.ok a_1) fun x6 => (Res.bind (Res.ok a3.1) fun x7 => (atR x6 x7))) fun x9 => (atR x8 x9))) fun x12 => (Res.bind (Res.bind (Res.ok a_1) fun x10 => (Res.bind (Res.ok a3.2.1) fun x11 => (atR x10 x11))) fun x13 => (atR x12 x13))) fun x16 => (Res.bind (Res.bind (Res.ok a_1) fun x14 => (Res.bind (Res.ok a3.2.2) fun x15 => (atR x14 x15))) fun x17 => (Res.ok (decide (x16 = x17)))))))) fun x18 => (Res.ok (x18.all id)))
noncomputable def VU (a_0 : ((List (List Int)) × (List (Int × Int)))) : Res (List (Int × Int × Int)) := (Res.bind (Res.ok []) fun a1 => (Res.bind (Res.bind (Res.ok a_0) fun x5 => (noE (QB x5))) fun x26 => (Res.bind (forN x26 (a1) (fun g8 a10 => (Res.bind (Res.bind (Res.bind (Res.ok a10.2.1) fun x12 => (Res.bind (Res.ok (1 : Int)) fun x13 => (Res.ok (decide (x12 = x13))))) fun x20 => (if x20 = true then (Res.bind (Res.ok a10.2.2.2.1) fun x14 => (Res.bind (Res.ok a10.2.2.1) fun x15 => (Res.bind (Res.ok a10.2.2.2.2) fun x16 => (Res.ok (x14, x15, x16))))) else (Res.bind (Res.ok a10.2.2.2.2) fun x17 => (Res.bind (Res.ok a10.2.2.1) fun x18 => (Res.bind (Res.ok a10.2.2.2.1) fun x19 => (Res.ok (x17, x18, x19))))))) fun a21 => (chk (g8.length < sizeLine) ((fun a23 => (Res.ok (a23))) (g8 ++ [a21])))))) fun g24 => (Res.ok g24))))
noncomputable def VY (a_0 : ((List (List Int)) × (List (Int × Int)))) (a_1 : (List (List Int))) (a_2 : (List Int)) : Res Bool := (Res.bind (orR (Res.bind (Res.bind (Res.ok a_2) fun x1 => (Res.ok (x1.length : Int))) fun x4 => (Res.bind (Res.bind (Res.ok a_0) fun x3 => (noE (Za x3))) fun x5 => (Res.ok (!(decide (x4 = x5)))))) (Res.bind (Res.bind (Res.ok a_2) fun x8 => (Res.bind (Res.bind (Res.ok a_1) fun x7 => (Res.ok (x7.length : Int))) fun x9 => (noE (YU x8 x9)))) fun x10 => (Res.ok (!x10)))) fun x11 => (if x11 = true then (Res.ok false) else (Res.bind (Res.ok a_1) fun x15 => (Res.bind (Res.ok a_2) fun x16 => (Res.bind (Res.bind (Res.ok a_0) fun x14 => (noE (VU x14))) fun x17 => (noE (Zr x15 x16 x17)))))))
noncomputable def Vs (a_0 : (List Int)) (a_1 : Int) : Res Int := (Res.bind (Res.bind (Res.ok a_1) fun x2 => (Res.bind (Res.bind (Res.ok a_0) fun x1 => (Res.ok (x1.length : Int))) fun x3 => (Res.ok (decide (x2 < x3))))) fun x4 => (if x4 = true then (Res.bind (Res.ok a_0) fun x5 => (Res.bind (Res.ok a_1) fun x6 => (atR x5 x6))) else (Res.bind (Res.ok (5 : Int)) fun a7 => (Res.bind (Res.bind (Res.ok a_0) fun x10 => (Res.bind (Res.ok none) fun x11 => (Res.bind (Res.bind (Res.ok (63 : Int)) fun x9 => (Res.ok (some x9))) fun x12 => (Res.ok (JU x10 x11 x12))))) fun x39 => (Res.bind (forN x39 (a7) (fun g15 a17 => (Res.bind (Res.bind (Res.bind (Res.bind (Res.bind (Res.ok g15) fun x21 => (Res.bind (Res.ok (48271 : Int)) fun x22 => (QQ x21 x22))) fun x25 => (Res.bind (Res.bind (Res.ok a17) fun x23 => (Res.bind (Res.ok (1000003 : Int)) fun x24 => (ZS x23 x24))) fun x26 => (Res.ok (x25 + x26)))) fun x27 => (Res.bind (Res.ok (1 : Int)) fun x28 => (Res.ok (x27 + x28)))) fun x29 => (Res.bind (Res.ok (2147483647 : Int)) fun x30 => (ZS x29 x30))) fun a19 => (Res.ok (a19))))) fun g31 => (Res.bind (Res.bind (Res.ok g31) fun x35 => (Res.bind (Res.bind (Res.ok (7919 : Int)) fun x33 => (Res.bind (Res.ok a_1) fun x34 => (QQ x33 x34))) fun x36 => (Res.ok (x35 + x36)))) fun x37 => (Res.bind (Res.ok (1000003 : Int)) fun x38 => (ZS x37 x38))))))))
noncomputable def KK (a_0 : Int) (a_1 : Int) : Res Int := (Res.bind (Res.bind (Res.bind (Res.bind (Res.bind (Res.bind (Res.ok a_0) fun x3 => (Res.bind (Res.ok (2147483629 : Int)) fun x4 => (ZS x3 x4))) fun x7 => (Res.bind (Res.bind (Res.ok (1013 : Int)) fun x5 => (Res.bind (Res.ok a_1) fun x6 => (QQ x5 x6))) fun x8 => (Res.ok (x7 + x8)))) fun x9 => (Res.bind (Res.ok (7919 : Int)) fun x10 => (Res.ok (x9 + x10)))) fun x11 => (Res.bind (Res.ok (3 : Int)) fun x12 => (EF x11 x12))) fun x13 => (Res.bind (Res.ok (2147483647 : Int)) fun x14 => (ZS x13 x14))) fun a1 => (Res.bind (Res.bind (Res.bind (Res.bind (Res.bind (Res.ok a1) fun x17 => (Res.bind (Res.ok (40699 : Int)) fun x18 => (QQ x17 x18))) fun x23 => (Res.bind (Res.bind (Res.bind (Res.ok (3793 : Int)) fun x19 => (Res.bind (Res.ok a_1) fun x20 => (QQ x19 x20))) fun x21 => (Res.bind (Res.ok a_1) fun x22 => (QQ x21 x22))) fun x24 => (Res.ok (x23 + x24)))) fun x25 => (Res.bind (Res.ok (11 : Int)) fun x26 => (Res.ok (x25 + x26)))) fun x27 => (Res.bind (Res.ok (2147483399 : Int)) fun x28 => (ZS x27 x28))) fun a15 => (Res.bind (Res.ok a15) fun x29 => (Res.bind (Res.ok (101 : Int)) fun x30 => (Be x29 x30)))))
noncomputable def Vu (a_0 : (List Int)) (a_1 : Int) (a_2 : (List Int)) : Res (List Int) := (Res.bind (Res.bind (Res.ok a_0) fun x4 => (Res.bind (Res.ok a_1) fun x5 => (noE (Vs x4 x5)))) fun a1 => (Res.bind (Res.ok a1) fun a6 => (Res.bind (Res.ok []) fun a8 => (Res.bind (Res.bind (Res.bind (Res.ok a_2) fun x11 => (Res.ok (x11.length : Int))) fun x12 => (VF 0 x12)) fun x81 => (Res.bind (forN x81 (a8, a6) (fun g15 a17 => (Res.bind (Res.bind (Res.bind (Res.ok a1) fun x21 => (Res.bind (Res.bind (Res.ok (10 : Int)) fun x19 => (Res.bind (Res.ok (18 : Int)) fun x20 => (EF x19 x20))) fun x22 => (Res.ok (decide (x21 < x22))))) fun x23 => (if x23 = true then (Res.bind (Res.bind (Res.bind (Res.ok a1) fun x27 => (Res.bind (Res.ok a17) fun x28 => (noE (KK x27 x28)))) fun x31 => (Res.bind (Res.bind (Res.ok a_2) fun x29 => (Res.bind (Res.ok a17) fun x30 => (atR x29 x30))) fun x32 => (ZS x31 x32))) fun a33 => (chk (g15.1.length < sizeLine) ((fun a35 => (Res.ok (a35, g15.2))) (g15.1 ++ [a33])))) else (Res.bind (Res.bind (Res.bind (Res.ok g15.2) fun x36 => (Res.bind (Res.ok (0 : Int)) fun x37 => (Res.ok (decide (x37 < x36))))) fun x38 => (if x38 = true then (Res.bind (Res.bind (Res.ok g15.2) fun x43 => (Res.bind (Res.bind (Res.ok a_2) fun x41 => (Res.bind (Res.ok a17) fun x42 => (atR x41 x42))) fun x44 => (ZS x43 x44))) fun a45 => (chk (g15.1.length < sizeLine) ((fun a47 => (Res.bind (Res.bind (Res.ok g15.2) fun x52 => (Res.bind (Res.bind (Res.ok a_2) fun x50 => (Res.bind (Res.ok a17) fun x51 => (atR x50 x51))) fun x53 => (Be x52 x53))) fun a48 => (Res.ok (a48, a47)))) (g15.1 ++ [a45])))) else (Res.bind (Res.bind (Res.ok a_0) fun x63 => (Res.bind (Res.bind (Res.bind (Res.bind (Res.ok a_1) fun x57 => (Res.bind (Res.ok (1 : Int)) fun x58 => (Res.ok (x57 + x58)))) fun x59 => (Res.bind (Res.ok a17) fun x60 => (Res.ok (x59 + x60)))) fun x61 => (Res.bind (Res.ok (63 : Int)) fun x62 => (ZS x61 x62))) fun x64 => (noE (Vs x63 x64)))) fun a54 => (Res.bind (Res.bind (Res.bind (Res.ok a54) fun x66 => (Res.bind (Res.ok a17) fun x67 => (noE (KK x66 x67)))) fun x70 => (Res.bind (Res.bind (Res.ok a_2) fun x68 => (Res.bind (Res.ok a17) fun x69 => (atR x68 x69))) fun x71 => (ZS x70 x71))) fun a72 => (chk (g15.1.length < sizeLine) ((fun a74 => (Res.ok (g15.2, a74))) (g15.1 ++ [a72]))))))) fun g76 => (Res.ok (g76.2, g76.1))))) fun g78 => (Res.ok (g78.1, g78.2))))) fun g79 => (Res.ok g79.1))))))
noncomputable def Jh (a_0 : (List Int)) (a_1 : (List Int)) : Res (List Int) := (Res.bind (Res.bind (Res.ok a_0) fun x4 => (Res.ok x4)) fun a1 => (Res.bind (Res.ok []) fun a5 => (Res.bind (Res.bind (Res.bind (Res.ok a_0) fun x8 => (Res.ok (x8.length : Int))) fun x9 => (VF 0 x9)) fun x34 => (Res.bind (forN x34 (a5, a1) (fun g12 a14 => (Res.bind (Res.bind (Res.bind (Res.ok a_1) fun x20 => (Res.bind (Res.bind (Res.bind (Res.ok (8 : Int)) fun x16 => (Res.bind (Res.ok a14) fun x17 => (QQ x16 x17))) fun x18 => (Res.bind (Res.ok (9 : Int)) fun x19 => (Res.ok (x18 + x19)))) fun x21 => (atR x20 x21))) fun x23 => (Res.bind (Res.bind (Res.ok g12.2) fun x22 => (Res.ok (x22.length : Int))) fun x24 => (ZS x23 x24))) fun x30 => (Res.bind (Fc g12.2 x30) fun p31 => (chk (g12.1.length < sizeLine) ((fun a26 a27 => (Res.ok (a27, a26))) p31.2 (g12.1 ++ [p31.1]))))))) fun g32 => (Res.ok g32.1)))))
noncomputable def G0 (a_0 : (List Int)) (a_1 : (List Int)) (a_2 : Int) : Res (List (List Int)) := (Res.bind (Res.ok []) fun a1 => (Res.bind (Res.ok a_0) fun x70 => (Res.bind (forN x70 (a1) (fun g6 a8 => (Res.bind (Res.bind (Res.bind (Res.ok a8) fun x14 => (Res.bind (Res.bind (Res.bind (Res.ok a8) fun x11 => (Res.ok (-x11))) fun x12 => (Res.bind (Res.ok []) fun x13 => (Res.ok (x12 :: x13)))) fun x15 => (Res.ok (x14 :: x15)))) fun x10 => (chk (x10.length <= sizeLine) (Res.ok x10))) fun a16 => (chk (g6.length + a16.length <= sizeLine) ((fun a18 => (Res.ok (a18))) (g6 ++ a16)))))) fun g19 => (Res.bind (Res.bind (Res.bind (Res.ok a_2) fun x24 => (VF 0 x24)) fun x28 => (Kp x28 (fun a26 => (Res.ok [])))) fun a21 => (Res.bind (Res.bind (Res.bind (Res.ok (2 : Int)) fun x30 => (Res.bind (Res.bind (Res.ok a_0) fun x29 => (Res.ok (x29.length : Int))) fun x31 => (QQ x30 x31))) fun x32 => (VF 0 x32)) fun x69 => (Res.bind (forN x69 (g19, a21) (fun g35 a37 => (Res.bind (Res.bind (Res.bind (Res.ok (4 : Int)) fun x41 => (Res.bind (Res.ok a37) fun x42 => (QQ x41 x42))) fun x43 => (Res.bind (Res.ok (5 : Int)) fun x44 => (Res.ok (x43 + x44)))) fun a39 => (Res.bind (Res.bind (Res.bind (Res.ok a_1) fun x45 => (Res.bind (Res.ok a39) fun x46 => (atR x45 x46))) fun x48 => (Res.bind (Res.bind (Res.ok g35.1) fun x47 => (Res.ok (x47.length : Int))) fun x49 => (ZS x48 x49))) fun x54 => (Res.bind (Fc g35.1 x54) (fun p55 => (fun a50 a51 => (Res.bind (Res.bind (Res.bind (Res.ok a_1) fun x58 => (Res.bind (Res.bind (Res.ok a39) fun x56 => (Res.bind (Res.ok (1 : Int)) fun x57 => (Res.ok (x56 + x57)))) fun x59 => (atR x58 x59))) fun x60 => (Res.bind (Res.ok a_2) fun x61 => (ZS x60 x61))) fun x63 => (Res.bind (atR g35.2 x63) fun x64 => (Res.bind (Res.ok a50) fun x62 => (chk (x64.length < sizeLine) (Res.bind (QV g35.2 x63 (x64 ++ [x62])) fun a65 => (Res.ok (a51, a65)))))))) p55.1 p55.2)))))) fun g67 => (Res.ok g67.2)))))))
noncomputable def ZU (a_0 : (List Int)) (a_1 : (List (Int × Int))) (a_2 : (List Int)) (a_3 : Int) : Res (List (List Int)) := (Res.bind (Res.bind (Res.bind (Res.bind (Res.ok false) fun x7 => (Res.bind (Res.ok []) fun x8 => (Res.ok (x7 :: x8)))) fun x6 => (chk (x6.length <= sizeLine) (Res.ok x6))) fun x4 => (Res.bind (Res.ok a_3) fun x5 => (VL x4 x5))) fun a1 => (Res.bind (Res.ok []) fun a9 => (Res.bind (Res.bind (Res.ok a_3) fun x12 => (VF 0 x12)) fun x118 => (Res.bind (forN x118 (a1, a9) (fun g15 a17 => (Res.bind (Res.bind (Res.bind (Res.bind (Res.ok g15.1) fun x19 => (Res.bind (Res.ok a17) fun x20 => (atR x19 x20))) fun x21 => (Res.ok (!x21))) fun x22 => (if x22 = true then (Res.bind (Res.ok []) fun a25 => (Res.bind (Res.ok a17) fun a28 => (Res.bind (QN (a_3.natAbs + 2) (g15.1, a28, a25) (fun g32 => (Res.bind (Res.bind (Res.ok g32.1) fun x34 => (Res.bind (Res.ok g32.2.1) fun x35 => (atR x34 x35))) fun x36 => (Res.ok (!x36)))) (fun g32 => (Res.bind (Res.ok true) fun x37 => (Res.bind (Res.ok g32.2.1) fun x38 => (Res.bind (QV g32.1 x38 x37) fun a39 => (Res.bind (Res.bind (Res.bind (Res.ok a_0) fun x41 => (Res.ok (x41.length : Int))) fun x42 => (VF 0 x42)) fun x108 => (Res.bind (forN x108 (g32.2.1, g32.2.2) (fun g45 a47 => (Res.bind (Res.bind (Res.bind (Res.ok a_2) fun x55 => (Res.bind (Res.bind (Res.bind (Res.ok (8 : Int)) fun x51 => (Res.bind (Res.ok a47) fun x52 => (QQ x51 x52))) fun x53 => (Res.bind (Res.ok (10 : Int)) fun x54 => (Res.ok (x53 + x54)))) fun x56 => (atR x55 x56))) fun x59 => (Res.bind (Res.bind (Res.ok a_3) fun x57 => (Res.bind (Res.ok (1 : Int)) fun x58 => (Res.ok (x57 - x58)))) fun x60 => (ZS x59 x60))) fun a49 => (Res.bind (Res.bind (Res.bind (Res.ok g45.1) fun x61 => (Res.bind (Res.ok a49) fun x62 => (Res.ok (decide (x61 = x62))))) fun x63 => (if x63 = true then (Res.bind (Res.bind (Res.bind (Res.ok a_0) fun x66 => (Res.bind (Res.ok a47) fun x67 => (atR x66 x67))) fun x72 => (Res.bind (Res.bind (Res.ok a_1) fun x70 => (Res.bind (Res.bind (Res.ok a_0) fun x68 => (Res.bind (Res.ok a47) fun x69 => (atR x68 x69))) fun x71 => (VD x70 x71))) fun x73 => (QQ x72 x73))) fun a74 => (chk (g45.2.length < sizeLine) ((fun a76 => (Res.bind (Res.bind (Res.ok a49) fun x79 => (Res.bind (Res.ok (1 : Int)) fun x80 => (Res.ok (x79 + x80)))) fun a77 => (Res.ok (a77, a76)))) (g45.2 ++ [a74])))) else (Res.bind (Res.bind (Res.bind (Res.ok g45.1) fun x83 => (Res.bind (Res.bind (Res.ok a49) fun x81 => (Res.bind (Res.ok (1 : Int)) fun x82 => (Res.ok (x81 + x82)))) fun x84 => (Res.ok (decide (x83 = x84))))) fun x85 => (if x85 = true then (Res.bind (Res.bind (Res.bind (Res.bind (Res.ok a_0) fun x88 => (Res.bind (Res.ok a47) fun x89 => (atR x88 x89))) fun x90 => (Res.ok (-x90))) fun x95 => (Res.bind (Res.bind (Res.ok a_1) fun x93 => (Res.bind (Res.bind (Res.ok a_0) fun x91 => (Res.bind (Res.ok a47) fun x92 => (atR x91 x92))) fun x94 => (VD x93 x94))) fun x96 => (QQ x95 x96))) fun a97 => (chk (g45.2.length < sizeLine) ((fun a99 => (Res.bind (Res.ok a49) fun a100 => (Res.ok (a100, a99)))) (g45.2 ++ [a97])))) else (Res.ok (g45.1, g45.2)))) fun g103 => (Res.ok (g103.1, g103.2))))) fun g105 => (Res.ok (g105.1, g105.2)))))) fun g106 => (Res.ok (a39, g106.1, g106.2))))))))) fun g109 => (Res.bind (Res.ok g109.2.2) fun a111 => (chk (g15.2.length < sizeLine) ((fun a113 => (Res.ok (g109.1, a113))) (g15.2 ++ [a111]))))))) else (Res.ok (g15.1, g15.2)))) fun g115 => (Res.ok (g115.1, g115.2))))) fun g116 => (Res.ok g116.2)))))
noncomputable def Jf (a_0 : (List Int)) (a_1 : Int) (a_2 : Int) : Res ((List (List Int)) × (List (Int × Int))) := (Res.bind (Res.bind (Res.bind (Res.bind (Res.ok a_2) fun x4 => (Res.bind (Res.ok (1 : Int)) fun x5 => (Res.ok (x4 + x5)))) fun x14 => (Res.bind (Res.bind (Res.ok (5 : Int)) fun x12 => (Res.bind (Res.bind (Res.ok (4 : Int)) fun x10 => (Res.bind (Res.bind (Res.ok (3 : Int)) fun x8 => (Res.bind (Res.bind (Res.ok (3 : Int)) fun x6 => (Res.bind (Res.ok []) fun x7 => (Res.ok (x6 :: x7)))) fun x9 => (Res.ok (x8 :: x9)))) fun x11 => (Res.ok (x10 :: x11)))) fun x13 => (Res.ok (x12 :: x13)))) fun x15 => (Res.ok (x14 :: x15)))) fun x3 => (chk (x3.length <= sizeLine) (Res.ok x3))) fun a1 => (Res.bind (Res.bind (Res.ok a_0) fun x34 => (Res.bind (Res.ok a_1) fun x35 => (Res.bind (Res.bind (Res.ok a1) fun x19 => (Res.bind (Res.bind (Res.bind (Res.bind (Res.ok (80 : Int)) fun x30 => (Res.bind (Res.bind (Res.ok (5 : Int)) fun x28 => (Res.bind (Res.bind (Res.ok (2 : Int)) fun x26 => (Res.bind (Res.bind (Res.ok (3 : Int)) fun x24 => (Res.bind (Res.ok []) fun x25 => (Res.ok (x24 :: x25)))) fun x27 => (Res.ok (x26 :: x27)))) fun x29 => (Res.ok (x28 :: x29)))) fun x31 => (Res.ok (x30 :: x31)))) fun x23 => (chk (x23.length <= sizeLine) (Res.ok x23))) fun x21 => (Res.bind (Res.bind (Res.ok (2 : Int)) fun x32 => (Res.bind (Res.ok a_2) fun x33 => (QQ x32 x33))) fun x22 => (VL x21 x22))) fun x20 => (Fb x19 x20))) fun x36 => (noE (Vu x34 x35 x36))))) fun a16 => (Res.bind (Res.ok []) fun a37 => (Res.bind (Res.ok []) fun a40 => (Res.bind (Res.ok (0 : Int)) fun a43 => (Res.bind (Res.bind (Res.bind (Res.ok a16) fun x45 => (Res.bind (Res.ok (0 : Int)) fun x46 => (atR x45 x46))) fun x47 => (VF 0 x47)) fun x152 => (Res.bind (forN x152 (a43, a40, a37) (fun g50 a52 => (Res.bind (Res.bind (Res.bind (Res.ok a16) fun x60 => (Res.bind (Res.bind (Res.bind (Res.ok (8 : Int)) fun x56 => (Res.bind (Res.ok a52) fun x57 => (QQ x56 x57))) fun x58 => (Res.bind (Res.ok (8 : Int)) fun x59 => (Res.ok (x58 + x59)))) fun x61 => (atR x60 x61))) fun x75 => (Res.bind (Res.bind (Res.bind (Res.bind (Res.ok (0 : Int)) fun x69 => (Res.bind (Res.bind (Res.ok (1 : Int)) fun x67 => (Res.bind (Res.bind (Res.bind (Res.ok (10 : Int)) fun x63 => (Res.bind (Res.ok (9 : Int)) fun x64 => (EF x63 x64))) fun x65 => (Res.bind (Res.ok []) fun x66 => (Res.ok (x65 :: x66)))) fun x68 => (Res.ok (x67 :: x68)))) fun x70 => (Res.ok (x69 :: x70)))) fun x62 => (chk (x62.length <= sizeLine) (Res.ok x62))) fun x73 => (Res.bind (Res.bind (Res.ok a16) fun x71 => (Res.bind (Res.ok (3 : Int)) fun x72 => (atR x71 x72))) fun x74 => (atR x73 x74))) fun x76 => (QQ x75 x76))) fun a54 => (Res.bind (Res.bind (Res.bind (Res.ok g50.1) fun x79 => (Res.bind (Res.ok (1 : Int)) fun x80 => (Res.ok (x79 + x80)))) fun x81 => (Res.bind (Res.ok a54) fun x82 => (Res.ok (x81 + x82)))) fun a77 => (Res.bind (Res.ok a77) fun a83 => (chk (g50.2.2.length < sizeLine) ((fun a85 => (Res.bind (Res.bind (Res.bind (Res.ok (2 : Int)) fun x92 => (Res.bind (Res.bind (Res.ok a16) fun x90 => (Res.bind (Res.bind (Res.bind (Res.ok (8 : Int)) fun x86 => (Res.bind (Res.ok a52) fun x87 => (QQ x86 x87))) fun x88 => (Res.bind (Res.ok (7 : Int)) fun x89 => (Res.ok (x88 + x89)))) fun x91 => (atR x90 x91))) fun x93 => (QQ x92 x93))) fun x94 => (Res.bind (Res.ok (1 : Int)) fun x95 => (Res.ok (x94 - x95)))) fun x96 => (Res.bind (Res.ok a77) fun x97 => (chk (g50.2.1.length < sizeLine) ((fun a98 => (Res.ok (a77, a98, a85))) (KB g50.2.1 x97 x96)))))) (g50.2.2 ++ [a83])))))))) fun g100 => (Res.bind (Res.bind (Res.bind (Res.bind (Res.ok a16) fun x102 => (Res.bind (Res.ok (2 : Int)) fun x103 => (atR x102 x103))) fun x104 => (Res.bind (Res.ok (2 : Int)) fun x105 => (Res.ok (decide (x104 < x105))))) fun x106 => (if x106 = true then (Res.bind (Res.bind (Res.bind (Res.ok g100.2.2) fun x114 => (Res.bind (Res.ok a16) fun x115 => (noE (Jh x114 x115)))) fun x120 => (Res.bind (Res.ok g100.2.1) fun x121 => (Res.bind (Res.ok a16) fun x122 => (Res.bind (Res.bind (Res.ok (2 : Int)) fun x118 => (Res.bind (Res.bind (Res.ok a16) fun x116 => (Res.bind (Res.ok (4 : Int)) fun x117 => (atR x116 x117))) fun x119 => (Res.ok (x118 + x119)))) fun x123 => (noE (ZU x120 x121 x122 x123)))))) fun a109 => (Res.ok (a109))) else (Res.bind (Res.bind (Res.bind (Res.ok a16) fun x126 => (Res.bind (Res.ok (1 : Int)) fun x127 => (atR x126 x127))) fun x131 => (Res.bind (Res.bind (Res.bind (Res.ok g100.2.2) fun x128 => (Res.ok (x128.length : Int))) fun x129 => (Res.bind (Res.ok (1 : Int)) fun x130 => (Res.ok (min x129 x130)))) fun x132 => (Res.ok (max x131 x132)))) fun a124 => (Res.bind (Res.bind (Res.ok g100.2.2) fun x137 => (Res.bind (Res.ok a16) fun x138 => (Res.bind (Res.ok a124) fun x139 => (noE (G0 x137 x138 x139))))) fun a133 => (Res.ok (a133)))))) fun g141 => (Res.bind (Res.ok g141) fun x150 => (Res.bind (Res.bind (Res.ok g100.2.2) fun x145 => (Kp x145 (fun a143 => (Res.bind (Res.ok a143) fun x148 => (Res.bind (Res.bind (Res.ok g100.2.1) fun x146 => (Res.bind (Res.ok a143) fun x147 => (VD x146 x147))) fun x149 => (Res.ok (x148, x149))))))) fun x151 => (Res.ok (x150, x151))))))))))))
noncomputable def VZ (a_0 : ((List (List Int)) × (List (Int × Int)))) : Res ((List (List Int)) × (List (Int × Int))) := (Res.bind (Res.bind (Res.bind (Res.ok a_0) fun x1 => (Res.ok x1.1)) fun x5 => (Kp x5 (fun a3 => (Res.bind (Res.ok a3) fun x6 => (Res.ok x6))))) fun x9 => (Res.bind (Res.bind (Res.bind (Res.ok a_0) fun x8 => (Res.ok x8.2)) fun x7 => (Res.ok x7)) fun x10 => (Res.ok (x9, x10))))
noncomputable def ZA (a_0 : Int) (a_1 : Int) (a_2 : Int) (a_3 : Int) (a_4 : Int) : Res Int := (Res.bind (Res.bind (Res.ok a_1) fun x3 => (Res.bind (Res.ok (2 : Int)) fun x4 => (Be x3 x4))) fun a1 => (Res.bind (Res.bind (Res.ok a_0) fun x5 => (Res.bind (Res.ok (1 : Int)) fun x6 => (Res.ok (decide (x5 = x6))))) fun x7 => (if x7 = true then (Res.bind (Res.bind (Res.bind (Res.ok (2 : Int)) fun x8 => (Res.bind (Res.ok a_4) fun x9 => (QQ x8 x9))) fun x10 => (Res.bind (Res.ok a_3) fun x11 => (Res.ok (x10 - x11)))) fun x12 => (Res.bind (Res.ok a_1) fun x13 => (ZS x12 x13))) else (Res.bind (Res.bind (Res.ok a_0) fun x14 => (Res.bind (Res.ok (2 : Int)) fun x15 => (Res.ok (decide (x14 = x15))))) fun x16 => (if x16 = true then (Res.bind (Res.bind (Res.bind (Res.ok a_2) fun x17 => (Res.bind (Res.ok a_3) fun x18 => (QQ x17 x18))) fun x23 => (Res.bind (Res.bind (Res.bind (Res.ok (1 : Int)) fun x19 => (Res.bind (Res.ok a_2) fun x20 => (Res.ok (x19 - x20)))) fun x21 => (Res.bind (Res.ok a_4) fun x22 => (QQ x21 x22))) fun x24 => (Res.ok (x23 + x24)))) fun x25 => (Res.bind (Res.ok a_1) fun x26 => (ZS x25 x26))) else (Res.bind (UY (Res.bind (Res.ok a_0) fun x27 => (Res.bind (Res.ok (3 : Int)) fun x28 => (Res.ok (decide (x27 = x28))))) (UY (Res.bind (Res.ok a_1) fun x29 => (Res.bind (Res.ok (2 : Int)) fun x30 => (Res.ok (decide (x30 < x29))))) (UY (Res.bind (Res.ok a_3) fun x31 => (Res.bind (Res.ok (2 : Int)) fun x32 => (Res.ok (decide (x31 < x32))))) (Res.bind (Res.ok a_4) fun x35 => (Res.bind (Res.bind (Res.ok a_1) fun x33 => (Res.bind (Res.ok (1 : Int)) fun x34 => (Res.ok (x33 - x34)))) fun x36 => (Res.ok (decide (x35 = x36)))))))) fun x37 => (if x37 = true then (Res.bind (Res.ok (1 : Int)) fun x38 => (Res.bind (Res.ok a_3) fun x39 => (Res.ok (x38 - x39)))) else (Res.bind (UY (Res.bind (Res.ok a_0) fun x40 => (Res.bind (Res.ok (6 : Int)) fun x41 => (Res.ok (decide (x40 = x41))))) (UY (Res.bind (Res.ok a_3) fun x44 => (Res.bind (Res.bind (Res.ok a_1) fun x42 => (Res.bind (Res.ok (1 : Int)) fun x43 => (Res.ok (x42 - x43)))) fun x45 => (Res.ok (decide (x44 < x45))))) (Res.bind (Res.ok a_4) fun x48 => (Res.bind (Res.bind (Res.ok a_1) fun x46 => (Res.bind (Res.ok (1 : Int)) fun x47 => (Res.ok (x46 - x47)))) fun x49 => (Res.ok (decide (x48 = x49))))))) fun x50 => (if x50 = true then (Res.bind (Res.bind (Res.ok a_3) fun x51 => (Res.bind (Res.ok (1 : Int)) fun x52 => (Res.ok (x51 + x52)))) fun x55 => (Res.bind (Res.bind (Res.ok a_1) fun x53 => (Res.bind (Res.ok (1 : Int)) fun x54 => (Res.ok (x53 - x54)))) fun x56 => (ZS x55 x56))) else (Res.bind (UY (Res.bind (Res.ok a_0) fun x57 => (Res.bind (Res.ok (4 : Int)) fun x58 => (Res.ok (decide (x57 = x58))))) (UY (Res.bind (Res.ok a_3) fun x59 => (Res.bind (Res.ok a1) fun x60 => (Res.ok (decide (x59 < x60))))) (Res.bind (Res.ok a_4) fun x61 => (Res.bind (Res.ok a1) fun x62 => (Res.ok (decide (x61 < x62))))))) fun x63 => (if x63 = true then (Res.bind (Res.bind (Res.bind (Res.ok (2 : Int)) fun x64 => (Res.bind (Res.ok a_4) fun x65 => (QQ x64 x65))) fun x66 => (Res.bind (Res.ok a_3) fun x67 => (Res.ok (x66 - x67)))) fun x68 => (Res.bind (Res.ok a1) fun x69 => (ZS x68 x69))) else (Res.bind (UY (Res.bind (Res.ok a_0) fun x70 => (Res.bind (Res.ok (4 : Int)) fun x71 => (Res.ok (decide (x70 = x71))))) (UY (Res.bind (Res.ok a_3) fun x72 => (Res.bind (Res.ok a1) fun x73 => (Res.ok (decide (x73 <= x72))))) (Res.bind (Res.ok a_4) fun x74 => (Res.bind (Res.ok a1) fun x75 => (Res.ok (decide (x75 <= x74))))))) fun x76 => (if x76 = true then (Res.bind (Res.ok a1) fun x87 => (Res.bind (Res.bind (Res.bind (Res.bind (Res.bind (Res.ok (2 : Int)) fun x77 => (Res.bind (Res.ok a_4) fun x78 => (QQ x77 x78))) fun x79 => (Res.bind (Res.ok a_3) fun x80 => (Res.ok (x79 - x80)))) fun x81 => (Res.bind (Res.ok a1) fun x82 => (Res.ok (x81 - x82)))) fun x85 => (Res.bind (Res.bind (Res.ok a_1) fun x83 => (Res.bind (Res.ok a1) fun x84 => (Res.ok (x83 - x84)))) fun x86 => (ZS x85 x86))) fun x88 => (Res.ok (x87 + x88)))) else (Res.ok a_3))))))))))))))
noncomputable def Qp (a_0 : Int) (a_1 : Int) : Res Int := (Res.bind (Res.bind (Res.ok a_0) fun x1 => (Res.ok (x1.natAbs : Int))) fun a3 => (Res.bind (Res.bind (Res.ok a_1) fun x2 => (Res.ok (x2.natAbs : Int))) fun a4 => (Res.bind (QN (a3.natAbs + a4.natAbs + 2) (a3, a4) (fun g9 => (Res.bind (Res.ok g9.2) fun x11 => (Res.bind (Res.ok (0 : Int)) fun x12 => (Res.ok (decide (x12 < x11)))))) (fun g9 => (Res.bind (Res.ok g9.2) fun a15 => (Res.bind (Res.bind (Res.ok g9.1) fun x13 => (Res.bind (Res.ok g9.2) fun x14 => (ZS x13 x14))) fun a16 => (Res.ok (a15, a16)))))) fun g19 => (Res.ok g19.1))))
noncomputable def VQ (a_0 : Int) (a_1 : Int) (a_2 : Int) : Res (List (List Int)) := (Res.bind (UY (Res.bind (Res.ok a_0) fun x1 => (Res.bind (Res.ok (5 : Int)) fun x2 => (Res.ok (decide (x1 = x2))))) (Res.bind (Res.ok a_1) fun x3 => (Res.bind (Res.ok (4 : Int)) fun x4 => (Res.ok (decide (x3 = x4)))))) fun x5 => (if x5 = true then (Res.bind (Res.bind (Res.bind (Res.bind (Res.ok (0 : Int)) fun x14 => (Res.bind (Res.bind (Res.ok (3 : Int)) fun x12 => (Res.bind (Res.bind (Res.ok (1 : Int)) fun x10 => (Res.bind (Res.bind (Res.ok (2 : Int)) fun x8 => (Res.bind (Res.ok []) fun x9 => (Res.ok (x8 :: x9)))) fun x11 => (Res.ok (x10 :: x11)))) fun x13 => (Res.ok (x12 :: x13)))) fun x15 => (Res.ok (x14 :: x15)))) fun x7 => (chk (x7.length <= sizeLine) (Res.ok x7))) fun x49 => (Res.bind (Res.bind (Res.bind (Res.bind (Res.ok (2 : Int)) fun x23 => (Res.bind (Res.bind (Res.ok (1 : Int)) fun x21 => (Res.bind (Res.bind (Res.ok (3 : Int)) fun x19 => (Res.bind (Res.bind (Res.ok (0 : Int)) fun x17 => (Res.bind (Res.ok []) fun x18 => (Res.ok (x17 :: x18)))) fun x20 => (Res.ok (x19 :: x20)))) fun x22 => (Res.ok (x21 :: x22)))) fun x24 => (Res.ok (x23 :: x24)))) fun x16 => (chk (x16.length <= sizeLine) (Res.ok x16))) fun x47 => (Res.bind (Res.bind (Res.bind (Res.bind (Res.ok (3 : Int)) fun x32 => (Res.bind (Res.bind (Res.ok (0 : Int)) fun x30 => (Res.bind (Res.bind (Res.ok (2 : Int)) fun x28 => (Res.bind (Res.bind (Res.ok (1 : Int)) fun x26 => (Res.bind (Res.ok []) fun x27 => (Res.ok (x26 :: x27)))) fun x29 => (Res.ok (x28 :: x29)))) fun x31 => (Res.ok (x30 :: x31)))) fun x33 => (Res.ok (x32 :: x33)))) fun x25 => (chk (x25.length <= sizeLine) (Res.ok x25))) fun x45 => (Res.bind (Res.bind (Res.bind (Res.bind (Res.ok (1 : Int)) fun x41 => (Res.bind (Res.bind (Res.ok (2 : Int)) fun x39 => (Res.bind (Res.bind (Res.ok (0 : Int)) fun x37 => (Res.bind (Res.bind (Res.ok (3 : Int)) fun x35 => (Res.bind (Res.ok []) fun x36 => (Res.ok (x35 :: x36)))) fun x38 => (Res.ok (x37 :: x38)))) fun x40 => (Res.ok (x39 :: x40)))) fun x42 => (Res.ok (x41 :: x42)))) fun x34 => (chk (x34.length <= sizeLine) (Res.ok x34))) fun x43 => (Res.bind (Res.ok []) fun x44 => (Res.ok (x43 :: x44)))) fun x46 => (Res.ok (x45 :: x46)))) fun x48 => (Res.ok (x47 :: x48)))) fun x50 => (Res.ok (x49 :: x50)))) fun x6 => (chk (x6.length <= sizeLine) (Res.ok x6))) else (Res.bind (QN (a_1.natAbs + 2) (a_2) (fun g53 => (Res.bind (Res.bind (Res.ok g53) fun x56 => (Res.bind (Res.ok a_1) fun x57 => (noE (Qp x56 x57)))) fun x58 => (Res.bind (Res.ok (1 : Int)) fun x59 => (Res.ok (!(decide (x58 = x59))))))) (fun g53 => (Res.bind (Res.bind (Res.ok g53) fun x62 => (Res.bind (Res.ok (1 : Int)) fun x63 => (Res.ok (x62 + x63)))) fun a60 => (Res.ok (a60))))) fun g64 => (Res.bind (Res.ok []) fun a66 => (Res.bind (Res.bind (Res.ok a_1) fun x69 => (VF 0 x69)) fun x92 => (Res.bind (forN x92 (a66) (fun g72 a74 => (Res.bind (Res.bind (Res.bind (Res.ok a_1) fun x76 => (VF 0 x76)) fun x80 => (Kp x80 (fun a78 => (Res.bind (Res.ok a_0) fun x82 => (Res.bind (Res.ok a_1) fun x83 => (Res.bind (Res.ok g64) fun x84 => (Res.bind (Res.ok a74) fun x85 => (Res.bind (Res.ok a78) fun x86 => (noE (ZA x82 x83 x84 x85 x86)))))))))) fun a87 => (chk (g72.length < sizeLine) ((fun a89 => (Res.ok (a89))) (g72 ++ [a87])))))) fun g90 => (Res.ok g90)))))))
noncomputable def ZW (a_0 : (List Int)) (a_1 : Int) : Res (List Int) := (Res.bind (Res.bind (Res.ok a_1) fun x4 => (chk (0 <= x4 /\ x4 <= 1000) (Res.ok (Qm 0 x4)))) fun a1 => (Res.bind (Res.ok []) fun a5 => (Res.bind (Res.bind (Res.ok a_1) fun x8 => (VF 0 x8)) fun x29 => (Res.bind (forN x29 (a5, a1) (fun g11 a13 => (Res.bind (Res.bind (Res.bind (Res.ok a_0) fun x15 => (Res.bind (Res.ok a13) fun x16 => (atR x15 x16))) fun x18 => (Res.bind (Res.bind (Res.ok g11.2) fun x17 => (Res.ok (x17.length : Int))) fun x19 => (ZS x18 x19))) fun x25 => (Res.bind (Fc g11.2 x25) fun p26 => (chk (g11.1.length < sizeLine) ((fun a21 a22 => (Res.ok (a22, a21))) p26.2 (g11.1 ++ [p26.1]))))))) fun g27 => (Res.ok g27.1)))))
noncomputable def Qr (a_0 : (List (List Int))) (a_1 : (List Int)) : Res (List (List Int)) := (Res.bind (Res.bind (Res.ok a_0) fun x7 => (Kp x7 (fun a5 => (Res.bind (Res.ok a5) fun x8 => (Res.ok x8))))) fun a1 => (Res.bind (Res.bind (Res.bind (Res.ok a_0) fun x9 => (Res.ok (x9.length : Int))) fun x10 => (VF 0 x10)) fun x47 => (Res.bind (forN x47 (a1) (fun g13 a15 => (Res.bind (Res.bind (Res.bind (Res.ok a_0) fun x17 => (Res.ok (x17.length : Int))) fun x18 => (VF 0 x18)) fun x44 => (Res.bind (forN x44 (g13) (fun g21 a23 => (Res.bind (Res.bind (Res.ok a_1) fun x29 => (Res.bind (Res.bind (Res.bind (Res.ok a_0) fun x25 => (Res.bind (Res.ok a15) fun x26 => (atR x25 x26))) fun x27 => (Res.bind (Res.ok a23) fun x28 => (atR x27 x28))) fun x30 => (atR x29 x30))) fun x35 => (Res.bind (Res.bind (Res.ok a_1) fun x31 => (Res.bind (Res.ok a15) fun x32 => (atR x31 x32))) fun x36 => (Res.bind (atR g21 x36) fun x40 => (Res.bind (Res.bind (Res.ok a_1) fun x33 => (Res.bind (Res.ok a23) fun x34 => (atR x33 x34))) fun x37 => (Res.bind (QV x40 x37 x35) fun x41 => (Res.bind (QV g21 x36 x41) fun a38 => (Res.ok (a38)))))))))) fun g42 => (Res.ok (g42)))))) fun g45 => (Res.ok g45))))
noncomputable def YZ (a_0 : (List Int)) (a_1 : Int) (a_2 : Int) : Res (List (List Int)) := (Res.bind (Res.bind (Res.ok a_0) fun x22 => (Res.bind (Res.ok a_1) fun x23 => (Res.bind (Res.bind (Res.bind (Res.bind (Res.ok (7 : Int)) fun x15 => (Res.bind (Res.bind (Res.ok (24 : Int)) fun x13 => (Res.bind (Res.bind (Res.ok (6 : Int)) fun x11 => (Res.bind (Res.bind (Res.ok (2 : Int)) fun x9 => (Res.bind (Res.bind (Res.ok (6 : Int)) fun x7 => (Res.bind (Res.ok []) fun x8 => (Res.ok (x7 :: x8)))) fun x10 => (Res.ok (x9 :: x10)))) fun x12 => (Res.ok (x11 :: x12)))) fun x14 => (Res.ok (x13 :: x14)))) fun x16 => (Res.ok (x15 :: x16)))) fun x6 => (chk (x6.length <= sizeLine) (Res.ok x6))) fun x4 => (Res.bind (Res.bind (Res.bind (Res.bind (Res.ok (24 : Int)) fun x20 => (Res.bind (Res.ok []) fun x21 => (Res.ok (x20 :: x21)))) fun x19 => (chk (x19.length <= sizeLine) (Res.ok x19))) fun x17 => (Res.bind (Res.ok (24 : Int)) fun x18 => (VL x17 x18))) fun x5 => (Fb x4 x5))) fun x24 => (noE (Vu x22 x23 x24))))) fun a1 => (Res.bind (Res.bind (Res.ok (1 : Int)) fun x31 => (Res.bind (Res.bind (Res.bind (Res.ok a1) fun x27 => (Res.bind (Res.ok (1 : Int)) fun x28 => (atR x27 x28))) fun x29 => (Res.bind (Res.ok a_2) fun x30 => (ZS x29 x30))) fun x32 => (Res.ok (x31 + x32)))) fun a25 => (Res.bind (Res.bind (UY (Res.bind (Res.ok a_2) fun x33 => (Res.bind (Res.ok (2 : Int)) fun x34 => (Res.ok (decide (x34 < x33))))) (Res.bind (Res.bind (Res.ok a1) fun x35 => (Res.bind (Res.ok (4 : Int)) fun x36 => (atR x35 x36))) fun x37 => (Res.bind (Res.ok (0 : Int)) fun x38 => (Res.ok (decide (x38 < x37)))))) fun x39 => (if x39 = true then (Res.bind (Res.bind (Res.ok (3 : Int)) fun x50 => (Res.bind (Res.bind (Res.bind (Res.ok a1) fun x44 => (Res.bind (Res.ok (1 : Int)) fun x45 => (atR x44 x45))) fun x48 => (Res.bind (Res.bind (Res.ok a_2) fun x46 => (Res.bind (Res.ok (2 : Int)) fun x47 => (Res.ok (x46 - x47)))) fun x49 => (ZS x48 x49))) fun x51 => (Res.ok (x50 + x51)))) fun a42 => (Res.ok (a42))) else (Res.ok (a25)))) fun g53 => (Res.bind (Res.bind (Res.bind (Res.ok a1) fun x58 => (Res.bind (Res.ok (0 : Int)) fun x59 => (atR x58 x59))) fun x64 => (Res.bind (Res.ok g53) fun x65 => (Res.bind (Res.bind (Res.ok (2 : Int)) fun x62 => (Res.bind (Res.bind (Res.ok a1) fun x60 => (Res.bind (Res.ok (2 : Int)) fun x61 => (atR x60 x61))) fun x63 => (Res.ok (x62 + x63)))) fun x66 => (noE (VQ x64 x65 x66))))) fun a54 => (Res.bind (Res.bind (Res.bind (Res.ok a1) fun x67 => (Res.bind (Res.ok (3 : Int)) fun x68 => (atR x67 x68))) fun x69 => (Res.bind (Res.ok (0 : Int)) fun x70 => (Res.ok (decide (x69 = x70))))) fun x71 => (if x71 = true then (Res.ok a54) else (Res.bind (Res.ok a54) fun x80 => (Res.bind (Res.bind (Res.bind (Res.ok a1) fun x75 => (Res.bind (Res.bind (Res.ok (5 : Int)) fun x74 => (Res.ok (some x74))) fun x76 => (Res.bind (Res.ok none) fun x77 => (Res.ok (JU x75 x76 x77))))) fun x78 => (Res.bind (Res.ok g53) fun x79 => (noE (ZW x78 x79)))) fun x81 => (noE (Qr x80 x81))))))))))
noncomputable def Qw (a_0 : (List (List Int))) : Res (List (List Int)) := (Res.bind (Res.ok []) fun a1 => (Res.bind (Res.ok (0 : Int)) fun a4 => (Res.bind (Res.ok a_0) fun x94 => (Res.bind (forN x94 (a4, a1) (fun g8 a10 => (Res.bind (Res.ok g8.1) fun a12 => (Res.bind (Res.ok g8.1) fun a14 => (Res.bind (Res.bind (Res.ok (1 : Int)) fun x18 => (Res.ok (-x18))) fun a16 => (Res.bind (Res.bind (Res.bind (Res.ok a10) fun x19 => (Res.ok (x19.length : Int))) fun x20 => (VF 0 x20)) fun x91 => (Res.bind (forN x91 (a16) (fun g23 a25 => (Res.bind (Res.bind (Res.bind (Res.bind (Res.ok a10) fun x27 => (Res.bind (Res.ok a25) fun x28 => (atR x27 x28))) fun x29 => (Res.bind (Res.ok (0 : Int)) fun x30 => (Res.ok (decide (x29 < x30))))) fun x31 => (if x31 = true then (Res.bind (Res.ok a25) fun a34 => (Res.ok (a34))) else (Res.ok (g23)))) fun g37 => (Res.ok (g37))))) fun g38 => (Res.bind (Res.bind (Res.bind (Res.bind (Res.ok a12) fun x46 => (Res.bind (Res.ok []) fun x47 => (Res.ok (x46 :: x47)))) fun x45 => (chk (x45.length <= sizeLine) (Res.ok x45))) fun x43 => (Res.bind (Res.bind (Res.bind (Res.ok a10) fun x48 => (Res.ok (x48.length : Int))) fun x49 => (Res.bind (Res.ok (1 : Int)) fun x50 => (Res.ok (max x49 x50)))) fun x44 => (VL x43 x44))) fun a40 => (Res.bind (Res.bind (Res.bind (Res.ok g38) fun x51 => (Res.bind (Res.ok (1 : Int)) fun x52 => (Res.ok (x51 + x52)))) fun x53 => (VF 0 x53)) fun x90 => (Res.bind (forN x90 (a40, g8.1, a14) (fun g56 a58 => (Res.bind (Res.ok g56.2.2) fun x60 => (Res.bind (Res.ok a58) fun x61 => (Res.bind (QV g56.1 x61 x60) fun a62 => (Res.bind (Res.bind (UY (Res.bind (Res.bind (Res.ok a10) fun x64 => (Res.bind (Res.ok a58) fun x65 => (atR x64 x65))) fun x66 => (Res.bind (Res.ok (0 : Int)) fun x67 => (Res.ok (decide (x66 < x67))))) (Res.bind (Res.ok a58) fun x68 => (Res.bind (Res.ok g38) fun x69 => (Res.ok (decide (x68 < x69)))))) fun x70 => (if x70 = true then (Res.bind (Res.bind (Res.ok g56.2.1) fun x75 => (Res.bind (Res.ok (1 : Int)) fun x76 => (Res.ok (x75 + x76)))) fun a73 => (Res.bind (Res.ok a73) fun a77 => (Res.ok (a73, a77)))) else (Res.ok (g56.2.1, g56.2.2)))) fun g80 => (Res.ok (a62, g80.1, g80.2)))))))) fun g81 => (Res.bind (Res.bind (Res.ok g81.2.1) fun x85 => (Res.bind (Res.ok (1 : Int)) fun x86 => (Res.ok (x85 + x86)))) fun a83 => (Res.bind (Res.ok g81.1) fun a87 => (chk (g8.2.length < sizeLine) ((fun a89 => (Res.ok (a83, a89))) (g8.2 ++ [a87]))))))))))))))) fun g92 => (Res.ok g92.2)))))
noncomputable def Z3 (a_0 : (List (List Int))) (a_1 : Int) : Res (Int × Int) := (Res.bind (Res.bind (Res.bind (Res.ok a_0) fun x1 => (Res.ok (x1.length : Int))) fun x2 => (VF 0 x2)) fun x28 => (Res.bind (forC x28 () (fun g5 a7 => (Res.bind (Res.bind (Res.ok a_1) fun x11 => (Res.bind (Res.bind (Res.ok a_0) fun x9 => (Res.bind (Res.ok a7) fun x10 => (atR x9 x10))) fun x12 => (Res.ok (decide (x11 ∈ x12))))) fun x13 => (if x13 = true then (Res.bind (Res.bind (Res.ok a7) fun x18 => (Res.bind (Res.bind (Res.bind (Res.ok a_0) fun x14 => (Res.bind (Res.ok a7) fun x15 => (atR x14 x15))) fun x16 => (Res.bind (Res.ok a_1) fun x17 => (Cl x16 x17))) fun x19 => (Res.ok (x18, x19)))) fun x21 => (Res.ok (Ctl.ret x21))) else (Res.bind (Res.ok ()) fun x20 => (Res.ok (Ctl.nx x20))))))) (JE fun g22 => (Res.bind (Res.bind (Res.ok (1 : Int)) fun x24 => (Res.ok (-x24))) fun x26 => (Res.bind (Res.bind (Res.ok (1 : Int)) fun x25 => (Res.ok (-x25))) fun x27 => (Res.ok (x26, x27)))))))
noncomputable def Zi (a_0 : ((List (List Int)) × (List (Int × Int)))) : Res (List (Int × Int × Int × Int × Int)) := (Res.bind (Res.ok a_0) fun a1 => (Res.bind (Res.bind (Res.ok a1.1) fun x7 => (noE (Qw x7))) fun a4 => (Res.bind (Res.ok []) fun a8 => (Res.bind (Res.ok a1.2) fun x61 => (Res.bind (forN x61 (a8) (fun g13 a15 => (Res.bind (Res.bind (Res.ok a1.1) fun x18 => (Res.bind (Res.ok a15.1) fun x19 => (noE (Z3 x18 x19)))) fun a20 => (Res.bind (Res.bind (Res.ok a1.1) fun x25 => (Res.bind (Res.bind (Res.ok a15.1) fun x24 => (Res.ok (-x24))) fun x26 => (noE (Z3 x25 x26)))) fun a27 => (Res.bind (Res.bind (Res.bind (Res.ok a27.2) fun x32 => (Res.bind (Res.ok (1 : Int)) fun x33 => (Res.ok (x32 + x33)))) fun x37 => (Res.bind (Res.bind (Res.bind (Res.ok a1.1) fun x34 => (Res.bind (Res.ok a27.1) fun x35 => (atR x34 x35))) fun x36 => (Res.ok (x36.length : Int))) fun x38 => (ZS x37 x38))) fun a30 => (Res.bind (Res.bind (Res.ok a15.1) fun x51 => (Res.bind (Res.ok a15.2) fun x52 => (Res.bind (Res.bind (Res.bind (Res.ok a4) fun x39 => (Res.bind (Res.ok a20.1) fun x40 => (atR x39 x40))) fun x41 => (Res.bind (Res.ok a20.2) fun x42 => (atR x41 x42))) fun x53 => (Res.bind (Res.bind (Res.bind (Res.ok a4) fun x43 => (Res.bind (Res.ok a27.1) fun x44 => (atR x43 x44))) fun x45 => (Res.bind (Res.ok a27.2) fun x46 => (atR x45 x46))) fun x54 => (Res.bind (Res.bind (Res.bind (Res.ok a4) fun x47 => (Res.bind (Res.ok a27.1) fun x48 => (atR x47 x48))) fun x49 => (Res.bind (Res.ok a30) fun x50 => (atR x49 x50))) fun x55 => (Res.ok (x51, x52, x53, x54, x55))))))) fun a56 => (chk (g13.length < sizeLine) ((fun a58 => (Res.ok (a58))) (g13 ++ [a56]))))))))) fun g59 => (Res.ok g59))))))
noncomputable def Y8 (a_0 : ((List (List Int)) × (List (Int × Int)))) : Res Int := (Res.bind (Res.bind (Res.bind (Res.ok a_0) fun x3 => (Res.ok x3.2)) fun x4 => (Res.ok (x4.length : Int))) fun a1 => (Res.bind (Res.bind (Res.ok a_0) fun x5 => (Res.ok x5.1)) fun x32 => (Res.bind (forN x32 (a1) (fun g8 a10 => (Res.bind (Res.bind (Res.bind (Res.bind (Res.bind (Res.ok a10) fun x15 => (EH x15 (fun a13 => (Res.bind (Res.ok a13) fun x16 => (Res.bind (Res.ok (0 : Int)) fun x17 => (Res.ok (decide (x16 < x17)))))) (fun a13 => (Res.ok a13)))) fun x18 => (Res.ok (x18.length : Int))) fun x19 => (Res.bind (Res.ok (0 : Int)) fun x20 => (Res.ok (decide (x19 = x20))))) fun x21 => (if x21 = true then (Res.bind (Res.bind (Res.ok g8) fun x26 => (Res.bind (Res.ok (1 : Int)) fun x27 => (Res.ok (x26 + x27)))) fun a24 => (Res.ok (a24))) else (Res.ok (g8)))) fun g29 => (Res.ok (g29))))) fun g30 => (Res.ok g30))))
noncomputable def Z2 (a_0 : (List (Int × Int × Int × Int × Int))) (a_1 : (List (List Int))) (a_2 : (List Int)) : Res Bool := (Res.bind (Res.ok a_0) fun x39 => (Res.bind (forC x39 () (fun g3 a5 => (Res.bind (Res.bind (Res.ok a_2) fun x7 => (Res.bind (Res.ok a5.2.2.2.1) fun x8 => (atR x7 x8))) fun a11 => (Res.bind (Res.bind (Res.ok a_2) fun x9 => (Res.bind (Res.ok a5.2.2.2.2) fun x10 => (atR x9 x10))) fun a12 => (Res.bind (Res.bind (Res.bind (Res.ok a5.2.1) fun x15 => (Res.bind (Res.ok (0 : Int)) fun x16 => (Res.ok (decide (x15 < x16))))) fun x17 => (if x17 = true then (Res.bind (Res.ok a12) fun a20 => (Res.bind (Res.ok a11) fun a21 => (Res.ok (a20, a21)))) else (Res.ok (a11, a12)))) fun g25 => (Res.bind (Res.bind (Res.bind (Res.bind (Res.ok a_1) fun x26 => (Res.bind (Res.ok g25.1) fun x27 => (atR x26 x27))) fun x30 => (Res.bind (Res.bind (Res.ok a_2) fun x28 => (Res.bind (Res.ok a5.2.2.1) fun x29 => (atR x28 x29))) fun x31 => (atR x30 x31))) fun x32 => (Res.bind (Res.ok g25.2) fun x33 => (Res.ok (!(decide (x32 = x33)))))) fun x34 => (if x34 = true then (Res.bind (Res.ok false) fun x36 => (Res.ok (Ctl.ret x36))) else (Res.bind (Res.ok ()) fun x35 => (Res.ok (Ctl.nx x35)))))))))) (JE fun g37 => (Res.ok true))))
noncomputable def GO (a_0 : ((List (List Int)) × (List (Int × Int)))) (a_1 : (List (List Int))) : Res (List (List Int)) := (Res.bind (Res.bind (Res.ok a_0) fun x4 => (noE (Zi x4))) fun a1 => (Res.bind (Res.bind (Res.bind (Res.ok []) fun x9 => (Res.bind (Res.ok []) fun x10 => (Res.ok (x9 :: x10)))) fun x8 => (chk (x8.length <= sizeLine) (Res.ok x8))) fun a5 => (Res.bind (Res.bind (Res.bind (Res.ok a_0) fun x12 => (noE (Y8 x12))) fun x13 => (VF 0 x13)) fun x83 => (Res.bind (forN x83 (a5) (fun g16 a18 => (Res.bind (Res.bind (Res.ok a1) fun x25 => (EH x25 (fun a23 => (Res.bind (Res.bind (Res.bind (Res.bind (Res.ok a23) fun x26 => (Res.ok [x26.1, x26.2.1, x26.2.2.1, x26.2.2.2.1, x26.2.2.2.2])) fun x28 => (Res.bind (Res.bind (Res.ok (2 : Int)) fun x27 => (Res.ok (some x27))) fun x29 => (Res.bind (Res.ok none) fun x30 => (chk (¬ (HT.sIx x28.length 0 x29 = 0 /\ HT.sIx x28.length x28.length x30 = x28.length)) (Res.ok (JU x28 x29 x30)))))) Ig) fun x31 => (Res.bind (Res.ok a18) fun x32 => (Res.ok (decide (x31 = x32)))))) (fun a23 => (Res.ok a23)))) fun a20 => (Res.bind (Res.ok []) fun a33 => (Res.bind (Res.ok g16) fun x80 => (Res.bind (forN x80 (a33) (fun g38 a40 => (Res.bind (Res.bind (Res.bind (Res.ok a_1) fun x42 => (Res.ok (x42.length : Int))) fun x43 => (VF 0 x43)) fun x74 => (Res.bind (forN x74 (g38) (fun g46 a48 => (Res.bind (Res.bind (Res.bind (Res.ok a20) fun x56 => (Res.bind (Res.ok a_1) fun x57 => (Res.bind (Res.bind (Res.ok a40) fun x51 => (Res.bind (Res.bind (Res.bind (Res.ok a48) fun x54 => (Res.bind (Res.ok []) fun x55 => (Res.ok (x54 :: x55)))) fun x53 => (chk (x53.length <= sizeLine) (Res.ok x53))) fun x52 => (Fb x51 x52))) fun x58 => (noE (Z2 x56 x57 x58))))) fun x59 => (if x59 = true then (Res.bind (Res.bind (Res.ok a40) fun x62 => (Res.bind (Res.bind (Res.bind (Res.ok a48) fun x65 => (Res.bind (Res.ok []) fun x66 => (Res.ok (x65 :: x66)))) fun x64 => (chk (x64.length <= sizeLine) (Res.ok x64))) fun x63 => (Fb x62 x63))) fun a67 => (chk (g46.length < sizeLine) ((fun a69 => (Res.ok (a69))) (g46 ++ [a67])))) else (Res.ok (g46)))) fun g71 => (Res.ok (g71))))) fun g72 => (Res.ok (g72)))))) fun g75 => (Res.bind (Res.ok g75) fun a77 => (Res.ok (a77))))))))) fun g81 => (Res.ok g81)))))
noncomputable def Jb (a_0 : Int) (a_1 : Int) : Res Int := (Res.bind (Res.ok (1 : Int)) fun a1 => (Res.bind (Res.bind (Res.ok a_1) fun x3 => (VF 0 x3)) fun x16 => (Res.bind (forN x16 (a1) (fun g6 a8 => (Res.bind (Res.bind (Res.ok g6) fun x12 => (Res.bind (Res.ok a_0) fun x13 => (QQ x12 x13))) fun a10 => (Res.ok (a10))))) fun g14 => (Res.ok g14))))
noncomputable def Jg (a_0 : ((List (List Int)) × (List (Int × Int)))) (a_1 : (List (List Int))) (a_2 : Int) : Res (List Int) := (Res.bind (Res.bind (Res.bind (Res.bind (Res.ok a_1) fun x2 => (Res.ok (x2.length : Int))) fun x5 => (Res.bind (Res.bind (Res.ok a_0) fun x4 => (noE (Y8 x4))) fun x6 => (noE (Jb x5 x6)))) fun x7 => (Res.bind (Res.ok (5000 : Int)) fun x8 => (Res.ok (decide (x8 < x7))))) fun x9 => (if x9 = true then (Res.bind (Res.bind (Res.bind (Res.bind (Res.ok a_2) fun x14 => (Res.bind (Res.bind (Res.ok a_1) fun x13 => (Res.ok (x13.length : Int))) fun x15 => (ZS x14 x15))) fun x16 => (Res.bind (Res.ok []) fun x17 => (Res.ok (x16 :: x17)))) fun x12 => (chk (x12.length <= sizeLine) (Res.ok x12))) fun x10 => (Res.bind (Res.bind (Res.ok a_0) fun x19 => (noE (Y8 x19))) fun x11 => (VL x10 x11))) else (Res.bind (Res.bind (Res.ok a_0) fun x24 => (Res.bind (Res.ok a_1) fun x25 => (noE (GO x24 x25)))) fun a20 => (Res.bind (Res.bind (Res.ok a_2) fun x27 => (Res.bind (Res.bind (Res.ok a20) fun x26 => (Res.ok (x26.length : Int))) fun x28 => (ZS x27 x28))) fun x29 => (atR a20 x29)))))
noncomputable def ZV (a_0 : ((List (List Int)) × (List (Int × Int)))) (a_1 : (List (List Int))) (a_2 : (List Int)) : Res (List Int) := (Res.bind (Res.bind (Res.ok a_0) fun x4 => (noE (Y8 x4))) fun a1 => (Res.bind (Res.bind (Res.ok a_0) fun x11 => (Res.bind (Res.ok a_1) fun x12 => (Res.bind (Res.bind (Res.ok a_2) fun x9 => (Res.bind (Res.ok (1 : Int)) fun x10 => (atR x9 x10))) fun x13 => (noE (Jg x11 x12 x13))))) fun a5 => (Res.bind (Res.bind (Res.bind (Res.bind (Res.ok a_2) fun x14 => (Res.bind (Res.ok (0 : Int)) fun x15 => (atR x14 x15))) fun x16 => (Res.bind (Res.ok (0 : Int)) fun x17 => (Res.ok (decide (x16 = x17))))) fun x18 => (if x18 = true then (Res.bind (Res.bind (Res.bind (Res.bind (Res.bind (Res.bind (Res.ok a_2) fun x27 => (Res.bind (Res.ok (1 : Int)) fun x28 => (atR x27 x28))) fun x30 => (Res.bind (Res.bind (Res.ok a_1) fun x29 => (Res.ok (x29.length : Int))) fun x31 => (ZS x30 x31))) fun x32 => (Res.bind (Res.ok []) fun x33 => (Res.ok (x32 :: x33)))) fun x26 => (chk (x26.length <= sizeLine) (Res.ok x26))) fun x24 => (Res.bind (Res.ok a1) fun x25 => (VL x24 x25))) fun a21 => (Res.ok (a21))) else (Res.ok (a5)))) fun g35 => (Res.bind (Res.bind (Res.bind (Res.bind (Res.ok a_2) fun x36 => (Res.bind (Res.ok (0 : Int)) fun x37 => (atR x36 x37))) fun x38 => (Res.bind (Res.ok (1 : Int)) fun x39 => (Res.ok (decide (x38 = x39))))) fun x40 => (if x40 = true then (Res.bind (Res.bind (Res.bind (Res.ok a_2) fun x50 => (Res.bind (Res.bind (Res.ok (6 : Int)) fun x46 => (Res.ok (some x46))) fun x51 => (Res.bind (Res.bind (Res.bind (Res.ok (6 : Int)) fun x47 => (Res.bind (Res.ok a1) fun x48 => (Res.ok (x47 + x48)))) fun x49 => (Res.ok (some x49))) fun x52 => (Res.ok (JU x50 x51 x52))))) fun x56 => (Kp x56 (fun a54 => (Res.bind (Res.ok a54) fun x58 => (Res.bind (Res.bind (Res.ok a_1) fun x57 => (Res.ok (x57.length : Int))) fun x59 => (ZS x58 x59)))))) fun a43 => (Res.ok (a43))) else (Res.ok (g35)))) fun g61 => (Res.bind (Res.bind (UY (Res.bind (Res.bind (Res.ok a_2) fun x62 => (Res.bind (Res.ok (2 : Int)) fun x63 => (atR x62 x63))) fun x64 => (Res.bind (Res.ok (0 : Int)) fun x65 => (Res.ok (decide (x64 = x65))))) (Res.bind (Res.ok a1) fun x66 => (Res.bind (Res.ok (0 : Int)) fun x67 => (Res.ok (decide (x67 < x66)))))) fun x68 => (if x68 = true then (Res.bind (Res.bind (Res.bind (Res.ok a_2) fun x73 => (Res.bind (Res.ok (3 : Int)) fun x74 => (atR x73 x74))) fun x75 => (Res.bind (Res.ok a1) fun x76 => (ZS x75 x76))) fun a71 => (Res.bind (Res.bind (Res.bind (Res.bind (Res.ok (1 : Int)) fun x80 => (Res.ok (-x80))) fun x102 => (Res.bind (Res.bind (Res.bind (Res.ok a_1) fun x81 => (Res.ok (x81.length : Int))) fun x100 => (Res.bind (Res.bind (Res.bind (Res.bind (Res.ok a_1) fun x82 => (Res.ok (x82.length : Int))) fun x85 => (Res.bind (Res.bind (Res.ok a_2) fun x83 => (Res.bind (Res.ok (5 : Int)) fun x84 => (atR x83 x84))) fun x86 => (Res.ok (x85 + x86)))) fun x98 => (Res.bind (Res.bind (Res.bind (Res.bind (Res.ok a_1) fun x87 => (Res.ok (x87.length : Int))) fun x88 => (Res.ok (-x88))) fun x96 => (Res.bind (Res.bind (Res.bind (Res.bind (Res.ok a_2) fun x89 => (Res.bind (Res.ok (5 : Int)) fun x90 => (atR x89 x90))) fun x92 => (Res.bind (Res.bind (Res.ok a_1) fun x91 => (Res.ok (x91.length : Int))) fun x93 => (ZS x92 x93))) fun x94 => (Res.bind (Res.ok []) fun x95 => (Res.ok (x94 :: x95)))) fun x97 => (Res.ok (x96 :: x97)))) fun x99 => (Res.ok (x98 :: x99)))) fun x101 => (Res.ok (x100 :: x101)))) fun x103 => (Res.ok (x102 :: x103)))) fun x79 => (chk (x79.length <= sizeLine) (Res.ok x79))) fun a77 => (Res.bind (Res.bind (Res.ok a77) fun x106 => (Res.bind (Res.bind (Res.ok a_2) fun x104 => (Res.bind (Res.ok (4 : Int)) fun x105 => (atR x104 x105))) fun x107 => (atR x106 x107))) fun x108 => (Res.bind (Res.ok a71) fun x109 => (Res.bind (QV g61 x109 x108) fun a110 => (Res.ok (a110))))))) else (Res.ok (g61)))) fun g113 => (Res.bind (Res.bind (UY (Res.bind (Res.bind (Res.ok a_2) fun x114 => (Res.bind (Res.ok (2 : Int)) fun x115 => (atR x114 x115))) fun x116 => (Res.bind (Res.ok (1 : Int)) fun x117 => (Res.ok (decide (x116 = x117))))) (Res.bind (Res.ok a1) fun x118 => (Res.bind (Res.ok (0 : Int)) fun x119 => (Res.ok (decide (x119 < x118)))))) fun x120 => (if x120 = true then (Res.bind (Res.bind (Res.bind (Res.ok a_2) fun x125 => (Res.bind (Res.ok (3 : Int)) fun x126 => (atR x125 x126))) fun x127 => (Res.bind (Res.ok a1) fun x128 => (ZS x127 x128))) fun a123 => (Res.bind (Res.bind (Res.bind (Res.ok a_2) fun x129 => (Res.bind (Res.ok (5 : Int)) fun x130 => (atR x129 x130))) fun x132 => (Res.bind (Res.bind (Res.ok a_1) fun x131 => (Res.ok (x131.length : Int))) fun x133 => (ZS x132 x133))) fun x134 => (Res.bind (Res.ok a123) fun x135 => (Res.bind (QV g113 x135 x134) fun a136 => (Res.ok (a136)))))) else (Res.ok (g113)))) fun g139 => (Res.bind (Res.bind (Res.bind (Res.bind (Res.ok a_2) fun x140 => (Res.bind (Res.ok (2 : Int)) fun x141 => (atR x140 x141))) fun x142 => (Res.bind (Res.ok (2 : Int)) fun x143 => (Res.ok (decide (x142 = x143))))) fun x144 => (if x144 = true then (Res.bind (Res.bind (Res.ok g139) fun x150 => (Res.bind (Res.bind (Res.bind (Res.bind (Res.bind (Res.ok a_2) fun x153 => (Res.bind (Res.ok (1 : Int)) fun x154 => (atR x153 x154))) fun x156 => (Res.bind (Res.bind (Res.ok a_1) fun x155 => (Res.ok (x155.length : Int))) fun x157 => (ZS x156 x157))) fun x158 => (Res.bind (Res.ok []) fun x159 => (Res.ok (x158 :: x159)))) fun x152 => (chk (x152.length <= sizeLine) (Res.ok x152))) fun x151 => (Fb x150 x151))) fun a147 => (Res.ok (a147))) else (Res.ok (g139)))) fun g161 => (Res.bind (Res.bind (Res.bind (Res.bind (Res.ok a_2) fun x162 => (Res.bind (Res.ok (2 : Int)) fun x163 => (atR x162 x163))) fun x164 => (Res.bind (Res.ok (3 : Int)) fun x165 => (Res.ok (decide (x164 = x165))))) fun x166 => (if x166 = true then (Res.bind (Res.bind (Res.ok g161) fun x173 => (Res.bind (Res.bind (Res.ok (1 : Int)) fun x172 => (Res.ok (some x172))) fun x174 => (Res.bind (Res.ok none) fun x175 => (Res.ok (JU x173 x174 x175))))) fun a169 => (Res.ok (a169))) else (Res.ok (g161)))) fun g177 => (Res.bind (Res.bind (Res.bind (Res.bind (Res.ok a_2) fun x178 => (Res.bind (Res.ok (2 : Int)) fun x179 => (atR x178 x179))) fun x180 => (Res.bind (Res.ok (8 : Int)) fun x181 => (Res.ok (decide (x180 = x181))))) fun x182 => (if x182 = true then (Res.bind (Res.bind (Res.bind (Res.ok g177) fun x192 => (Res.bind (Res.ok (90 : Int)) fun x193 => (VL x192 x193))) fun x189 => (Res.bind (Res.ok none) fun x190 => (Res.bind (Res.bind (Res.ok (90 : Int)) fun x188 => (Res.ok (some x188))) fun x191 => (Res.ok (JU x189 x190 x191))))) fun a185 => (Res.ok (a185))) else (Res.ok (g177)))) fun g195 => (Res.ok g195))))))))))
noncomputable def GI (a_0 : ((List (List Int)) × (List (Int × Int)))) (a_1 : (List (List Int))) (a_2 : (List Int)) : Res Bool := (Res.bind (Res.bind (Res.bind (Res.ok a_2) fun x1 => (Res.ok (x1.length : Int))) fun x4 => (Res.bind (Res.bind (Res.ok a_0) fun x3 => (noE (Y8 x3))) fun x5 => (Res.ok (!(decide (x4 = x5)))))) fun x6 => (if x6 = true then (Res.ok false) else (Res.bind (Res.ok a_2) fun x29 => (Res.bind (forC x29 () (fun g9 a11 => (Res.bind (orR (Res.bind (Res.ok a11) fun x13 => (Res.bind (Res.ok (0 : Int)) fun x14 => (Res.ok (decide (x13 < x14))))) (Res.bind (Res.ok a11) fun x16 => (Res.bind (Res.bind (Res.ok a_1) fun x15 => (Res.ok (x15.length : Int))) fun x17 => (Res.ok (decide (x17 <= x16)))))) fun x18 => (if x18 = true then (Res.bind (Res.ok false) fun x20 => (Res.ok (Ctl.ret x20))) else (Res.bind (Res.ok ()) fun x19 => (Res.ok (Ctl.nx x19))))))) (JE fun g21 => (Res.bind (Res.bind (Res.ok a_0) fun x25 => (noE (Zi x25))) fun x26 => (Res.bind (Res.ok a_1) fun x27 => (Res.bind (Res.ok a_2) fun x28 => (noE (Z2 x26 x27 x28))))))))))
noncomputable def KC (a_0 : (List Int)) : Res Bool := (Res.bind (Res.bind (Res.ok a_0) fun x9 => (Res.bind (Res.ok (3 : Int)) fun x10 => (Res.bind (Res.bind (Res.bind (Res.ok (8 : Int)) fun x7 => (Res.bind (Res.bind (Res.ok (8 : Int)) fun x5 => (Res.bind (Res.ok []) fun x6 => (Res.ok (x5 :: x6)))) fun x8 => (Res.ok (x7 :: x8)))) fun x4 => (chk (x4.length <= sizeLine) (Res.ok x4))) fun x11 => (noE (Vu x9 x10 x11))))) fun a1 => (Res.bind (Res.bind (Res.ok a_0) fun x26 => (Res.bind (Res.ok (0 : Int)) fun x27 => (Res.bind (Res.bind (Res.bind (Res.bind (Res.ok (7 : Int)) fun x18 => (Res.bind (Res.bind (Res.ok (40 : Int)) fun x16 => (Res.bind (Res.ok []) fun x17 => (Res.ok (x16 :: x17)))) fun x19 => (Res.ok (x18 :: x19)))) fun x15 => (chk (x15.length <= sizeLine) (Res.ok x15))) fun x24 => (Res.bind (Res.bind (Res.bind (Res.ok a1) fun x20 => (Res.bind (Res.ok (0 : Int)) fun x21 => (atR x20 x21))) fun x22 => (Res.bind (Res.ok (7 : Int)) fun x23 => (Be x22 x23))) fun x25 => (atR x24 x25))) fun x28 => (noE (Jf x26 x27 x28))))) fun a12 => (Res.bind (Res.bind (Res.ok a_0) fun x43 => (Res.bind (Res.ok (1 : Int)) fun x44 => (Res.bind (Res.bind (Res.bind (Res.bind (Res.ok (6 : Int)) fun x35 => (Res.bind (Res.bind (Res.ok (24 : Int)) fun x33 => (Res.bind (Res.ok []) fun x34 => (Res.ok (x33 :: x34)))) fun x36 => (Res.ok (x35 :: x36)))) fun x32 => (chk (x32.length <= sizeLine) (Res.ok x32))) fun x41 => (Res.bind (Res.bind (Res.bind (Res.ok a1) fun x37 => (Res.bind (Res.ok (1 : Int)) fun x38 => (atR x37 x38))) fun x39 => (Res.bind (Res.ok (7 : Int)) fun x40 => (Be x39 x40))) fun x42 => (atR x41 x42))) fun x45 => (noE (YZ x43 x44 x45))))) fun a29 => (Res.bind (Res.bind (Res.ok a_0) fun x71 => (Res.bind (Res.ok (2 : Int)) fun x72 => (Res.bind (Res.bind (Res.bind (Res.bind (Res.ok (4 : Int)) fun x64 => (Res.bind (Res.bind (Res.ok (5000 : Int)) fun x62 => (Res.bind (Res.bind (Res.ok (9 : Int)) fun x60 => (Res.bind (Res.bind (Res.ok (20 : Int)) fun x58 => (Res.bind (Res.bind (Res.ok (5 : Int)) fun x56 => (Res.bind (Res.bind (Res.bind (Res.ok (10 : Int)) fun x52 => (Res.bind (Res.ok (59 : Int)) fun x53 => (EF x52 x53))) fun x54 => (Res.bind (Res.ok []) fun x55 => (Res.ok (x54 :: x55)))) fun x57 => (Res.ok (x56 :: x57)))) fun x59 => (Res.ok (x58 :: x59)))) fun x61 => (Res.ok (x60 :: x61)))) fun x63 => (Res.ok (x62 :: x63)))) fun x65 => (Res.ok (x64 :: x65)))) fun x51 => (chk (x51.length <= sizeLine) (Res.ok x51))) fun x49 => (Res.bind (Res.bind (Res.bind (Res.bind (Res.ok (24 : Int)) fun x69 => (Res.bind (Res.ok []) fun x70 => (Res.ok (x69 :: x70)))) fun x68 => (chk (x68.length <= sizeLine) (Res.ok x68))) fun x66 => (Res.bind (Res.ok (48 : Int)) fun x67 => (VL x66 x67))) fun x50 => (Fb x49 x50))) fun x73 => (noE (Vu x71 x72 x73))))) fun a46 => (Res.bind (Res.bind (Res.ok a12) fun x77 => (Res.bind (Res.ok a29) fun x78 => (Res.bind (Res.ok a46) fun x79 => (noE (ZV x77 x78 x79))))) fun a74 => (Res.bind (Res.bind (Res.bind (Res.ok a12) fun x82 => (Res.ok x82.1)) fun x91 => (Res.bind (Res.bind (Res.bind (Res.ok a12) fun x83 => (Res.ok x83.2)) fun x87 => (Kp x87 (fun a85 => (Res.bind (Res.ok a85.1) fun x89 => (Res.bind (Res.bind (Res.ok a85.2) fun x88 => (Res.ok (-x88))) fun x90 => (Res.ok (x89, x90))))))) fun x92 => (Res.ok (x91, x92)))) fun a80 => (Res.bind (Res.bind (Res.bind (Res.ok a12) fun x98 => (Res.bind (Res.bind (Res.ok a80) fun x96 => (Res.bind (Res.bind (Res.ok a12) fun x94 => (Res.bind (Res.ok []) fun x95 => (Res.ok (x94 :: x95)))) fun x97 => (Res.ok (x96 :: x97)))) fun x99 => (Res.ok (x98 :: x99)))) fun x93 => (chk (x93.length <= sizeLine) (Res.ok x93))) fun x147 => (Res.bind (forC x147 () (fun g102 a104 => (Res.bind (Res.bind (Res.ok a104) fun x109 => (noE (VZ x109))) fun a106 => (Res.bind (Res.bind (Res.ok a29) fun x115 => (Kp x115 (fun a113 => (Res.bind (Res.ok a113) fun x116 => (Res.ok x116))))) fun a110 => (Res.bind (Res.bind (Res.ok a74) fun x119 => (Res.ok x119)) fun a117 => (Res.bind (Res.bind (Res.ok a106) fun x123 => (Res.bind (Res.ok a110) fun x124 => (Res.bind (Res.ok a117) fun x125 => (noE (VY x123 x124 x125))))) fun a120 => (Res.bind (orR (Res.bind (Res.bind (Res.ok a120) fun x126 => (Res.ok true)) fun x127 => (Res.ok (!x127))) (Res.bind (Res.ok a120) fun x132 => (Res.bind (Res.bind (Res.ok a104) fun x129 => (Res.bind (Res.ok a29) fun x130 => (Res.bind (Res.ok a74) fun x131 => (noE (GI x129 x130 x131))))) fun x133 => (Res.ok (!(decide (x132 = x133))))))) fun x134 => (if x134 = true then (Res.bind (Res.ok false) fun x144 => (Res.ok (Ctl.ret x144))) else (Res.bind (orR (Res.bind (Res.ok a106) fun x135 => (Res.bind (Res.ok a104) fun x136 => (Res.ok (!(decide (x135 = x136)))))) (orR (Res.bind (Res.ok a110) fun x137 => (Res.bind (Res.ok a29) fun x138 => (Res.ok (!(decide (x137 = x138)))))) (Res.bind (Res.ok a117) fun x139 => (Res.bind (Res.ok a74) fun x140 => (Res.ok (!(decide (x139 = x140)))))))) fun x141 => (if x141 = true then (Res.bind (Res.ok false) fun x143 => (Res.ok (Ctl.ret x143))) else (Res.bind (Res.ok ()) fun x142 => (Res.ok (Ctl.nx x142))))))))))))) (JE fun g145 => (Res.ok true))))))))))
end My
namespace L2
open PySem
section
variable {α β γ ρ : Type}
theorem Res.okb (a : α) (f : α -> Res β) : (Res.ok a).bind f = f a := (Eq.refl (f a)).symm.symm
theorem DA {f : α -> Res β} {h : α -> β} : ∀ {as : List α}, (∀ a ∈ as, f a = .ok (h a)) -> Fa as f = .ok (as.map h)
  | [], _ => rfl
  | a :: as, hf => by
    show (f a).bind _ = _
    rw [hf a (by simp), Res.ok_bind, DA fun b hb => hf b (by simp [hb])]; rfl
theorem Zw {f : α -> Res β} {h : α -> β} {as : List α} (hl : as.length <= sizeLine) (hf : ∀ a ∈ as, f a = .ok (h a)) : Kp as f = .ok (as.map h) := by
  unfold Kp; rw [Xy hl]; exact DA hf
theorem FW {c : α -> Res Bool} {f : α -> Res β} {p : α -> Bool} {h : α -> β} : ∀ {as : List α}, (∀ a ∈ as, c a = .ok (p a)) -> (∀ a ∈ as, p a = true -> f a = .ok (h a)) -> K5 as c f = .ok ((as.filter p).map h)
  | [], _, _ => rfl
  | a :: as, hc, hf => by
    show (c a).bind _ = _
    rw [hc a (by simp), Res.ok_bind]
    have ih := FW (as := as) (fun b hb => hc b (by simp [hb])) fun b hb => hf b (by simp [hb])
    cases hp : p a with
    | false => rw [if_neg (by simp), ih, List.filter_cons, hp]; rfl
    | true => rw [if_pos rfl, hf a (by simp) hp, Res.ok_bind, ih, List.filter_cons, hp]; rfl
theorem Ky {c : α -> Res Bool} {f : α -> Res β} {p : α -> Bool} {h : α -> β} {as : List α} (hl : as.length <= sizeLine) (hc : ∀ a ∈ as, c a = .ok (p a)) (hf : ∀ a ∈ as, p a = true -> f a = .ok (h a)) : EH as c f = .ok ((as.filter p).map h) := by
  unfold EH; rw [Xy hl]; exact FW hc hf
theorem UG {f : γ -> α -> Res γ} (P : Nat -> γ -> Prop) : ∀ (as : List α) (k : Nat) (g : γ), P k g -> (∀ i a g, as[i]? = some a -> P (k + i) g -> ∃ g', f g a = .ok g' /\ P (k + i + 1) g') -> ∃ g', forN as g f = .ok g' /\ P (k + as.length) g'
  | [], k, g, h0, _ => ⟨g, rfl, h0⟩
  | a :: as, k, g, h0, hs => by
    obtain ⟨g1, e1, p1⟩ := hs 0 a g rfl h0
    obtain ⟨g2, e2, p2⟩ := UG P as (k + 1) g1 p1 fun i b g hb hp => by
      obtain ⟨g', e', p'⟩ := hs (i + 1) b g (by simpa using hb) (by rw [show k + (i + 1) = k + 1 + i by omega]; exact hp)
      exact ⟨g', e', by rw [show k + 1 + i + 1 = k + (i + 1) + 1 by omega]; exact p'⟩
    refine ⟨g2, ?_, by rw [List.length_cons, show k + (as.length + 1) = k + 1 + as.length by omega]; exact p2⟩
    show (f g a).bind _ = _
    rw [e1, Res.ok_bind]; exact e2
theorem Gz {f : γ -> α -> Res γ} (P : Nat -> γ -> Prop) {as : List α} {g : γ} (h0 : P 0 g) (hs : ∀ i a g, as[i]? = some a -> P i g -> ∃ g', f g a = .ok g' /\ P (i + 1) g') : ∃ g', forN as g f = .ok g' /\ P as.length g' := by
  have := UG P as 0 g h0 (by simpa using hs)
  simpa using this
theorem Qn {f : List β -> α -> Res (List β)} {h : α -> β} : ∀ {as : List α} {g : List β}, g.length + as.length <= sizeLine -> (∀ g : List β, g.length < sizeLine -> ∀ a ∈ as, f g a = .ok (g ++ [h a])) -> forN as g f = .ok (g ++ as.map h)
  | [], g, _, _ => by simp [forN]
  | a :: as, g, hl, hf => by
    show (f g a).bind _ = _
    rw [List.length_cons] at hl
    rw [hf g (by omega) a (by simp), Res.ok_bind, Qn (by simp; omega) fun g hg b hb => hf g hg b (by simp [hb])]
    simp
theorem Gq {f : γ -> α -> Res (Ctl ρ γ)} : ∀ {as : List α} {g : γ}, (∀ a ∈ as, f g a = .ok (.nx g)) -> forC as g f = .ok (.nx g)
  | [], _, _ => rfl
  | a :: as, g, hf => by
    show (f g a).bind _ = _
    rw [hf a (by simp), Res.ok_bind]
    exact Gq fun b hb => hf b (by simp [hb])
theorem UU {f : γ -> α -> Res (Ctl ρ γ)} (P : Nat -> γ -> Prop) : ∀ (as : List α) (k : Nat) (g : γ), P k g -> (∀ i a g, as[i]? = some a -> P (k + i) g -> ∃ g', f g a = .ok (.nx g') /\ P (k + i + 1) g') -> ∃ g', forC as g f = .ok (.nx g') /\ P (k + as.length) g'
  | [], k, g, h0, _ => ⟨g, rfl, h0⟩
  | a :: as, k, g, h0, hs => by
    obtain ⟨g1, e1, p1⟩ := hs 0 a g rfl h0
    obtain ⟨g2, e2, p2⟩ := UU P as (k + 1) g1 p1 fun i b g hb hp => by
      obtain ⟨g', e', p'⟩ := hs (i + 1) b g (by simpa using hb) (by rw [show k + (i + 1) = k + 1 + i by omega]; exact hp)
      exact ⟨g', e', by rw [show k + 1 + i + 1 = k + (i + 1) + 1 by omega]; exact p'⟩
    refine ⟨g2, ?_, by rw [List.length_cons, show k + (as.length + 1) = k + 1 + as.length by omega]; exact p2⟩
    show (f g a).bind _ = _
    rw [e1, Res.ok_bind]; exact e2
theorem Cu {f : γ -> α -> Res (Ctl ρ γ)} (P : Nat -> γ -> Prop) {as : List α} {g : γ} (h0 : P 0 g) (hs : ∀ i a g, as[i]? = some a -> P i g -> ∃ g', f g a = .ok (.nx g') /\ P (i + 1) g') : ∃ g', forC as g f = .ok (.nx g') /\ P as.length g' := by
  have := UU P as 0 g h0 (by simpa using hs)
  simpa using this
theorem X6 {a b : Int} (h : 0 < b) : ZS a b = .ok (a % b) := Xy h
theorem Zk {a b : Int} (h1 : -(2 ^ 64) < a) (h2 : a < 2 ^ 64) : QQ a b = .ok (a * b) := Xy (.inl ⟨h1, h2⟩)
theorem Qk {a b : Int} (h1 : -(2 ^ 64) < b) (h2 : b < 2 ^ 64) : QQ a b = .ok (a * b) := Xy (.inr ⟨h1, h2⟩)
theorem UF {a b : Int} (h : 0 < b) (h2 : b < 2 ^ 250) : Be a b = .ok (a / b) := Xy ⟨h, by
  have h3 : b.natAbs < 2 ^ 250 := by omega
  rcases Nat.eq_zero_or_pos b.natAbs with h0 | h0
  · omega
  · have := (Nat.log2_lt (by omega)).mpr h3
    omega⟩
theorem Gn {a b : Int} (h0 : 0 <= b) (h1 : b <= 1000000) (h2 : -(2 ^ 64) < a) (h3 : a < 2 ^ 64) : EF a b = .ok (a ^ b.toNat) := Xy ⟨h0, h1, by omega⟩
theorem YI {as : List α} {i : Nat} {a : α} (h : as[i]? = some a) : atR as (i : Int) = .ok a := by
  have hlt := (List.getElem?_eq_some_iff.mp h).1
  unfold atR atI ixN
  rw [if_pos (by omega), if_pos (by omega)]
  simp [h]
theorem Hh {as : List α} {i : Int} {a : α} (h0 : 0 <= i) (h : as[i.toNat]? = some a) : atR as i = .ok a := by
  have : i = (i.toNat : Int) := by omega
  rw [this]; exact YI h
theorem Zn {n : Nat} (h : n < 2 ^ 62) : VF 0 (n : Int) = .ok ((List.range n).map fun (i : Nat) => (i : Int)) := by
  unfold VF
  rw [Xy (by omega)]
  unfold Qm
  congr 1
  rw [Int.sub_zero, Int.toNat_natCast]
  exact List.map_congr_left fun i _ => by omega
theorem Yj {n i : Nat} {a : Int} (h : ((List.range n).map fun (i : Nat) => (i : Int))[i]? = some a) : a = (i : Int) /\ i < n := by
  have hlt := (List.getElem?_eq_some_iff.mp h).1
  simp only [List.length_map, List.length_range] at hlt
  rw [List.getElem?_map, List.getElem?_range hlt] at h
  exact ⟨(Option.some.inj h).symm, hlt⟩
theorem Vb {n : Nat} {a : Int} (h : a ∈ (List.range n).map fun (i : Nat) => (i : Int)) : ∃ i : Nat, i < n /\ a = (i : Int) := by
  obtain ⟨i, hi, rfl⟩ := List.mem_map.mp h
  exact ⟨i, List.mem_range.mp hi, rfl⟩
theorem Yk {n : Nat} : ((List.range n).map fun (i : Nat) => (i : Int)).length = n := by simp
theorem Hl {a : Bool} {b : Res Bool} {c : Bool} (h : a = true -> b = .ok c) : UY (.ok a) b = .ok (a && c) := by
  cases a with
  | false => rfl
  | true =>
    show (if true = true then b else Res.ok false) = _
    rw [if_pos rfl, h rfl]; rfl
theorem HL {a : Bool} {b : Res Bool} {c : Bool} (h : a = false -> b = .ok c) : orR (.ok a) b = .ok (a || c) := by
  cases a with
  | true => rfl
  | false =>
    show (if false = true then Res.ok true else b) = _
    rw [if_neg Bool.false_ne_true, h rfl]; rfl
theorem sz {n : Nat} (h : n <= 100000) : n <= sizeLine := Nat.le_trans h (by decide)
theorem Ff {n : Nat} (h : n <= 100000) : n < sizeLine := Nat.lt_of_le_of_lt h (by decide)
noncomputable def Ok (m : Res β) (R : β -> Prop) : Prop := ∃ r, m = .ok r /\ R r
theorem Ok.pure {R : β -> Prop} {a : β} (h : R a) : Ok (.ok a) R := ⟨a, rfl, h⟩
theorem Ok.bind {m : Res α} {f : α -> Res β} {R : α -> Prop} {T : β -> Prop} (h : Ok m R) (hf : ∀ a, R a -> Ok (f a) T) : Ok (m.bind f) T := by
  obtain ⟨a, e, ha⟩ := h
  rw [e]; exact hf a ha
theorem Ok.imp {m : Res α} {R T : α -> Prop} (h : Ok m R) (hf : ∀ a, R a -> T a) : Ok m T := by
  obtain ⟨a, e, ha⟩ := h
  exact ⟨a, e, hf a ha⟩
theorem Ok.noE {m : Res α} {R : α -> Prop} (h : Ok m R) : Ok (noE m) R := by
  obtain ⟨a, e, ha⟩ := h
  rw [e]; exact ⟨a, rfl, ha⟩
theorem Ok.chk {c : Prop} [Decidable c] {m : Res α} {R : α -> Prop} (hc : c) (h : Ok m R) : Ok (chk c m) R := by rw [Xy hc]; exact h
theorem Ok.ite {b : Bool} {m n : Res α} {R : α -> Prop} (h1 : b = true -> Ok m R) (h2 : b = false -> Ok n R) : Ok (if b = true then m else n) R := by
  cases b with
  | true => rw [if_pos rfl]; exact h1 rfl
  | false => rw [if_neg Bool.false_ne_true]; exact h2 rfl
theorem Ok.forN {f : γ -> α -> Res γ} (P : Nat -> γ -> Prop) {as : List α} {g : γ} (h0 : P 0 g) (hs : ∀ i a g, as[i]? = some a -> P i g -> Ok (f g a) (P (i + 1))) : Ok (forN as g f) (P as.length) := Gz P h0 hs
theorem Ok.forC {f : γ -> α -> Res (Ctl ρ γ)} (P : Nat -> γ -> Prop) {as : List α} {g : γ} (h0 : P 0 g) (hs : ∀ i a g, as[i]? = some a -> P i g -> ∃ g', f g a = .ok (.nx g') /\ P (i + 1) g') : Ok (forC as g f) (fun c => ∃ g', c = .nx g' /\ P as.length g') := by
  obtain ⟨g', e, h⟩ := Cu P h0 hs
  exact ⟨_, e, g', rfl, h⟩
theorem Ut {f : γ -> Res ρ} (g : γ) : JE f (.nx g) = f g := (Eq.refl (f g)).symm.symm
theorem Q2 {f : γ -> Res ρ} (r : ρ) : JE f (.ret r) = .ok r := (Eq.refl (Res.ok r)).symm.symm
theorem XX (a : α) : noE (Res.ok a) = .ok a := (Eq.refl (Res.ok a)).symm.symm
theorem Ok.of {m : Res α} {a : α} (h : m = .ok a) : Ok m (fun b => b = a) := ⟨a, h, rfl⟩
theorem Ok.eq {m : Res α} {a : α} (h : Ok m (fun b => b = a)) : m = .ok a := by
  obtain ⟨b, e, rfl⟩ := h
  exact e
end
end L2
namespace My
noncomputable def Qz (n : Nat) (f : Nat -> Nat -> Nat) (a : Nat) : List Int := (List.range n).map fun b => (f a b : Int)
noncomputable def Y9 (n : Nat) (f : Nat -> Nat -> Nat) : List (List Int) := (List.range n).map (Qz n f)
theorem ZI (n : Nat) (f : Nat -> Nat -> Nat) (a : Nat) : (Qz n f a).length = n := by simp [Qz]
theorem X5 (n : Nat) (f : Nat -> Nat -> Nat) : (Y9 n f).length = n := by simp [Y9]
theorem Vr {n : Nat} {f : Nat -> Nat -> Nat} {a b : Nat} (h : b < n) : (Qz n f a)[b]? = some (f a b : Int) := by
  unfold Qz; rw [List.getElem?_map, List.getElem?_range h]; rfl
theorem J6 {n : Nat} {f : Nat -> Nat -> Nat} {a : Nat} (h : a < n) : (Y9 n f)[a]? = some (Qz n f a) := by
  unfold Y9; rw [List.getElem?_map, List.getElem?_range h]; rfl
theorem J9 {n : Nat} {f g : Nat -> Nat -> Nat} {a : Nat} (h : ∀ b, b < n -> f a b = g a b) : Qz n f a = Qz n g a := by
  unfold Qz
  exact List.map_congr_left fun b hb => by rw [h b (List.mem_range.mp hb)]
theorem Zv {n : Nat} {f g : Nat -> Nat -> Nat} (h : ∀ a b, a < n -> b < n -> f a b = g a b) : Y9 n f = Y9 n g := by
  unfold Y9
  exact List.map_congr_left fun a ha => J9 fun b hb => h a b (List.mem_range.mp ha) hb
structure Col (n : Nat) (f : Nat -> Nat -> Nat) : Prop where
  lt : ∀ a b, a < n -> b < n -> f a b < n
  r2 : ∀ x y b, x < n -> y < n -> b < n -> f x b = f y b -> x = y
structure GoodF (n : Nat) (f : Nat -> Nat -> Nat) : Prop extends Col n f where
  r1 : ∀ a, a < n -> f a a = a
  r3 : ∀ a b c, a < n -> b < n -> c < n -> f (f a b) c = f (f a c) (f b c)
theorem GoodF.congr {n : Nat} {f g : Nat -> Nat -> Nat} (h : GoodF n f) (e : ∀ a b, a < n -> b < n -> g a b = f a b) : GoodF n g where
  lt a b ha hb := by rw [e a b ha hb]; exact h.lt a b ha hb
  r2 x y b hx hy hb q := by rw [e x b hx hb, e y b hy hb] at q; exact h.r2 x y b hx hy hb q
  r1 a ha := by rw [e a a ha ha]; exact h.r1 a ha
  r3 a b c ha hb hc := by
    rw [e a b ha hb, e a c ha hc, e b c hb hc, e _ c (h.lt a b ha hb) hc, e _ _ (h.lt a c ha hc) (h.lt b c hb hc)]
    exact h.r3 a b c ha hb hc
theorem Vv : ∀ (n : Nat) (p : Nat -> Nat), (∀ a, a < n -> p a < n) -> (∀ a b, a < n -> b < n -> p a = p b -> a = b) -> ∀ y, y < n -> ∃ x, x < n /\ p x = y
  | 0, _, _, _, y, hy => absurd hy (Nat.not_lt_zero _)
  | n + 1, p, hl, hi, y, hy => by
    by_cases hh : ∃ x, x < n + 1 /\ p x = y
    · exact hh
    · exfalso
      -- send n to y, and y's place away
      have hne : ∀ x, x < n + 1 -> p x ≠ y := fun x hx e => hh ⟨x, hx, e⟩
      -- among the first n: p', which skips y
      let s : Nat -> Nat := fun v => if v < y then v else v - 1
      have hs : ∀ a, a < n + 1 -> s (p a) < n := fun a ha => by
        have h1 := hl a ha; have h2 := hne a ha
        show (if p a < y then p a else p a - 1) < n
        split <;> omega
      have hsi : ∀ a b, a < n + 1 -> b < n + 1 -> s (p a) = s (p b) -> a = b := fun a b ha hb e => by
        have h1 := hne a ha; have h2 := hne b hb
        refine hi a b ha hb ?_
        have e' : (if p a < y then p a else p a - 1) = (if p b < y then p b else p b - 1) := e
        split at e' <;> split at e' <;> omega
      obtain ⟨x, hx, ex⟩ := Vv n (fun a => s (p a)) (fun a ha => hs a (by omega)) (fun a b ha hb e => hsi a b (by omega) (by omega) e) (s (p n)) (hs n (by omega))
      have := hsi x n (by omega) (by omega) ex
      omega
structure PermN (n : Nat) (p q : Nat -> Nat) : Prop where
  lt : ∀ a, a < n -> p a < n
  qlt : ∀ a, a < n -> q a < n
  pq : ∀ a, a < n -> p (q a) = a
  qp : ∀ a, a < n -> q (p a) = a
theorem PermN.good {n : Nat} {p q : Nat -> Nat} {f : Nat -> Nat -> Nat} (h : PermN n p q) (g : GoodF n f) : GoodF n (fun x y => p (f (q x) (q y))) where
  lt a b ha hb := h.lt _ (g.lt _ _ (h.qlt a ha) (h.qlt b hb))
  r2 x y b hx hy hb e := by
    have e1 : q (p (f (q x) (q b))) = q (p (f (q y) (q b))) := congrArg q e
    rw [h.qp _ (g.lt _ _ (h.qlt x hx) (h.qlt b hb)), h.qp _ (g.lt _ _ (h.qlt y hy) (h.qlt b hb))] at e1
    have := g.r2 _ _ _ (h.qlt x hx) (h.qlt y hy) (h.qlt b hb) e1
    rw [← h.pq x hx, ← h.pq y hy, this]
  r1 a ha := by
    show p (f (q a) (q a)) = a
    rw [g.r1 _ (h.qlt a ha), h.pq a ha]
  r3 a b c ha hb hc := by
    have l1 := g.lt _ _ (h.qlt a ha) (h.qlt b hb)
    have l2 := g.lt _ _ (h.qlt a ha) (h.qlt c hc)
    have l3 := g.lt _ _ (h.qlt b hb) (h.qlt c hc)
    show p (f (q (p (f (q a) (q b)))) (q c)) = p (f (q (p (f (q a) (q c)))) (q (p (f (q b) (q c)))))
    rw [h.qp _ l1, h.qp _ l2, h.qp _ l3, g.r3 _ _ _ (h.qlt a ha) (h.qlt b hb) (h.qlt c hc)]
theorem Em {n : Nat} {p : Nat -> Nat} (hl : ∀ a, a < n -> p a < n) (hi : ∀ a b, a < n -> b < n -> p a = p b -> a = b) : ∃ q, PermN n p q := by
  have ho := Vv n p hl hi
  refine ⟨fun y => if h : y < n then Classical.choose (ho y h) else 0, hl, fun a ha => ?_, fun a ha => ?_, fun a ha => ?_⟩
  · simp only [dif_pos ha]; exact (Classical.choose_spec (ho a ha)).1
  · simp only [dif_pos ha]; exact (Classical.choose_spec (ho a ha)).2
  · simp only [dif_pos (hl a ha)]
    have := Classical.choose_spec (ho (p a) (hl a ha))
    exact hi _ _ this.1 ha this.2
theorem KP {A B n z : Int} (h : A - B = n * z) : A % n = B % n := by
  have : A = B + n * z := by omega
  rw [this, Int.add_mul_emod_self_left]
noncomputable def F7 (k n a b : Int) : Int := (k * a + (1 - k) * b) % n
noncomputable def Cf (k : Int) (n : Nat) (a b : Nat) : Nat := (F7 k n a b).toNat
theorem Yo {k : Int} {n : Nat} (hn : 0 < n) (a b : Nat) : ((Cf k n a b : Nat) : Int) = F7 k n a b := by
  unfold Cf
  have := Int.emod_nonneg (k * a + (1 - k) * b) (show (n : Int) ≠ 0 by omega)
  unfold F7
  omega
theorem Uc {k : Int} {n : Nat} (hn : 0 < n) (hk : ∀ x : Int, (n : Int) ∣ k * x -> (n : Int) ∣ x) : GoodF n (Cf k n) where
  lt a b _ _ := by
    have h := Yo (k := k) hn a b
    have := Int.emod_lt_of_pos (k * a + (1 - k) * b) (show 0 < (n : Int) by omega)
    unfold F7 at h
    omega
  r1 a ha := by
    have h := Yo (k := k) hn a a
    have e : k * (a : Int) + (1 - k) * a = a := by grind
    unfold F7 at h
    rw [e, Int.emod_eq_of_lt (by omega) (by omega)] at h
    omega
  r2 x y b hx hy hb e := by
    have h1 := Yo (k := k) hn x b
    have h2 := Yo (k := k) hn y b
    rw [e, h2] at h1
    unfold F7 at h1
    have := Int.emod_eq_emod_iff_emod_sub_eq_zero.mp h1
    have hd : (n : Int) ∣ k * ((y : Int) - x) := by
      have := Int.dvd_of_emod_eq_zero this
      have e2 : (k * (y : Int) + (1 - k) * b) - (k * x + (1 - k) * b) = k * ((y : Int) - x) := by grind
      rwa [e2] at this
    obtain ⟨z, hz⟩ := hk _ hd
    have hz1 : z < 1 := by
      apply Int.lt_of_mul_lt_mul_left (a := (n : Int)) _ (by omega)
      omega
    have hz2 : -1 < z := by
      apply Int.lt_of_mul_lt_mul_left (a := (n : Int)) _ (by omega)
      omega
    have : z = 0 := by omega
    subst this
    omega
  r3 a b c _ _ _ := by
    have e1 := Yo (k := k) hn a b
    have e2 := Yo (k := k) hn a c
    have e3 := Yo (k := k) hn b c
    have e4 := Yo (k := k) hn (Cf k n a b) c
    have e5 := Yo (k := k) hn (Cf k n a c) (Cf k n b c)
    have hh : F7 k n (Cf k n a b : Nat) c = F7 k n (Cf k n a c : Nat) (Cf k n b c : Nat) := by
      rw [e1, e2, e3]
      unfold F7
      have q1 := Int.emod_add_mul_ediv (k * (a : Int) + (1 - k) * b) n
      have q2 := Int.emod_add_mul_ediv (k * (a : Int) + (1 - k) * c) n
      have q3 := Int.emod_add_mul_ediv (k * (b : Int) + (1 - k) * c) n
      generalize (k * (a : Int) + (1 - k) * b) / n = d1 at q1
      generalize (k * (a : Int) + (1 - k) * c) / n = d2 at q2
      generalize (k * (b : Int) + (1 - k) * c) / n = d3 at q3
      generalize (k * (a : Int) + (1 - k) * b) % n = m1 at *
      generalize (k * (a : Int) + (1 - k) * c) % n = m2 at *
      generalize (k * (b : Int) + (1 - k) * c) % n = m3 at *
      refine KP (z := -k * d1 + k * d2 + (1 - k) * d3) ?_
      grind
    omega
theorem GS {k : Int} {n : Nat} (h : Int.gcd k n = 1) (x : Int) (hd : (n : Int) ∣ k * x) : (n : Int) ∣ x := by
  have h1 := Int.natAbs_dvd_natAbs.mpr hd
  rw [Int.natAbs_mul, Int.natAbs_natCast] at h1
  have h2 : Nat.Coprime n k.natAbs := by
    have : Nat.gcd k.natAbs n = 1 := h
    rw [Nat.gcd_comm] at this
    exact this
  exact Int.natAbs_dvd_natAbs.mp (by rw [Int.natAbs_natCast]; exact h2.dvd_of_dvd_mul_left h1)
theorem Ga {n : Nat} (x : Int) (hd : (n : Int) ∣ (-1) * x) : (n : Int) ∣ x := by
  have : (-1) * x = -x := by omega
  rw [this] at hd
  exact Int.dvd_neg.mp hd
theorem V1 (n : Nat) : GoodF n (fun a _ => a) := ⟨⟨fun _ _ h _ => h, fun _ _ _ _ _ _ e => e⟩, fun _ _ => rfl, fun _ _ _ _ _ _ => rfl⟩
theorem Fo (n : Nat) : GoodF n (fun a b => if 2 < n /\ a < 2 /\ b + 1 = n then 1 - a else a) where
  lt a b ha hb := by split <;> omega
  r1 a ha := by split <;> omega
  r2 x y b hx hy hb e := by split at e <;> split at e <;> omega
  r3 a b c ha hb hc := by repeat' split
                          all_goals omega
theorem GH (n : Nat) : GoodF n (fun a b => if a + 1 < n /\ b + 1 = n then (if a + 2 < n then a + 1 else 0) else a) where
  lt a b ha hb := by repeat' split
                     all_goals omega
  r1 a ha := by repeat' split
                all_goals omega
  r2 x y b hx hy hb e := by repeat' split at e
                            all_goals omega
  r3 a b c ha hb hc := by repeat' split
                          all_goals omega
noncomputable def Vy (h : Nat) (f g : Nat -> Nat -> Nat) (a b : Nat) : Nat := if a < h /\ b < h then f a b else if h <= a /\ h <= b then h + g (a - h) (b - h) else a
theorem DX {h m : Nat} {f g : Nat -> Nat -> Nat} (F : GoodF h f) (G : GoodF m g) : GoodF (h + m) (Vy h f g) := by
  have s1 : ∀ a b, a < h -> b < h -> Vy h f g a b = f a b := fun a b ha hb => by unfold Vy; rw [if_pos ⟨ha, hb⟩]
  have s2 : ∀ a b, Vy h f g (h + a) (h + b) = h + g a b := fun a b => by unfold Vy; rw [if_neg (by omega), if_pos (by omega), Nat.add_sub_cancel_left, Nat.add_sub_cancel_left]
  have s3 : ∀ a b, a < h -> Vy h f g a (h + b) = a := fun a b ha => by unfold Vy; rw [if_neg (by omega), if_neg (by omega)]
  have s4 : ∀ a b, b < h -> Vy h f g (h + a) b = h + a := fun a b ha => by unfold Vy; rw [if_neg (by omega), if_neg (by omega)]
  have up : ∀ a, h <= a -> ∃ a', a = h + a' := fun a ha => ⟨a - h, by omega⟩
  refine ⟨⟨fun a b ha hb => ?_, fun x y b hx hy hb e => ?_⟩, fun a ha => ?_, fun a b c ha hb hc => ?_⟩
  · by_cases h1 : a < h <;> by_cases h2 : b < h
    · rw [s1 a b h1 h2]; have := F.lt a b h1 h2; omega
    · obtain ⟨b, rfl⟩ := up b (by omega); rw [s3 a b h1]; omega
    · obtain ⟨a, rfl⟩ := up a (by omega); rw [s4 a b h2]; omega
    · obtain ⟨a, rfl⟩ := up a (by omega); obtain ⟨b, rfl⟩ := up b (by omega)
      rw [s2]; have := G.lt a b (by omega) (by omega); omega
  · by_cases h1 : x < h <;> by_cases h2 : y < h <;> by_cases h3 : b < h
    · rw [s1 _ _ h1 h3, s1 _ _ h2 h3] at e; exact F.r2 x y b h1 h2 h3 e
    · obtain ⟨b, rfl⟩ := up b (by omega); rw [s3 _ _ h1, s3 _ _ h2] at e; exact e
    · obtain ⟨y, rfl⟩ := up y (by omega); rw [s1 _ _ h1 h3, s4 _ _ h3] at e; have := F.lt x b h1 h3; omega
    · obtain ⟨y, rfl⟩ := up y (by omega); obtain ⟨b, rfl⟩ := up b (by omega); rw [s3 _ _ h1, s2] at e; omega
    · obtain ⟨x, rfl⟩ := up x (by omega); rw [s4 _ _ h3, s1 _ _ h2 h3] at e; have := F.lt y b h2 h3; omega
    · obtain ⟨x, rfl⟩ := up x (by omega); obtain ⟨b, rfl⟩ := up b (by omega); rw [s2, s3 _ _ h2] at e; omega
    · obtain ⟨x, rfl⟩ := up x (by omega); obtain ⟨y, rfl⟩ := up y (by omega); rw [s4 _ _ h3, s4 _ _ h3] at e; exact e
    · obtain ⟨x, rfl⟩ := up x (by omega); obtain ⟨y, rfl⟩ := up y (by omega); obtain ⟨b, rfl⟩ := up b (by omega)
      rw [s2, s2] at e
      rw [G.r2 x y b (by omega) (by omega) (by omega) (by omega)]
  · by_cases h1 : a < h
    · rw [s1 _ _ h1 h1, F.r1 a h1]
    · obtain ⟨a, rfl⟩ := up a (by omega); rw [s2, G.r1 a (by omega)]
  · by_cases h1 : a < h <;> by_cases h2 : b < h <;> by_cases h3 : c < h
    · rw [s1 a b h1 h2, s1 a c h1 h3, s1 b c h2 h3, s1 _ _ (F.lt a b h1 h2) h3, s1 _ _ (F.lt a c h1 h3) (F.lt b c h2 h3)]; exact F.r3 a b c h1 h2 h3
    · obtain ⟨c, rfl⟩ := up c (by omega)
      rw [s1 a b h1 h2, s3 a c h1, s3 b c h2, s3 _ c (F.lt a b h1 h2), s1 a b h1 h2]
    · obtain ⟨b, rfl⟩ := up b (by omega)
      rw [s3 a b h1, s4 b c h3, s1 a c h1 h3, s3 _ b (F.lt a c h1 h3)]
    · obtain ⟨b, rfl⟩ := up b (by omega); obtain ⟨c, rfl⟩ := up c (by omega)
      rw [s3 a b h1, s3 a c h1, s2 b c, s3 _ _ h1]
    · obtain ⟨a, rfl⟩ := up a (by omega)
      rw [s4 a b h2, s4 a c h3, s1 b c h2 h3, s4 _ _ (F.lt b c h2 h3)]
    · obtain ⟨a, rfl⟩ := up a (by omega); obtain ⟨c, rfl⟩ := up c (by omega)
      rw [s4 a b h2, s2 a c, s3 b c h2, s4 _ _ h2]
    · obtain ⟨a, rfl⟩ := up a (by omega); obtain ⟨b, rfl⟩ := up b (by omega)
      rw [s2 a b, s4 _ c h3, s4 a c h3, s4 b c h3, s2 a b]
    · obtain ⟨a, rfl⟩ := up a (by omega); obtain ⟨b, rfl⟩ := up b (by omega); obtain ⟨c, rfl⟩ := up c (by omega)
      rw [s2 a b, s2 a c, s2 b c, s2, s2, G.r3 a b c (by omega) (by omega) (by omega)]
noncomputable def GX (way n k a b : Int) : Int :=
  if way = 1 then (2 * b - a) % n else if way = 2 then (k * a + (1 - k) * b) % n else if way = 3 /\ n > 2 /\ a < 2 /\ b = n - 1 then 1 - a else
  if way = 6 /\ a < n - 1 /\ b = n - 1 then (a + 1) % (n - 1) else if way = 4 /\ a < n / 2 /\ b < n / 2 then (2 * b - a) % (n / 2) else
  if way = 4 /\ a ≥ n / 2 /\ b ≥ n / 2 then n / 2 + (2 * b - a - n / 2) % (n - n / 2) else a
noncomputable def Kc (way k : Int) (n a b : Nat) : Nat := (GX way n k a b).toNat
theorem Us (n : Int) (a b : Int) : (2 * b - a) % n = F7 (-1) n a b := by
  unfold F7
  congr 1
  omega
theorem Fz {way k : Int} {n : Nat} (hn : 0 < n) (hk : Int.gcd k n = 1) : GoodF n (Kc way k n) /\ ∀ a b, a < n -> b < n -> ((Kc way k n a b : Nat) : Int) = GX way n k a b := by
  suffices h : ∃ f, GoodF n f /\ ∀ a b, a < n -> b < n -> ((f a b : Nat) : Int) = GX way n k a b by
    obtain ⟨f, g, e⟩ := h
    have e2 : ∀ a b, a < n -> b < n -> Kc way k n a b = f a b := fun a b ha hb => by unfold Kc; rw [← e a b ha hb]; omega
    exact ⟨g.congr e2, fun a b ha hb => by rw [e2 a b ha hb]; exact e a b ha hb⟩
  unfold GX
  by_cases w1 : way = 1
  · refine ⟨_, Uc (k := -1) hn Ga, fun a b ha hb => ?_⟩
    rw [if_pos w1, Yo hn, Us]
  by_cases w2 : way = 2
  · refine ⟨_, Uc (k := k) hn (GS hk), fun a b ha hb => ?_⟩
    rw [if_neg w1, if_pos w2, Yo hn]; rfl
  by_cases w3 : way = 3
  · refine ⟨_, Fo n, fun a b ha hb => ?_⟩
    rw [if_neg w1, if_neg w2]
    by_cases c : 2 < n /\ a < 2 /\ b + 1 = n
    · rw [if_pos c, if_pos ⟨w3, by omega, by omega, by omega⟩]; omega
    · rw [if_neg c, if_neg (fun z => c ⟨by omega, by omega, by omega⟩), if_neg (fun z => by omega), if_neg (fun z => by omega), if_neg (fun z => by omega)]
  by_cases w6 : way = 6
  · refine ⟨_, GH n, fun a b ha hb => ?_⟩
    have n3 : ¬ (way = 3 /\ (n : Int) > 2 /\ (a : Int) < 2 /\ (b : Int) = n - 1) := fun z => w3 z.1
    by_cases c : a + 1 < n /\ b + 1 = n
    · have y6 : way = 6 /\ (a : Int) < n - 1 /\ (b : Int) = n - 1 := ⟨w6, by omega, by omega⟩
      rw [if_pos c, if_neg w1, if_neg w2, if_neg n3, if_pos y6]
      by_cases c2 : a + 2 < n
      · rw [if_pos c2, Int.emod_eq_of_lt (by omega) (by omega)]; omega
      · rw [if_neg c2]
        have : (a : Int) + 1 = (n : Int) - 1 := by omega
        rw [this, Int.emod_self]; rfl
    · rw [if_neg c, if_neg w1, if_neg w2, if_neg n3, if_neg (fun z => c ⟨by omega, by omega⟩), if_neg (fun z => by omega), if_neg (fun z => by omega)]
  by_cases w4 : way = 4
  · have hh : ∀ m : Nat, 0 < m -> GoodF m (Cf (-1) m) := fun m hm => Uc hm Ga
    by_cases h0 : n / 2 = 0
    · have hn1 : n = 1 := by omega
      subst hn1
      refine ⟨_, V1 1, fun a b ha hb => ?_⟩
      have : a = 0 := by omega
      have : b = 0 := by omega
      subst a b
      rw [if_neg w1, if_neg w2, if_neg (fun z => w3 z.1), if_neg (fun z => w6 z.1), if_neg (fun z => by omega), if_pos ⟨w4, by omega, by omega⟩]
      decide
    · have g := DX (hh (n / 2) (by omega)) (hh (n - n / 2) (by omega))
      rw [show n / 2 + (n - n / 2) = n by omega] at g
      refine ⟨_, g, fun a b ha hb => ?_⟩
      have hc : ((n / 2 : Nat) : Int) = (n : Int) / 2 := by omega
      rw [if_neg w1, if_neg w2, if_neg (fun z => w3 z.1), if_neg (fun z => w6 z.1)]
      unfold Vy
      by_cases c1 : a < n / 2 /\ b < n / 2
      · rw [if_pos c1, if_pos ⟨w4, by omega, by omega⟩, Yo (by omega), ← Us, hc]
      · have m4 : ¬ (way = 4 /\ (a : Int) < (n : Int) / 2 /\ (b : Int) < (n : Int) / 2) := fun z => c1 ⟨by omega, by omega⟩
        rw [if_neg c1, if_neg m4]
        by_cases c2 : n / 2 <= a /\ n / 2 <= b
        · have y4 : way = 4 /\ (a : Int) ≥ (n : Int) / 2 /\ (b : Int) ≥ (n : Int) / 2 := ⟨w4, by omega, by omega⟩
          rw [if_pos c2, if_pos y4]
          have hm : (((n - n / 2 : Nat)) : Int) = (n : Int) - (n : Int) / 2 := by omega
          have := Yo (k := -1) (n := n - n / 2) (by omega) (a - n / 2) (b - n / 2)
          rw [← Us, hm] at this
          rw [show 2 * (b : Int) - a - (n : Int) / 2 = 2 * ((b - n / 2 : Nat) : Int) - ((a - n / 2 : Nat) : Int) by omega, ← this]
          omega
        · rw [if_neg c2, if_neg (fun z => c2 ⟨by omega, by omega⟩)]
  refine ⟨_, V1 n, fun a b ha hb => ?_⟩
  rw [if_neg w1, if_neg w2, if_neg (fun z => w3 z.1), if_neg (fun z => w6 z.1), if_neg (fun z => w4 z.1), if_neg (fun z => w4 z.1)]
noncomputable def JH (a b : Nat) : Nat := (([[0, 3, 1, 2], [2, 1, 3, 0], [3, 0, 2, 1], [1, 2, 0, 3]] : List (List Nat)).getD a []).getD b 0
theorem Dy : GoodF 4 JH := by
  have h1 : ∀ a, a < 4 -> ∀ b, b < 4 -> JH a b < 4 := by decide +kernel
  have h2 : ∀ b, b < 4 -> ∀ x, x < 4 -> ∀ y, y < 4 -> JH x b = JH y b -> x = y := by decide +kernel
  have h3 : ∀ a, a < 4 -> JH a a = a := by decide +kernel
  have h4 : ∀ a, a < 4 -> ∀ b, b < 4 -> ∀ c, c < 4 -> JH (JH a b) c = JH (JH a c) (JH b c) := by decide +kernel
  exact ⟨⟨fun a b ha hb => h1 a ha b hb, fun x y b hx hy hb => h2 b hb x hx y hy⟩, h3, fun a b c ha hb hc => h4 a ha b hb c hc⟩
theorem CW : Y9 4 JH = [[0, 3, 1, 2], [2, 1, 3, 0], [3, 0, 2, 1], [1, 2, 0, 3]] := by decide +kernel
end My
namespace My
open PySem L2
theorem U4 {n : Nat} {f : Nat -> Nat -> Nat} {a : Nat} (h : a < n) : atR (Y9 n f) (a : Int) = .ok (Qz n f a) := YI (J6 h)
theorem Gi {n : Nat} {f : Nat -> Nat -> Nat} {a b : Nat} (h : b < n) : atR (Qz n f a) (b : Int) = .ok (f a b : Int) := YI (Vr h)
theorem Q9 {α : Type} {as : List α} {i : Nat} {a : α} (h : i < as.length) : QV as (i : Int) a = .ok (as.set i a) := by
  unfold QV ixN
  rw [if_pos (by omega), if_pos (by omega)]
  simp
theorem Bq {n : Nat} {f : Nat -> Nat -> Nat} {a b v : Nat} : (Qz n f a).set b (v : Int) = Qz n (fun x y => if x = a /\ y = b then v else f x y) a := by
  apply List.ext_getElem?
  intro j
  by_cases hj : j < n
  · rw [Vr hj]
    by_cases e : j = b
    · subst e; rw [List.getElem?_set_self (by rw [ZI]; exact hj)]; simp
    · rw [List.getElem?_set_ne (fun z => e z.symm), Vr hj]; simp [e]
  · rw [List.getElem?_eq_none (by rw [List.length_set, ZI]; omega), List.getElem?_eq_none (by rw [ZI]; omega)]
theorem Ek {n : Nat} {f : Nat -> Nat -> Nat} {a b v : Nat} (ha : a < n) : (Y9 n f).set a ((Qz n f a).set b (v : Int)) = Y9 n (fun x y => if x = a /\ y = b then v else f x y) := by
  apply List.ext_getElem?
  intro j
  by_cases hj : j < n
  · rw [J6 hj]
    by_cases e : j = a
    · subst e; rw [List.getElem?_set_self (by rw [X5]; exact hj), Bq]
    · rw [List.getElem?_set_ne (fun z => e z.symm), J6 hj]
      congr 1
      exact J9 fun y _ => by simp [e]
  · rw [List.getElem?_eq_none (by rw [List.length_set, X5]; omega), List.getElem?_eq_none (by rw [X5]; omega)]
noncomputable def Kh (n : Nat) (sp : List Int) (p q : Nat -> Nat) : Prop := PermN n p q /\ sp = (List.range n).map fun i => ((p i : Nat) : Int)
theorem Kh.get {n : Nat} {sp : List Int} {p q : Nat -> Nat} (h : Kh n sp p q) {i : Nat} (hi : i < n) : atR sp (i : Int) = .ok ((p i : Nat) : Int) := YI (by rw [h.2, List.getElem?_map, List.getElem?_range hi]; rfl)
theorem DQ {as : List Int} {i : Nat} (h : i < as.length) (hl : as.length <= 100000) : Fc as (i : Int) = .ok (as[i], as.eraseIdx i) := by
  unfold Fc
  rw [Xy (by omega)]
  have e : seqIndex? (i : Int) as.length = some i := by
    unfold seqIndex?
    have h0 : ¬ ((i : Int) < 0) := by omega
    simp [h0, h]
  rw [e]
  simp [h]
theorem CV {n : Nat} {sp : List Int} (h : sp.Perm ((List.range n).map fun (i : Nat) => (i : Int))) : ∃ p q, Kh n sp p q := by
  have hl : sp.length = n := by have := h.length_eq; simpa using this
  have hlt : ∀ i, i < n -> ∃ k : Nat, k < n /\ sp[i]? = some (k : Int) := fun i hi => by
    have hm : sp[i]'(by omega) ∈ (List.range n).map fun (i : Nat) => (i : Int) := h.mem_iff.mp (List.getElem_mem _)
    obtain ⟨k, hk, e⟩ := Vb hm
    exact ⟨k, hk, by rw [List.getElem?_eq_getElem (by omega), e]⟩
  let p : Nat -> Nat := fun i => (sp[i]?.getD 0).toNat
  have hp : ∀ i, i < n -> p i < n /\ sp[i]? = some (p i : Int) := fun i hi => by
    obtain ⟨k, hk, e⟩ := hlt i hi
    have : p i = k := by simp [p, e]
    rw [this]; exact ⟨hk, e⟩
  have nd : sp.Nodup := h.nodup_iff.mpr (by
    rw [List.nodup_iff_pairwise_ne, List.pairwise_map]
    exact List.nodup_range.imp fun {a b} h e => h (by omega))
  obtain ⟨q, hq⟩ := Em (n := n) (p := p) (fun a ha => (hp a ha).1) fun a b ha hb e => by
    have h1 := (hp a ha).2
    have h2 := (hp b hb).2
    rw [← e] at h2
    exact (List.getElem?_inj (by omega) nd).mp (h1.trans h2.symm)
  refine ⟨p, q, hq, ?_⟩
  apply List.ext_getElem?
  intro i
  by_cases hi : i < n
  · rw [(hp i hi).2, List.getElem?_map, List.getElem?_range hi]; rfl
  · rw [List.getElem?_eq_none (by omega), List.getElem?_eq_none (by simp; omega)]
theorem Ja : ∀ {as : List Int} {i : Nat} (h : i < as.length), (as[i] :: as.eraseIdx i).Perm as
  | a :: as, 0, _ => by simp
  | a :: as, i + 1, h => by
    have := Ja (as := as) (i := i) (by simpa using h)
    simp only [List.getElem_cons_succ, List.eraseIdx_cons_succ]
    exact (List.Perm.swap _ _ _).trans (this.cons a)
theorem CM {α : Type} (as : List α) {k : Nat} (h : k <= as.length) : JU as (some (k : Int)) none = as.drop k := by
  unfold JU
  rw [HT.sIx_nat, HT.sIx_none, Nat.min_eq_left h, List.take_of_length_le (by rw [List.length_drop]; omega)]
end My
namespace My
theorem Qj (names : List Int) : (names.flatMap fun x => [x, -x]).length = 2 * names.length := by
  induction names with
  | nil => rfl
  | cons x r ih => rw [List.flatMap_cons, List.length_append, ih]; simp; omega
theorem Jj {α : Type} : ∀ {l : List α} {k : Nat} {y : α}, l[k]? = some y -> (y :: l.eraseIdx k).Perm l
  | [], _, _, e => by simp at e
  | a :: r, 0, y, e => by
    have e' : a = y := by simpa using e
    subst e'; exact List.Perm.refl _
  | a :: r, k + 1, y, e => by
    have e' : r[k]? = some y := by simpa using e
    show (y :: a :: r.eraseIdx k).Perm (a :: r)
    exact (List.Perm.swap a y _).trans (List.Perm.cons a (Jj e'))
theorem UM {α : Type} {l : List α} {k : Nat} {y : α} (e : l[k]? = some y) : (l.eraseIdx k).length + 1 = l.length := by
  have := (Jj e).length_eq
  simpa using this
theorem Gv {α : Type} : ∀ {ws : List (List α)} {j : Nat} {w : List α} {y : α}, ws[j]? = some w -> ((ws.set j (w ++ [y])).flatten).Perm (y :: ws.flatten)
  | [], _, _, _, e => by simp at e
  | a :: r, 0, w, y, e => by
    have e' : a = w := by simpa using e
    subst e'
    show ((a ++ [y]) ++ r.flatten).Perm (y :: (a ++ r.flatten))
    rw [List.append_assoc]
    exact List.perm_middle
  | a :: r, j + 1, w, y, e => by
    have e' : r[j]? = some w := by simpa using e
    show (a ++ (r.set j (w ++ [y])).flatten).Perm (y :: (a ++ r.flatten))
    exact (List.Perm.append_left a (Gv e')).trans List.perm_middle
theorem F6 {α : Type} {ws : List (List α)} {j k : Nat} {w l : List α} {y : α} (e : ws[j]? = some w) (e3 : l[k]? = some y) : ((ws.set j (w ++ [y])).flatten ++ l.eraseIdx k).Perm (ws.flatten ++ l) := by
  refine ((Gv (y := y) e).append_right _).trans ?_
  rw [List.cons_append]
  refine List.perm_middle.symm.trans ?_
  exact List.Perm.append_left _ (Jj e3)
theorem mem_set {α : Type} : ∀ {l : List α} {j : Nat} {v x : α}, x ∈ l.set j v -> x ∈ l ∨ x = v
  | [], _, _, _, h => by simp at h
  | a :: r, 0, v, x, h => by
    rw [List.set_cons_zero] at h
    rcases List.mem_cons.mp h with h | h
    · exact .inr h
    · exact .inl (List.mem_cons_of_mem _ h)
  | a :: r, j + 1, v, x, h => by
    rw [List.set_cons_succ] at h
    rcases List.mem_cons.mp h with h | h
    · exact .inl (by rw [h]; exact List.mem_cons_self)
    · rcases mem_set h with h | h
      · exact .inl (List.mem_cons_of_mem _ h)
      · exact .inr h
theorem UQ : ∀ {l : List Bool} {j : Nat}, l[j]? = some false -> (l.set j true).count false + 1 = l.count false
  | [], _, e => by simp at e
  | a :: r, 0, e => by
    have e' : a = false := by simpa using e
    subst e'; simp
  | a :: r, j + 1, e => by
    have e' : r[j]? = some false := by simpa using e
    have ih := UQ e'
    rw [List.set_cons_succ, List.count_cons, List.count_cons]
    omega
end My
namespace My
noncomputable def KM (r : Int × Int) (at' : Int) : List Int := if at' = r.1 then [r.2] else if at' = r.1 + 1 then [-r.2] else []
noncomputable def VI (r : Int × Int) (at' : Int) : Int := if at' = r.1 then r.1 + 1 else if at' = r.1 + 1 then r.1 else at'
noncomputable def Cy : List (Int × Int) -> Int -> Int
  | [], a => a
  | r :: rs, a => Cy rs (VI r a)
noncomputable def Ks : List (Int × Int) -> Int -> List Int
  | [], _ => []
  | r :: rs, a => KM r a ++ Ks rs (VI r a)
theorem FC (rs : List (Int × Int)) (r : Int × Int) : ∀ a, Cy (rs ++ [r]) a = VI r (Cy rs a) := by
  induction rs with
  | nil => intro a; rfl
  | cons q rs ih => intro a; exact ih _
theorem FG (rs : List (Int × Int)) (r : Int × Int) : ∀ a, Ks (rs ++ [r]) a = Ks rs a ++ KM r (Cy rs a) := by
  induction rs with
  | nil => intro a; simp [Ks, Cy]
  | cons q rs ih => intro a; simp [Ks, Cy, ih]
theorem Kv {S : Int} {r : Int × Int} {a : Int} (h0 : 0 <= r.1) (h1 : r.1 + 1 < S) (a0 : 0 <= a) (a1 : a < S) : 0 <= VI r a /\ VI r a < S := by
  unfold VI
  split
  · omega
  · split <;> omega
noncomputable def G9 (S : Nat) : List Int := (List.range S).map fun (k : Nat) => (k : Int)
theorem Qq {S : Nat} {x : Int} : x ∈ G9 S ↔ 0 <= x /\ x < (S : Int) := by
  unfold G9
  rw [List.mem_map]
  constructor
  · rintro ⟨k, hk, rfl⟩
    have := List.mem_range.mp hk
    omega
  · rintro ⟨h0, h1⟩
    exact ⟨x.toNat, List.mem_range.mpr (by omega), by omega⟩
theorem Z1 {α β : Type} {f : α -> β} : ∀ {l : List α}, (∀ a b, a ∈ l -> b ∈ l -> f a = f b -> a = b) -> l.Nodup -> (l.map f).Nodup
  | [], _, _ => List.nodup_nil
  | a :: r, h, nd => by
    rw [List.map_cons, List.nodup_cons]
    refine ⟨fun m => ?_, Z1 (fun x y hx hy => h x y (List.mem_cons_of_mem _ hx) (List.mem_cons_of_mem _ hy)) (List.nodup_cons.mp nd).2⟩
    obtain ⟨b, hb, e⟩ := List.mem_map.mp m
    have := h b a (List.mem_cons_of_mem _ hb) List.mem_cons_self e
    exact (List.nodup_cons.mp nd).1 (by rw [← this]; exact hb)
theorem Qu (S : Nat) : (G9 S).Nodup := Z1 (fun a b _ _ e => by omega) List.nodup_range
theorem Jd {α : Type} [DecidableEq α] : ∀ {l m : List α}, l.Nodup -> m.Nodup -> (∀ x, x ∈ l ↔ x ∈ m) -> l.Perm m
  | [], m, _, _, h => by
    cases m with
    | nil => exact List.Perm.refl _
    | cons a r => exact absurd ((h a).mpr List.mem_cons_self) (by simp)
  | a :: r, m, nl, nm, h => by
    have ha : a ∈ m := (h a).mp List.mem_cons_self
    have hp : m.Perm (a :: m.erase a) := List.perm_cons_erase ha
    refine List.Perm.trans (List.Perm.cons a ?_) hp.symm
    have nd2 : (a :: m.erase a).Nodup := hp.nodup_iff.mp nm
    refine Jd (List.nodup_cons.mp nl).2 (List.nodup_cons.mp nd2).2 fun x => ?_
    constructor
    · intro hx
      have hxa : x ≠ a := fun e => (List.nodup_cons.mp nl).1 (by rw [← e]; exact hx)
      have : x ∈ a :: m.erase a := hp.mem_iff.mp ((h x).mp (List.mem_cons_of_mem _ hx))
      exact (List.mem_cons.mp this).resolve_left hxa
    · intro hx
      have hxa : x ≠ a := fun e => (List.nodup_cons.mp nd2).1 (e ▸ hx)
      have : x ∈ a :: r := (h x).mpr (hp.mem_iff.mpr (List.mem_cons_of_mem _ hx))
      exact (List.mem_cons.mp this).resolve_left hxa
theorem Fs {S : Nat} {r : Int × Int} (h0 : 0 <= r.1) (h1 : r.1 + 1 < (S : Int)) : ((G9 S).map (VI r)).Perm (G9 S) := by
  refine Jd (Z1 (fun a b _ _ e => ?_) (Qu S)) (Qu S) fun x => ?_
  · unfold VI at e
    split at e <;> split at e <;> (try split at e) <;> (try split at e) <;> omega
  · rw [List.mem_map, Qq]
    constructor
    · rintro ⟨a, ha, rfl⟩
      have := Qq.mp ha
      exact Kv h0 h1 this.1 this.2
    · rintro ⟨x0, x1⟩
      refine ⟨VI r x, Qq.mpr (Kv h0 h1 x0 x1), ?_⟩
      unfold VI
      split <;> (try split) <;> (try split) <;> omega
theorem ZN {α β : Type} (f : α -> List β) {l m : List α} (h : l.Perm m) : (l.flatMap f).Perm (m.flatMap f) := by
  induction h with
  | nil => exact List.Perm.refl _
  | cons x _ ih => rw [List.flatMap_cons, List.flatMap_cons]; exact List.Perm.append_left _ ih
  | swap x y l =>
    rw [List.flatMap_cons, List.flatMap_cons, List.flatMap_cons, List.flatMap_cons, ← List.append_assoc, ← List.append_assoc]
    exact List.Perm.append_right _ List.perm_append_comm
  | trans _ _ ih1 ih2 => exact ih1.trans ih2
theorem Vf {α β : Type} (f g : α -> List β) : ∀ l : List α, (l.flatMap fun x => f x ++ g x).Perm (l.flatMap f ++ l.flatMap g)
  | [] => List.Perm.refl _
  | a :: r => by
    rw [List.flatMap_cons, List.flatMap_cons, List.flatMap_cons]
    refine (List.Perm.append_left _ (Vf f g r)).trans ?_
    rw [List.append_assoc, List.append_assoc]
    refine List.Perm.append_left _ ?_
    rw [← List.append_assoc, ← List.append_assoc]
    exact List.Perm.append_right _ List.perm_append_comm
theorem QD {α β : Type} (f : α -> List β) : ∀ {l : List α}, (∀ x ∈ l, f x = []) -> l.flatMap f = []
  | [], _ => rfl
  | a :: r, h => by rw [List.flatMap_cons, h a List.mem_cons_self, QD f fun x hx => h x (List.mem_cons_of_mem _ hx)]; rfl
theorem CS {S : Nat} {r : Int × Int} (h0 : 0 <= r.1) (h1 : r.1 + 1 < (S : Int)) : ((G9 S).flatMap (KM r)).Perm [r.2, -r.2] := by
  have ha : r.1 ∈ G9 S := Qq.mpr ⟨h0, by omega⟩
  have hp := List.perm_cons_erase ha
  have nd := hp.nodup_iff.mp (Qu S)
  have hb : r.1 + 1 ∈ (G9 S).erase r.1 := by
    have : r.1 + 1 ∈ r.1 :: (G9 S).erase r.1 := hp.mem_iff.mp (Qq.mpr ⟨by omega, h1⟩)
    exact (List.mem_cons.mp this).resolve_left (by omega)
  have hq := List.perm_cons_erase hb
  have nd2 := hq.nodup_iff.mp (List.nodup_cons.mp nd).2
  refine (ZN _ (hp.trans (List.Perm.cons _ hq))).trans ?_
  rw [List.flatMap_cons, List.flatMap_cons, QD]
  · unfold KM
    rw [if_pos rfl, if_neg (by omega), if_pos rfl]
    exact List.Perm.refl _
  · intro x hx
    have x2 : x ≠ r.1 + 1 := fun e => (List.nodup_cons.mp nd2).1 (e ▸ hx)
    have x1 : x ≠ r.1 := fun e => (List.nodup_cons.mp nd).1 (e ▸ hq.mem_iff.mpr (List.mem_cons_of_mem _ hx))
    unfold KM
    rw [if_neg x1, if_neg x2]
theorem QJ {α β γ : Type} (f : α -> β) (g : β -> List γ) (l : List α) : (l.map f).flatMap g = l.flatMap fun x => g (f x) := by
  induction l with
  | nil => rfl
  | cons a r ih => rw [List.map_cons, List.flatMap_cons, List.flatMap_cons, ih]
theorem Gy {S : Nat} : ∀ {rs : List (Int × Int)}, (∀ r ∈ rs, 0 <= r.1 /\ r.1 + 1 < (S : Int)) -> ((G9 S).flatMap (Ks rs)).Perm (rs.flatMap fun r => [r.2, -r.2])
  | [], _ => by rw [QD (Ks []) (fun x _ => rfl)]; exact List.Perm.refl _
  | r :: rs, h => by
    obtain ⟨h0, h1⟩ := h r List.mem_cons_self
    rw [List.flatMap_cons]
    refine (Vf (KM r) (fun a => Ks rs (VI r a)) (G9 S)).trans ?_
    refine List.Perm.append (CS h0 h1) ?_
    rw [← QJ (VI r) (Ks rs)]
    exact (ZN _ (Fs h0 h1)).trans (Gy fun q hq => h q (List.mem_cons_of_mem _ hq))
theorem Ep {x s : Int} (h : s = 1 ∨ s = -1) : [x * s, -(x * s)].Perm [x, -x] := by
  rcases h with h | h
  · subst h; simp
  · subst h
    have e1 : x * -1 = -x := by omega
    have e2 : -(-x) = x := by omega
    rw [e1, e2]
    exact List.Perm.swap _ _ _
theorem Q0 {α β : Type} {f g : α -> List β} : ∀ {l : List α}, (∀ x ∈ l, (f x).Perm (g x)) -> (l.flatMap f).Perm (l.flatMap g)
  | [], _ => List.Perm.refl _
  | a :: r, h => by
    rw [List.flatMap_cons, List.flatMap_cons]
    exact List.Perm.append (h a List.mem_cons_self) (Q0 fun x hx => h x (List.mem_cons_of_mem _ hx))
end My
namespace My
theorem B4 {r : Int × Int} {a : Int} (h : a = r.1) : KM r a = [r.2] := by unfold KM; rw [if_pos h]
theorem BZ {r : Int × Int} {a : Int} (h : a = r.1 + 1) : KM r a = [-r.2] := by unfold KM; rw [if_neg (by omega), if_pos h]
theorem B7 {r : Int × Int} {a : Int} (h : ¬ a = r.1) (h2 : ¬ a = r.1 + 1) : KM r a = [] := by unfold KM; rw [if_neg h, if_neg h2]
theorem BH {r : Int × Int} {a : Int} (h : a = r.1) : VI r a = r.1 + 1 := by unfold VI; rw [if_pos h]
theorem B2 {r : Int × Int} {a : Int} (h : a = r.1 + 1) : VI r a = r.1 := by unfold VI; rw [if_neg (by omega), if_pos h]
theorem BY {r : Int × Int} {a : Int} (h : ¬ a = r.1) (h2 : ¬ a = r.1 + 1) : VI r a = a := by unfold VI; rw [if_neg h, if_neg h2]
structure Done (S : Int) (seen : List Bool) (ps : List Int) : Prop where
  nd : ps.Nodup
  at' : ∀ p ∈ ps, 0 <= p /\ p < S /\ seen[p.toNat]? = some true
  of : ∀ q : Nat, seen[q]? = some true -> (q : Int) ∈ ps
theorem Done.none (S : Int) (n : Nat) : Done S (List.replicate n false) [] :=
  ⟨List.nodup_nil, fun p h => by simp at h, fun q h => by
    rw [List.getElem?_replicate] at h
    split at h <;> cases h⟩
theorem Ur {l : List Bool} {j q : Nat} (h : l[q]? = some true) : (l.set j true)[q]? = some true := by
  by_cases e : j = q
  · subst e
    rw [List.getElem?_set_self (List.getElem?_eq_some_iff.mp h).1]
  · rw [List.getElem?_set_ne e]; exact h
theorem Done.snoc {S : Int} {seen : List Bool} {ps : List Int} {a : Int} (h : Done S seen ps) (a0 : 0 <= a) (a1 : a < S) (e : seen[a.toNat]? = some false) : Done S (seen.set a.toNat true) (ps ++ [a]) := by
  have hl : a.toNat < seen.length := (List.getElem?_eq_some_iff.mp e).1
  have hn : a ∉ ps := fun m => by
    have := (h.at' a m).2.2
    rw [e] at this; cases this
  refine ⟨?_, fun p hp => ?_, fun q hq => ?_⟩
  · rw [List.nodup_append]
    refine ⟨h.nd, by simp, fun x hx y hy => ?_⟩
    rw [List.mem_singleton.mp hy]
    exact fun e => hn (e ▸ hx)
  · rcases List.mem_append.mp hp with hp | hp
    · obtain ⟨h1, h2, h3⟩ := h.at' p hp
      exact ⟨h1, h2, Ur h3⟩
    · rw [List.mem_singleton.mp hp]
      exact ⟨a0, a1, by rw [List.getElem?_set_self hl]⟩
  · by_cases hqa : a.toNat = q
    · exact List.mem_append_right _ (List.mem_singleton.mpr (by omega))
    · rw [List.getElem?_set_ne hqa] at hq
      exact List.mem_append_left _ (h.of q hq)
theorem Done.all {S : Int} {seen : List Bool} {ps : List Int} (h : Done S seen ps) (hl : seen.length = S.toNat) (h0 : 0 <= S) (ha : ∀ q : Nat, q < S.toNat -> seen[q]? = some true) : ps.Perm (G9 S.toNat) := by
  refine Jd h.nd (Qu _) fun x => ?_
  rw [Qq]
  constructor
  · intro hx
    obtain ⟨h1, h2, _⟩ := h.at' x hx
    omega
  · rintro ⟨x0, x1⟩
    have := h.of x.toNat (ha x.toNat (by omega))
    rw [show ((x.toNat : Nat) : Int) = x by omega] at this
    exact this
theorem Gk {seen : List Bool} {i : Nat} (h : ∀ q : Nat, q < i -> seen[q]? = some true) (hi : seen[i]? = some true) : ∀ q : Nat, q < i + 1 -> seen[q]? = some true := fun q hq => by
  by_cases e : q = i
  · subst e; exact hi
  · exact h q (by omega)
end My
namespace My
open PySem L2
theorem Fm (ns : List Int) {p : Int} (hp : 0 <= p) : ∃ c, Vs ns p = .ok c := by
  unfold Vs
  simp only [Res.okb]
  by_cases h : p < (ns.length : Int)
  · rw [decide_eq_true h, if_pos rfl]
    have hl : p.toNat < ns.length := by omega
    exact ⟨ns[p.toNat], Hh hp (by simp [hl])⟩
  · rw [decide_eq_false h, if_neg Bool.false_ne_true]
    obtain ⟨g, e, _⟩ := Gz (as := JU ns none (some 63)) (g := (5 : Int)) (f := fun g15 a17 => (Res.bind (Res.bind (Res.bind (Res.bind (QQ g15 48271) fun x25 => (Res.bind (ZS a17 1000003) fun x26 => (Res.ok (x25 + x26)))) fun x27 => Res.ok (x27 + 1)) fun x29 => ZS x29 2147483647) fun a19 => (Res.ok (a19)))) (fun _ _ => True) True.intro fun i a g _ _ => by
      rw [Qk (by decide) (by decide), Res.ok_bind, X6 (by decide), Res.ok_bind, Res.ok_bind, Res.ok_bind, X6 (by decide), Res.ok_bind]
      exact ⟨_, rfl, True.intro⟩
    rw [e, Res.ok_bind, Zk (by decide) (by decide), Res.ok_bind, Res.ok_bind, X6 (by decide)]
    exact ⟨_, rfl⟩
theorem Bf (c : Int) {k : Int} (h0 : 0 <= k) (h1 : k <= 100000) : ∃ y, KK c k = .ok y /\ 0 <= y := by
  unfold KK
  simp only [Res.okb]
  have hm : 0 <= c % 2147483629 /\ c % 2147483629 < 2147483629 := ⟨Int.emod_nonneg _ (by decide), Int.emod_lt_of_pos _ (by decide)⟩
  rw [X6 (by decide), Res.ok_bind, Zk (by decide) (by decide), Res.ok_bind, Res.ok_bind, Res.ok_bind, Gn (by decide) (by decide) (by omega) (by omega), Res.ok_bind, X6 (by decide), Res.ok_bind]
  rw [Qk (by decide) (by decide), Res.ok_bind, Zk (by decide) (by decide), Res.ok_bind, Qk (by omega) (by omega), Res.ok_bind, Res.ok_bind, Res.ok_bind, X6 (by decide), Res.ok_bind, UF (by decide) (by decide)]
  exact ⟨_, rfl, Int.ediv_nonneg (Int.emod_nonneg _ (by decide)) (by decide)⟩
theorem K9 (ns : List Int) {p : Int} (hp : 0 <= p) (sizes : List Int) (hl : sizes.length <= 100000) (hs : ∀ x ∈ sizes, 0 < x /\ x < 2 ^ 250) :
    Ok (Vu ns p sizes) fun r => r.length = sizes.length /\ ∀ (i : Nat) x s, r[i]? = some x -> sizes[i]? = some s -> 0 <= x /\ x < s := by
  obtain ⟨c, ec⟩ := Fm ns hp
  unfold Vu
  simp only [Res.okb]
  rw [ec, show noE (Res.ok c) = .ok c from rfl, Res.ok_bind, Zn (by omega), Res.ok_bind, Gn (by decide) (by decide) (by decide) (by decide)]
  simp only [Res.okb]
  have key : ∀ (i : Nat) (a : Int) (g : List Int × Int), ((List.range sizes.length).map fun (i : Nat) => (i : Int))[i]? = some a -> (g.1.length = i /\ ∀ (j : Nat) x s, g.1[j]? = some x -> sizes[j]? = some s -> 0 <= x /\ x < s) -> ∀ y z : Int, ∀ s, sizes[i]? = some s -> 0 <= y /\ y < s -> ((g.1 ++ [y], z).1.length = i + 1 /\ ∀ (j : Nat) x s, (g.1 ++ [y], z).1[j]? = some x -> sizes[j]? = some s -> 0 <= x /\ x < s) := by
    intro i a g ha ⟨hg, hq⟩ y z s hs1 hy
    refine ⟨by simp [hg], fun j x s' hx hs' => ?_⟩
    have hx : (g.1 ++ [y])[j]? = some x := hx
    rcases Nat.lt_trichotomy j i with hj | hj | hj
    · rw [List.getElem?_append_left (by omega)] at hx; exact hq j x s' hx hs'
    · subst hj
      rw [List.getElem?_append_right (by omega), hg, Nat.sub_self] at hx
      have : y = x := by simpa using hx
      rw [hs1] at hs'
      cases hs'
      rw [← this]; exact hy
    · rw [List.getElem?_eq_none (by simp; omega)] at hx; cases hx
  refine Ok.bind (Ok.forN (fun i (g : List Int × Int) => g.1.length = i /\ ∀ (j : Nat) x s, g.1[j]? = some x -> sizes[j]? = some s -> 0 <= x /\ x < s) ⟨rfl, fun j x s h _ => by simp at h⟩ fun i a g ha hg => ?_) (T := fun (r : List Int) => r.length = sizes.length /\ ∀ (i : Nat) x s, r[i]? = some x -> sizes[i]? = some s -> 0 <= x /\ x < s) fun g ⟨hg, hq⟩ => ?_
  · obtain ⟨rfl, hi⟩ := Yj ha
    have hsz : sizes[i]? = some sizes[i] := by simp [hi]
    have hsp := hs _ (List.getElem_mem hi)
    have hgl : g.1.length < sizeLine := Ff (by have := hg.1; omega)
    by_cases hc : c < 10 ^ (18 : Int).toNat
    · rw [decide_eq_true hc, if_pos rfl]
      obtain ⟨y, ey, hy⟩ := Bf c (k := (i : Int)) (by omega) (by omega)
      rw [ey, show noE (Res.ok y) = .ok y from rfl, Res.ok_bind, YI hsz, Res.ok_bind, X6 hsp.1, Res.ok_bind, Xy hgl]
      exact ⟨_, rfl, key i _ g ha hg _ _ _ hsz ⟨Int.emod_nonneg _ (by omega), Int.emod_lt_of_pos _ hsp.1⟩⟩
    · rw [decide_eq_false hc, if_neg Bool.false_ne_true]
      by_cases hq : 0 < g.2
      · rw [decide_eq_true hq, if_pos rfl, YI hsz, Res.ok_bind, X6 hsp.1, Res.ok_bind, Xy hgl]
        simp only [Res.okb]
        rw [UF hsp.1 hsp.2]
        exact ⟨_, rfl, key i _ g ha hg _ _ _ hsz ⟨Int.emod_nonneg _ (by omega), Int.emod_lt_of_pos _ hsp.1⟩⟩
      · rw [decide_eq_false hq, if_neg Bool.false_ne_true, X6 (by decide), Res.ok_bind]
        obtain ⟨c2, ec2⟩ := Fm ns (p := (p + 1 + (i : Int)) % 63) (Int.emod_nonneg _ (by decide))
        obtain ⟨y, ey, hy⟩ := Bf c2 (k := (i : Int)) (by omega) (by omega)
        rw [ec2, show noE (Res.ok c2) = .ok c2 from rfl, Res.ok_bind, ey, show noE (Res.ok y) = .ok y from rfl, Res.ok_bind, YI hsz, Res.ok_bind, X6 hsp.1, Res.ok_bind, Xy hgl]
        exact ⟨_, rfl, key i _ g ha hg _ _ _ hsz ⟨Int.emod_nonneg _ (by omega), Int.emod_lt_of_pos _ hsp.1⟩⟩
  · rw [Yk] at hg
    exact ⟨g.1, rfl, hg, hq⟩
end My
namespace My
open PySem L2
theorem Yb {α : Type} {r : List α} {k : Int} {n : Nat} (e : k = (n : Int)) (h : n < r.length) : atR r k = .ok r[n] := by
  subst e; exact YI (by simp [h])
theorem JT {γ : Type} {c : γ -> Res Bool} {f : γ -> Res γ} (P : γ -> Prop) (μ : γ -> Nat) (hs : ∀ g, P g -> ∃ b, c g = .ok b /\ (b = true -> Ok (f g) fun g' => P g' /\ μ g' < μ g)) : ∀ (n : Nat) (g : γ), P g -> μ g < n -> Ok (QN n g c f) fun g' => P g' /\ c g' = .ok false
  | 0, _, _, h => by omega
  | n + 1, g, hp, hm => by
    obtain ⟨b, hb, h⟩ := hs g hp
    show Ok ((c g).bind _) _
    rw [hb, Res.okb]
    cases b with
    | false => rw [if_neg Bool.false_ne_true]; exact ⟨g, rfl, hp, hb⟩
    | true =>
      rw [if_pos rfl]
      exact Ok.bind (h rfl) fun g' h' => JT P μ hs n g' h'.1 (by omega)
theorem Cn {ns r : List Int} (hl : ns.length <= 100) (hr : 8 * ns.length + 3 <= r.length) : Ok (Jh ns r) fun l => l.Perm ns := by
  unfold Jh
  simp only [Res.okb]
  rw [Zn (by omega)]
  simp only [Res.okb]
  refine Ok.bind (Ok.forN (fun i (g : List Int × List Int) => g.1.length = i /\ (g.1 ++ g.2).Perm ns) ⟨rfl, List.Perm.refl _⟩ fun i a g ha hg => ?_) fun g hg => ?_
  · obtain ⟨rfl, hi⟩ := Yj ha
    obtain ⟨h1, h2⟩ := hg
    have hl := h2.length_eq
    simp only [List.length_append] at hl
    rw [Zk (by decide) (by decide)]
    simp only [Res.okb]
    rw [Yb (r := r) (n := 8 * i + 9) (by omega) (by omega)]
    simp only [Res.okb]
    have hpos : (0 : Int) < (g.2.length : Int) := by omega
    generalize r[8 * i + 9] = y
    have hm1 := Int.emod_nonneg y (show (g.2.length : Int) ≠ 0 by omega)
    have hm2 := Int.emod_lt_of_pos y hpos
    rw [X6 hpos, Res.okb]
    generalize hk : y % (g.2.length : Int) = k at hm1 hm2
    obtain ⟨j, rfl⟩ : ∃ j : Nat, k = j := ⟨k.toNat, by omega⟩
    have hj : j < g.2.length := by omega
    rw [DQ hj (by omega), Res.okb, Xy (Ff (by omega))]
    refine ⟨_, rfl, by simp [h1], ?_⟩
    refine List.Perm.trans ?_ h2
    show ((g.1 ++ [g.2[j]]) ++ g.2.eraseIdx j).Perm (g.1 ++ g.2)
    rw [List.append_assoc]
    exact (Ja hj).append_left _
  · obtain ⟨h1, h2⟩ := hg
    rw [Yk] at h1
    have hl := h2.length_eq
    simp only [List.length_append] at hl
    have : g.2 = [] := List.length_eq_zero_iff.mp (by omega)
    rw [this, List.append_nil] at h2
    exact ⟨_, rfl, h2⟩
theorem Hv {ns r : List Int} {rings : Nat} (hl : ns.length <= 100) (hr : 8 * ns.length + 3 <= r.length) (hg : ns ≠ [] -> 1 <= rings) (hg2 : rings <= 100) : Ok (G0 ns r (rings : Int)) fun ws => ws.length = rings /\ ws.flatten.Perm (ns.flatMap fun x => [x, -x]) := by
  unfold G0
  simp only [Res.okb]
  refine Ok.bind (Ok.forN (fun i (g : List Int) => g = (ns.take i).flatMap fun x => [x, -x]) rfl fun i a g ha hg => ?_) fun g hgg => ?_
  · have hi := (List.getElem?_eq_some_iff.mp ha).1
    subst hg
    rw [Xy (show [a, -a].length <= sizeLine from sz (by simp)), Res.okb, Xy (sz (by rw [Qj]; simp; omega))]
    refine ⟨_, rfl, ?_⟩
    rw [List.take_add_one, ha]
    simp
  rw [List.take_length] at hgg
  subst hgg
  rw [Zn (by omega)]
  simp only [Res.okb]
  rw [Zw (h := fun _ => ([] : List Int)) (sz (by simp; omega)) fun _ _ => rfl]
  simp only [Res.okb]
  rw [Zk (by decide) (by decide), Res.okb, show (2 : Int) * (ns.length : Int) = ((2 * ns.length : Nat) : Int) by omega, Zn (by omega)]
  simp only [Res.okb]
  refine Ok.bind (Ok.forN (fun i (g : List Int × List (List Int)) => g.2.length = rings /\ g.1.length + i = 2 * ns.length /\ (∀ w ∈ g.2, w.length <= i) /\ (g.2.flatten ++ g.1).Perm (ns.flatMap fun x => [x, -x])) ⟨by simp, by rw [Qj]; rfl, fun w hw => ?_, ?_⟩ fun i a g ha hg => ?_) fun g hg => ?_
  · obtain ⟨_, _, rfl⟩ := List.mem_map.mp hw
    exact Nat.zero_le _
  · have : ∀ l : List Int, (l.map fun _ => ([] : List Int)).flatten = [] := fun l => by simp
    rw [this]; exact List.Perm.refl _
  · obtain ⟨rfl, hi⟩ := Yj ha
    obtain ⟨h1, h2, h3, h4⟩ := hg
    have hne : 1 <= rings := by
      refine ‹ns ≠ [] -> 1 <= rings› fun e => ?_
      rw [e] at hi; simp at hi
    rw [Zk (by decide) (by decide)]
    simp only [Res.okb]
    rw [Yb (r := r) (n := 4 * i + 5) (by omega) (by omega)]
    simp only [Res.okb]
    have hpos : (0 : Int) < (g.1.length : Int) := by omega
    generalize r[4 * i + 5] = y
    have hm1 := Int.emod_nonneg y (show (g.1.length : Int) ≠ 0 by omega)
    have hm2 := Int.emod_lt_of_pos y hpos
    rw [X6 hpos, Res.okb]
    generalize hk : y % (g.1.length : Int) = k at hm1 hm2
    obtain ⟨j, rfl⟩ : ∃ j : Nat, k = j := ⟨k.toNat, by omega⟩
    have hj : j < g.1.length := by omega
    rw [DQ hj (by omega), Res.okb]
    simp only [Res.okb]
    rw [Yb (r := r) (n := 4 * i + 6) (by omega) (by omega)]
    simp only [Res.okb]
    generalize r[4 * i + 6] = y2
    have hp2 : (0 : Int) < (rings : Int) := by omega
    have hn1 := Int.emod_nonneg y2 (show (rings : Int) ≠ 0 by omega)
    have hn2 := Int.emod_lt_of_pos y2 hp2
    rw [X6 hp2, Res.okb]
    generalize hk2 : y2 % (rings : Int) = k2 at hn1 hn2
    obtain ⟨q, rfl⟩ : ∃ q : Nat, k2 = q := ⟨k2.toNat, by omega⟩
    have hq : q < g.2.length := by omega
    have hw := h3 g.2[q] (List.getElem_mem hq)
    rw [Yb (n := q) rfl hq, Res.okb, Xy (Ff (by omega)), Q9 hq, Res.okb]
    have hjs : g.1[j]? = some g.1[j] := by simp [hj]
    have hqs : g.2[q]? = some g.2[q] := by simp [hq]
    refine ⟨_, rfl, by simp [h1], ?_, fun w hw' => ?_, (F6 hqs hjs).trans h4⟩
    · have := UM hjs
      show (g.1.eraseIdx j).length + (i + 1) = _
      omega
    · rcases mem_set hw' with h | h
      · have := h3 w h; omega
      · rw [h]; simp; omega
  · obtain ⟨h1, h2, h3, h4⟩ := hg
    rw [Yk] at h2
    have : g.1 = [] := List.length_eq_zero_iff.mp (by omega)
    rw [this, List.append_nil] at h4
    exact ⟨_, rfl, h1, h4⟩
noncomputable def J2 (ns r : List Int) (sg : Int -> Int) (S : Int) : List (Int × Int) := (List.range ns.length).map fun k => (r.getD (8 * k + 10) 0 % (S - 1), ns.getD k 0 * sg (ns.getD k 0))
theorem GK {ns r : List Int} {sg : Int -> Int} {S : Int} {k : Nat} (h : k < ns.length) (h2 : 8 * k + 10 < r.length) : (J2 ns r sg S)[k]? = some (r[8 * k + 10] % (S - 1), ns[k] * sg ns[k]) := by
  unfold J2
  rw [List.getElem?_map, List.getElem?_range h]
  simp [h, h2]
theorem GW {ns r : List Int} {d : List (Int × Int)} {sg : Int -> Int} {S : Nat} (hl : ns.length <= 100) (hr : 8 * ns.length + 3 <= r.length) (hd : ∀ x ∈ ns, Zu d x = some (sg x)) (hs : ∀ x ∈ ns, sg x = 1 ∨ sg x = -1) (h2 : 2 <= S) (h4 : S <= 100) : Ok (ZU ns d r (S : Int)) fun ws => ws.length <= S /\ ws.flatten.Perm (ns.flatMap fun x => [x, -x]) := by
  have hrs : ∀ q ∈ J2 ns r sg (S : Int), 0 <= q.1 /\ q.1 + 1 < (S : Int) := fun q hq => by
    obtain ⟨k, _, rfl⟩ := List.mem_map.mp hq
    have hp : (0 : Int) < (S : Int) - 1 := by omega
    have hm1 := Int.emod_nonneg (r.getD (8 * k + 10) 0) (show ((S : Int) - 1) ≠ 0 by omega)
    have hm2 := Int.emod_lt_of_pos (r.getD (8 * k + 10) 0) hp
    show 0 <= _ % _ /\ _ % _ + 1 < _
    omega
  have hrl : (J2 ns r sg (S : Int)).length = ns.length := by simp [J2]
  have hin : ∀ (rs : List (Int × Int)), (∀ q ∈ rs, 0 <= q.1 /\ q.1 + 1 < (S : Int)) -> ∀ a : Int, 0 <= a -> a < (S : Int) -> 0 <= Cy rs a /\ Cy rs a < (S : Int) := by
    intro rs
    induction rs with
    | nil => intro _ a h0 h1; exact ⟨h0, h1⟩
    | cons q rs ih =>
      intro hq a h0 h1
      have h := Kv (hq q (by simp)).1 (hq q (by simp)).2 h0 h1
      exact ih (fun x hx => hq x (by simp [hx])) _ h.1 h.2
  have hcl : ∀ (rs : List (Int × Int)) (a : Int), (Ks rs a).length <= rs.length := by
    intro rs
    induction rs with
    | nil => intro a; exact Nat.le_refl _
    | cons q rs ih =>
      intro a
      show (KM q a ++ Ks rs (VI q a)).length <= _
      have h1 : (KM q a).length <= 1 := by
        unfold KM
        split
        · simp
        · split <;> simp
      have := ih (VI q a)
      simp only [List.length_append, List.length_cons]
      omega
  unfold ZU
  simp only [Res.okb]
  rw [Xy (show [false].length <= sizeLine from sz (by simp)), Res.okb, show VL [false] (S : Int) = .ok (List.replicate S false) from ?_]
  rotate_left
  · unfold VL
    rw [Xy ⟨by omega, by omega, sz (by simp; omega)⟩, Int.toNat_natCast]
    congr 1
    clear h2 h4 hrs hin hrl
    induction S with
    | zero => rfl
    | succ n ih => rw [List.replicate_succ, List.flatten_cons, ih, List.replicate_succ]; rfl
  rw [Res.okb, Zn (by omega), Res.okb]
  generalize hR : J2 ns r sg (S : Int) = rs at hrs hrl
  refine Ok.bind (Ok.forN (fun i (g : List Bool × List (List Int)) => g.1.length = S /\ g.2.length <= i /\ (∀ q : Nat, q < i -> g.1[q]? = some true) /\ ∃ ps, Done (S : Int) g.1 ps /\ g.2.flatten = ps.flatMap (Ks rs)) ⟨by simp, Nat.le_refl _, fun q hq => by omega, [], Done.none _ _, rfl⟩ fun i a g ha hg => ?_) fun g hg => ?_
  · obtain ⟨rfl, hi⟩ := Yj ha
    obtain ⟨g1, g2, g3, ps, g4, g5⟩ := hg
    have hi1 : i < g.1.length := by omega
    rw [Yb (n := i) rfl hi1]
    simp only [Res.okb]
    cases hb : g.1[i] with
    | true =>
      rw [show (!true) = false from rfl, if_neg Bool.false_ne_true]
      simp only [Res.okb]
      exact ⟨_, rfl, g1, by show g.2.length <= _; omega, Gk g3 (by simp [hi1, hb]), ps, g4, g5⟩
    | false =>
      rw [show (!false) = true from rfl, if_pos rfl]
      refine Ok.bind (R := fun g' : List Bool × List (List Int) => g'.1.length = S /\ g'.2.length <= i + 1 /\ (∀ q : Nat, q < i + 1 -> g'.1[q]? = some true) /\ ∃ ps, Done (S : Int) g'.1 ps /\ g'.2.flatten = ps.flatMap (Ks rs)) (Ok.bind (JT (fun g' : List Bool × Int × List Int => g'.1.length = S /\ 0 <= g'.2.1 /\ g'.2.1 < (S : Int) /\ (∀ q : Nat, g.1[q]? = some true -> g'.1[q]? = some true) /\ ((g'.2.1 = (i : Int) /\ g'.1[i]? = some false) ∨ g'.1[i]? = some true) /\ g'.2.2.length + 100 * g'.1.count false <= 100 * S /\ ∃ qs, Done (S : Int) g'.1 (ps ++ qs) /\ g'.2.2 = qs.flatMap (Ks rs)) (fun g' => g'.1.count false) (fun g' hg' => ?_) _ (g.1, (i : Int), []) ⟨g1, by show (0 : Int) <= (i : Int); omega, by show (i : Int) < (S : Int); omega, fun q h => h, .inl ⟨rfl, by simp [hi1, hb]⟩, by
        have : g.1.count false <= g.1.length := List.count_le_length
        show 0 + 100 * g.1.count false <= 100 * S
        omega, [], by rw [List.append_nil]; exact g4, rfl⟩ ?_) fun g' hg' => ?_) fun g' hg' => ?_
      · obtain ⟨w1, w2, w3, w4, w5, w8, qs, w6, w7⟩ := hg'
        obtain ⟨p, hp⟩ : ∃ p : Nat, g'.2.1 = (p : Int) := ⟨g'.2.1.toNat, by omega⟩
        have hpl : p < g'.1.length := by omega
        rw [Yb hp hpl]
        refine ⟨_, rfl, fun hf => ?_⟩
        have hf' : g'.1[p] = false := by simpa using hf
        have hfs : g'.1[p]? = some false := by simp [hpl, hf']
        rw [hp, Q9 hpl]
        simp only [Res.okb]
        rw [Zn (by omega)]
        simp only [Res.okb]
        refine Ok.bind (Ok.forN (fun k (h : Int × List Int) => h.1 = Cy (rs.take k) (p : Int) /\ h.2 = g'.2.2 ++ Ks (rs.take k) (p : Int)) ⟨rfl, by rw [List.take_zero]; exact (List.append_nil _).symm⟩ fun k b h hb' hh => ?_) fun h hh => ?_
        · obtain ⟨rfl, hk⟩ := Yj hb'
          obtain ⟨e1, e2⟩ := hh
          have hq := GK (sg := sg) (S := (S : Int)) hk (show 8 * k + 10 < r.length by omega)
          rw [hR] at hq
          have hts : rs.take (k + 1) = rs.take k ++ [(r[8 * k + 10] % ((S : Int) - 1), ns[k] * sg ns[k])] := by rw [List.take_add_one, hq]; rfl
          rw [hts, FC, FG, ← e1]
          rw [Zk (by decide) (by decide)]
          simp only [Res.okb]
          rw [Yb (r := r) (n := 8 * k + 10) (by omega) (by omega)]
          simp only [Res.okb]
          rw [X6 (by omega)]
          simp only [Res.okb]
          rw [Yb (r := ns) (n := k) rfl hk]
          simp only [Res.okb]
          have hgd : VD d ns[k] = .ok (sg ns[k]) := by unfold VD; rw [hd _ (List.getElem_mem hk)]; rfl
          have hsg := hs _ (List.getElem_mem hk)
          rw [hgd]
          simp only [Res.okb]
          rw [Qk (a := ns[k]) (by omega) (by omega), Qk (a := -ns[k]) (by omega) (by omega)]
          simp only [Res.okb]
          have hlen : h.2.length < sizeLine := Ff (by
            have := hcl (rs.take k) (p : Int)
            rw [List.length_take] at this
            rw [e2, List.length_append]; omega)
          rw [Xy hlen, Xy hlen]
          generalize r[8 * k + 10] % ((S : Int) - 1) = low
          by_cases c1 : h.1 = low
          · rw [if_pos (decide_eq_true c1)]
            simp only [Res.okb]
            refine ⟨_, rfl, ?_, ?_⟩
            · rw [BH c1]
            · rw [B4 c1, e2, List.append_assoc]
          · rw [if_neg (by rw [decide_eq_false c1]; exact Bool.false_ne_true)]
            by_cases c2 : h.1 = low + 1
            · rw [if_pos (decide_eq_true c2)]
              simp only [Res.okb]
              refine ⟨_, rfl, ?_, ?_⟩
              · rw [B2 c2]
              · rw [BZ c2, e2, List.append_assoc, Int.neg_mul]
            · rw [if_neg (by rw [decide_eq_false c2]; exact Bool.false_ne_true)]
              simp only [Res.okb]
              refine ⟨_, rfl, ?_, ?_⟩
              · rw [BY c1 c2]
              · rw [B7 c1 c2, List.append_nil, e2]
        · rw [Yk, ← hrl, List.take_length] at hh
          obtain ⟨e1, e2⟩ := hh
          have hpr := hin rs hrs (p : Int) (by omega) (by omega)
          have hct := UQ hfs
          have hcl' := hcl rs (p : Int)
          refine ⟨_, rfl, ⟨?_, ?_, ?_, ?_, ?_, ?_, qs ++ [(p : Int)], ?_, ?_⟩, ?_⟩
          · show (g'.1.set p true).length = S
            rw [List.length_set]; exact w1
          · show 0 <= h.1
            rw [e1]; exact hpr.1
          · show h.1 < _
            rw [e1]; exact hpr.2
          · exact fun q hq => Ur (w4 q hq)
          · refine .inr ?_
            show (g'.1.set p true)[i]? = some true
            rcases w5 with ⟨h1, _⟩ | h1
            · have : p = i := by omega
              subst this
              rw [List.getElem?_set_self hpl]
            · exact Ur h1
          · show h.2.length + 100 * (g'.1.set p true).count false <= 100 * S
            rw [e2, List.length_append]; omega
          · rw [← List.append_assoc]
            have := w6.snoc (a := (p : Int)) (by omega) (by omega) (by rw [Int.toNat_natCast]; exact hfs)
            rwa [Int.toNat_natCast] at this
          · show h.2 = _
            rw [e2, w7, List.flatMap_append]
            simp
          · show (g'.1.set p true).count false < g'.1.count false
            omega
      · have : g.1.count false <= g.1.length := List.count_le_length
        show g.1.count false < (S : Int).natAbs + 2
        omega
      · obtain ⟨⟨w1, w2, w3, w4, w5, w8, qs, w6, w7⟩, hc⟩ := hg'
        obtain ⟨p, hp⟩ : ∃ p : Nat, g'.2.1 = (p : Int) := ⟨g'.2.1.toNat, by omega⟩
        have hpl : p < g'.1.length := by omega
        rw [Yb hp hpl, Res.okb] at hc
        have hc' : g'.1[p] = true := by
          have := Res.ok.inj hc
          simpa using this
        have h5 : g'.1[i]? = some true := by
          rcases w5 with ⟨h1, h6⟩ | h1
          · have : p = i := by omega
            subst this
            rw [List.getElem?_eq_getElem hpl, hc'] at h6
            cases h6
          · exact h1
        rw [Xy (Ff (by omega))]
        refine ⟨_, rfl, w1, ?_, ?_, ps ++ qs, w6, ?_⟩
        · show (g.2 ++ [g'.2.2]).length <= _
          simp; omega
        · exact Gk (fun q hq => w4 q (g3 q hq)) h5
        · show (g.2 ++ [g'.2.2]).flatten = _
          rw [List.flatten_append, g5, List.flatMap_append, w7]
          simp
      · exact ⟨_, rfl, hg'⟩
  · obtain ⟨g1, g2, g3, ps, g4, g5⟩ := hg
    rw [Yk] at g2 g3
    refine ⟨_, rfl, g2, ?_⟩
    rw [g5]
    refine (ZN _ (g4.all (by rw [g1]; rfl) (by omega) fun q hq => g3 q (by omega))).trans ?_
    rw [Int.toNat_natCast]
    refine (Gy hrs).trans ?_
    rw [← hR]
    unfold J2
    rw [QJ]
    have e : ns.flatMap (fun x => [x, -x]) = (List.range ns.length).flatMap fun k => [ns.getD k 0, -(ns.getD k 0)] := by
      have h : ns = (List.range ns.length).map fun k => ns.getD k 0 := List.ext_getElem (by simp) fun j h1 h2 => by simp [h1]
      conv => lhs; rw [h]
      rw [QJ]
    rw [e]
    refine Q0 fun k hk => Ep (hs _ ?_)
    have hk' := List.mem_range.mp hk
    simp [hk']
end My
namespace My
open PySem L2
theorem F1 {α : Type} {l : List α} {m c : Nat} (hm : l.length = m) (hc : c < m) : ∀ {n j : Nat}, j < n -> (List.replicate n l).flatten[m * j + c]? = l[c]?
  | 0, _, h => by omega
  | n + 1, 0, _ => by
    rw [List.replicate_succ, List.flatten_cons, Nat.mul_zero, Nat.zero_add, List.getElem?_append_left (by omega)]
  | n + 1, j + 1, h => by
    rw [List.replicate_succ, List.flatten_cons, List.getElem?_append_right (by rw [hm, Nat.mul_succ]; omega), hm, show m * (j + 1) + c - m = m * j + c by rw [Nat.mul_succ]; omega]
    exact F1 hm hc (by omega)
theorem DS {α : Type} (l : List α) : ∀ n : Nat, (List.replicate n l).flatten.length = n * l.length
  | 0 => by simp
  | n + 1 => by rw [List.replicate_succ, List.flatten_cons, List.length_append, DS l n, Nat.succ_mul]; omega
structure Drawn (most : Nat) (D : List (List Int) × List (Int × Int)) : Prop where
  le : D.2.length <= most
  inc : (D.2.map Prod.fst).Pairwise (· < ·)
  pos : ∀ e ∈ D.2, 1 <= e.1 /\ e.1 < 2 ^ 62 /\ (e.2 = 1 ∨ e.2 = -1)
  perm : D.1.flatten.Perm ((D.2.map Prod.fst).flatMap fun x => [x, -x])
  few : D.1.length <= 5
theorem FY : ∀ {d : List (Int × Int)} {x : Int}, x ∈ d.map Prod.fst -> ∃ v, Zu d x = some v /\ (x, v) ∈ d
  | [], _, h => by simp at h
  | kv :: d, x, h => by
    by_cases c : kv.1 = x
    · exact ⟨kv.2, by simp [Zu, List.find?_cons, c], by rw [← c]; simp⟩
    · have hx : x ∈ d.map Prod.fst := by
        rw [List.map_cons, List.mem_cons] at h
        rcases h with h | h
        · exact absurd h.symm c
        · exact h
      obtain ⟨v, h1, h2⟩ := FY hx
      exact ⟨v, by unfold Zu at h1 ⊢; rw [List.find?_cons, decide_eq_false c]; exact h1, List.mem_cons_of_mem _ h2⟩
theorem CZ {d : List (Int × Int)} {k v : Int} (h : ∀ x ∈ d.map Prod.fst, x ≠ k) : KB d k v = d ++ [(k, v)] := by
  unfold KB
  rw [if_neg]
  rw [List.any_eq_true]
  rintro ⟨kv, h1, h2⟩
  exact h kv.1 (List.mem_map.mpr ⟨kv, h1, rfl⟩) (by simpa using h2)
theorem CY (ns : List Int) {p : Int} (hp : 0 <= p) {most : Nat} (hm : most <= 100) : Ok (Jf ns p (most : Int)) (Drawn most) := by
  unfold Jf
  simp only [Res.okb]
  rw [Xy (sz (by simp))]
  simp only [Res.okb]
  rw [Xy (sz (by simp))]
  simp only [Res.okb]
  rw [Zk (by decide) (by decide), Res.okb, show (2 : Int) * (most : Int) = ((2 * most : Nat) : Int) by omega]
  rw [show VL [(80 : Int), 5, 2, 3] ((2 * most : Nat) : Int) = .ok (List.replicate (2 * most) [(80 : Int), 5, 2, 3]).flatten from by
    unfold VL
    rw [Xy ⟨by omega, by omega, sz (by simp; omega)⟩, Int.toNat_natCast]]
  simp only [Res.okb]
  have hrl := DS [(80 : Int), 5, 2, 3] (2 * most)
  have hrg : ∀ {j c : Nat}, c < 4 -> j < 2 * most -> (List.replicate (2 * most) [(80 : Int), 5, 2, 3]).flatten[4 * j + c]? = [(80 : Int), 5, 2, 3][c]? := fun {j c} hc hj => F1 rfl hc hj
  have hrm : ∀ x ∈ (List.replicate (2 * most) [(80 : Int), 5, 2, 3]).flatten, 0 < x /\ x < 2 ^ 250 := fun x hx => by
    obtain ⟨l, h1, h2⟩ := List.mem_flatten.mp hx
    rw [(List.mem_replicate.mp h1).2] at h2
    simp only [List.mem_cons, List.not_mem_nil, or_false] at h2
    rcases h2 with rfl | rfl | rfl | rfl <;> decide
  generalize (List.replicate (2 * most) [(80 : Int), 5, 2, 3]).flatten = tl at hrl hrg hrm
  rw [show ([(80 : Int), 5, 2, 3]).length = 4 from rfl] at hrl
  rw [show Fb [(most : Int) + 1, 5, 4, 3, 3] tl = .ok ([(most : Int) + 1, 5, 4, 3, 3] ++ tl) from Xy (sz (by simp; omega))]
  simp only [Res.okb]
  refine Ok.bind (Ok.noE (K9 ns hp _ (by simp; omega) fun x hx => ?_)) fun r hr => ?_
  · rw [List.mem_append] at hx
    rcases hx with h | h
    · simp only [List.mem_cons, List.not_mem_nil, or_false] at h
      rcases h with rfl | rfl | rfl | rfl | rfl
      · refine ⟨by omega, by omega⟩
      all_goals decide
    · exact hrm x h
  obtain ⟨hl, hv⟩ := hr
  have hl' : r.length = 5 + 8 * most := by rw [hl]; simp; omega
  have hv5 : ∀ (j c : Nat) (s : Int), c < 4 -> j < 2 * most -> [(80 : Int), 5, 2, 3][c]? = some s -> ∀ h : 5 + 4 * j + c < r.length, 0 <= r[5 + 4 * j + c] /\ r[5 + 4 * j + c] < s := fun j c s hc hj hs h => by
    refine hv (5 + 4 * j + c) _ s (by simp [h]) ?_
    rw [List.getElem?_append_right (by simp; omega)]
    simp only [List.length_cons, List.length_nil]
    rw [show 5 + 4 * j + c - (0 + 1 + 1 + 1 + 1 + 1) = 4 * j + c by omega, hrg hc hj]
    exact hs
  have v0 := hv 0 r[0] _ (by simp) rfl
  have v1 := hv 1 r[1] _ (by simp) rfl
  have v2 := hv 2 r[2] _ (by simp) rfl
  have v3 := hv 3 r[3] _ (by simp) rfl
  have v4 := hv 4 r[4] _ (by simp) rfl
  rw [Yb (r := r) (k := 0) (n := 0) rfl (by omega), Yb (r := r) (k := 1) (n := 1) rfl (by omega), Yb (r := r) (k := 2) (n := 2) rfl (by omega), Yb (r := r) (k := 3) (n := 3) rfl (by omega), Yb (r := r) (k := 4) (n := 4) rfl (by omega)]
  simp only [Res.okb]
  obtain ⟨m0, hm0⟩ : ∃ m0 : Nat, r[0] = m0 := ⟨r[0].toNat, by omega⟩
  rw [hm0] at v0 ⊢
  rw [Zn (by omega), Gn (by decide) (by decide) (by decide) (by decide)]
  simp only [Res.okb]
  rw [Xy (sz (by simp))]
  simp only [Res.okb]
  have hz : ∃ z, atR [0, 1, (10 : Int) ^ (9 : Int).toNat] r[3] = .ok z /\ 0 <= z /\ z <= 1000000000 := by
    rcases (by omega : r[3] = 0 ∨ r[3] = 1 ∨ r[3] = 2) with h | h | h <;> rw [h]
    · exact ⟨0, rfl, by decide, by decide⟩
    · exact ⟨1, rfl, by decide, by decide⟩
    · exact ⟨1000000000, rfl, by decide, by decide⟩
  obtain ⟨z, hz, hz0, hz1⟩ := hz
  rw [hz]
  simp only [Res.okb]
  refine Ok.bind (Ok.forN (fun i (g : Int × List (Int × Int) × List Int) => g.2.1.map Prod.fst = g.2.2 /\ g.2.2.length = i /\ 0 <= g.1 /\ g.1 <= (i : Int) * 3000000000 /\ g.2.2.Pairwise (· < ·) /\ (∀ x ∈ g.2.2, 1 <= x /\ x <= g.1) /\ ∀ e ∈ g.2.1, e.2 = 1 ∨ e.2 = -1) ⟨rfl, rfl, Int.le_refl _, by decide, List.Pairwise.nil, fun x hx => (by cases hx), fun x hx => (by cases hx)⟩ fun i a g ha hg => ?_) fun g hg => ?_
  · obtain ⟨rfl, hi⟩ := Yj ha
    obtain ⟨h1, h2, h3, h4, h5, h6, h7⟩ := hg
    have hA : 5 + 4 * (2 * i) + 3 < r.length := by omega
    have hB : 5 + 4 * (2 * i) + 2 < r.length := by omega
    have kA := hv5 (2 * i) 3 3 (by omega) (by omega) rfl hA
    have kB := hv5 (2 * i) 2 2 (by omega) (by omega) rfl hB
    rw [Zk (a := 8) (by decide) (by decide)]
    simp only [Res.okb]
    rw [Yb (r := r) (k := 8 * (i : Int) + 8) (n := 5 + 4 * (2 * i) + 3) (by omega) hA, Yb (r := r) (k := 8 * (i : Int) + 7) (n := 5 + 4 * (2 * i) + 2) (by omega) hB]
    simp only [Res.okb]
    generalize r[5 + 4 * (2 * i) + 3] = y at kA
    generalize r[5 + 4 * (2 * i) + 2] = y2 at kB
    rw [Zk (a := y) (by omega) (by omega), Zk (a := 2) (by decide) (by decide)]
    simp only [Res.okb]
    have hd1 : g.2.1.length = i := by rw [← h2, ← h1, List.length_map]
    rw [Xy (Ff (by omega)), Xy (Ff (by omega))]
    have q0 : 0 <= y * z := Int.mul_nonneg kA.1 hz0
    have q1 : y * z <= 2 * 1000000000 := Int.mul_le_mul (by omega) hz1 hz0 (by decide)
    generalize y * z = st at q0 q1
    have hnew : ∀ x ∈ g.2.1.map Prod.fst, x ≠ g.1 + 1 + st := fun x hx e => by
      rw [h1] at hx
      have := (h6 x hx).2
      omega
    rw [CZ hnew]
    refine ⟨_, rfl, ?_, ?_, ?_, ?_, ?_, ?_, ?_⟩
    · show (g.2.1 ++ [(g.1 + 1 + st, 2 * y2 - 1)]).map Prod.fst = g.2.2 ++ [g.1 + 1 + st]
      rw [List.map_append, h1]; rfl
    · show (g.2.2 ++ [g.1 + 1 + st]).length = _
      simp [h2]
    · show 0 <= g.1 + 1 + st
      omega
    · show g.1 + 1 + st <= _
      omega
    · show (g.2.2 ++ [g.1 + 1 + st]).Pairwise (· < ·)
      rw [List.pairwise_append]
      refine ⟨h5, by simp, fun x hx w hw => ?_⟩
      rw [List.mem_singleton] at hw
      have := (h6 x hx).2
      omega
    · intro x hx
      show 1 <= x /\ x <= g.1 + 1 + st
      rcases List.mem_append.mp hx with h | h
      · have := h6 x h; omega
      · rw [List.mem_singleton] at h; omega
    · intro e he
      rcases List.mem_append.mp he with h | h
      · exact h7 e h
      · rw [List.mem_singleton] at h
        subst h
        show 2 * y2 - 1 = 1 ∨ 2 * y2 - 1 = -1
        omega
  obtain ⟨h1, h2, h3, h4, h5, h6, h7⟩ := hg
  rw [Yk] at h2 h4
  generalize hN : g.2.2 = names at *
  generalize hD : g.2.1 = d at *
  have hsg : ∀ x ∈ names, Zu d x = some ((Zu d x).getD 1) /\ ((Zu d x).getD 1 = 1 ∨ (Zu d x).getD 1 = -1) := fun x hx => by
    obtain ⟨v, e1, e2⟩ := FY (d := d) (x := x) (by rw [h1]; exact hx)
    rw [e1]
    exact ⟨rfl, h7 _ e2⟩
  have hmap : Kp names (fun a => (VD d a).bind fun x => .ok (a, x)) = .ok (names.map fun a => (a, (Zu d a).getD 1)) := Zw (sz (by omega)) fun a ha => by
    unfold VD
    rw [(hsg a ha).1]; rfl
  refine Ok.bind (R := fun ws : List (List Int) => ws.length <= 5 /\ ws.flatten.Perm (names.flatMap fun x => [x, -x])) (Ok.ite (fun _ => ?_) fun _ => ?_) fun ws hws => ?_
  · refine Ok.bind (R := fun ws : List (List Int) => ws.length <= 5 /\ ws.flatten.Perm (names.flatMap fun x => [x, -x])) ?_ fun ws hws => ⟨_, rfl, hws⟩
    refine Ok.bind (Ok.noE (Cn (by omega) (by omega))) fun l hl2 => ?_
    rw [show (2 : Int) + r[4] = ((2 + r[4].toNat : Nat) : Int) by omega]
    have hln := hl2.length_eq
    refine Ok.noE (Ok.imp (GW (sg := fun x => (Zu d x).getD 1) (by omega) (by omega) (fun x hx => (hsg x (hl2.mem_iff.mp hx)).1) (fun x hx => (hsg x (hl2.mem_iff.mp hx)).2) (by omega) (by omega)) fun ws hw => ⟨by omega, hw.2.trans (ZN _ hl2)⟩)
  · refine Ok.bind (R := fun ws : List (List Int) => ws.length <= 5 /\ ws.flatten.Perm (names.flatMap fun x => [x, -x])) ?_ fun ws hws => ⟨_, rfl, hws⟩
    obtain ⟨rings, hrings⟩ : ∃ k : Nat, max r[1] (min (names.length : Int) 1) = (k : Int) := ⟨(max r[1] (min (names.length : Int) 1)).toNat, by omega⟩
    rw [hrings]
    refine Ok.noE (Ok.imp (Hv (by omega) (by omega) (fun hne => ?_) (by omega)) fun ws hw => ⟨by omega, hw.2⟩)
    have : 0 < names.length := List.length_pos_iff.mpr hne
    omega
  · rw [hmap]
    simp only [Res.okb]
    have hfst : (names.map fun a => (a, (Zu d a).getD 1)).map Prod.fst = names := by rw [List.map_map]; exact List.map_id' _
    refine ⟨_, rfl, ?_, ?_, ?_, ?_, hws.1⟩
    · show (names.map fun a => (a, (Zu d a).getD 1)).length <= most
      simp; omega
    · show ((names.map fun a => (a, (Zu d a).getD 1)).map Prod.fst).Pairwise _
      rw [hfst]; exact h5
    · intro e he
      obtain ⟨x, hx, rfl⟩ := List.mem_map.mp he
      have := h6 x hx
      refine ⟨this.1, ?_, (hsg x hx).2⟩
      show x < 2 ^ 62
      omega
    · show ws.flatten.Perm (((names.map fun a => (a, (Zu d a).getD 1)).map Prod.fst).flatMap fun x => [x, -x])
      rw [hfst]; exact hws.2
end My
namespace My
open PySem L2
theorem GJ {r : List Int} {n : Nat} (hn : n <= 1000) (hr : n <= r.length) : Ok (ZW r (n : Int)) fun sp => ∃ p q, Kh n sp p q := by
  unfold ZW
  simp only [Res.okb]
  rw [Xy (by omega)]
  simp only [Res.okb]
  rw [Zn (by omega)]
  simp only [Res.okb]
  have e0 : Qm 0 (n : Int) = (List.range n).map fun (i : Nat) => (i : Int) := by
    unfold Qm
    rw [Int.sub_zero, Int.toNat_natCast]
    exact List.map_congr_left fun i _ => by omega
  refine Ok.bind (Ok.forN (fun i (g : List Int × List Int) => g.1.length = i /\ (g.1 ++ g.2).Perm ((List.range n).map fun (i : Nat) => (i : Int))) ⟨rfl, by rw [e0]; exact List.Perm.refl _⟩ fun i a g ha hg => ?_) fun g hg => ?_
  · obtain ⟨rfl, hi⟩ := Yj ha
    obtain ⟨h1, h2⟩ := hg
    have hl := h2.length_eq
    simp only [List.length_append, List.length_map, List.length_range] at hl
    have hri : r[i]? = some r[i] := by simp [show i < r.length by omega]
    have hpos : (0 : Int) < (g.2.length : Int) := by omega
    have hm1 := Int.emod_nonneg r[i] (show (g.2.length : Int) ≠ 0 by omega)
    have hm2 := Int.emod_lt_of_pos r[i] hpos
    rw [YI hri, Res.okb, X6 hpos, Res.okb]
    generalize hk : r[i] % (g.2.length : Int) = k at hm1 hm2
    obtain ⟨j, rfl⟩ : ∃ j : Nat, k = j := ⟨k.toNat, by omega⟩
    have hj : j < g.2.length := by omega
    rw [DQ hj (by omega), Res.okb, Xy (Ff (by omega))]
    refine ⟨_, rfl, by simp [h1], ?_⟩
    refine List.Perm.trans ?_ h2
    show ((g.1 ++ [g.2[j]]) ++ g.2.eraseIdx j).Perm (g.1 ++ g.2)
    rw [List.append_assoc]
    exact (Ja hj).append_left _
  · obtain ⟨h1, h2⟩ := hg
    rw [Yk] at h1
    have hl := h2.length_eq
    simp only [List.length_append, List.length_map, List.length_range] at hl
    have : g.2 = [] := List.length_eq_zero_iff.mp (by omega)
    rw [this, List.append_nil] at h2
    exact ⟨_, rfl, CV h2⟩
theorem DR {n : Nat} {f : Nat -> Nat -> Nat} {sp : List Int} {p q : Nat -> Nat} (hn : n <= 1000) (hf : ∀ a b, a < n -> b < n -> f a b < n) (hp : Kh n sp p q) : Qr (Y9 n f) sp = .ok (Y9 n fun x y => p (f (q x) (q y))) := by
  have P := hp.1
  unfold Qr
  simp only [Res.okb]
  rw [Zw (h := fun a => a) (sz (by rw [X5]; omega)) fun a _ => rfl, Res.okb]
  simp only [List.map_id', X5]
  rw [Zn (by omega), Res.okb]
  apply Ok.eq
  refine Ok.bind (Ok.forN (fun i g => g = Y9 n fun x y => if q x < i then p (f (q x) (q y)) else f x y) (Zv fun x y _ _ => by simp) fun i a g ha hg => ?_) fun g hg => ⟨g, rfl, ?_⟩
  · obtain ⟨rfl, hi⟩ := Yj ha
    subst hg
    simp only [Res.okb]
    refine Ok.bind (Ok.forN (fun j g => g = Y9 n fun x y => if q x < i ∨ (q x = i /\ q y < j) then p (f (q x) (q y)) else f x y) (Zv fun x y _ _ => by simp) fun j b g hb hg => ?_) fun g hg => ⟨g, rfl, ?_⟩
    · obtain ⟨rfl, hj⟩ := Yj hb
      subst hg
      have hv := hf i j hi hj
      rw [U4 hi, Res.okb, Gi hj, Res.okb, hp.get hv, Res.okb, hp.get hi, Res.okb, U4 (P.lt i hi), Res.okb, hp.get hj, Res.okb, Q9 (by rw [ZI]; exact P.lt j hj), Res.okb, Q9 (by rw [X5]; exact P.lt i hi), Res.okb]
      refine ⟨_, rfl, ?_⟩
      rw [Ek (P.lt i hi)]
      refine Zv fun x y hx hy => ?_
      by_cases e : x = p i /\ y = p j
      · rw [if_pos e, e.1, e.2, P.qp i hi, P.qp j hj, if_pos (by omega)]
      · rw [if_neg e]
        have : ¬ (q x = i /\ q y = j) := fun ⟨e1, e2⟩ => e ⟨by rw [← e1, P.pq x hx], by rw [← e2, P.pq y hy]⟩
        by_cases c : q x < i ∨ (q x = i /\ q y < j)
        · rw [if_pos c, if_pos (by omega)]
        · rw [if_neg c, if_neg (by omega)]
    · subst hg
      rw [Yk]
      refine Zv fun x y hx hy => ?_
      have := P.qlt y hy
      by_cases c : q x < i + 1
      · rw [if_pos c, if_pos (by omega)]
      · rw [if_neg c, if_neg (by omega)]
  · subst hg
    rw [Yk]
    exact Zv fun x y hx hy => by rw [if_pos (P.qlt x hx)]
end My
namespace My
open PySem L2
theorem Jc (a b : Bool) : UY (.ok a) (.ok b) = .ok (a && b) := Hl fun _ => rfl
theorem Do (a b : Bool) : orR (.ok a) (.ok b) = .ok (a || b) := HL fun _ => rfl
theorem G5 {way k : Int} {n a b : Nat} (hn : 0 < n) (h1 : n <= 1000) (ha : a < n) (hb : b < n) : ZA way (n : Int) k (a : Int) (b : Int) = .ok (GX way n k a b) := by
  unfold ZA GX
  simp only [Res.okb, Jc, Bool.and_eq_true, decide_eq_true_eq, gt_iff_lt, ge_iff_le]
  rw [UF (by decide) (by decide)]
  simp only [Res.okb, Jc, Bool.and_eq_true, decide_eq_true_eq]
  rw [Zk (a := 2) (by decide) (by decide), Qk (a := k) (by omega) (by omega), Qk (a := 1 - k) (by omega) (by omega)]
  simp only [Res.okb]
  by_cases c1 : way = 1
  · rw [if_pos c1, if_pos c1]; exact X6 (by omega)
  rw [if_neg c1, if_neg c1]
  by_cases c2 : way = 2
  · rw [if_pos c2, if_pos c2]; exact X6 (by omega)
  rw [if_neg c2, if_neg c2]
  by_cases c3 : way = 3 /\ 2 < (n : Int) /\ (a : Int) < 2 /\ (b : Int) = (n : Int) - 1
  · rw [if_pos c3, if_pos c3]
  rw [if_neg c3, if_neg c3]
  by_cases c4 : way = 6 /\ (a : Int) < (n : Int) - 1 /\ (b : Int) = (n : Int) - 1
  · rw [if_pos c4, if_pos c4]; exact X6 (by omega)
  rw [if_neg c4, if_neg c4]
  by_cases c5 : way = 4 /\ (a : Int) < (n : Int) / 2 /\ (b : Int) < (n : Int) / 2
  · rw [if_pos c5, if_pos c5]; exact X6 (by omega)
  rw [if_neg c5, if_neg c5]
  by_cases c6 : way = 4 /\ (n : Int) / 2 <= (a : Int) /\ (n : Int) / 2 <= (b : Int)
  · rw [if_pos c6, if_pos c6, X6 (by omega), Res.okb]
  rw [if_neg c6, if_neg c6]
theorem Ke (x y : Int) : Qp x y = .ok (Int.gcd x y : Int) := by
  unfold Qp
  simp only [Res.okb]
  apply Ok.eq
  refine Ok.bind (JT (fun g : Int × Int => ∃ u v : Nat, g = ((u : Int), (v : Int)) /\ Nat.gcd u v = Int.gcd x y) (fun g => g.2.toNat) (fun g hg => ?_) _ ((x.natAbs : Int), (y.natAbs : Int)) ⟨x.natAbs, y.natAbs, rfl, rfl⟩ ?_) fun g hg => ?_
  · obtain ⟨u, v, rfl, h⟩ := hg
    refine ⟨_, rfl, fun c => ?_⟩
    have c' : (0 : Int) < (v : Int) := of_decide_eq_true c
    show Ok ((ZS (u : Int) (v : Int)).bind _) _
    rw [X6 c', Res.okb]
    refine ⟨_, rfl, ⟨v, u % v, by rw [Int.natCast_emod], ?_⟩, ?_⟩
    · rw [← h, Nat.gcd_comm u v, Nat.gcd_rec v u, Nat.gcd_comm]
    · show ((u : Int) % (v : Int)).toNat < ((v : Int)).toNat
      have := Int.emod_lt_of_pos (u : Int) c'
      have := Int.emod_nonneg (u : Int) (show (v : Int) ≠ 0 by omega)
      omega
  · show ((y.natAbs : Int)).toNat < _
    omega
  · obtain ⟨⟨u, v, rfl, h⟩, hc⟩ := hg
    have hc' : ¬ (0 : Int) < (v : Int) := by
      have := Res.ok.inj hc
      simpa using this
    have : v = 0 := by omega
    subst this
    rw [Nat.gcd_zero_right] at h
    exact ⟨_, rfl, by show (u : Int) = _; rw [h]⟩
theorem BA {n : Nat} {t z : Int} (h : t = 1 + (n : Int) * z) : Int.gcd t n = 1 := by
  have h1 : ((Int.gcd t n : Nat) : Int) ∣ t := Int.gcd_dvd_left ..
  have h2 : ((Int.gcd t n : Nat) : Int) ∣ (n : Int) := Int.gcd_dvd_right ..
  have h3 : ((Int.gcd t n : Nat) : Int) ∣ 1 := by
    have : (1 : Int) = t - (n : Int) * z := by omega
    rw [this]
    exact Int.dvd_sub h1 (Int.dvd_trans h2 (Int.dvd_mul_right ..))
  have h4 := Int.eq_one_of_dvd_one (by omega) h3
  omega
theorem Bz {way k : Int} {n : Nat} (hn : 0 < n) (h1 : n <= 1000) : Ok (VQ way (n : Int) k) fun t => ∃ f, GoodF n f /\ t = Y9 n f := by
  unfold VQ
  simp only [Res.okb, Jc, Bool.and_eq_true, decide_eq_true_eq]
  by_cases c5 : way = 5 /\ (n : Int) = 4
  · rw [if_pos c5]
    have hn : n = 4 := by omega
    subst hn
    exact ⟨[[0, 3, 1, 2], [2, 1, 3, 0], [3, 0, 2, 1], [1, 2, 0, 3]], rfl, JH, Dy, CW.symm⟩
  rw [if_neg c5]
  have ht := Int.emod_add_mul_ediv (1 - k) (n : Int)
  have ht0 := Int.emod_nonneg (1 - k) (show (n : Int) ≠ 0 by omega)
  have ht1 := Int.emod_lt_of_pos (1 - k) (show (0 : Int) < (n : Int) by omega)
  generalize hq : (1 - k) % (n : Int) = m at ht ht0 ht1
  have hcop : Int.gcd (k + m) n = 1 := BA (z := -((1 - k) / (n : Int))) (by rw [Int.mul_neg]; omega)
  refine Ok.bind (JT (fun g : Int => k <= g /\ g <= k + m) (fun g => (k + m - g).toNat) (fun g hg => ?_) _ k ⟨Int.le_refl _, by omega⟩ ?_) fun g hg => ?_
  · rw [Ke, XX, Res.okb]
    refine ⟨_, rfl, fun c => ?_⟩
    have hne : g ≠ k + m := fun e => by
      rw [e, hcop] at c
      exact absurd c (by decide)
    refine ⟨_, rfl, ⟨by omega, by omega⟩, ?_⟩
    show (k + m - (g + 1)).toNat < (k + m - g).toNat
    omega
  · show (k + m - k).toNat < _
    omega
  · obtain ⟨_, hc⟩ := hg
    rw [Ke, XX, Res.okb] at hc
    have hg1 : Int.gcd g n = 1 := by
      have := Res.ok.inj hc
      simp at this
      omega
    obtain ⟨gd, hce⟩ := Fz (way := way) (k := g) (n := n) hn hg1
    refine ⟨Y9 n (Kc way g n), ?_, _, gd, rfl⟩
    rw [Zn (by omega), Res.okb]
    have hrow : ∀ a : Nat, a < n -> Kp ((List.range n).map fun (i : Nat) => (i : Int)) (fun b => noE (ZA way (n : Int) g (a : Int) b)) = .ok (Qz n (Kc way g n) a) := fun a ha => by
      rw [Zw (h := fun x => ((Kc way g n a x.toNat : Nat) : Int)) (sz (by simp; omega)) fun x hx => ?_]
      · rw [List.map_map]; rfl
      · obtain ⟨b, hb, rfl⟩ := Vb hx
        rw [G5 hn h1 ha hb, XX, Int.toNat_natCast, hce a b ha hb]
    rw [Qn (h := fun x => Qz n (Kc way g n) x.toNat) (sz (by simp; omega)) fun l hl x hx => ?_]
    · rw [Res.okb, List.nil_append, List.map_map]; rfl
    · obtain ⟨a, ha, rfl⟩ := Vb hx
      rw [Res.okb, hrow a ha, Res.okb, Xy hl, Int.toNat_natCast]
end My
namespace My
open PySem L2
theorem V9 (ns : List Int) {p : Int} (hp : 0 <= p) {most : Nat} (h0 : 0 < most) (hm : most <= 24) : Ok (YZ ns p (most : Int)) fun t => ∃ n f, 0 < n /\ n <= most /\ GoodF n f /\ t = Y9 n f := by
  unfold YZ
  simp only [Res.okb]
  rw [Xy (sz (by simp))]
  simp only [Res.okb]
  rw [Xy (sz (by simp))]
  simp only [Res.okb]
  rw [show VL [(24 : Int)] 24 = .ok (List.replicate 24 24) from rfl]
  simp only [Res.okb]
  rw [show Fb [(7 : Int), 24, 6, 2, 6] (List.replicate 24 24) = .ok ([(7 : Int), 24, 6, 2, 6] ++ List.replicate 24 24) from Xy (sz (by simp))]
  simp only [Res.okb]
  refine Ok.bind (Ok.noE (K9 ns hp _ (by simp) fun x hx => ?_)) fun r hr => ?_
  · rw [List.mem_append] at hx
    rcases hx with h | h
    · simp only [List.mem_cons, List.not_mem_nil, or_false] at h
      rcases h with rfl | rfl | rfl | rfl | rfl <;> decide
    · rw [(List.mem_replicate.mp h).2]; decide
  obtain ⟨hl, hv⟩ := hr
  have hl' : r.length = 29 := by rw [hl]; simp
  clear hl hv
  rw [Yb (r := r) (k := 0) (n := 0) rfl (by omega), Yb (r := r) (k := 1) (n := 1) rfl (by omega), Yb (r := r) (k := 2) (n := 2) rfl (by omega), Yb (r := r) (k := 3) (n := 3) rfl (by omega), Yb (r := r) (k := 4) (n := 4) rfl (by omega)]
  simp only [Res.okb, Jc]
  rw [X6 (by omega)]
  simp only [Res.okb]
  have a0 := Int.emod_nonneg r[1] (show (most : Int) ≠ 0 by omega)
  have a1 := Int.emod_lt_of_pos r[1] (show (0 : Int) < (most : Int) by omega)
  refine Ok.bind (R := fun s : Int => 0 < s /\ s <= (most : Int)) (Ok.ite (fun c => ?_) fun _ => ?_) fun s hs => ?_
  · have c1 : 2 < (most : Int) := by
      rw [Bool.and_eq_true, decide_eq_true_eq] at c
      exact c.1
    rw [X6 (by omega), Res.okb]
    have b0 := Int.emod_nonneg r[1] (show (most : Int) - 2 ≠ 0 by omega)
    have b1 := Int.emod_lt_of_pos r[1] (show (0 : Int) < (most : Int) - 2 by omega)
    refine ⟨_, rfl, ?_⟩
    omega
  · exact ⟨_, rfl, by omega⟩
  obtain ⟨n, rfl⟩ : ∃ n : Nat, s = (n : Int) := ⟨s.toNat, by omega⟩
  refine Ok.bind (Ok.noE (Bz (by omega) (by omega))) fun t ht => ?_
  obtain ⟨f, gd, rfl⟩ := ht
  refine Ok.ite (fun _ => ⟨_, rfl, n, f, by omega, by omega, gd, rfl⟩) fun _ => ?_
  rw [show JU r (some 5) none = r.drop 5 from CM r (k := 5) (by omega)]
  refine Ok.bind (Ok.noE (GJ (by omega) (by rw [List.length_drop]; omega))) fun sp hsp => ?_
  obtain ⟨q, q', hq⟩ := hsp
  rw [DR (by omega) gd.lt hq, XX]
  exact ⟨_, rfl, n, _, by omega, by omega, hq.1.good gd, rfl⟩
end My
namespace My
noncomputable def YW (w : List Int) : Nat := (w.filter fun x => decide (x < 0)).length
noncomputable def Q5 (w : List Int) : Nat := max (YW w) 1
noncomputable def Z6 (w : List Int) (first : Int) : List Int := (List.range (max w.length 1)).map fun k => first + (YW (w.take k) : Int) % (Q5 w : Int)
noncomputable def YL : List (List Int) -> Int -> List (List Int)
  | [], _ => []
  | w :: ws, f => Z6 w f :: YL ws (f + Q5 w)
noncomputable def X4 (ws : List (List Int)) : Int := (ws.map fun w => (Q5 w : Int)).sum
noncomputable def VC (ws : List (List Int)) : Nat := (ws.filter fun w => decide (YW w = 0)).length
theorem QO (a b : List Int) : YW (a ++ b) = YW a + YW b := by unfold YW; rw [List.filter_append, List.length_append]
theorem JK {x : Int} (h : x < 0) : YW [x] = 1 := by simp [YW, h]
theorem JV {x : Int} (h : ¬ x < 0) : YW [x] = 0 := by simp [YW, h]
theorem Zb {w : List Int} {i : Nat} {x : Int} (h : w[i]? = some x) : YW (w.take (i + 1)) = YW (w.take i) + YW [x] := by
  rw [List.take_add_one, h, QO]; rfl
theorem Jy (w : List Int) (i j : Nat) (h : i <= j) : YW (w.take i) <= YW (w.take j) := by
  have e : w.take j = w.take i ++ (w.take j).drop i := by
    conv => lhs; rw [← List.take_append_drop i (w.take j)]
    rw [List.take_take, Nat.min_eq_left h]
  rw [e, QO]; omega
theorem BK (w : List Int) (i : Nat) : YW (w.take i) <= YW w := by
  by_cases h : i <= w.length
  · have := Jy w i w.length h
    rw [List.take_length] at this; exact this
  · rw [List.take_of_length_le (by omega)]; exact Nat.le_refl _
theorem Gj (w : List Int) : 0 < Q5 w := by unfold Q5; omega
theorem QX (w : List Int) (f : Int) : (Z6 w f).length = max w.length 1 := by simp [Z6]
theorem GP (w : List Int) (f : Int) {k : Nat} (h : k < max w.length 1) : (Z6 w f)[k]? = some (f + (YW (w.take k) : Int) % (Q5 w : Int)) := by
  unfold Z6
  rw [List.getElem?_map, List.getElem?_range h]; rfl
theorem YR : ∀ (ws : List (List Int)) (f : Int), (YL ws f).length = ws.length
  | [], _ => rfl
  | _ :: ws, f => by show (YL ws _).length + 1 = _; rw [YR ws]; rfl
theorem QF (w : List Int) (ws : List (List Int)) : X4 (w :: ws) = Q5 w + X4 ws := by simp [X4]
theorem VM (a b : List (List Int)) : X4 (a ++ b) = X4 a + X4 b := by simp [X4, List.sum_append]
theorem GF (w : List Int) : X4 [w] = Q5 w := by simp [X4]
theorem Jk : ∀ (a b : List (List Int)) (f : Int), YL (a ++ b) f = YL a f ++ YL b (f + X4 a)
  | [], b, f => by simp [YL, X4]
  | w :: a, b, f => by
    show Z6 w f :: YL (a ++ b) (f + Q5 w) = Z6 w f :: (YL a (f + Q5 w) ++ YL b (f + X4 (w :: a)))
    rw [Jk a b, QF, Int.add_assoc]
theorem QG {ws : List (List Int)} {i : Nat} {w : List Int} (h : ws[i]? = some w) (f : Int) : YL (ws.take (i + 1)) f = YL (ws.take i) f ++ [Z6 w (f + X4 (ws.take i))] := by
  rw [List.take_add_one, h, Jk]; rfl
theorem QC {ws : List (List Int)} {i : Nat} {w : List Int} (h : ws[i]? = some w) : X4 (ws.take (i + 1)) = X4 (ws.take i) + Q5 w := by
  rw [List.take_add_one, h, VM]
  show _ + X4 [w] = _
  rw [GF]
theorem VW {ws : List (List Int)} {i : Nat} {w : List Int} (h : ws[i]? = some w) (f : Int) : (YL ws f)[i]? = some (Z6 w (f + X4 (ws.take i))) := by
  have hl : i < ws.length := (List.getElem?_eq_some_iff.mp h).1
  have e : ws = ws.take (i + 1) ++ ws.drop (i + 1) := (List.take_append_drop _ _).symm
  rw [e, Jk, QG h, List.getElem?_append_left (by rw [List.length_append, YR, List.length_take]; simp; omega),
    List.getElem?_append_right (by rw [YR, List.length_take]; omega), YR, List.length_take, Nat.min_eq_left (by omega), Nat.sub_self, List.take_append_of_le_length (by rw [List.length_take]; omega), List.take_take, Nat.min_eq_left (by omega)]
  rfl
theorem JB : ∀ ws : List (List Int), X4 ws = (YW ws.flatten : Int) + (VC ws : Int)
  | [] => rfl
  | w :: ws => by
    rw [QF, JB ws, List.flatten_cons, QO]
    unfold VC
    rw [List.filter_cons]
    by_cases h : YW w = 0
    · simp [h, Q5]; omega
    · simp [h, Q5]; omega
theorem GD {ws : List (List Int)} {i : Nat} {w : List Int} (h : ws[i]? = some w) : VC (ws.take (i + 1)) = VC (ws.take i) + (if YW w = 0 then 1 else 0) := by
  unfold VC
  rw [List.take_add_one, h, List.filter_append, List.length_append]
  by_cases e : YW w = 0 <;> simp [e]
theorem DW {a b : List Int} (h : a.Perm b) : YW a = YW b := (h.filter _).length_eq
theorem Ce : ∀ {xs : List Int}, (∀ x ∈ xs, 1 <= x) -> YW (xs.flatMap fun x => [x, -x]) = xs.length
  | [], _ => rfl
  | x :: xs, h => by
    have hx := h x List.mem_cons_self
    rw [List.flatMap_cons, QO, Ce fun y hy => h y (List.mem_cons_of_mem _ hy)]
    have e : YW [x, -x] = 1 := by
      show YW ([x] ++ [-x]) = 1
      rw [QO, JV (by omega), JK (by omega)]
    rw [e, List.length_cons]; omega
structure LastIs (w : List Int) (i : Nat) (last : Int) : Prop where
  lo : -1 <= last
  hi : last < (i : Int)
  none : ∀ j : Nat, last < (j : Int) -> j < i -> ∀ x, w[j]? = some x -> ¬ x < 0
  at' : 0 <= last -> ∃ x, w[last.toNat]? = some x /\ x < 0
theorem LastIs.zero (w : List Int) : LastIs w 0 (-1) := ⟨by omega, by omega, fun j _ h => by omega, fun h => by omega⟩
theorem LastIs.neg {w : List Int} {i : Nat} {x : Int} (e : w[i]? = some x) (hx : x < 0) : LastIs w (i + 1) (i : Int) :=
  ⟨by omega, by omega, fun j h1 h2 => by omega, fun _ => ⟨x, by simpa using e, hx⟩⟩
theorem LastIs.pos {w : List Int} {i : Nat} {x last : Int} (h : LastIs w i last) (e : w[i]? = some x) (hx : ¬ x < 0) : LastIs w (i + 1) last := by
  have := h.hi
  refine ⟨h.lo, by omega, fun j h1 h2 y hy => ?_, h.at'⟩
  by_cases hj : j = i
  · subst hj; rw [e] at hy; cases hy; exact hx
  · exact h.none j h1 (by omega) y hy
theorem QI {w : List Int} {last : Int} (h : LastIs w w.length last) : ∀ j : Nat, last < (j : Int) -> YW (w.take j) = YW w := by
  intro j hj
  have key : ∀ d : Nat, YW (w.take (j + d)) = YW (w.take j) := fun d => by
    induction d with
    | zero => rfl
    | succ d ih =>
      cases e : w[j + d]? with
      | none =>
        have := List.getElem?_eq_none_iff.mp e
        rw [← ih, List.take_of_length_le (by omega), List.take_of_length_le (by omega)]
      | some x =>
        have hl := (List.getElem?_eq_some_iff.mp e).1
        show YW (w.take ((j + d) + 1)) = _
        rw [Zb e, ih, JV (h.none (j + d) (by omega) hl x e)]; rfl
  by_cases hl : j <= w.length
  · rw [← key (w.length - j), show j + (w.length - j) = w.length by omega, List.take_length]
  · rw [List.take_of_length_le (by omega)]
theorem U2 {w : List Int} {last : Int} (h : LastIs w w.length last) (h0 : 0 <= last) : YW (w.take last.toNat) + 1 = YW w := by
  obtain ⟨x, e, hx⟩ := h.at' h0
  have := Zb e
  rw [JK hx] at this
  rw [← this, QI h (last.toNat + 1) (by omega)]
theorem F4 {w : List Int} {last : Int} (h : LastIs w w.length last) (h0 : ¬ 0 <= last) : YW w = 0 := by
  have := h.lo
  rw [← QI h 0 (by omega)]; simp [YW]
theorem F3 {w : List Int} {last f : Int} (h : LastIs w w.length last) {j : Nat} (hj : (j : Int) <= last) : f + (YW (w.take j) : Int) % (Q5 w : Int) = f + (YW (w.take j) : Int) := by
  have h0 : 0 <= last := by omega
  have h1 := U2 h h0
  have h2 := Jy w j last.toNat (by omega)
  rw [Int.emod_eq_of_lt (by omega) (by unfold Q5; omega)]
theorem CI {w : List Int} {last f : Int} (h : LastIs w w.length last) {j : Nat} (hj : last < (j : Int)) : f + (YW (w.take j) : Int) % (Q5 w : Int) = f := by
  rw [QI h j hj]
  by_cases e : YW w = 0
  · rw [e]; simp
  · have : (Q5 w : Int) = (YW w : Int) := by unfold Q5; omega
    rw [this, Int.emod_self]; omega
theorem Fk {w : List Int} {last : Int} (h : LastIs w w.length last) : (YW (w.take last.toNat) : Int) + 1 = (Q5 w : Int) := by
  by_cases h0 : 0 <= last
  · have := U2 h h0
    unfold Q5; omega
  · have e := F4 h h0
    have := BK w last.toNat
    unfold Q5; omega
end My
namespace My
structure Spot (ws : List (List Int)) (x : Int) (i j : Nat) (w : List Int) : Prop where
  wi : ws[i]? = some w
  xj : w[j]? = some x
  first : ∀ m : Nat, m < j -> w[m]? ≠ some x
  none : ∀ (i' : Nat) (w' : List Int), i' < i -> ws[i']? = some w' -> x ∉ w'
theorem Spot.uniq {ws : List (List Int)} {x : Int} {i j i' j' : Nat} {w w' : List Int} (h : Spot ws x i j w) (h' : Spot ws x i' j' w') : i = i' /\ j = j' /\ w = w' := by
  have hi : i = i' := by
    rcases Nat.lt_trichotomy i i' with c | c | c
    · exact absurd (List.mem_of_getElem? h.xj) (h'.none i w c h.wi)
    · exact c
    · exact absurd (List.mem_of_getElem? h'.xj) (h.none i' w' c h'.wi)
  subst hi
  have hw : w = w' := Option.some.inj (h.wi.symm.trans h'.wi)
  subst hw
  refine ⟨rfl, ?_, rfl⟩
  rcases Nat.lt_trichotomy j j' with c | c | c
  · exact absurd h.xj (h'.first j c)
  · exact c
  · exact absurd h'.xj (h.first j' c)
theorem Spot.row {ws : List (List Int)} {x : Int} {i j : Nat} {w : List Int} (h : Spot ws x i j w) : ∃ r, (YL ws 0)[i]? = some r /\ r.length = w.length /\ j < w.length := by
  have hj := (List.getElem?_eq_some_iff.mp h.xj).1
  exact ⟨_, VW h.wi 0, by rw [QX]; omega, hj⟩
noncomputable def Db (ws : List (List Int)) (e : Int × Int) (v : List Int) : Prop := ∃ (i j k l : Nat) (w w' r r' : List Int) (o a b : Int), Spot ws e.1 i j w /\ Spot ws (-e.1) k l w' /\ (YL ws 0)[i]? = some r /\ r[j]? = some o /\ (YL ws 0)[k]? = some r' /\ r'[l]? = some a /\ r'[(l + 1) % w'.length]? = some b /\ v = [e.1, e.2, o, a, b]
theorem Db.uniq {ws : List (List Int)} {e : Int × Int} {v v' : List Int} (h : Db ws e v) (h' : Db ws e v') : v = v' := by
  obtain ⟨i, j, k, l, w, w', r, r', o, a, b, s1, s2, h1, h2, h3, h4, h5, rfl⟩ := h
  obtain ⟨i2, j2, k2, l2, x, x', q, q', o2, a2, b2, t1, t2, g1, g2, g3, g4, g5, rfl⟩ := h'
  obtain ⟨rfl, rfl, rfl⟩ := s1.uniq t1
  obtain ⟨rfl, rfl, rfl⟩ := s2.uniq t2
  rw [h1] at g1; cases g1
  rw [h3] at g3; cases g3
  rw [h2] at g2; cases g2
  rw [h4] at g4; cases g4
  rw [h5] at g5; cases g5
  rfl
theorem K6 : ∀ {w : List Int} {x : Int}, x ∈ w -> ∃ j : Nat, w[j]? = some x /\ ∀ m : Nat, m < j -> w[m]? ≠ some x
  | [], x, h => by simp at h
  | y :: t, x, h => by
    by_cases e : y = x
    · subst e
      exact ⟨0, rfl, fun m hm => by omega⟩
    · rcases List.mem_cons.mp h with z | z
      · exact absurd z.symm e
      · obtain ⟨j, h1, h2⟩ := K6 z
        refine ⟨j + 1, by simpa using h1, fun m hm => ?_⟩
        cases m with
        | zero => simpa using e
        | succ m => simpa using h2 m (by omega)
end My
namespace My
open PySem L2
section
variable {α β γ ρ : Type}
theorem J4 {f : γ -> α -> Res (Ctl ρ γ)} {g : γ} {v : ρ} : ∀ {as : List α} {i : Nat} {a : α}, as[i]? = some a -> (∀ (k : Nat) b, k < i -> as[k]? = some b -> f g b = .ok (.nx g)) -> f g a = .ok (.ret v) -> forC as g f = .ok (.ret v)
  | [], i, a, h, _, _ => by simp at h
  | b :: as, 0, a, h, _, hf => by
    have : b = a := by simpa using h
    subst this
    show (f g b).bind _ = _
    rw [hf, Res.okb]
  | b :: as, i + 1, a, h, hb, hf => by
    show (f g b).bind _ = _
    rw [hb 0 b (by omega) rfl, Res.okb]
    exact J4 (i := i) (by simpa using h) (fun k c hk hc => hb (k + 1) c (by omega) (by simpa using hc)) hf
theorem Cq {as : List α} {i : Nat} {a : α} (h : as[i]? = some a) : (Ki as)[i]? = some ((i : Int), a) := by
  have hi := (List.getElem?_eq_some_iff.mp h).1
  unfold Ki
  rw [List.getElem?_zip_eq_some]
  exact ⟨by rw [List.getElem?_map, List.getElem?_range hi]; rfl, h⟩
theorem Ko {w : List Int} {x : Int} {j : Nat} (h : w[j]? = some x) (hf : ∀ m : Nat, m < j -> w[m]? ≠ some x) : Cl w x = .ok (j : Int) := by
  obtain ⟨hj, e⟩ := List.getElem?_eq_some_iff.mp h
  have : w.findIdx? (fun b => decide (b = x)) = some j := by
    rw [List.findIdx?_eq_some_iff_getElem]
    refine ⟨hj, by simp [e], fun m hm => ?_⟩
    have hml : m < w.length := by omega
    have := hf m hm
    rw [List.getElem?_eq_getElem hml] at this
    simpa using this
  unfold Cl
  rw [this]
theorem DO {N k : Nat} {F G : Nat -> α} {v : α} (hk : k < N) (hv : G k = v) (h : ∀ j, j < N -> j ≠ k -> F j = G j) : ((List.range N).map F).set k v = (List.range N).map G := by
  refine List.ext_getElem (by simp) fun j h1 h2 => ?_
  have hj : j < N := by simpa using h1
  rw [List.getElem_set]
  by_cases e : k = j
  · subst e; rw [if_pos rfl]; simp [hv]
  · rw [if_neg e]; simp [h j hj (fun z => e z.symm)]
theorem Cw (w : List α) : JU w none (some (-1)) = w.take (w.length - 1) := by
  unfold JU
  rw [HT.sIx_none]
  have : HT.sIx w.length w.length (some (-1)) = w.length - 1 := by
    unfold HT.sIx
    simp
    omega
  rw [this]; simp
end
theorem Zt {w : List Int} (hl : w.length <= 1000) : XU w = .ok (Q5 w : Int) := by
  unfold XU
  simp only [Res.okb]
  rw [Ky (p := fun x => decide (x < 0)) (h := fun x => x) (sz (by omega)) (fun _ _ => rfl) fun _ _ _ => rfl, Res.okb, List.map_id']
  congr 1
  show max ((YW w : Nat) : Int) 1 = ((max (YW w) 1 : Nat) : Int)
  omega
theorem Vm {w : List Int} {f : Int} (hl : w.length <= 1000) : YE w f = .ok (Z6 w f) := by
  unfold YE
  simp only [Res.okb]
  rw [Zt hl, XX]
  simp only [Res.okb]
  rw [Xy (sz (by simp)), Cw]
  simp only [Res.okb]
  apply Ok.eq
  refine Ok.bind (Ok.forN (fun i (g : Int × List Int) => g = ((YW (w.take i) : Int), (List.range (i + 1)).map fun k => f + (YW (w.take k) : Int) % (Q5 w : Int))) ?_ fun i a g ha hg => ?_) fun g hg => ?_
  · simp [YW]
  · have hi := (List.getElem?_eq_some_iff.mp ha).1
    rw [List.length_take] at hi
    have ha' : w[i]? = some a := by
      rw [List.getElem?_take_of_lt (by omega)] at ha
      exact ha
    subst hg
    have hn := Zb ha'
    have hp := Gj w
    have hlen : ((List.range (i + 1)).map fun k => f + (YW (w.take k) : Int) % (Q5 w : Int)).length < sizeLine := Ff (by simp; omega)
    refine Ok.bind (R := fun u => u = (YW (w.take (i + 1)) : Int)) (Ok.ite (fun c => ⟨_, rfl, ?_⟩) fun c => ⟨_, rfl, ?_⟩) fun u hu => ?_
    · rw [hn, JK (of_decide_eq_true c)]
      show (YW (w.take i) : Int) + 1 = _
      omega
    · rw [hn, JV (of_decide_eq_false c)]
      show (YW (w.take i) : Int) = _
      omega
    · subst hu
      rw [X6 (by omega), Res.okb, Res.okb, Xy hlen]
      refine ⟨_, rfl, ?_⟩
      rw [List.range_succ (n := i + 1), List.map_append]; rfl
  · subst hg
    refine ⟨_, rfl, ?_⟩
    rw [List.length_take, show min (w.length - 1) w.length + 1 = max w.length 1 by omega]
    rfl
theorem Ej {D : List (List Int) × List (Int × Int)} (hd : D.1.length <= 1000) (hw : ∀ w ∈ D.1, w.length <= 1000) : VG D = .ok (YL D.1 0) := by
  unfold VG
  simp only [Res.okb]
  apply Ok.eq
  refine Ok.bind (Ok.forN (fun i (g : Int × List (List Int)) => g = (X4 (D.1.take i), YL (D.1.take i) 0)) rfl fun i a g ha hg => ?_) fun g hg => ?_
  · have hi := (List.getElem?_eq_some_iff.mp ha).1
    subst hg
    have hal := hw a (List.mem_of_getElem? ha)
    rw [Vm hal, XX, Res.okb, Zt hal, XX]
    rw [Xy (Ff (by rw [YR, List.length_take]; omega))]
    simp only [Res.okb]
    refine ⟨_, rfl, ?_⟩
    rw [QG ha, QC ha, Int.zero_add]
  · subst hg
    rw [List.take_length]
    exact ⟨_, rfl, rfl⟩
theorem Kj {D : List (List Int) × List (Int × Int)} (hd : D.1.length <= 1000) (hw : ∀ w ∈ D.1, w.length <= 1000) : Za D = .ok (X4 D.1) := by
  unfold Za
  simp only [Res.okb]
  rw [Zw (h := fun w => (Q5 w : Int)) (sz (by omega)) fun w h => by rw [Zt (hw w h), XX], Res.okb]
  rfl
theorem FV {D : List (List Int) × List (Int × Int)} {x : Int} {i j : Nat} {w : List Int} (h : Spot D.1 x i j w) : JY D x = .ok ((i : Int), (j : Int)) := by
  unfold JY
  simp only [Res.okb]
  rw [J4 (v := ((i : Int), (j : Int))) (Cq h.wi) (fun k b hk hb => ?_) ?_]
  · rw [Res.okb, Q2]
  · rw [if_pos (decide_eq_true (List.mem_of_getElem? h.xj)), Ko h.xj h.first]
    simp only [Res.okb]
  · obtain ⟨_, h2⟩ := U0 hb
    rw [if_neg]
    rw [decide_eq_true_eq]
    exact h.none k b.2 hk h2
theorem UV {ws : List (List Int)} {x : Int} {i j : Nat} {w : List Int} (hl : ws.length <= 1000) (h : Spot ws x i j w) : Z3 ws x = .ok ((i : Int), (j : Int)) := by
  have hi := (List.getElem?_eq_some_iff.mp h.wi).1
  unfold Z3
  simp only [Res.okb]
  rw [Zn (by omega), Res.okb]
  rw [J4 (v := ((i : Int), (j : Int))) (i := i) (a := (i : Int)) (by rw [List.getElem?_map, List.getElem?_range hi]; rfl) (fun k b hk hb => ?_) ?_]
  · rw [Res.okb, Q2]
  · rw [YI h.wi]
    simp only [Res.okb]
    rw [if_pos (decide_eq_true (List.mem_of_getElem? h.xj)), Ko h.xj h.first]
    simp only [Res.okb]
  · obtain ⟨rfl, hkl⟩ := Yj hb
    have hks : ws[k]? = some ws[k] := by simp [hkl]
    rw [YI hks]
    simp only [Res.okb]
    rw [if_neg]
    rw [decide_eq_true_eq]
    exact h.none k _ hk hks
theorem JO {D : List (List Int) × List (Int × Int)} (hw : ∀ w ∈ D.1, w.length <= 1000) : Y8 D = .ok ((D.2.length : Int) + (VC D.1 : Int)) := by
  unfold Y8
  simp only [Res.okb]
  apply Ok.eq
  refine Ok.bind (Ok.forN (fun i (g : Int) => g = (D.2.length : Int) + (VC (D.1.take i) : Int)) (by simp [VC]) fun i a g ha hg => ?_) fun g hg => ?_
  · have hal := hw a (List.mem_of_getElem? ha)
    rw [Ky (p := fun x => decide (x < 0)) (h := fun x => x) (sz (by omega)) (fun _ _ => rfl) fun _ _ _ => rfl, List.map_id']
    simp only [Res.okb]
    have hz := GD ha
    have hnn : ((a.filter fun x => decide (x < 0)).length : Int) = (YW a : Int) := rfl
    rw [hnn]
    by_cases c : YW a = 0
    · rw [if_pos c] at hz
      rw [if_pos (decide_eq_true (by omega))]
      simp only [Res.okb]
      exact ⟨_, rfl, by omega⟩
    · rw [if_neg c] at hz
      rw [if_neg (by rw [decide_eq_true_eq]; omega)]
      simp only [Res.okb]
      exact ⟨_, rfl, by omega⟩
  · subst hg
    rw [List.take_length]
    exact ⟨_, rfl, rfl⟩
end My
namespace My
open PySem L2
theorem Ik (f : Int) (n : Nat) : (List.replicate n [f]).flatten = (List.range n).map fun _ => f := by
  induction n with
  | zero => rfl
  | succ n ih => rw [List.replicate_succ, List.flatten_cons, ih, List.range_succ_eq_map, List.map_cons, List.map_map]; rfl
theorem Du {ws : List (List Int)} (hd : ws.length <= 1000) (hw : ∀ w ∈ ws, w.length <= 1000) : Qw ws = .ok (YL ws 0) := by
  unfold Qw
  simp only [Res.okb]
  apply Ok.eq
  refine Ok.bind (Ok.forN (fun i (g : Int × List (List Int)) => g = (X4 (ws.take i), YL (ws.take i) 0)) rfl fun i w g ha hg => ?_) fun g hg => ?_
  · have hi := (List.getElem?_eq_some_iff.mp ha).1
    subst hg
    have hal := hw w (List.mem_of_getElem? ha)
    generalize hf : X4 (ws.take i) = f
    rw [Zn (by omega), Res.okb]
    refine Ok.bind (Ok.forN (fun k (l : Int) => LastIs w k l) (LastIs.zero w) fun k b l hb hl => ?_) fun last hlast => ?_
    · obtain ⟨rfl, hk⟩ := Yj hb
      have hks : w[k]? = some w[k] := by simp [hk]
      rw [YI hks]
      simp only [Res.okb]
      by_cases c : w[k] < 0
      · rw [if_pos (decide_eq_true c), Res.okb]
        exact ⟨_, rfl, LastIs.neg hks c⟩
      · rw [if_neg (by rw [decide_eq_true_eq]; exact c), Res.okb]
        exact ⟨_, rfl, hl.pos hks c⟩
    rw [Yk] at hlast
    rw [Xy (sz (by simp))]
    simp only [Res.okb]
    rw [show max (w.length : Int) 1 = ((max w.length 1 : Nat) : Int) by omega]
    rw [show VL [f] ((max w.length 1 : Nat) : Int) = .ok ((List.range (max w.length 1)).map fun _ => f) from by
      unfold VL
      rw [Xy ⟨by omega, by omega, sz (by simp; omega)⟩, Int.toNat_natCast, Ik]]
    simp only [Res.okb]
    have hlb : -1 <= last /\ last < (w.length : Int) := ⟨hlast.lo, hlast.hi⟩
    rw [show last + 1 = (((last + 1).toNat : Nat) : Int) by omega, Zn (by omega), Res.okb]
    refine Ok.bind (Ok.forN (fun k (h : List Int × Int × Int) => h.1 = ((List.range (max w.length 1)).map fun j => if j < k then f + (YW (w.take j) : Int) else f) /\ h.2.1 = f + (YW (w.take (min k last.toNat)) : Int) /\ h.2.2 = f + (YW (w.take (min k last.toNat)) : Int)) ⟨by simp, by simp [YW], by simp [YW]⟩ fun k b h hb hh => ?_) fun h hh => ?_
    · obtain ⟨rfl, hk⟩ := Yj hb
      obtain ⟨h1, h2, h3⟩ := hh
      have hkl : k < w.length := by omega
      have hks : w[k]? = some w[k] := by simp [hkl]
      rw [Nat.min_eq_left (by omega)] at h2 h3
      rw [h1, Q9 (by simp; omega), Res.okb, YI hks]
      simp only [Res.okb, Jc]
      have hset : (((List.range (max w.length 1)).map fun j => if j < k then f + (YW (w.take j) : Int) else f).set k h.2.2) = (List.range (max w.length 1)).map fun j => if j < k + 1 then f + (YW (w.take j) : Int) else f := DO (by omega) (by rw [if_pos (by omega), h3]) fun j hj hne => by
        by_cases c : j < k
        · rw [if_pos c, if_pos (by omega)]
        · rw [if_neg c, if_neg (by omega)]
      rw [hset]
      have hn := Zb hks
      by_cases c : w[k] < 0 /\ (k : Int) < last
      · rw [if_pos (by rw [Bool.and_eq_true, decide_eq_true_eq, decide_eq_true_eq]; exact c), Res.okb]
        rw [JK c.1] at hn
        refine ⟨_, rfl, rfl, ?_, ?_⟩
        · show h.2.1 + 1 = _
          rw [Nat.min_eq_left (by omega), hn, h2]; omega
        · show h.2.1 + 1 = _
          rw [Nat.min_eq_left (by omega), hn, h2]; omega
      · rw [if_neg (by rw [Bool.and_eq_true, decide_eq_true_eq, decide_eq_true_eq]; exact c), Res.okb]
        have hst : YW (w.take (min (k + 1) last.toNat)) = YW (w.take k) := by
          by_cases c2 : (k : Int) < last
          · have c3 : ¬ w[k] < 0 := fun z => c ⟨z, c2⟩
            rw [JV c3] at hn
            rw [Nat.min_eq_left (by omega), hn, Nat.add_zero]
          · rw [Nat.min_eq_right (by omega), show last.toNat = k by omega]
        refine ⟨_, rfl, rfl, ?_, ?_⟩
        · show h.2.1 = _
          rw [hst, h2]
        · show h.2.2 = _
          rw [hst, h3]
    · rw [Yk] at hh
      obtain ⟨h1, h2, _⟩ := hh
      rw [Xy (Ff (by rw [YR, List.length_take]; omega))]
      have hce := Fk hlast
      rw [Nat.min_eq_right (by omega)] at h2
      refine ⟨_, rfl, ?_⟩
      rw [QG ha, QC ha, Int.zero_add, hf, h1, h2]
      have e1 : f + (YW (w.take last.toNat) : Int) + 1 = f + (Q5 w : Int) := by omega
      have e2 : ((List.range (max w.length 1)).map fun j => if j < (last + 1).toNat then f + (YW (w.take j) : Int) else f) = Z6 w f := by
        unfold Z6
        refine List.map_congr_left fun j _ => ?_
        by_cases c : j < (last + 1).toNat
        · rw [if_pos c, F3 hlast (by omega)]
        · rw [if_neg c, CI hlast (by omega)]
      rw [e1, e2]
  · subst hg
    rw [List.take_length]
    exact ⟨_, rfl, rfl⟩
end My
namespace My
open PySem L2
theorem KG : ∀ {ws : List (List Int)} {x : Int}, x ∈ ws.flatten -> ∃ i j w, Spot ws x i j w
  | [], x, h => by simp at h
  | w :: ws, x, h => by
    by_cases c : x ∈ w
    · obtain ⟨j, h1, h2⟩ := K6 c
      exact ⟨0, j, w, rfl, h1, h2, fun i' w' hi _ => by omega⟩
    · have hx : x ∈ ws.flatten := by
        rw [List.flatten_cons, List.mem_append] at h
        exact h.resolve_left c
      obtain ⟨i, j, v, s⟩ := KG hx
      refine ⟨i + 1, j, v, by simpa using s.wi, s.xj, s.first, fun i' w' hi hw => ?_⟩
      cases i' with
      | zero =>
        have : w = w' := by simpa using hw
        exact this ▸ c
      | succ i' => exact s.none i' w' (by omega) (by simpa using hw)
theorem UN (ws : List (List Int)) : 0 <= X4 ws := by
  induction ws with
  | nil => exact Int.le_refl _
  | cons w ws ih => rw [QF]; omega
theorem Ft {ws : List (List Int)} {i j : Nat} {w r : List Int} {o : Int} (hw : ws[i]? = some w) (hr : (YL ws 0)[i]? = some r) (ho : r[j]? = some o) : 0 <= o /\ o < X4 ws := by
  rw [VW hw] at hr
  cases hr
  have hj := (List.getElem?_eq_some_iff.mp ho).1
  rw [QX] at hj
  rw [GP w _ hj] at ho
  have ho' := Option.some.inj ho
  have hp := Gj w
  have m0 := Int.emod_nonneg (YW (w.take j) : Int) (show (Q5 w : Int) ≠ 0 by omega)
  have m1 := Int.emod_lt_of_pos (YW (w.take j) : Int) (show (0 : Int) < (Q5 w : Int) by omega)
  have t0 := UN (ws.take i)
  have t1 : X4 ws = X4 (ws.take (i + 1)) + X4 (ws.drop (i + 1)) := by rw [← VM, List.take_append_drop]
  have t2 := UN (ws.drop (i + 1))
  rw [QC hw] at t1
  omega
structure DG (D : List (List Int) × List (Int × Int)) : Prop where
  few : D.1.length <= 1000
  short : ∀ w ∈ D.1, w.length <= 1000
  le : D.2.length <= 1000
  mem : ∀ e ∈ D.2, e.1 ∈ D.1.flatten /\ -e.1 ∈ D.1.flatten
  sg : ∀ e ∈ D.2, e.2 = 1 ∨ e.2 = -1
  count : X4 D.1 = (D.2.length : Int) + (VC D.1 : Int)
noncomputable def MG (N : Int) (m : Int × Int × Int × Int × Int) : Prop := (m.2.1 = 1 ∨ m.2.1 = -1) /\ (0 <= m.2.2.1 /\ m.2.2.1 < N) /\ (0 <= m.2.2.2.1 /\ m.2.2.2.1 < N) /\ (0 <= m.2.2.2.2 /\ m.2.2.2.2 < N)
theorem VT {D : List (List Int) × List (Int × Int)} (h : DG D) : ∃ ms, QB D = .ok ms /\ Zi D = .ok ms /\ ms.length = D.2.length /\ ∀ m ∈ ms, MG (X4 D.1) m := by
  have key : ∀ e : Int × Int, ∃ v : Int × Int × Int × Int × Int, e ∈ D.2 -> ∃ (i j k l : Nat) (w w' r r' : List Int), Spot D.1 e.1 i j w /\ Spot D.1 (-e.1) k l w' /\ (YL D.1 0)[i]? = some r /\ r[j]? = some v.2.2.1 /\ (YL D.1 0)[k]? = some r' /\ r'.length = w'.length /\ 0 < w'.length /\ r'[l]? = some v.2.2.2.1 /\ r'[(l + 1) % w'.length]? = some v.2.2.2.2 /\ v.1 = e.1 /\ v.2.1 = e.2 := fun e => by
    by_cases he : e ∈ D.2
    · obtain ⟨i, j, w, s1⟩ := KG (h.mem e he).1
      obtain ⟨k, l, w', s2⟩ := KG (h.mem e he).2
      obtain ⟨r, hr, hrl, hj⟩ := s1.row
      obtain ⟨r', hr', hrl', hl⟩ := s2.row
      have hm : (l + 1) % w'.length < r'.length := by rw [hrl']; exact Nat.mod_lt _ (by omega)
      exact ⟨(e.1, e.2, r[j], r'[l], r'[(l + 1) % w'.length]), fun _ => ⟨i, j, k, l, w, w', r, r', s1, s2, hr, by simp, hr', hrl', by omega, by simp, by simp, rfl, rfl⟩⟩
    · exact ⟨(0, 0, 0, 0, 0), fun z => absurd z he⟩
  obtain ⟨v, hv⟩ := Classical.axiomOfChoice key
  refine ⟨D.2.map v, ?_, ?_, by simp, fun m hm => ?_⟩
  · unfold QB
    simp only [Res.okb]
    rw [Ej h.few h.short, XX]
    simp only [Res.okb]
    rw [Qn (h := v) (sz (by have := h.le; simp; omega)) fun g hg e he => ?_]
    · rw [Res.okb, List.nil_append]
    · obtain ⟨i, j, k, l, w, w', r, r', s1, s2, h1, h2, h3, h4, h5, h6, h7, h8, h9⟩ := hv e he
      have hm : ((l : Int) + 1) % (r'.length : Int) = (((l + 1) % w'.length : Nat) : Int) := by rw [h4, Int.natCast_emod]; rfl
      rw [FV s1, FV s2, XX, XX]
      simp only [Res.okb]
      rw [YI h1, YI h3]
      simp only [Res.okb]
      rw [YI h2, YI h6]
      simp only [Res.okb]
      rw [X6 (by omega), hm]
      simp only [Res.okb]
      rw [YI h7]
      simp only [Res.okb]
      rw [Xy hg]
      congr 2
      rw [← h8, ← h9]
  · unfold Zi
    simp only [Res.okb]
    rw [Du h.few h.short, XX]
    simp only [Res.okb]
    rw [Qn (h := v) (sz (by have := h.le; simp; omega)) fun g hg e he => ?_]
    · rw [Res.okb, List.nil_append]
    · obtain ⟨i, j, k, l, w, w', r, r', s1, s2, h1, h2, h3, h4, h5, h6, h7, h8, h9⟩ := hv e he
      have hm : ((l : Int) + 1) % (w'.length : Int) = (((l + 1) % w'.length : Nat) : Int) := by rw [Int.natCast_emod]; rfl
      rw [UV h.few s1, UV h.few s2, XX, XX]
      simp only [Res.okb]
      rw [YI s2.wi]
      simp only [Res.okb]
      rw [X6 (by omega), hm]
      simp only [Res.okb]
      rw [YI h1, YI h3]
      simp only [Res.okb]
      rw [YI h2, YI h6]
      simp only [Res.okb]
      rw [YI h7]
      simp only [Res.okb]
      rw [Xy hg]
      congr 2
      rw [← h8, ← h9]
  · obtain ⟨e, he, rfl⟩ := List.mem_map.mp hm
    obtain ⟨i, j, k, l, w, w', r, r', s1, s2, h1, h2, h3, h4, h5, h6, h7, h8, h9⟩ := hv e he
    exact ⟨by rw [h9]; exact h.sg e he, Ft s1.wi h1 h2, Ft s2.wi h3 h6, Ft s2.wi h3 h7⟩
end My
namespace My
open PySem L2
theorem JX {α γ ρ : Type} {F : γ -> α -> Res (Ctl ρ γ)} {p : α -> Bool} {v : ρ} {g : γ} : ∀ {as : List α}, (∀ a ∈ as, F g a = .ok (if p a = true then .ret v else .nx g)) -> forC as g F = .ok (if as.any p = true then .ret v else .nx g)
  | [], _ => rfl
  | a :: as, h => by
    show (F g a).bind _ = _
    rw [h a (by simp), Res.okb, List.any_cons]
    cases hp : p a with
    | true => rw [if_pos rfl]; rfl
    | false =>
      rw [if_neg Bool.false_ne_true, Bool.false_or]
      exact JX fun b hb => h b (by simp [hb])
noncomputable def held (f : Nat -> Nat -> Nat) (cn : Int -> Nat) (m : Int × Int × Int × Int × Int) : Bool := if m.2.1 = 1 then decide ((f (cn m.2.2.2.1) (cn m.2.2.1) : Int) = cn m.2.2.2.2) else decide ((f (cn m.2.2.2.2) (cn m.2.2.1) : Int) = cn m.2.2.2.1)
section
variable {n : Nat} {f : Nat -> Nat -> Nat} {c : List Int} {cn : Int -> Nat} {N : Int}
theorem K2 {ms : List (Int × Int × Int × Int × Int)} (hc : ∀ k, 0 <= k -> k < N -> atR c k = .ok (cn k : Int) /\ cn k < n) (hm : ∀ m ∈ ms, MG N m) : Z2 ms (Y9 n f) c = .ok (ms.all (held f cn)) := by
  unfold Z2
  simp only [Res.okb]
  rw [JX (p := fun m => !held f cn m) (v := false) fun m h => ?_]
  · rw [Res.okb]
    have e : ms.any (fun m => !held f cn m) = !ms.all (held f cn) := by
      rw [List.not_all_eq_any_not]
    rw [e]
    cases ms.all (held f cn) with
    | true => rw [show (!true) = false from rfl, if_neg Bool.false_ne_true, Ut]
    | false => rw [show (!false) = true from rfl, if_pos rfl, Q2]
  · obtain ⟨s, ⟨o0, o1⟩, ⟨a0, a1⟩, b0, b1⟩ := hm m h
    rw [(hc _ a0 a1).1, (hc _ b0 b1).1]
    simp only [Res.okb]
    unfold held
    rcases s with s | s
    · rw [if_neg (show ¬ decide (m.2.1 < 0) = true by rw [decide_eq_true_eq]; omega), if_pos s]
      simp only [Res.okb]
      rw [U4 (hc _ a0 a1).2]
      simp only [Res.okb]
      rw [(hc _ o0 o1).1]
      simp only [Res.okb]
      rw [Gi (hc _ o0 o1).2]
      simp only [Res.okb]
      cases (!decide ((f (cn m.2.2.2.1) (cn m.2.2.1) : Int) = cn m.2.2.2.2)) <;> rfl
    · rw [if_pos (decide_eq_true (show m.2.1 < 0 by omega)), if_neg (show ¬ m.2.1 = 1 by omega)]
      simp only [Res.okb]
      rw [U4 (hc _ b0 b1).2]
      simp only [Res.okb]
      rw [(hc _ o0 o1).1]
      simp only [Res.okb]
      rw [Gi (hc _ o0 o1).2]
      simp only [Res.okb]
      cases (!decide ((f (cn m.2.2.2.2) (cn m.2.2.1) : Int) = cn m.2.2.2.1)) <;> rfl
noncomputable def G8 (m : Int × Int × Int × Int × Int) : Int × Int × Int := if m.2.1 = 1 then (m.2.2.2.1, m.2.2.1, m.2.2.2.2) else (m.2.2.2.2, m.2.2.1, m.2.2.2.1)
theorem Ex {D : List (List Int) × List (Int × Int)} {ms : List (Int × Int × Int × Int × Int)} (h : QB D = .ok ms) (hl : ms.length <= 1000) : VU D = .ok (ms.map G8) := by
  unfold VU
  simp only [Res.okb]
  rw [h, XX]
  simp only [Res.okb]
  rw [Qn (h := G8) (sz (by simp; omega)) fun g hg e he => ?_]
  · rw [Res.okb, List.nil_append]
  · unfold G8
    by_cases s : e.2.1 = 1
    · rw [if_pos (decide_eq_true s), if_pos s]
      simp only [Res.okb]
      exact Xy hg
    · rw [if_neg (by rw [decide_eq_true_eq]; exact s), if_neg s]
      simp only [Res.okb]
      exact Xy hg
theorem KS {ms : List (Int × Int × Int × Int × Int)} (hl : ms.length <= 1000) (hc : ∀ k, 0 <= k -> k < N -> atR c k = .ok (cn k : Int) /\ cn k < n) (hm : ∀ m ∈ ms, MG N m) : Zr (Y9 n f) c (ms.map G8) = .ok (ms.all (held f cn)) := by
  unfold Zr
  simp only [Res.okb]
  rw [Zw (h := fun t : Int × Int × Int => decide ((f (cn t.1) (cn t.2.1) : Int) = cn t.2.2)) (sz (by simp; omega)) fun t ht => ?_]
  · rw [Res.okb, List.map_map]
    congr 1
    rw [List.all_map]
    refine congrArg (fun F => ms.all F) (funext fun m => ?_)
    show decide _ = held f cn m
    unfold held G8
    by_cases s : m.2.1 = 1
    · simp only [if_pos s]
    · simp only [if_neg s]
  · obtain ⟨m, h, rfl⟩ := List.mem_map.mp ht
    obtain ⟨s, ⟨o0, o1⟩, ⟨a0, a1⟩, b0, b1⟩ := hm m h
    have key : ∀ x y z : Int, 0 <= x -> x < N -> 0 <= y -> y < N -> 0 <= z -> z < N -> ((((atR c x).bind fun x9 => atR (Y9 n f) x9).bind fun x12 => (atR c y).bind fun x13 => atR x12 x13).bind fun x16 => (atR c z).bind fun x17 => (Res.ok (decide (x16 = x17)) : Res Bool)) = .ok (decide ((f (cn x) (cn y) : Int) = cn z)) := fun x y z x0 x1 y0 y1 z0 z1 => by
      rw [(hc x x0 x1).1, (hc y y0 y1).1, (hc z z0 z1).1]
      simp only [Res.okb]
      rw [U4 (hc x x0 x1).2]
      simp only [Res.okb]
      rw [Gi (hc y y0 y1).2]
      simp only [Res.okb]
    unfold G8
    by_cases s : m.2.1 = 1
    · rw [if_pos s]; exact key _ _ _ a0 a1 o0 o1 b0 b1
    · rw [if_neg s]; exact key _ _ _ b0 b1 o0 o1 a0 a1
end
theorem Dj {c : List Int} {n : Nat} {N : Int} (hN : (c.length : Int) = N) (hc : ∀ x ∈ c, 0 <= x /\ x < (n : Int)) : ∀ k, 0 <= k -> k < N -> atR c k = .ok (((c.getD k.toNat 0).toNat : Nat) : Int) /\ (c.getD k.toNat 0).toNat < n := fun k k0 k1 => by
  have hk : k.toNat < c.length := by omega
  have hx := hc c[k.toNat] (List.getElem_mem hk)
  have e : c.getD k.toNat 0 = c[k.toNat] := by simp [hk]
  rw [e]
  refine ⟨?_, by omega⟩
  rw [Yb (n := k.toNat) (by omega) hk]
  congr 1
  omega
theorem CO {D : List (List Int) × List (Int × Int)} {n : Nat} {f : Nat -> Nat -> Nat} {c : List Int} (h : DG D) (hl : c.length <= 1000) : ∃ b, VY D (Y9 n f) c = .ok b /\ GI D (Y9 n f) c = .ok b := by
  obtain ⟨ms, e1, e2, e3, e4⟩ := VT h
  have hml : ms.length <= 1000 := by rw [e3]; exact h.le
  unfold VY GI
  simp only [Res.okb, Do]
  rw [Kj h.few h.short, JO h.short, XX, XX, ← h.count, X5]
  simp only [Res.okb]
  have hac : YU c (n : Int) = .ok (c.all fun x => decide (0 <= x) && decide (x < (n : Int))) := by
    unfold YU
    simp only [Res.okb]
    rw [Zw (h := fun x => decide (0 <= x) && decide (x < (n : Int))) (sz (by omega)) fun x _ => ?_]
    · rw [Res.okb, List.all_map]; rfl
    · cases decide (0 <= x) <;> rfl
  rw [hac, XX]
  simp only [Res.okb, Do]
  by_cases hN : (c.length : Int) = X4 D.1
  · rw [decide_eq_true hN, show (!true) = false from rfl, Bool.false_or, if_neg Bool.false_ne_true]
    rw [JX (p := fun x => decide (x < 0) || decide ((n : Int) <= x)) (v := false) fun x _ => by cases (decide (x < 0) || decide ((n : Int) <= x)) <;> rfl]
    have ea : c.any (fun x => decide (x < 0) || decide ((n : Int) <= x)) = !(c.all fun x => decide (0 <= x) && decide (x < (n : Int))) := by
      rw [List.not_all_eq_any_not]
      refine congrArg (fun F => c.any F) (funext fun x => ?_)
      rw [Bool.not_and, ← decide_not, ← decide_not]
      congr 1
      · exact decide_eq_decide.mpr (by omega)
      · exact decide_eq_decide.mpr (by omega)
    rw [ea]
    cases hal : c.all fun x => decide (0 <= x) && decide (x < (n : Int)) with
    | false =>
      rw [show (!false) = true from rfl, if_pos rfl, if_pos rfl, Res.okb, Q2]
      exact ⟨_, rfl, rfl⟩
    | true =>
      have hc : ∀ x ∈ c, 0 <= x /\ x < (n : Int) := fun x hx => by
        have := List.all_eq_true.mp hal x hx
        rw [Bool.and_eq_true, decide_eq_true_eq, decide_eq_true_eq] at this
        exact this
      have hcc := Dj hN hc
      rw [show (!true) = false from rfl, if_neg Bool.false_ne_true, if_neg Bool.false_ne_true, Res.okb, Ut, Ex e1 hml, XX, e2, XX]
      simp only [Res.okb]
      rw [KS (cn := fun k => (c.getD k.toNat 0).toNat) hml hcc e4, K2 (cn := fun k => (c.getD k.toNat 0).toNat) hcc e4, XX]
      exact ⟨_, rfl, rfl⟩
  · rw [decide_eq_false hN, show (!false) = true from rfl, Bool.true_or, if_pos rfl, if_pos rfl]
    exact ⟨_, rfl, rfl⟩
end My
namespace My
open PySem L2
theorem IA (o a b : Int) : Fe [o, a, b] = max (max o a) b := rfl
theorem EC {n i j : Nat} (hn : 0 < n) (h : i <= j) : n ^ i <= n ^ j := Nat.pow_le_pow_right hn h
theorem El {c : List Int} {n k : Nat} (hl : c.length = k) (hc : ∀ x ∈ c, 0 <= x /\ x < (n : Int)) : ∀ j, 0 <= j -> j < (k : Int) -> atR c j = .ok (((c.getD j.toNat 0).toNat : Nat) : Int) /\ (c.getD j.toNat 0).toNat < n := Dj (by omega) hc
theorem Hf {D : List (List Int) × List (Int × Int)} {n K : Nat} {f : Nat -> Nat -> Nat} (h : DG D) (gd : GoodF n f) (hn : 0 < n) (h24 : n <= 100) (hK : X4 D.1 = (K : Int)) (hp : n ^ K <= 5000) (hK2 : K <= 3000) : Ok (GO D (Y9 n f)) fun fs => 0 < fs.length /\ ∀ c ∈ fs, c.length = K := by
  obtain ⟨ms, _, e2, e3, e4⟩ := VT h
  have hml : ms.length <= 1000 := by rw [e3]; exact h.le
  unfold GO
  simp only [Res.okb]
  rw [e2, XX]
  simp only [Res.okb]
  rw [Xy (sz (by simp)), JO h.short, XX, ← h.count, hK, X5]
  simp only [Res.okb]
  rw [Zn (by omega), Zn (by omega)]
  simp only [Res.okb]
  refine Ok.bind (Ok.forN (fun k (fs : List (List Int)) => fs.length <= n ^ k /\ List.replicate k 0 ∈ fs /\ ∀ c ∈ fs, c.length = k /\ ∀ x ∈ c, 0 <= x /\ x < (n : Int)) ⟨by simp, by simp, fun c hc => by simp at hc; subst hc; simp⟩ fun k b fs hb hfs => ?_) fun fs hfs => ?_
  · obtain ⟨rfl, hk⟩ := Yj hb
    obtain ⟨f1, f2, f3⟩ := hfs
    have hpk : n ^ (k + 1) <= 5000 := Nat.le_trans (EC hn (by omega)) hp
    have hps : n ^ (k + 1) = n ^ k * n := Nat.pow_succ ..
    rw [Ky (p := fun m : Int × Int × Int × Int × Int => decide (Fe [m.2.2.1, m.2.2.2.1, m.2.2.2.2] = (k : Int))) (h := fun m => m) (sz (by omega)) (fun m _ => ?_) fun _ _ _ => rfl, List.map_id', Res.okb]
    · generalize hrd : ms.filter (fun m => decide (Fe [m.2.2.1, m.2.2.2.1, m.2.2.2.2] = (k : Int))) = rd
      have hrg : ∀ m ∈ rd, MG ((k + 1 : Nat) : Int) m := fun m hm => by
        rw [← hrd, List.mem_filter, decide_eq_true_eq, IA] at hm
        obtain ⟨s, o, a, b⟩ := e4 m hm.1
        have hx := hm.2
        exact ⟨s, ⟨o.1, by omega⟩, ⟨a.1, by omega⟩, b.1, by omega⟩
      have hkeep : ∀ c : List Int, c.length = k -> (∀ x ∈ c, 0 <= x /\ x < (n : Int)) -> ∀ j : Nat, j < n -> ∃ b, Z2 rd (Y9 n f) (c ++ [(j : Int)]) = .ok b /\ (c = List.replicate k 0 -> j = 0 -> b = true) := fun c h1 h2 j hj => by
        refine ⟨_, K2 (cn := fun i => ((c ++ [(j : Int)]).getD i.toNat 0).toNat) (El (k := k + 1) (by simp [h1]) fun x hx => ?_) hrg, fun ec ej => ?_⟩
        · rcases List.mem_append.mp hx with z | z
          · exact h2 x z
          · rw [List.mem_singleton] at z; omega
        · subst ec ej
          have e0 : ∀ i : Nat, (List.replicate k (0 : Int) ++ [((0 : Nat) : Int)]).getD i 0 = 0 := fun i => by
            rw [show List.replicate k (0 : Int) ++ [((0 : Nat) : Int)] = List.replicate (k + 1) 0 from (List.replicate_succ' ..).symm]
            rw [List.getD_eq_getElem?_getD, List.getElem?_replicate]
            split <;> rfl
          rw [List.all_eq_true]
          intro m _
          unfold held
          simp only [e0]
          have hf0 : f (0 : Int).toNat (0 : Int).toNat = (0 : Int).toNat := gd.r1 0 hn
          rw [hf0]
          split <;> exact decide_eq_true rfl
      refine Ok.bind (R := fun fs' : List (List Int) => fs'.length <= n ^ (k + 1) /\ List.replicate (k + 1) 0 ∈ fs' /\ ∀ c ∈ fs', c.length = k + 1 /\ ∀ x ∈ c, 0 <= x /\ x < (n : Int)) (Ok.imp (Ok.forN (fun i (lg : List (List Int)) => lg.length <= i * n /\ (List.replicate k 0 ∈ fs.take i -> List.replicate (k + 1) 0 ∈ lg) /\ ∀ c ∈ lg, c.length = k + 1 /\ ∀ x ∈ c, 0 <= x /\ x < (n : Int)) ⟨by simp, by simp, by simp⟩ fun i c lg hc hlg => ?_) fun lg hlg => ?_) fun lg hlg => ⟨_, rfl, hlg⟩
      · have hi := (List.getElem?_eq_some_iff.mp hc).1
        obtain ⟨l1, l2, l3⟩ := hlg
        obtain ⟨c1, c2⟩ := f3 c (List.mem_of_getElem? hc)
        have hin : i * n + n <= n ^ k * n := by
          have := Nat.mul_le_mul_right n (show i + 1 <= n ^ k by omega)
          rw [Nat.succ_mul] at this; exact this
        refine Ok.bind (R := fun lg' : List (List Int) => lg'.length <= (i + 1) * n /\ (List.replicate k 0 ∈ fs.take (i + 1) -> List.replicate (k + 1) 0 ∈ lg') /\ ∀ c ∈ lg', c.length = k + 1 /\ ∀ x ∈ c, 0 <= x /\ x < (n : Int)) (Ok.imp (Ok.forN (fun j (g : List (List Int)) => g.length <= i * n + j /\ (List.replicate k 0 ∈ fs.take i ∨ (c = List.replicate k 0 /\ 0 < j) -> List.replicate (k + 1) 0 ∈ g) /\ ∀ c ∈ g, c.length = k + 1 /\ ∀ x ∈ c, 0 <= x /\ x < (n : Int)) ⟨by omega, fun z => l2 (z.resolve_right fun y => absurd y.2 (by omega)), l3⟩ fun j y g hy hg => ?_) fun g hg => ?_) fun g hg => ⟨_, rfl, hg⟩
        · obtain ⟨rfl, hj⟩ := Yj hy
          obtain ⟨g1, g2, g3⟩ := hg
          rw [Xy (sz (by simp))]
          simp only [Res.okb]
          rw [show Fb c [(j : Int)] = .ok (c ++ [(j : Int)]) from Xy (sz (by simp; omega))]
          simp only [Res.okb]
          obtain ⟨b, kb, kb2⟩ := hkeep c c1 c2 j hj
          rw [kb, XX]
          simp only [Res.okb]
          cases b with
          | true =>
            rw [if_pos rfl, Xy (Ff (by omega)), Res.okb]
            refine ⟨_, rfl, by simp; omega, fun z => ?_, fun d hd => ?_⟩
            · by_cases ej : 0 < j
              · have : List.replicate (k + 1) 0 ∈ g := g2 (z.imp id fun y => ⟨y.1, ej⟩)
                exact List.mem_append_left _ this
              · rcases z with z | z
                · exact List.mem_append_left _ (g2 (.inl z))
                · have : j = 0 := by omega
                  subst this
                  rw [z.1]
                  refine List.mem_append_right _ ?_
                  rw [List.mem_singleton, List.replicate_succ']; rfl
            · rcases List.mem_append.mp hd with z | z
              · exact g3 d z
              · rw [List.mem_singleton] at z
                subst z
                refine ⟨by simp [c1], fun x hx => ?_⟩
                rcases List.mem_append.mp hx with y | y
                · exact c2 x y
                · rw [List.mem_singleton] at y; omega
          | false =>
            rw [if_neg Bool.false_ne_true, Res.okb]
            refine ⟨_, rfl, by omega, fun z => ?_, g3⟩
            by_cases ej : 0 < j
            · exact g2 (z.imp id fun y => ⟨y.1, ej⟩)
            · rcases z with z | z
              · exact g2 (.inl z)
              · exact absurd (kb2 z.1 (by omega)) Bool.false_ne_true
        · rw [Yk] at hg
          obtain ⟨g1, g2, g3⟩ := hg
          refine ⟨by rw [Nat.succ_mul]; omega, fun z => g2 ?_, g3⟩
          rw [List.take_add_one, hc, List.mem_append] at z
          rcases z with z | z
          · exact .inl z
          · refine .inr ⟨?_, hn⟩
            have : List.replicate k 0 = c := by simpa using z
            exact this.symm
      · obtain ⟨l1, l2, l3⟩ := hlg
        rw [List.take_length] at l2
        refine ⟨?_, l2 f2, l3⟩
        rw [hps]
        exact Nat.le_trans l1 (Nat.mul_le_mul_right n f1)
    · rw [Xy (by simp [HT.sIx])]
      rfl
  · rw [Yk] at hfs
    obtain ⟨f1, f2, f3⟩ := hfs
    exact ⟨_, rfl, List.length_pos_of_mem f2, fun c hc => (f3 c hc).1⟩
end My
namespace My
open PySem L2
theorem Co {n K : Nat} (h24 : n <= 100) (hK : K <= 3000) : Jb (n : Int) (K : Int) = .ok ((n ^ K : Nat) : Int) := by
  unfold Jb
  simp only [Res.okb]
  rw [Zn (by omega)]
  simp only [Res.okb]
  apply Ok.eq
  refine Ok.bind (Ok.forN (fun i (g : Int) => g = ((n ^ i : Nat) : Int)) rfl fun i a g ha hg => ?_) fun g hg => ?_
  · subst hg
    rw [Qk (by omega) (by omega), Res.okb]
    refine ⟨_, rfl, ?_⟩
    rw [Nat.pow_succ]
    exact (Int.natCast_mul _ _).symm
  · rw [Yk] at hg
    exact ⟨_, rfl, hg⟩
theorem Fw {x : Int} {K : Nat} (hK : K <= 3000) : VL [x] (K : Int) = .ok (List.replicate K x) := by
  unfold VL
  rw [Xy ⟨by omega, by omega, sz (by simp; omega)⟩, Int.toNat_natCast, Ik]
  congr 1
  exact List.ext_getElem (by simp) fun j _ _ => by simp
section
variable {D : List (List Int) × List (Int × Int)} {n K : Nat} {f : Nat -> Nat -> Nat}
theorem CN {pick : Int} (h : DG D) (gd : GoodF n f) (hn : 0 < n) (h24 : n <= 100) (hK : X4 D.1 = (K : Int)) (hK2 : K <= 3000) : Ok (Jg D (Y9 n f) pick) fun c => c.length = K := by
  unfold Jg
  simp only [Res.okb]
  rw [JO h.short, XX, ← h.count, hK, X5]
  simp only [Res.okb]
  rw [Co h24 hK2, XX]
  simp only [Res.okb]
  refine Ok.ite (fun _ => ?_) fun c => ?_
  · rw [X6 (by omega)]
    simp only [Res.okb]
    rw [Xy (sz (by simp)), Res.okb, Fw hK2]
    exact ⟨_, rfl, by simp⟩
  · have hp : n ^ K <= 5000 := by
      have := of_decide_eq_false c
      omega
    refine Ok.bind (Ok.noE (Hf h gd hn h24 hK hp hK2)) fun fs hfs => ?_
    obtain ⟨h1, h2⟩ := hfs
    rw [X6 (by omega), Res.okb]
    have m0 := Int.emod_nonneg pick (show (fs.length : Int) ≠ 0 by omega)
    have m1 := Int.emod_lt_of_pos pick (show (0 : Int) < (fs.length : Int) by omega)
    rw [Yb (n := (pick % (fs.length : Int)).toNat) (by omega) (by omega)]
    exact ⟨_, rfl, h2 _ (List.getElem_mem _)⟩
theorem FN {c : List Int} {i v : Int} (h0 : 0 <= i) (h1 : i < (c.length : Int)) : ∃ c', QV c i v = .ok c' /\ c'.length = c.length := by
  have e : i = ((i.toNat : Nat) : Int) := by omega
  refine ⟨c.set i.toNat v, ?_, by simp⟩
  rw [e, Q9 (by omega)]; rfl
theorem GB {r : List Int} (h : DG D) (gd : GoodF n f) (hn : 0 < n) (h24 : n <= 100) (hK : X4 D.1 = (K : Int)) (hK2 : K <= 48) (hr : r.length = 54) (hr4 : ∀ h : 4 < r.length, 0 <= r[4] /\ r[4] < 5) : Ok (ZV D (Y9 n f) r) fun c => c.length <= 1000 := by
  unfold ZV
  simp only [Res.okb]
  rw [JO h.short, XX, ← h.count, hK, X5]
  simp only [Res.okb]
  rw [Yb (r := r) (k := 0) (n := 0) rfl (by omega), Yb (r := r) (k := 1) (n := 1) rfl (by omega), Yb (r := r) (k := 2) (n := 2) rfl (by omega), Yb (r := r) (k := 3) (n := 3) rfl (by omega), Yb (r := r) (k := 4) (n := 4) rfl (by omega), Yb (r := r) (k := 5) (n := 5) rfl (by omega)]
  simp only [Res.okb, Jc]
  have hr4 := hr4 (by omega)
  rw [X6 (a := r[1]) (show (0 : Int) < (n : Int) by omega), X6 (a := r[5]) (show (0 : Int) < (n : Int) by omega)]
  simp only [Res.okb]
  refine Ok.bind (Ok.noE (CN h gd hn h24 hK (by omega))) fun c0 hc0 => ?_
  refine Ok.bind (R := fun c : List Int => c.length = K) (Ok.ite (fun _ => ?_) fun _ => ⟨_, rfl, hc0⟩) fun c1 hc1 => ?_
  · rw [Xy (sz (by simp)), Res.okb, Fw (by omega), Res.okb]
    exact ⟨_, rfl, by simp⟩
  refine Ok.bind (R := fun c : List Int => c.length = K) (Ok.ite (fun _ => ?_) fun _ => ⟨_, rfl, hc1⟩) fun c2 hc2 => ?_
  · have hcl : (JU r (some 6) (some (6 + (K : Int)))).length = K := by
      unfold JU
      rw [show (6 : Int) + (K : Int) = ((6 + K : Nat) : Int) by omega, HT.sIx_nat, show (some (6 : Int)) = some ((6 : Nat) : Int) from rfl, HT.sIx_nat]
      simp [hr]; omega
    rw [Zw (h := fun x => x % (n : Int)) (sz (by omega)) fun x _ => X6 (by omega), Res.okb]
    exact ⟨_, rfl, (List.length_map ..).trans hcl⟩
  refine Ok.bind (R := fun c : List Int => c.length = K) (Ok.ite (fun b => ?_) fun _ => ⟨_, rfl, hc2⟩) fun c3 hc3 => ?_
  · have hKp : 0 < (K : Int) := by
      rw [Bool.and_eq_true, decide_eq_true_eq, decide_eq_true_eq] at b
      exact b.2
    have m0 := Int.emod_nonneg r[3] (show (K : Int) ≠ 0 by omega)
    have m1 := Int.emod_lt_of_pos r[3] hKp
    rw [X6 hKp, Res.okb, Xy (sz (by simp)), Res.okb, Yb (n := r[4].toNat) (by omega) (by simp; omega), Res.okb]
    obtain ⟨c', e, hl⟩ := FN (c := c2) (v := [-1, (n : Int), (n : Int) + r[5], -(n : Int), r[5] % (n : Int)][r[4].toNat]'(by simp; omega)) m0 (by omega)
    rw [e, Res.okb]
    exact ⟨_, rfl, by omega⟩
  refine Ok.bind (R := fun c : List Int => c.length = K) (Ok.ite (fun b => ?_) fun _ => ⟨_, rfl, hc3⟩) fun c4 hc4 => ?_
  · have hKp : 0 < (K : Int) := by
      rw [Bool.and_eq_true, decide_eq_true_eq, decide_eq_true_eq] at b
      exact b.2
    have m0 := Int.emod_nonneg r[3] (show (K : Int) ≠ 0 by omega)
    have m1 := Int.emod_lt_of_pos r[3] hKp
    rw [X6 hKp, Res.okb]
    obtain ⟨c', e, hl⟩ := FN (c := c3) (v := r[5] % (n : Int)) m0 (by omega)
    rw [e, Res.okb]
    exact ⟨_, rfl, by omega⟩
  refine Ok.bind (R := fun c : List Int => c.length <= K + 1) (Ok.ite (fun b => ?_) fun _ => ⟨_, rfl, by omega⟩) fun c5 hc5 => ?_
  · rw [Xy (sz (by simp)), Res.okb, show Fb c4 [r[1] % (n : Int)] = .ok (c4 ++ [r[1] % (n : Int)]) from Xy (sz (by simp; omega)), Res.okb]
    exact ⟨_, rfl, by simp; omega⟩
  refine Ok.bind (R := fun c : List Int => c.length <= K + 1) (Ok.ite (fun b => ⟨_, rfl, ?_⟩) fun _ => ⟨_, rfl, hc5⟩) fun c6 hc6 => ?_
  · show (JU c5 (some 1) none).length <= K + 1
    unfold JU
    rw [List.length_take, List.length_drop]; omega
  refine Ok.bind (R := fun c : List Int => c.length <= 1000) (Ok.ite (fun b => ?_) fun _ => ⟨_, rfl, by omega⟩) fun c7 hc7 => ⟨_, rfl, hc7⟩
  unfold VL
  rw [Xy ⟨by decide, by decide, sz (by show c6.length * 90 <= _; omega)⟩]
  simp only [Res.okb]
  refine ⟨_, rfl, ?_⟩
  show (JU _ _ _).length <= 1000
  unfold JU
  rw [List.length_take]
  have : HT.sIx ((List.replicate (90 : Int).toNat c6).flatten).length ((List.replicate (90 : Int).toNat c6).flatten).length (some 90) <= 90 := by
    rw [show (some (90 : Int)) = some ((90 : Nat) : Int) from rfl, HT.sIx_nat]
    exact Nat.min_le_left _ _
  omega
end
theorem DG.of {most : Nat} {D : List (List Int) × List (Int × Int)} (h : Drawn most D) (hm : most <= 100) : DG D where
  few := by have := h.few; omega
  short := fun w hw => by
    have h1 := h.perm.length_eq
    rw [Qj, List.length_map] at h1
    have h2 := (List.sublist_flatten_of_mem hw).length_le
    have := h.le
    omega
  le := by have := h.le; omega
  mem := fun e he => by
    have hm : e.1 ∈ D.2.map Prod.fst := List.mem_map.mpr ⟨e, he, rfl⟩
    exact ⟨h.perm.mem_iff.mpr (List.mem_flatMap.mpr ⟨_, hm, by simp⟩), h.perm.mem_iff.mpr (List.mem_flatMap.mpr ⟨_, hm, by simp⟩)⟩
  sg := fun e he => (h.pos e he).2.2
  count := by
    rw [JB, DW h.perm, Ce fun x hx => ?_, List.length_map]
    obtain ⟨e, he, rfl⟩ := List.mem_map.mp hx
    exact (h.pos e he).1
theorem DG.other {D : List (List Int) × List (Int × Int)} (h : DG D) : DG (D.1, D.2.map fun e => (e.1, -e.2)) where
  few := h.few
  short := h.short
  le := by rw [List.length_map]; exact h.le
  mem := fun e he => by
    obtain ⟨x, hx, rfl⟩ := List.mem_map.mp he
    exact h.mem x hx
  sg := fun e he => by
    obtain ⟨x, hx, rfl⟩ := List.mem_map.mp he
    have := h.sg x hx
    show -x.2 = 1 ∨ -x.2 = -1
    omega
  count := by rw [List.length_map]; exact h.count
theorem CH (ns : List Int) (_ : ns.length <= 63) : KC ns = .ok true := by
  apply Ok.eq
  unfold KC
  simp only [Res.okb]
  rw [Xy (sz (by simp)), Res.okb]
  refine Ok.bind (Ok.noE (K9 ns (by decide) _ (by simp) fun x hx => ?_)) fun g hg => ?_
  · simp only [List.mem_cons, List.not_mem_nil, or_false, or_self] at hx
    subst hx; decide
  obtain ⟨hgl, hgv⟩ := hg
  have hgl' : g.length = 2 := hgl
  have v0 := hgv 0 g[0] 8 (by simp) rfl
  have v1 := hgv 1 g[1] 8 (by simp) rfl
  rw [Yb (r := g) (k := 0) (n := 0) rfl (by omega), Yb (r := g) (k := 1) (n := 1) rfl (by omega)]
  simp only [Res.okb]
  rw [UF (by decide) (by decide), UF (by decide) (by decide)]
  simp only [Res.okb]
  rw [Xy (sz (by simp)), Res.okb]
  obtain ⟨most, hmost, hm⟩ : ∃ most : Nat, atR [(7 : Int), 40] (g[0] / 7) = .ok (most : Int) /\ most <= 40 := by
    rcases (by omega : g[0] / 7 = 0 ∨ g[0] / 7 = 1) with e | e <;> rw [e]
    · exact ⟨7, rfl, by decide⟩
    · exact ⟨40, rfl, by decide⟩
  rw [hmost, Res.okb]
  refine Ok.bind (Ok.noE (CY ns (by decide) (by omega))) fun D hD => ?_
  rw [Xy (sz (by simp)), Res.okb]
  obtain ⟨mt, hmt, hm0, hm1⟩ : ∃ mt : Nat, atR [(6 : Int), 24] (g[1] / 7) = .ok (mt : Int) /\ 0 < mt /\ mt <= 24 := by
    rcases (by omega : g[1] / 7 = 0 ∨ g[1] / 7 = 1) with e | e <;> rw [e]
    · exact ⟨6, rfl, by decide, by decide⟩
    · exact ⟨24, rfl, by decide, by decide⟩
  rw [hmt, Res.okb]
  refine Ok.bind (Ok.noE (V9 ns (by decide) hm0 hm1)) fun t ht => ?_
  obtain ⟨n, f, hn, hn2, gd, rfl⟩ := ht
  rw [Gn (by decide) (by decide) (by decide) (by decide)]
  simp only [Res.okb]
  rw [Xy (sz (by simp)), Res.okb, Xy (sz (by simp)), Res.okb, show VL [(24 : Int)] 48 = .ok (List.replicate 48 24) from rfl, Res.okb]
  rw [show Fb [(4 : Int), 5000, 9, 20, 5, (10 : Int) ^ (59 : Int).toNat] (List.replicate 48 24) = .ok ([(4 : Int), 5000, 9, 20, 5, (10 : Int) ^ (59 : Int).toNat] ++ List.replicate 48 24) from Xy (sz (by simp)), Res.okb]
  refine Ok.bind (Ok.noE (K9 ns (by decide) _ (by simp) fun x hx => ?_)) fun r hr => ?_
  · rcases List.mem_append.mp hx with z | z
    · simp only [List.mem_cons, List.not_mem_nil, or_false] at z
      rcases z with rfl | rfl | rfl | rfl | rfl | rfl <;> decide
    · rw [(List.mem_replicate.mp z).2]; decide
  obtain ⟨hrl, hrv⟩ := hr
  have hrl' : r.length = 54 := by rw [hrl]; simp
  have dg := DG.of hD (by omega)
  have hz : VC D.1 <= D.1.length := List.length_filter_le _ _
  have hKn := dg.count
  obtain ⟨K, hK⟩ : ∃ K : Nat, X4 D.1 = (K : Int) := ⟨(X4 D.1).toNat, by omega⟩
  have hle := hD.le
  have hfew := hD.few
  refine Ok.bind (Ok.noE (GB dg gd hn (by omega) hK (by omega) hrl' fun h4 => hrv 4 _ 5 (by simp [h4]) rfl)) fun c hc => ?_
  rw [Zw (h := fun e : Int × Int => (e.1, -e.2)) (sz (by have := dg.le; omega)) fun _ _ => rfl]
  simp only [Res.okb]
  rw [Xy (sz (by simp)), Res.okb]
  have step : ∀ E ∈ [D, (D.1, D.2.map fun e : Int × Int => (e.1, -e.2)), D], DG E := fun E hE => by
    simp only [List.mem_cons, List.not_mem_nil, or_false] at hE
    rcases hE with rfl | rfl | rfl
    · exact dg
    · exact dg.other
    · exact dg
  rw [Gq fun E hE => ?_]
  · rw [Res.okb, Ut]
    exact ⟨_, rfl, rfl⟩
  · have dgE := step E hE
    have hcopy : VZ E = .ok E := by
      unfold VZ
      simp only [Res.okb]
      rw [Zw (h := fun w => w) (sz (by have := dgE.few; omega)) fun _ _ => rfl, Res.okb, List.map_id']
    rw [hcopy, XX]
    simp only [Res.okb]
    rw [Zw (h := fun w => w) (sz (by rw [X5]; omega)) fun _ _ => rfl, Res.okb, List.map_id']
    obtain ⟨b, e1, e2⟩ := CO (n := n) (f := f) dgE hc
    rw [e1, e2, XX]
    simp only [Res.okb, Do, decide_true, Bool.not_true, Bool.or_self]
    rfl
end My
namespace My
open PySem L2
noncomputable def top (i : Nat) : Stmt := PySem.Challenge.pw_plait_k51_what_fits.main.body.getD i (.Pass ⟨0, 0, 0, 0⟩)
noncomputable abbrev Ju : Stmt := top 4
noncomputable abbrev Js : Stmt := top 6
noncomputable abbrev Yx : Stmt := top 7
noncomputable abbrev X2 : Stmt := top 8
noncomputable abbrev Yc : Stmt := top 9
noncomputable abbrev Qf : Stmt := top 10
noncomputable abbrev X8 : Stmt := top 12
noncomputable abbrev Jw : Stmt := top 14
noncomputable abbrev JC : Stmt := top 15
noncomputable abbrev YO : Stmt := top 16
noncomputable abbrev JA : Stmt := top 18
noncomputable abbrev UA : Stmt := top 19
noncomputable abbrev Uz : Stmt := top 20
noncomputable abbrev Qe : Stmt := top 21
noncomputable abbrev V3 : Stmt := top 22
noncomputable abbrev Zc : Stmt := top 23
noncomputable abbrev ZX : Stmt := top 24
noncomputable abbrev QS : Stmt := top 25
noncomputable abbrev Zd : Stmt := top 26
noncomputable abbrev ZG : Stmt := top 27
noncomputable abbrev QM : Stmt := top 28
noncomputable abbrev Zg : Stmt := top 29
noncomputable abbrev Zq : Stmt := top 30
noncomputable abbrev Yu : Stmt := top 31
noncomputable abbrev ZL : Stmt := top 32
noncomputable abbrev ZH : Stmt := top 33
noncomputable abbrev Zf : Stmt := top 34
noncomputable abbrev Z0 : Stmt := top 35
noncomputable abbrev Qh : Stmt := top 36
noncomputable abbrev Uj : Stmt := top 37
noncomputable abbrev Qa : Stmt := top 38
noncomputable abbrev Qc : Stmt := top 39
noncomputable abbrev Y1 : Stmt := top 40
noncomputable abbrev U8 : Stmt := top 41
noncomputable abbrev J1 : Stmt := top 42
theorem US {X : Cx} : PE X (.List [.List [.Constant (.int 0) 0 ⟨163, 17, 163, 18⟩, .Constant (.int 3) 0 ⟨163, 20, 163, 21⟩, .Constant (.int 1) 0 ⟨163, 23, 163, 24⟩, .Constant (.int 2) 0 ⟨163, 26, 163, 27⟩] ⟨163, 16, 163, 28⟩, .List [.Constant (.int 2) 0 ⟨163, 31, 163, 32⟩, .Constant (.int 1) 0 ⟨163, 34, 163, 35⟩, .Constant (.int 3) 0 ⟨163, 37, 163, 38⟩, .Constant (.int 0) 0 ⟨163, 40, 163, 41⟩] ⟨163, 30, 163, 42⟩, .List [.Constant (.int 3) 0 ⟨163, 45, 163, 46⟩, .Constant (.int 0) 0 ⟨163, 48, 163, 49⟩, .Constant (.int 2) 0 ⟨163, 51, 163, 52⟩, .Constant (.int 1) 0 ⟨163, 54, 163, 55⟩] ⟨163, 44, 163, 56⟩, .List [.Constant (.int 1) 0 ⟨163, 59, 163, 60⟩, .Constant (.int 2) 0 ⟨163, 62, 163, 63⟩, .Constant (.int 0) 0 ⟨163, 65, 163, 66⟩, .Constant (.int 3) 0 ⟨163, 68, 163, 69⟩] ⟨163, 58, 163, 70⟩] ⟨163, 15, 163, 71⟩) (Ba (XH (Ba (XH (tC (.int 0)) (XH (tC (.int 3)) (XH (tC (.int 1)) (XH (tC (.int 2)) Z4))))) (XH (Ba (XH (tC (.int 2)) (XH (tC (.int 1)) (XH (tC (.int 3)) (XH (tC (.int 0)) Z4))))) (XH (Ba (XH (tC (.int 3)) (XH (tC (.int 0)) (XH (tC (.int 2)) (XH (tC (.int 1)) Z4))))) (XH (Ba (XH (tC (.int 1)) (XH (tC (.int 2)) (XH (tC (.int 0)) (XH (tC (.int 3)) Z4))))) Z4))))) := by
  refine XV ?_
  refine Ub ?_ ?_
  · exact XV (Xd Xf (Xd Xf (Xd Xf (Xd Xf Xg))))
  refine Ub ?_ ?_
  · exact XV (Xd Xf (Xd Xf (Xd Xf (Xd Xf Xg))))
  refine Ub ?_ ?_
  · exact XV (Xd Xf (Xd Xf (Xd Xf (Xd Xf Xg))))
  refine Ub ?_ ?_
  · exact XV (Xd Xf (Xd Xf (Xd Xf (Xd Xf Xg))))
  exact Xg
structure Blt (mg : Str -> Option Value) : Prop where
  b_abs : mg "abs" = none
  b_all : mg "all" = none
  b_bool : mg "bool" = none
  b_enumerate : mg "enumerate" = none
  b_isinstance : mg "isinstance" = none
  b_len : mg "len" = none
  b_list : mg "list" = none
  b_max : mg "max" = none
  b_min : mg "min" = none
  b_range : mg "range" = none
  b_sum : mg "sum" = none
section
variable {P : Program} {w : World} {K : PySem.W.Frag} {mg : Str -> Option Value} {base : Heap}
theorem Kw : FnScope ["drawing", "passage", "at", "walk"] ["drawing", "passage"] (Xi Ju) := ⟨rfl, rfl, rfl, by decide +kernel, rfl, by decide +kernel, by decide +kernel⟩
set_option maxHeartbeats 4000000 in
theorem BW (D : Def K mg "spot" Ju ["drawing", "passage"])  (Z : Blt mg) : Fn P w K mg base 1 "spot" ["drawing", "passage"] (sp2 (rP2 (rV (rV Xa)) (rV (rP2 Xa Xa))) Xa (oF (rP2 Xa Xa)) JY K) := by
  refine YT D Kw (fun vs H Q E h => ?_) (fun f cdv A outer s H vs Q E hr h => ?_)
  · obtain ⟨v_0, v_1, a_0, a_1, b, rfl, _⟩ := h; rfl
  obtain ⟨v_0, v_1, a_0, a_1, b, rfl, h_0, h_1, hm, q⟩ := h
  have hu := hu8 hr
  have hu1 := YK hr
  refine ⟨_, (Xc (Yf PassesOwn.never rfl (En rfl Z.b_enumerate (Xx (YY K rfl) (pv 0) Xf (fun _ _ => rfl))) (Q3 rfl (XQ (Xr (i := 2) Kw.nd rfl (Or.inl rfl)) (XQ (Xr (i := 3) Kw.nd rfl (Or.inl rfl)) ZO)))
      (Xc (YD (Xt Km (pv 1) (pv 3) rfl)
        (Xc (XF (Z8 (Xd (pv 2) (Xd (Bj (K := K) rfl PySem.F.plainAttrs_list PySem.F.slot_list_index PySem.F.type_list_index (UX K rfl) (pv 3) (Xd (pv 1) Xg)) Xg))))
        Xh)
        Xh)
      Xh))
    (Xc Cz
    Xh)), ?_⟩
  refine YN (S := (SC.add (SC.add SC.nil K (rP2 (rV (rV Xa)) (rV (rP2 Xa Xa))) v_0 a_0) K Xa v_1 a_1)) (σ := [some v_0, some v_1, none, none]) 0 ?_ (SC.i (SC.i SC.t h_0) h_1) hm q rfl
  unfold JY
  exact (J7 (K := K) (J := ({ oo := fun x3 => [], ss := fun x3 => [some v_0, some v_1, x3.1, x3.2], sc := fun g4 x3 => (SC.add (SC.add SC.nil K (rP2 (rV (rV Xa)) (rV (rP2 Xa Xa))) v_0 a_0) K Xa v_1 a_1) } : Jn (Unit) (Option V × Option V))) (fun _ => tg2 2 3) ((none), (none)) () (Fh (Ji (Xm (r := (rP2 (rV (rV Xa)) (rV (rP2 Xa Xa)))) 0 rfl (fun _ s => (SC.r (SC.l s)))))) rfl rfl (fun _ s => (SC.i (SC.i SC.t (SC.r (SC.l s))) (SC.r s))) (fun g5 x6 a7 v8 => (Jl (Xo (K := K) (Bc (Xb (r := Xa) 1 rfl (fun _ s => (SC.r (SC.l (SC.l s))))) (Xb (r := (rV Xa)) 3 rfl (fun _ s => (SC.r s))))) (XE (EvS.ev (Qv (Xm (r := Xa) 2 rfl (fun _ s => (SC.r (SC.l s)))) (EvB.sh (U9 (Xb (r := (rV Xa)) 3 rfl (fun _ s => (SC.r s))) (Xb (r := Xa) 1 rfl (fun _ s => (SC.r (SC.l (SC.l s)))))))))) (UE (Xv (J := _) ((some v8.1), (some v8.2)) () rfl rfl (fun _ s => (SC.i (SC.i SC.t (SC.r (SC.l (SC.l (SC.l s))))) (SC.r (SC.l (SC.l s))))))))) fun g18 x19 => E5)
theorem Qb : FnScope ["walk", "unders"] ["walk"] (Xi X2) := ⟨rfl, rfl, rfl, by decide +kernel, rfl, by decide +kernel, by decide +kernel⟩
set_option maxHeartbeats 4000000 in
theorem Ve (D : Def K mg "arcs_of_walk" X2 ["walk"])  (Z : Blt mg) : Fn P w K mg base 1 "arcs_of_walk" ["walk"] (sp1 (rV Xa) (oF Xa) XU K) := by
  refine YT D Qb (fun vs H Q E h => ?_) (fun f cdv A outer s H vs Q E hr h => ?_)
  · obtain ⟨v_0, a_0, b, rfl, _⟩ := h; rfl
  obtain ⟨v_0, a_0, b, rfl, h_0, hm, q⟩ := h
  have hu := hu8 hr
  have hu1 := YK hr
  refine ⟨_, (Xc (Q7 1 (Xi X2) ["walk", "unders"] ["passage"] [] rfl Qb.nd rfl rfl (XW (K := K) rfl (pv 0)) (Zm (by decide)) (fun cl C s H ex E => ⟨Xr (i := 0) (show List.Nodup (["passage"] : List Str) by decide +kernel) rfl (Or.inl rfl), (KA (Xt Qy (pv 0) Xf (XA _))), (pv 0)⟩))
    (Xc (XF (Xu (Vq rfl) rfl Z.b_max PyProof.Rows.boot_max (Xd (Xu (Xk K rfl) rfl Z.b_len PySem.boot_len (Xd (pv 1) Xg)) (Xd Xf Xg))))
    Xh)), ?_⟩
  refine YN (S := (SC.add SC.nil K (rV Xa) v_0 a_0)) (σ := [some v_0, none]) 0 ?_ (SC.i SC.t h_0) hm q rfl
  unfold XU
  exact (Xz (K := K) (r := (rV Xa)) 1 (Ev.sh (V6 (fun _ => tg1 0) (XG (Xm (r := (rV Xa)) 0 rfl (fun _ s => (SC.r s)))) (fun C3 a4 v5 => (Xo (K := K) (Zy (Xb (r := Xa) 0 rfl (fun _ s => (SC.r s))) (Xe 0)))) (fun C3 a4 v5 => (EvS.ev (Xm (r := Xa) 0 rfl (fun _ s => (SC.r s))))))) fun a1 v2 => (XE (EvS.ev (EvB.sh (KQ (XO (Xb (r := (rV Xa)) 1 rfl (fun _ s => (SC.r s)))) (Xe 1))))))
theorem Ys : FnScope ["walk", "first", "number", "unders", "ways", "passage"] ["walk", "first"] (Xi Yc) := ⟨rfl, rfl, rfl, by decide +kernel, rfl, by decide +kernel, by decide +kernel⟩
set_option maxHeartbeats 4000000 in
theorem J3 (D : Def K mg "arcs_of_ways" Yc ["walk", "first"]) (g_arcs_of_walk : Fn P w K mg base 1 "arcs_of_walk" ["walk"] (sp1 (rV Xa) (oF Xa) XU K)) (Z : Blt mg) : Fn P w K mg base 2 "arcs_of_ways" ["walk", "first"] (sp2 (rV Xa) Xa (oL (oF Xa)) YE K) := by
  refine YT D Ys (fun vs H Q E h => ?_) (fun f cdv A outer s H vs Q E hr h => ?_)
  · obtain ⟨v_0, v_1, a_0, a_1, b, rfl, _⟩ := h; rfl
  obtain ⟨v_0, v_1, a_0, a_1, b, rfl, h_0, h_1, hm, q⟩ := h
  have hu := hu8 hr
  have hu1 := YK hr
  refine ⟨_, (Xc (Xp (i := 2) Ys.nd rfl (Or.inl rfl) (Ya g_arcs_of_walk hr (by decide) (Xd (pv 0) Xg)))
    (Xc (Xp (i := 3) Ys.nd rfl (Or.inl rfl) Xf)
    (Xc (Xp (i := 4) Ys.nd rfl (Or.inl rfl) (XV (Xd (pv 1) Xg)))
    (Xc (Yf PassesOwn.never rfl (XW (K := K) rfl (ZY (Qs K rfl) (pv 0) Jp (Qg (Vi Qd Xf)))) (Xr (i := 5) Ys.nd rfl (Or.inl rfl))
      (Xc (YD (Xt Qy (pv 5) Xf (XA _))
        (Xc (Bk (i := 3) Ys.nd rfl (Or.inl rfl) Xf Bo)
        Xh)
        Xh)
      (Xc (Yz (Zz PySem.F.plainAttrs_list PySem.F.slot_list_append PySem.F.type_list_append XZ (pv 4) (Xd (Xq X0 (pv 1) (Xq X3 (pv 3) (pv 2))) Xg)))
      Xh)))
    (Xc (XF (pv 4))
    Xh))))), ?_⟩
  refine YN (S := (SC.add (SC.add SC.nil K (rV Xa) v_0 a_0) K Xa v_1 a_1)) (σ := [some v_0, some v_1, none, none, none, none]) 1 ?_ (SC.i (SC.i SC.t h_0) h_1) hm q rfl
  unfold YE
  exact (Xz (K := K) (r := Xa) 2 (EvB.sh (Ev.toB (Yn (Xb (r := (rV Xa)) 0 rfl (fun _ s => (SC.r (SC.l s))))))) fun a1 v2 => (Xz (K := K) (r := Xa) 3 (EvB.sh (Xe 0)) fun a5 v6 => (XN (K := K) (o := (oL (oF Xa))) 4 0 (YG (Xn (Xm (r := Xa) 1 rfl (fun _ s => (SC.r (SC.l (SC.l s))))) X9)) (Nat.le_of_ble_eq_true rfl) fun a7 v8 C9 => (YC (K := K) (J := ({ oo := fun x18 => [x18.2.2.2], ss := fun x18 => [some v_0, some v_1, some v2, some x18.2.1, some x18.2.2.1, x18.1], sc := fun g19 x18 => (SC.addO (SC.add (SC.add (SC.add (SC.add SC.nil K (rV Xa) v_0 a_0) K Xa v_1 a_1) K Xa v2 a1) K Xa x18.2.1 g19.1) K (oL (oF Xa)) x18.2.2.1 g19.2 x18.2.2.2) } : Jn (Int × (List Int)) (Option V × V × V × List XL))) (fun _ => tg1 5) ((none), v6, v8, C9) (a5, a7) (XG (Ev.sh (QW (EvS.ls (Xm (r := (rV Xa)) 0 rfl (fun _ s => (SC.r (SC.l (SC.l (SC.l (SC.l s)))))))) Qo (ZE (K := K) (ZC (Xe 1)))))) rfl rfl (fun _ s => (SC.i (SC.i (SC.i (SC.i (SC.i SC.t (SC.r (SC.l (SC.l (SC.l (SC.l s)))))) (SC.r (SC.l (SC.l (SC.l s))))) (SC.r (SC.l (SC.l s)))) (SC.r (SC.l s))) (SC.r s))) (fun g20 x21 a22 v23 => (Yr (J := ({ oo := fun x27 => [x21.2.2.2], ss := fun x27 => [some v_0, some v_1, some v2, some x27, some x21.2.2.1, some v23], sc := fun g28 x27 => (SC.add (SC.add (SC.addO (SC.add (SC.add (SC.add SC.nil K (rV Xa) v_0 a_0) K Xa v_1 a_1) K Xa v2 a1) K (oL (oF Xa)) x21.2.2.1 g20.2 x21.2.2.2) K Xa v23 a22) K Xa x27 g28) } : Jn (Int) (V))) (Y0 (Fd := FNd ({ oo := fun x27 => [x21.2.2.2], ss := fun x27 => [some v_0, some v_1, some v2, some x27, some x21.2.2.1, some v23], sc := fun g28 x27 => (SC.add (SC.add (SC.addO (SC.add (SC.add (SC.add SC.nil K (rV Xa) v_0 a_0) K Xa v_1 a_1) K Xa v2 a1) K (oL (oF Xa)) x21.2.2.1 g20.2 x21.2.2.2) K Xa v23 a22) K Xa x27 g28) } : Jn (Int) (V))) (Xo (K := K) (Zy (Xb (r := Xa) 5 rfl (fun _ s => (SC.r s))) (Xe 0))) (Bg (K := K) (f := fun a31 => (Res.ok (a31))) 3 rfl (fun _ s => (SC.r (SC.l (SC.l s)))) (Xe 1) fun a31 v30 => (Xv (J := _) (v30) (a31) rfl rfl (fun _ s => (SC.i (SC.i (SC.i (SC.i (SC.i (SC.i SC.t (SC.r (SC.l (SC.l (SC.l (SC.l (SC.l (SC.l s)))))))) (SC.r (SC.l (SC.l (SC.l (SC.l (SC.l s))))))) (SC.r (SC.l (SC.l (SC.l (SC.l s)))))) (SC.r (SC.l (SC.l s)))) (SC.r (SC.l s))) (SC.r s))))) (Xv (J := _) (x21.2.1) (g20.1) rfl rfl (fun _ s => (SC.i (SC.i (SC.i (SC.i (SC.i (SC.i SC.t (SC.r (SC.l (SC.l (SC.l (SC.l (SC.l s))))))) (SC.r (SC.l (SC.l (SC.l (SC.l s)))))) (SC.r (SC.l (SC.l (SC.l s))))) (SC.r (SC.l s))) (SC.r s)) (SC.r (SC.l (SC.l s))))))) fun g33 x32 => (ZB (K := K) (o := (oF Xa)) (f := fun a40 => (Res.ok (g33, a40))) 4 0 rfl rfl rfl (fun _ s => (SC.r (SC.l (SC.l s)))) (EvS.ev (EvB.sh (XI (Xb (r := Xa) 1 rfl (fun _ s => (SC.r (SC.l (SC.l (SC.l (SC.l s))))))) (XM (Xb (r := Xa) 3 rfl (fun _ s => (SC.r s))) (Xb (r := Xa) 2 rfl (fun _ s => (SC.r (SC.l (SC.l (SC.l s)))))))))) fun a38 C39 => (Xv (J := _) ((some v23), x32, x21.2.2.1, C39) (g33, (g20.2 ++ [a38])) rfl rfl (fun _ s => (SC.i (SC.i (SC.i (SC.i (SC.i SC.t (SC.r (SC.l (SC.l (SC.l (SC.l (SC.l (SC.l s)))))))) (SC.r (SC.l (SC.l (SC.l (SC.l (SC.l s))))))) (SC.r (SC.l (SC.l (SC.l (SC.l s)))))) (SC.r (SC.l s))) (SC.r s))))))) fun g41 x42 => (XE (Yp (o := (oL (oF Xa))) 4 0 rfl rfl (fun _ s => (SC.r s))))))))
theorem JW : FnScope ["drawing", "told", "first", "walk"] ["drawing"] (Xi Js) := ⟨rfl, rfl, rfl, by decide +kernel, rfl, by decide +kernel, by decide +kernel⟩
set_option maxHeartbeats 4000000 in
theorem Eb (D : Def K mg "arcs" Js ["drawing"]) (g_arcs_of_walk : Fn P w K mg base 1 "arcs_of_walk" ["walk"] (sp1 (rV Xa) (oF Xa) XU K)) (g_arcs_of_ways : Fn P w K mg base 2 "arcs_of_ways" ["walk", "first"] (sp2 (rV Xa) Xa (oL (oF Xa)) YE K)) (Z : Blt mg) : Fn P w K mg base 3 "arcs" ["drawing"] (sp1 (rP2 (rV (rV Xa)) (rV (rP2 Xa Xa))) (oL (oL (oF Xa))) VG K) := by
  refine YT D JW (fun vs H Q E h => ?_) (fun f cdv A outer s H vs Q E hr h => ?_)
  · obtain ⟨v_0, a_0, b, rfl, _⟩ := h; rfl
  obtain ⟨v_0, a_0, b, rfl, h_0, hm, q⟩ := h
  have hu := hu8 hr
  have hu1 := YK hr
  refine ⟨_, (Xc (Xp (i := 1) JW.nd rfl (Or.inl rfl) (XV Xg))
    (Xc (Xp (i := 2) JW.nd rfl (Or.inl rfl) Xf)
    (Xc (Yf PassesOwn.never rfl (XW (K := K) rfl (Xx (YY K rfl) (pv 0) Xf (fun _ _ => rfl))) (Xr (i := 3) JW.nd rfl (Or.inl rfl))
      (Xc (Yz (Zz PySem.F.plainAttrs_list PySem.F.slot_list_append PySem.F.type_list_append XZ (pv 1) (Xd (Ya g_arcs_of_ways hr (by decide) (Xd (pv 3) (Xd (pv 2) Xg))) Xg)))
      (Xc (Bk (i := 2) JW.nd rfl (Or.inl rfl) (Ya g_arcs_of_walk hr (by decide) (Xd (pv 3) Xg)) Bo)
      Xh)))
    (Xc (XF (pv 1))
    Xh)))), ?_⟩
  refine YN (S := (SC.add SC.nil K (rP2 (rV (rV Xa)) (rV (rP2 Xa Xa))) v_0 a_0)) (σ := [some v_0, none, none, none]) 1 ?_ (SC.i SC.t h_0) hm q rfl
  unfold VG
  exact (XN (K := K) (o := (oL (oL (oF Xa)))) 1 0 (Qx (o := (oL (oF Xa)))) (Nat.le_of_ble_eq_true rfl) fun a1 v2 C3 => (Xz (K := K) (r := Xa) 2 (EvB.sh (Xe 0)) fun a4 v5 => (YC (K := K) (J := ({ oo := fun x7 => [x7.2.2.2], ss := fun x7 => [some v_0, some x7.2.2.1, some x7.2.1, x7.1], sc := fun g8 x7 => (SC.addO (SC.add (SC.add SC.nil K (rP2 (rV (rV Xa)) (rV (rP2 Xa Xa))) v_0 a_0) K Xa x7.2.1 g8.1) K (oL (oL (oF Xa))) x7.2.2.1 g8.2 x7.2.2.2) } : Jn (Int × (List (List Int))) (Option V × V × V × List XL))) (fun _ => tg1 3) ((none), v5, v2, C3) (a4, a1) (XG (Ji (Xm (r := (rP2 (rV (rV Xa)) (rV (rP2 Xa Xa)))) 0 rfl (fun _ s => (SC.r (SC.l (SC.l s))))))) rfl rfl (fun _ s => (SC.i (SC.i (SC.i SC.t (SC.r (SC.l (SC.l s)))) (SC.r s)) (SC.r (SC.l s)))) (fun g9 x10 a11 v12 => (ZB (K := K) (o := (oL (oF Xa))) (f := fun a18 => (Res.bind (Res.bind (Res.ok a11) fun x20 => (noE (XU x20))) fun x21 => ((fun (a23 : Int) => (Res.ok (a23, a18))) (g9.1 + x21)))) 1 0 rfl rfl rfl (fun _ s => (SC.r (SC.l s))) (Ym (Xb (r := (rV Xa)) 3 rfl (fun _ s => (SC.r s))) (Xb (r := Xa) 2 rfl (fun _ s => (SC.r (SC.l (SC.l s)))))) fun a16 C17 => (Bg (K := K) (f := fun a23 => (Res.ok (a23, (g9.2 ++ [a16])))) 2 rfl (fun _ s => (SC.r (SC.l (SC.l (SC.l s))))) (Ev.toB (Yn (Xb (r := (rV Xa)) 3 rfl (fun _ s => (SC.r (SC.l s)))))) fun a23 v22 => (Xv (J := _) ((some v12), v22, x10.2.2.1, C17) (a23, (g9.2 ++ [a16])) rfl rfl (fun _ s => (SC.i (SC.i (SC.i SC.t (SC.r (SC.l (SC.l (SC.l (SC.l (SC.l s))))))) (SC.r s)) (SC.r (SC.l s)))))))) fun g24 x25 => (XE (Yp (o := (oL (oL (oF Xa)))) 1 0 rfl rfl (fun _ s => (SC.r s)))))))
theorem UJ : FnScope ["drawing"] ["drawing"] (Xi Yx) := ⟨rfl, rfl, rfl, by decide +kernel, rfl, by decide +kernel, by decide +kernel⟩
set_option maxHeartbeats 4000000 in
theorem Kg (D : Def K mg "arc_count" Yx ["drawing"]) (g_arcs_of_walk : Fn P w K mg base 1 "arcs_of_walk" ["walk"] (sp1 (rV Xa) (oF Xa) XU K)) (Z : Blt mg) : Fn P w K mg base 2 "arc_count" ["drawing"] (sp1 (rP2 (rV (rV Xa)) (rV (rP2 Xa Xa))) (oF Xa) Za K) := by
  refine YT D UJ (fun vs H Q E h => ?_) (fun f cdv A outer s H vs Q E hr h => ?_)
  · obtain ⟨v_0, a_0, b, rfl, _⟩ := h; rfl
  obtain ⟨v_0, a_0, b, rfl, h_0, hm, q⟩ := h
  have hu := hu8 hr
  have hu1 := YK hr
  refine ⟨_, (Xc (XF (Xu (DK rfl) rfl Z.b_sum PyProof.Rows.boot_sum (Xd (ZJ (sc := (Xi Yx)) (N0 := ["drawing"]) (tns := ["walk"]) (caps := []) rfl (XW (K := K) rfl (Xx (YY K rfl) (pv 0) Xf (fun _ _ => rfl))) (Zm (by decide)) (fun cl C s H ex E => ⟨Xr (i := 0) (show List.Nodup (["walk"] : List Str) by decide +kernel) rfl (Or.inl rfl), ZD, (Ya g_arcs_of_walk hr (by decide) (Xd (pv 0) Xg))⟩)) Xg)))
    Xh), ?_⟩
  refine YN (S := (SC.add SC.nil K (rP2 (rV (rV Xa)) (rV (rP2 Xa Xa))) v_0 a_0)) (σ := [some v_0]) 0 ?_ (SC.i SC.t h_0) hm q rfl
  unfold Za
  exact (XE (EvS.ev (EvB.sh (Ef (Ev.toB (Zx (fun _ => tg1 0) (XG (Ji (Xm (r := (rP2 (rV (rV Xa)) (rV (rP2 Xa Xa)))) 0 rfl (fun _ s => (SC.r s))))) (fun C3 a4 v5 => (Yn (Xb (r := (rV Xa)) 0 rfl (fun _ s => (SC.r s)))))))))))
theorem Y5 : FnScope ["drawing", "numbers", "told", "crossing", "sign", "above", "below", "over", "ways", "inward", "outward"] ["drawing"] (Xi Qf) := ⟨rfl, rfl, rfl, by decide +kernel, rfl, by decide +kernel, by decide +kernel⟩
set_option maxHeartbeats 4000000 in
theorem CQ (D : Def K mg "meets" Qf ["drawing"]) (g_arcs : Fn P w K mg base 3 "arcs" ["drawing"] (sp1 (rP2 (rV (rV Xa)) (rV (rP2 Xa Xa))) (oL (oL (oF Xa))) VG K)) (g_spot : Fn P w K mg base 1 "spot" ["drawing", "passage"] (sp2 (rP2 (rV (rV Xa)) (rV (rP2 Xa Xa))) Xa (oF (rP2 Xa Xa)) JY K)) (Z : Blt mg) : Fn P w K mg base 4 "meets" ["drawing"] (sp1 (rP2 (rV (rV Xa)) (rV (rP2 Xa Xa))) (oL (oF (rP5 Xa Xa Xa Xa Xa))) QB K) := by
  refine YT D Y5 (fun vs H Q E h => ?_) (fun f cdv A outer s H vs Q E hr h => ?_)
  · obtain ⟨v_0, a_0, b, rfl, _⟩ := h; rfl
  obtain ⟨v_0, a_0, b, rfl, h_0, hm, q⟩ := h
  have hu := hu8 hr
  have hu1 := YK hr
  refine ⟨_, (Xc (Xp (i := 1) Y5.nd rfl (Or.inl rfl) (Ya g_arcs hr (by decide) (Xd (pv 0) Xg)))
    (Xc (Xp (i := 2) Y5.nd rfl (Or.inl rfl) (XV Xg))
    (Xc (Yf PassesOwn.never rfl (XW (K := K) rfl (Xx (YY K rfl) (pv 0) Xf (fun _ _ => rfl))) (Q3 rfl (XQ (Xr (i := 3) Y5.nd rfl (Or.inl rfl)) (XQ (Xr (i := 4) Y5.nd rfl (Or.inl rfl)) ZO)))
      (Xc (Xp (i := 5) Y5.nd rfl (Or.inl rfl) (Ya g_spot hr (by decide) (Xd (pv 0) (Xd (pv 3) Xg))))
      (Xc (Xp (i := 6) Y5.nd rfl (Or.inl rfl) (Ya g_spot hr (by decide) (Xd (pv 0) (Xd (Vi Qd (pv 3)) Xg))))
      (Xc (Xp (i := 7) Y5.nd rfl (Or.inl rfl) (Xx (Xj K rfl) (Xx (Xj K rfl) (pv 1) (Xx (YY K rfl) (pv 5) Xf (fun _ _ => rfl)) (fun _ _ => rfl)) (Xx (YY K rfl) (pv 5) Xf (fun _ _ => rfl)) (fun _ _ => rfl)))
      (Xc (Xp (i := 8) Y5.nd rfl (Or.inl rfl) (Xx (Xj K rfl) (pv 1) (Xx (YY K rfl) (pv 6) Xf (fun _ _ => rfl)) (fun _ _ => rfl)))
      (Xc (Xp (i := 9) Y5.nd rfl (Or.inl rfl) (Xx (Xj K rfl) (pv 8) (Xx (YY K rfl) (pv 6) Xf (fun _ _ => rfl)) (fun _ _ => rfl)))
      (Xc (Xp (i := 10) Y5.nd rfl (Or.inl rfl) (Xx (Xj K rfl) (pv 8) (Xq X3 (Xq X0 (Xx (YY K rfl) (pv 6) Xf (fun _ _ => rfl)) Xf) (Xu (Xk K rfl) rfl Z.b_len PySem.boot_len (Xd (pv 8) Xg))) (fun _ _ => rfl)))
      (Xc (Yz (Zz PySem.F.plainAttrs_list PySem.F.slot_list_append PySem.F.type_list_append XZ (pv 2) (Xd (Z8 (Xd (pv 3) (Xd (pv 4) (Xd (pv 7) (Xd (pv 9) (Xd (pv 10) Xg)))))) Xg)))
      Xh))))))))
    (Xc (XF (pv 2))
    Xh)))), ?_⟩
  refine YN (S := (SC.add SC.nil K (rP2 (rV (rV Xa)) (rV (rP2 Xa Xa))) v_0 a_0)) (σ := [some v_0, none, none, none, none, none, none, none, none, none, none]) 1 ?_ (SC.i SC.t h_0) hm q rfl
  unfold QB
  exact (Xz (K := K) (r := (rV (rV Xa))) 1 (Ev.sh (Yn (Xb (r := (rP2 (rV (rV Xa)) (rV (rP2 Xa Xa)))) 0 rfl (fun _ s => (SC.r s))))) fun a1 v2 => (XN (K := K) (o := (oL (oF (rP5 Xa Xa Xa Xa Xa)))) 2 0 (Qx (o := (oF (rP5 Xa Xa Xa Xa Xa)))) (Nat.le_of_ble_eq_true rfl) fun a5 v6 C7 => (YC (K := K) (J := ({ oo := fun x9 => [x9.2.2.2.2.2.2.2.2.2], ss := fun x9 => [some v_0, some v2, some x9.2.2.2.2.2.2.2.2.1, x9.1, x9.2.1, x9.2.2.1, x9.2.2.2.1, x9.2.2.2.2.1, x9.2.2.2.2.2.1, x9.2.2.2.2.2.2.1, x9.2.2.2.2.2.2.2.1], sc := fun g10 x9 => (SC.addO (SC.add (SC.add SC.nil K (rP2 (rV (rV Xa)) (rV (rP2 Xa Xa))) v_0 a_0) K (rV (rV Xa)) v2 a1) K (oL (oF (rP5 Xa Xa Xa Xa Xa))) x9.2.2.2.2.2.2.2.2.1 g10 x9.2.2.2.2.2.2.2.2.2) } : Jn ((List (Int × Int × Int × Int × Int))) (Option V × Option V × Option V × Option V × Option V × Option V × Option V × Option V × V × List XL))) (fun _ => tg2 3 4) ((none), (none), (none), (none), (none), (none), (none), (none), v6, C7) (a5) (XG (Fj (Xm (r := (rP2 (rV (rV Xa)) (rV (rP2 Xa Xa)))) 0 rfl (fun _ s => (SC.r (SC.l (SC.l s))))))) rfl rfl (fun _ s => (SC.i (SC.i (SC.i SC.t (SC.r (SC.l (SC.l s)))) (SC.r (SC.l s))) (SC.r s))) (fun g11 x12 a13 v14 => (Xz (K := K) (r := (rP2 Xa Xa)) 5 (EvB.sh (Ev.toB (Ym (Xb (r := (rP2 (rV (rV Xa)) (rV (rP2 Xa Xa)))) 0 rfl (fun _ s => (SC.r (SC.l (SC.l (SC.l (SC.l s))))))) (Xb (r := Xa) 3 rfl (fun _ s => (SC.r (SC.l s))))))) fun a15 v16 => (Xz (K := K) (r := (rP2 Xa Xa)) 6 (EvB.sh (Ev.toB (Ym (Xb (r := (rP2 (rV (rV Xa)) (rV (rP2 Xa Xa)))) 0 rfl (fun _ s => (SC.r (SC.l (SC.l (SC.l (SC.l (SC.l s)))))))) (ZC (Xb (r := Xa) 3 rfl (fun _ s => (SC.r (SC.l (SC.l s))))))))) fun a20 v21 => (Xz (K := K) (r := Xa) 7 (EvB.sh (Xs (Xs (Xb (r := (rV (rV Xa))) 1 rfl (fun _ s => (SC.r (SC.l (SC.l (SC.l (SC.l (SC.l s)))))))) (DM (Xb (r := (rP2 Xa Xa)) 5 rfl (fun _ s => (SC.r (SC.l s)))))) (Vj (Xb (r := (rP2 Xa Xa)) 5 rfl (fun _ s => (SC.r (SC.l s))))))) fun a26 v27 => (Xz (K := K) (r := (rV Xa)) 8 (EU (EvS.ls (Xm (r := (rV (rV Xa))) 1 rfl (fun _ s => (SC.r (SC.l (SC.l (SC.l (SC.l (SC.l (SC.l s)))))))))) (DM (Xb (r := (rP2 Xa Xa)) 6 rfl (fun _ s => (SC.r (SC.l s)))))) fun a34 v35 => (Xz (K := K) (r := Xa) 9 (EvB.sh (Xs (Xb (r := (rV Xa)) 8 rfl (fun _ s => (SC.r s))) (Vj (Xb (r := (rP2 Xa Xa)) 6 rfl (fun _ s => (SC.r (SC.l (SC.l s)))))))) fun a39 v40 => (Xz (K := K) (r := Xa) 10 (EvB.sh (Xs (Xb (r := (rV Xa)) 8 rfl (fun _ s => (SC.r (SC.l s)))) (XM (XI (Vj (Xb (r := (rP2 Xa Xa)) 6 rfl (fun _ s => (SC.r (SC.l (SC.l (SC.l s))))))) (Xe 1)) (XO (Xb (r := (rV Xa)) 8 rfl (fun _ s => (SC.r (SC.l s)))))))) fun a44 v45 => (ZB (K := K) (o := (oF (rP5 Xa Xa Xa Xa Xa))) (f := fun a61 => (Res.ok (a61))) 2 0 rfl rfl rfl (fun _ s => (SC.r (SC.l (SC.l (SC.l (SC.l (SC.l (SC.l (SC.l (SC.l s)))))))))) (EvS.ev (K3 (Xm (r := Xa) 3 rfl (fun _ s => (SC.r (SC.l (SC.l (SC.l (SC.l (SC.l (SC.l (SC.l s)))))))))) (Xm (r := Xa) 4 rfl (fun _ s => (SC.r (SC.l (SC.l (SC.l (SC.l (SC.l (SC.l s))))))))) (Xm (r := Xa) 7 rfl (fun _ s => (SC.r (SC.l (SC.l (SC.l s)))))) (Xm (r := Xa) 9 rfl (fun _ s => (SC.r (SC.l s)))) (Xm (r := Xa) 10 rfl (fun _ s => (SC.r s))))) fun a59 C60 => (Xv (J := _) ((some v14.1), (some v14.2), (some v16), (some v21), (some v27), (some v35), (some v40), (some v45), x12.2.2.2.2.2.2.2.2.1, C60) ((g11 ++ [a59])) rfl rfl (fun _ s => (SC.i (SC.i (SC.i SC.t (SC.r (SC.l (SC.l (SC.l (SC.l (SC.l (SC.l (SC.l (SC.l (SC.l (SC.l (SC.l s))))))))))))) (SC.r (SC.l (SC.l (SC.l (SC.l (SC.l (SC.l (SC.l (SC.l (SC.l (SC.l s)))))))))))) (SC.r s)))))))))))) fun g62 x63 => (XE (Yp (o := (oL (oF (rP5 Xa Xa Xa Xa Xa)))) 2 0 rfl rfl (fun _ s => (SC.r s)))))))
theorem VE : FnScope ["numbers", "size"] ["numbers", "size"] (Xi X8) := ⟨rfl, rfl, rfl, by decide +kernel, rfl, by decide +kernel, by decide +kernel⟩
set_option maxHeartbeats 4000000 in
theorem VA (D : Def K mg "all_colours" X8 ["numbers", "size"])  (Z : Blt mg) : Fn P w K mg base 1 "all_colours" ["numbers", "size"] (sp2 (rV Xa) Xa (oF X7) YU K) := by
  refine YT D VE (fun vs H Q E h => ?_) (fun f cdv A outer s H vs Q E hr h => ?_)
  · obtain ⟨v_0, v_1, a_0, a_1, b, rfl, _⟩ := h; rfl
  obtain ⟨v_0, v_1, a_0, a_1, b, rfl, h_0, h_1, hm, q⟩ := h
  have hu := hu8 hr
  have hu1 := YK hr
  refine ⟨_, (Xc (XF (Xu (U6 rfl) rfl Z.b_all PyProof.Rows.boot_all (Xd (ZJ (sc := (Xi X8)) (N0 := ["numbers", "size"]) (tns := ["number"]) (caps := [(1, "size")]) rfl (XW (K := K) rfl (pv 0)) (Zm (by decide)) (fun cl C s H ex E => ⟨Xr (i := 0) (show List.Nodup (["number", "size"] : List Str) by decide +kernel) rfl (Or.inl rfl), ZD, (CK Ia Qy Xf (pv 0) (pv 1))⟩)) Xg)))
    Xh), ?_⟩
  refine YN (S := (SC.add (SC.add SC.nil K (rV Xa) v_0 a_0) K Xa v_1 a_1)) (σ := [some v_0, some v_1]) 0 ?_ (SC.i (SC.i SC.t h_0) h_1) hm q rfl
  unfold YU
  exact (XE (EvS.ev (EvB.sh (Fr (Ev.toB (Zx (fun _ => tg1 0) (XG (Xm (r := (rV Xa)) 0 rfl (fun _ s => (SC.r (SC.l s))))) (fun C2 a3 v4 => (EvS.ev (EvB.sh (DT (Xe 0) (Xb (r := Xa) 0 rfl (fun _ s => (SC.r s))) (Xb (r := Xa) 1 rfl (fun _ s => (SC.r (SC.l s))))))))))))))
theorem KJ : FnScope ["table", "colours", "asked"] ["table", "colours", "asked"] (Xi YO) := ⟨rfl, rfl, rfl, by decide +kernel, rfl, by decide +kernel, by decide +kernel⟩
set_option maxHeartbeats 4000000 in
theorem KN (D : Def K mg "all_held" YO ["table", "colours", "asked"])  (Z : Blt mg) : Fn P w K mg base 1 "all_held" ["table", "colours", "asked"] (sp3 (rV (rV Xa)) (rV Xa) (rV (rP3 Xa Xa Xa)) (oF X7) Zr K) := by
  refine YT D KJ (fun vs H Q E h => ?_) (fun f cdv A outer s H vs Q E hr h => ?_)
  · obtain ⟨v_0, v_1, v_2, a_0, a_1, a_2, b, rfl, _⟩ := h; rfl
  obtain ⟨v_0, v_1, v_2, a_0, a_1, a_2, b, rfl, h_0, h_1, h_2, hm, q⟩ := h
  have hu := hu8 hr
  have hu1 := YK hr
  refine ⟨_, (Xc (XF (Xu (U6 rfl) rfl Z.b_all PyProof.Rows.boot_all (Xd (ZJ (sc := (Xi YO)) (N0 := ["table", "colours", "asked"]) (tns := ["start", "over", "end"]) (caps := [(0, "table"), (1, "colours")]) rfl (XW (K := K) rfl (pv 2)) (Ec (by decide) (by decide) (by decide)) (fun cl C s H ex E => ⟨Dt K rfl rfl (XQ (Xr (i := 0) (show List.Nodup (["start", "over", "end", "table", "colours"] : List Str) by decide +kernel) rfl (Or.inl rfl)) (XQ (Xr (i := 1) (show List.Nodup (["start", "over", "end", "table", "colours"] : List Str) by decide +kernel) rfl (Or.inl rfl)) (XQ (Xr (i := 2) (show List.Nodup (["start", "over", "end", "table", "colours"] : List Str) by decide +kernel) rfl (Or.inl rfl)) ZO))), ZD, (B6 Zp (Xx (Xj K rfl) (Xx (Xj K rfl) (pv 3) (Xx (Xj K rfl) (pv 4) (pv 0) (fun _ _ => rfl)) (fun _ _ => rfl)) (Xx (Xj K rfl) (pv 4) (pv 1) (fun _ _ => rfl)) (fun _ _ => rfl)) (Xx (Xj K rfl) (pv 4) (pv 2) (fun _ _ => rfl)) (XA _))⟩)) Xg)))
    Xh), ?_⟩
  refine YN (S := (SC.add (SC.add (SC.add SC.nil K (rV (rV Xa)) v_0 a_0) K (rV Xa) v_1 a_1) K (rV (rP3 Xa Xa Xa)) v_2 a_2)) (σ := [some v_0, some v_1, some v_2]) 0 ?_ (SC.i (SC.i (SC.i SC.t h_0) h_1) h_2) hm q rfl
  unfold Zr
  exact (XE (EvS.ev (EvB.sh (Fr (Ev.toB (Zx (fun _ => tg3 0 1 2) (XG (Xm (r := (rV (rP3 Xa Xa Xa))) 2 rfl (fun _ s => (SC.r s)))) (fun C2 a3 v4 => (EvS.ev (EvB.sh (YH (Xs (Xs (Xb (r := (rV (rV Xa))) 3 rfl (fun _ s => (SC.r (SC.l (SC.l (SC.l (SC.l (SC.l s)))))))) (Xs (Xb (r := (rV Xa)) 4 rfl (fun _ s => (SC.r (SC.l (SC.l (SC.l (SC.l s))))))) (Xb (r := Xa) 0 rfl (fun _ s => (SC.r (SC.l (SC.l s))))))) (Xs (Xb (r := (rV Xa)) 4 rfl (fun _ s => (SC.r (SC.l (SC.l (SC.l (SC.l s))))))) (Xb (r := Xa) 1 rfl (fun _ s => (SC.r (SC.l s)))))) (Xs (Xb (r := (rV Xa)) 4 rfl (fun _ s => (SC.r (SC.l (SC.l (SC.l (SC.l s))))))) (Xb (r := Xa) 2 rfl (fun _ s => (SC.r s))))))))))))))
theorem QE : FnScope ["drawing", "told", "crossing", "sign", "over", "inward", "outward"] ["drawing"] (Xi JC) := ⟨rfl, rfl, rfl, by decide +kernel, rfl, by decide +kernel, by decide +kernel⟩
set_option maxHeartbeats 4000000 in
theorem BR (D : Def K mg "ties" JC ["drawing"]) (g_meets : Fn P w K mg base 4 "meets" ["drawing"] (sp1 (rP2 (rV (rV Xa)) (rV (rP2 Xa Xa))) (oL (oF (rP5 Xa Xa Xa Xa Xa))) QB K)) (Z : Blt mg) : Fn P w K mg base 5 "ties" ["drawing"] (sp1 (rP2 (rV (rV Xa)) (rV (rP2 Xa Xa))) (oL (oF (rP3 Xa Xa Xa))) VU K) := by
  refine YT D QE (fun vs H Q E h => ?_) (fun f cdv A outer s H vs Q E hr h => ?_)
  · obtain ⟨v_0, a_0, b, rfl, _⟩ := h; rfl
  obtain ⟨v_0, a_0, b, rfl, h_0, hm, q⟩ := h
  have hu := hu8 hr
  have hu1 := YK hr
  refine ⟨_, (Xc (Xp (i := 1) QE.nd rfl (Or.inl rfl) (XV Xg))
    (Xc (Yf PassesOwn.never rfl (XW (K := K) rfl (Ya g_meets hr (by decide) (Xd (pv 0) Xg))) (Q3 rfl (XQ (Xr (i := 2) QE.nd rfl (Or.inl rfl)) (XQ (Xr (i := 3) QE.nd rfl (Or.inl rfl)) (XQ (Xr (i := 4) QE.nd rfl (Or.inl rfl)) (XQ (Xr (i := 5) QE.nd rfl (Or.inl rfl)) (XQ (Xr (i := 6) QE.nd rfl (Or.inl rfl)) ZO))))))
      (Xc (Yz (Zz PySem.F.plainAttrs_list PySem.F.slot_list_append PySem.F.type_list_append XZ (pv 1) (Xd (C5 (Xt Zp (pv 3) Xf (XA _)) (Z8 (Xd (pv 5) (Xd (pv 4) (Xd (pv 6) Xg)))) (Z8 (Xd (pv 6) (Xd (pv 4) (Xd (pv 5) Xg))))) Xg)))
      Xh))
    (Xc (XF (pv 1))
    Xh))), ?_⟩
  refine YN (S := (SC.add SC.nil K (rP2 (rV (rV Xa)) (rV (rP2 Xa Xa))) v_0 a_0)) (σ := [some v_0, none, none, none, none, none, none]) 1 ?_ (SC.i SC.t h_0) hm q rfl
  unfold VU
  exact (XN (K := K) (o := (oL (oF (rP3 Xa Xa Xa)))) 1 0 (Qx (o := (oF (rP3 Xa Xa Xa)))) (Nat.le_of_ble_eq_true rfl) fun a1 v2 C3 => (YC (K := K) (J := ({ oo := fun x6 => [x6.2.2.2.2.2.2], ss := fun x6 => [some v_0, some x6.2.2.2.2.2.1, x6.1, x6.2.1, x6.2.2.1, x6.2.2.2.1, x6.2.2.2.2.1], sc := fun g7 x6 => (SC.addO (SC.add SC.nil K (rP2 (rV (rV Xa)) (rV (rP2 Xa Xa))) v_0 a_0) K (oL (oF (rP3 Xa Xa Xa))) x6.2.2.2.2.2.1 g7 x6.2.2.2.2.2.2) } : Jn ((List (Int × Int × Int))) (Option V × Option V × Option V × Option V × Option V × V × List XL))) (fun _ => tg5 2 3 4 5 6) ((none), (none), (none), (none), (none), v2, C3) (a1) (XG (Ev.sh (Yn (Xb (r := (rP2 (rV (rV Xa)) (rV (rP2 Xa Xa)))) 0 rfl (fun _ s => (SC.r (SC.l s))))))) rfl rfl (fun _ s => (SC.i (SC.i SC.t (SC.r (SC.l s))) (SC.r s))) (fun g8 x9 a10 v11 => (ZB (K := K) (o := (oF (rP3 Xa Xa Xa))) (f := fun a23 => (Res.ok (a23))) 1 0 rfl rfl rfl (fun _ s => (SC.r (SC.l (SC.l (SC.l (SC.l (SC.l s))))))) (HG (Xo (K := K) (YH (Xb (r := Xa) 3 rfl (fun _ s => (SC.r (SC.l (SC.l (SC.l s)))))) (Xe 1))) (EvS.ev (Gh (Xm (r := Xa) 5 rfl (fun _ s => (SC.r (SC.l s)))) (Xm (r := Xa) 4 rfl (fun _ s => (SC.r (SC.l (SC.l s))))) (Xm (r := Xa) 6 rfl (fun _ s => (SC.r s))))) (EvS.ev (Gh (Xm (r := Xa) 6 rfl (fun _ s => (SC.r s))) (Xm (r := Xa) 4 rfl (fun _ s => (SC.r (SC.l (SC.l s))))) (Xm (r := Xa) 5 rfl (fun _ s => (SC.r (SC.l s))))))) fun a21 C22 => (Xv (J := _) ((some v11.1), (some v11.2.1), (some v11.2.2.1), (some v11.2.2.2.1), (some v11.2.2.2.2), x9.2.2.2.2.2.1, C22) ((g8 ++ [a21])) rfl rfl (fun _ s => (SC.i (SC.i SC.t (SC.r (SC.l (SC.l (SC.l (SC.l (SC.l (SC.l (SC.l s))))))))) (SC.r s)))))) fun g24 x25 => (XE (Yp (o := (oL (oF (rP3 Xa Xa Xa)))) 1 0 rfl rfl (fun _ s => (SC.r s))))))
theorem EA : FnScope ["drawing", "table", "colours"] ["drawing", "table", "colours"] (Xi Jw) := ⟨rfl, rfl, rfl, by decide +kernel, rfl, by decide +kernel, by decide +kernel⟩
set_option maxHeartbeats 4000000 in
theorem BF (D : Def K mg "fits" Jw ["drawing", "table", "colours"]) (g_all_held : Fn P w K mg base 1 "all_held" ["table", "colours", "asked"] (sp3 (rV (rV Xa)) (rV Xa) (rV (rP3 Xa Xa Xa)) (oF X7) Zr K)) (g_ties : Fn P w K mg base 5 "ties" ["drawing"] (sp1 (rP2 (rV (rV Xa)) (rV (rP2 Xa Xa))) (oL (oF (rP3 Xa Xa Xa))) VU K)) (g_arc_count : Fn P w K mg base 2 "arc_count" ["drawing"] (sp1 (rP2 (rV (rV Xa)) (rV (rP2 Xa Xa))) (oF Xa) Za K)) (g_all_colours : Fn P w K mg base 1 "all_colours" ["numbers", "size"] (sp2 (rV Xa) Xa (oF X7) YU K)) (Z : Blt mg) : Fn P w K mg base 6 "fits" ["drawing", "table", "colours"] (sp3 (rP2 (rV (rV Xa)) (rV (rP2 Xa Xa))) (rV (rV Xa)) (rV Xa) (oF X7) VY K) := by
  refine YT D EA (fun vs H Q E h => ?_) (fun f cdv A outer s H vs Q E hr h => ?_)
  · obtain ⟨v_0, v_1, v_2, a_0, a_1, a_2, b, rfl, _⟩ := h; rfl
  obtain ⟨v_0, v_1, v_2, a_0, a_1, a_2, b, rfl, h_0, h_1, h_2, hm, q⟩ := h
  have hu := hu8 hr
  have hu1 := YK hr
  refine ⟨_, (Xc (YD (PW.pt (DV (Xt Fg (Xu (Xk K rfl) rfl Z.b_len PySem.boot_len (Xd (pv 2) Xg)) (Ya g_arc_count hr (by decide) (Xd (pv 0) Xg)) (XA _)) (K0 (GA (U1 (Ya g_all_colours hr (by decide) (Xd (pv 2) (Xd (Xu (Xk K rfl) rfl Z.b_len PySem.boot_len (Xd (pv 1) Xg)) Xg))))))))
      (Xc (XF VB)
      Xh)
      Xh)
    (Xc (XF (Ya g_all_held hr (by decide) (Xd (pv 1) (Xd (pv 2) (Xd (Ya g_ties hr (by decide) (Xd (pv 0) Xg)) Xg)))))
    Xh)), ?_⟩
  refine YN (S := (SC.add (SC.add (SC.add SC.nil K (rP2 (rV (rV Xa)) (rV (rP2 Xa Xa))) v_0 a_0) K (rV (rV Xa)) v_1 a_1) K (rV Xa) v_2 a_2)) (σ := [some v_0, some v_1, some v_2]) 0 ?_ (SC.i (SC.i (SC.i SC.t h_0) h_1) h_2) hm q rfl
  unfold VY
  exact (Z5 (Uy (Xo (K := K) (UT (XO (Xb (r := (rV Xa)) 2 rfl (fun _ s => (SC.r s)))) (Ev.toB (Yn (Xb (r := (rP2 (rV (rV Xa)) (rV (rP2 Xa Xa)))) 0 rfl (fun _ s => (SC.r (SC.l (SC.l s))))))))) (V5 (GC (K := K) (Ev.toB (Ym (Xb (r := (rV Xa)) 2 rfl (fun _ s => (SC.r s))) (XO (Xb (r := (rV (rV Xa))) 1 rfl (fun _ s => (SC.r (SC.l s)))))))))) (XE (EvS.ev (EvB.sh (QA false)))) (XE (Yw (Xb (r := (rV (rV Xa))) 1 rfl (fun _ s => (SC.r (SC.l s)))) (Xb (r := (rV Xa)) 2 rfl (fun _ s => (SC.r s))) (Ev.toB (Yn (Xb (r := (rP2 (rV (rV Xa)) (rV (rP2 Xa Xa)))) 0 rfl (fun _ s => (SC.r (SC.l (SC.l s))))))))))
theorem Up : FnScope ["_law_script", "_law_place", "_law_seed", "_law_cell_here"] ["_law_script", "_law_place"] (Xi JA) := ⟨rfl, rfl, rfl, by decide +kernel, rfl, by decide +kernel, by decide +kernel⟩
set_option maxHeartbeats 4000000 in
theorem BJ (D : Def K mg "_law_cell" JA ["_law_script", "_law_place"])  (Z : Blt mg) : Fn P w K mg base 1 "_law_cell" ["_law_script", "_law_place"] (sp2 (rL Xa) Xa (oF Xa) Vs K) := by
  refine YT D Up (fun vs H Q E h => ?_) (fun f cdv A outer s H vs Q E hr h => ?_)
  · obtain ⟨v_0, v_1, a_0, a_1, b, rfl, _⟩ := h; rfl
  obtain ⟨v_0, v_1, a_0, a_1, b, rfl, h_0, h_1, hm, q⟩ := h
  have hu := hu8 hr
  have hu1 := YK hr
  refine ⟨_, (Xc (YD (Xt Qy (pv 1) (Xu (Xk K rfl) rfl Z.b_len PySem.boot_len (Xd (pv 0) Xg)) (XA _))
      (Xc (XF (Xx (Xj K rfl) (pv 0) (pv 1) (fun _ _ => rfl)))
      Xh)
      Xh)
    (Xc (Xp (i := 2) Up.nd rfl (Or.inl rfl) Xf)
    (Xc (Yf PassesOwn.never rfl (XW (K := K) rfl (ZY (Qs K rfl) (pv 0) Jp (Qg Xf))) (Xr (i := 3) Up.nd rfl (Or.inl rfl))
      (Xc (Xp (i := 2) Up.nd rfl (Or.inl rfl) (Xq X3 (Xq X0 (Xq X0 (Xq YM (pv 2) Xf) (Xq X3 (pv 3) Xf)) Xf) Xf))
      Xh))
    (Xc (XF (Xq X3 (Xq X0 (pv 2) (Xq YM Xf (pv 1))) Xf))
    Xh)))), ?_⟩
  refine YN (S := (SC.add (SC.add SC.nil K (rL Xa) v_0 a_0) K Xa v_1 a_1)) (σ := [some v_0, some v_1, none, none]) 0 ?_ (SC.i (SC.i SC.t h_0) h_1) hm q rfl
  unfold Vs
  exact (Z5 (Xo (K := K) (Zy (Xb (r := Xa) 1 rfl (fun _ s => (SC.r s))) (CT (Xb (r := (rL Xa)) 0 rfl (fun _ s => (SC.r (SC.l s))))))) (XE (EvS.ev (EvB.sh (BB (Xb (r := (rL Xa)) 0 rfl (fun _ s => (SC.r (SC.l s)))) (Xb (r := Xa) 1 rfl (fun _ s => (SC.r s))))))) (Xz (K := K) (r := Xa) 2 (EvB.sh (Xe 5)) fun a7 v8 => (YC (K := K) (J := ({ oo := fun x13 => [], ss := fun x13 => [some v_0, some v_1, some x13.2, x13.1], sc := fun g14 x13 => (SC.add (SC.add (SC.add SC.nil K (rL Xa) v_0 a_0) K Xa v_1 a_1) K Xa x13.2 g14) } : Jn (Int) (Option V × V))) (fun _ => tg1 3) ((none), v8) (a7) (XG (Ev.sh (Dc (Xb (r := (rL Xa)) 0 rfl (fun _ s => (SC.r (SC.l (SC.l s))))) Qo (ZE (K := K) (Xe 63))))) rfl rfl (fun _ s => (SC.i (SC.i (SC.i SC.t (SC.r (SC.l (SC.l s)))) (SC.r (SC.l s))) (SC.r s))) (fun g15 x16 a17 v18 => (Xz (K := K) (r := Xa) 2 (EvB.sh (XM (XI (XI (Yd (Xb (r := Xa) 2 rfl (fun _ s => (SC.r (SC.l s)))) (Xe 48271)) (XM (Xb (r := Xa) 3 rfl (fun _ s => (SC.r s))) (Xe 1000003))) (Xe 1)) (Xe 2147483647))) fun a19 v20 => (Xv (J := _) ((some v18), v20) (a19) rfl rfl (fun _ s => (SC.i (SC.i (SC.i SC.t (SC.r (SC.l (SC.l (SC.l (SC.l s)))))) (SC.r (SC.l (SC.l (SC.l s))))) (SC.r s)))))) fun g31 x32 => (XE (EvS.ev (EvB.sh (XM (XI (Xb (r := Xa) 2 rfl (fun _ s => (SC.r s))) (Yd (Xe 7919) (Xb (r := Xa) 1 rfl (fun _ s => (SC.r (SC.l s)))))) (Xe 1000003))))))))
theorem FM : FnScope ["_law_cell_here", "_law_k", "_law_one", "_law_two"] ["_law_cell_here", "_law_k"] (Xi UA) := ⟨rfl, rfl, rfl, by decide +kernel, rfl, by decide +kernel, by decide +kernel⟩
set_option maxHeartbeats 4000000 in
theorem Hc (D : Def K mg "_law_mix" UA ["_law_cell_here", "_law_k"])  (Z : Blt mg) : Fn P w K mg base 1 "_law_mix" ["_law_cell_here", "_law_k"] (sp2 Xa Xa (oF Xa) KK K) := by
  refine YT D FM (fun vs H Q E h => ?_) (fun f cdv A outer s H vs Q E hr h => ?_)
  · obtain ⟨v_0, v_1, a_0, a_1, b, rfl, _⟩ := h; rfl
  obtain ⟨v_0, v_1, a_0, a_1, b, rfl, h_0, h_1, hm, q⟩ := h
  have hu := hu8 hr
  have hu1 := YK hr
  refine ⟨_, (Xc (Xp (i := 2) FM.nd rfl (Or.inl rfl) (Xq X3 (Xq KW (Xq X0 (Xq X0 (Xq X3 (pv 0) Xf) (Xq YM Xf (pv 1))) Xf) Xf) Xf))
    (Xc (Xp (i := 3) FM.nd rfl (Or.inl rfl) (Xq X3 (Xq X0 (Xq X0 (Xq YM (pv 2) Xf) (Xq YM (Xq YM Xf (pv 1)) (pv 1))) Xf) Xf))
    (Xc (XF (Xq QY (pv 3) Xf))
    Xh))), ?_⟩
  refine YN (S := (SC.add (SC.add SC.nil K Xa v_0 a_0) K Xa v_1 a_1)) (σ := [some v_0, some v_1, none, none]) 0 ?_ (SC.i (SC.i SC.t h_0) h_1) hm q rfl
  unfold KK
  exact (Xz (K := K) (r := Xa) 2 (EvB.sh (XM (Ui (XI (XI (XM (Xb (r := Xa) 0 rfl (fun _ s => (SC.r (SC.l s)))) (Xe 2147483629)) (Yd (Xe 1013) (Xb (r := Xa) 1 rfl (fun _ s => (SC.r s))))) (Xe 7919)) (Xe 3)) (Xe 2147483647))) fun a1 v2 => (Xz (K := K) (r := Xa) 3 (EvB.sh (XM (XI (XI (Yd (Xb (r := Xa) 2 rfl (fun _ s => (SC.r s))) (Xe 40699)) (Yd (Yd (Xe 3793) (Xb (r := Xa) 1 rfl (fun _ s => (SC.r (SC.l s))))) (Xb (r := Xa) 1 rfl (fun _ s => (SC.r (SC.l s)))))) (Xe 11)) (Xe 2147483399))) fun a15 v16 => (XE (EvS.ev (EvB.sh (Vw (Xb (r := Xa) 3 rfl (fun _ s => (SC.r s))) (Xe 101)))))))
theorem Vn : FnScope ["_law_script", "_law_place", "_law_sizes", "_law_cell_here", "_law_left", "_law_some", "_law_k", "_law_other"] ["_law_script", "_law_place", "_law_sizes"] (Xi Uz) := ⟨rfl, rfl, rfl, by decide +kernel, rfl, by decide +kernel, by decide +kernel⟩
set_option maxHeartbeats 4000000 in
theorem ES (D : Def K mg "_law_row" Uz ["_law_script", "_law_place", "_law_sizes"]) (g_cell : Fn P w K mg base 1 "_law_cell" ["_law_script", "_law_place"] (sp2 (rL Xa) Xa (oF Xa) Vs K)) (g_mix : Fn P w K mg base 1 "_law_mix" ["_law_cell_here", "_law_k"] (sp2 Xa Xa (oF Xa) KK K)) (Z : Blt mg) : Fn P w K mg base 2 "_law_row" ["_law_script", "_law_place", "_law_sizes"] (sp3 (rL Xa) Xa (rV Xa) (oL (oF Xa)) Vu K) := by
  refine YT D Vn (fun vs H Q E h => ?_) (fun f cdv A outer s H vs Q E hr h => ?_)
  · obtain ⟨v_0, v_1, v_2, a_0, a_1, a_2, b, rfl, _⟩ := h; rfl
  obtain ⟨v_0, v_1, v_2, a_0, a_1, a_2, b, rfl, h_0, h_1, h_2, hm, q⟩ := h
  have hu := hu8 hr
  have hu1 := YK hr
  refine ⟨_, (Xc (Xp (i := 3) Vn.nd rfl (Or.inl rfl) (Ya g_cell hr (by decide) (Xd (pv 0) (Xd (pv 1) Xg))))
    (Xc (Xp (i := 4) Vn.nd rfl (Or.inl rfl) (pv 3))
    (Xc (Xp (i := 5) Vn.nd rfl (Or.inl rfl) (XV Xg))
    (Xc (Yf PassesOwn.never rfl (X1 rfl Z.b_range (Xd (Xu (Xk K rfl) rfl Z.b_len PySem.boot_len (Xd (pv 2) Xg)) Xg)) (Xr (i := 6) Vn.nd rfl (Or.inl rfl))
      (Xc (YD (Xt Qy (pv 3) (Xq KW Xf Xf) (XA _))
        (Xc (Yz (Zz PySem.F.plainAttrs_list PySem.F.slot_list_append PySem.F.type_list_append XZ (pv 5) (Xd (Xq X3 (Ya g_mix hr (by decide) (Xd (pv 3) (Xd (pv 6) Xg))) (Xx (Xj K rfl) (pv 2) (pv 6) (fun _ _ => rfl))) Xg)))
        Xh)
        (Xc (YD (Xt UW (pv 4) Xf (XA _))
          (Xc (Yz (Zz PySem.F.plainAttrs_list PySem.F.slot_list_append PySem.F.type_list_append XZ (pv 5) (Xd (Xq X3 (pv 4) (Xx (Xj K rfl) (pv 2) (pv 6) (fun _ _ => rfl))) Xg)))
          (Xc (Xp (i := 4) Vn.nd rfl (Or.inl rfl) (Xq QY (pv 4) (Xx (Xj K rfl) (pv 2) (pv 6) (fun _ _ => rfl))))
          Xh))
          (Xc (Xp (i := 7) Vn.nd rfl (Or.inl rfl) (Ya g_cell hr (by decide) (Xd (pv 0) (Xd (Xq X3 (Xq X0 (Xq X0 (pv 1) Xf) (pv 6)) Xf) Xg))))
          (Xc (Yz (Zz PySem.F.plainAttrs_list PySem.F.slot_list_append PySem.F.type_list_append XZ (pv 5) (Xd (Xq X3 (Ya g_mix hr (by decide) (Xd (pv 7) (Xd (pv 6) Xg))) (Xx (Xj K rfl) (pv 2) (pv 6) (fun _ _ => rfl))) Xg)))
          Xh)))
        Xh))
      Xh))
    (Xc (XF (pv 5))
    Xh))))), ?_⟩
  refine YN (S := (SC.add (SC.add (SC.add SC.nil K (rL Xa) v_0 a_0) K Xa v_1 a_1) K (rV Xa) v_2 a_2)) (σ := [some v_0, some v_1, some v_2, none, none, none, none, none]) 1 ?_ (SC.i (SC.i (SC.i SC.t h_0) h_1) h_2) hm q rfl
  unfold Vu
  exact (Xz (K := K) (r := Xa) 3 (EvB.sh (Ev.toB (Ym (Xb (r := (rL Xa)) 0 rfl (fun _ s => (SC.r (SC.l (SC.l s))))) (Xb (r := Xa) 1 rfl (fun _ s => (SC.r (SC.l s))))))) fun a1 v2 => (Xz (K := K) (r := Xa) 4 (Xm (r := Xa) 3 rfl (fun _ s => (SC.r s))) fun a6 v7 => (XN (K := K) (o := (oL (oF Xa))) 5 0 (Qx (o := (oF Xa))) (Nat.le_of_ble_eq_true rfl) fun a8 v9 C10 => (YC (K := K) (J := ({ oo := fun x13 => [x13.2.2.2.2], ss := fun x13 => [some v_0, some v_1, some v_2, some v2, some x13.2.2.1, some x13.2.1, x13.1, x13.2.2.2.1], sc := fun g14 x13 => (SC.add (SC.addO (SC.add (SC.add (SC.add (SC.add SC.nil K (rL Xa) v_0 a_0) K Xa v_1 a_1) K (rV Xa) v_2 a_2) K Xa v2 a1) K (oL (oF Xa)) x13.2.1 g14.1 x13.2.2.2.2) K Xa x13.2.2.1 g14.2) } : Jn ((List Int) × Int) (Option V × V × V × Option V × List XL))) (fun _ => tg1 6) ((none), v9, v7, (none), C10) (a8, a6) (XJ (XO (Xb (r := (rV Xa)) 2 rfl (fun _ s => (SC.r (SC.l (SC.l (SC.l s)))))))) rfl rfl (fun _ s => (SC.i (SC.i (SC.i (SC.i (SC.i (SC.i SC.t (SC.r (SC.l (SC.l (SC.l (SC.l (SC.l s))))))) (SC.r (SC.l (SC.l (SC.l (SC.l s)))))) (SC.r (SC.l (SC.l (SC.l s))))) (SC.r (SC.l (SC.l s)))) (SC.r s)) (SC.r (SC.l s)))) (fun g15 x16 a17 v18 => (Yr (J := ({ oo := fun x24 => [x24.2.2.2], ss := fun x24 => [some v_0, some v_1, some v_2, some v2, some x24.2.1, some x24.1, some v18, x24.2.2.1], sc := fun g25 x24 => (SC.add (SC.addO (SC.add (SC.add (SC.add (SC.add (SC.add SC.nil K (rL Xa) v_0 a_0) K Xa v_1 a_1) K (rV Xa) v_2 a_2) K Xa v2 a1) K Xa v18 a17) K (oL (oF Xa)) x24.1 g25.1 x24.2.2.2) K Xa x24.2.1 g25.2) } : Jn ((List Int) × Int) (V × V × Option V × List XL))) (Y0 (Fd := FNd ({ oo := fun x24 => [x24.2.2.2], ss := fun x24 => [some v_0, some v_1, some v_2, some v2, some x24.2.1, some x24.1, some v18, x24.2.2.1], sc := fun g25 x24 => (SC.add (SC.addO (SC.add (SC.add (SC.add (SC.add (SC.add SC.nil K (rL Xa) v_0 a_0) K Xa v_1 a_1) K (rV Xa) v_2 a_2) K Xa v2 a1) K Xa v18 a17) K (oL (oF Xa)) x24.1 g25.1 x24.2.2.2) K Xa x24.2.1 g25.2) } : Jn ((List Int) × Int) (V × V × Option V × List XL))) (Xo (K := K) (Zy (Xb (r := Xa) 3 rfl (fun _ s => (SC.r (SC.l (SC.l (SC.l s)))))) (Ui (Xe 10) (Xe 18)))) (ZB (K := K) (o := (oF Xa)) (f := fun a35 => (Res.ok (a35, g15.2))) 5 0 rfl rfl rfl (fun _ s => (SC.r (SC.l (SC.l s)))) (EvS.ev (EvB.sh (XM (Ev.toB (Ym (Xb (r := Xa) 3 rfl (fun _ s => (SC.r (SC.l (SC.l (SC.l s)))))) (Xb (r := Xa) 6 rfl (fun _ s => (SC.r s))))) (Xs (Xb (r := (rV Xa)) 2 rfl (fun _ s => (SC.r (SC.l (SC.l (SC.l (SC.l s))))))) (Xb (r := Xa) 6 rfl (fun _ s => (SC.r s))))))) fun a33 C34 => (Xv (J := _) (x16.2.1, x16.2.2.1, (x16.2.2.2.1), C34) ((g15.1 ++ [a33]), g15.2) rfl rfl (fun _ s => (SC.i (SC.i (SC.i (SC.i (SC.i (SC.i (SC.i SC.t (SC.r (SC.l (SC.l (SC.l (SC.l (SC.l (SC.l (SC.l s))))))))) (SC.r (SC.l (SC.l (SC.l (SC.l (SC.l (SC.l s)))))))) (SC.r (SC.l (SC.l (SC.l (SC.l (SC.l s))))))) (SC.r (SC.l (SC.l (SC.l (SC.l s)))))) (SC.r (SC.l s))) (SC.r s)) (SC.r (SC.l (SC.l s))))))) (Yr (J := ({ oo := fun x39 => [x39.2.2.2], ss := fun x39 => [some v_0, some v_1, some v_2, some v2, some x39.1, some x39.2.2.1, some v18, x39.2.1], sc := fun g40 x39 => (SC.addO (SC.add (SC.add (SC.add (SC.add (SC.add (SC.add SC.nil K (rL Xa) v_0 a_0) K Xa v_1 a_1) K (rV Xa) v_2 a_2) K Xa v2 a1) K Xa v18 a17) K Xa x39.1 g40.1) K (oL (oF Xa)) x39.2.2.1 g40.2 x39.2.2.2) } : Jn (Int × (List Int)) (V × Option V × V × List XL))) (Y0 (Fd := FNd ({ oo := fun x39 => [x39.2.2.2], ss := fun x39 => [some v_0, some v_1, some v_2, some v2, some x39.1, some x39.2.2.1, some v18, x39.2.1], sc := fun g40 x39 => (SC.addO (SC.add (SC.add (SC.add (SC.add (SC.add (SC.add SC.nil K (rL Xa) v_0 a_0) K Xa v_1 a_1) K (rV Xa) v_2 a_2) K Xa v2 a1) K Xa v18 a17) K Xa x39.1 g40.1) K (oL (oF Xa)) x39.2.2.1 g40.2 x39.2.2.2) } : Jn (Int × (List Int)) (V × Option V × V × List XL))) (Xo (K := K) (Jz (Xb (r := Xa) 4 rfl (fun _ s => (SC.r (SC.l s)))) (Xe 0))) (ZB (K := K) (o := (oF Xa)) (f := fun a47 => (Res.bind (Res.bind (Res.ok g15.2) fun x52 => (Res.bind (Res.bind (Res.ok a_2) fun x50 => (Res.bind (Res.ok a17) fun x51 => (atR x50 x51))) fun x53 => (Be x52 x53))) fun a48 => (Res.ok (a48, a47)))) 5 0 rfl rfl rfl (fun _ s => (SC.r (SC.l (SC.l s)))) (EvS.ev (EvB.sh (XM (Xb (r := Xa) 4 rfl (fun _ s => (SC.r (SC.l s)))) (Xs (Xb (r := (rV Xa)) 2 rfl (fun _ s => (SC.r (SC.l (SC.l (SC.l (SC.l s))))))) (Xb (r := Xa) 6 rfl (fun _ s => (SC.r s))))))) fun a45 C46 => (Xz (K := K) (r := Xa) 4 (EvB.sh (Vw (Xb (r := Xa) 4 rfl (fun _ s => (SC.r (SC.l (SC.l s))))) (Xs (Xb (r := (rV Xa)) 2 rfl (fun _ s => (SC.r (SC.l (SC.l (SC.l (SC.l (SC.l s)))))))) (Xb (r := Xa) 6 rfl (fun _ s => (SC.r (SC.l s))))))) fun a48 v49 => (Xv (J := _) (v49, (x16.2.2.2.1), x16.2.1, C46) (a48, (g15.1 ++ [a45])) rfl rfl (fun _ s => (SC.i (SC.i (SC.i (SC.i (SC.i (SC.i (SC.i SC.t (SC.r (SC.l (SC.l (SC.l (SC.l (SC.l (SC.l (SC.l (SC.l s)))))))))) (SC.r (SC.l (SC.l (SC.l (SC.l (SC.l (SC.l (SC.l s))))))))) (SC.r (SC.l (SC.l (SC.l (SC.l (SC.l (SC.l s)))))))) (SC.r (SC.l (SC.l (SC.l (SC.l (SC.l s))))))) (SC.r (SC.l (SC.l s)))) (SC.r s)) (SC.r (SC.l s))))))) (Xz (K := K) (r := Xa) 7 (EvB.sh (Ev.toB (Ym (Xb (r := (rL Xa)) 0 rfl (fun _ s => (SC.r (SC.l (SC.l (SC.l (SC.l (SC.l (SC.l s))))))))) (XM (XI (XI (Xb (r := Xa) 1 rfl (fun _ s => (SC.r (SC.l (SC.l (SC.l (SC.l (SC.l s)))))))) (Xe 1)) (Xb (r := Xa) 6 rfl (fun _ s => (SC.r s)))) (Xe 63))))) fun a54 v55 => (ZB (K := K) (o := (oF Xa)) (f := fun a74 => (Res.ok (g15.2, a74))) 5 0 rfl rfl rfl (fun _ s => (SC.r (SC.l (SC.l (SC.l s))))) (EvS.ev (EvB.sh (XM (Ev.toB (Ym (Xb (r := Xa) 7 rfl (fun _ s => (SC.r s))) (Xb (r := Xa) 6 rfl (fun _ s => (SC.r (SC.l s)))))) (Xs (Xb (r := (rV Xa)) 2 rfl (fun _ s => (SC.r (SC.l (SC.l (SC.l (SC.l (SC.l s)))))))) (Xb (r := Xa) 6 rfl (fun _ s => (SC.r (SC.l s)))))))) fun a72 C73 => (Xv (J := _) (x16.2.2.1, (some v55), x16.2.1, C73) (g15.2, (g15.1 ++ [a72])) rfl rfl (fun _ s => (SC.i (SC.i (SC.i (SC.i (SC.i (SC.i (SC.i SC.t (SC.r (SC.l (SC.l (SC.l (SC.l (SC.l (SC.l (SC.l (SC.l s)))))))))) (SC.r (SC.l (SC.l (SC.l (SC.l (SC.l (SC.l (SC.l s))))))))) (SC.r (SC.l (SC.l (SC.l (SC.l (SC.l (SC.l s)))))))) (SC.r (SC.l (SC.l (SC.l (SC.l (SC.l s))))))) (SC.r (SC.l (SC.l s)))) (SC.r (SC.l (SC.l (SC.l s))))) (SC.r s))))))) fun g76 x75 => (Xv (J := _) (x75.2.2.1, x75.1, (x75.2.1), x75.2.2.2) (g76.2, g76.1) rfl rfl (fun _ s => (SC.i (SC.i (SC.i (SC.i (SC.i (SC.i (SC.i SC.t (SC.r (SC.l (SC.l (SC.l (SC.l (SC.l (SC.l s)))))))) (SC.r (SC.l (SC.l (SC.l (SC.l (SC.l s))))))) (SC.r (SC.l (SC.l (SC.l (SC.l s)))))) (SC.r (SC.l (SC.l (SC.l s))))) (SC.r (SC.l (SC.l s)))) (SC.r s)) (SC.r (SC.l s))))))) fun g78 x77 => (Xv (J := _) ((some v18), x77.1, x77.2.1, (x77.2.2.1), x77.2.2.2) (g78.1, g78.2) rfl rfl (fun _ s => (SC.i (SC.i (SC.i (SC.i (SC.i (SC.i SC.t (SC.r (SC.l (SC.l (SC.l (SC.l (SC.l (SC.l s)))))))) (SC.r (SC.l (SC.l (SC.l (SC.l (SC.l s))))))) (SC.r (SC.l (SC.l (SC.l (SC.l s)))))) (SC.r (SC.l (SC.l (SC.l s))))) (SC.r (SC.l s))) (SC.r s)))))) fun g79 x80 => (XE (Yp (o := (oL (oF Xa))) 5 0 rfl rfl (fun _ s => (SC.r (SC.l s)))))))))
theorem JM : FnScope ["_law_names", "_law_some", "_law_left", "_law_found", "_law_k"] ["_law_names", "_law_some"] (Xi Qe) := ⟨rfl, rfl, rfl, by decide +kernel, rfl, by decide +kernel, by decide +kernel⟩
set_option maxHeartbeats 4000000 in
theorem C8 (D : Def K mg "_law_mixed" Qe ["_law_names", "_law_some"])  (Z : Blt mg) : Fn P w K mg base 1 "_law_mixed" ["_law_names", "_law_some"] (sp2 (rV Xa) (rV Xa) (oL (oF Xa)) Jh K) := by
  refine YT D JM (fun vs H Q E h => ?_) (fun f cdv A outer s H vs Q E hr h => ?_)
  · obtain ⟨v_0, v_1, a_0, a_1, b, rfl, _⟩ := h; rfl
  obtain ⟨v_0, v_1, a_0, a_1, b, rfl, h_0, h_1, hm, q⟩ := h
  have hu := hu8 hr
  have hu1 := YK hr
  refine ⟨_, (Xc (Xp (i := 2) JM.nd rfl (Or.inl rfl) (ZR (YS K rfl) rfl Z.b_list PyProof.Rows.boot_list (Xd (pv 0) Xg)))
    (Xc (Xp (i := 3) JM.nd rfl (Or.inl rfl) (XV Xg))
    (Xc (Yf PassesOwn.never rfl (X1 rfl Z.b_range (Xd (Xu (Xk K rfl) rfl Z.b_len PySem.boot_len (Xd (pv 0) Xg)) Xg)) (Xr (i := 4) JM.nd rfl (Or.inl rfl))
      (Xc (Yz (Zz PySem.F.plainAttrs_list PySem.F.slot_list_append PySem.F.type_list_append XZ (pv 3) (Xd (Zz PySem.F.plainAttrs_list PySem.F.slot_list_pop PySem.F.type_list_pop Um (pv 2) (Xd (Xq X3 (Xx (Xj K rfl) (pv 1) (Xq X0 (Xq YM Xf (pv 4)) Xf) (fun _ _ => rfl)) (Xu (Xk K rfl) rfl Z.b_len PySem.boot_len (Xd (pv 2) Xg))) Xg)) Xg)))
      Xh))
    (Xc (XF (pv 3))
    Xh)))), ?_⟩
  refine YN (S := (SC.add (SC.add SC.nil K (rV Xa) v_0 a_0) K (rV Xa) v_1 a_1)) (σ := [some v_0, some v_1, none, none, none]) 2 ?_ (SC.i (SC.i SC.t h_0) h_1) hm q rfl
  unfold Jh
  exact (XN (K := K) (o := (oL (oF Xa))) 2 1 (Q6 (EvS.ls (Xm (r := (rV Xa)) 0 rfl (fun _ s => (SC.r (SC.l s)))))) (Nat.le_of_ble_eq_true rfl) fun a1 v2 C3 => (XN (K := K) (o := (oL (oF Xa))) 3 0 (Qx (o := (oF Xa))) (Nat.le_of_ble_eq_true rfl) fun a5 v6 C7 => (YC (K := K) (J := ({ oo := fun x10 => [x10.2.2.2.1, x10.2.2.2.2], ss := fun x10 => [some v_0, some v_1, some x10.2.2.1, some x10.2.1, x10.1], sc := fun g11 x10 => (SC.addO (SC.addO (SC.add (SC.add SC.nil K (rV Xa) v_0 a_0) K (rV Xa) v_1 a_1) K (oL (oF Xa)) x10.2.1 g11.1 x10.2.2.2.1) K (oL (oF Xa)) x10.2.2.1 g11.2 x10.2.2.2.2) } : Jn ((List Int) × (List Int)) (Option V × V × V × List XL × List XL))) (fun _ => tg1 4) ((none), v6, v2, C7, C3) (a5, a1) (XJ (XO (Xb (r := (rV Xa)) 0 rfl (fun _ s => (SC.r (SC.l (SC.l (SC.l s)))))))) rfl rfl (fun _ s => (SC.i (SC.i (SC.i (SC.i SC.t (SC.r (SC.l (SC.l (SC.l s))))) (SC.r (SC.l (SC.l s)))) (SC.r s)) (SC.r (SC.l s)))) (fun g12 x13 a14 v15 => (Ge (K := K) (r := Xa) (f := fun a26 a27 => (Res.ok (a27, a26))) 2 1 3 0 (by decide) rfl rfl (fun _ s => (SC.r (SC.l s))) rfl rfl (fun _ s => (SC.r (SC.l (SC.l s)))) (XM (Xs (Xb (r := (rV Xa)) 1 rfl (fun _ s => (SC.r (SC.l (SC.l (SC.l s)))))) (XI (Yd (Xe 8) (Xb (r := Xa) 4 rfl (fun _ s => (SC.r s)))) (Xe 9))) (XO (Zj (o := (oL (oF Xa))) 2 1 rfl rfl (fun _ s => (SC.r (SC.l s)))))) fun a25 a26 C28 C29 => (Xv (J := _) ((some v15), x13.2.1, x13.2.2.1, C29, C28) ((g12.1 ++ [a25]), a26) rfl rfl (fun _ s => (SC.i (SC.i (SC.i (SC.i SC.t (SC.r (SC.l (SC.l (SC.l (SC.l (SC.l (SC.l s)))))))) (SC.r (SC.l (SC.l (SC.l (SC.l (SC.l s))))))) (SC.r s)) (SC.r (SC.l s))))))) fun g32 x33 => (XE (Yp (o := (oL (oF Xa))) 3 0 rfl rfl (fun _ s => (SC.r (SC.l s))))))))
theorem Vd : FnScope ["_law_names", "_law_some", "_law_rings", "_law_left", "_law_one", "_law_walks", "_law_k", "_law_at", "_law_passage"] ["_law_names", "_law_some", "_law_rings"] (Xi V3) := ⟨rfl, rfl, rfl, by decide +kernel, rfl, by decide +kernel, by decide +kernel⟩
set_option maxHeartbeats 4000000 in
theorem Hz (D : Def K mg "_law_any" V3 ["_law_names", "_law_some", "_law_rings"])  (Z : Blt mg) : Fn P w K mg base 1 "_law_any" ["_law_names", "_law_some", "_law_rings"] (sp3 (rV Xa) (rV Xa) Xa (oL (oL (oF Xa))) G0 K) := by
  refine YT D Vd (fun vs H Q E h => ?_) (fun f cdv A outer s H vs Q E hr h => ?_)
  · obtain ⟨v_0, v_1, v_2, a_0, a_1, a_2, b, rfl, _⟩ := h; rfl
  obtain ⟨v_0, v_1, v_2, a_0, a_1, a_2, b, rfl, h_0, h_1, h_2, hm, q⟩ := h
  have hu := hu8 hr
  have hu1 := YK hr
  refine ⟨_, (Xc (Xp (i := 3) Vd.nd rfl (Or.inl rfl) (XV Xg))
    (Xc (Yf PassesOwn.never rfl (XW (K := K) rfl (pv 0)) (Xr (i := 4) Vd.nd rfl (Or.inl rfl))
      (Xc (Yz (Zz PySem.F.plainAttrs_list PySem.F.slot_list_extend PySem.F.type_list_extend Fv (pv 3) (Xd (XV (Xd (pv 4) (Xd (Vi Qd (pv 4)) Xg))) Xg QZ)))
      Xh))
    (Xc (Q7 5 (Xi V3) ["_law_names", "_law_some", "_law_rings", "_law_left", "_law_one", "_law_walks", "_law_k", "_law_at", "_law_passage"] ["_law_k"] [] rfl Vd.nd rfl rfl (X1 rfl Z.b_range (Xd (pv 2) Xg)) (Zm (by decide)) (fun cl C s H ex E => ⟨Xr (i := 0) (show List.Nodup (["_law_k"] : List Str) by decide +kernel) rfl (Or.inl rfl), ZD, (XV Xg)⟩))
    (Xc (Yf PassesOwn.never rfl (X1 rfl Z.b_range (Xd (Xq YM Xf (Xu (Xk K rfl) rfl Z.b_len PySem.boot_len (Xd (pv 0) Xg))) Xg)) (Xr (i := 6) Vd.nd rfl (Or.inl rfl))
      (Xc (Xp (i := 7) Vd.nd rfl (Or.inl rfl) (Xq X0 (Xq YM Xf (pv 6)) Xf))
      (Xc (Xp (i := 8) Vd.nd rfl (Or.inl rfl) (Zz PySem.F.plainAttrs_list PySem.F.slot_list_pop PySem.F.type_list_pop Um (pv 3) (Xd (Xq X3 (Xx (Xj K rfl) (pv 1) (pv 7) (fun _ _ => rfl)) (Xu (Xk K rfl) rfl Z.b_len PySem.boot_len (Xd (pv 3) Xg))) Xg)))
      (Xc (Yz (Zz PySem.F.plainAttrs_list PySem.F.slot_list_append PySem.F.type_list_append XZ (Xx (Xj K rfl) (pv 5) (Xq X3 (Xx (Xj K rfl) (pv 1) (Xq X0 (pv 7) Xf) (fun _ _ => rfl)) (pv 2)) (fun _ _ => rfl)) (Xd (pv 8) Xg)))
      Xh))))
    (Xc (XF (pv 5))
    Xh))))), ?_⟩
  refine YN (S := (SC.add (SC.add (SC.add SC.nil K (rV Xa) v_0 a_0) K (rV Xa) v_1 a_1) K Xa v_2 a_2)) (σ := [some v_0, some v_1, some v_2, none, none, none, none, none, none]) 2 ?_ (SC.i (SC.i (SC.i SC.t h_0) h_1) h_2) hm q rfl
  unfold G0
  exact (XN (K := K) (o := (oL (oF Xa))) 3 1 (Qx (o := (oF Xa))) (Nat.le_of_ble_eq_true rfl) fun a1 v2 C3 => (YC (K := K) (J := ({ oo := fun x4 => [[], x4.2.2], ss := fun x4 => [some v_0, some v_1, some v_2, some x4.2.1, x4.1, none, none, none, none], sc := fun g5 x4 => (SC.addO (SC.add (SC.add (SC.add SC.nil K (rV Xa) v_0 a_0) K (rV Xa) v_1 a_1) K Xa v_2 a_2) K (oL (oF Xa)) x4.2.1 g5 x4.2.2) } : Jn ((List Int)) (Option V × V × List XL))) (fun _ => tg1 4) ((none), v2, C3) (a1) (XG (Xm (r := (rV Xa)) 0 rfl (fun _ s => (SC.r (SC.l (SC.l (SC.l s))))))) rfl rfl (fun _ s => (SC.i (SC.i (SC.i (SC.i SC.t (SC.r (SC.l (SC.l (SC.l s))))) (SC.r (SC.l (SC.l s)))) (SC.r (SC.l s))) (SC.r s))) (fun g6 x7 a8 v9 => (Hw (K := K) (o := (oF Xa)) (f := fun a18 => (Res.ok (a18))) 3 1 rfl rfl rfl (fun _ s => (SC.r (SC.l s))) (YG (Xn (Xm (r := Xa) 4 rfl (fun _ s => (SC.r s))) (Xn (EvB.sh (ZC (Xb (r := Xa) 4 rfl (fun _ s => (SC.r s))))) X9))) fun a16 C17 => (Xv (J := _) ((some v9), x7.2.1, C17) ((g6 ++ a16)) rfl rfl (fun _ s => (SC.i (SC.i (SC.i (SC.i SC.t (SC.r (SC.l (SC.l (SC.l (SC.l (SC.l s))))))) (SC.r (SC.l (SC.l (SC.l (SC.l s)))))) (SC.r (SC.l (SC.l (SC.l s))))) (SC.r s)))))) fun g19 x20 => (XN (K := K) (o := (oL (oL (oF Xa)))) 5 0 (Zx (fun _ => tg1 0) (XJ (Xb (r := Xa) 2 rfl (fun _ s => (SC.r (SC.l s))))) (fun C25 a26 v27 => (Qx (o := (oF Xa))))) (Nat.le_of_ble_eq_true rfl) fun a21 v22 C23 => (YC (K := K) (J := ({ oo := fun x33 => [x33.2.2.2.2.2.2, x33.2.2.2.2.2.1], ss := fun x33 => [some v_0, some v_1, some v_2, some x33.2.2.2.1, x20.1, some x33.2.2.2.2.1, x33.1, x33.2.1, x33.2.2.1], sc := fun g34 x33 => (SC.addO (SC.addO (SC.add (SC.add (SC.add SC.nil K (rV Xa) v_0 a_0) K (rV Xa) v_1 a_1) K Xa v_2 a_2) K (oL (oF Xa)) x33.2.2.2.1 g34.1 x33.2.2.2.2.2.1) K (oL (oL (oF Xa))) x33.2.2.2.2.1 g34.2 x33.2.2.2.2.2.2) } : Jn ((List Int) × (List (List Int))) (Option V × Option V × Option V × V × V × List XL × List XL))) (fun _ => tg1 6) ((none), (none), (none), x20.2.1, v22, x20.2.2, C23) (g19, a21) (XJ (Yd (Xe 2) (XO (Xb (r := (rV Xa)) 0 rfl (fun _ s => (SC.r (SC.l (SC.l (SC.l (SC.l s)))))))))) rfl rfl (fun _ s => (SC.i (SC.i (SC.i (SC.i (SC.i SC.t (SC.r (SC.l (SC.l (SC.l (SC.l s)))))) (SC.r (SC.l (SC.l (SC.l s))))) (SC.r (SC.l (SC.l s)))) (SC.r (SC.l s))) (SC.r s))) (fun g35 x36 a37 v38 => (Xz (K := K) (r := Xa) 7 (EvB.sh (XI (Yd (Xe 4) (Xb (r := Xa) 6 rfl (fun _ s => (SC.r s)))) (Xe 5))) fun a39 v40 => (EN (K := K) (r := Xa) (f := (fun p55 => (fun a50 a51 => (Res.bind (Res.bind (Res.bind (Res.ok a_1) fun x58 => (Res.bind (Res.bind (Res.ok a39) fun x56 => (Res.bind (Res.ok (1 : Int)) fun x57 => (Res.ok (x56 + x57)))) fun x59 => (atR x58 x59))) fun x60 => (Res.bind (Res.ok a_2) fun x61 => (ZS x60 x61))) fun x63 => (Res.bind (atR g35.2 x63) fun x64 => (Res.bind (Res.ok a50) fun x62 => (chk (x64.length < sizeLine) (Res.bind (QV g35.2 x63 (x64 ++ [x62])) fun a65 => (Res.ok (a51, a65)))))))) p55.1 p55.2)) 8 3 1 rfl rfl (fun _ s => (SC.r (SC.l (SC.l (SC.l s))))) (XM (Xs (Xb (r := (rV Xa)) 1 rfl (fun _ s => (SC.r (SC.l (SC.l (SC.l (SC.l (SC.l s)))))))) (Xb (r := Xa) 7 rfl (fun _ s => (SC.r s)))) (XO (Zj (o := (oL (oF Xa))) 3 1 rfl rfl (fun _ s => (SC.r (SC.l (SC.l (SC.l s)))))))) fun a50 a51 v52 C53 => (CB (K := K) (r := Xa) 5 0 rfl rfl (fun _ s => (SC.r (SC.l (SC.l (SC.l (SC.l s)))))) (Xm (r := Xa) 8 rfl (fun _ s => (SC.r (SC.l s)))) (XM (Xs (Xb (r := (rV Xa)) 1 rfl (fun _ s => (SC.r (SC.l (SC.l (SC.l (SC.l (SC.l (SC.l (SC.l s)))))))))) (XI (Xb (r := Xa) 7 rfl (fun _ s => (SC.r (SC.l (SC.l s))))) (Xe 1))) (Xb (r := Xa) 2 rfl (fun _ s => (SC.r (SC.l (SC.l (SC.l (SC.l (SC.l (SC.l s)))))))))) fun a65 C66 => (Xv (J := _) ((some v38), (some v40), (some v52), x36.2.2.2.1, x36.2.2.2.2.1, C53, C66) (a51, a65) rfl rfl (fun _ s => (SC.i (SC.i (SC.i (SC.i (SC.i SC.t (SC.r (SC.l (SC.l (SC.l (SC.l (SC.l (SC.l (SC.l (SC.l (SC.l s))))))))))) (SC.r (SC.l (SC.l (SC.l (SC.l (SC.l (SC.l (SC.l (SC.l s)))))))))) (SC.r (SC.l (SC.l (SC.l (SC.l (SC.l (SC.l (SC.l s))))))))) (SC.r (SC.l s))) (SC.r s)))))))) fun g67 x68 => (XE (Yp (o := (oL (oL (oF Xa)))) 5 0 rfl rfl (fun _ s => (SC.r s))))))))
theorem YF : FnScope ["_law_names", "_law_signs", "_law_some", "_law_strands", "_law_seen", "_law_walks", "_law_start", "_law_walk", "_law_at", "_law_k", "_law_low"] ["_law_names", "_law_signs", "_law_some", "_law_strands"] (Xi Zc) := ⟨rfl, rfl, rfl, by decide +kernel, rfl, by decide +kernel, by decide +kernel⟩
set_option maxHeartbeats 4000000 in
theorem GL (D : Def K mg "_law_plaited" Zc ["_law_names", "_law_signs", "_law_some", "_law_strands"])  (Z : Blt mg) : Fn P w K mg base 1 "_law_plaited" ["_law_names", "_law_signs", "_law_some", "_law_strands"] (sp4 (rV Xa) (rD Xa) (rV Xa) Xa (oL (oL (oF Xa))) ZU K) := by
  refine YT D YF (fun vs H Q E h => ?_) (fun f cdv A outer s H vs Q E hr h => ?_)
  · obtain ⟨v_0, v_1, v_2, v_3, a_0, a_1, a_2, a_3, b, rfl, _⟩ := h; rfl
  obtain ⟨v_0, v_1, v_2, v_3, a_0, a_1, a_2, a_3, b, rfl, h_0, h_1, h_2, h_3, hm, q⟩ := h
  have hu := hu8 hr
  have hu1 := YK hr
  refine ⟨_, (Xc (Xp (i := 4) YF.nd rfl (Or.inl rfl) (Xq Jv (XV (Xd VB Xg)) (pv 3)))
    (Xc (Xp (i := 5) YF.nd rfl (Or.inl rfl) (XV Xg))
    (Xc (Yf PassesOwn.never rfl (X1 rfl Z.b_range (Xd (pv 3) Xg)) (Xr (i := 6) YF.nd rfl (Or.inl rfl))
      (Xc (YD (GA (U1 (Xx (Xj K rfl) (pv 4) (pv 6) (fun _ _ => rfl))))
        (Xc (Xp (i := 7) YF.nd rfl (Or.inl rfl) (XV Xg))
        (Xc (Xp (i := 8) YF.nd rfl (Or.inl rfl) (pv 6))
        (Xc (Uo PassesOwn.never (GA (U1 (Xx (Xj K rfl) (pv 4) (pv 8) (fun _ _ => rfl))))
          (Xc (Jx VB (Kn (pv 4) (pv 8) Q4))
          (Xc (Yf PassesOwn.never rfl (X1 rfl Z.b_range (Xd (Xu (Xk K rfl) rfl Z.b_len PySem.boot_len (Xd (pv 0) Xg)) Xg)) (Xr (i := 9) YF.nd rfl (Or.inl rfl))
            (Xc (Xp (i := 10) YF.nd rfl (Or.inl rfl) (Xq X3 (Xx (Xj K rfl) (pv 2) (Xq X0 (Xq YM Xf (pv 9)) Xf) (fun _ _ => rfl)) (Xq ZK (pv 3) Xf)))
            (Xc (YD (Xt Zp (pv 8) (pv 10) (XA _))
              (Xc (Yz (Zz PySem.F.plainAttrs_list PySem.F.slot_list_append PySem.F.type_list_append XZ (pv 7) (Xd (Xq YM (Xx (Xj K rfl) (pv 0) (pv 9) (fun _ _ => rfl)) (Kr hu1 (pv 1) (Xx (Xj K rfl) (pv 0) (pv 9) (fun _ _ => rfl)) (fun _ _ => rfl))) Xg)))
              (Xc (Xp (i := 8) YF.nd rfl (Or.inl rfl) (Xq X0 (pv 10) Xf))
              Xh))
              (Xc (YD (Xt Zp (pv 8) (Xq X0 (pv 10) Xf) (XA _))
                (Xc (Yz (Zz PySem.F.plainAttrs_list PySem.F.slot_list_append PySem.F.type_list_append XZ (pv 7) (Xd (Xq YM (Vi Qd (Xx (Xj K rfl) (pv 0) (pv 9) (fun _ _ => rfl))) (Kr hu1 (pv 1) (Xx (Xj K rfl) (pv 0) (pv 9) (fun _ _ => rfl)) (fun _ _ => rfl))) Xg)))
                (Xc (Xp (i := 8) YF.nd rfl (Or.inl rfl) (pv 10))
                Xh))
                Xh)
              Xh))
            Xh)))
          Xh)))
        (Xc (Yz (Zz PySem.F.plainAttrs_list PySem.F.slot_list_append PySem.F.type_list_append XZ (pv 5) (Xd (pv 7) Xg)))
        Xh))))
        Xh)
      Xh))
    (Xc (XF (pv 5))
    Xh)))), ?_⟩
  refine YN (S := (SC.add (SC.add (SC.add (SC.add SC.nil K (rV Xa) v_0 a_0) K (rD Xa) v_1 a_1) K (rV Xa) v_2 a_2) K Xa v_3 a_3)) (σ := [some v_0, some v_1, some v_2, some v_3, none, none, none, none, none, none, none]) 3 ?_ (SC.i (SC.i (SC.i (SC.i SC.t h_0) h_1) h_2) h_3) hm q rfl
  unfold ZU
  exact (XN (K := K) (o := (oL (oF X7))) 4 1 (Jr (Ev.ls (YG (Xn (EvB.sh (QA false)) X9))) (Xb (r := Xa) 3 rfl (fun _ s => (SC.r s)))) (Nat.le_of_ble_eq_true rfl) fun a1 v2 C3 => (XN (K := K) (o := (oL (oL (oF Xa)))) 5 0 (Qx (o := (oL (oF Xa)))) (Nat.le_of_ble_eq_true rfl) fun a9 v10 C11 => (YC (K := K) (J := ({ oo := fun x13 => [x13.2.2.2.2.2.2.2.2, x13.2.2.2.2.2.2.2.1, []], ss := fun x13 => [some v_0, some v_1, some v_2, some v_3, some x13.2.2.2.1, some x13.2.2.2.2.2.1, x13.1, x13.2.1, x13.2.2.1, x13.2.2.2.2.1, x13.2.2.2.2.2.2.1], sc := fun g14 x13 => (SC.addO (SC.addO (SC.add (SC.add (SC.add (SC.add SC.nil K (rV Xa) v_0 a_0) K (rD Xa) v_1 a_1) K (rV Xa) v_2 a_2) K Xa v_3 a_3) K (oL (oF X7)) x13.2.2.2.1 g14.1 x13.2.2.2.2.2.2.2.1) K (oL (oL (oF Xa))) x13.2.2.2.2.2.1 g14.2 x13.2.2.2.2.2.2.2.2) } : Jn ((List Bool) × (List (List Int))) (Option V × Option V × Option V × V × Option V × V × Option V × List XL × List XL))) (fun _ => tg1 6) ((none), (none), (none), v2, (none), v10, (none), C3, C11) (a1, a9) (XJ (Xb (r := Xa) 3 rfl (fun _ s => (SC.r (SC.l (SC.l s)))))) rfl rfl (fun _ s => (SC.i (SC.i (SC.i (SC.i (SC.i (SC.i SC.t (SC.r (SC.l (SC.l (SC.l (SC.l (SC.l s))))))) (SC.r (SC.l (SC.l (SC.l (SC.l s)))))) (SC.r (SC.l (SC.l (SC.l s))))) (SC.r (SC.l (SC.l s)))) (SC.r (SC.l s))) (SC.r s))) (fun g15 x16 a17 v18 => (Yr (J := ({ oo := fun x23 => [x23.2.2.2.2.2.2.2, x23.2.2.2.2.2.2.1, []], ss := fun x23 => [some v_0, some v_1, some v_2, some v_3, some x23.2.2.1, some x23.2.2.2.2.1, some v18, x23.1, x23.2.1, x23.2.2.2.1, x23.2.2.2.2.2.1], sc := fun g24 x23 => (SC.addO (SC.addO (SC.add (SC.add (SC.add (SC.add (SC.add SC.nil K (rV Xa) v_0 a_0) K (rD Xa) v_1 a_1) K (rV Xa) v_2 a_2) K Xa v_3 a_3) K Xa v18 a17) K (oL (oF X7)) x23.2.2.1 g24.1 x23.2.2.2.2.2.2.1) K (oL (oL (oF Xa))) x23.2.2.2.2.1 g24.2 x23.2.2.2.2.2.2.2) } : Jn ((List Bool) × (List (List Int))) (Option V × Option V × V × Option V × V × Option V × List XL × List XL))) (Y0 (Fd := FNd ({ oo := fun x23 => [x23.2.2.2.2.2.2.2, x23.2.2.2.2.2.2.1, []], ss := fun x23 => [some v_0, some v_1, some v_2, some v_3, some x23.2.2.1, some x23.2.2.2.2.1, some v18, x23.1, x23.2.1, x23.2.2.2.1, x23.2.2.2.2.2.1], sc := fun g24 x23 => (SC.addO (SC.addO (SC.add (SC.add (SC.add (SC.add (SC.add SC.nil K (rV Xa) v_0 a_0) K (rD Xa) v_1 a_1) K (rV Xa) v_2 a_2) K Xa v_3 a_3) K Xa v18 a17) K (oL (oF X7)) x23.2.2.1 g24.1 x23.2.2.2.2.2.2.1) K (oL (oL (oF Xa))) x23.2.2.2.2.1 g24.2 x23.2.2.2.2.2.2.2) } : Jn ((List Bool) × (List (List Int))) (Option V × Option V × V × Option V × V × Option V × List XL × List XL))) (V5 (GC (K := K) (Xs (Zj (o := (oL (oF X7))) 4 1 rfl rfl (fun _ s => (SC.r (SC.l (SC.l s))))) (Xb (r := Xa) 6 rfl (fun _ s => (SC.r s)))))) (XN (K := K) (o := (oL (oF Xa))) 7 2 (Qx (o := (oF Xa))) (Nat.le_of_ble_eq_true rfl) fun a25 v26 C27 => (Xz (K := K) (r := Xa) 8 (Xm (r := Xa) 6 rfl (fun _ s => (SC.r (SC.l s)))) fun a28 v29 => (Uh (J := ({ oo := fun x30 => [x16.2.2.2.2.2.2.2.2, x30.2.2.2.2.2.1, x30.2.2.2.2.2.2], ss := fun x30 => [some v_0, some v_1, some v_2, some v_3, some x30.1, some x16.2.2.2.2.2.1, some v18, some x30.2.2.2.2.1, some x30.2.2.2.1, x30.2.1, x30.2.2.1], sc := fun g31 x30 => (SC.addO (SC.add (SC.addO (SC.add (SC.addO (SC.add (SC.add (SC.add (SC.add SC.nil K (rV Xa) v_0 a_0) K (rD Xa) v_1 a_1) K (rV Xa) v_2 a_2) K Xa v_3 a_3) K (oL (oL (oF Xa))) x16.2.2.2.2.2.1 g15.2 x16.2.2.2.2.2.2.2.2) K Xa v18 a17) K (oL (oF X7)) x30.1 g31.1 x30.2.2.2.2.2.1) K Xa x30.2.2.2.1 g31.2.1) K (oL (oF Xa)) x30.2.2.2.2.1 g31.2.2 x30.2.2.2.2.2.2) } : Jn ((List Bool) × Int × (List Int)) (V × Option V × Option V × V × V × List XL × List XL))) (a_3.natAbs + 2) (x16.2.2.2.1, (x16.2.2.2.2.1), (x16.2.2.2.2.2.2.1), v29, v26, x16.2.2.2.2.2.2.2.1, C27) (g15.1, a28, a25) rfl rfl (fun _ s => (SC.i (SC.i (SC.i (SC.i (SC.i (SC.i (SC.i (SC.i (SC.i SC.t (SC.r (SC.l (SC.l (SC.l (SC.l (SC.l (SC.l (SC.l (SC.l s)))))))))) (SC.r (SC.l (SC.l (SC.l (SC.l (SC.l (SC.l (SC.l s))))))))) (SC.r (SC.l (SC.l (SC.l (SC.l (SC.l (SC.l s)))))))) (SC.r (SC.l (SC.l (SC.l (SC.l (SC.l s))))))) (SC.r (SC.l (SC.l (SC.l s))))) (SC.r (SC.l (SC.l s)))) (SC.r (SC.l (SC.l (SC.l (SC.l s)))))) (SC.r s)) (SC.r (SC.l s)))) (fun g32 x33 => (V5 (GC (K := K) (Xs (Zj (o := (oL (oF X7))) 4 1 rfl rfl (fun _ s => (SC.r (SC.l (SC.l s))))) (Xb (r := Xa) 8 rfl (fun _ s => (SC.r (SC.l s)))))))) (fun g32 x33 => (JS (K := K) (o := (oF X7)) 4 1 rfl rfl (fun _ s => (SC.r (SC.l (SC.l s)))) (EvS.ev (EvB.sh (QA true))) (fun _ => (Xb (r := Xa) 8 rfl (fun _ s => (SC.r (SC.l s))))) fun a39 C40 => (YC (K := K) (J := ({ oo := fun x43 => [x16.2.2.2.2.2.2.2.2, C40, x43.2.2.2.2], ss := fun x43 => [some v_0, some v_1, some v_2, some v_3, some x33.1, some x16.2.2.2.2.2.1, some v18, some x43.2.2.2.1, some x43.2.2.1, x43.1, x43.2.1], sc := fun g44 x43 => (SC.addO (SC.add (SC.addO (SC.add (SC.addO (SC.add (SC.add (SC.add (SC.add SC.nil K (rV Xa) v_0 a_0) K (rD Xa) v_1 a_1) K (rV Xa) v_2 a_2) K Xa v_3 a_3) K (oL (oL (oF Xa))) x16.2.2.2.2.2.1 g15.2 x16.2.2.2.2.2.2.2.2) K Xa v18 a17) K (oL (oF X7)) x33.1 a39 C40) K Xa x43.2.2.1 g44.1) K (oL (oF Xa)) x43.2.2.2.1 g44.2 x43.2.2.2.2) } : Jn (Int × (List Int)) (Option V × Option V × V × V × List XL))) (fun _ => tg1 9) ((x33.2.1), (x33.2.2.1), x33.2.2.2.1, x33.2.2.2.2.1, x33.2.2.2.2.2.2) (g32.2.1, g32.2.2) (XJ (XO (Xb (r := (rV Xa)) 0 rfl (fun _ s => (SC.r (SC.l (SC.l (SC.l (SC.l (SC.l (SC.l (SC.l (SC.l (SC.l s)))))))))))))) rfl rfl (fun _ s => (SC.i (SC.i (SC.i (SC.i (SC.i (SC.i (SC.i (SC.i (SC.i SC.t (SC.r (SC.l (SC.l (SC.l (SC.l (SC.l (SC.l (SC.l (SC.l (SC.l s))))))))))) (SC.r (SC.l (SC.l (SC.l (SC.l (SC.l (SC.l (SC.l (SC.l s)))))))))) (SC.r (SC.l (SC.l (SC.l (SC.l (SC.l (SC.l (SC.l s))))))))) (SC.r (SC.l (SC.l (SC.l (SC.l (SC.l (SC.l s)))))))) (SC.r (SC.l (SC.l (SC.l (SC.l (SC.l s))))))) (SC.r (SC.l (SC.l (SC.l (SC.l s)))))) (SC.r s)) (SC.r (SC.l (SC.l s)))) (SC.r (SC.l s)))) (fun g45 x46 a47 v48 => (Xz (K := K) (r := Xa) 10 (EvB.sh (XM (Xs (Xb (r := (rV Xa)) 2 rfl (fun _ s => (SC.r (SC.l (SC.l (SC.l (SC.l (SC.l (SC.l (SC.l s)))))))))) (XI (Yd (Xe 8) (Xb (r := Xa) 9 rfl (fun _ s => (SC.r s)))) (Xe 10))) (Y6 (Xb (r := Xa) 3 rfl (fun _ s => (SC.r (SC.l (SC.l (SC.l (SC.l (SC.l (SC.l s))))))))) (Xe 1)))) fun a49 v50 => (Yr (J := ({ oo := fun x64 => [x16.2.2.2.2.2.2.2.2, C40, x64.2.2], ss := fun x64 => [some v_0, some v_1, some v_2, some v_3, some x33.1, some x16.2.2.2.2.2.1, some v18, some x64.2.1, some x64.1, some v48, some v50], sc := fun g65 x64 => (SC.addO (SC.add (SC.add (SC.add (SC.addO (SC.add (SC.addO (SC.add (SC.add (SC.add (SC.add SC.nil K (rV Xa) v_0 a_0) K (rD Xa) v_1 a_1) K (rV Xa) v_2 a_2) K Xa v_3 a_3) K (oL (oL (oF Xa))) x16.2.2.2.2.2.1 g15.2 x16.2.2.2.2.2.2.2.2) K Xa v18 a17) K (oL (oF X7)) x33.1 a39 C40) K Xa v48 a47) K Xa v50 a49) K Xa x64.1 g65.1) K (oL (oF Xa)) x64.2.1 g65.2 x64.2.2) } : Jn (Int × (List Int)) (V × V × List XL))) (Y0 (Fd := FNd ({ oo := fun x64 => [x16.2.2.2.2.2.2.2.2, C40, x64.2.2], ss := fun x64 => [some v_0, some v_1, some v_2, some v_3, some x33.1, some x16.2.2.2.2.2.1, some v18, some x64.2.1, some x64.1, some v48, some v50], sc := fun g65 x64 => (SC.addO (SC.add (SC.add (SC.add (SC.addO (SC.add (SC.addO (SC.add (SC.add (SC.add (SC.add SC.nil K (rV Xa) v_0 a_0) K (rD Xa) v_1 a_1) K (rV Xa) v_2 a_2) K Xa v_3 a_3) K (oL (oL (oF Xa))) x16.2.2.2.2.2.1 g15.2 x16.2.2.2.2.2.2.2.2) K Xa v18 a17) K (oL (oF X7)) x33.1 a39 C40) K Xa v48 a47) K Xa v50 a49) K Xa x64.1 g65.1) K (oL (oF Xa)) x64.2.1 g65.2 x64.2.2) } : Jn (Int × (List Int)) (V × V × List XL))) (Xo (K := K) (YH (Xb (r := Xa) 8 rfl (fun _ s => (SC.r (SC.l (SC.l (SC.l s)))))) (Xb (r := Xa) 10 rfl (fun _ s => (SC.r s))))) (ZB (K := K) (o := (oF Xa)) (f := fun a76 => (Res.bind (Res.bind (Res.ok a49) fun x79 => (Res.bind (Res.ok (1 : Int)) fun x80 => (Res.ok (x79 + x80)))) fun a77 => (Res.ok (a77, a76)))) 7 2 rfl rfl rfl (fun _ s => (SC.r (SC.l (SC.l s)))) (EvS.ev (EvB.sh (Yd (Xs (Xb (r := (rV Xa)) 0 rfl (fun _ s => (SC.r (SC.l (SC.l (SC.l (SC.l (SC.l (SC.l (SC.l (SC.l (SC.l (SC.l s))))))))))))) (Xb (r := Xa) 9 rfl (fun _ s => (SC.r (SC.l s))))) (Ul (Xb (r := (rD Xa)) 1 rfl (fun _ s => (SC.r (SC.l (SC.l (SC.l (SC.l (SC.l (SC.l (SC.l (SC.l (SC.l s)))))))))))) (Xs (Xb (r := (rV Xa)) 0 rfl (fun _ s => (SC.r (SC.l (SC.l (SC.l (SC.l (SC.l (SC.l (SC.l (SC.l (SC.l (SC.l s))))))))))))) (Xb (r := Xa) 9 rfl (fun _ s => (SC.r (SC.l s))))))))) fun a74 C75 => (Xz (K := K) (r := Xa) 8 (EvB.sh (XI (Xb (r := Xa) 10 rfl (fun _ s => (SC.r (SC.l s)))) (Xe 1))) fun a77 v78 => (Xv (J := _) (v78, x46.2.2.2.1, C75) (a77, (g45.2 ++ [a74])) rfl rfl (fun _ s => (SC.i (SC.i (SC.i (SC.i (SC.i (SC.i (SC.i (SC.i (SC.i (SC.i (SC.i SC.t (SC.r (SC.l (SC.l (SC.l (SC.l (SC.l (SC.l (SC.l (SC.l (SC.l (SC.l (SC.l (SC.l s)))))))))))))) (SC.r (SC.l (SC.l (SC.l (SC.l (SC.l (SC.l (SC.l (SC.l (SC.l (SC.l (SC.l s))))))))))))) (SC.r (SC.l (SC.l (SC.l (SC.l (SC.l (SC.l (SC.l (SC.l (SC.l (SC.l s)))))))))))) (SC.r (SC.l (SC.l (SC.l (SC.l (SC.l (SC.l (SC.l (SC.l (SC.l s))))))))))) (SC.r (SC.l (SC.l (SC.l (SC.l (SC.l (SC.l (SC.l (SC.l s)))))))))) (SC.r (SC.l (SC.l (SC.l (SC.l (SC.l (SC.l (SC.l s))))))))) (SC.r (SC.l (SC.l (SC.l (SC.l (SC.l (SC.l s)))))))) (SC.r (SC.l (SC.l (SC.l s))))) (SC.r (SC.l (SC.l s)))) (SC.r s)) (SC.r (SC.l s))))))) (Yr (J := ({ oo := fun x86 => [x16.2.2.2.2.2.2.2.2, C40, x86.2.2], ss := fun x86 => [some v_0, some v_1, some v_2, some v_3, some x33.1, some x16.2.2.2.2.2.1, some v18, some x86.2.1, some x86.1, some v48, some v50], sc := fun g87 x86 => (SC.addO (SC.add (SC.add (SC.add (SC.addO (SC.add (SC.addO (SC.add (SC.add (SC.add (SC.add SC.nil K (rV Xa) v_0 a_0) K (rD Xa) v_1 a_1) K (rV Xa) v_2 a_2) K Xa v_3 a_3) K (oL (oL (oF Xa))) x16.2.2.2.2.2.1 g15.2 x16.2.2.2.2.2.2.2.2) K Xa v18 a17) K (oL (oF X7)) x33.1 a39 C40) K Xa v48 a47) K Xa v50 a49) K Xa x86.1 g87.1) K (oL (oF Xa)) x86.2.1 g87.2 x86.2.2) } : Jn (Int × (List Int)) (V × V × List XL))) (Y0 (Fd := FNd ({ oo := fun x86 => [x16.2.2.2.2.2.2.2.2, C40, x86.2.2], ss := fun x86 => [some v_0, some v_1, some v_2, some v_3, some x33.1, some x16.2.2.2.2.2.1, some v18, some x86.2.1, some x86.1, some v48, some v50], sc := fun g87 x86 => (SC.addO (SC.add (SC.add (SC.add (SC.addO (SC.add (SC.addO (SC.add (SC.add (SC.add (SC.add SC.nil K (rV Xa) v_0 a_0) K (rD Xa) v_1 a_1) K (rV Xa) v_2 a_2) K Xa v_3 a_3) K (oL (oL (oF Xa))) x16.2.2.2.2.2.1 g15.2 x16.2.2.2.2.2.2.2.2) K Xa v18 a17) K (oL (oF X7)) x33.1 a39 C40) K Xa v48 a47) K Xa v50 a49) K Xa x86.1 g87.1) K (oL (oF Xa)) x86.2.1 g87.2 x86.2.2) } : Jn (Int × (List Int)) (V × V × List XL))) (Xo (K := K) (YH (Xb (r := Xa) 8 rfl (fun _ s => (SC.r (SC.l (SC.l (SC.l s)))))) (XI (Xb (r := Xa) 10 rfl (fun _ s => (SC.r s))) (Xe 1)))) (ZB (K := K) (o := (oF Xa)) (f := fun a99 => (Res.bind (Res.ok a49) fun a100 => (Res.ok (a100, a99)))) 7 2 rfl rfl rfl (fun _ s => (SC.r (SC.l (SC.l s)))) (EvS.ev (EvB.sh (Yd (ZC (Xs (Xb (r := (rV Xa)) 0 rfl (fun _ s => (SC.r (SC.l (SC.l (SC.l (SC.l (SC.l (SC.l (SC.l (SC.l (SC.l (SC.l s))))))))))))) (Xb (r := Xa) 9 rfl (fun _ s => (SC.r (SC.l s)))))) (Ul (Xb (r := (rD Xa)) 1 rfl (fun _ s => (SC.r (SC.l (SC.l (SC.l (SC.l (SC.l (SC.l (SC.l (SC.l (SC.l s)))))))))))) (Xs (Xb (r := (rV Xa)) 0 rfl (fun _ s => (SC.r (SC.l (SC.l (SC.l (SC.l (SC.l (SC.l (SC.l (SC.l (SC.l (SC.l s))))))))))))) (Xb (r := Xa) 9 rfl (fun _ s => (SC.r (SC.l s))))))))) fun a97 C98 => (Xz (K := K) (r := Xa) 8 (Xm (r := Xa) 10 rfl (fun _ s => (SC.r (SC.l s)))) fun a100 v101 => (Xv (J := _) (v101, x46.2.2.2.1, C98) (a100, (g45.2 ++ [a97])) rfl rfl (fun _ s => (SC.i (SC.i (SC.i (SC.i (SC.i (SC.i (SC.i (SC.i (SC.i (SC.i (SC.i SC.t (SC.r (SC.l (SC.l (SC.l (SC.l (SC.l (SC.l (SC.l (SC.l (SC.l (SC.l (SC.l (SC.l s)))))))))))))) (SC.r (SC.l (SC.l (SC.l (SC.l (SC.l (SC.l (SC.l (SC.l (SC.l (SC.l (SC.l s))))))))))))) (SC.r (SC.l (SC.l (SC.l (SC.l (SC.l (SC.l (SC.l (SC.l (SC.l (SC.l s)))))))))))) (SC.r (SC.l (SC.l (SC.l (SC.l (SC.l (SC.l (SC.l (SC.l (SC.l s))))))))))) (SC.r (SC.l (SC.l (SC.l (SC.l (SC.l (SC.l (SC.l (SC.l s)))))))))) (SC.r (SC.l (SC.l (SC.l (SC.l (SC.l (SC.l (SC.l s))))))))) (SC.r (SC.l (SC.l (SC.l (SC.l (SC.l (SC.l s)))))))) (SC.r (SC.l (SC.l (SC.l s))))) (SC.r (SC.l (SC.l s)))) (SC.r s)) (SC.r (SC.l s))))))) (Xv (J := _) (x46.2.2.1, x46.2.2.2.1, x46.2.2.2.2) (g45.1, g45.2) rfl rfl (fun _ s => (SC.i (SC.i (SC.i (SC.i (SC.i (SC.i (SC.i (SC.i (SC.i (SC.i (SC.i SC.t (SC.r (SC.l (SC.l (SC.l (SC.l (SC.l (SC.l (SC.l (SC.l (SC.l (SC.l s)))))))))))) (SC.r (SC.l (SC.l (SC.l (SC.l (SC.l (SC.l (SC.l (SC.l (SC.l s))))))))))) (SC.r (SC.l (SC.l (SC.l (SC.l (SC.l (SC.l (SC.l (SC.l s)))))))))) (SC.r (SC.l (SC.l (SC.l (SC.l (SC.l (SC.l (SC.l s))))))))) (SC.r (SC.l (SC.l (SC.l (SC.l (SC.l (SC.l s)))))))) (SC.r (SC.l (SC.l (SC.l (SC.l (SC.l s))))))) (SC.r (SC.l (SC.l (SC.l (SC.l s)))))) (SC.r (SC.l s))) (SC.r s)) (SC.r (SC.l (SC.l (SC.l s))))) (SC.r (SC.l (SC.l s))))))) fun g103 x102 => (Xv (J := _) (x102.1, x102.2.1, x102.2.2) (g103.1, g103.2) rfl rfl (fun _ s => (SC.i (SC.i (SC.i (SC.i (SC.i (SC.i (SC.i (SC.i (SC.i (SC.i (SC.i SC.t (SC.r (SC.l (SC.l (SC.l (SC.l (SC.l (SC.l (SC.l (SC.l (SC.l (SC.l s)))))))))))) (SC.r (SC.l (SC.l (SC.l (SC.l (SC.l (SC.l (SC.l (SC.l (SC.l s))))))))))) (SC.r (SC.l (SC.l (SC.l (SC.l (SC.l (SC.l (SC.l (SC.l s)))))))))) (SC.r (SC.l (SC.l (SC.l (SC.l (SC.l (SC.l (SC.l s))))))))) (SC.r (SC.l (SC.l (SC.l (SC.l (SC.l (SC.l s)))))))) (SC.r (SC.l (SC.l (SC.l (SC.l (SC.l s))))))) (SC.r (SC.l (SC.l (SC.l (SC.l s)))))) (SC.r (SC.l (SC.l (SC.l s))))) (SC.r (SC.l (SC.l s)))) (SC.r (SC.l s))) (SC.r s)))))) fun g105 x104 => (Xv (J := _) ((some v48), (some v50), x104.1, x104.2.1, x104.2.2) (g105.1, g105.2) rfl rfl (fun _ s => (SC.i (SC.i (SC.i (SC.i (SC.i (SC.i (SC.i (SC.i (SC.i SC.t (SC.r (SC.l (SC.l (SC.l (SC.l (SC.l (SC.l (SC.l (SC.l (SC.l (SC.l s)))))))))))) (SC.r (SC.l (SC.l (SC.l (SC.l (SC.l (SC.l (SC.l (SC.l (SC.l s))))))))))) (SC.r (SC.l (SC.l (SC.l (SC.l (SC.l (SC.l (SC.l (SC.l s)))))))))) (SC.r (SC.l (SC.l (SC.l (SC.l (SC.l (SC.l (SC.l s))))))))) (SC.r (SC.l (SC.l (SC.l (SC.l (SC.l (SC.l s)))))))) (SC.r (SC.l (SC.l (SC.l (SC.l (SC.l s))))))) (SC.r (SC.l (SC.l (SC.l (SC.l s)))))) (SC.r (SC.l s))) (SC.r s))))))) fun g106 x107 => (Xv (J := _) (x33.1, (x107.1), (x107.2.1), x107.2.2.1, x107.2.2.2.1, C40, x107.2.2.2.2) (a39, g106.1, g106.2) rfl rfl (fun _ s => (SC.i (SC.i (SC.i (SC.i (SC.i (SC.i (SC.i (SC.i (SC.i SC.t (SC.r (SC.l (SC.l (SC.l (SC.l (SC.l (SC.l (SC.l (SC.l s)))))))))) (SC.r (SC.l (SC.l (SC.l (SC.l (SC.l (SC.l (SC.l s))))))))) (SC.r (SC.l (SC.l (SC.l (SC.l (SC.l (SC.l s)))))))) (SC.r (SC.l (SC.l (SC.l (SC.l (SC.l s))))))) (SC.r (SC.l (SC.l (SC.l (SC.l s)))))) (SC.r (SC.l (SC.l (SC.l s))))) (SC.r (SC.l (SC.l s)))) (SC.r (SC.l s))) (SC.r s))))))) fun g109 x110 => (ZB (K := K) (o := (oL (oF Xa))) (f := fun a113 => (Res.ok (g109.1, a113))) 5 0 rfl rfl rfl (fun _ s => (SC.r (SC.l (SC.l (SC.l (SC.l s)))))) (Yp (o := (oL (oF Xa))) 7 2 rfl rfl (fun _ s => (SC.r s))) fun a111 C112 => (Xv (J := _) ((some x110.2.2.2.2.1), (some x110.2.2.2.1), x110.1, (x110.2.1), x16.2.2.2.2.2.1, (x110.2.2.1), x110.2.2.2.2.2.1, C112) (g109.1, (g15.2 ++ [a111])) rfl rfl (fun _ s => (SC.i (SC.i (SC.i (SC.i (SC.i (SC.i (SC.i SC.t (SC.r (SC.l (SC.l (SC.l (SC.l (SC.l (SC.l (SC.l (SC.l (SC.l s))))))))))) (SC.r (SC.l (SC.l (SC.l (SC.l (SC.l (SC.l (SC.l (SC.l s)))))))))) (SC.r (SC.l (SC.l (SC.l (SC.l (SC.l (SC.l (SC.l s))))))))) (SC.r (SC.l (SC.l (SC.l (SC.l (SC.l (SC.l s)))))))) (SC.r (SC.l (SC.l (SC.l (SC.l s)))))) (SC.r (SC.l (SC.l (SC.l s))))) (SC.r s)))))))) (Xv (J := _) ((x16.2.1), (x16.2.2.1), x16.2.2.2.1, (x16.2.2.2.2.1), x16.2.2.2.2.2.1, (x16.2.2.2.2.2.2.1), x16.2.2.2.2.2.2.2.1, x16.2.2.2.2.2.2.2.2) (g15.1, g15.2) rfl rfl (fun _ s => (SC.i (SC.i (SC.i (SC.i (SC.i (SC.i (SC.i SC.t (SC.r (SC.l (SC.l (SC.l (SC.l (SC.l (SC.l s)))))))) (SC.r (SC.l (SC.l (SC.l (SC.l (SC.l s))))))) (SC.r (SC.l (SC.l (SC.l (SC.l s)))))) (SC.r (SC.l (SC.l (SC.l s))))) (SC.r s)) (SC.r (SC.l (SC.l s)))) (SC.r (SC.l s)))))) fun g115 x114 => (Xv (J := _) ((some v18), (x114.1), (x114.2.1), x114.2.2.1, (x114.2.2.2.1), x114.2.2.2.2.1, (x114.2.2.2.2.2.1), x114.2.2.2.2.2.2.1, x114.2.2.2.2.2.2.2) (g115.1, g115.2) rfl rfl (fun _ s => (SC.i (SC.i (SC.i (SC.i (SC.i (SC.i SC.t (SC.r (SC.l (SC.l (SC.l (SC.l (SC.l (SC.l s)))))))) (SC.r (SC.l (SC.l (SC.l (SC.l (SC.l s))))))) (SC.r (SC.l (SC.l (SC.l (SC.l s)))))) (SC.r (SC.l (SC.l (SC.l s))))) (SC.r (SC.l s))) (SC.r s)))))) fun g116 x117 => (XE (Yp (o := (oL (oL (oF Xa)))) 5 0 rfl rfl (fun _ s => (SC.r s)))))))
theorem YX : FnScope ["_law_script", "_law_place", "_law_most", "_law_sizes", "_law_some", "_law_names", "_law_signs", "_law_last", "_law_k", "_law_step", "_law_walks", "_law_rings"] ["_law_script", "_law_place", "_law_most"] (Xi ZX) := ⟨rfl, rfl, rfl, by decide +kernel, rfl, by decide +kernel, by decide +kernel⟩
set_option maxHeartbeats 4000000 in
theorem CD (D : Def K mg "_law_drawn" ZX ["_law_script", "_law_place", "_law_most"]) (g_row : Fn P w K mg base 2 "_law_row" ["_law_script", "_law_place", "_law_sizes"] (sp3 (rL Xa) Xa (rV Xa) (oL (oF Xa)) Vu K)) (g_plaited : Fn P w K mg base 1 "_law_plaited" ["_law_names", "_law_signs", "_law_some", "_law_strands"] (sp4 (rV Xa) (rD Xa) (rV Xa) Xa (oL (oL (oF Xa))) ZU K)) (g_any : Fn P w K mg base 1 "_law_any" ["_law_names", "_law_some", "_law_rings"] (sp3 (rV Xa) (rV Xa) Xa (oL (oL (oF Xa))) G0 K)) (g_mixed : Fn P w K mg base 1 "_law_mixed" ["_law_names", "_law_some"] (sp2 (rV Xa) (rV Xa) (oL (oF Xa)) Jh K)) (Z : Blt mg) : Fn P w K mg base 3 "_law_drawn" ["_law_script", "_law_place", "_law_most"] (sp3 (rL Xa) Xa Xa (oT2 (oL (oL (oF Xa))) (oL (oF (rP2 Xa Xa)))) Jf K) := by
  refine YT D YX (fun vs H Q E h => ?_) (fun f cdv A outer s H vs Q E hr h => ?_)
  · obtain ⟨v_0, v_1, v_2, a_0, a_1, a_2, b, rfl, _⟩ := h; rfl
  obtain ⟨v_0, v_1, v_2, a_0, a_1, a_2, b, rfl, h_0, h_1, h_2, hm, q⟩ := h
  have hu := hu8 hr
  have hu1 := YK hr
  refine ⟨_, (Xc (Xp (i := 3) YX.nd rfl (Or.inl rfl) (XV (Xd (Xq X0 (pv 2) Xf) (Xd Xf (Xd Xf (Xd Xf (Xd Xf Xg)))))))
    (Xc (Xp (i := 4) YX.nd rfl (Or.inl rfl) (Ya g_row hr (by decide) (Xd (pv 0) (Xd (pv 1) (Xd (Xq VS (pv 3) (Xq Jv (XV (Xd Xf (Xd Xf (Xd Xf (Xd Xf Xg))))) (Xq YM Xf (pv 2)))) Xg)))))
    (Xc (Xp (i := 5) YX.nd rfl (Or.inl rfl) (XV Xg))
    (Xc (Xp (i := 6) YX.nd rfl (Or.inr rfl) CF)
    (Xc (Xp (i := 7) YX.nd rfl (Or.inl rfl) Xf)
    (Xc (Yf PassesOwn.never rfl (X1 rfl Z.b_range (Xd (Xx (Xj K rfl) (pv 4) Xf (fun _ _ => rfl)) Xg)) (Xr (i := 8) YX.nd rfl (Or.inl rfl))
      (Xc (Xp (i := 9) YX.nd rfl (Or.inl rfl) (Xq YM (Xx (Xj K rfl) (pv 4) (Xq X0 (Xq YM Xf (pv 8)) Xf) (fun _ _ => rfl)) (Xx (Xj K rfl) (XV (Xd Xf (Xd Xf (Xd (Xq KW Xf Xf) Xg)))) (Xx (Xj K rfl) (pv 4) Xf (fun _ _ => rfl)) (fun _ _ => rfl))))
      (Xc (Xp (i := 7) YX.nd rfl (Or.inl rfl) (Xq X0 (Xq X0 (pv 7) Xf) (pv 9)))
      (Xc (Yz (Zz PySem.F.plainAttrs_list PySem.F.slot_list_append PySem.F.type_list_append XZ (pv 5) (Xd (pv 7) Xg)))
      (Xc (BE hu1 (pv 6) (pv 7) (Xq ZK (Xq YM Xf (Xx (Xj K rfl) (pv 4) (Xq X0 (Xq YM Xf (pv 8)) Xf) (fun _ _ => rfl))) Xf) rfl)
      Xh)))))
    (Xc (YD (Xt Qy (Xx (Xj K rfl) (pv 4) Xf (fun _ _ => rfl)) Xf (XA _))
      (Xc (Xp (i := 10) YX.nd rfl (Or.inl rfl) (Ya g_plaited hr (by decide) (Xd (Ya g_mixed hr (by decide) (Xd (pv 5) (Xd (pv 4) Xg))) (Xd (pv 6) (Xd (pv 4) (Xd (Xq X0 Xf (Xx (Xj K rfl) (pv 4) Xf (fun _ _ => rfl))) Xg))))))
      Xh)
      (Xc (Xp (i := 11) YX.nd rfl (Or.inl rfl) (Xu (Vq rfl) rfl Z.b_max PyProof.Rows.boot_max (Xd (Xx (Xj K rfl) (pv 4) Xf (fun _ _ => rfl)) (Xd (Xu (De rfl) rfl Z.b_min PyProof.Rows.boot_min (Xd (Xu (Xk K rfl) rfl Z.b_len PySem.boot_len (Xd (pv 5) Xg)) (Xd Xf Xg))) Xg))))
      (Xc (Xp (i := 10) YX.nd rfl (Or.inl rfl) (Ya g_any hr (by decide) (Xd (pv 5) (Xd (pv 4) (Xd (pv 11) Xg)))))
      Xh)))
    (Xc (XF (Z8 (Xd (pv 10) (Xd (ZJ (sc := (Xi ZX)) (N0 := ["_law_script", "_law_place", "_law_most", "_law_sizes", "_law_some", "_law_names", "_law_signs", "_law_last", "_law_k", "_law_step", "_law_walks", "_law_rings"]) (tns := ["_law_one"]) (caps := [(6, "_law_signs")]) rfl (XW (K := K) rfl (pv 5)) (Zm (by decide)) (fun cl C s H ex E => ⟨Xr (i := 0) (show List.Nodup (["_law_one", "_law_signs"] : List Str) by decide +kernel) rfl (Or.inl rfl), ZD, (Z8 (Xd (pv 0) (Xd (Kr hu1 (pv 1) (pv 0) (fun _ _ => rfl)) Xg)))⟩)) Xg))))
    Xh)))))))), ?_⟩
  refine YN (S := (SC.add (SC.add (SC.add SC.nil K (rL Xa) v_0 a_0) K Xa v_1 a_1) K Xa v_2 a_2)) (σ := [some v_0, some v_1, some v_2, none, none, none, none, none, none, none, none, none]) 3 ?_ (SC.i (SC.i (SC.i SC.t h_0) h_1) h_2) hm q rfl
  unfold Jf
  exact (Xz (K := K) (r := (rV Xa)) 3 (Ev.sh (YG (Xn (EvB.sh (XI (Xb (r := Xa) 2 rfl (fun _ s => (SC.r s))) (Xe 1))) (Xn (EvB.sh (Xe 5)) (Xn (EvB.sh (Xe 4)) (Xn (EvB.sh (Xe 3)) (Xn (EvB.sh (Xe 3)) X9))))))) fun a1 v2 => (Xz (K := K) (r := (rV Xa)) 4 (Ev.sh (Yw (Xb (r := (rL Xa)) 0 rfl (fun _ s => (SC.r (SC.l (SC.l (SC.l s)))))) (Xb (r := Xa) 1 rfl (fun _ s => (SC.r (SC.l (SC.l s))))) (Ev.toB (VV (EvS.ls (Xm (r := (rV Xa)) 3 rfl (fun _ s => (SC.r s)))) (Ev.ls (Jr (Ev.ls (YG (Xn (EvB.sh (Xe 80)) (Xn (EvB.sh (Xe 5)) (Xn (EvB.sh (Xe 2)) (Xn (EvB.sh (Xe 3)) X9)))))) (Yd (Xe 2) (Xb (r := Xa) 2 rfl (fun _ s => (SC.r (SC.l s))))))))))) fun a16 v17 => (XN (K := K) (o := (oL (oF Xa))) 5 2 (Qx (o := (oF Xa))) (Nat.le_of_ble_eq_true rfl) fun a37 v38 C39 => (XN (K := K) (o := (oD Xa)) 6 1 (Eo (r := Xa)) (Nat.le_of_ble_eq_true rfl) fun a40 v41 C42 => (Xz (K := K) (r := Xa) 7 (EvB.sh (Xe 0)) fun a43 v44 => (YC (K := K) (J := ({ oo := fun x48 => [[], x48.2.2.2.2.2.1, x48.2.2.2.2.2.2], ss := fun x48 => [some v_0, some v_1, some v_2, some v2, some v17, some x48.2.2.2.2.1, some x48.2.2.2.1, some x48.2.2.1, x48.1, x48.2.1, none, none], sc := fun g49 x48 => (SC.addO (SC.addO (SC.add (SC.add (SC.add (SC.add (SC.add (SC.add SC.nil K (rL Xa) v_0 a_0) K Xa v_1 a_1) K Xa v_2 a_2) K (rV Xa) v2 a1) K (rV Xa) v17 a16) K Xa x48.2.2.1 g49.1) K (oD Xa) x48.2.2.2.1 g49.2.1 x48.2.2.2.2.2.1) K (oL (oF Xa)) x48.2.2.2.2.1 g49.2.2 x48.2.2.2.2.2.2) } : Jn (Int × (List (Int × Int)) × (List Int)) (Option V × Option V × V × V × V × List XL × List XL))) (fun _ => tg1 8) ((none), (none), v44, v41, v38, C42, C39) (a43, a40, a37) (XJ (Xs (Xb (r := (rV Xa)) 4 rfl (fun _ s => (SC.r (SC.l (SC.l (SC.l s)))))) (Xe 0))) rfl rfl (fun _ s => (SC.i (SC.i (SC.i (SC.i (SC.i (SC.i (SC.i (SC.i SC.t (SC.r (SC.l (SC.l (SC.l (SC.l (SC.l (SC.l (SC.l s))))))))) (SC.r (SC.l (SC.l (SC.l (SC.l (SC.l (SC.l s)))))))) (SC.r (SC.l (SC.l (SC.l (SC.l (SC.l s))))))) (SC.r (SC.l (SC.l (SC.l (SC.l s)))))) (SC.r (SC.l (SC.l (SC.l s))))) (SC.r s)) (SC.r (SC.l s))) (SC.r (SC.l (SC.l s))))) (fun g50 x51 a52 v53 => (Xz (K := K) (r := Xa) 9 (EvB.sh (Yd (Xs (Xb (r := (rV Xa)) 4 rfl (fun _ s => (SC.r (SC.l (SC.l (SC.l (SC.l s))))))) (XI (Yd (Xe 8) (Xb (r := Xa) 8 rfl (fun _ s => (SC.r s)))) (Xe 8))) (Xs (Ev.toB (YG (Xn (EvB.sh (Xe 0)) (Xn (EvB.sh (Xe 1)) (Xn (EvB.sh (Ui (Xe 10) (Xe 9))) X9))))) (Xs (Xb (r := (rV Xa)) 4 rfl (fun _ s => (SC.r (SC.l (SC.l (SC.l (SC.l s))))))) (Xe 3))))) fun a54 v55 => (Xz (K := K) (r := Xa) 7 (EvB.sh (XI (XI (Xb (r := Xa) 7 rfl (fun _ s => (SC.r (SC.l (SC.l (SC.l (SC.l s))))))) (Xe 1)) (Xb (r := Xa) 9 rfl (fun _ s => (SC.r s))))) fun a77 v78 => (ZB (K := K) (o := (oF Xa)) (f := fun a85 => (Res.bind (Res.bind (Res.bind (Res.ok (2 : Int)) fun x92 => (Res.bind (Res.bind (Res.ok a16) fun x90 => (Res.bind (Res.bind (Res.bind (Res.ok (8 : Int)) fun x86 => (Res.bind (Res.ok a52) fun x87 => (QQ x86 x87))) fun x88 => (Res.bind (Res.ok (7 : Int)) fun x89 => (Res.ok (x88 + x89)))) fun x91 => (atR x90 x91))) fun x93 => (QQ x92 x93))) fun x94 => (Res.bind (Res.ok (1 : Int)) fun x95 => (Res.ok (x94 - x95)))) fun x96 => (Res.bind (Res.ok a77) fun x97 => (chk (g50.2.1.length < sizeLine) ((fun a98 => (Res.ok (a77, a98, a85))) (KB g50.2.1 x97 x96)))))) 5 2 rfl rfl rfl (fun _ s => (SC.r (SC.l (SC.l (SC.l s))))) (EvS.ev (Xm (r := Xa) 7 rfl (fun _ s => (SC.r s)))) fun a83 C84 => (BD (K := K) (r := Xa) (f := fun a98 => (Res.ok (a77, a98, (g50.2.2 ++ [a83])))) 6 1 rfl rfl (fun _ s => (SC.r (SC.l (SC.l (SC.l (SC.l (SC.l s))))))) (EvB.sh (Y6 (Yd (Xe 2) (Xs (Xb (r := (rV Xa)) 4 rfl (fun _ s => (SC.r (SC.l (SC.l (SC.l (SC.l (SC.l (SC.l (SC.l s)))))))))) (XI (Yd (Xe 8) (Xb (r := Xa) 8 rfl (fun _ s => (SC.r (SC.l (SC.l (SC.l s))))))) (Xe 7)))) (Xe 1))) (Xb (r := Xa) 7 rfl (fun _ s => (SC.r (SC.l s)))) fun a98 C99 => (Xv (J := _) ((some v53), (some v55), v78, x51.2.2.2.1, x51.2.2.2.2.1, C99, C84) (a77, a98, (g50.2.2 ++ [a83])) rfl rfl (fun _ s => (SC.i (SC.i (SC.i (SC.i (SC.i (SC.i (SC.i (SC.i SC.t (SC.r (SC.l (SC.l (SC.l (SC.l (SC.l (SC.l (SC.l (SC.l (SC.l (SC.l (SC.l (SC.l s)))))))))))))) (SC.r (SC.l (SC.l (SC.l (SC.l (SC.l (SC.l (SC.l (SC.l (SC.l (SC.l (SC.l s))))))))))))) (SC.r (SC.l (SC.l (SC.l (SC.l (SC.l (SC.l (SC.l (SC.l (SC.l (SC.l s)))))))))))) (SC.r (SC.l (SC.l (SC.l (SC.l (SC.l (SC.l (SC.l (SC.l (SC.l s))))))))))) (SC.r (SC.l (SC.l (SC.l (SC.l (SC.l (SC.l (SC.l (SC.l s)))))))))) (SC.r (SC.l (SC.l s)))) (SC.r s)) (SC.r (SC.l s)))))))))) fun g100 x101 => (Yr (J := ({ oo := fun x107 => [x107.2.2, x101.2.2.2.2.2.1, x101.2.2.2.2.2.2], ss := fun x107 => [some v_0, some v_1, some v_2, some v2, some v17, some x101.2.2.2.2.1, some x101.2.2.2.1, some x101.2.2.1, x101.1, x101.2.1, some x107.1, x107.2.1], sc := fun g108 x107 => (SC.addO (SC.addO (SC.addO (SC.add (SC.add (SC.add (SC.add (SC.add (SC.add SC.nil K (rL Xa) v_0 a_0) K Xa v_1 a_1) K Xa v_2 a_2) K (rV Xa) v2 a1) K (rV Xa) v17 a16) K Xa x101.2.2.1 g100.1) K (oD Xa) x101.2.2.2.1 g100.2.1 x101.2.2.2.2.2.1) K (oL (oF Xa)) x101.2.2.2.2.1 g100.2.2 x101.2.2.2.2.2.2) K (oL (oL (oF Xa))) x107.1 g108 x107.2.2) } : Jn ((List (List Int))) (V × Option V × List XL))) (Y0 (Fd := FNd ({ oo := fun x107 => [x107.2.2, x101.2.2.2.2.2.1, x101.2.2.2.2.2.2], ss := fun x107 => [some v_0, some v_1, some v_2, some v2, some v17, some x101.2.2.2.2.1, some x101.2.2.2.1, some x101.2.2.1, x101.1, x101.2.1, some x107.1, x107.2.1], sc := fun g108 x107 => (SC.addO (SC.addO (SC.addO (SC.add (SC.add (SC.add (SC.add (SC.add (SC.add SC.nil K (rL Xa) v_0 a_0) K Xa v_1 a_1) K Xa v_2 a_2) K (rV Xa) v2 a1) K (rV Xa) v17 a16) K Xa x101.2.2.1 g100.1) K (oD Xa) x101.2.2.2.1 g100.2.1 x101.2.2.2.2.2.1) K (oL (oF Xa)) x101.2.2.2.2.1 g100.2.2 x101.2.2.2.2.2.2) K (oL (oL (oF Xa))) x107.1 g108 x107.2.2) } : Jn ((List (List Int))) (V × Option V × List XL))) (Xo (K := K) (Zy (Xs (Xb (r := (rV Xa)) 4 rfl (fun _ s => (SC.r (SC.l (SC.l (SC.l s)))))) (Xe 2)) (Xe 2))) (XN (K := K) (o := (oL (oL (oF Xa)))) 10 0 (Cm (Ev.toB (Ym (Zj (o := (oL (oF Xa))) 5 2 rfl rfl (fun _ s => (SC.r s))) (Xb (r := (rV Xa)) 4 rfl (fun _ s => (SC.r (SC.l (SC.l (SC.l s)))))))) (Zj (o := (oD Xa)) 6 1 rfl rfl (fun _ s => (SC.r (SC.l s)))) (Xb (r := (rV Xa)) 4 rfl (fun _ s => (SC.r (SC.l (SC.l (SC.l s)))))) (XI (Xe 2) (Xs (Xb (r := (rV Xa)) 4 rfl (fun _ s => (SC.r (SC.l (SC.l (SC.l s)))))) (Xe 4)))) (Nat.le_of_ble_eq_true rfl) fun a109 v110 C111 => (Xv (J := _) (v110, (none), C111) (a109) rfl rfl (fun _ s => (SC.i (SC.i (SC.i (SC.i (SC.i (SC.i (SC.i (SC.i (SC.i SC.t (SC.r (SC.l (SC.l (SC.l (SC.l (SC.l (SC.l (SC.l (SC.l s)))))))))) (SC.r (SC.l (SC.l (SC.l (SC.l (SC.l (SC.l (SC.l s))))))))) (SC.r (SC.l (SC.l (SC.l (SC.l (SC.l (SC.l s)))))))) (SC.r (SC.l (SC.l (SC.l (SC.l (SC.l s))))))) (SC.r (SC.l (SC.l (SC.l (SC.l s)))))) (SC.r (SC.l (SC.l (SC.l s))))) (SC.r (SC.l (SC.l s)))) (SC.r (SC.l s))) (SC.r s))))) (Xz (K := K) (r := Xa) 11 (EvB.sh (KQ (Xs (Xb (r := (rV Xa)) 4 rfl (fun _ s => (SC.r (SC.l (SC.l (SC.l s)))))) (Xe 1)) (BT (XO (Zj (o := (oL (oF Xa))) 5 2 rfl rfl (fun _ s => (SC.r s)))) (Xe 1)))) fun a124 v125 => (XN (K := K) (o := (oL (oL (oF Xa)))) 10 0 (Yw (Zj (o := (oL (oF Xa))) 5 2 rfl rfl (fun _ s => (SC.r (SC.l s)))) (Xb (r := (rV Xa)) 4 rfl (fun _ s => (SC.r (SC.l (SC.l (SC.l (SC.l s))))))) (Xb (r := Xa) 11 rfl (fun _ s => (SC.r s)))) (Nat.le_of_ble_eq_true rfl) fun a133 v134 C135 => (Xv (J := _) (v134, (some v125), C135) (a133) rfl rfl (fun _ s => (SC.i (SC.i (SC.i (SC.i (SC.i (SC.i (SC.i (SC.i (SC.i SC.t (SC.r (SC.l (SC.l (SC.l (SC.l (SC.l (SC.l (SC.l (SC.l (SC.l s))))))))))) (SC.r (SC.l (SC.l (SC.l (SC.l (SC.l (SC.l (SC.l (SC.l s)))))))))) (SC.r (SC.l (SC.l (SC.l (SC.l (SC.l (SC.l (SC.l s))))))))) (SC.r (SC.l (SC.l (SC.l (SC.l (SC.l (SC.l s)))))))) (SC.r (SC.l (SC.l (SC.l (SC.l (SC.l s))))))) (SC.r (SC.l (SC.l (SC.l (SC.l s)))))) (SC.r (SC.l (SC.l (SC.l s))))) (SC.r (SC.l (SC.l s)))) (SC.r s))))))) fun g141 x140 => (XE (Gw (Yp (o := (oL (oL (oF Xa)))) 10 0 rfl rfl (fun _ s => (SC.r s))) fun _ => (Ed (K := K) (o1 := (oL (oF Xa))) 3 rfl (fun _ s => (SC.r (SC.l s))) (Zx (fun _ => tg1 0) (XG (Xm (r := (rV Xa)) 5 rfl (fun _ s => (SC.r s)))) (fun C142 a143 v144 => (EvS.ev (Qv (Xm (r := Xa) 0 rfl (fun _ s => (SC.r s))) (EvB.sh (Ul (Zj (o := (oD Xa)) 1 3 rfl rfl (fun _ s => (SC.r (SC.l (SC.l (SC.l (SC.l s))))))) (Xb (r := Xa) 0 rfl (fun _ s => (SC.r s)))))))))))))))))))
theorem Eg : FnScope ["_law_drawing"] ["_law_drawing"] (Xi QS) := ⟨rfl, rfl, rfl, by decide +kernel, rfl, by decide +kernel, by decide +kernel⟩
set_option maxHeartbeats 4000000 in
theorem BQ (D : Def K mg "_law_copy" QS ["_law_drawing"])  (Z : Blt mg) : Fn P w K mg base 1 "_law_copy" ["_law_drawing"] (sp1 (rP2 (rV (rV Xa)) (rV (rP2 Xa Xa))) (oT2 (oL (oL (oF Xa))) (oL (oF (rP2 Xa Xa)))) VZ K) := by
  refine YT D Eg (fun vs H Q E h => ?_) (fun f cdv A outer s H vs Q E hr h => ?_)
  · obtain ⟨v_0, a_0, b, rfl, _⟩ := h; rfl
  obtain ⟨v_0, a_0, b, rfl, h_0, hm, q⟩ := h
  have hu := hu8 hr
  have hu1 := YK hr
  refine ⟨_, (Xc (XF (Z8 (Xd (ZJ (sc := (Xi QS)) (N0 := ["_law_drawing"]) (tns := ["_law_walk"]) (caps := []) rfl (XW (K := K) rfl (Xx (YY K rfl) (pv 0) Xf (fun _ _ => rfl))) (Zm (by decide)) (fun cl C s H ex E => ⟨Xr (i := 0) (show List.Nodup (["_law_walk"] : List Str) by decide +kernel) rfl (Or.inl rfl), ZD, (ZR (YS K rfl) rfl Z.b_list PyProof.Rows.boot_list (Xd (pv 0) Xg))⟩)) (Xd (ZR (YS K rfl) rfl Z.b_list PyProof.Rows.boot_list (Xd (Xx (YY K rfl) (pv 0) Xf (fun _ _ => rfl)) Xg)) Xg))))
    Xh), ?_⟩
  refine YN (S := (SC.add SC.nil K (rP2 (rV (rV Xa)) (rV (rP2 Xa Xa))) v_0 a_0)) (σ := [some v_0]) 0 ?_ (SC.i SC.t h_0) hm q rfl
  unfold VZ
  exact (XE (Gw (Zx (fun _ => tg1 0) (XG (Ji (Xm (r := (rP2 (rV (rV Xa)) (rV (rP2 Xa Xa)))) 0 rfl (fun _ s => (SC.r s))))) (fun C2 a3 v4 => (Q6 (EvS.ls (Xm (r := (rV Xa)) 0 rfl (fun _ s => (SC.r s))))))) fun _ => (Q6 (EvB.ls (Vj (Xb (r := (rP2 (rV (rV Xa)) (rV (rP2 Xa Xa)))) 0 rfl (fun _ s => (SC.r s))))))))
theorem VN : FnScope ["_law_way", "_law_size", "_law_factor", "_law_a", "_law_b", "_law_half"] ["_law_way", "_law_size", "_law_factor", "_law_a", "_law_b"] (Xi Zd) := ⟨rfl, rfl, rfl, by decide +kernel, rfl, by decide +kernel, by decide +kernel⟩
set_option maxHeartbeats 4000000 in
theorem GQ (D : Def K mg "_law_cell_of" Zd ["_law_way", "_law_size", "_law_factor", "_law_a", "_law_b"])  (Z : Blt mg) : Fn P w K mg base 1 "_law_cell_of" ["_law_way", "_law_size", "_law_factor", "_law_a", "_law_b"] (sp5 Xa Xa Xa Xa Xa (oF Xa) ZA K) := by
  refine YT D VN (fun vs H Q E h => ?_) (fun f cdv A outer s H vs Q E hr h => ?_)
  · obtain ⟨v_0, v_1, v_2, v_3, v_4, a_0, a_1, a_2, a_3, a_4, b, rfl, _⟩ := h; rfl
  obtain ⟨v_0, v_1, v_2, v_3, v_4, a_0, a_1, a_2, a_3, a_4, b, rfl, h_0, h_1, h_2, h_3, h_4, hm, q⟩ := h
  have hu := hu8 hr
  have hu1 := YK hr
  refine ⟨_, (Xc (Xp (i := 5) VN.nd rfl (Or.inl rfl) (Xq QY (pv 1) Xf))
    (Xc (YD (Xt Zp (pv 0) Xf (XA _))
      (Xc (XF (Xq X3 (Xq ZK (Xq YM Xf (pv 4)) (pv 3)) (pv 1)))
      Xh)
      Xh)
    (Xc (YD (Xt Zp (pv 0) Xf (XA _))
      (Xc (XF (Xq X3 (Xq X0 (Xq YM (pv 2) (pv 3)) (Xq YM (Xq ZK Xf (pv 2)) (pv 4))) (pv 1)))
      Xh)
      Xh)
    (Xc (YD (PW.pt (ZM (Xt Zp (pv 0) Xf (XA _)) (ZM (Xt UW (pv 1) Xf (XA _)) (ZM (Xt Qy (pv 3) Xf (XA _)) (ZZ (Xt Zp (pv 4) (Xq ZK (pv 1) Xf) (XA _)))))))
      (Xc (XF (Xq ZK Xf (pv 3)))
      Xh)
      Xh)
    (Xc (YD (PW.pt (ZM (Xt Zp (pv 0) Xf (XA _)) (ZM (Xt Qy (pv 3) (Xq ZK (pv 1) Xf) (XA _)) (ZZ (Xt Zp (pv 4) (Xq ZK (pv 1) Xf) (XA _))))))
      (Xc (XF (Xq X3 (Xq X0 (pv 3) Xf) (Xq ZK (pv 1) Xf)))
      Xh)
      Xh)
    (Xc (YD (PW.pt (ZM (Xt Zp (pv 0) Xf (XA _)) (ZM (Xt Qy (pv 3) (pv 5) (XA _)) (ZZ (Xt Qy (pv 4) (pv 5) (XA _))))))
      (Xc (XF (Xq X3 (Xq ZK (Xq YM Xf (pv 4)) (pv 3)) (pv 5)))
      Xh)
      Xh)
    (Xc (YD (PW.pt (ZM (Xt Zp (pv 0) Xf (XA _)) (ZM (Xt Bt (pv 3) (pv 5) (XA _)) (ZZ (Xt Bt (pv 4) (pv 5) (XA _))))))
      (Xc (XF (Xq X0 (pv 5) (Xq X3 (Xq ZK (Xq ZK (Xq YM Xf (pv 4)) (pv 3)) (pv 5)) (Xq ZK (pv 1) (pv 5)))))
      Xh)
      Xh)
    (Xc (XF (pv 3))
    Xh)))))))), ?_⟩
  refine YN (S := (SC.add (SC.add (SC.add (SC.add (SC.add SC.nil K Xa v_0 a_0) K Xa v_1 a_1) K Xa v_2 a_2) K Xa v_3 a_3) K Xa v_4 a_4)) (σ := [some v_0, some v_1, some v_2, some v_3, some v_4, none]) 0 ?_ (SC.i (SC.i (SC.i (SC.i (SC.i SC.t h_0) h_1) h_2) h_3) h_4) hm q rfl
  unfold ZA
  exact (Xz (K := K) (r := Xa) 5 (EvB.sh (Vw (Xb (r := Xa) 1 rfl (fun _ s => (SC.r (SC.l (SC.l (SC.l s)))))) (Xe 2))) fun a1 v2 => (Z5 (Xo (K := K) (YH (Xb (r := Xa) 0 rfl (fun _ s => (SC.r (SC.l (SC.l (SC.l (SC.l (SC.l s)))))))) (Xe 1))) (XE (EvS.ev (EvB.sh (XM (Y6 (Yd (Xe 2) (Xb (r := Xa) 4 rfl (fun _ s => (SC.r (SC.l s))))) (Xb (r := Xa) 3 rfl (fun _ s => (SC.r (SC.l (SC.l s)))))) (Xb (r := Xa) 1 rfl (fun _ s => (SC.r (SC.l (SC.l (SC.l (SC.l s))))))))))) (Z5 (Xo (K := K) (YH (Xb (r := Xa) 0 rfl (fun _ s => (SC.r (SC.l (SC.l (SC.l (SC.l (SC.l s)))))))) (Xe 2))) (XE (EvS.ev (EvB.sh (XM (XI (Yd (Xb (r := Xa) 2 rfl (fun _ s => (SC.r (SC.l (SC.l (SC.l s)))))) (Xb (r := Xa) 3 rfl (fun _ s => (SC.r (SC.l (SC.l s)))))) (Yd (Y6 (Xe 1) (Xb (r := Xa) 2 rfl (fun _ s => (SC.r (SC.l (SC.l (SC.l s))))))) (Xb (r := Xa) 4 rfl (fun _ s => (SC.r (SC.l s)))))) (Xb (r := Xa) 1 rfl (fun _ s => (SC.r (SC.l (SC.l (SC.l (SC.l s))))))))))) (Z5 (Y2 (Xo (K := K) (YH (Xb (r := Xa) 0 rfl (fun _ s => (SC.r (SC.l (SC.l (SC.l (SC.l (SC.l s)))))))) (Xe 3))) (Y2 (Xo (K := K) (Jz (Xb (r := Xa) 1 rfl (fun _ s => (SC.r (SC.l (SC.l (SC.l (SC.l s))))))) (Xe 2))) (Y2 (Xo (K := K) (Zy (Xb (r := Xa) 3 rfl (fun _ s => (SC.r (SC.l (SC.l s))))) (Xe 2))) (Xo (K := K) (YH (Xb (r := Xa) 4 rfl (fun _ s => (SC.r (SC.l s)))) (Y6 (Xb (r := Xa) 1 rfl (fun _ s => (SC.r (SC.l (SC.l (SC.l (SC.l s))))))) (Xe 1))))))) (XE (EvS.ev (EvB.sh (Y6 (Xe 1) (Xb (r := Xa) 3 rfl (fun _ s => (SC.r (SC.l (SC.l s))))))))) (Z5 (Y2 (Xo (K := K) (YH (Xb (r := Xa) 0 rfl (fun _ s => (SC.r (SC.l (SC.l (SC.l (SC.l (SC.l s)))))))) (Xe 6))) (Y2 (Xo (K := K) (Zy (Xb (r := Xa) 3 rfl (fun _ s => (SC.r (SC.l (SC.l s))))) (Y6 (Xb (r := Xa) 1 rfl (fun _ s => (SC.r (SC.l (SC.l (SC.l (SC.l s))))))) (Xe 1)))) (Xo (K := K) (YH (Xb (r := Xa) 4 rfl (fun _ s => (SC.r (SC.l s)))) (Y6 (Xb (r := Xa) 1 rfl (fun _ s => (SC.r (SC.l (SC.l (SC.l (SC.l s))))))) (Xe 1)))))) (XE (EvS.ev (EvB.sh (XM (XI (Xb (r := Xa) 3 rfl (fun _ s => (SC.r (SC.l (SC.l s))))) (Xe 1)) (Y6 (Xb (r := Xa) 1 rfl (fun _ s => (SC.r (SC.l (SC.l (SC.l (SC.l s))))))) (Xe 1)))))) (Z5 (Y2 (Xo (K := K) (YH (Xb (r := Xa) 0 rfl (fun _ s => (SC.r (SC.l (SC.l (SC.l (SC.l (SC.l s)))))))) (Xe 4))) (Y2 (Xo (K := K) (Zy (Xb (r := Xa) 3 rfl (fun _ s => (SC.r (SC.l (SC.l s))))) (Xb (r := Xa) 5 rfl (fun _ s => (SC.r s))))) (Xo (K := K) (Zy (Xb (r := Xa) 4 rfl (fun _ s => (SC.r (SC.l s)))) (Xb (r := Xa) 5 rfl (fun _ s => (SC.r s))))))) (XE (EvS.ev (EvB.sh (XM (Y6 (Yd (Xe 2) (Xb (r := Xa) 4 rfl (fun _ s => (SC.r (SC.l s))))) (Xb (r := Xa) 3 rfl (fun _ s => (SC.r (SC.l (SC.l s)))))) (Xb (r := Xa) 5 rfl (fun _ s => (SC.r s))))))) (Z5 (Y2 (Xo (K := K) (YH (Xb (r := Xa) 0 rfl (fun _ s => (SC.r (SC.l (SC.l (SC.l (SC.l (SC.l s)))))))) (Xe 4))) (Y2 (Xo (K := K) (FK (Xb (r := Xa) 3 rfl (fun _ s => (SC.r (SC.l (SC.l s))))) (Xb (r := Xa) 5 rfl (fun _ s => (SC.r s))))) (Xo (K := K) (FK (Xb (r := Xa) 4 rfl (fun _ s => (SC.r (SC.l s)))) (Xb (r := Xa) 5 rfl (fun _ s => (SC.r s))))))) (XE (EvS.ev (EvB.sh (XI (Xb (r := Xa) 5 rfl (fun _ s => (SC.r s))) (XM (Y6 (Y6 (Yd (Xe 2) (Xb (r := Xa) 4 rfl (fun _ s => (SC.r (SC.l s))))) (Xb (r := Xa) 3 rfl (fun _ s => (SC.r (SC.l (SC.l s)))))) (Xb (r := Xa) 5 rfl (fun _ s => (SC.r s)))) (Y6 (Xb (r := Xa) 1 rfl (fun _ s => (SC.r (SC.l (SC.l (SC.l (SC.l s))))))) (Xb (r := Xa) 5 rfl (fun _ s => (SC.r s))))))))) (XE (EvS.ev (Xm (r := Xa) 3 rfl (fun _ s => (SC.r (SC.l (SC.l s))))))))))))))
theorem J8 : FnScope ["_law_one", "_law_other"] ["_law_one", "_law_other"] (Xi ZG) := ⟨rfl, rfl, rfl, by decide +kernel, rfl, by decide +kernel, by decide +kernel⟩
set_option maxHeartbeats 4000000 in
theorem DE (D : Def K mg "_law_common" ZG ["_law_one", "_law_other"])  (Z : Blt mg) : Fn P w K mg base 1 "_law_common" ["_law_one", "_law_other"] (sp2 Xa Xa (oF Xa) Qp K) := by
  refine YT D J8 (fun vs H Q E h => ?_) (fun f cdv A outer s H vs Q E hr h => ?_)
  · obtain ⟨v_0, v_1, a_0, a_1, b, rfl, _⟩ := h; rfl
  obtain ⟨v_0, v_1, a_0, a_1, b, rfl, h_0, h_1, hm, q⟩ := h
  have hu := hu8 hr
  have hu1 := YK hr
  refine ⟨_, (Xc (Go (i := 0) (j := 1) rfl J8.nd rfl rfl (by decide) rfl rfl (Xd (Xu Gf rfl Z.b_abs PyProof.Rows.boot_abs (Xd (pv 0) Xg)) (Xd (Xu Gf rfl Z.b_abs PyProof.Rows.boot_abs (Xd (pv 1) Xg)) Xg)) rfl)
    (Xc (Uo PassesOwn.never (Xt UW (pv 1) Xf (XA _))
      (Xc (Go (i := 0) (j := 1) rfl J8.nd rfl rfl (by decide) rfl rfl (Xd (pv 1) (Xd (Xq X3 (pv 0) (pv 1)) Xg)) rfl)
      Xh))
    (Xc (XF (pv 0))
    Xh))), ?_⟩
  refine YN (S := (SC.add (SC.add SC.nil K Xa v_0 a_0) K Xa v_1 a_1)) (σ := [some v_0, some v_1]) 0 ?_ (SC.i (SC.i SC.t h_0) h_1) hm q rfl
  unfold Qp
  exact (Gd (K := K) 0 1 (EvB.sh (FU (Xb (r := Xa) 0 rfl (fun _ s => (SC.r (SC.l s)))))) (EvB.sh (FU (Xb (r := Xa) 1 rfl (fun _ s => (SC.r s))))) fun a3 a4 v5 v6 => (Uh (J := ({ oo := fun x7 => [], ss := fun x7 => [some x7.1, some x7.2], sc := fun g8 x7 => (SC.add (SC.add SC.nil K Xa x7.1 g8.1) K Xa x7.2 g8.2) } : Jn (Int × Int) (V × V))) (a3.natAbs + a4.natAbs + 2) (v5, v6) (a3, a4) rfl rfl (fun _ s => (SC.i (SC.i SC.t (SC.r (SC.l s))) (SC.r s))) (fun g9 x10 => (Xo (K := K) (Jz (Xb (r := Xa) 1 rfl (fun _ s => (SC.r s))) (Xe 0)))) (fun g9 x10 => (Gd (K := K) 0 1 (Xm (r := Xa) 1 rfl (fun _ s => (SC.r s))) (EvB.sh (XM (Xb (r := Xa) 0 rfl (fun _ s => (SC.r (SC.l s)))) (Xb (r := Xa) 1 rfl (fun _ s => (SC.r s))))) fun a15 a16 v17 v18 => (Xv (J := _) (v17, v18) (a15, a16) rfl rfl (fun _ s => (SC.i (SC.i SC.t (SC.r (SC.l s))) (SC.r s)))))) fun g19 x20 => (XE (EvS.ev (Xm (r := Xa) 0 rfl (fun _ s => (SC.r (SC.l s))))))))
theorem Uk : FnScope ["_law_way", "_law_size", "_law_factor", "_law_some", "_law_a"] ["_law_way", "_law_size", "_law_factor"] (Xi QM) := ⟨rfl, rfl, rfl, by decide +kernel, rfl, by decide +kernel, by decide +kernel⟩
set_option maxHeartbeats 4000000 in
theorem Es (D : Def K mg "_law_made" QM ["_law_way", "_law_size", "_law_factor"]) (g_common : Fn P w K mg base 1 "_law_common" ["_law_one", "_law_other"] (sp2 Xa Xa (oF Xa) Qp K)) (g_cell_of : Fn P w K mg base 1 "_law_cell_of" ["_law_way", "_law_size", "_law_factor", "_law_a", "_law_b"] (sp5 Xa Xa Xa Xa Xa (oF Xa) ZA K)) (Z : Blt mg) : Fn P w K mg base 2 "_law_made" ["_law_way", "_law_size", "_law_factor"] (sp3 Xa Xa Xa (oL (oL (oF Xa))) VQ K) := by
  refine YT D Uk (fun vs H Q E h => ?_) (fun f cdv A outer s H vs Q E hr h => ?_)
  · obtain ⟨v_0, v_1, v_2, a_0, a_1, a_2, b, rfl, _⟩ := h; rfl
  obtain ⟨v_0, v_1, v_2, a_0, a_1, a_2, b, rfl, h_0, h_1, h_2, hm, q⟩ := h
  have hu := hu8 hr
  have hu1 := YK hr
  refine ⟨_, (Xc (YD (PW.pt (ZM (Xt Zp (pv 0) Xf (XA _)) (ZZ (Xt Zp (pv 1) Xf (XA _)))))
      (@Xc _ _ _ _ _ (@XF _ _ _ _ (@US _))
      Xh)
      Xh)
    (Xc (Uo PassesOwn.never (Xt Fg (Ya g_common hr (by decide) (Xd (pv 2) (Xd (pv 1) Xg))) Xf (XA _))
      (Xc (Xp (i := 2) Uk.nd rfl (Or.inr rfl) (Xq X0 (pv 2) Xf))
      Xh))
    (Xc (Xp (i := 3) Uk.nd rfl (Or.inl rfl) (XV Xg))
    (Xc (Yf PassesOwn.never rfl (X1 rfl Z.b_range (Xd (pv 1) Xg)) (Xr (i := 4) Uk.nd rfl (Or.inr rfl))
      (Xc (Yz (Zz PySem.F.plainAttrs_list PySem.F.slot_list_append PySem.F.type_list_append XZ (pv 3) (Xd (ZJ (sc := (Xi QM)) (N0 := ["_law_way", "_law_size", "_law_factor", "_law_some", "_law_a"]) (tns := ["_law_b"]) (caps := [(0, "_law_way"), (1, "_law_size"), (2, "_law_factor"), (4, "_law_a")]) rfl (X1 rfl Z.b_range (Xd (pv 1) Xg)) (Zm (by decide)) (fun cl C s H ex E => ⟨Xr (i := 0) (show List.Nodup (["_law_b", "_law_way", "_law_size", "_law_factor", "_law_a"] : List Str) by decide +kernel) rfl (Or.inl rfl), ZD, (Ya g_cell_of hr (by decide) (Xd (pv 1) (Xd (pv 2) (Xd (pv 3) (Xd (pv 4) (Xd (pv 0) Xg))))))⟩)) Xg)))
      Xh))
    (Xc (XF (pv 3))
    Xh))))), ?_⟩
  refine YN (S := (SC.add (SC.add (SC.add SC.nil K Xa v_0 a_0) K Xa v_1 a_1) K Xa v_2 a_2)) (σ := [some v_0, some v_1, some v_2, none, none]) 1 ?_ (SC.i (SC.i (SC.i SC.t h_0) h_1) h_2) hm q rfl
  unfold VQ
  exact (Z5 (Y2 (Xo (K := K) (YH (Xb (r := Xa) 0 rfl (fun _ s => (SC.r (SC.l (SC.l s))))) (Xe 5))) (Xo (K := K) (YH (Xb (r := Xa) 1 rfl (fun _ s => (SC.r (SC.l s)))) (Xe 4)))) (XE (Kq (Ze (YG (Xn (EvB.sh (Xe 0)) (Xn (EvB.sh (Xe 3)) (Xn (EvB.sh (Xe 1)) (Xn (EvB.sh (Xe 2)) X9))))) fun _ => (Ze (YG (Xn (EvB.sh (Xe 2)) (Xn (EvB.sh (Xe 1)) (Xn (EvB.sh (Xe 3)) (Xn (EvB.sh (Xe 0)) X9))))) fun _ => (Ze (YG (Xn (EvB.sh (Xe 3)) (Xn (EvB.sh (Xe 0)) (Xn (EvB.sh (Xe 2)) (Xn (EvB.sh (Xe 1)) X9))))) fun _ => (Ze (YG (Xn (EvB.sh (Xe 1)) (Xn (EvB.sh (Xe 2)) (Xn (EvB.sh (Xe 0)) (Xn (EvB.sh (Xe 3)) X9))))) fun _ => Uq)))))) (Uh (J := ({ oo := fun x51 => [[]], ss := fun x51 => [some v_0, some v_1, some x51, none, none], sc := fun g52 x51 => (SC.add (SC.add (SC.add SC.nil K Xa v_0 a_0) K Xa v_1 a_1) K Xa x51 g52) } : Jn (Int) (V))) (a_1.natAbs + 2) (v_2) (a_2) rfl rfl (fun _ s => (SC.i (SC.i (SC.i SC.t (SC.r (SC.l (SC.l s)))) (SC.r (SC.l s))) (SC.r s))) (fun g53 x54 => (Xo (K := K) (UT (Ev.toB (Ym (Xb (r := Xa) 2 rfl (fun _ s => (SC.r s))) (Xb (r := Xa) 1 rfl (fun _ s => (SC.r (SC.l s)))))) (Xe 1)))) (fun g53 x54 => (Xz (K := K) (r := Xa) 2 (EvB.sh (XI (Xb (r := Xa) 2 rfl (fun _ s => (SC.r s))) (Xe 1))) fun a60 v61 => (Xv (J := _) (v61) (a60) rfl rfl (fun _ s => (SC.i (SC.i (SC.i SC.t (SC.r (SC.l (SC.l (SC.l s))))) (SC.r (SC.l (SC.l s)))) (SC.r s)))))) fun g64 x65 => (XN (K := K) (o := (oL (oL (oF Xa)))) 3 0 (Qx (o := (oL (oF Xa)))) (Nat.le_of_ble_eq_true rfl) fun a66 v67 C68 => (YC (K := K) (J := ({ oo := fun x70 => [x70.2.2], ss := fun x70 => [some v_0, some v_1, some x65, some x70.2.1, x70.1], sc := fun g71 x70 => (SC.addO (SC.add (SC.add (SC.add SC.nil K Xa v_0 a_0) K Xa v_1 a_1) K Xa x65 g64) K (oL (oL (oF Xa))) x70.2.1 g71 x70.2.2) } : Jn ((List (List Int))) (Option V × V × List XL))) (fun _ => tg1 4) ((none), v67, C68) (a66) (XJ (Xb (r := Xa) 1 rfl (fun _ s => (SC.r (SC.l (SC.l s)))))) rfl rfl (fun _ s => (SC.i (SC.i (SC.i (SC.i SC.t (SC.r (SC.l (SC.l (SC.l s))))) (SC.r (SC.l (SC.l s)))) (SC.r (SC.l s))) (SC.r s))) (fun g72 x73 a74 v75 => (ZB (K := K) (o := (oL (oF Xa))) (f := fun a89 => (Res.ok (a89))) 3 0 rfl rfl rfl (fun _ s => (SC.r (SC.l s))) (Zx (fun _ => tg1 0) (XJ (Xb (r := Xa) 1 rfl (fun _ s => (SC.r (SC.l (SC.l (SC.l s))))))) (fun C77 a78 v79 => (Ct (Xb (r := Xa) 1 rfl (fun _ s => (SC.r (SC.l (SC.l (SC.l (SC.l (SC.l s)))))))) (Xb (r := Xa) 2 rfl (fun _ s => (SC.r (SC.l (SC.l (SC.l (SC.l s))))))) (Xb (r := Xa) 3 rfl (fun _ s => (SC.r (SC.l (SC.l (SC.l s)))))) (Xb (r := Xa) 4 rfl (fun _ s => (SC.r (SC.l s)))) (Xb (r := Xa) 0 rfl (fun _ s => (SC.r s)))))) fun a87 C88 => (Xv (J := _) ((some v75), x73.2.1, C88) ((g72 ++ [a87])) rfl rfl (fun _ s => (SC.i (SC.i (SC.i (SC.i SC.t (SC.r (SC.l (SC.l (SC.l (SC.l (SC.l s))))))) (SC.r (SC.l (SC.l (SC.l (SC.l s)))))) (SC.r (SC.l (SC.l (SC.l s))))) (SC.r s)))))) fun g90 x91 => (XE (Yp (o := (oL (oL (oF Xa)))) 3 0 rfl rfl (fun _ s => (SC.r s))))))))
theorem Qt : FnScope ["_law_some", "_law_count_here", "_law_left", "_law_found", "_law_k"] ["_law_some", "_law_count_here"] (Xi Zg) := ⟨rfl, rfl, rfl, by decide +kernel, rfl, by decide +kernel, by decide +kernel⟩
set_option maxHeartbeats 4000000 in
theorem G6 (D : Def K mg "_law_ordered" Zg ["_law_some", "_law_count_here"])  (Z : Blt mg) : Fn P w K mg base 1 "_law_ordered" ["_law_some", "_law_count_here"] (sp2 (rV Xa) Xa (oL (oF Xa)) ZW K) := by
  refine YT D Qt (fun vs H Q E h => ?_) (fun f cdv A outer s H vs Q E hr h => ?_)
  · obtain ⟨v_0, v_1, a_0, a_1, b, rfl, _⟩ := h; rfl
  obtain ⟨v_0, v_1, a_0, a_1, b, rfl, h_0, h_1, hm, q⟩ := h
  have hu := hu8 hr
  have hu1 := YK hr
  refine ⟨_, (Xc (Xp (i := 2) Qt.nd rfl (Or.inl rfl) (UI rfl rfl rfl Z.b_list Z.b_range (Xd (pv 1) Xg)))
    (Xc (Xp (i := 3) Qt.nd rfl (Or.inl rfl) (XV Xg))
    (Xc (Yf PassesOwn.never rfl (X1 rfl Z.b_range (Xd (pv 1) Xg)) (Xr (i := 4) Qt.nd rfl (Or.inl rfl))
      (Xc (Yz (Zz PySem.F.plainAttrs_list PySem.F.slot_list_append PySem.F.type_list_append XZ (pv 3) (Xd (Zz PySem.F.plainAttrs_list PySem.F.slot_list_pop PySem.F.type_list_pop Um (pv 2) (Xd (Xq X3 (Xx (Xj K rfl) (pv 0) (pv 4) (fun _ _ => rfl)) (Xu (Xk K rfl) rfl Z.b_len PySem.boot_len (Xd (pv 2) Xg))) Xg)) Xg)))
      Xh))
    (Xc (XF (pv 3))
    Xh)))), ?_⟩
  refine YN (S := (SC.add (SC.add SC.nil K (rV Xa) v_0 a_0) K Xa v_1 a_1)) (σ := [some v_0, some v_1, none, none, none]) 2 ?_ (SC.i (SC.i SC.t h_0) h_1) hm q rfl
  unfold ZW
  exact (XN (K := K) (o := (oL (oF Xa))) 2 1 (U5 (Xb (r := Xa) 1 rfl (fun _ s => (SC.r s)))) (Nat.le_of_ble_eq_true rfl) fun a1 v2 C3 => (XN (K := K) (o := (oL (oF Xa))) 3 0 (Qx (o := (oF Xa))) (Nat.le_of_ble_eq_true rfl) fun a5 v6 C7 => (YC (K := K) (J := ({ oo := fun x9 => [x9.2.2.2.1, x9.2.2.2.2], ss := fun x9 => [some v_0, some v_1, some x9.2.2.1, some x9.2.1, x9.1], sc := fun g10 x9 => (SC.addO (SC.addO (SC.add (SC.add SC.nil K (rV Xa) v_0 a_0) K Xa v_1 a_1) K (oL (oF Xa)) x9.2.1 g10.1 x9.2.2.2.1) K (oL (oF Xa)) x9.2.2.1 g10.2 x9.2.2.2.2) } : Jn ((List Int) × (List Int)) (Option V × V × V × List XL × List XL))) (fun _ => tg1 4) ((none), v6, v2, C7, C3) (a5, a1) (XJ (Xb (r := Xa) 1 rfl (fun _ s => (SC.r (SC.l (SC.l s)))))) rfl rfl (fun _ s => (SC.i (SC.i (SC.i (SC.i SC.t (SC.r (SC.l (SC.l (SC.l s))))) (SC.r (SC.l (SC.l s)))) (SC.r s)) (SC.r (SC.l s)))) (fun g11 x12 a13 v14 => (Ge (K := K) (r := Xa) (f := fun a21 a22 => (Res.ok (a22, a21))) 2 1 3 0 (by decide) rfl rfl (fun _ s => (SC.r (SC.l s))) rfl rfl (fun _ s => (SC.r (SC.l (SC.l s)))) (XM (Xs (Xb (r := (rV Xa)) 0 rfl (fun _ s => (SC.r (SC.l (SC.l (SC.l (SC.l s))))))) (Xb (r := Xa) 4 rfl (fun _ s => (SC.r s)))) (XO (Zj (o := (oL (oF Xa))) 2 1 rfl rfl (fun _ s => (SC.r (SC.l s)))))) fun a20 a21 C23 C24 => (Xv (J := _) ((some v14), x12.2.1, x12.2.2.1, C24, C23) ((g11.1 ++ [a20]), a21) rfl rfl (fun _ s => (SC.i (SC.i (SC.i (SC.i SC.t (SC.r (SC.l (SC.l (SC.l (SC.l (SC.l (SC.l s)))))))) (SC.r (SC.l (SC.l (SC.l (SC.l (SC.l s))))))) (SC.r s)) (SC.r (SC.l s))))))) fun g27 x28 => (XE (Yp (o := (oL (oF Xa))) 3 0 rfl rfl (fun _ s => (SC.r (SC.l s))))))))
theorem QR : FnScope ["_law_some", "_law_spots", "_law_found", "_law_a", "_law_b"] ["_law_some", "_law_spots"] (Xi Zq) := ⟨rfl, rfl, rfl, by decide +kernel, rfl, by decide +kernel, by decide +kernel⟩
set_option maxHeartbeats 4000000 in
theorem FQ (D : Def K mg "_law_relaid" Zq ["_law_some", "_law_spots"])  (Z : Blt mg) : Fn P w K mg base 1 "_law_relaid" ["_law_some", "_law_spots"] (sp2 (rV (rV Xa)) (rV Xa) (oL (oL (oF Xa))) Qr K) := by
  refine YT D QR (fun vs H Q E h => ?_) (fun f cdv A outer s H vs Q E hr h => ?_)
  · obtain ⟨v_0, v_1, a_0, a_1, b, rfl, _⟩ := h; rfl
  obtain ⟨v_0, v_1, a_0, a_1, b, rfl, h_0, h_1, hm, q⟩ := h
  have hu := hu8 hr
  have hu1 := YK hr
  refine ⟨_, (Xc (Q7 2 (Xi Zq) ["_law_some", "_law_spots", "_law_found", "_law_a", "_law_b"] ["_law_line"] [] rfl QR.nd rfl rfl (XW (K := K) rfl (pv 0)) (Zm (by decide)) (fun cl C s H ex E => ⟨Xr (i := 0) (show List.Nodup (["_law_line"] : List Str) by decide +kernel) rfl (Or.inl rfl), ZD, (ZR (YS K rfl) rfl Z.b_list PyProof.Rows.boot_list (Xd (pv 0) Xg))⟩))
    (Xc (Yf PassesOwn.never rfl (X1 rfl Z.b_range (Xd (Xu (Xk K rfl) rfl Z.b_len PySem.boot_len (Xd (pv 0) Xg)) Xg)) (Xr (i := 3) QR.nd rfl (Or.inl rfl))
      (Xc (Yf PassesOwn.never rfl (X1 rfl Z.b_range (Xd (Xu (Xk K rfl) rfl Z.b_len PySem.boot_len (Xd (pv 0) Xg)) Xg)) (Xr (i := 4) QR.nd rfl (Or.inl rfl))
        (Xc (Jx (Xx (Xj K rfl) (pv 1) (Xx (Xj K rfl) (Xx (Xj K rfl) (pv 0) (pv 3) (fun _ _ => rfl)) (pv 4) (fun _ _ => rfl)) (fun _ _ => rfl)) (Kn (Xx (Xj K rfl) (pv 2) (Xx (Xj K rfl) (pv 1) (pv 3) (fun _ _ => rfl)) (fun _ _ => rfl)) (Xx (Xj K rfl) (pv 1) (pv 4) (fun _ _ => rfl)) Q4))
        Xh))
      Xh))
    (Xc (XF (pv 2))
    Xh))), ?_⟩
  refine YN (S := (SC.add (SC.add SC.nil K (rV (rV Xa)) v_0 a_0) K (rV Xa) v_1 a_1)) (σ := [some v_0, some v_1, none, none, none]) 1 ?_ (SC.i (SC.i SC.t h_0) h_1) hm q rfl
  unfold Qr
  exact (XN (K := K) (o := (oL (oL (oF Xa)))) 2 0 (Zx (fun _ => tg1 0) (XG (Xm (r := (rV (rV Xa))) 0 rfl (fun _ s => (SC.r (SC.l s))))) (fun C4 a5 v6 => (Q6 (EvS.ls (Xm (r := (rV Xa)) 0 rfl (fun _ s => (SC.r s))))))) (Nat.le_of_ble_eq_true rfl) fun a1 v2 C3 => (YC (K := K) (J := ({ oo := fun x11 => [x11.2.2.2], ss := fun x11 => [some v_0, some v_1, some x11.2.2.1, x11.1, x11.2.1], sc := fun g12 x11 => (SC.addO (SC.add (SC.add SC.nil K (rV (rV Xa)) v_0 a_0) K (rV Xa) v_1 a_1) K (oL (oL (oF Xa))) x11.2.2.1 g12 x11.2.2.2) } : Jn ((List (List Int))) (Option V × Option V × V × List XL))) (fun _ => tg1 3) ((none), (none), v2, C3) (a1) (XJ (XO (Xb (r := (rV (rV Xa))) 0 rfl (fun _ s => (SC.r (SC.l (SC.l s))))))) rfl rfl (fun _ s => (SC.i (SC.i (SC.i SC.t (SC.r (SC.l (SC.l s)))) (SC.r (SC.l s))) (SC.r s))) (fun g13 x14 a15 v16 => (YC (K := K) (J := ({ oo := fun x19 => [x19.2.2], ss := fun x19 => [some v_0, some v_1, some x19.2.1, some v16, x19.1], sc := fun g20 x19 => (SC.addO (SC.add (SC.add (SC.add SC.nil K (rV (rV Xa)) v_0 a_0) K (rV Xa) v_1 a_1) K Xa v16 a15) K (oL (oL (oF Xa))) x19.2.1 g20 x19.2.2) } : Jn ((List (List Int))) (Option V × V × List XL))) (fun _ => tg1 4) ((x14.2.1), x14.2.2.1, x14.2.2.2) (g13) (XJ (XO (Xb (r := (rV (rV Xa))) 0 rfl (fun _ s => (SC.r (SC.l (SC.l (SC.l s)))))))) rfl rfl (fun _ s => (SC.i (SC.i (SC.i (SC.i SC.t (SC.r (SC.l (SC.l (SC.l s))))) (SC.r (SC.l (SC.l s)))) (SC.r s)) (SC.r (SC.l s)))) (fun g21 x22 a23 v24 => (DY (K := K) (r := Xa) 2 0 rfl rfl (fun _ s => (SC.r (SC.l s))) (EvB.sh (Xs (Xb (r := (rV Xa)) 1 rfl (fun _ s => (SC.r (SC.l (SC.l (SC.l s)))))) (Xs (Xs (Xb (r := (rV (rV Xa))) 0 rfl (fun _ s => (SC.r (SC.l (SC.l (SC.l (SC.l s))))))) (Xb (r := Xa) 3 rfl (fun _ s => (SC.r (SC.l (SC.l s)))))) (Xb (r := Xa) 4 rfl (fun _ s => (SC.r s)))))) (Xs (Xb (r := (rV Xa)) 1 rfl (fun _ s => (SC.r (SC.l (SC.l (SC.l s)))))) (Xb (r := Xa) 3 rfl (fun _ s => (SC.r (SC.l (SC.l s)))))) (Xs (Xb (r := (rV Xa)) 1 rfl (fun _ s => (SC.r (SC.l (SC.l (SC.l s)))))) (Xb (r := Xa) 4 rfl (fun _ s => (SC.r s)))) fun a38 C39 => (Xv (J := _) ((some v24), x22.2.1, C39) (a38) rfl rfl (fun _ s => (SC.i (SC.i (SC.i (SC.i SC.t (SC.r (SC.l (SC.l (SC.l (SC.l (SC.l s))))))) (SC.r (SC.l (SC.l (SC.l (SC.l s)))))) (SC.r (SC.l (SC.l (SC.l s))))) (SC.r s)))))) fun g42 x43 => (Xv (J := _) ((some v16), (x43.1), x43.2.1, x43.2.2) (g42) rfl rfl (fun _ s => (SC.i (SC.i (SC.i SC.t (SC.r (SC.l (SC.l (SC.l s))))) (SC.r (SC.l (SC.l s)))) (SC.r s)))))) fun g45 x46 => (XE (Yp (o := (oL (oL (oF Xa)))) 2 0 rfl rfl (fun _ s => (SC.r s))))))
theorem Y4 : FnScope ["_law_script", "_law_place", "_law_most", "_law_some", "_law_size", "_law_found"] ["_law_script", "_law_place", "_law_most"] (Xi Yu) := ⟨rfl, rfl, rfl, by decide +kernel, rfl, by decide +kernel, by decide +kernel⟩
set_option maxHeartbeats 4000000 in
theorem Ue (D : Def K mg "_law_good_table" Yu ["_law_script", "_law_place", "_law_most"]) (g_row : Fn P w K mg base 2 "_law_row" ["_law_script", "_law_place", "_law_sizes"] (sp3 (rL Xa) Xa (rV Xa) (oL (oF Xa)) Vu K)) (g_made : Fn P w K mg base 2 "_law_made" ["_law_way", "_law_size", "_law_factor"] (sp3 Xa Xa Xa (oL (oL (oF Xa))) VQ K)) (g_relaid : Fn P w K mg base 1 "_law_relaid" ["_law_some", "_law_spots"] (sp2 (rV (rV Xa)) (rV Xa) (oL (oL (oF Xa))) Qr K)) (g_ordered : Fn P w K mg base 1 "_law_ordered" ["_law_some", "_law_count_here"] (sp2 (rV Xa) Xa (oL (oF Xa)) ZW K)) (Z : Blt mg) : Fn P w K mg base 3 "_law_good_table" ["_law_script", "_law_place", "_law_most"] (sp3 (rL Xa) Xa Xa (oL (oL (oF Xa))) YZ K) := by
  refine YT D Y4 (fun vs H Q E h => ?_) (fun f cdv A outer s H vs Q E hr h => ?_)
  · obtain ⟨v_0, v_1, v_2, a_0, a_1, a_2, b, rfl, _⟩ := h; rfl
  obtain ⟨v_0, v_1, v_2, a_0, a_1, a_2, b, rfl, h_0, h_1, h_2, hm, q⟩ := h
  have hu := hu8 hr
  have hu1 := YK hr
  refine ⟨_, (Xc (Xp (i := 3) Y4.nd rfl (Or.inl rfl) (Ya g_row hr (by decide) (Xd (pv 0) (Xd (pv 1) (Xd (Xq VS (XV (Xd Xf (Xd Xf (Xd Xf (Xd Xf (Xd Xf Xg)))))) (Xq Jv (XV (Xd Xf Xg)) Xf)) Xg)))))
    (Xc (Xp (i := 4) Y4.nd rfl (Or.inl rfl) (Xq X0 Xf (Xq X3 (Xx (Xj K rfl) (pv 3) Xf (fun _ _ => rfl)) (pv 2))))
    (Xc (YD (PW.pt (ZM (Xt UW (pv 2) Xf (XA _)) (ZZ (Xt UW (Xx (Xj K rfl) (pv 3) Xf (fun _ _ => rfl)) Xf (XA _)))))
      (Xc (Xp (i := 4) Y4.nd rfl (Or.inl rfl) (Xq X0 Xf (Xq X3 (Xx (Xj K rfl) (pv 3) Xf (fun _ _ => rfl)) (Xq ZK (pv 2) Xf))))
      Xh)
      Xh)
    (Xc (Xp (i := 5) Y4.nd rfl (Or.inl rfl) (Ya g_made hr (by decide) (Xd (Xx (Xj K rfl) (pv 3) Xf (fun _ _ => rfl)) (Xd (pv 4) (Xd (Xq X0 Xf (Xx (Xj K rfl) (pv 3) Xf (fun _ _ => rfl))) Xg)))))
    (Xc (YD (Xt Zp (Xx (Xj K rfl) (pv 3) Xf (fun _ _ => rfl)) Xf (XA _))
      (Xc (XF (pv 5))
      Xh)
      Xh)
    (Xc (XF (Ya g_relaid hr (by decide) (Xd (pv 5) (Xd (Ya g_ordered hr (by decide) (Xd (ZY (Qs K rfl) (pv 3) (Qg Xf) Jp) (Xd (pv 4) Xg))) Xg))))
    Xh)))))), ?_⟩
  refine YN (S := (SC.add (SC.add (SC.add SC.nil K (rL Xa) v_0 a_0) K Xa v_1 a_1) K Xa v_2 a_2)) (σ := [some v_0, some v_1, some v_2, none, none, none]) 1 ?_ (SC.i (SC.i (SC.i SC.t h_0) h_1) h_2) hm q rfl
  unfold YZ
  exact (Xz (K := K) (r := (rV Xa)) 3 (Ev.sh (Yw (Xb (r := (rL Xa)) 0 rfl (fun _ s => (SC.r (SC.l (SC.l s))))) (Xb (r := Xa) 1 rfl (fun _ s => (SC.r (SC.l s)))) (Ev.toB (VV (Ev.ls (YG (Xn (EvB.sh (Xe 7)) (Xn (EvB.sh (Xe 24)) (Xn (EvB.sh (Xe 6)) (Xn (EvB.sh (Xe 2)) (Xn (EvB.sh (Xe 6)) X9))))))) (Ev.ls (Jr (Ev.ls (YG (Xn (EvB.sh (Xe 24)) X9))) (Xe 24))))))) fun a1 v2 => (Xz (K := K) (r := Xa) 4 (EvB.sh (XI (Xe 1) (XM (Xs (Xb (r := (rV Xa)) 3 rfl (fun _ s => (SC.r s))) (Xe 1)) (Xb (r := Xa) 2 rfl (fun _ s => (SC.r (SC.l s))))))) fun a25 v26 => (Yr (J := ({ oo := fun x40 => [[]], ss := fun x40 => [some v_0, some v_1, some v_2, some v2, some x40, none], sc := fun g41 x40 => (SC.add (SC.add (SC.add (SC.add (SC.add SC.nil K (rL Xa) v_0 a_0) K Xa v_1 a_1) K Xa v_2 a_2) K (rV Xa) v2 a1) K Xa x40 g41) } : Jn (Int) (V))) (Y0 (Fd := FNd ({ oo := fun x40 => [[]], ss := fun x40 => [some v_0, some v_1, some v_2, some v2, some x40, none], sc := fun g41 x40 => (SC.add (SC.add (SC.add (SC.add (SC.add SC.nil K (rL Xa) v_0 a_0) K Xa v_1 a_1) K Xa v_2 a_2) K (rV Xa) v2 a1) K Xa x40 g41) } : Jn (Int) (V))) (Y2 (Xo (K := K) (Jz (Xb (r := Xa) 2 rfl (fun _ s => (SC.r (SC.l (SC.l s))))) (Xe 2))) (Xo (K := K) (Jz (Xs (Xb (r := (rV Xa)) 3 rfl (fun _ s => (SC.r (SC.l s)))) (Xe 4)) (Xe 0)))) (Xz (K := K) (r := Xa) 4 (EvB.sh (XI (Xe 3) (XM (Xs (Xb (r := (rV Xa)) 3 rfl (fun _ s => (SC.r (SC.l s)))) (Xe 1)) (Y6 (Xb (r := Xa) 2 rfl (fun _ s => (SC.r (SC.l (SC.l s))))) (Xe 2))))) fun a42 v43 => (Xv (J := _) (v43) (a42) rfl rfl (fun _ s => (SC.i (SC.i (SC.i (SC.i (SC.i SC.t (SC.r (SC.l (SC.l (SC.l (SC.l (SC.l s))))))) (SC.r (SC.l (SC.l (SC.l (SC.l s)))))) (SC.r (SC.l (SC.l (SC.l s))))) (SC.r (SC.l (SC.l s)))) (SC.r s))))) (Xv (J := _) (v26) (a25) rfl rfl (fun _ s => (SC.i (SC.i (SC.i (SC.i (SC.i SC.t (SC.r (SC.l (SC.l (SC.l (SC.l s)))))) (SC.r (SC.l (SC.l (SC.l s))))) (SC.r (SC.l (SC.l s)))) (SC.r (SC.l s))) (SC.r s))))) fun g53 x52 => (XN (K := K) (o := (oL (oL (oF Xa)))) 5 0 (Yw (Xs (Xb (r := (rV Xa)) 3 rfl (fun _ s => (SC.r (SC.l s)))) (Xe 0)) (Xb (r := Xa) 4 rfl (fun _ s => (SC.r s))) (XI (Xe 2) (Xs (Xb (r := (rV Xa)) 3 rfl (fun _ s => (SC.r (SC.l s)))) (Xe 2)))) (Nat.le_of_ble_eq_true rfl) fun a54 v55 C56 => (Z5 (Xo (K := K) (YH (Xs (Xb (r := (rV Xa)) 3 rfl (fun _ s => (SC.r (SC.l (SC.l s))))) (Xe 3)) (Xe 0))) (XE (Yp (o := (oL (oL (oF Xa)))) 5 0 rfl rfl (fun _ s => (SC.r s)))) (XE (Ym (Zj (o := (oL (oL (oF Xa)))) 5 0 rfl rfl (fun _ s => (SC.r s))) (Ev.toB (Ym (Ev.toB (QW (EvS.ls (Xm (r := (rV Xa)) 3 rfl (fun _ s => (SC.r (SC.l (SC.l s)))))) (ZE (K := K) (Xe 5)) Qo)) (Xb (r := Xa) 4 rfl (fun _ s => (SC.r (SC.l s)))))))))))))
theorem Yi : FnScope ["_law_walks", "_law_found", "_law_count_here", "_law_walk", "_law_first", "_law_number", "_law_last", "_law_k", "_law_row_here"] ["_law_walks"] (Xi ZL) := ⟨rfl, rfl, rfl, by decide +kernel, rfl, by decide +kernel, by decide +kernel⟩
set_option maxHeartbeats 4000000 in
theorem F0 (D : Def K mg "_law_arcs" ZL ["_law_walks"])  (Z : Blt mg) : Fn P w K mg base 1 "_law_arcs" ["_law_walks"] (sp1 (rV (rV Xa)) (oL (oL (oF Xa))) Qw K) := by
  refine YT D Yi (fun vs H Q E h => ?_) (fun f cdv A outer s H vs Q E hr h => ?_)
  · obtain ⟨v_0, a_0, b, rfl, _⟩ := h; rfl
  obtain ⟨v_0, a_0, b, rfl, h_0, hm, q⟩ := h
  have hu := hu8 hr
  have hu1 := YK hr
  refine ⟨_, (Xc (Xp (i := 1) Yi.nd rfl (Or.inl rfl) (XV Xg))
    (Xc (Xp (i := 2) Yi.nd rfl (Or.inl rfl) Xf)
    (Xc (Yf PassesOwn.never rfl (XW (K := K) rfl (pv 0)) (Xr (i := 3) Yi.nd rfl (Or.inl rfl))
      (Xc (Xp (i := 4) Yi.nd rfl (Or.inl rfl) (pv 2))
      (Xc (Xp (i := 5) Yi.nd rfl (Or.inl rfl) (pv 2))
      (Xc (Xp (i := 6) Yi.nd rfl (Or.inl rfl) (Vi Qd Xf))
      (Xc (Yf PassesOwn.never rfl (X1 rfl Z.b_range (Xd (Xu (Xk K rfl) rfl Z.b_len PySem.boot_len (Xd (pv 3) Xg)) Xg)) (Xr (i := 7) Yi.nd rfl (Or.inl rfl))
        (Xc (YD (Xt Qy (Xx (Xj K rfl) (pv 3) (pv 7) (fun _ _ => rfl)) Xf (XA _))
          (Xc (Xp (i := 6) Yi.nd rfl (Or.inl rfl) (pv 7))
          Xh)
          Xh)
        Xh))
      (Xc (Xp (i := 8) Yi.nd rfl (Or.inl rfl) (Xq Jv (XV (Xd (pv 4) Xg)) (Xu (Vq rfl) rfl Z.b_max PyProof.Rows.boot_max (Xd (Xu (Xk K rfl) rfl Z.b_len PySem.boot_len (Xd (pv 3) Xg)) (Xd Xf Xg)))))
      (Xc (Yf PassesOwn.never rfl (X1 rfl Z.b_range (Xd (Xq X0 (pv 6) Xf) Xg)) (Xr (i := 7) Yi.nd rfl (Or.inl rfl))
        (Xc (Jx (pv 5) (Kn (pv 8) (pv 7) Q4))
        (Xc (YD (PW.pt (ZM (Xt Qy (Xx (Xj K rfl) (pv 3) (pv 7) (fun _ _ => rfl)) Xf (XA _)) (ZZ (Xt Qy (pv 7) (pv 6) (XA _)))))
          (Xc (Xp (i := 2) Yi.nd rfl (Or.inl rfl) (Xq X0 (pv 2) Xf))
          (Xc (Xp (i := 5) Yi.nd rfl (Or.inl rfl) (pv 2))
          Xh))
          Xh)
        Xh)))
      (Xc (Xp (i := 2) Yi.nd rfl (Or.inl rfl) (Xq X0 (pv 2) Xf))
      (Xc (Yz (Zz PySem.F.plainAttrs_list PySem.F.slot_list_append PySem.F.type_list_append XZ (pv 1) (Xd (pv 8) Xg)))
      Xh)))))))))
    (Xc (XF (pv 1))
    Xh)))), ?_⟩
  refine YN (S := (SC.add SC.nil K (rV (rV Xa)) v_0 a_0)) (σ := [some v_0, none, none, none, none, none, none, none, none]) 2 ?_ (SC.i SC.t h_0) hm q rfl
  unfold Qw
  exact (XN (K := K) (o := (oL (oL (oF Xa)))) 1 0 (Qx (o := (oL (oF Xa)))) (Nat.le_of_ble_eq_true rfl) fun a1 v2 C3 => (Xz (K := K) (r := Xa) 2 (EvB.sh (Xe 0)) fun a4 v5 => (YC (K := K) (J := ({ oo := fun x6 => [x6.2.2.2.2.2.2.2.2, []], ss := fun x6 => [some v_0, some x6.2.2.2.2.2.2.2.1, some x6.2.2.2.2.2.2.1, x6.1, x6.2.1, x6.2.2.1, x6.2.2.2.1, x6.2.2.2.2.1, x6.2.2.2.2.2.1], sc := fun g7 x6 => (SC.addO (SC.add (SC.add SC.nil K (rV (rV Xa)) v_0 a_0) K Xa x6.2.2.2.2.2.2.1 g7.1) K (oL (oL (oF Xa))) x6.2.2.2.2.2.2.2.1 g7.2 x6.2.2.2.2.2.2.2.2) } : Jn (Int × (List (List Int))) (Option V × Option V × Option V × Option V × Option V × Option V × V × V × List XL))) (fun _ => tg1 3) ((none), (none), (none), (none), (none), (none), v5, v2, C3) (a4, a1) (XG (Xm (r := (rV (rV Xa))) 0 rfl (fun _ s => (SC.r (SC.l (SC.l s)))))) rfl rfl (fun _ s => (SC.i (SC.i (SC.i SC.t (SC.r (SC.l (SC.l s)))) (SC.r s)) (SC.r (SC.l s)))) (fun g8 x9 a10 v11 => (Xz (K := K) (r := Xa) 4 (Xm (r := Xa) 2 rfl (fun _ s => (SC.r (SC.l (SC.l s))))) fun a12 v13 => (Xz (K := K) (r := Xa) 5 (Xm (r := Xa) 2 rfl (fun _ s => (SC.r (SC.l (SC.l (SC.l s)))))) fun a14 v15 => (Xz (K := K) (r := Xa) 6 (EvB.sh (ZC (Xe 1))) fun a16 v17 => (YC (K := K) (J := ({ oo := fun x21 => [x9.2.2.2.2.2.2.2.2, []], ss := fun x21 => [some v_0, some x9.2.2.2.2.2.2.2.1, some x9.2.2.2.2.2.2.1, some v11, some v13, some v15, some x21.2, x21.1, x9.2.2.2.2.2.1], sc := fun g22 x21 => (SC.add (SC.add (SC.add (SC.add (SC.addO (SC.add (SC.add SC.nil K (rV (rV Xa)) v_0 a_0) K Xa x9.2.2.2.2.2.2.1 g8.1) K (oL (oL (oF Xa))) x9.2.2.2.2.2.2.2.1 g8.2 x9.2.2.2.2.2.2.2.2) K (rV Xa) v11 a10) K Xa v13 a12) K Xa v15 a14) K Xa x21.2 g22) } : Jn (Int) (Option V × V))) (fun _ => tg1 7) ((x9.2.2.2.2.1), v17) (a16) (XJ (XO (Xb (r := (rV Xa)) 3 rfl (fun _ s => (SC.r (SC.l (SC.l (SC.l s)))))))) rfl rfl (fun _ s => (SC.i (SC.i (SC.i (SC.i (SC.i (SC.i (SC.i SC.t (SC.r (SC.l (SC.l (SC.l (SC.l (SC.l (SC.l s)))))))) (SC.r (SC.l (SC.l (SC.l (SC.l (SC.l s))))))) (SC.r (SC.l (SC.l (SC.l (SC.l s)))))) (SC.r (SC.l (SC.l (SC.l s))))) (SC.r (SC.l (SC.l s)))) (SC.r (SC.l s))) (SC.r s))) (fun g23 x24 a25 v26 => (Yr (J := ({ oo := fun x32 => [x9.2.2.2.2.2.2.2.2, []], ss := fun x32 => [some v_0, some x9.2.2.2.2.2.2.2.1, some x9.2.2.2.2.2.2.1, some v11, some v13, some v15, some x32, some v26, x9.2.2.2.2.2.1], sc := fun g33 x32 => (SC.add (SC.add (SC.add (SC.add (SC.add (SC.addO (SC.add (SC.add SC.nil K (rV (rV Xa)) v_0 a_0) K Xa x9.2.2.2.2.2.2.1 g8.1) K (oL (oL (oF Xa))) x9.2.2.2.2.2.2.2.1 g8.2 x9.2.2.2.2.2.2.2.2) K (rV Xa) v11 a10) K Xa v13 a12) K Xa v15 a14) K Xa v26 a25) K Xa x32 g33) } : Jn (Int) (V))) (Y0 (Fd := FNd ({ oo := fun x32 => [x9.2.2.2.2.2.2.2.2, []], ss := fun x32 => [some v_0, some x9.2.2.2.2.2.2.2.1, some x9.2.2.2.2.2.2.1, some v11, some v13, some v15, some x32, some v26, x9.2.2.2.2.2.1], sc := fun g33 x32 => (SC.add (SC.add (SC.add (SC.add (SC.add (SC.addO (SC.add (SC.add SC.nil K (rV (rV Xa)) v_0 a_0) K Xa x9.2.2.2.2.2.2.1 g8.1) K (oL (oL (oF Xa))) x9.2.2.2.2.2.2.2.1 g8.2 x9.2.2.2.2.2.2.2.2) K (rV Xa) v11 a10) K Xa v13 a12) K Xa v15 a14) K Xa v26 a25) K Xa x32 g33) } : Jn (Int) (V))) (Xo (K := K) (Zy (Xs (Xb (r := (rV Xa)) 3 rfl (fun _ s => (SC.r (SC.l (SC.l (SC.l (SC.l s))))))) (Xb (r := Xa) 7 rfl (fun _ s => (SC.r s)))) (Xe 0))) (Xz (K := K) (r := Xa) 6 (Xm (r := Xa) 7 rfl (fun _ s => (SC.r s))) fun a34 v35 => (Xv (J := _) (v35) (a34) rfl rfl (fun _ s => (SC.i (SC.i (SC.i (SC.i (SC.i (SC.i (SC.i (SC.i SC.t (SC.r (SC.l (SC.l (SC.l (SC.l (SC.l (SC.l (SC.l (SC.l s)))))))))) (SC.r (SC.l (SC.l (SC.l (SC.l (SC.l (SC.l (SC.l s))))))))) (SC.r (SC.l (SC.l (SC.l (SC.l (SC.l (SC.l s)))))))) (SC.r (SC.l (SC.l (SC.l (SC.l (SC.l s))))))) (SC.r (SC.l (SC.l (SC.l (SC.l s)))))) (SC.r (SC.l (SC.l (SC.l s))))) (SC.r (SC.l s))) (SC.r s))))) (Xv (J := _) (x24.2) (g23) rfl rfl (fun _ s => (SC.i (SC.i (SC.i (SC.i (SC.i (SC.i (SC.i (SC.i SC.t (SC.r (SC.l (SC.l (SC.l (SC.l (SC.l (SC.l (SC.l s))))))))) (SC.r (SC.l (SC.l (SC.l (SC.l (SC.l (SC.l s)))))))) (SC.r (SC.l (SC.l (SC.l (SC.l (SC.l s))))))) (SC.r (SC.l (SC.l (SC.l (SC.l s)))))) (SC.r (SC.l (SC.l (SC.l s))))) (SC.r (SC.l (SC.l s)))) (SC.r s)) (SC.r (SC.l s)))))) fun g37 x36 => (Xv (J := _) ((some v26), x36) (g37) rfl rfl (fun _ s => (SC.i (SC.i (SC.i (SC.i (SC.i (SC.i (SC.i SC.t (SC.r (SC.l (SC.l (SC.l (SC.l (SC.l (SC.l (SC.l s))))))))) (SC.r (SC.l (SC.l (SC.l (SC.l (SC.l (SC.l s)))))))) (SC.r (SC.l (SC.l (SC.l (SC.l (SC.l s))))))) (SC.r (SC.l (SC.l (SC.l (SC.l s)))))) (SC.r (SC.l (SC.l (SC.l s))))) (SC.r (SC.l (SC.l s)))) (SC.r s)))))) fun g38 x39 => (XN (K := K) (o := (oL (oF Xa))) 8 1 (Jr (Ev.ls (YG (Xn (Xm (r := Xa) 4 rfl (fun _ s => (SC.r (SC.l (SC.l s))))) X9))) (KQ (XO (Xb (r := (rV Xa)) 3 rfl (fun _ s => (SC.r (SC.l (SC.l (SC.l s))))))) (Xe 1))) (Nat.le_of_ble_eq_true rfl) fun a40 v41 C42 => (YC (K := K) (J := ({ oo := fun x54 => [x9.2.2.2.2.2.2.2.2, x54.2.2.2.2], ss := fun x54 => [some v_0, some x9.2.2.2.2.2.2.2.1, some x54.2.2.1, some v11, some v13, some x54.2.2.2.1, some x39.2, x54.1, some x54.2.1], sc := fun g55 x54 => (SC.add (SC.add (SC.addO (SC.add (SC.add (SC.add (SC.addO (SC.add SC.nil K (rV (rV Xa)) v_0 a_0) K (oL (oL (oF Xa))) x9.2.2.2.2.2.2.2.1 g8.2 x9.2.2.2.2.2.2.2.2) K (rV Xa) v11 a10) K Xa v13 a12) K Xa x39.2 g38) K (oL (oF Xa)) x54.2.1 g55.1 x54.2.2.2.2) K Xa x54.2.2.1 g55.2.1) K Xa x54.2.2.2.1 g55.2.2) } : Jn ((List Int) × Int × Int) (Option V × V × V × V × List XL))) (fun _ => tg1 7) ((x39.1), v41, x9.2.2.2.2.2.2.1, v15, C42) (a40, g8.1, a14) (XJ (XI (Xb (r := Xa) 6 rfl (fun _ s => (SC.r (SC.l s)))) (Xe 1))) rfl rfl (fun _ s => (SC.i (SC.i (SC.i (SC.i (SC.i (SC.i (SC.i (SC.i SC.t (SC.r (SC.l (SC.l (SC.l (SC.l (SC.l (SC.l (SC.l s))))))))) (SC.r (SC.l (SC.l (SC.l (SC.l (SC.l s))))))) (SC.r (SC.l (SC.l (SC.l (SC.l s)))))) (SC.r (SC.l (SC.l (SC.l s))))) (SC.r (SC.l s))) (SC.r s)) (SC.r (SC.l (SC.l (SC.l (SC.l (SC.l (SC.l s)))))))) (SC.r (SC.l (SC.l s))))) (fun g56 x57 a58 v59 => (JS (K := K) (o := (oF Xa)) 8 1 rfl rfl (fun _ s => (SC.r (SC.l (SC.l (SC.l s))))) (EvS.ev (Xm (r := Xa) 5 rfl (fun _ s => (SC.r (SC.l s))))) (fun _ => (Xb (r := Xa) 7 rfl (fun _ s => (SC.r s)))) fun a62 C63 => (Yr (J := ({ oo := fun x71 => [x9.2.2.2.2.2.2.2.2, C63], ss := fun x71 => [some v_0, some x9.2.2.2.2.2.2.2.1, some x71.1, some v11, some v13, some x71.2, some x39.2, some v59, some x57.2.1], sc := fun g72 x71 => (SC.add (SC.add (SC.add (SC.addO (SC.add (SC.add (SC.add (SC.addO (SC.add SC.nil K (rV (rV Xa)) v_0 a_0) K (oL (oL (oF Xa))) x9.2.2.2.2.2.2.2.1 g8.2 x9.2.2.2.2.2.2.2.2) K (rV Xa) v11 a10) K Xa v13 a12) K Xa x39.2 g38) K (oL (oF Xa)) x57.2.1 a62 C63) K Xa v59 a58) K Xa x71.1 g72.1) K Xa x71.2 g72.2) } : Jn (Int × Int) (V × V))) (Y0 (Fd := FNd ({ oo := fun x71 => [x9.2.2.2.2.2.2.2.2, C63], ss := fun x71 => [some v_0, some x9.2.2.2.2.2.2.2.1, some x71.1, some v11, some v13, some x71.2, some x39.2, some v59, some x57.2.1], sc := fun g72 x71 => (SC.add (SC.add (SC.add (SC.addO (SC.add (SC.add (SC.add (SC.addO (SC.add SC.nil K (rV (rV Xa)) v_0 a_0) K (oL (oL (oF Xa))) x9.2.2.2.2.2.2.2.1 g8.2 x9.2.2.2.2.2.2.2.2) K (rV Xa) v11 a10) K Xa v13 a12) K Xa x39.2 g38) K (oL (oF Xa)) x57.2.1 a62 C63) K Xa v59 a58) K Xa x71.1 g72.1) K Xa x71.2 g72.2) } : Jn (Int × Int) (V × V))) (Y2 (Xo (K := K) (Zy (Xs (Xb (r := (rV Xa)) 3 rfl (fun _ s => (SC.r (SC.l (SC.l (SC.l (SC.l (SC.l (SC.l (SC.l s)))))))))) (Xb (r := Xa) 7 rfl (fun _ s => (SC.r (SC.l s))))) (Xe 0))) (Xo (K := K) (Zy (Xb (r := Xa) 7 rfl (fun _ s => (SC.r (SC.l s)))) (Xb (r := Xa) 6 rfl (fun _ s => (SC.r (SC.l (SC.l (SC.l (SC.l (SC.l s))))))))))) (Xz (K := K) (r := Xa) 2 (EvB.sh (XI (Xb (r := Xa) 2 rfl (fun _ s => (SC.r (SC.l (SC.l (SC.l s)))))) (Xe 1))) fun a73 v74 => (Xz (K := K) (r := Xa) 5 (Xm (r := Xa) 2 rfl (fun _ s => (SC.r s))) fun a77 v78 => (Xv (J := _) (v74, v78) (a73, a77) rfl rfl (fun _ s => (SC.i (SC.i (SC.i (SC.i (SC.i (SC.i (SC.i (SC.i (SC.i SC.t (SC.r (SC.l (SC.l (SC.l (SC.l (SC.l (SC.l (SC.l (SC.l (SC.l (SC.l (SC.l s))))))))))))) (SC.r (SC.l (SC.l (SC.l (SC.l (SC.l (SC.l (SC.l (SC.l (SC.l (SC.l s)))))))))))) (SC.r (SC.l (SC.l (SC.l (SC.l (SC.l (SC.l (SC.l (SC.l (SC.l s))))))))))) (SC.r (SC.l (SC.l (SC.l (SC.l (SC.l (SC.l (SC.l (SC.l s)))))))))) (SC.r (SC.l (SC.l (SC.l (SC.l (SC.l (SC.l (SC.l s))))))))) (SC.r (SC.l (SC.l s)))) (SC.r (SC.l (SC.l (SC.l s))))) (SC.r (SC.l s))) (SC.r s)))))) (Xv (J := _) (x57.2.2.1, x57.2.2.2.1) (g56.2.1, g56.2.2) rfl rfl (fun _ s => (SC.i (SC.i (SC.i (SC.i (SC.i (SC.i (SC.i (SC.i (SC.i SC.t (SC.r (SC.l (SC.l (SC.l (SC.l (SC.l (SC.l (SC.l (SC.l (SC.l s))))))))))) (SC.r (SC.l (SC.l (SC.l (SC.l (SC.l (SC.l (SC.l (SC.l s)))))))))) (SC.r (SC.l (SC.l (SC.l (SC.l (SC.l (SC.l (SC.l s))))))))) (SC.r (SC.l (SC.l (SC.l (SC.l (SC.l (SC.l s)))))))) (SC.r (SC.l (SC.l (SC.l (SC.l (SC.l s))))))) (SC.r s)) (SC.r (SC.l s))) (SC.r (SC.l (SC.l (SC.l s))))) (SC.r (SC.l (SC.l s))))))) fun g80 x79 => (Xv (J := _) ((some v59), x57.2.1, x79.1, x79.2, C63) (a62, g80.1, g80.2) rfl rfl (fun _ s => (SC.i (SC.i (SC.i (SC.i (SC.i (SC.i (SC.i (SC.i SC.t (SC.r (SC.l (SC.l (SC.l (SC.l (SC.l (SC.l (SC.l (SC.l s)))))))))) (SC.r (SC.l (SC.l (SC.l (SC.l (SC.l (SC.l (SC.l s))))))))) (SC.r (SC.l (SC.l (SC.l (SC.l (SC.l (SC.l s)))))))) (SC.r (SC.l (SC.l (SC.l (SC.l (SC.l s))))))) (SC.r (SC.l (SC.l (SC.l (SC.l s)))))) (SC.r (SC.l (SC.l (SC.l s))))) (SC.r (SC.l s))) (SC.r s))))))) fun g81 x82 => (Xz (K := K) (r := Xa) 2 (EvB.sh (XI (Xb (r := Xa) 2 rfl (fun _ s => (SC.r (SC.l s)))) (Xe 1))) fun a83 v84 => (ZB (K := K) (o := (oL (oF Xa))) (f := fun a89 => (Res.ok (a83, a89))) 1 0 rfl rfl rfl (fun _ s => (SC.r (SC.l (SC.l (SC.l (SC.l (SC.l (SC.l (SC.l s))))))))) (Yp (o := (oL (oF Xa))) 8 1 rfl rfl (fun _ s => (SC.r (SC.l (SC.l (SC.l s)))))) fun a87 C88 => (Xv (J := _) ((some v11), (some v13), (some x82.2.2.2.1), (some x39.2), (x82.1), (some x82.2.1), v84, x9.2.2.2.2.2.2.2.1, C88) (a83, (g8.2 ++ [a87])) rfl rfl (fun _ s => (SC.i (SC.i (SC.i SC.t (SC.r (SC.l (SC.l (SC.l (SC.l (SC.l (SC.l (SC.l (SC.l (SC.l s))))))))))) (SC.r (SC.l s))) (SC.r s))))))))))))) fun g92 x93 => (XE (Yp (o := (oL (oL (oF Xa)))) 1 0 rfl rfl (fun _ s => (SC.r s)))))))
theorem UB : FnScope ["_law_walks", "_law_passage", "_law_k"] ["_law_walks", "_law_passage"] (Xi ZH) := ⟨rfl, rfl, rfl, by decide +kernel, rfl, by decide +kernel, by decide +kernel⟩
set_option maxHeartbeats 4000000 in
theorem FH (D : Def K mg "_law_spot" ZH ["_law_walks", "_law_passage"])  (Z : Blt mg) : Fn P w K mg base 1 "_law_spot" ["_law_walks", "_law_passage"] (sp2 (rV (rV Xa)) Xa (oF (rP2 Xa Xa)) Z3 K) := by
  refine YT D UB (fun vs H Q E h => ?_) (fun f cdv A outer s H vs Q E hr h => ?_)
  · obtain ⟨v_0, v_1, a_0, a_1, b, rfl, _⟩ := h; rfl
  obtain ⟨v_0, v_1, a_0, a_1, b, rfl, h_0, h_1, hm, q⟩ := h
  have hu := hu8 hr
  have hu1 := YK hr
  refine ⟨_, (Xc (Yf PassesOwn.never rfl (X1 rfl Z.b_range (Xd (Xu (Xk K rfl) rfl Z.b_len PySem.boot_len (Xd (pv 0) Xg)) Xg)) (Xr (i := 2) UB.nd rfl (Or.inl rfl))
      (Xc (YD (Xt Km (pv 1) (Xx (Xj K rfl) (pv 0) (pv 2) (fun _ _ => rfl)) rfl)
        (Xc (XF (Z8 (Xd (pv 2) (Xd (Bj (K := K) rfl PySem.F.plainAttrs_list PySem.F.slot_list_index PySem.F.type_list_index (UX K rfl) (Xx (Xj K rfl) (pv 0) (pv 2) (fun _ _ => rfl)) (Xd (pv 1) Xg)) Xg))))
        Xh)
        Xh)
      Xh))
    (Xc (XF (Z8 (Xd (Vi Qd Xf) (Xd (Vi Qd Xf) Xg))))
    Xh)), ?_⟩
  refine YN (S := (SC.add (SC.add SC.nil K (rV (rV Xa)) v_0 a_0) K Xa v_1 a_1)) (σ := [some v_0, some v_1, none]) 0 ?_ (SC.i (SC.i SC.t h_0) h_1) hm q rfl
  unfold Z3
  exact (J7 (K := K) (J := ({ oo := fun x3 => [], ss := fun x3 => [some v_0, some v_1, x3], sc := fun g4 x3 => (SC.add (SC.add SC.nil K (rV (rV Xa)) v_0 a_0) K Xa v_1 a_1) } : Jn (Unit) (Option V))) (fun _ => tg1 2) ((none)) () (XJ (XO (Xb (r := (rV (rV Xa))) 0 rfl (fun _ s => (SC.r (SC.l s)))))) rfl rfl (fun _ s => (SC.i (SC.i SC.t (SC.r (SC.l s))) (SC.r s))) (fun g5 x6 a7 v8 => (Jl (Xo (K := K) (Bc (Xb (r := Xa) 1 rfl (fun _ s => (SC.r (SC.l s)))) (Xs (Xb (r := (rV (rV Xa))) 0 rfl (fun _ s => (SC.r (SC.l (SC.l s))))) (Xb (r := Xa) 2 rfl (fun _ s => (SC.r s)))))) (XE (EvS.ev (Qv (Xm (r := Xa) 2 rfl (fun _ s => (SC.r s))) (EvB.sh (U9 (Xs (Xb (r := (rV (rV Xa))) 0 rfl (fun _ s => (SC.r (SC.l (SC.l s))))) (Xb (r := Xa) 2 rfl (fun _ s => (SC.r s)))) (Xb (r := Xa) 1 rfl (fun _ s => (SC.r (SC.l s))))))))) (UE (Xv (J := _) ((some v8)) () rfl rfl (fun _ s => (SC.i (SC.i SC.t (SC.r (SC.l (SC.l s)))) (SC.r (SC.l s)))))))) fun g22 x23 => (XE (EvS.ev (Qv (EvB.sh (ZC (Xe 1))) (EvB.sh (ZC (Xe 1)))))))
theorem Yh : FnScope ["_law_drawing", "_law_walks", "_law_signs", "_law_rows", "_law_found", "_law_crossing", "_law_sign", "_law_up", "_law_at", "_law_down", "_law_to", "_law_behind"] ["_law_drawing"] (Xi Zf) := ⟨rfl, rfl, rfl, by decide +kernel, rfl, by decide +kernel, by decide +kernel⟩
set_option maxHeartbeats 4000000 in
theorem GV (D : Def K mg "_law_meets" Zf ["_law_drawing"]) (g_l_arcs : Fn P w K mg base 1 "_law_arcs" ["_law_walks"] (sp1 (rV (rV Xa)) (oL (oL (oF Xa))) Qw K)) (g_l_spot : Fn P w K mg base 1 "_law_spot" ["_law_walks", "_law_passage"] (sp2 (rV (rV Xa)) Xa (oF (rP2 Xa Xa)) Z3 K)) (Z : Blt mg) : Fn P w K mg base 2 "_law_meets" ["_law_drawing"] (sp1 (rP2 (rV (rV Xa)) (rV (rP2 Xa Xa))) (oL (oF (rP5 Xa Xa Xa Xa Xa))) Zi K) := by
  refine YT D Yh (fun vs H Q E h => ?_) (fun f cdv A outer s H vs Q E hr h => ?_)
  · obtain ⟨v_0, a_0, b, rfl, _⟩ := h; rfl
  obtain ⟨v_0, a_0, b, rfl, h_0, hm, q⟩ := h
  have hu := hu8 hr
  have hu1 := YK hr
  refine ⟨_, (Xc (Jx (pv 0) (Q3 rfl (XQ (Xr (i := 1) Yh.nd rfl (Or.inl rfl)) (XQ (Xr (i := 2) Yh.nd rfl (Or.inl rfl)) ZO))))
    (Xc (Xp (i := 3) Yh.nd rfl (Or.inl rfl) (Ya g_l_arcs hr (by decide) (Xd (pv 1) Xg)))
    (Xc (Xp (i := 4) Yh.nd rfl (Or.inl rfl) (XV Xg))
    (Xc (Yf PassesOwn.never rfl (XW (K := K) rfl (pv 2)) (Q3 rfl (XQ (Xr (i := 5) Yh.nd rfl (Or.inl rfl)) (XQ (Xr (i := 6) Yh.nd rfl (Or.inl rfl)) ZO)))
      (Xc (Jx (Ya g_l_spot hr (by decide) (Xd (pv 1) (Xd (pv 5) Xg))) (Q3 rfl (XQ (Xr (i := 7) Yh.nd rfl (Or.inl rfl)) (XQ (Xr (i := 8) Yh.nd rfl (Or.inl rfl)) ZO))))
      (Xc (Jx (Ya g_l_spot hr (by decide) (Xd (pv 1) (Xd (Vi Qd (pv 5)) Xg))) (Q3 rfl (XQ (Xr (i := 9) Yh.nd rfl (Or.inl rfl)) (XQ (Xr (i := 10) Yh.nd rfl (Or.inl rfl)) ZO))))
      (Xc (Xp (i := 11) Yh.nd rfl (Or.inl rfl) (Xq X3 (Xq X0 (pv 10) Xf) (Xu (Xk K rfl) rfl Z.b_len PySem.boot_len (Xd (Xx (Xj K rfl) (pv 1) (pv 9) (fun _ _ => rfl)) Xg))))
      (Xc (Yz (Zz PySem.F.plainAttrs_list PySem.F.slot_list_append PySem.F.type_list_append XZ (pv 4) (Xd (Z8 (Xd (pv 5) (Xd (pv 6) (Xd (Xx (Xj K rfl) (Xx (Xj K rfl) (pv 3) (pv 7) (fun _ _ => rfl)) (pv 8) (fun _ _ => rfl)) (Xd (Xx (Xj K rfl) (Xx (Xj K rfl) (pv 3) (pv 9) (fun _ _ => rfl)) (pv 10) (fun _ _ => rfl)) (Xd (Xx (Xj K rfl) (Xx (Xj K rfl) (pv 3) (pv 9) (fun _ _ => rfl)) (pv 11) (fun _ _ => rfl)) Xg)))))) Xg)))
      Xh)))))
    (Xc (XF (pv 4))
    Xh))))), ?_⟩
  refine YN (S := (SC.add SC.nil K (rP2 (rV (rV Xa)) (rV (rP2 Xa Xa))) v_0 a_0)) (σ := [some v_0, none, none, none, none, none, none, none, none, none, none, none]) 1 ?_ (SC.i SC.t h_0) hm q rfl
  unfold Zi
  exact (Dh 1 2 (Xm (r := (rP2 (rV (rV Xa)) (rV (rP2 Xa Xa)))) 0 rfl (fun _ s => (SC.r s))) fun a1 v2 v3 => (Xz (K := K) (r := (rV (rV Xa))) 3 (Ev.sh (Yn (Xb (r := (rV (rV Xa))) 1 rfl (fun _ s => (SC.r (SC.l s)))))) fun a4 v5 => (XN (K := K) (o := (oL (oF (rP5 Xa Xa Xa Xa Xa)))) 4 0 (Qx (o := (oF (rP5 Xa Xa Xa Xa Xa)))) (Nat.le_of_ble_eq_true rfl) fun a8 v9 C10 => (YC (K := K) (J := ({ oo := fun x11 => [x11.2.2.2.2.2.2.2.2], ss := fun x11 => [some v_0, some v2, some v3, some v5, some x11.2.2.2.2.2.2.2.1, x11.1, x11.2.1, x11.2.2.1, x11.2.2.2.1, x11.2.2.2.2.1, x11.2.2.2.2.2.1, x11.2.2.2.2.2.2.1], sc := fun g12 x11 => (SC.addO (SC.add (SC.add (SC.add (SC.add SC.nil K (rP2 (rV (rV Xa)) (rV (rP2 Xa Xa))) v_0 a_0) K (rV (rV Xa)) v2 a1.1) K (rV (rP2 Xa Xa)) v3 a1.2) K (rV (rV Xa)) v5 a4) K (oL (oF (rP5 Xa Xa Xa Xa Xa))) x11.2.2.2.2.2.2.2.1 g12 x11.2.2.2.2.2.2.2.2) } : Jn ((List (Int × Int × Int × Int × Int))) (Option V × Option V × Option V × Option V × Option V × Option V × Option V × V × List XL))) (fun _ => tg2 5 6) ((none), (none), (none), (none), (none), (none), (none), v9, C10) (a8) (XG (Xm (r := (rV (rP2 Xa Xa))) 2 rfl (fun _ s => (SC.r (SC.l (SC.l s)))))) rfl rfl (fun _ s => (SC.i (SC.i (SC.i (SC.i (SC.i SC.t (SC.r (SC.l (SC.l (SC.l (SC.l s)))))) (SC.r (SC.l (SC.l (SC.l s))))) (SC.r (SC.l (SC.l s)))) (SC.r (SC.l s))) (SC.r s))) (fun g13 x14 a15 v16 => (Dh 7 8 (EvB.sh (Ev.toB (Ym (Xb (r := (rV (rV Xa))) 1 rfl (fun _ s => (SC.r (SC.l (SC.l (SC.l (SC.l (SC.l s)))))))) (Xb (r := Xa) 5 rfl (fun _ s => (SC.r (SC.l s))))))) fun a20 v21 v22 => (Dh 9 10 (EvB.sh (Ev.toB (Ym (Xb (r := (rV (rV Xa))) 1 rfl (fun _ s => (SC.r (SC.l (SC.l (SC.l (SC.l (SC.l (SC.l (SC.l s)))))))))) (ZC (Xb (r := Xa) 5 rfl (fun _ s => (SC.r (SC.l (SC.l (SC.l s)))))))))) fun a27 v28 v29 => (Xz (K := K) (r := Xa) 11 (EvB.sh (XM (XI (Xb (r := Xa) 10 rfl (fun _ s => (SC.r s))) (Xe 1)) (XO (Xs (Xb (r := (rV (rV Xa))) 1 rfl (fun _ s => (SC.r (SC.l (SC.l (SC.l (SC.l (SC.l (SC.l (SC.l (SC.l (SC.l s)))))))))))) (Xb (r := Xa) 9 rfl (fun _ s => (SC.r (SC.l s)))))))) fun a30 v31 => (ZB (K := K) (o := (oF (rP5 Xa Xa Xa Xa Xa))) (f := fun a58 => (Res.ok (a58))) 4 0 rfl rfl rfl (fun _ s => (SC.r (SC.l (SC.l (SC.l (SC.l (SC.l (SC.l (SC.l s))))))))) (EvS.ev (K3 (Xm (r := Xa) 5 rfl (fun _ s => (SC.r (SC.l (SC.l (SC.l (SC.l (SC.l (SC.l s))))))))) (Xm (r := Xa) 6 rfl (fun _ s => (SC.r (SC.l (SC.l (SC.l (SC.l (SC.l s)))))))) (EvB.sh (Xs (Xs (Xb (r := (rV (rV Xa))) 3 rfl (fun _ s => (SC.r (SC.l (SC.l (SC.l (SC.l (SC.l (SC.l (SC.l (SC.l s))))))))))) (Xb (r := Xa) 7 rfl (fun _ s => (SC.r (SC.l (SC.l (SC.l (SC.l s)))))))) (Xb (r := Xa) 8 rfl (fun _ s => (SC.r (SC.l (SC.l (SC.l s)))))))) (EvB.sh (Xs (Xs (Xb (r := (rV (rV Xa))) 3 rfl (fun _ s => (SC.r (SC.l (SC.l (SC.l (SC.l (SC.l (SC.l (SC.l (SC.l s))))))))))) (Xb (r := Xa) 9 rfl (fun _ s => (SC.r (SC.l (SC.l s)))))) (Xb (r := Xa) 10 rfl (fun _ s => (SC.r (SC.l s)))))) (EvB.sh (Xs (Xs (Xb (r := (rV (rV Xa))) 3 rfl (fun _ s => (SC.r (SC.l (SC.l (SC.l (SC.l (SC.l (SC.l (SC.l (SC.l s))))))))))) (Xb (r := Xa) 9 rfl (fun _ s => (SC.r (SC.l (SC.l s)))))) (Xb (r := Xa) 11 rfl (fun _ s => (SC.r s))))))) fun a56 C57 => (Xv (J := _) ((some v16.1), (some v16.2), (some v21), (some v22), (some v28), (some v29), (some v31), x14.2.2.2.2.2.2.2.1, C57) ((g13 ++ [a56])) rfl rfl (fun _ s => (SC.i (SC.i (SC.i (SC.i (SC.i SC.t (SC.r (SC.l (SC.l (SC.l (SC.l (SC.l (SC.l (SC.l (SC.l (SC.l (SC.l (SC.l (SC.l s)))))))))))))) (SC.r (SC.l (SC.l (SC.l (SC.l (SC.l (SC.l (SC.l (SC.l (SC.l (SC.l (SC.l s))))))))))))) (SC.r (SC.l (SC.l (SC.l (SC.l (SC.l (SC.l (SC.l (SC.l (SC.l (SC.l s)))))))))))) (SC.r (SC.l (SC.l (SC.l (SC.l (SC.l (SC.l (SC.l (SC.l (SC.l s))))))))))) (SC.r s))))))))) fun g59 x60 => (XE (Yp (o := (oL (oF (rP5 Xa Xa Xa Xa Xa)))) 4 0 rfl rfl (fun _ s => (SC.r s))))))))
theorem JQ : FnScope ["_law_drawing", "_law_count_here", "_law_walk"] ["_law_drawing"] (Xi Z0) := ⟨rfl, rfl, rfl, by decide +kernel, rfl, by decide +kernel, by decide +kernel⟩
set_option maxHeartbeats 4000000 in
theorem CA (D : Def K mg "_law_count" Z0 ["_law_drawing"])  (Z : Blt mg) : Fn P w K mg base 1 "_law_count" ["_law_drawing"] (sp1 (rP2 (rV (rV Xa)) (rV (rP2 Xa Xa))) (oF Xa) Y8 K) := by
  refine YT D JQ (fun vs H Q E h => ?_) (fun f cdv A outer s H vs Q E hr h => ?_)
  · obtain ⟨v_0, a_0, b, rfl, _⟩ := h; rfl
  obtain ⟨v_0, a_0, b, rfl, h_0, hm, q⟩ := h
  have hu := hu8 hr
  have hu1 := YK hr
  refine ⟨_, (Xc (Xp (i := 1) JQ.nd rfl (Or.inl rfl) (Xu (Xk K rfl) rfl Z.b_len PySem.boot_len (Xd (Xx (YY K rfl) (pv 0) Xf (fun _ _ => rfl)) Xg)))
    (Xc (Yf PassesOwn.never rfl (XW (K := K) rfl (Xx (YY K rfl) (pv 0) Xf (fun _ _ => rfl))) (Xr (i := 2) JQ.nd rfl (Or.inl rfl))
      (Xc (YD (Xt Zp (Xu (Xk K rfl) rfl Z.b_len PySem.boot_len (Xd (ZJ (sc := (Xi Z0)) (N0 := ["_law_drawing", "_law_count_here", "_law_walk"]) (tns := ["_law_one"]) (caps := []) rfl (XW (K := K) rfl (pv 2)) (Zm (by decide)) (fun cl C s H ex E => ⟨Xr (i := 0) (show List.Nodup (["_law_one"] : List Str) by decide +kernel) rfl (Or.inl rfl), (KA (Xt Qy (pv 0) Xf (XA _))), (pv 0)⟩)) Xg)) Xf (XA _))
        (Xc (Xp (i := 1) JQ.nd rfl (Or.inl rfl) (Xq X0 (pv 1) Xf))
        Xh)
        Xh)
      Xh))
    (Xc (XF (pv 1))
    Xh))), ?_⟩
  refine YN (S := (SC.add SC.nil K (rP2 (rV (rV Xa)) (rV (rP2 Xa Xa))) v_0 a_0)) (σ := [some v_0, none, none]) 0 ?_ (SC.i SC.t h_0) hm q rfl
  unfold Y8
  exact (Xz (K := K) (r := Xa) 1 (EvB.sh (XO (Vj (Xb (r := (rP2 (rV (rV Xa)) (rV (rP2 Xa Xa)))) 0 rfl (fun _ s => (SC.r s)))))) fun a1 v2 => (YC (K := K) (J := ({ oo := fun x6 => [], ss := fun x6 => [some v_0, some x6.2, x6.1], sc := fun g7 x6 => (SC.add (SC.add SC.nil K (rP2 (rV (rV Xa)) (rV (rP2 Xa Xa))) v_0 a_0) K Xa x6.2 g7) } : Jn (Int) (Option V × V))) (fun _ => tg1 2) ((none), v2) (a1) (XG (Ji (Xm (r := (rP2 (rV (rV Xa)) (rV (rP2 Xa Xa)))) 0 rfl (fun _ s => (SC.r (SC.l s)))))) rfl rfl (fun _ s => (SC.i (SC.i SC.t (SC.r (SC.l s))) (SC.r s))) (fun g8 x9 a10 v11 => (Yr (J := ({ oo := fun x22 => [], ss := fun x22 => [some v_0, some x22, some v11], sc := fun g23 x22 => (SC.add (SC.add (SC.add SC.nil K (rP2 (rV (rV Xa)) (rV (rP2 Xa Xa))) v_0 a_0) K (rV Xa) v11 a10) K Xa x22 g23) } : Jn (Int) (V))) (Y0 (Fd := FNd ({ oo := fun x22 => [], ss := fun x22 => [some v_0, some x22, some v11], sc := fun g23 x22 => (SC.add (SC.add (SC.add SC.nil K (rP2 (rV (rV Xa)) (rV (rP2 Xa Xa))) v_0 a_0) K (rV Xa) v11 a10) K Xa x22 g23) } : Jn (Int) (V))) (Xo (K := K) (YH (XO (Ev.toB (V6 (fun _ => tg1 0) (XG (Xm (r := (rV Xa)) 2 rfl (fun _ s => (SC.r s)))) (fun C12 a13 v14 => (Xo (K := K) (Zy (Xb (r := Xa) 0 rfl (fun _ s => (SC.r s))) (Xe 0)))) (fun C12 a13 v14 => (EvS.ev (Xm (r := Xa) 0 rfl (fun _ s => (SC.r s)))))))) (Xe 0))) (Xz (K := K) (r := Xa) 1 (EvB.sh (XI (Xb (r := Xa) 1 rfl (fun _ s => (SC.r (SC.l s)))) (Xe 1))) fun a24 v25 => (Xv (J := _) (v25) (a24) rfl rfl (fun _ s => (SC.i (SC.i (SC.i SC.t (SC.r (SC.l (SC.l (SC.l s))))) (SC.r (SC.l s))) (SC.r s))))) (Xv (J := _) (x9.2) (g8) rfl rfl (fun _ s => (SC.i (SC.i (SC.i SC.t (SC.r (SC.l (SC.l s)))) (SC.r s)) (SC.r (SC.l s)))))) fun g29 x28 => (Xv (J := _) ((some v11), x28) (g29) rfl rfl (fun _ s => (SC.i (SC.i SC.t (SC.r (SC.l (SC.l s)))) (SC.r s)))))) fun g30 x31 => (XE (EvS.ev (Xm (r := Xa) 1 rfl (fun _ s => (SC.r s)))))))
theorem ZF : FnScope ["_law_meetings", "_law_table", "_law_colours", "_law_crossing", "_law_sign", "_law_over", "_law_inward", "_law_outward", "_law_one", "_law_other"] ["_law_meetings", "_law_table", "_law_colours"] (Xi Qh) := ⟨rfl, rfl, rfl, by decide +kernel, rfl, by decide +kernel, by decide +kernel⟩
set_option maxHeartbeats 4000000 in
theorem C6 (D : Def K mg "_law_keeps" Qh ["_law_meetings", "_law_table", "_law_colours"])  (Z : Blt mg) : Fn P w K mg base 1 "_law_keeps" ["_law_meetings", "_law_table", "_law_colours"] (sp3 (rV (rP5 Xa Xa Xa Xa Xa)) (rV (rV Xa)) (rV Xa) (oF X7) Z2 K) := by
  refine YT D ZF (fun vs H Q E h => ?_) (fun f cdv A outer s H vs Q E hr h => ?_)
  · obtain ⟨v_0, v_1, v_2, a_0, a_1, a_2, b, rfl, _⟩ := h; rfl
  obtain ⟨v_0, v_1, v_2, a_0, a_1, a_2, b, rfl, h_0, h_1, h_2, hm, q⟩ := h
  have hu := hu8 hr
  have hu1 := YK hr
  refine ⟨_, (Xc (Yf PassesOwn.never rfl (XW (K := K) rfl (pv 0)) (Q3 rfl (XQ (Xr (i := 3) ZF.nd rfl (Or.inl rfl)) (XQ (Xr (i := 4) ZF.nd rfl (Or.inl rfl)) (XQ (Xr (i := 5) ZF.nd rfl (Or.inl rfl)) (XQ (Xr (i := 6) ZF.nd rfl (Or.inl rfl)) (XQ (Xr (i := 7) ZF.nd rfl (Or.inl rfl)) ZO))))))
      (Xc (Go (i := 8) (j := 9) rfl ZF.nd rfl rfl (by decide) rfl rfl (Xd (Xx (Xj K rfl) (pv 2) (pv 6) (fun _ _ => rfl)) (Xd (Xx (Xj K rfl) (pv 2) (pv 7) (fun _ _ => rfl)) Xg)) rfl)
      (Xc (YD (Xt Qy (pv 4) Xf (XA _))
        (Xc (Go (i := 8) (j := 9) rfl ZF.nd rfl rfl (by decide) rfl rfl (Xd (pv 9) (Xd (pv 8) Xg)) rfl)
        Xh)
        Xh)
      (Xc (YD (Xt Fg (Xx (Xj K rfl) (Xx (Xj K rfl) (pv 1) (pv 8) (fun _ _ => rfl)) (Xx (Xj K rfl) (pv 2) (pv 5) (fun _ _ => rfl)) (fun _ _ => rfl)) (pv 9) (XA _))
        (Xc (XF VB)
        Xh)
        Xh)
      Xh))))
    (Xc (XF VB)
    Xh)), ?_⟩
  refine YN (S := (SC.add (SC.add (SC.add SC.nil K (rV (rP5 Xa Xa Xa Xa Xa)) v_0 a_0) K (rV (rV Xa)) v_1 a_1) K (rV Xa) v_2 a_2)) (σ := [some v_0, some v_1, some v_2, none, none, none, none, none, none, none]) 0 ?_ (SC.i (SC.i (SC.i SC.t h_0) h_1) h_2) hm q rfl
  unfold Z2
  exact (J7 (K := K) (J := ({ oo := fun x1 => [], ss := fun x1 => [some v_0, some v_1, some v_2, x1.1, x1.2.1, x1.2.2.1, x1.2.2.2.1, x1.2.2.2.2.1, x1.2.2.2.2.2.1, x1.2.2.2.2.2.2], sc := fun g2 x1 => (SC.add (SC.add (SC.add SC.nil K (rV (rP5 Xa Xa Xa Xa Xa)) v_0 a_0) K (rV (rV Xa)) v_1 a_1) K (rV Xa) v_2 a_2) } : Jn (Unit) (Option V × Option V × Option V × Option V × Option V × Option V × Option V))) (fun _ => tg5 3 4 5 6 7) ((none), (none), (none), (none), (none), (none), (none)) () (XG (Xm (r := (rV (rP5 Xa Xa Xa Xa Xa))) 0 rfl (fun _ s => (SC.r (SC.l (SC.l s)))))) rfl rfl (fun _ s => (SC.i (SC.i (SC.i SC.t (SC.r (SC.l (SC.l s)))) (SC.r (SC.l s))) (SC.r s))) (fun g3 x4 a5 v6 => (Gd (K := K) 8 9 (EvB.sh (Xs (Xb (r := (rV Xa)) 2 rfl (fun _ s => (SC.r (SC.l (SC.l (SC.l (SC.l (SC.l s)))))))) (Xb (r := Xa) 6 rfl (fun _ s => (SC.r (SC.l s)))))) (EvB.sh (Xs (Xb (r := (rV Xa)) 2 rfl (fun _ s => (SC.r (SC.l (SC.l (SC.l (SC.l (SC.l s)))))))) (Xb (r := Xa) 7 rfl (fun _ s => (SC.r s))))) fun a11 a12 v13 v14 => (Yr (J := ({ oo := fun x18 => [], ss := fun x18 => [some v_0, some v_1, some v_2, some v6.1, some v6.2.1, some v6.2.2.1, some v6.2.2.2.1, some v6.2.2.2.2, some x18.1, some x18.2], sc := fun g19 x18 => (SC.add (SC.add (SC.add (SC.add (SC.add (SC.add (SC.add (SC.add (SC.add (SC.add SC.nil K (rV (rP5 Xa Xa Xa Xa Xa)) v_0 a_0) K (rV (rV Xa)) v_1 a_1) K (rV Xa) v_2 a_2) K Xa v6.1 a5.1) K Xa v6.2.1 a5.2.1) K Xa v6.2.2.1 a5.2.2.1) K Xa v6.2.2.2.1 a5.2.2.2.1) K Xa v6.2.2.2.2 a5.2.2.2.2) K Xa x18.1 g19.1) K Xa x18.2 g19.2) } : Jn (Int × Int) (V × V))) (Y0 (Fd := FNd ({ oo := fun x18 => [], ss := fun x18 => [some v_0, some v_1, some v_2, some v6.1, some v6.2.1, some v6.2.2.1, some v6.2.2.2.1, some v6.2.2.2.2, some x18.1, some x18.2], sc := fun g19 x18 => (SC.add (SC.add (SC.add (SC.add (SC.add (SC.add (SC.add (SC.add (SC.add (SC.add SC.nil K (rV (rP5 Xa Xa Xa Xa Xa)) v_0 a_0) K (rV (rV Xa)) v_1 a_1) K (rV Xa) v_2 a_2) K Xa v6.1 a5.1) K Xa v6.2.1 a5.2.1) K Xa v6.2.2.1 a5.2.2.1) K Xa v6.2.2.2.1 a5.2.2.2.1) K Xa v6.2.2.2.2 a5.2.2.2.2) K Xa x18.1 g19.1) K Xa x18.2 g19.2) } : Jn (Int × Int) (V × V))) (Xo (K := K) (Zy (Xb (r := Xa) 4 rfl (fun _ s => (SC.r (SC.l (SC.l (SC.l (SC.l (SC.l s)))))))) (Xe 0))) (Gd (K := K) 8 9 (Xm (r := Xa) 9 rfl (fun _ s => (SC.r s))) (Xm (r := Xa) 8 rfl (fun _ s => (SC.r (SC.l s)))) fun a20 a21 v22 v23 => (Xv (J := _) (v22, v23) (a20, a21) rfl rfl (fun _ s => (SC.i (SC.i (SC.i (SC.i (SC.i (SC.i (SC.i (SC.i (SC.i (SC.i SC.t (SC.r (SC.l (SC.l (SC.l (SC.l (SC.l (SC.l (SC.l (SC.l (SC.l (SC.l (SC.l s))))))))))))) (SC.r (SC.l (SC.l (SC.l (SC.l (SC.l (SC.l (SC.l (SC.l (SC.l (SC.l s)))))))))))) (SC.r (SC.l (SC.l (SC.l (SC.l (SC.l (SC.l (SC.l (SC.l (SC.l s))))))))))) (SC.r (SC.l (SC.l (SC.l (SC.l (SC.l (SC.l (SC.l (SC.l s)))))))))) (SC.r (SC.l (SC.l (SC.l (SC.l (SC.l (SC.l (SC.l s))))))))) (SC.r (SC.l (SC.l (SC.l (SC.l (SC.l (SC.l s)))))))) (SC.r (SC.l (SC.l (SC.l (SC.l (SC.l s))))))) (SC.r (SC.l (SC.l (SC.l (SC.l s)))))) (SC.r (SC.l s))) (SC.r s))))) (Xv (J := _) (v13, v14) (a11, a12) rfl rfl (fun _ s => (SC.i (SC.i (SC.i (SC.i (SC.i (SC.i (SC.i (SC.i (SC.i (SC.i SC.t (SC.r (SC.l (SC.l (SC.l (SC.l (SC.l (SC.l (SC.l (SC.l (SC.l s))))))))))) (SC.r (SC.l (SC.l (SC.l (SC.l (SC.l (SC.l (SC.l (SC.l s)))))))))) (SC.r (SC.l (SC.l (SC.l (SC.l (SC.l (SC.l (SC.l s))))))))) (SC.r (SC.l (SC.l (SC.l (SC.l (SC.l (SC.l s)))))))) (SC.r (SC.l (SC.l (SC.l (SC.l (SC.l s))))))) (SC.r (SC.l (SC.l (SC.l (SC.l s)))))) (SC.r (SC.l (SC.l (SC.l s))))) (SC.r (SC.l (SC.l s)))) (SC.r (SC.l s))) (SC.r s))))) fun g25 x24 => (Jl (Xo (K := K) (UT (Xs (Xs (Xb (r := (rV (rV Xa))) 1 rfl (fun _ s => (SC.r (SC.l (SC.l (SC.l (SC.l (SC.l (SC.l (SC.l (SC.l s))))))))))) (Xb (r := Xa) 8 rfl (fun _ s => (SC.r (SC.l s))))) (Xs (Xb (r := (rV Xa)) 2 rfl (fun _ s => (SC.r (SC.l (SC.l (SC.l (SC.l (SC.l (SC.l (SC.l s)))))))))) (Xb (r := Xa) 5 rfl (fun _ s => (SC.r (SC.l (SC.l (SC.l (SC.l s))))))))) (Xb (r := Xa) 9 rfl (fun _ s => (SC.r s))))) (XE (EvS.ev (EvB.sh (QA false)))) (UE (Xv (J := _) ((some v6.1), (some v6.2.1), (some v6.2.2.1), (some v6.2.2.2.1), (some v6.2.2.2.2), (some x24.1), (some x24.2)) () rfl rfl (fun _ s => (SC.i (SC.i (SC.i SC.t (SC.r (SC.l (SC.l (SC.l (SC.l (SC.l (SC.l (SC.l (SC.l (SC.l s))))))))))) (SC.r (SC.l (SC.l (SC.l (SC.l (SC.l (SC.l (SC.l (SC.l s)))))))))) (SC.r (SC.l (SC.l (SC.l (SC.l (SC.l (SC.l (SC.l s)))))))))))))))) fun g37 x38 => (XE (EvS.ev (EvB.sh (QA true)))))
theorem Q1 : FnScope ["_law_drawing", "_law_table", "_law_meetings", "_law_found", "_law_k", "_law_ready", "_law_longer", "_law_colours", "_law_colour"] ["_law_drawing", "_law_table"] (Xi Uj) := ⟨rfl, rfl, rfl, by decide +kernel, rfl, by decide +kernel, by decide +kernel⟩
set_option maxHeartbeats 4000000 in
theorem Hm (D : Def K mg "_law_all" Uj ["_law_drawing", "_law_table"]) (g_l_meets : Fn P w K mg base 2 "_law_meets" ["_law_drawing"] (sp1 (rP2 (rV (rV Xa)) (rV (rP2 Xa Xa))) (oL (oF (rP5 Xa Xa Xa Xa Xa))) Zi K)) (g_count : Fn P w K mg base 1 "_law_count" ["_law_drawing"] (sp1 (rP2 (rV (rV Xa)) (rV (rP2 Xa Xa))) (oF Xa) Y8 K)) (g_keeps : Fn P w K mg base 1 "_law_keeps" ["_law_meetings", "_law_table", "_law_colours"] (sp3 (rV (rP5 Xa Xa Xa Xa Xa)) (rV (rV Xa)) (rV Xa) (oF X7) Z2 K)) (Z : Blt mg) : Fn P w K mg base 3 "_law_all" ["_law_drawing", "_law_table"] (sp2 (rP2 (rV (rV Xa)) (rV (rP2 Xa Xa))) (rV (rV Xa)) (oL (oL (oF Xa))) GO K) := by
  refine YT D Q1 (fun vs H Q E h => ?_) (fun f cdv A outer s H vs Q E hr h => ?_)
  · obtain ⟨v_0, v_1, a_0, a_1, b, rfl, _⟩ := h; rfl
  obtain ⟨v_0, v_1, a_0, a_1, b, rfl, h_0, h_1, hm, q⟩ := h
  have hu := hu8 hr
  have hu1 := YK hr
  refine ⟨_, (Xc (Xp (i := 2) Q1.nd rfl (Or.inl rfl) (Ya g_l_meets hr (by decide) (Xd (pv 0) Xg)))
    (Xc (Xp (i := 3) Q1.nd rfl (Or.inl rfl) (XV (Xd (XV Xg) Xg QZ)))
    (Xc (Yf PassesOwn.never rfl (X1 rfl Z.b_range (Xd (Ya g_count hr (by decide) (Xd (pv 0) Xg)) Xg)) (Xr (i := 4) Q1.nd rfl (Or.inr rfl))
      (Xc (Q7 5 (Xi Uj) ["_law_drawing", "_law_table", "_law_meetings", "_law_found", "_law_k", "_law_ready", "_law_longer", "_law_colours", "_law_colour"] ["_law_one"] [(4, "_law_k")] rfl Q1.nd rfl rfl (XW (K := K) rfl (pv 2)) (Zm (by decide)) (fun cl C s H ex E => ⟨Xr (i := 0) (show List.Nodup (["_law_one", "_law_k"] : List Str) by decide +kernel) rfl (Or.inl rfl), (KA (Xt Zp (Xu (F8 K rfl rfl) rfl Z.b_max PyProof.Rows.boot_max (Xd (ZY (Bu K rfl) (pv 0) (Qg Xf) Jp) Xg)) (pv 1) (XA _))), (pv 0)⟩))
      (Xc (Xp (i := 6) Q1.nd rfl (Or.inl rfl) (XV Xg))
      (Xc (Yf PassesOwn.never rfl (XW (K := K) rfl (pv 3)) (Xr (i := 7) Q1.nd rfl (Or.inl rfl))
        (Xc (Yf PassesOwn.never rfl (X1 rfl Z.b_range (Xd (Xu (Xk K rfl) rfl Z.b_len PySem.boot_len (Xd (pv 1) Xg)) Xg)) (Xr (i := 8) Q1.nd rfl (Or.inl rfl))
          (Xc (YD (U1 (Ya g_keeps hr (by decide) (Xd (pv 5) (Xd (pv 1) (Xd (Xq VS (pv 7) (XV (Xd (pv 8) Xg))) Xg)))))
            (Xc (Yz (Zz PySem.F.plainAttrs_list PySem.F.slot_list_append PySem.F.type_list_append XZ (pv 6) (Xd (Xq VS (pv 7) (XV (Xd (pv 8) Xg))) Xg)))
            Xh)
            Xh)
          Xh))
        Xh))
      (Xc (Xp (i := 3) Q1.nd rfl (Or.inl rfl) (pv 6))
      Xh)))))
    (Xc (XF (pv 3))
    Xh)))), ?_⟩
  refine YN (S := (SC.add (SC.add SC.nil K (rP2 (rV (rV Xa)) (rV (rP2 Xa Xa))) v_0 a_0) K (rV (rV Xa)) v_1 a_1)) (σ := [some v_0, some v_1, none, none, none, none, none, none, none]) 2 ?_ (SC.i (SC.i SC.t h_0) h_1) hm q rfl
  unfold GO
  exact (Xz (K := K) (r := (rV (rP5 Xa Xa Xa Xa Xa))) 2 (Ev.sh (Yn (Xb (r := (rP2 (rV (rV Xa)) (rV (rP2 Xa Xa)))) 0 rfl (fun _ s => (SC.r (SC.l s)))))) fun a1 v2 => (XN (K := K) (o := (oL (oL (oF Xa)))) 3 0 (Kq (Ze (Qx (o := (oF Xa))) fun _ => Uq)) (Nat.le_of_ble_eq_true rfl) fun a5 v6 C7 => (YC (K := K) (J := ({ oo := fun x14 => [x14.2.2.2.2.2.2, []], ss := fun x14 => [some v_0, some v_1, some v2, some x14.2.2.2.2.1, x14.1, x14.2.1, x14.2.2.1, x14.2.2.2.1, x14.2.2.2.2.2.1], sc := fun g15 x14 => (SC.addO (SC.add (SC.add (SC.add SC.nil K (rP2 (rV (rV Xa)) (rV (rP2 Xa Xa))) v_0 a_0) K (rV (rV Xa)) v_1 a_1) K (rV (rP5 Xa Xa Xa Xa Xa)) v2 a1) K (oL (oL (oF Xa))) x14.2.2.2.2.1 g15 x14.2.2.2.2.2.2) } : Jn ((List (List Int))) (Option V × Option V × Option V × Option V × V × Option V × List XL))) (fun _ => tg1 4) ((none), (none), (none), (none), v6, (none), C7) (a5) (XJ (Ev.toB (Yn (Xb (r := (rP2 (rV (rV Xa)) (rV (rP2 Xa Xa)))) 0 rfl (fun _ s => (SC.r (SC.l (SC.l (SC.l s))))))))) rfl rfl (fun _ s => (SC.i (SC.i (SC.i (SC.i SC.t (SC.r (SC.l (SC.l (SC.l s))))) (SC.r (SC.l (SC.l s)))) (SC.r (SC.l s))) (SC.r s))) (fun g16 x17 a18 v19 => (Xz (K := K) (r := (rV (rP5 Xa Xa Xa Xa Xa))) 5 (Ev.sh (V6 (fun _ => tg1 0) (XG (Xm (r := (rV (rP5 Xa Xa Xa Xa Xa))) 2 rfl (fun _ s => (SC.r (SC.l (SC.l s)))))) (fun C22 a23 v24 => (Xo (K := K) (YH (Cv (GM (Ew (Xb (r := (rP5 Xa Xa Xa Xa Xa)) 0 rfl (fun _ s => (SC.r s)))) (ZE (K := K) (Xe 2)) Qo)) (Xb (r := Xa) 1 rfl (fun _ s => (SC.r (SC.l s))))))) (fun C22 a23 v24 => (EvS.ev (Xm (r := (rP5 Xa Xa Xa Xa Xa)) 0 rfl (fun _ s => (SC.r s))))))) fun a20 v21 => (XN (K := K) (o := (oL (oL (oF Xa)))) 6 1 (Qx (o := (oL (oF Xa)))) (Nat.le_of_ble_eq_true rfl) fun a33 v34 C35 => (ET (K := K) (o := (oL (oL (oF Xa)))) 0 rfl (fun _ s => (SC.r (SC.l (SC.l (SC.l s))))) (YC (K := K) (J := ({ oo := fun x36 => [[], x36.2.2.2], ss := fun x36 => [some v_0, some v_1, some v2, some x17.2.2.2.2.1, some v19, some v21, some x36.2.2.1, x36.1, x36.2.1], sc := fun g37 x36 => (SC.addO (SC.add (SC.add (SC.add (SC.add (SC.add (SC.add SC.nil K (rP2 (rV (rV Xa)) (rV (rP2 Xa Xa))) v_0 a_0) K (rV (rV Xa)) v_1 a_1) K (rV (rP5 Xa Xa Xa Xa Xa)) v2 a1) K (rV (rV Xa)) x17.2.2.2.2.1 g16) K Xa v19 a18) K (rV (rP5 Xa Xa Xa Xa Xa)) v21 a20) K (oL (oL (oF Xa))) x36.2.2.1 g37 x36.2.2.2) } : Jn ((List (List Int))) (Option V × Option V × V × List XL))) (fun _ => tg1 7) ((x17.2.2.2.1), (x17.2.2.2.2.2.1), v34, C35) (a33) (XG (Xm (r := (rV (rV Xa))) 3 rfl (fun _ s => (SC.r s)))) rfl rfl (fun _ s => (SC.i (SC.i (SC.i (SC.i (SC.i (SC.i (SC.i SC.t (SC.r (SC.l (SC.l (SC.l (SC.l (SC.l (SC.l (SC.l s))))))))) (SC.r (SC.l (SC.l (SC.l (SC.l (SC.l (SC.l s)))))))) (SC.r (SC.l (SC.l (SC.l (SC.l (SC.l s))))))) (SC.r s)) (SC.r (SC.l (SC.l (SC.l s))))) (SC.r (SC.l (SC.l s)))) (SC.r (SC.l s)))) (fun g38 x39 a40 v41 => (YC (K := K) (J := ({ oo := fun x44 => [[], x44.2.2], ss := fun x44 => [some v_0, some v_1, some v2, some x17.2.2.2.2.1, some v19, some v21, some x44.2.1, some v41, x44.1], sc := fun g45 x44 => (SC.addO (SC.add (SC.add (SC.add (SC.add (SC.add (SC.add (SC.add SC.nil K (rP2 (rV (rV Xa)) (rV (rP2 Xa Xa))) v_0 a_0) K (rV (rV Xa)) v_1 a_1) K (rV (rP5 Xa Xa Xa Xa Xa)) v2 a1) K (rV (rV Xa)) x17.2.2.2.2.1 g16) K Xa v19 a18) K (rV (rP5 Xa Xa Xa Xa Xa)) v21 a20) K (rV Xa) v41 a40) K (oL (oL (oF Xa))) x44.2.1 g45 x44.2.2) } : Jn ((List (List Int))) (Option V × V × List XL))) (fun _ => tg1 8) ((x39.2.1), x39.2.2.1, x39.2.2.2) (g38) (XJ (XO (Xb (r := (rV (rV Xa))) 1 rfl (fun _ s => (SC.r (SC.l (SC.l (SC.l (SC.l (SC.l (SC.l s))))))))))) rfl rfl (fun _ s => (SC.i (SC.i (SC.i (SC.i (SC.i (SC.i (SC.i (SC.i SC.t (SC.r (SC.l (SC.l (SC.l (SC.l (SC.l (SC.l (SC.l s))))))))) (SC.r (SC.l (SC.l (SC.l (SC.l (SC.l (SC.l s)))))))) (SC.r (SC.l (SC.l (SC.l (SC.l (SC.l s))))))) (SC.r (SC.l (SC.l (SC.l (SC.l s)))))) (SC.r (SC.l (SC.l (SC.l s))))) (SC.r (SC.l (SC.l s)))) (SC.r s)) (SC.r (SC.l s)))) (fun g46 x47 a48 v49 => (Yr (J := ({ oo := fun x60 => [[], x60.2], ss := fun x60 => [some v_0, some v_1, some v2, some x17.2.2.2.2.1, some v19, some v21, some x60.1, some v41, some v49], sc := fun g61 x60 => (SC.addO (SC.add (SC.add (SC.add (SC.add (SC.add (SC.add (SC.add (SC.add SC.nil K (rP2 (rV (rV Xa)) (rV (rP2 Xa Xa))) v_0 a_0) K (rV (rV Xa)) v_1 a_1) K (rV (rP5 Xa Xa Xa Xa Xa)) v2 a1) K (rV (rV Xa)) x17.2.2.2.2.1 g16) K Xa v19 a18) K (rV (rP5 Xa Xa Xa Xa Xa)) v21 a20) K (rV Xa) v41 a40) K Xa v49 a48) K (oL (oL (oF Xa))) x60.1 g61 x60.2) } : Jn ((List (List Int))) (V × List XL))) (Y0 (Fd := FNd ({ oo := fun x60 => [[], x60.2], ss := fun x60 => [some v_0, some v_1, some v2, some x17.2.2.2.2.1, some v19, some v21, some x60.1, some v41, some v49], sc := fun g61 x60 => (SC.addO (SC.add (SC.add (SC.add (SC.add (SC.add (SC.add (SC.add (SC.add SC.nil K (rP2 (rV (rV Xa)) (rV (rP2 Xa Xa))) v_0 a_0) K (rV (rV Xa)) v_1 a_1) K (rV (rP5 Xa Xa Xa Xa Xa)) v2 a1) K (rV (rV Xa)) x17.2.2.2.2.1 g16) K Xa v19 a18) K (rV (rP5 Xa Xa Xa Xa Xa)) v21 a20) K (rV Xa) v41 a40) K Xa v49 a48) K (oL (oL (oF Xa))) x60.1 g61 x60.2) } : Jn ((List (List Int))) (V × List XL))) (GC (K := K) (Ev.toB (Yw (Xb (r := (rV (rP5 Xa Xa Xa Xa Xa))) 5 rfl (fun _ s => (SC.r (SC.l (SC.l (SC.l s)))))) (Xb (r := (rV (rV Xa))) 1 rfl (fun _ s => (SC.r (SC.l (SC.l (SC.l (SC.l (SC.l (SC.l (SC.l s)))))))))) (Ev.toB (VV (EvS.ls (Xm (r := (rV Xa)) 7 rfl (fun _ s => (SC.r (SC.l (SC.l s)))))) (Ev.ls (YG (Xn (Xm (r := Xa) 8 rfl (fun _ s => (SC.r s))) X9)))))))) (ZB (K := K) (o := (oL (oF Xa))) (f := fun a69 => (Res.ok (a69))) 6 1 rfl rfl rfl (fun _ s => (SC.r (SC.l s))) (VV (EvS.ls (Xm (r := (rV Xa)) 7 rfl (fun _ s => (SC.r (SC.l (SC.l s)))))) (Ev.ls (YG (Xn (Xm (r := Xa) 8 rfl (fun _ s => (SC.r s))) X9)))) fun a67 C68 => (Xv (J := _) (x47.2.1, C68) ((g46 ++ [a67])) rfl rfl (fun _ s => (SC.i (SC.i (SC.i (SC.i (SC.i (SC.i (SC.i (SC.i (SC.i SC.t (SC.r (SC.l (SC.l (SC.l (SC.l (SC.l (SC.l (SC.l (SC.l (SC.l s))))))))))) (SC.r (SC.l (SC.l (SC.l (SC.l (SC.l (SC.l (SC.l (SC.l s)))))))))) (SC.r (SC.l (SC.l (SC.l (SC.l (SC.l (SC.l (SC.l s))))))))) (SC.r (SC.l (SC.l (SC.l (SC.l (SC.l (SC.l s)))))))) (SC.r (SC.l (SC.l (SC.l (SC.l (SC.l s))))))) (SC.r (SC.l (SC.l (SC.l (SC.l s)))))) (SC.r (SC.l (SC.l (SC.l s))))) (SC.r (SC.l s))) (SC.r s))))) (Xv (J := _) (x47.2.1, x47.2.2) (g46) rfl rfl (fun _ s => (SC.i (SC.i (SC.i (SC.i (SC.i (SC.i (SC.i (SC.i (SC.i SC.t (SC.r (SC.l (SC.l (SC.l (SC.l (SC.l (SC.l (SC.l (SC.l s)))))))))) (SC.r (SC.l (SC.l (SC.l (SC.l (SC.l (SC.l (SC.l s))))))))) (SC.r (SC.l (SC.l (SC.l (SC.l (SC.l (SC.l s)))))))) (SC.r (SC.l (SC.l (SC.l (SC.l (SC.l s))))))) (SC.r (SC.l (SC.l (SC.l (SC.l s)))))) (SC.r (SC.l (SC.l (SC.l s))))) (SC.r (SC.l (SC.l s)))) (SC.r s)) (SC.r (SC.l s)))))) fun g71 x70 => (Xv (J := _) ((some v49), x70.1, x70.2) (g71) rfl rfl (fun _ s => (SC.i (SC.i (SC.i (SC.i (SC.i (SC.i (SC.i (SC.i SC.t (SC.r (SC.l (SC.l (SC.l (SC.l (SC.l (SC.l (SC.l (SC.l s)))))))))) (SC.r (SC.l (SC.l (SC.l (SC.l (SC.l (SC.l (SC.l s))))))))) (SC.r (SC.l (SC.l (SC.l (SC.l (SC.l (SC.l s)))))))) (SC.r (SC.l (SC.l (SC.l (SC.l (SC.l s))))))) (SC.r (SC.l (SC.l (SC.l (SC.l s)))))) (SC.r (SC.l (SC.l (SC.l s))))) (SC.r (SC.l (SC.l s)))) (SC.r s)))))) fun g72 x73 => (Xv (J := _) ((some v41), (x73.1), x73.2.1, x73.2.2) (g72) rfl rfl (fun _ s => (SC.i (SC.i (SC.i (SC.i (SC.i (SC.i (SC.i SC.t (SC.r (SC.l (SC.l (SC.l (SC.l (SC.l (SC.l (SC.l s))))))))) (SC.r (SC.l (SC.l (SC.l (SC.l (SC.l (SC.l s)))))))) (SC.r (SC.l (SC.l (SC.l (SC.l (SC.l s))))))) (SC.r (SC.l (SC.l (SC.l (SC.l s)))))) (SC.r (SC.l (SC.l (SC.l s))))) (SC.r (SC.l (SC.l s)))) (SC.r s)))))) fun g75 x76 => (XN (K := K) (o := (oL (oL (oF Xa)))) 3 0 (Yp (o := (oL (oL (oF Xa)))) 6 1 rfl rfl (fun _ s => (SC.r s))) (Nat.le_of_ble_eq_true rfl) fun a77 v78 C79 => (Xv (J := _) ((some v19), (some v21), (some x76.2.2.1), (x76.1), v78, (x76.2.1), C79) (a77) rfl rfl (fun _ s => (SC.i (SC.i (SC.i (SC.i SC.t (SC.r (SC.l (SC.l (SC.l (SC.l (SC.l (SC.l (SC.l s))))))))) (SC.r (SC.l (SC.l (SC.l (SC.l (SC.l (SC.l s)))))))) (SC.r (SC.l (SC.l (SC.l (SC.l (SC.l s))))))) (SC.r s)))))))))) fun g81 x82 => (XE (Yp (o := (oL (oL (oF Xa)))) 3 0 rfl rfl (fun _ s => (SC.r s)))))))
theorem JL : FnScope ["_law_size", "_law_count_here", "_law_total", "_law_k"] ["_law_size", "_law_count_here"] (Xi Qa) := ⟨rfl, rfl, rfl, by decide +kernel, rfl, by decide +kernel, by decide +kernel⟩
set_option maxHeartbeats 4000000 in
theorem CG (D : Def K mg "_law_power" Qa ["_law_size", "_law_count_here"])  (Z : Blt mg) : Fn P w K mg base 1 "_law_power" ["_law_size", "_law_count_here"] (sp2 Xa Xa (oF Xa) Jb K) := by
  refine YT D JL (fun vs H Q E h => ?_) (fun f cdv A outer s H vs Q E hr h => ?_)
  · obtain ⟨v_0, v_1, a_0, a_1, b, rfl, _⟩ := h; rfl
  obtain ⟨v_0, v_1, a_0, a_1, b, rfl, h_0, h_1, hm, q⟩ := h
  have hu := hu8 hr
  have hu1 := YK hr
  refine ⟨_, (Xc (Xp (i := 2) JL.nd rfl (Or.inl rfl) Xf)
    (Xc (Yf PassesOwn.never rfl (X1 rfl Z.b_range (Xd (pv 1) Xg)) (Xr (i := 3) JL.nd rfl (Or.inl rfl))
      (Xc (Xp (i := 2) JL.nd rfl (Or.inl rfl) (Xq YM (pv 2) (pv 0)))
      Xh))
    (Xc (XF (pv 2))
    Xh))), ?_⟩
  refine YN (S := (SC.add (SC.add SC.nil K Xa v_0 a_0) K Xa v_1 a_1)) (σ := [some v_0, some v_1, none, none]) 0 ?_ (SC.i (SC.i SC.t h_0) h_1) hm q rfl
  unfold Jb
  exact (Xz (K := K) (r := Xa) 2 (EvB.sh (Xe 1)) fun a1 v2 => (YC (K := K) (J := ({ oo := fun x4 => [], ss := fun x4 => [some v_0, some v_1, some x4.2, x4.1], sc := fun g5 x4 => (SC.add (SC.add (SC.add SC.nil K Xa v_0 a_0) K Xa v_1 a_1) K Xa x4.2 g5) } : Jn (Int) (Option V × V))) (fun _ => tg1 3) ((none), v2) (a1) (XJ (Xb (r := Xa) 1 rfl (fun _ s => (SC.r (SC.l s))))) rfl rfl (fun _ s => (SC.i (SC.i (SC.i SC.t (SC.r (SC.l (SC.l s)))) (SC.r (SC.l s))) (SC.r s))) (fun g6 x7 a8 v9 => (Xz (K := K) (r := Xa) 2 (EvB.sh (Yd (Xb (r := Xa) 2 rfl (fun _ s => (SC.r (SC.l s)))) (Xb (r := Xa) 0 rfl (fun _ s => (SC.r (SC.l (SC.l (SC.l s)))))))) fun a10 v11 => (Xv (J := _) ((some v9), v11) (a10) rfl rfl (fun _ s => (SC.i (SC.i (SC.i SC.t (SC.r (SC.l (SC.l (SC.l (SC.l s)))))) (SC.r (SC.l (SC.l (SC.l s))))) (SC.r s)))))) fun g14 x15 => (XE (EvS.ev (Xm (r := Xa) 2 rfl (fun _ s => (SC.r s)))))))
theorem Gg : FnScope ["_law_drawing", "_law_table", "_law_pick", "_law_found"] ["_law_drawing", "_law_table", "_law_pick"] (Xi Qc) := ⟨rfl, rfl, rfl, by decide +kernel, rfl, by decide +kernel, by decide +kernel⟩
set_option maxHeartbeats 4000000 in
theorem CC (D : Def K mg "_law_tried" Qc ["_law_drawing", "_law_table", "_law_pick"]) (g_all : Fn P w K mg base 3 "_law_all" ["_law_drawing", "_law_table"] (sp2 (rP2 (rV (rV Xa)) (rV (rP2 Xa Xa))) (rV (rV Xa)) (oL (oL (oF Xa))) GO K)) (g_power : Fn P w K mg base 1 "_law_power" ["_law_size", "_law_count_here"] (sp2 Xa Xa (oF Xa) Jb K)) (g_count : Fn P w K mg base 1 "_law_count" ["_law_drawing"] (sp1 (rP2 (rV (rV Xa)) (rV (rP2 Xa Xa))) (oF Xa) Y8 K)) (Z : Blt mg) : Fn P w K mg base 4 "_law_tried" ["_law_drawing", "_law_table", "_law_pick"] (sp3 (rP2 (rV (rV Xa)) (rV (rP2 Xa Xa))) (rV (rV Xa)) Xa (oL (oF Xa)) Jg K) := by
  refine YT D Gg (fun vs H Q E h => ?_) (fun f cdv A outer s H vs Q E hr h => ?_)
  · obtain ⟨v_0, v_1, v_2, a_0, a_1, a_2, b, rfl, _⟩ := h; rfl
  obtain ⟨v_0, v_1, v_2, a_0, a_1, a_2, b, rfl, h_0, h_1, h_2, hm, q⟩ := h
  have hu := hu8 hr
  have hu1 := YK hr
  refine ⟨_, (Xc (YD (Xt UW (Ya g_power hr (by decide) (Xd (Xu (Xk K rfl) rfl Z.b_len PySem.boot_len (Xd (pv 1) Xg)) (Xd (Ya g_count hr (by decide) (Xd (pv 0) Xg)) Xg))) Xf (XA _))
      (Xc (XF (Xq Jv (XV (Xd (Xq X3 (pv 2) (Xu (Xk K rfl) rfl Z.b_len PySem.boot_len (Xd (pv 1) Xg))) Xg)) (Ya g_count hr (by decide) (Xd (pv 0) Xg))))
      Xh)
      Xh)
    (Xc (Xp (i := 3) Gg.nd rfl (Or.inl rfl) (Ya g_all hr (by decide) (Xd (pv 0) (Xd (pv 1) Xg))))
    (Xc (XF (Xx (Xj K rfl) (pv 3) (Xq X3 (pv 2) (Xu (Xk K rfl) rfl Z.b_len PySem.boot_len (Xd (pv 3) Xg))) (fun _ _ => rfl)))
    Xh))), ?_⟩
  refine YN (S := (SC.add (SC.add (SC.add SC.nil K (rP2 (rV (rV Xa)) (rV (rP2 Xa Xa))) v_0 a_0) K (rV (rV Xa)) v_1 a_1) K Xa v_2 a_2)) (σ := [some v_0, some v_1, some v_2, none]) 1 ?_ (SC.i (SC.i (SC.i SC.t h_0) h_1) h_2) hm q rfl
  unfold Jg
  exact (Z5 (Xo (K := K) (Jz (Ev.toB (Ym (XO (Xb (r := (rV (rV Xa))) 1 rfl (fun _ s => (SC.r (SC.l s))))) (Ev.toB (Yn (Xb (r := (rP2 (rV (rV Xa)) (rV (rP2 Xa Xa)))) 0 rfl (fun _ s => (SC.r (SC.l (SC.l s))))))))) (Xe 5000))) (XE (Jr (Ev.ls (YG (Xn (EvB.sh (XM (Xb (r := Xa) 2 rfl (fun _ s => (SC.r s))) (XO (Xb (r := (rV (rV Xa))) 1 rfl (fun _ s => (SC.r (SC.l s))))))) X9))) (Ev.toB (Yn (Xb (r := (rP2 (rV (rV Xa)) (rV (rP2 Xa Xa)))) 0 rfl (fun _ s => (SC.r (SC.l (SC.l s))))))))) (XN (K := K) (o := (oL (oL (oF Xa)))) 3 0 (Ym (Xb (r := (rP2 (rV (rV Xa)) (rV (rP2 Xa Xa)))) 0 rfl (fun _ s => (SC.r (SC.l (SC.l s))))) (Xb (r := (rV (rV Xa))) 1 rfl (fun _ s => (SC.r (SC.l s))))) (Nat.le_of_ble_eq_true rfl) fun a20 v21 C22 => (XE (Ho (o := (oL (oF Xa))) 3 0 rfl rfl (fun _ s => (SC.r s)) (XM (Xb (r := Xa) 2 rfl (fun _ s => (SC.r (SC.l s)))) (XO (Zj (o := (oL (oL (oF Xa)))) 3 0 rfl rfl (fun _ s => (SC.r s)))))))))
theorem Yq : FnScope ["_law_drawing", "_law_table", "_law_some", "_law_count_here", "_law_colours", "_law_at", "_law_strange"] ["_law_drawing", "_law_table", "_law_some"] (Xi Y1) := ⟨rfl, rfl, rfl, by decide +kernel, rfl, by decide +kernel, by decide +kernel⟩
set_option maxHeartbeats 4000000 in
theorem GG (D : Def K mg "_law_numbers" Y1 ["_law_drawing", "_law_table", "_law_some"]) (g_count : Fn P w K mg base 1 "_law_count" ["_law_drawing"] (sp1 (rP2 (rV (rV Xa)) (rV (rP2 Xa Xa))) (oF Xa) Y8 K)) (g_tried : Fn P w K mg base 4 "_law_tried" ["_law_drawing", "_law_table", "_law_pick"] (sp3 (rP2 (rV (rV Xa)) (rV (rP2 Xa Xa))) (rV (rV Xa)) Xa (oL (oF Xa)) Jg K)) (Z : Blt mg) : Fn P w K mg base 5 "_law_numbers" ["_law_drawing", "_law_table", "_law_some"] (sp3 (rP2 (rV (rV Xa)) (rV (rP2 Xa Xa))) (rV (rV Xa)) (rV Xa) (oL (oF Xa)) ZV K) := by
  refine YT D Yq (fun vs H Q E h => ?_) (fun f cdv A outer s H vs Q E hr h => ?_)
  · obtain ⟨v_0, v_1, v_2, a_0, a_1, a_2, b, rfl, _⟩ := h; rfl
  obtain ⟨v_0, v_1, v_2, a_0, a_1, a_2, b, rfl, h_0, h_1, h_2, hm, q⟩ := h
  have hu := hu8 hr
  have hu1 := YK hr
  refine ⟨_, (Xc (Xp (i := 3) Yq.nd rfl (Or.inl rfl) (Ya g_count hr (by decide) (Xd (pv 0) Xg)))
    (Xc (Xp (i := 4) Yq.nd rfl (Or.inl rfl) (Ya g_tried hr (by decide) (Xd (pv 0) (Xd (pv 1) (Xd (Xx (Xj K rfl) (pv 2) Xf (fun _ _ => rfl)) Xg)))))
    (Xc (YD (Xt Zp (Xx (Xj K rfl) (pv 2) Xf (fun _ _ => rfl)) Xf (XA _))
      (Xc (Xp (i := 4) Yq.nd rfl (Or.inl rfl) (Xq Jv (XV (Xd (Xq X3 (Xx (Xj K rfl) (pv 2) Xf (fun _ _ => rfl)) (Xu (Xk K rfl) rfl Z.b_len PySem.boot_len (Xd (pv 1) Xg))) Xg)) (pv 3)))
      Xh)
      Xh)
    (Xc (YD (Xt Zp (Xx (Xj K rfl) (pv 2) Xf (fun _ _ => rfl)) Xf (XA _))
      (Xc (Q7 4 (Xi Y1) ["_law_drawing", "_law_table", "_law_some", "_law_count_here", "_law_colours", "_law_at", "_law_strange"] ["_law_one"] [(1, "_law_table")] rfl Yq.nd rfl rfl (XW (K := K) rfl (ZY (Qs K rfl) (pv 2) (Qg Xf) (Qg (Xq X0 Xf (pv 3))))) (Zm (by decide)) (fun cl C s H ex E => ⟨Xr (i := 0) (show List.Nodup (["_law_one", "_law_table"] : List Str) by decide +kernel) rfl (Or.inl rfl), ZD, (Xq X3 (pv 0) (Xu (Xk K rfl) rfl Z.b_len PySem.boot_len (Xd (pv 1) Xg)))⟩))
      Xh)
      Xh)
    (Xc (YD (PW.pt (ZM (Xt Zp (Xx (Xj K rfl) (pv 2) Xf (fun _ _ => rfl)) Xf (XA _)) (ZZ (Xt UW (pv 3) Xf (XA _)))))
      (Xc (Xp (i := 5) Yq.nd rfl (Or.inl rfl) (Xq X3 (Xx (Xj K rfl) (pv 2) Xf (fun _ _ => rfl)) (pv 3)))
      (Xc (Xp (i := 6) Yq.nd rfl (Or.inl rfl) (XV (Xd (Vi Qd Xf) (Xd (Xu (Xk K rfl) rfl Z.b_len PySem.boot_len (Xd (pv 1) Xg)) (Xd (Xq X0 (Xu (Xk K rfl) rfl Z.b_len PySem.boot_len (Xd (pv 1) Xg)) (Xx (Xj K rfl) (pv 2) Xf (fun _ _ => rfl))) (Xd (Vi Qd (Xu (Xk K rfl) rfl Z.b_len PySem.boot_len (Xd (pv 1) Xg))) (Xd (Xq X3 (Xx (Xj K rfl) (pv 2) Xf (fun _ _ => rfl)) (Xu (Xk K rfl) rfl Z.b_len PySem.boot_len (Xd (pv 1) Xg))) Xg)))))))
      (Xc (Jx (Xx (Xj K rfl) (pv 6) (Xx (Xj K rfl) (pv 2) Xf (fun _ _ => rfl)) (fun _ _ => rfl)) (Kn (pv 4) (pv 5) Q4))
      Xh)))
      Xh)
    (Xc (YD (PW.pt (ZM (Xt Zp (Xx (Xj K rfl) (pv 2) Xf (fun _ _ => rfl)) Xf (XA _)) (ZZ (Xt UW (pv 3) Xf (XA _)))))
      (Xc (Xp (i := 5) Yq.nd rfl (Or.inl rfl) (Xq X3 (Xx (Xj K rfl) (pv 2) Xf (fun _ _ => rfl)) (pv 3)))
      (Xc (Jx (Xq X3 (Xx (Xj K rfl) (pv 2) Xf (fun _ _ => rfl)) (Xu (Xk K rfl) rfl Z.b_len PySem.boot_len (Xd (pv 1) Xg))) (Kn (pv 4) (pv 5) Q4))
      Xh))
      Xh)
    (Xc (YD (Xt Zp (Xx (Xj K rfl) (pv 2) Xf (fun _ _ => rfl)) Xf (XA _))
      (Xc (Xp (i := 4) Yq.nd rfl (Or.inl rfl) (Xq VS (pv 4) (XV (Xd (Xq X3 (Xx (Xj K rfl) (pv 2) Xf (fun _ _ => rfl)) (Xu (Xk K rfl) rfl Z.b_len PySem.boot_len (Xd (pv 1) Xg))) Xg))))
      Xh)
      Xh)
    (Xc (YD (Xt Zp (Xx (Xj K rfl) (pv 2) Xf (fun _ _ => rfl)) Xf (XA _))
      (Xc (Xp (i := 4) Yq.nd rfl (Or.inl rfl) (ZY (Qs K rfl) (pv 4) (Qg Xf) Jp))
      Xh)
      Xh)
    (Xc (YD (Xt Zp (Xx (Xj K rfl) (pv 2) Xf (fun _ _ => rfl)) Xf (XA _))
      (Xc (Xp (i := 4) Yq.nd rfl (Or.inl rfl) (ZY (Qs K rfl) (Xq Jv (pv 4) Xf) Jp (Qg Xf)))
      Xh)
      Xh)
    (Xc (XF (pv 4))
    Xh)))))))))), ?_⟩
  refine YN (S := (SC.add (SC.add (SC.add SC.nil K (rP2 (rV (rV Xa)) (rV (rP2 Xa Xa))) v_0 a_0) K (rV (rV Xa)) v_1 a_1) K (rV Xa) v_2 a_2)) (σ := [some v_0, some v_1, some v_2, none, none, none, none]) 1 ?_ (SC.i (SC.i (SC.i SC.t h_0) h_1) h_2) hm q rfl
  unfold ZV
  exact (Xz (K := K) (r := Xa) 3 (EvB.sh (Ev.toB (Yn (Xb (r := (rP2 (rV (rV Xa)) (rV (rP2 Xa Xa)))) 0 rfl (fun _ s => (SC.r (SC.l (SC.l s)))))))) fun a1 v2 => (XN (K := K) (o := (oL (oF Xa))) 4 0 (Yw (Xb (r := (rP2 (rV (rV Xa)) (rV (rP2 Xa Xa)))) 0 rfl (fun _ s => (SC.r (SC.l (SC.l (SC.l s)))))) (Xb (r := (rV (rV Xa))) 1 rfl (fun _ s => (SC.r (SC.l (SC.l s))))) (Xs (Xb (r := (rV Xa)) 2 rfl (fun _ s => (SC.r (SC.l s)))) (Xe 1))) (Nat.le_of_ble_eq_true rfl) fun a5 v6 C7 => (Yr (J := ({ oo := fun x19 => [x19.2], ss := fun x19 => [some v_0, some v_1, some v_2, some v2, some x19.1, none, none], sc := fun g20 x19 => (SC.addO (SC.add (SC.add (SC.add (SC.add SC.nil K (rP2 (rV (rV Xa)) (rV (rP2 Xa Xa))) v_0 a_0) K (rV (rV Xa)) v_1 a_1) K (rV Xa) v_2 a_2) K Xa v2 a1) K (oL (oF Xa)) x19.1 g20 x19.2) } : Jn ((List Int)) (V × List XL))) (Y0 (Fd := FNd ({ oo := fun x19 => [x19.2], ss := fun x19 => [some v_0, some v_1, some v_2, some v2, some x19.1, none, none], sc := fun g20 x19 => (SC.addO (SC.add (SC.add (SC.add (SC.add SC.nil K (rP2 (rV (rV Xa)) (rV (rP2 Xa Xa))) v_0 a_0) K (rV (rV Xa)) v_1 a_1) K (rV Xa) v_2 a_2) K Xa v2 a1) K (oL (oF Xa)) x19.1 g20 x19.2) } : Jn ((List Int)) (V × List XL))) (Xo (K := K) (YH (Xs (Xb (r := (rV Xa)) 2 rfl (fun _ s => (SC.r (SC.l (SC.l s))))) (Xe 0)) (Xe 0))) (XN (K := K) (o := (oL (oF Xa))) 4 0 (Jr (Ev.ls (YG (Xn (EvB.sh (XM (Xs (Xb (r := (rV Xa)) 2 rfl (fun _ s => (SC.r (SC.l (SC.l s))))) (Xe 1)) (XO (Xb (r := (rV (rV Xa))) 1 rfl (fun _ s => (SC.r (SC.l (SC.l (SC.l s))))))))) X9))) (Xb (r := Xa) 3 rfl (fun _ s => (SC.r (SC.l s))))) (Nat.le_of_ble_eq_true rfl) fun a21 v22 C23 => (Xv (J := _) (v22, C23) (a21) rfl rfl (fun _ s => (SC.i (SC.i (SC.i (SC.i (SC.i SC.t (SC.r (SC.l (SC.l (SC.l (SC.l (SC.l s))))))) (SC.r (SC.l (SC.l (SC.l (SC.l s)))))) (SC.r (SC.l (SC.l (SC.l s))))) (SC.r (SC.l (SC.l s)))) (SC.r s))))) (Xv (J := _) (v6, C7) (a5) rfl rfl (fun _ s => (SC.i (SC.i (SC.i (SC.i (SC.i SC.t (SC.r (SC.l (SC.l (SC.l (SC.l s)))))) (SC.r (SC.l (SC.l (SC.l s))))) (SC.r (SC.l (SC.l s)))) (SC.r (SC.l s))) (SC.r s))))) fun g35 x34 => (Yr (J := ({ oo := fun x41 => [x41.2], ss := fun x41 => [some v_0, some v_1, some v_2, some v2, some x41.1, none, none], sc := fun g42 x41 => (SC.addO (SC.add (SC.add (SC.add (SC.add SC.nil K (rP2 (rV (rV Xa)) (rV (rP2 Xa Xa))) v_0 a_0) K (rV (rV Xa)) v_1 a_1) K (rV Xa) v_2 a_2) K Xa v2 a1) K (oL (oF Xa)) x41.1 g42 x41.2) } : Jn ((List Int)) (V × List XL))) (Y0 (Fd := FNd ({ oo := fun x41 => [x41.2], ss := fun x41 => [some v_0, some v_1, some v_2, some v2, some x41.1, none, none], sc := fun g42 x41 => (SC.addO (SC.add (SC.add (SC.add (SC.add SC.nil K (rP2 (rV (rV Xa)) (rV (rP2 Xa Xa))) v_0 a_0) K (rV (rV Xa)) v_1 a_1) K (rV Xa) v_2 a_2) K Xa v2 a1) K (oL (oF Xa)) x41.1 g42 x41.2) } : Jn ((List Int)) (V × List XL))) (Xo (K := K) (YH (Xs (Xb (r := (rV Xa)) 2 rfl (fun _ s => (SC.r (SC.l (SC.l s))))) (Xe 0)) (Xe 1))) (XN (K := K) (o := (oL (oF Xa))) 4 0 (Zx (fun _ => tg1 0) (XG (Ev.sh (QW (EvS.ls (Xm (r := (rV Xa)) 2 rfl (fun _ s => (SC.r (SC.l (SC.l s)))))) (ZE (K := K) (Xe 6)) (ZE (K := K) (XI (Xe 6) (Xb (r := Xa) 3 rfl (fun _ s => (SC.r (SC.l s))))))))) (fun C53 a54 v55 => (EvS.ev (EvB.sh (XM (Xb (r := Xa) 0 rfl (fun _ s => (SC.r s))) (XO (Xb (r := (rV (rV Xa))) 1 rfl (fun _ s => (SC.r (SC.l (SC.l (SC.l (SC.l s))))))))))))) (Nat.le_of_ble_eq_true rfl) fun a43 v44 C45 => (Xv (J := _) (v44, C45) (a43) rfl rfl (fun _ s => (SC.i (SC.i (SC.i (SC.i (SC.i SC.t (SC.r (SC.l (SC.l (SC.l (SC.l (SC.l s))))))) (SC.r (SC.l (SC.l (SC.l (SC.l s)))))) (SC.r (SC.l (SC.l (SC.l s))))) (SC.r (SC.l (SC.l s)))) (SC.r s))))) (Xv (J := _) (x34.1, x34.2) (g35) rfl rfl (fun _ s => (SC.i (SC.i (SC.i (SC.i (SC.i SC.t (SC.r (SC.l (SC.l (SC.l (SC.l s)))))) (SC.r (SC.l (SC.l (SC.l s))))) (SC.r (SC.l (SC.l s)))) (SC.r (SC.l s))) (SC.r s))))) fun g61 x60 => (Yr (J := ({ oo := fun x69 => [x69.2.2.2], ss := fun x69 => [some v_0, some v_1, some v_2, some v2, some x69.2.2.1, x69.1, x69.2.1], sc := fun g70 x69 => (SC.addO (SC.add (SC.add (SC.add (SC.add SC.nil K (rP2 (rV (rV Xa)) (rV (rP2 Xa Xa))) v_0 a_0) K (rV (rV Xa)) v_1 a_1) K (rV Xa) v_2 a_2) K Xa v2 a1) K (oL (oF Xa)) x69.2.2.1 g70 x69.2.2.2) } : Jn ((List Int)) (Option V × Option V × V × List XL))) (Y0 (Fd := FNd ({ oo := fun x69 => [x69.2.2.2], ss := fun x69 => [some v_0, some v_1, some v_2, some v2, some x69.2.2.1, x69.1, x69.2.1], sc := fun g70 x69 => (SC.addO (SC.add (SC.add (SC.add (SC.add SC.nil K (rP2 (rV (rV Xa)) (rV (rP2 Xa Xa))) v_0 a_0) K (rV (rV Xa)) v_1 a_1) K (rV Xa) v_2 a_2) K Xa v2 a1) K (oL (oF Xa)) x69.2.2.1 g70 x69.2.2.2) } : Jn ((List Int)) (Option V × Option V × V × List XL))) (Y2 (Xo (K := K) (YH (Xs (Xb (r := (rV Xa)) 2 rfl (fun _ s => (SC.r (SC.l (SC.l s))))) (Xe 2)) (Xe 0))) (Xo (K := K) (Jz (Xb (r := Xa) 3 rfl (fun _ s => (SC.r (SC.l s)))) (Xe 0)))) (Xz (K := K) (r := Xa) 5 (EvB.sh (XM (Xs (Xb (r := (rV Xa)) 2 rfl (fun _ s => (SC.r (SC.l (SC.l s))))) (Xe 3)) (Xb (r := Xa) 3 rfl (fun _ s => (SC.r (SC.l s)))))) fun a71 v72 => (Xz (K := K) (r := (rV Xa)) 6 (Ev.sh (YG (Xn (EvB.sh (ZC (Xe 1))) (Xn (EvB.sh (XO (Xb (r := (rV (rV Xa))) 1 rfl (fun _ s => (SC.r (SC.l (SC.l (SC.l (SC.l s))))))))) (Xn (EvB.sh (XI (XO (Xb (r := (rV (rV Xa))) 1 rfl (fun _ s => (SC.r (SC.l (SC.l (SC.l (SC.l s)))))))) (Xs (Xb (r := (rV Xa)) 2 rfl (fun _ s => (SC.r (SC.l (SC.l (SC.l s)))))) (Xe 5)))) (Xn (EvB.sh (ZC (XO (Xb (r := (rV (rV Xa))) 1 rfl (fun _ s => (SC.r (SC.l (SC.l (SC.l (SC.l s)))))))))) (Xn (EvB.sh (XM (Xs (Xb (r := (rV Xa)) 2 rfl (fun _ s => (SC.r (SC.l (SC.l (SC.l s)))))) (Xe 5)) (XO (Xb (r := (rV (rV Xa))) 1 rfl (fun _ s => (SC.r (SC.l (SC.l (SC.l (SC.l s)))))))))) X9))))))) fun a77 v78 => (JS (K := K) (o := (oF Xa)) 4 0 rfl rfl (fun _ s => (SC.r (SC.l (SC.l s)))) (EvS.ev (EvB.sh (Xs (Xb (r := (rV Xa)) 6 rfl (fun _ s => (SC.r s))) (Xs (Xb (r := (rV Xa)) 2 rfl (fun _ s => (SC.r (SC.l (SC.l (SC.l (SC.l s))))))) (Xe 4))))) (fun _ => (Xb (r := Xa) 5 rfl (fun _ s => (SC.r (SC.l s))))) fun a110 C111 => (Xv (J := _) ((some v72), (some v78), x60.1, C111) (a110) rfl rfl (fun _ s => (SC.i (SC.i (SC.i (SC.i (SC.i SC.t (SC.r (SC.l (SC.l (SC.l (SC.l (SC.l (SC.l (SC.l s))))))))) (SC.r (SC.l (SC.l (SC.l (SC.l (SC.l (SC.l s)))))))) (SC.r (SC.l (SC.l (SC.l (SC.l (SC.l s))))))) (SC.r (SC.l (SC.l (SC.l (SC.l s)))))) (SC.r s))))))) (Xv (J := _) ((none), (none), x60.1, x60.2) (g61) rfl rfl (fun _ s => (SC.i (SC.i (SC.i (SC.i (SC.i SC.t (SC.r (SC.l (SC.l (SC.l (SC.l s)))))) (SC.r (SC.l (SC.l (SC.l s))))) (SC.r (SC.l (SC.l s)))) (SC.r (SC.l s))) (SC.r s))))) fun g113 x112 => (Yr (J := ({ oo := fun x121 => [x121.2.2], ss := fun x121 => [some v_0, some v_1, some v_2, some v2, some x121.2.1, x121.1, x112.2.1], sc := fun g122 x121 => (SC.addO (SC.add (SC.add (SC.add (SC.add SC.nil K (rP2 (rV (rV Xa)) (rV (rP2 Xa Xa))) v_0 a_0) K (rV (rV Xa)) v_1 a_1) K (rV Xa) v_2 a_2) K Xa v2 a1) K (oL (oF Xa)) x121.2.1 g122 x121.2.2) } : Jn ((List Int)) (Option V × V × List XL))) (Y0 (Fd := FNd ({ oo := fun x121 => [x121.2.2], ss := fun x121 => [some v_0, some v_1, some v_2, some v2, some x121.2.1, x121.1, x112.2.1], sc := fun g122 x121 => (SC.addO (SC.add (SC.add (SC.add (SC.add SC.nil K (rP2 (rV (rV Xa)) (rV (rP2 Xa Xa))) v_0 a_0) K (rV (rV Xa)) v_1 a_1) K (rV Xa) v_2 a_2) K Xa v2 a1) K (oL (oF Xa)) x121.2.1 g122 x121.2.2) } : Jn ((List Int)) (Option V × V × List XL))) (Y2 (Xo (K := K) (YH (Xs (Xb (r := (rV Xa)) 2 rfl (fun _ s => (SC.r (SC.l (SC.l s))))) (Xe 2)) (Xe 1))) (Xo (K := K) (Jz (Xb (r := Xa) 3 rfl (fun _ s => (SC.r (SC.l s)))) (Xe 0)))) (Xz (K := K) (r := Xa) 5 (EvB.sh (XM (Xs (Xb (r := (rV Xa)) 2 rfl (fun _ s => (SC.r (SC.l (SC.l s))))) (Xe 3)) (Xb (r := Xa) 3 rfl (fun _ s => (SC.r (SC.l s)))))) fun a123 v124 => (JS (K := K) (o := (oF Xa)) 4 0 rfl rfl (fun _ s => (SC.r (SC.l s))) (EvS.ev (EvB.sh (XM (Xs (Xb (r := (rV Xa)) 2 rfl (fun _ s => (SC.r (SC.l (SC.l (SC.l s)))))) (Xe 5)) (XO (Xb (r := (rV (rV Xa))) 1 rfl (fun _ s => (SC.r (SC.l (SC.l (SC.l (SC.l s))))))))))) (fun _ => (Xb (r := Xa) 5 rfl (fun _ s => (SC.r s)))) fun a136 C137 => (Xv (J := _) ((some v124), x112.2.2.1, C137) (a136) rfl rfl (fun _ s => (SC.i (SC.i (SC.i (SC.i (SC.i SC.t (SC.r (SC.l (SC.l (SC.l (SC.l (SC.l (SC.l s)))))))) (SC.r (SC.l (SC.l (SC.l (SC.l (SC.l s))))))) (SC.r (SC.l (SC.l (SC.l (SC.l s)))))) (SC.r (SC.l (SC.l (SC.l s))))) (SC.r s)))))) (Xv (J := _) ((x112.1), x112.2.2.1, x112.2.2.2) (g113) rfl rfl (fun _ s => (SC.i (SC.i (SC.i (SC.i (SC.i SC.t (SC.r (SC.l (SC.l (SC.l (SC.l s)))))) (SC.r (SC.l (SC.l (SC.l s))))) (SC.r (SC.l (SC.l s)))) (SC.r (SC.l s))) (SC.r s))))) fun g139 x138 => (Yr (J := ({ oo := fun x145 => [x145.2], ss := fun x145 => [some v_0, some v_1, some v_2, some v2, some x145.1, x138.1, x112.2.1], sc := fun g146 x145 => (SC.addO (SC.add (SC.add (SC.add (SC.add SC.nil K (rP2 (rV (rV Xa)) (rV (rP2 Xa Xa))) v_0 a_0) K (rV (rV Xa)) v_1 a_1) K (rV Xa) v_2 a_2) K Xa v2 a1) K (oL (oF Xa)) x145.1 g146 x145.2) } : Jn ((List Int)) (V × List XL))) (Y0 (Fd := FNd ({ oo := fun x145 => [x145.2], ss := fun x145 => [some v_0, some v_1, some v_2, some v2, some x145.1, x138.1, x112.2.1], sc := fun g146 x145 => (SC.addO (SC.add (SC.add (SC.add (SC.add SC.nil K (rP2 (rV (rV Xa)) (rV (rP2 Xa Xa))) v_0 a_0) K (rV (rV Xa)) v_1 a_1) K (rV Xa) v_2 a_2) K Xa v2 a1) K (oL (oF Xa)) x145.1 g146 x145.2) } : Jn ((List Int)) (V × List XL))) (Xo (K := K) (YH (Xs (Xb (r := (rV Xa)) 2 rfl (fun _ s => (SC.r (SC.l (SC.l s))))) (Xe 2)) (Xe 2))) (XN (K := K) (o := (oL (oF Xa))) 4 0 (VV (KI (r := Xa) 4 0 rfl rfl (fun _ s => (SC.r s))) (Ev.ls (YG (Xn (EvB.sh (XM (Xs (Xb (r := (rV Xa)) 2 rfl (fun _ s => (SC.r (SC.l (SC.l s))))) (Xe 1)) (XO (Xb (r := (rV (rV Xa))) 1 rfl (fun _ s => (SC.r (SC.l (SC.l (SC.l s))))))))) X9)))) (Nat.le_of_ble_eq_true rfl) fun a147 v148 C149 => (Xv (J := _) (v148, C149) (a147) rfl rfl (fun _ s => (SC.i (SC.i (SC.i (SC.i (SC.i SC.t (SC.r (SC.l (SC.l (SC.l (SC.l (SC.l s))))))) (SC.r (SC.l (SC.l (SC.l (SC.l s)))))) (SC.r (SC.l (SC.l (SC.l s))))) (SC.r (SC.l (SC.l s)))) (SC.r s))))) (Xv (J := _) (x138.2.1, x138.2.2) (g139) rfl rfl (fun _ s => (SC.i (SC.i (SC.i (SC.i (SC.i SC.t (SC.r (SC.l (SC.l (SC.l (SC.l s)))))) (SC.r (SC.l (SC.l (SC.l s))))) (SC.r (SC.l (SC.l s)))) (SC.r (SC.l s))) (SC.r s))))) fun g161 x160 => (Yr (J := ({ oo := fun x167 => [x167.2], ss := fun x167 => [some v_0, some v_1, some v_2, some v2, some x167.1, x138.1, x112.2.1], sc := fun g168 x167 => (SC.addO (SC.add (SC.add (SC.add (SC.add SC.nil K (rP2 (rV (rV Xa)) (rV (rP2 Xa Xa))) v_0 a_0) K (rV (rV Xa)) v_1 a_1) K (rV Xa) v_2 a_2) K Xa v2 a1) K (oL (oF Xa)) x167.1 g168 x167.2) } : Jn ((List Int)) (V × List XL))) (Y0 (Fd := FNd ({ oo := fun x167 => [x167.2], ss := fun x167 => [some v_0, some v_1, some v_2, some v2, some x167.1, x138.1, x112.2.1], sc := fun g168 x167 => (SC.addO (SC.add (SC.add (SC.add (SC.add SC.nil K (rP2 (rV (rV Xa)) (rV (rP2 Xa Xa))) v_0 a_0) K (rV (rV Xa)) v_1 a_1) K (rV Xa) v_2 a_2) K Xa v2 a1) K (oL (oF Xa)) x167.1 g168 x167.2) } : Jn ((List Int)) (V × List XL))) (Xo (K := K) (YH (Xs (Xb (r := (rV Xa)) 2 rfl (fun _ s => (SC.r (SC.l (SC.l s))))) (Xe 2)) (Xe 3))) (XN (K := K) (o := (oL (oF Xa))) 4 0 (QW (KI (r := Xa) 4 0 rfl rfl (fun _ s => (SC.r s))) (ZE (K := K) (Xe 1)) Qo) (Nat.le_of_ble_eq_true rfl) fun a169 v170 C171 => (Xv (J := _) (v170, C171) (a169) rfl rfl (fun _ s => (SC.i (SC.i (SC.i (SC.i (SC.i SC.t (SC.r (SC.l (SC.l (SC.l (SC.l (SC.l s))))))) (SC.r (SC.l (SC.l (SC.l (SC.l s)))))) (SC.r (SC.l (SC.l (SC.l s))))) (SC.r (SC.l (SC.l s)))) (SC.r s))))) (Xv (J := _) (x160.1, x160.2) (g161) rfl rfl (fun _ s => (SC.i (SC.i (SC.i (SC.i (SC.i SC.t (SC.r (SC.l (SC.l (SC.l (SC.l s)))))) (SC.r (SC.l (SC.l (SC.l s))))) (SC.r (SC.l (SC.l s)))) (SC.r (SC.l s))) (SC.r s))))) fun g177 x176 => (Yr (J := ({ oo := fun x183 => [x183.2], ss := fun x183 => [some v_0, some v_1, some v_2, some v2, some x183.1, x138.1, x112.2.1], sc := fun g184 x183 => (SC.addO (SC.add (SC.add (SC.add (SC.add SC.nil K (rP2 (rV (rV Xa)) (rV (rP2 Xa Xa))) v_0 a_0) K (rV (rV Xa)) v_1 a_1) K (rV Xa) v_2 a_2) K Xa v2 a1) K (oL (oF Xa)) x183.1 g184 x183.2) } : Jn ((List Int)) (V × List XL))) (Y0 (Fd := FNd ({ oo := fun x183 => [x183.2], ss := fun x183 => [some v_0, some v_1, some v_2, some v2, some x183.1, x138.1, x112.2.1], sc := fun g184 x183 => (SC.addO (SC.add (SC.add (SC.add (SC.add SC.nil K (rP2 (rV (rV Xa)) (rV (rP2 Xa Xa))) v_0 a_0) K (rV (rV Xa)) v_1 a_1) K (rV Xa) v_2 a_2) K Xa v2 a1) K (oL (oF Xa)) x183.1 g184 x183.2) } : Jn ((List Int)) (V × List XL))) (Xo (K := K) (YH (Xs (Xb (r := (rV Xa)) 2 rfl (fun _ s => (SC.r (SC.l (SC.l s))))) (Xe 2)) (Xe 8))) (XN (K := K) (o := (oL (oF Xa))) 4 0 (QW (Ev.ls (Jr (KI (r := Xa) 4 0 rfl rfl (fun _ s => (SC.r s))) (Xe 90))) Qo (ZE (K := K) (Xe 90))) (Nat.le_of_ble_eq_true rfl) fun a185 v186 C187 => (Xv (J := _) (v186, C187) (a185) rfl rfl (fun _ s => (SC.i (SC.i (SC.i (SC.i (SC.i SC.t (SC.r (SC.l (SC.l (SC.l (SC.l (SC.l s))))))) (SC.r (SC.l (SC.l (SC.l (SC.l s)))))) (SC.r (SC.l (SC.l (SC.l s))))) (SC.r (SC.l (SC.l s)))) (SC.r s))))) (Xv (J := _) (x176.1, x176.2) (g177) rfl rfl (fun _ s => (SC.i (SC.i (SC.i (SC.i (SC.i SC.t (SC.r (SC.l (SC.l (SC.l (SC.l s)))))) (SC.r (SC.l (SC.l (SC.l s))))) (SC.r (SC.l (SC.l s)))) (SC.r (SC.l s))) (SC.r s))))) fun g195 x194 => (XE (Yp (o := (oL (oF Xa))) 4 0 rfl rfl (fun _ s => (SC.r s)))))))))))))
theorem Bi : FnScope ["_law_drawing", "_law_table", "_law_colours", "_law_one"] ["_law_drawing", "_law_table", "_law_colours"] (Xi U8) := ⟨rfl, rfl, rfl, by decide +kernel, rfl, by decide +kernel, by decide +kernel⟩
set_option maxHeartbeats 4000000 in
theorem Hu (D : Def K mg "_law_due" U8 ["_law_drawing", "_law_table", "_law_colours"]) (g_keeps : Fn P w K mg base 1 "_law_keeps" ["_law_meetings", "_law_table", "_law_colours"] (sp3 (rV (rP5 Xa Xa Xa Xa Xa)) (rV (rV Xa)) (rV Xa) (oF X7) Z2 K)) (g_count : Fn P w K mg base 1 "_law_count" ["_law_drawing"] (sp1 (rP2 (rV (rV Xa)) (rV (rP2 Xa Xa))) (oF Xa) Y8 K)) (g_l_meets : Fn P w K mg base 2 "_law_meets" ["_law_drawing"] (sp1 (rP2 (rV (rV Xa)) (rV (rP2 Xa Xa))) (oL (oF (rP5 Xa Xa Xa Xa Xa))) Zi K)) (Z : Blt mg) : Fn P w K mg base 3 "_law_due" ["_law_drawing", "_law_table", "_law_colours"] (sp3 (rP2 (rV (rV Xa)) (rV (rP2 Xa Xa))) (rV (rV Xa)) (rV Xa) (oF X7) GI K) := by
  refine YT D Bi (fun vs H Q E h => ?_) (fun f cdv A outer s H vs Q E hr h => ?_)
  · obtain ⟨v_0, v_1, v_2, a_0, a_1, a_2, b, rfl, _⟩ := h; rfl
  obtain ⟨v_0, v_1, v_2, a_0, a_1, a_2, b, rfl, h_0, h_1, h_2, hm, q⟩ := h
  have hu := hu8 hr
  have hu1 := YK hr
  refine ⟨_, (Xc (YD (Xt Fg (Xu (Xk K rfl) rfl Z.b_len PySem.boot_len (Xd (pv 2) Xg)) (Ya g_count hr (by decide) (Xd (pv 0) Xg)) (XA _))
      (Xc (XF VB)
      Xh)
      Xh)
    (Xc (Yf PassesOwn.never rfl (XW (K := K) rfl (pv 2)) (Xr (i := 3) Bi.nd rfl (Or.inl rfl))
      (Xc (YD (PW.pt (DV (Xt Qy (pv 3) Xf (XA _)) (K0 (Xt Bt (pv 3) (Xu (Xk K rfl) rfl Z.b_len PySem.boot_len (Xd (pv 1) Xg)) (XA _)))))
        (Xc (XF VB)
        Xh)
        Xh)
      Xh))
    (Xc (XF (Ya g_keeps hr (by decide) (Xd (Ya g_l_meets hr (by decide) (Xd (pv 0) Xg)) (Xd (pv 1) (Xd (pv 2) Xg)))))
    Xh))), ?_⟩
  refine YN (S := (SC.add (SC.add (SC.add SC.nil K (rP2 (rV (rV Xa)) (rV (rP2 Xa Xa))) v_0 a_0) K (rV (rV Xa)) v_1 a_1) K (rV Xa) v_2 a_2)) (σ := [some v_0, some v_1, some v_2, none]) 0 ?_ (SC.i (SC.i (SC.i SC.t h_0) h_1) h_2) hm q rfl
  unfold GI
  exact (Z5 (Xo (K := K) (UT (XO (Xb (r := (rV Xa)) 2 rfl (fun _ s => (SC.r s)))) (Ev.toB (Yn (Xb (r := (rP2 (rV (rV Xa)) (rV (rP2 Xa Xa)))) 0 rfl (fun _ s => (SC.r (SC.l (SC.l s))))))))) (XE (EvS.ev (EvB.sh (QA false)))) (J7 (K := K) (J := ({ oo := fun x7 => [], ss := fun x7 => [some v_0, some v_1, some v_2, x7], sc := fun g8 x7 => (SC.add (SC.add (SC.add SC.nil K (rP2 (rV (rV Xa)) (rV (rP2 Xa Xa))) v_0 a_0) K (rV (rV Xa)) v_1 a_1) K (rV Xa) v_2 a_2) } : Jn (Unit) (Option V))) (fun _ => tg1 3) ((none)) () (XG (Xm (r := (rV Xa)) 2 rfl (fun _ s => (SC.r s)))) rfl rfl (fun _ s => (SC.i (SC.i (SC.i SC.t (SC.r (SC.l (SC.l s)))) (SC.r (SC.l s))) (SC.r s))) (fun g9 x10 a11 v12 => (Jl (Uy (Xo (K := K) (Zy (Xb (r := Xa) 3 rfl (fun _ s => (SC.r s))) (Xe 0))) (Xo (K := K) (FK (Xb (r := Xa) 3 rfl (fun _ s => (SC.r s))) (XO (Xb (r := (rV (rV Xa))) 1 rfl (fun _ s => (SC.r (SC.l (SC.l s))))))))) (XE (EvS.ev (EvB.sh (QA false)))) (UE (Xv (J := _) ((some v12)) () rfl rfl (fun _ s => (SC.i (SC.i (SC.i SC.t (SC.r (SC.l (SC.l (SC.l s))))) (SC.r (SC.l (SC.l s)))) (SC.r (SC.l s)))))))) fun g21 x22 => (XE (Yw (Ev.toB (Yn (Xb (r := (rP2 (rV (rV Xa)) (rV (rP2 Xa Xa)))) 0 rfl (fun _ s => (SC.r (SC.l (SC.l s))))))) (Xb (r := (rV (rV Xa))) 1 rfl (fun _ s => (SC.r (SC.l s)))) (Xb (r := (rV Xa)) 2 rfl (fun _ s => (SC.r s)))))))
theorem Z7 : FnScope ["_law_script", "_law_great", "_law_drawing", "_law_table", "_law_some", "_law_colours", "_law_other", "_law_asked", "_law_handed", "_law_lines", "_law_numbers_here", "_law_found"] ["_law_script"] (Xi J1) := ⟨rfl, rfl, rfl, by decide +kernel, rfl, by decide +kernel, by decide +kernel⟩
set_option maxHeartbeats 4000000 in
theorem E1 {f : Addr} {fd : FuncData} (F : Fun K "law" "law" J1 f fd) (g_row : Fn P w K mg base 2 "_law_row" ["_law_script", "_law_place", "_law_sizes"] (sp3 (rL Xa) Xa (rV Xa) (oL (oF Xa)) Vu K)) (g_drawn : Fn P w K mg base 3 "_law_drawn" ["_law_script", "_law_place", "_law_most"] (sp3 (rL Xa) Xa Xa (oT2 (oL (oL (oF Xa))) (oL (oF (rP2 Xa Xa)))) Jf K)) (g_good_table : Fn P w K mg base 3 "_law_good_table" ["_law_script", "_law_place", "_law_most"] (sp3 (rL Xa) Xa Xa (oL (oL (oF Xa))) YZ K)) (g_numbers : Fn P w K mg base 5 "_law_numbers" ["_law_drawing", "_law_table", "_law_some"] (sp3 (rP2 (rV (rV Xa)) (rV (rP2 Xa Xa))) (rV (rV Xa)) (rV Xa) (oL (oF Xa)) ZV K)) (g_copy : Fn P w K mg base 1 "_law_copy" ["_law_drawing"] (sp1 (rP2 (rV (rV Xa)) (rV (rP2 Xa Xa))) (oT2 (oL (oL (oF Xa))) (oL (oF (rP2 Xa Xa)))) VZ K)) (g_fits : Fn P w K mg base 6 "fits" ["drawing", "table", "colours"] (sp3 (rP2 (rV (rV Xa)) (rV (rP2 Xa Xa))) (rV (rV Xa)) (rV Xa) (oF X7) VY K)) (g_due : Fn P w K mg base 3 "_law_due" ["_law_drawing", "_law_table", "_law_colours"] (sp3 (rP2 (rV (rV Xa)) (rV (rP2 Xa Xa))) (rV (rV Xa)) (rV Xa) (oF X7) GI K)) (Z : Blt mg) : FnOk P w K mg base CX0 7 f fd ["_law_script"] (sp1 (rL Xa) (oF X7) KC K) := by
  refine F.ok Z7 (fun vs H Q E h => ?_) (fun cdv A outer s H vs Q E hr h => ?_)
  · obtain ⟨v_0, a_0, b, rfl, _⟩ := h; rfl
  obtain ⟨v_0, a_0, b, rfl, h_0, hm, q⟩ := h
  have hu := hu8 hr
  have hu1 := YK hr
  refine ⟨_, (Xc (Xp (i := 1) Z7.nd rfl (Or.inl rfl) (Ya g_row hr (by decide) (Xd (pv 0) (Xd Xf (Xd (XV (Xd Xf (Xd Xf Xg))) Xg QZ)))))
    (Xc (Xp (i := 2) Z7.nd rfl (Or.inl rfl) (Ya g_drawn hr (by decide) (Xd (pv 0) (Xd Xf (Xd (Xx (Xj K rfl) (XV (Xd Xf (Xd Xf Xg))) (Xq QY (Xx (Xj K rfl) (pv 1) Xf (fun _ _ => rfl)) Xf) (fun _ _ => rfl)) Xg)))))
    (Xc (Xp (i := 3) Z7.nd rfl (Or.inl rfl) (Ya g_good_table hr (by decide) (Xd (pv 0) (Xd Xf (Xd (Xx (Xj K rfl) (XV (Xd Xf (Xd Xf Xg))) (Xq QY (Xx (Xj K rfl) (pv 1) Xf (fun _ _ => rfl)) Xf) (fun _ _ => rfl)) Xg)))))
    (Xc (Xp (i := 4) Z7.nd rfl (Or.inl rfl) (Ya g_row hr (by decide) (Xd (pv 0) (Xd Xf (Xd (Xq VS (XV (Xd Xf (Xd Xf (Xd Xf (Xd Xf (Xd Xf (Xd (Xq KW Xf Xf) Xg))))))) (Xq Jv (XV (Xd Xf Xg)) Xf)) Xg)))))
    (Xc (Xp (i := 5) Z7.nd rfl (Or.inl rfl) (Ya g_numbers hr (by decide) (Xd (pv 2) (Xd (pv 3) (Xd (pv 4) Xg)))))
    (Xc (Xp (i := 6) Z7.nd rfl (Or.inl rfl) (Z8 (Xd (Xx (YY K rfl) (pv 2) Xf (fun _ _ => rfl)) (Xd (ZJ (sc := (Xi J1)) (N0 := ["_law_script", "_law_great", "_law_drawing", "_law_table", "_law_some", "_law_colours", "_law_other", "_law_asked", "_law_handed", "_law_lines", "_law_numbers_here", "_law_found"]) (tns := ["_law_one", "_law_sign"]) (caps := []) rfl (XW (K := K) rfl (Xx (YY K rfl) (pv 2) Xf (fun _ _ => rfl))) (Ee (by decide) (by decide)) (fun cl C s H ex E => ⟨Dt K rfl rfl (XQ (Xr (i := 0) (show List.Nodup (["_law_one", "_law_sign"] : List Str) by decide +kernel) rfl (Or.inl rfl)) (XQ (Xr (i := 1) (show List.Nodup (["_law_one", "_law_sign"] : List Str) by decide +kernel) rfl (Or.inl rfl)) ZO)), ZD, (Z8 (Xd (pv 0) (Xd (Vi Qd (pv 1)) Xg)))⟩)) Xg))))
    (Xc (Yf PassesOwn.never rfl (XW (K := K) rfl (XV (Xd (pv 2) (Xd (pv 6) (Xd (pv 2) Xg))))) (Xr (i := 7) Z7.nd rfl (Or.inl rfl))
      (Xc (Xp (i := 8) Z7.nd rfl (Or.inl rfl) (Ya g_copy hr (by decide) (Xd (pv 7) Xg)))
      (Xc (Q7 9 (Xi J1) ["_law_script", "_law_great", "_law_drawing", "_law_table", "_law_some", "_law_colours", "_law_other", "_law_asked", "_law_handed", "_law_lines", "_law_numbers_here", "_law_found"] ["_law_line"] [] rfl Z7.nd rfl rfl (XW (K := K) rfl (pv 3)) (Zm (by decide)) (fun cl C s H ex E => ⟨Xr (i := 0) (show List.Nodup (["_law_line"] : List Str) by decide +kernel) rfl (Or.inl rfl), ZD, (ZR (YS K rfl) rfl Z.b_list PyProof.Rows.boot_list (Xd (pv 0) Xg))⟩))
      (Xc (Xp (i := 10) Z7.nd rfl (Or.inl rfl) (ZR (YS K rfl) rfl Z.b_list PyProof.Rows.boot_list (Xd (pv 5) Xg)))
      (Xc (Xp (i := 11) Z7.nd rfl (Or.inl rfl) (Ya g_fits hr (by decide) (Xd (pv 8) (Xd (pv 9) (Xd (pv 10) Xg)))))
      (Xc (YD (PW.pt (DV (GA (U1 (Xu KF rfl Z.b_isinstance PyProof.Rows.boot_isinstance (Xd (pv 11) (Xd (BI (v := V.ty "bool") rfl Z.b_bool PyProof.Rows.boot_bool rfl) Xg))))) (K0 (Xt Fg (pv 11) (Ya g_due hr (by decide) (Xd (pv 7) (Xd (pv 3) (Xd (pv 5) Xg)))) (XA _)))))
        (Xc (XF VB)
        Xh)
        Xh)
      (Xc (YD (PW.pt (DV (Xt (Dw (E4 (ED (ED eq_int)) (ED (E4 eq_int eq_int))) (Br (by decide) hu)) (pv 8) (pv 7) (XA _)) (DV (Xt (Dw (ED (ED eq_int)) (Br (by decide) hu)) (pv 9) (pv 3) (XA _)) (K0 (Xt (Dw (ED eq_int) (Br (by decide) hu)) (pv 10) (pv 5) (XA _))))))
        (Xc (XF VB)
        Xh)
        Xh)
      Xh)))))))
    (Xc (XF VB)
    Xh)))))))), ?_⟩
  refine YN (S := (SC.add SC.nil K (rL Xa) v_0 a_0)) (σ := [some v_0, none, none, none, none, none, none, none, none, none, none, none]) 0 ?_ (SC.i SC.t h_0) hm q rfl
  unfold KC
  exact (Xz (K := K) (r := (rV Xa)) 1 (Ev.sh (Yw (Xb (r := (rL Xa)) 0 rfl (fun _ s => (SC.r s))) (Xe 3) (Ev.toB (YG (Xn (EvB.sh (Xe 8)) (Xn (EvB.sh (Xe 8)) X9)))))) fun a1 v2 => (Xz (K := K) (r := (rP2 (rV (rV Xa)) (rV (rP2 Xa Xa)))) 2 (Ev.sh (Yw (Xb (r := (rL Xa)) 0 rfl (fun _ s => (SC.r (SC.l s)))) (Xe 0) (Xs (Ev.toB (YG (Xn (EvB.sh (Xe 7)) (Xn (EvB.sh (Xe 40)) X9)))) (Vw (Xs (Xb (r := (rV Xa)) 1 rfl (fun _ s => (SC.r s))) (Xe 0)) (Xe 7))))) fun a12 v13 => (Xz (K := K) (r := (rV (rV Xa))) 3 (Ev.sh (Yw (Xb (r := (rL Xa)) 0 rfl (fun _ s => (SC.r (SC.l (SC.l s))))) (Xe 1) (Xs (Ev.toB (YG (Xn (EvB.sh (Xe 6)) (Xn (EvB.sh (Xe 24)) X9)))) (Vw (Xs (Xb (r := (rV Xa)) 1 rfl (fun _ s => (SC.r (SC.l s)))) (Xe 1)) (Xe 7))))) fun a29 v30 => (Xz (K := K) (r := (rV Xa)) 4 (Ev.sh (Yw (Xb (r := (rL Xa)) 0 rfl (fun _ s => (SC.r (SC.l (SC.l (SC.l s)))))) (Xe 2) (Ev.toB (VV (Ev.ls (YG (Xn (EvB.sh (Xe 4)) (Xn (EvB.sh (Xe 5000)) (Xn (EvB.sh (Xe 9)) (Xn (EvB.sh (Xe 20)) (Xn (EvB.sh (Xe 5)) (Xn (EvB.sh (Ui (Xe 10) (Xe 59))) X9)))))))) (Ev.ls (Jr (Ev.ls (YG (Xn (EvB.sh (Xe 24)) X9))) (Xe 48))))))) fun a46 v47 => (Xz (K := K) (r := (rV Xa)) 5 (Ev.sh (Yw (Xb (r := (rP2 (rV (rV Xa)) (rV (rP2 Xa Xa)))) 2 rfl (fun _ s => (SC.r (SC.l (SC.l s))))) (Xb (r := (rV (rV Xa))) 3 rfl (fun _ s => (SC.r (SC.l s)))) (Xb (r := (rV Xa)) 4 rfl (fun _ s => (SC.r s))))) fun a74 v75 => (Xz (K := K) (r := (rP2 (rV (rV Xa)) (rV (rP2 Xa Xa)))) 6 (Qv (Ji (Xm (r := (rP2 (rV (rV Xa)) (rV (rP2 Xa Xa)))) 2 rfl (fun _ s => (SC.r (SC.l (SC.l (SC.l s))))))) (Ev.sh (Zx (fun _ => tg2 0 1) (XG (Fj (Xm (r := (rP2 (rV (rV Xa)) (rV (rP2 Xa Xa)))) 2 rfl (fun _ s => (SC.r (SC.l (SC.l (SC.l s)))))))) (fun C84 a85 v86 => (EvS.ev (Qv (Xm (r := Xa) 0 rfl (fun _ s => (SC.r (SC.l s)))) (EvB.sh (ZC (Xb (r := Xa) 1 rfl (fun _ s => (SC.r s))))))))))) fun a80 v81 => (J7 (K := K) (J := ({ oo := fun x100 => [], ss := fun x100 => [some v_0, some v2, some v13, some v30, some v47, some v75, some v81, x100.1, x100.2.1, x100.2.2.1, x100.2.2.2.1, x100.2.2.2.2], sc := fun g101 x100 => (SC.add (SC.add (SC.add (SC.add (SC.add (SC.add (SC.add SC.nil K (rL Xa) v_0 a_0) K (rV Xa) v2 a1) K (rP2 (rV (rV Xa)) (rV (rP2 Xa Xa))) v13 a12) K (rV (rV Xa)) v30 a29) K (rV Xa) v47 a46) K (rV Xa) v75 a74) K (rP2 (rV (rV Xa)) (rV (rP2 Xa Xa))) v81 a80) } : Jn (Unit) (Option V × Option V × Option V × Option V × Option V))) (fun _ => tg1 7) ((none), (none), (none), (none), (none)) () (XG (Ev.sh (Kq (Ze (EvS.ev (Xm (r := (rP2 (rV (rV Xa)) (rV (rP2 Xa Xa)))) 2 rfl (fun _ s => (SC.r (SC.l (SC.l (SC.l (SC.l s)))))))) fun _ => (Ze (EvS.ev (Xm (r := (rP2 (rV (rV Xa)) (rV (rP2 Xa Xa)))) 6 rfl (fun _ s => (SC.r s)))) fun _ => (Ze (EvS.ev (Xm (r := (rP2 (rV (rV Xa)) (rV (rP2 Xa Xa)))) 2 rfl (fun _ s => (SC.r (SC.l (SC.l (SC.l (SC.l s)))))))) fun _ => Uq)))))) rfl rfl (fun _ s => (SC.i (SC.i (SC.i (SC.i (SC.i (SC.i (SC.i SC.t (SC.r (SC.l (SC.l (SC.l (SC.l (SC.l (SC.l s)))))))) (SC.r (SC.l (SC.l (SC.l (SC.l (SC.l s))))))) (SC.r (SC.l (SC.l (SC.l (SC.l s)))))) (SC.r (SC.l (SC.l (SC.l s))))) (SC.r (SC.l (SC.l s)))) (SC.r (SC.l s))) (SC.r s))) (fun g102 x103 a104 v105 => (Xz (K := K) (r := (rP2 (rV (rV Xa)) (rV (rP2 Xa Xa)))) 8 (Ev.sh (Yn (Xb (r := (rP2 (rV (rV Xa)) (rV (rP2 Xa Xa)))) 7 rfl (fun _ s => (SC.r s))))) fun a106 v107 => (Xz (K := K) (r := (rV (rV Xa))) 9 (Ev.sh (Zx (fun _ => tg1 0) (XG (Xm (r := (rV (rV Xa))) 3 rfl (fun _ s => (SC.r (SC.l (SC.l (SC.l (SC.l (SC.l s))))))))) (fun C112 a113 v114 => (Q6 (EvS.ls (Xm (r := (rV Xa)) 0 rfl (fun _ s => (SC.r s)))))))) fun a110 v111 => (Xz (K := K) (r := (rV Xa)) 10 (Ev.sh (Q6 (EvS.ls (Xm (r := (rV Xa)) 5 rfl (fun _ s => (SC.r (SC.l (SC.l (SC.l (SC.l s)))))))))) fun a117 v118 => (Xz (K := K) (r := X7) 11 (EvB.sh (Ev.toB (Yw (Xb (r := (rP2 (rV (rV Xa)) (rV (rP2 Xa Xa)))) 8 rfl (fun _ s => (SC.r (SC.l (SC.l s))))) (Xb (r := (rV (rV Xa))) 9 rfl (fun _ s => (SC.r (SC.l s)))) (Xb (r := (rV Xa)) 10 rfl (fun _ s => (SC.r s)))))) fun a120 v121 => (Jl (Uy (V5 (GC (K := K) (G1 "bool" true (Cj K "bool") (Xb (r := X7) 11 rfl (fun _ s => (SC.r s)))))) (Xo (K := K) (UT (Xb (r := X7) 11 rfl (fun _ s => (SC.r s))) (Ev.toB (Yw (Xb (r := (rP2 (rV (rV Xa)) (rV (rP2 Xa Xa)))) 7 rfl (fun _ s => (SC.r (SC.l (SC.l (SC.l (SC.l s))))))) (Xb (r := (rV (rV Xa))) 3 rfl (fun _ s => (SC.r (SC.l (SC.l (SC.l (SC.l (SC.l (SC.l (SC.l (SC.l s))))))))))) (Xb (r := (rV Xa)) 5 rfl (fun _ s => (SC.r (SC.l (SC.l (SC.l (SC.l (SC.l (SC.l s)))))))))))))) (XE (EvS.ev (EvB.sh (QA false)))) (Jl (Uy (Xo (K := K) (KO (Xb (r := (rP2 (rV (rV Xa)) (rV (rP2 Xa Xa)))) 8 rfl (fun _ s => (SC.r (SC.l (SC.l (SC.l s)))))) (Xb (r := (rP2 (rV (rV Xa)) (rV (rP2 Xa Xa)))) 7 rfl (fun _ s => (SC.r (SC.l (SC.l (SC.l (SC.l s))))))))) (Uy (Xo (K := K) (KO (Xb (r := (rV (rV Xa))) 9 rfl (fun _ s => (SC.r (SC.l (SC.l s))))) (Xb (r := (rV (rV Xa))) 3 rfl (fun _ s => (SC.r (SC.l (SC.l (SC.l (SC.l (SC.l (SC.l (SC.l (SC.l s))))))))))))) (Xo (K := K) (KO (Xb (r := (rV Xa)) 10 rfl (fun _ s => (SC.r (SC.l s)))) (Xb (r := (rV Xa)) 5 rfl (fun _ s => (SC.r (SC.l (SC.l (SC.l (SC.l (SC.l (SC.l s))))))))))))) (XE (EvS.ev (EvB.sh (QA false)))) (UE (Xv (J := _) ((some v105), (some v107), (some v111), (some v118), (some v121)) () rfl rfl (fun _ s => (SC.i (SC.i (SC.i (SC.i (SC.i (SC.i (SC.i SC.t (SC.r (SC.l (SC.l (SC.l (SC.l (SC.l (SC.l (SC.l (SC.l (SC.l (SC.l (SC.l s))))))))))))) (SC.r (SC.l (SC.l (SC.l (SC.l (SC.l (SC.l (SC.l (SC.l (SC.l (SC.l s)))))))))))) (SC.r (SC.l (SC.l (SC.l (SC.l (SC.l (SC.l (SC.l (SC.l (SC.l s))))))))))) (SC.r (SC.l (SC.l (SC.l (SC.l (SC.l (SC.l (SC.l (SC.l s)))))))))) (SC.r (SC.l (SC.l (SC.l (SC.l (SC.l (SC.l (SC.l s))))))))) (SC.r (SC.l (SC.l (SC.l (SC.l (SC.l (SC.l s)))))))) (SC.r (SC.l (SC.l (SC.l (SC.l (SC.l s))))))))))))))))) fun g145 x146 => (XE (EvS.ev (EvB.sh (QA true)))))))))))
end
set_option maxHeartbeats 4000000 in
theorem E7 {l : PySem.W.OpenLaw} {w : World} {K : PySem.W.Frag} {h : Heap} {mg : Str -> Option Value} {fa f1 f2 f3 f4 f5 f6 f7 f8 f9 f10 f11 f12 f13 f14 f15 f16 f17 f18 f19 f20 f21 f22 f23 f24 f25 f26 f27 f28 f29 f30 f31 f32 f33 f34 f35 : Addr} (X : K.In h) (G : h.Ns mainGlobals mg) (hfa : mg "law" = some (.ref fa))
    {od1 an1 od2 an2 od3 an3 od4 an4 od5 an5 od6 an6 od7 an7 od8 an8 od9 an9 od10 an10 od11 an11 od12 an12 od13 an13 od14 an14 od15 an15 od16 an16 od17 an17 od18 an18 od19 an19 od20 an20 od21 an21 od22 an22 od23 an23 od24 an24 od25 an25 od26 an26 od27 an27 od28 an28 od29 an29 od30 an30 od31 an31 od32 an32 od33 an33 od34 an34 od35 an35 : Option Addr} {sl1 sl2 sl3 sl4 sl5 sl6 sl7 sl8 sl9 sl10 sl11 sl12 sl13 sl14 sl15 sl16 sl17 sl18 sl19 sl20 sl21 sl22 sl23 sl24 sl25 sl26 sl27 sl28 sl29 sl30 sl31 sl32 sl33 sl34 sl35 : Array (Option Value)} {oc1 kV1 dc1 pm1 cd1 ct1 oc2 kV2 dc2 pm2 cd2 ct2 oc3 kV3 dc3 pm3 cd3 ct3 oc4 kV4 dc4 pm4 cd4 ct4 oc5 kV5 dc5 pm5 cd5 ct5 oc6 kV6 dc6 pm6 cd6 ct6 oc7 kV7 dc7 pm7 cd7 ct7 oc8 kV8 dc8 pm8 cd8 ct8 oc9 kV9 dc9 pm9 cd9 ct9 oc10 kV10 dc10 pm10 cd10 ct10 oc11 kV11 dc11 pm11 cd11 ct11 oc12 kV12 dc12 pm12 cd12 ct12 oc13 kV13 dc13 pm13 cd13 ct13 oc14 kV14 dc14 pm14 cd14 ct14 oc15 kV15 dc15 pm15 cd15 ct15 oc16 kV16 dc16 pm16 cd16 ct16 oc17 kV17 dc17 pm17 cd17 ct17 oc18 kV18 dc18 pm18 cd18 ct18 oc19 kV19 dc19 pm19 cd19 ct19 oc20 kV20 dc20 pm20 cd20 ct20 oc21 kV21 dc21 pm21 cd21 ct21 oc22 kV22 dc22 pm22 cd22 ct22 oc23 kV23 dc23 pm23 cd23 ct23 oc24 kV24 dc24 pm24 cd24 ct24 oc25 kV25 dc25 pm25 cd25 ct25 oc26 kV26 dc26 pm26 cd26 ct26 oc27 kV27 dc27 pm27 cd27 ct27 oc28 kV28 dc28 pm28 cd28 ct28 oc29 kV29 dc29 pm29 cd29 ct29 oc30 kV30 dc30 pm30 cd30 ct30 oc31 kV31 dc31 pm31 cd31 ct31 oc32 kV32 dc32 pm32 cd32 ct32 oc33 kV33 dc33 pm33 cd33 ct33 oc34 kV34 dc34 pm34 cd34 ct34 oc35 kV35 dc35 pm35 cd35 ct35 : Value}
    (a1 : PySem.W.nsIn K mainGlobals "spot" = some (some (.ref f1))) (l1 : K.lookup f1 = some ⟨oc1, od1, .func (PySem.W.fnOf "spot" "spot" (XD Ju) (XB Ju) (Xi Ju) .none kV1 dc1 pm1 an1 cd1 ct1), sl1⟩) (c1 : PySem.W.codeIn K cd1 "spot" = true) (k1 : PySem.W.keepIn K (.ref f1) = true)
    (a2 : PySem.W.nsIn K mainGlobals "arcs" = some (some (.ref f2))) (l2 : K.lookup f2 = some ⟨oc2, od2, .func (PySem.W.fnOf "arcs" "arcs" (XD Js) (XB Js) (Xi Js) .none kV2 dc2 pm2 an2 cd2 ct2), sl2⟩) (c2 : PySem.W.codeIn K cd2 "arcs" = true) (k2 : PySem.W.keepIn K (.ref f2) = true)
    (a3 : PySem.W.nsIn K mainGlobals "arc_count" = some (some (.ref f3))) (l3 : K.lookup f3 = some ⟨oc3, od3, .func (PySem.W.fnOf "arc_count" "arc_count" (XD Yx) (XB Yx) (Xi Yx) .none kV3 dc3 pm3 an3 cd3 ct3), sl3⟩) (c3 : PySem.W.codeIn K cd3 "arc_count" = true) (k3 : PySem.W.keepIn K (.ref f3) = true)
    (a4 : PySem.W.nsIn K mainGlobals "arcs_of_walk" = some (some (.ref f4))) (l4 : K.lookup f4 = some ⟨oc4, od4, .func (PySem.W.fnOf "arcs_of_walk" "arcs_of_walk" (XD X2) (XB X2) (Xi X2) .none kV4 dc4 pm4 an4 cd4 ct4), sl4⟩) (c4 : PySem.W.codeIn K cd4 "arcs_of_walk" = true) (k4 : PySem.W.keepIn K (.ref f4) = true)
    (a5 : PySem.W.nsIn K mainGlobals "arcs_of_ways" = some (some (.ref f5))) (l5 : K.lookup f5 = some ⟨oc5, od5, .func (PySem.W.fnOf "arcs_of_ways" "arcs_of_ways" (XD Yc) (XB Yc) (Xi Yc) .none kV5 dc5 pm5 an5 cd5 ct5), sl5⟩) (c5 : PySem.W.codeIn K cd5 "arcs_of_ways" = true) (k5 : PySem.W.keepIn K (.ref f5) = true)
    (a6 : PySem.W.nsIn K mainGlobals "meets" = some (some (.ref f6))) (l6 : K.lookup f6 = some ⟨oc6, od6, .func (PySem.W.fnOf "meets" "meets" (XD Qf) (XB Qf) (Xi Qf) .none kV6 dc6 pm6 an6 cd6 ct6), sl6⟩) (c6 : PySem.W.codeIn K cd6 "meets" = true) (k6 : PySem.W.keepIn K (.ref f6) = true)
    (a7 : PySem.W.nsIn K mainGlobals "all_colours" = some (some (.ref f7))) (l7 : K.lookup f7 = some ⟨oc7, od7, .func (PySem.W.fnOf "all_colours" "all_colours" (XD X8) (XB X8) (Xi X8) .none kV7 dc7 pm7 an7 cd7 ct7), sl7⟩) (c7 : PySem.W.codeIn K cd7 "all_colours" = true) (k7 : PySem.W.keepIn K (.ref f7) = true)
    (a8 : PySem.W.nsIn K mainGlobals "fits" = some (some (.ref f8))) (l8 : K.lookup f8 = some ⟨oc8, od8, .func (PySem.W.fnOf "fits" "fits" (XD Jw) (XB Jw) (Xi Jw) .none kV8 dc8 pm8 an8 cd8 ct8), sl8⟩) (c8 : PySem.W.codeIn K cd8 "fits" = true) (k8 : PySem.W.keepIn K (.ref f8) = true)
    (a9 : PySem.W.nsIn K mainGlobals "ties" = some (some (.ref f9))) (l9 : K.lookup f9 = some ⟨oc9, od9, .func (PySem.W.fnOf "ties" "ties" (XD JC) (XB JC) (Xi JC) .none kV9 dc9 pm9 an9 cd9 ct9), sl9⟩) (c9 : PySem.W.codeIn K cd9 "ties" = true) (k9 : PySem.W.keepIn K (.ref f9) = true)
    (a10 : PySem.W.nsIn K mainGlobals "all_held" = some (some (.ref f10))) (l10 : K.lookup f10 = some ⟨oc10, od10, .func (PySem.W.fnOf "all_held" "all_held" (XD YO) (XB YO) (Xi YO) .none kV10 dc10 pm10 an10 cd10 ct10), sl10⟩) (c10 : PySem.W.codeIn K cd10 "all_held" = true) (k10 : PySem.W.keepIn K (.ref f10) = true)
    (a11 : PySem.W.nsIn K mainGlobals "_law_cell" = some (some (.ref f11))) (l11 : K.lookup f11 = some ⟨oc11, od11, .func (PySem.W.fnOf "_law_cell" "_law_cell" (XD JA) (XB JA) (Xi JA) .none kV11 dc11 pm11 an11 cd11 ct11), sl11⟩) (c11 : PySem.W.codeIn K cd11 "_law_cell" = true) (k11 : PySem.W.keepIn K (.ref f11) = true)
    (a12 : PySem.W.nsIn K mainGlobals "_law_mix" = some (some (.ref f12))) (l12 : K.lookup f12 = some ⟨oc12, od12, .func (PySem.W.fnOf "_law_mix" "_law_mix" (XD UA) (XB UA) (Xi UA) .none kV12 dc12 pm12 an12 cd12 ct12), sl12⟩) (c12 : PySem.W.codeIn K cd12 "_law_mix" = true) (k12 : PySem.W.keepIn K (.ref f12) = true)
    (a13 : PySem.W.nsIn K mainGlobals "_law_row" = some (some (.ref f13))) (l13 : K.lookup f13 = some ⟨oc13, od13, .func (PySem.W.fnOf "_law_row" "_law_row" (XD Uz) (XB Uz) (Xi Uz) .none kV13 dc13 pm13 an13 cd13 ct13), sl13⟩) (c13 : PySem.W.codeIn K cd13 "_law_row" = true) (k13 : PySem.W.keepIn K (.ref f13) = true)
    (a14 : PySem.W.nsIn K mainGlobals "_law_mixed" = some (some (.ref f14))) (l14 : K.lookup f14 = some ⟨oc14, od14, .func (PySem.W.fnOf "_law_mixed" "_law_mixed" (XD Qe) (XB Qe) (Xi Qe) .none kV14 dc14 pm14 an14 cd14 ct14), sl14⟩) (c14 : PySem.W.codeIn K cd14 "_law_mixed" = true) (k14 : PySem.W.keepIn K (.ref f14) = true)
    (a15 : PySem.W.nsIn K mainGlobals "_law_any" = some (some (.ref f15))) (l15 : K.lookup f15 = some ⟨oc15, od15, .func (PySem.W.fnOf "_law_any" "_law_any" (XD V3) (XB V3) (Xi V3) .none kV15 dc15 pm15 an15 cd15 ct15), sl15⟩) (c15 : PySem.W.codeIn K cd15 "_law_any" = true) (k15 : PySem.W.keepIn K (.ref f15) = true)
    (a16 : PySem.W.nsIn K mainGlobals "_law_plaited" = some (some (.ref f16))) (l16 : K.lookup f16 = some ⟨oc16, od16, .func (PySem.W.fnOf "_law_plaited" "_law_plaited" (XD Zc) (XB Zc) (Xi Zc) .none kV16 dc16 pm16 an16 cd16 ct16), sl16⟩) (c16 : PySem.W.codeIn K cd16 "_law_plaited" = true) (k16 : PySem.W.keepIn K (.ref f16) = true)
    (a17 : PySem.W.nsIn K mainGlobals "_law_drawn" = some (some (.ref f17))) (l17 : K.lookup f17 = some ⟨oc17, od17, .func (PySem.W.fnOf "_law_drawn" "_law_drawn" (XD ZX) (XB ZX) (Xi ZX) .none kV17 dc17 pm17 an17 cd17 ct17), sl17⟩) (c17 : PySem.W.codeIn K cd17 "_law_drawn" = true) (k17 : PySem.W.keepIn K (.ref f17) = true)
    (a18 : PySem.W.nsIn K mainGlobals "_law_copy" = some (some (.ref f18))) (l18 : K.lookup f18 = some ⟨oc18, od18, .func (PySem.W.fnOf "_law_copy" "_law_copy" (XD QS) (XB QS) (Xi QS) .none kV18 dc18 pm18 an18 cd18 ct18), sl18⟩) (c18 : PySem.W.codeIn K cd18 "_law_copy" = true) (k18 : PySem.W.keepIn K (.ref f18) = true)
    (a19 : PySem.W.nsIn K mainGlobals "_law_cell_of" = some (some (.ref f19))) (l19 : K.lookup f19 = some ⟨oc19, od19, .func (PySem.W.fnOf "_law_cell_of" "_law_cell_of" (XD Zd) (XB Zd) (Xi Zd) .none kV19 dc19 pm19 an19 cd19 ct19), sl19⟩) (c19 : PySem.W.codeIn K cd19 "_law_cell_of" = true) (k19 : PySem.W.keepIn K (.ref f19) = true)
    (a20 : PySem.W.nsIn K mainGlobals "_law_common" = some (some (.ref f20))) (l20 : K.lookup f20 = some ⟨oc20, od20, .func (PySem.W.fnOf "_law_common" "_law_common" (XD ZG) (XB ZG) (Xi ZG) .none kV20 dc20 pm20 an20 cd20 ct20), sl20⟩) (c20 : PySem.W.codeIn K cd20 "_law_common" = true) (k20 : PySem.W.keepIn K (.ref f20) = true)
    (a21 : PySem.W.nsIn K mainGlobals "_law_made" = some (some (.ref f21))) (l21 : K.lookup f21 = some ⟨oc21, od21, .func (PySem.W.fnOf "_law_made" "_law_made" (XD QM) (XB QM) (Xi QM) .none kV21 dc21 pm21 an21 cd21 ct21), sl21⟩) (c21 : PySem.W.codeIn K cd21 "_law_made" = true) (k21 : PySem.W.keepIn K (.ref f21) = true)
    (a22 : PySem.W.nsIn K mainGlobals "_law_ordered" = some (some (.ref f22))) (l22 : K.lookup f22 = some ⟨oc22, od22, .func (PySem.W.fnOf "_law_ordered" "_law_ordered" (XD Zg) (XB Zg) (Xi Zg) .none kV22 dc22 pm22 an22 cd22 ct22), sl22⟩) (c22 : PySem.W.codeIn K cd22 "_law_ordered" = true) (k22 : PySem.W.keepIn K (.ref f22) = true)
    (a23 : PySem.W.nsIn K mainGlobals "_law_relaid" = some (some (.ref f23))) (l23 : K.lookup f23 = some ⟨oc23, od23, .func (PySem.W.fnOf "_law_relaid" "_law_relaid" (XD Zq) (XB Zq) (Xi Zq) .none kV23 dc23 pm23 an23 cd23 ct23), sl23⟩) (c23 : PySem.W.codeIn K cd23 "_law_relaid" = true) (k23 : PySem.W.keepIn K (.ref f23) = true)
    (a24 : PySem.W.nsIn K mainGlobals "_law_good_table" = some (some (.ref f24))) (l24 : K.lookup f24 = some ⟨oc24, od24, .func (PySem.W.fnOf "_law_good_table" "_law_good_table" (XD Yu) (XB Yu) (Xi Yu) .none kV24 dc24 pm24 an24 cd24 ct24), sl24⟩) (c24 : PySem.W.codeIn K cd24 "_law_good_table" = true) (k24 : PySem.W.keepIn K (.ref f24) = true)
    (a25 : PySem.W.nsIn K mainGlobals "_law_arcs" = some (some (.ref f25))) (l25 : K.lookup f25 = some ⟨oc25, od25, .func (PySem.W.fnOf "_law_arcs" "_law_arcs" (XD ZL) (XB ZL) (Xi ZL) .none kV25 dc25 pm25 an25 cd25 ct25), sl25⟩) (c25 : PySem.W.codeIn K cd25 "_law_arcs" = true) (k25 : PySem.W.keepIn K (.ref f25) = true)
    (a26 : PySem.W.nsIn K mainGlobals "_law_spot" = some (some (.ref f26))) (l26 : K.lookup f26 = some ⟨oc26, od26, .func (PySem.W.fnOf "_law_spot" "_law_spot" (XD ZH) (XB ZH) (Xi ZH) .none kV26 dc26 pm26 an26 cd26 ct26), sl26⟩) (c26 : PySem.W.codeIn K cd26 "_law_spot" = true) (k26 : PySem.W.keepIn K (.ref f26) = true)
    (a27 : PySem.W.nsIn K mainGlobals "_law_meets" = some (some (.ref f27))) (l27 : K.lookup f27 = some ⟨oc27, od27, .func (PySem.W.fnOf "_law_meets" "_law_meets" (XD Zf) (XB Zf) (Xi Zf) .none kV27 dc27 pm27 an27 cd27 ct27), sl27⟩) (c27 : PySem.W.codeIn K cd27 "_law_meets" = true) (k27 : PySem.W.keepIn K (.ref f27) = true)
    (a28 : PySem.W.nsIn K mainGlobals "_law_count" = some (some (.ref f28))) (l28 : K.lookup f28 = some ⟨oc28, od28, .func (PySem.W.fnOf "_law_count" "_law_count" (XD Z0) (XB Z0) (Xi Z0) .none kV28 dc28 pm28 an28 cd28 ct28), sl28⟩) (c28 : PySem.W.codeIn K cd28 "_law_count" = true) (k28 : PySem.W.keepIn K (.ref f28) = true)
    (a29 : PySem.W.nsIn K mainGlobals "_law_keeps" = some (some (.ref f29))) (l29 : K.lookup f29 = some ⟨oc29, od29, .func (PySem.W.fnOf "_law_keeps" "_law_keeps" (XD Qh) (XB Qh) (Xi Qh) .none kV29 dc29 pm29 an29 cd29 ct29), sl29⟩) (c29 : PySem.W.codeIn K cd29 "_law_keeps" = true) (k29 : PySem.W.keepIn K (.ref f29) = true)
    (a30 : PySem.W.nsIn K mainGlobals "_law_all" = some (some (.ref f30))) (l30 : K.lookup f30 = some ⟨oc30, od30, .func (PySem.W.fnOf "_law_all" "_law_all" (XD Uj) (XB Uj) (Xi Uj) .none kV30 dc30 pm30 an30 cd30 ct30), sl30⟩) (c30 : PySem.W.codeIn K cd30 "_law_all" = true) (k30 : PySem.W.keepIn K (.ref f30) = true)
    (a31 : PySem.W.nsIn K mainGlobals "_law_power" = some (some (.ref f31))) (l31 : K.lookup f31 = some ⟨oc31, od31, .func (PySem.W.fnOf "_law_power" "_law_power" (XD Qa) (XB Qa) (Xi Qa) .none kV31 dc31 pm31 an31 cd31 ct31), sl31⟩) (c31 : PySem.W.codeIn K cd31 "_law_power" = true) (k31 : PySem.W.keepIn K (.ref f31) = true)
    (a32 : PySem.W.nsIn K mainGlobals "_law_tried" = some (some (.ref f32))) (l32 : K.lookup f32 = some ⟨oc32, od32, .func (PySem.W.fnOf "_law_tried" "_law_tried" (XD Qc) (XB Qc) (Xi Qc) .none kV32 dc32 pm32 an32 cd32 ct32), sl32⟩) (c32 : PySem.W.codeIn K cd32 "_law_tried" = true) (k32 : PySem.W.keepIn K (.ref f32) = true)
    (a33 : PySem.W.nsIn K mainGlobals "_law_numbers" = some (some (.ref f33))) (l33 : K.lookup f33 = some ⟨oc33, od33, .func (PySem.W.fnOf "_law_numbers" "_law_numbers" (XD Y1) (XB Y1) (Xi Y1) .none kV33 dc33 pm33 an33 cd33 ct33), sl33⟩) (c33 : PySem.W.codeIn K cd33 "_law_numbers" = true) (k33 : PySem.W.keepIn K (.ref f33) = true)
    (a34 : PySem.W.nsIn K mainGlobals "_law_due" = some (some (.ref f34))) (l34 : K.lookup f34 = some ⟨oc34, od34, .func (PySem.W.fnOf "_law_due" "_law_due" (XD U8) (XB U8) (Xi U8) .none kV34 dc34 pm34 an34 cd34 ct34), sl34⟩) (c34 : PySem.W.codeIn K cd34 "_law_due" = true) (k34 : PySem.W.keepIn K (.ref f34) = true)
    (a35 : PySem.W.nsIn K mainGlobals "law" = some (some (.ref f35))) (l35 : K.lookup f35 = some ⟨oc35, od35, .func (PySem.W.fnOf "law" "law" (XD J1) (XB J1) (Xi J1) .none kV35 dc35 pm35 an35 cd35 ct35), sl35⟩) (c35 : PySem.W.codeIn K cd35 "law" = true) (k35 : PySem.W.keepIn K (.ref f35) = true)
    (z1 : PySem.W.nsIn K mainGlobals "abs" = some none)
    (z2 : PySem.W.nsIn K mainGlobals "all" = some none)
    (z3 : PySem.W.nsIn K mainGlobals "bool" = some none)
    (z4 : PySem.W.nsIn K mainGlobals "enumerate" = some none)
    (z5 : PySem.W.nsIn K mainGlobals "isinstance" = some none)
    (z6 : PySem.W.nsIn K mainGlobals "len" = some none)
    (z7 : PySem.W.nsIn K mainGlobals "list" = some none)
    (z8 : PySem.W.nsIn K mainGlobals "max" = some none)
    (z9 : PySem.W.nsIn K mainGlobals "min" = some none)
    (z10 : PySem.W.nsIn K mainGlobals "range" = some none)
    (z11 : PySem.W.nsIn K mainGlobals "sum" = some none)
    : ∃ fd : FuncData, (∀ (s : Shared) (v : Value), BindsTo s fd ⟨[v], []⟩ [("_law_script", v)]) /\ ∀ base : Heap, K.In base -> base.Ns mainGlobals mg -> FnOk l.prog w K mg base CX0 7 fa fd ["_law_script"] (sp1 (rL Xa) (oF X7) KC K) := by
  have e := hfa.symm.trans (PySem.W.mg_of X G a35)
  cases e
  have Z : Blt mg := ⟨PySem.W.mg_none_of X G z1, PySem.W.mg_none_of X G z2, PySem.W.mg_none_of X G z3, PySem.W.mg_none_of X G z4, PySem.W.mg_none_of X G z5, PySem.W.mg_none_of X G z6, PySem.W.mg_none_of X G z7, PySem.W.mg_none_of X G z8, PySem.W.mg_none_of X G z9, PySem.W.mg_none_of X G z10, PySem.W.mg_none_of X G z11⟩
  have D1 : Def K mg "spot" Ju ["drawing", "passage"] := ⟨f1, _, Xw (st := Ju) l1 c1 k1, (Xw (st := Ju) l1 c1 k1).binds (ps := ["drawing", "passage"]) fun _ _ _ _ _ _ us hl => (by obtain ⟨_, _, rfl⟩ := Je hl; rfl), PySem.W.mg_of X G a1⟩
  have D2 : Def K mg "arcs" Js ["drawing"] := ⟨f2, _, Xw (st := Js) l2 c2 k2, (Xw (st := Js) l2 c2 k2).binds (ps := ["drawing"]) fun _ _ _ _ _ _ us hl => (by obtain ⟨_, rfl⟩ := Vx hl; rfl), PySem.W.mg_of X G a2⟩
  have D3 : Def K mg "arc_count" Yx ["drawing"] := ⟨f3, _, Xw (st := Yx) l3 c3 k3, (Xw (st := Yx) l3 c3 k3).binds (ps := ["drawing"]) fun _ _ _ _ _ _ us hl => (by obtain ⟨_, rfl⟩ := Vx hl; rfl), PySem.W.mg_of X G a3⟩
  have D4 : Def K mg "arcs_of_walk" X2 ["walk"] := ⟨f4, _, Xw (st := X2) l4 c4 k4, (Xw (st := X2) l4 c4 k4).binds (ps := ["walk"]) fun _ _ _ _ _ _ us hl => (by obtain ⟨_, rfl⟩ := Vx hl; rfl), PySem.W.mg_of X G a4⟩
  have D5 : Def K mg "arcs_of_ways" Yc ["walk", "first"] := ⟨f5, _, Xw (st := Yc) l5 c5 k5, (Xw (st := Yc) l5 c5 k5).binds (ps := ["walk", "first"]) fun _ _ _ _ _ _ us hl => (by obtain ⟨_, _, rfl⟩ := Je hl; rfl), PySem.W.mg_of X G a5⟩
  have D6 : Def K mg "meets" Qf ["drawing"] := ⟨f6, _, Xw (st := Qf) l6 c6 k6, (Xw (st := Qf) l6 c6 k6).binds (ps := ["drawing"]) fun _ _ _ _ _ _ us hl => (by obtain ⟨_, rfl⟩ := Vx hl; rfl), PySem.W.mg_of X G a6⟩
  have D7 : Def K mg "all_colours" X8 ["numbers", "size"] := ⟨f7, _, Xw (st := X8) l7 c7 k7, (Xw (st := X8) l7 c7 k7).binds (ps := ["numbers", "size"]) fun _ _ _ _ _ _ us hl => (by obtain ⟨_, _, rfl⟩ := Je hl; rfl), PySem.W.mg_of X G a7⟩
  have D8 : Def K mg "fits" Jw ["drawing", "table", "colours"] := ⟨f8, _, Xw (st := Jw) l8 c8 k8, (Xw (st := Jw) l8 c8 k8).binds (ps := ["drawing", "table", "colours"]) fun _ _ _ _ _ _ us hl => (by obtain ⟨_, _, _, rfl⟩ := JJ hl; rfl), PySem.W.mg_of X G a8⟩
  have D9 : Def K mg "ties" JC ["drawing"] := ⟨f9, _, Xw (st := JC) l9 c9 k9, (Xw (st := JC) l9 c9 k9).binds (ps := ["drawing"]) fun _ _ _ _ _ _ us hl => (by obtain ⟨_, rfl⟩ := Vx hl; rfl), PySem.W.mg_of X G a9⟩
  have D10 : Def K mg "all_held" YO ["table", "colours", "asked"] := ⟨f10, _, Xw (st := YO) l10 c10 k10, (Xw (st := YO) l10 c10 k10).binds (ps := ["table", "colours", "asked"]) fun _ _ _ _ _ _ us hl => (by obtain ⟨_, _, _, rfl⟩ := JJ hl; rfl), PySem.W.mg_of X G a10⟩
  have D11 : Def K mg "_law_cell" JA ["_law_script", "_law_place"] := ⟨f11, _, Xw (st := JA) l11 c11 k11, (Xw (st := JA) l11 c11 k11).binds (ps := ["_law_script", "_law_place"]) fun _ _ _ _ _ _ us hl => (by obtain ⟨_, _, rfl⟩ := Je hl; rfl), PySem.W.mg_of X G a11⟩
  have D12 : Def K mg "_law_mix" UA ["_law_cell_here", "_law_k"] := ⟨f12, _, Xw (st := UA) l12 c12 k12, (Xw (st := UA) l12 c12 k12).binds (ps := ["_law_cell_here", "_law_k"]) fun _ _ _ _ _ _ us hl => (by obtain ⟨_, _, rfl⟩ := Je hl; rfl), PySem.W.mg_of X G a12⟩
  have D13 : Def K mg "_law_row" Uz ["_law_script", "_law_place", "_law_sizes"] := ⟨f13, _, Xw (st := Uz) l13 c13 k13, (Xw (st := Uz) l13 c13 k13).binds (ps := ["_law_script", "_law_place", "_law_sizes"]) fun _ _ _ _ _ _ us hl => (by obtain ⟨_, _, _, rfl⟩ := JJ hl; rfl), PySem.W.mg_of X G a13⟩
  have D14 : Def K mg "_law_mixed" Qe ["_law_names", "_law_some"] := ⟨f14, _, Xw (st := Qe) l14 c14 k14, (Xw (st := Qe) l14 c14 k14).binds (ps := ["_law_names", "_law_some"]) fun _ _ _ _ _ _ us hl => (by obtain ⟨_, _, rfl⟩ := Je hl; rfl), PySem.W.mg_of X G a14⟩
  have D15 : Def K mg "_law_any" V3 ["_law_names", "_law_some", "_law_rings"] := ⟨f15, _, Xw (st := V3) l15 c15 k15, (Xw (st := V3) l15 c15 k15).binds (ps := ["_law_names", "_law_some", "_law_rings"]) fun _ _ _ _ _ _ us hl => (by obtain ⟨_, _, _, rfl⟩ := JJ hl; rfl), PySem.W.mg_of X G a15⟩
  have D16 : Def K mg "_law_plaited" Zc ["_law_names", "_law_signs", "_law_some", "_law_strands"] := ⟨f16, _, Xw (st := Zc) l16 c16 k16, (Xw (st := Zc) l16 c16 k16).binds (ps := ["_law_names", "_law_signs", "_law_some", "_law_strands"]) fun _ _ _ _ _ _ us hl => (by obtain ⟨_, _, _, _, rfl⟩ := Hy hl; rfl), PySem.W.mg_of X G a16⟩
  have D17 : Def K mg "_law_drawn" ZX ["_law_script", "_law_place", "_law_most"] := ⟨f17, _, Xw (st := ZX) l17 c17 k17, (Xw (st := ZX) l17 c17 k17).binds (ps := ["_law_script", "_law_place", "_law_most"]) fun _ _ _ _ _ _ us hl => (by obtain ⟨_, _, _, rfl⟩ := JJ hl; rfl), PySem.W.mg_of X G a17⟩
  have D18 : Def K mg "_law_copy" QS ["_law_drawing"] := ⟨f18, _, Xw (st := QS) l18 c18 k18, (Xw (st := QS) l18 c18 k18).binds (ps := ["_law_drawing"]) fun _ _ _ _ _ _ us hl => (by obtain ⟨_, rfl⟩ := Vx hl; rfl), PySem.W.mg_of X G a18⟩
  have D19 : Def K mg "_law_cell_of" Zd ["_law_way", "_law_size", "_law_factor", "_law_a", "_law_b"] := ⟨f19, _, Xw (st := Zd) l19 c19 k19, (Xw (st := Zd) l19 c19 k19).binds (ps := ["_law_way", "_law_size", "_law_factor", "_law_a", "_law_b"]) fun _ _ _ _ _ _ us hl => (by obtain ⟨_, _, _, _, _, rfl⟩ := HQ hl; rfl), PySem.W.mg_of X G a19⟩
  have D20 : Def K mg "_law_common" ZG ["_law_one", "_law_other"] := ⟨f20, _, Xw (st := ZG) l20 c20 k20, (Xw (st := ZG) l20 c20 k20).binds (ps := ["_law_one", "_law_other"]) fun _ _ _ _ _ _ us hl => (by obtain ⟨_, _, rfl⟩ := Je hl; rfl), PySem.W.mg_of X G a20⟩
  have D21 : Def K mg "_law_made" QM ["_law_way", "_law_size", "_law_factor"] := ⟨f21, _, Xw (st := QM) l21 c21 k21, (Xw (st := QM) l21 c21 k21).binds (ps := ["_law_way", "_law_size", "_law_factor"]) fun _ _ _ _ _ _ us hl => (by obtain ⟨_, _, _, rfl⟩ := JJ hl; rfl), PySem.W.mg_of X G a21⟩
  have D22 : Def K mg "_law_ordered" Zg ["_law_some", "_law_count_here"] := ⟨f22, _, Xw (st := Zg) l22 c22 k22, (Xw (st := Zg) l22 c22 k22).binds (ps := ["_law_some", "_law_count_here"]) fun _ _ _ _ _ _ us hl => (by obtain ⟨_, _, rfl⟩ := Je hl; rfl), PySem.W.mg_of X G a22⟩
  have D23 : Def K mg "_law_relaid" Zq ["_law_some", "_law_spots"] := ⟨f23, _, Xw (st := Zq) l23 c23 k23, (Xw (st := Zq) l23 c23 k23).binds (ps := ["_law_some", "_law_spots"]) fun _ _ _ _ _ _ us hl => (by obtain ⟨_, _, rfl⟩ := Je hl; rfl), PySem.W.mg_of X G a23⟩
  have D24 : Def K mg "_law_good_table" Yu ["_law_script", "_law_place", "_law_most"] := ⟨f24, _, Xw (st := Yu) l24 c24 k24, (Xw (st := Yu) l24 c24 k24).binds (ps := ["_law_script", "_law_place", "_law_most"]) fun _ _ _ _ _ _ us hl => (by obtain ⟨_, _, _, rfl⟩ := JJ hl; rfl), PySem.W.mg_of X G a24⟩
  have D25 : Def K mg "_law_arcs" ZL ["_law_walks"] := ⟨f25, _, Xw (st := ZL) l25 c25 k25, (Xw (st := ZL) l25 c25 k25).binds (ps := ["_law_walks"]) fun _ _ _ _ _ _ us hl => (by obtain ⟨_, rfl⟩ := Vx hl; rfl), PySem.W.mg_of X G a25⟩
  have D26 : Def K mg "_law_spot" ZH ["_law_walks", "_law_passage"] := ⟨f26, _, Xw (st := ZH) l26 c26 k26, (Xw (st := ZH) l26 c26 k26).binds (ps := ["_law_walks", "_law_passage"]) fun _ _ _ _ _ _ us hl => (by obtain ⟨_, _, rfl⟩ := Je hl; rfl), PySem.W.mg_of X G a26⟩
  have D27 : Def K mg "_law_meets" Zf ["_law_drawing"] := ⟨f27, _, Xw (st := Zf) l27 c27 k27, (Xw (st := Zf) l27 c27 k27).binds (ps := ["_law_drawing"]) fun _ _ _ _ _ _ us hl => (by obtain ⟨_, rfl⟩ := Vx hl; rfl), PySem.W.mg_of X G a27⟩
  have D28 : Def K mg "_law_count" Z0 ["_law_drawing"] := ⟨f28, _, Xw (st := Z0) l28 c28 k28, (Xw (st := Z0) l28 c28 k28).binds (ps := ["_law_drawing"]) fun _ _ _ _ _ _ us hl => (by obtain ⟨_, rfl⟩ := Vx hl; rfl), PySem.W.mg_of X G a28⟩
  have D29 : Def K mg "_law_keeps" Qh ["_law_meetings", "_law_table", "_law_colours"] := ⟨f29, _, Xw (st := Qh) l29 c29 k29, (Xw (st := Qh) l29 c29 k29).binds (ps := ["_law_meetings", "_law_table", "_law_colours"]) fun _ _ _ _ _ _ us hl => (by obtain ⟨_, _, _, rfl⟩ := JJ hl; rfl), PySem.W.mg_of X G a29⟩
  have D30 : Def K mg "_law_all" Uj ["_law_drawing", "_law_table"] := ⟨f30, _, Xw (st := Uj) l30 c30 k30, (Xw (st := Uj) l30 c30 k30).binds (ps := ["_law_drawing", "_law_table"]) fun _ _ _ _ _ _ us hl => (by obtain ⟨_, _, rfl⟩ := Je hl; rfl), PySem.W.mg_of X G a30⟩
  have D31 : Def K mg "_law_power" Qa ["_law_size", "_law_count_here"] := ⟨f31, _, Xw (st := Qa) l31 c31 k31, (Xw (st := Qa) l31 c31 k31).binds (ps := ["_law_size", "_law_count_here"]) fun _ _ _ _ _ _ us hl => (by obtain ⟨_, _, rfl⟩ := Je hl; rfl), PySem.W.mg_of X G a31⟩
  have D32 : Def K mg "_law_tried" Qc ["_law_drawing", "_law_table", "_law_pick"] := ⟨f32, _, Xw (st := Qc) l32 c32 k32, (Xw (st := Qc) l32 c32 k32).binds (ps := ["_law_drawing", "_law_table", "_law_pick"]) fun _ _ _ _ _ _ us hl => (by obtain ⟨_, _, _, rfl⟩ := JJ hl; rfl), PySem.W.mg_of X G a32⟩
  have D33 : Def K mg "_law_numbers" Y1 ["_law_drawing", "_law_table", "_law_some"] := ⟨f33, _, Xw (st := Y1) l33 c33 k33, (Xw (st := Y1) l33 c33 k33).binds (ps := ["_law_drawing", "_law_table", "_law_some"]) fun _ _ _ _ _ _ us hl => (by obtain ⟨_, _, _, rfl⟩ := JJ hl; rfl), PySem.W.mg_of X G a33⟩
  have D34 : Def K mg "_law_due" U8 ["_law_drawing", "_law_table", "_law_colours"] := ⟨f34, _, Xw (st := U8) l34 c34 k34, (Xw (st := U8) l34 c34 k34).binds (ps := ["_law_drawing", "_law_table", "_law_colours"]) fun _ _ _ _ _ _ us hl => (by obtain ⟨_, _, _, rfl⟩ := JJ hl; rfl), PySem.W.mg_of X G a34⟩
  refine ⟨PySem.W.fnOf "law" "law" (XD J1) (XB J1) (Xi J1) .none kV35 dc35 pm35 an35 cd35 ct35, fun s v => .of_eq rfl, fun base _ _ => ?_⟩
  have g_cell := BJ (P := l.prog) (w := w) (base := base) D11  Z
  have g_mix := Hc (P := l.prog) (w := w) (base := base) D12  Z
  have g_row := ES (P := l.prog) (w := w) (base := base) D13 g_cell g_mix Z
  have g_plaited := GL (P := l.prog) (w := w) (base := base) D16  Z
  have g_any := Hz (P := l.prog) (w := w) (base := base) D15  Z
  have g_mixed := C8 (P := l.prog) (w := w) (base := base) D14  Z
  have g_drawn := CD (P := l.prog) (w := w) (base := base) D17 g_row g_plaited g_any g_mixed Z
  have g_common := DE (P := l.prog) (w := w) (base := base) D20  Z
  have g_cell_of := GQ (P := l.prog) (w := w) (base := base) D19  Z
  have g_made := Es (P := l.prog) (w := w) (base := base) D21 g_common g_cell_of Z
  have g_relaid := FQ (P := l.prog) (w := w) (base := base) D23  Z
  have g_ordered := G6 (P := l.prog) (w := w) (base := base) D22  Z
  have g_good_table := Ue (P := l.prog) (w := w) (base := base) D24 g_row g_made g_relaid g_ordered Z
  have g_count := CA (P := l.prog) (w := w) (base := base) D28  Z
  have g_l_arcs := F0 (P := l.prog) (w := w) (base := base) D25  Z
  have g_l_spot := FH (P := l.prog) (w := w) (base := base) D26  Z
  have g_l_meets := GV (P := l.prog) (w := w) (base := base) D27 g_l_arcs g_l_spot Z
  have g_keeps := C6 (P := l.prog) (w := w) (base := base) D29  Z
  have g_all := Hm (P := l.prog) (w := w) (base := base) D30 g_l_meets g_count g_keeps Z
  have g_power := CG (P := l.prog) (w := w) (base := base) D31  Z
  have g_tried := CC (P := l.prog) (w := w) (base := base) D32 g_all g_power g_count Z
  have g_numbers := GG (P := l.prog) (w := w) (base := base) D33 g_count g_tried Z
  have g_copy := BQ (P := l.prog) (w := w) (base := base) D18  Z
  have g_all_held := KN (P := l.prog) (w := w) (base := base) D10  Z
  have g_arcs_of_walk := Ve (P := l.prog) (w := w) (base := base) D4  Z
  have g_arcs_of_ways := J3 (P := l.prog) (w := w) (base := base) D5 g_arcs_of_walk Z
  have g_arcs := Eb (P := l.prog) (w := w) (base := base) D2 g_arcs_of_walk g_arcs_of_ways Z
  have g_spot := BW (P := l.prog) (w := w) (base := base) D1  Z
  have g_meets := CQ (P := l.prog) (w := w) (base := base) D6 g_arcs g_spot Z
  have g_ties := BR (P := l.prog) (w := w) (base := base) D9 g_meets Z
  have g_arc_count := Kg (P := l.prog) (w := w) (base := base) D3 g_arcs_of_walk Z
  have g_all_colours := VA (P := l.prog) (w := w) (base := base) D7  Z
  have g_fits := BF (P := l.prog) (w := w) (base := base) D8 g_all_held g_ties g_arc_count g_all_colours Z
  have g_due := Hu (P := l.prog) (w := w) (base := base) D34 g_keeps g_count g_l_meets Z
  exact E1 (P := l.prog) (w := w) (base := base) (Xw (st := J1) l35 c35 k35) g_row g_drawn g_good_table g_numbers g_copy g_fits g_due Z
theorem Iz {l : PySem.W.OpenLaw} {q : Program} {loose : List Str} {XP : (Str -> Option Value) -> Heap -> Prop} {YP : World -> Heap -> Prop} {d : DefRec} {K : Params -> PySem.W.Frag} (hn : l.most = some 63) (hdf : d.params.defaults = [])
    (hY : ∀ (w : World) (h : Heap), YP w h -> (K w.params).In h)
    (F : ∀ (w : World) (mg : Str -> Option Value) (fa : Addr) (h : Heap), (K w.params).In h -> h.Ns mainGlobals mg -> mg d.name = some (.ref fa) ->
      ∃ fd : FuncData, (∀ (s : Shared) (u : Value), BindsTo s fd ⟨[u], []⟩ [("_law_script", u)]) /\ ∀ base : Heap, (K w.params).In base -> base.Ns mainGlobals mg -> FnOk l.prog w (K w.params) mg base CX0 7 fa fd ["_law_script"] (sp1 (rL Xa) (oF X7) KC (K w.params))) :
    PySem.W.WalkO q loose XP YP l.row.toRowW d [] (fun f vs => PySem.call f vs) :=
  L2.BL (n := 63) (k := 7) (x := "_law_script") (CX := fun _ => CX0) (sp := fun w => sp1 (rL Xa) (oF X7) KC (K w.params)) hn (by decide) hdf ⟨rfl, by decide, by decide⟩ hY F (fun _ _ a ns hl _ hS => ⟨.ref a, ns, true, rfl, ⟨a, _, rfl, hS, Ku ns⟩, CH ns hl, fun v C H' w m ho => ho.2⟩) fun _ _ _ _ _ z => z
end My
open PySem PySem.W PyProof.Rows
set_option maxRecDepth 100000 in
set_option maxHeartbeats 0 in
theorem PySem.Challenge.cw_plait_k51_what_fits_holds : PySem.Challenge.rw_plait_k51_what_fits.Holds := by
  w_on; o_law; k_head; (case hw => w_witness2)
  k_fill
  refine My.Iz (l := PySem.Challenge.rw_plait_k51_what_fits) rfl rfl (fun w h Y => PySem.W.kIn_of Y) ?F
  case F =>
    intro w mg fa h KX G hmg
    refine' My.E7 KX G hmg ?a1 ?l1 ?c1 ?k1 ?a2 ?l2 ?c2 ?k2 ?a3 ?l3 ?c3 ?k3 ?a4 ?l4 ?c4 ?k4 ?a5 ?l5 ?c5 ?k5 ?a6 ?l6 ?c6 ?k6 ?a7 ?l7 ?c7 ?k7 ?a8 ?l8 ?c8 ?k8 ?a9 ?l9 ?c9 ?k9 ?a10 ?l10 ?c10 ?k10 ?a11 ?l11 ?c11 ?k11 ?a12 ?l12 ?c12 ?k12 ?a13 ?l13 ?c13 ?k13 ?a14 ?l14 ?c14 ?k14 ?a15 ?l15 ?c15 ?k15 ?a16 ?l16 ?c16 ?k16 ?a17 ?l17 ?c17 ?k17 ?a18 ?l18 ?c18 ?k18 ?a19 ?l19 ?c19 ?k19 ?a20 ?l20 ?c20 ?k20 ?a21 ?l21 ?c21 ?k21 ?a22 ?l22 ?c22 ?k22 ?a23 ?l23 ?c23 ?k23 ?a24 ?l24 ?c24 ?k24 ?a25 ?l25 ?c25 ?k25 ?a26 ?l26 ?c26 ?k26 ?a27 ?l27 ?c27 ?k27 ?a28 ?l28 ?c28 ?k28 ?a29 ?l29 ?c29 ?k29 ?a30 ?l30 ?c30 ?k30 ?a31 ?l31 ?c31 ?k31 ?a32 ?l32 ?c32 ?k32 ?a33 ?l33 ?c33 ?k33 ?a34 ?l34 ?c34 ?k34 ?a35 ?l35 ?c35 ?k35 ?z1 ?z2 ?z3 ?z4 ?z5 ?z6 ?z7 ?z8 ?z9 ?z10 ?z11
    (case a1 => k_is); (case l1 => k_is); (case c1 => k_is); (case k1 => k_is); (case a2 => k_is); (case l2 => k_is); (case c2 => k_is); (case k2 => k_is); (case a3 => k_is); (case l3 => k_is); (case c3 => k_is); (case k3 => k_is); (case a4 => k_is); (case l4 => k_is); (case c4 => k_is); (case k4 => k_is); (case a5 => k_is); (case l5 => k_is); (case c5 => k_is); (case k5 => k_is); (case a6 => k_is); (case l6 => k_is); (case c6 => k_is); (case k6 => k_is); (case a7 => k_is); (case l7 => k_is); (case c7 => k_is); (case k7 => k_is); (case a8 => k_is); (case l8 => k_is); (case c8 => k_is); (case k8 => k_is); (case a9 => k_is); (case l9 => k_is); (case c9 => k_is); (case k9 => k_is); (case a10 => k_is); (case l10 => k_is); (case c10 => k_is); (case k10 => k_is); (case a11 => k_is); (case l11 => k_is); (case c11 => k_is); (case k11 => k_is); (case a12 => k_is); (case l12 => k_is); (case c12 => k_is); (case k12 => k_is); (case a13 => k_is); (case l13 => k_is); (case c13 => k_is); (case k13 => k_is); (case a14 => k_is); (case l14 => k_is); (case c14 => k_is); (case k14 => k_is); (case a15 => k_is); (case l15 => k_is); (case c15 => k_is); (case k15 => k_is); (case a16 => k_is); (case l16 => k_is); (case c16 => k_is); (case k16 => k_is); (case a17 => k_is); (case l17 => k_is); (case c17 => k_is); (case k17 => k_is); (case a18 => k_is); (case l18 => k_is); (case c18 => k_is); (case k18 => k_is); (case a19 => k_is); (case l19 => k_is); (case c19 => k_is); (case k19 => k_is); (case a20 => k_is); (case l20 => k_is); (case c20 => k_is); (case k20 => k_is); (case a21 => k_is); (case l21 => k_is); (case c21 => k_is); (case k21 => k_is); (case a22 => k_is); (case l22 => k_is); (case c22 => k_is); (case k22 => k_is); (case a23 => k_is); (case l23 => k_is); (case c23 => k_is); (case k23 => k_is); (case a24 => k_is); (case l24 => k_is); (case c24 => k_is); (case k24 => k_is); (case a25 => k_is); (case l25 => k_is); (case c25 => k_is); (case k25 => k_is); (case a26 => k_is); (case l26 => k_is); (case c26 => k_is); (case k26 => k_is); (case a27 => k_is); (case l27 => k_is); (case c27 => k_is); (case k27 => k_is); (case a28 => k_is); (case l28 => k_is); (case c28 => k_is); (case k28 => k_is); (case a29 => k_is); (case l29 => k_is); (case c29 => k_is); (case k29 => k_is); (case a30 => k_is); (case l30 => k_is); (case c30 => k_is); (case k30 => k_is); (case a31 => k_is); (case l31 => k_is); (case c31 => k_is); (case k31 => k_is); (case a32 => k_is); (case l32 => k_is); (case c32 => k_is); (case k32 => k_is); (case a33 => k_is); (case l33 => k_is); (case c33 => k_is); (case k33 => k_is); (case a34 => k_is); (case l34 => k_is); (case c34 => k_is); (case k34 => k_is); (case a35 => k_is); (case l35 => k_is); (case c35 => k_is); (case k35 => k_is); (case z1 => k_is); (case z2 => k_is); (case z3 => k_is); (case z4 => k_is); (case z5 => k_is); (case z6 => k_is); (case z7 => k_is); (case z8 => k_is); (case z9 => k_is); (case z10 => k_is); (case z11 => k_is)
