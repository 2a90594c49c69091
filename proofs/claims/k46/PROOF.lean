import PyProof.Rows.All
import Wide.All
import OpenK.AllK
import Wide.FinOn
import Lean
import PyProof.EqAt
import PyProof.EqKinds
import PyProof.TupleCall
import PySem.Challenge.RW_plait_k46_kinds
set_option Elab.async false
set_option linter.all false
set_option maxRecDepth 100000
namespace L2
open PySem PySem.Spec PyProof.Rows
noncomputable abbrev Key:=Sum Int Str
noncomputable def G4 : Key -> Value -> Bool
  | .inl k, v=>Value.isInt k v
  | .inr x, v=>Value.isStrOf x v
noncomputable def Mc (w : World) : Key -> Int
  | .inl k=>hashInt k
  | .inr x=>hashStr w x
theorem Yh : ∀ {k : Key} {v : Value}, G4 k v = true -> (∃ i t, k = Sum.inl i /\ v = Value.int i t) ∨ (∃ x t, k = Sum.inr x /\ v = Value.str x t)
  | .inl i, v, h=>by
    obtain ⟨t, e⟩:=Value.isInt_shape (k:=i) (v:=v) h
    exact .inl ⟨i, t, rfl, e⟩
  | .inr x, v, h=>by
    obtain ⟨t, e⟩:=Value.isStrOf_shape (x:=x) (v:=v) h
    exact .inr ⟨x, t, rfl, e⟩
theorem Ff (i : Int) (t : Tok) : G4 (.inl i) (.int i t) = true:=by simp [G4, Value.isInt]
theorem FV (x : Str) (t : Tok) : G4 (.inr x) (.str x t) = true:=by simp [G4, Value.isStrOf]
theorem Iw (a b : Int) : decide ((Sum.inl a : Key) = Sum.inl b) = (a == b):=by
  by_cases e : a = b
  . subst e; simp
  . have h : ¬ (Sum.inl a : Key) = Sum.inl b := fun q => e (Sum.inl.inj q)
    rw [decide_eq_false h]
    exact (beq_eq_false_iff_ne.mpr e).symm
theorem H9 (a b : Str) : decide ((Sum.inr a : Key) = Sum.inr b) = decide (a = b):=by
  by_cases e : a = b
  . subst e; simp
  . have h : ¬ (Sum.inr a : Key) = Sum.inr b := fun q => e (Sum.inr.inj q)
    rw [decide_eq_false h, decide_eq_false e]
theorem Ih (a : Int) (b : Str) : decide ((Sum.inl a : Key) = Sum.inr b) = false:=decide_eq_false (fun q=>nomatch q)
theorem IF (a : Str) (b : Int) : decide ((Sum.inr a : Key) = Sum.inl b) = false:=decide_eq_false (fun q=>nomatch q)
noncomputable def Zq (prog : Program) (w : World) : PySem.KeyKind prog w Key where
  is:=G4
  hash:=Mc w
  inj:=fun v a b ha hb=>by
    rcases Yh ha with ⟨i, t, rfl, rfl⟩ | ⟨x, t, rfl, rfl⟩
    . rcases Yh hb with ⟨j, u, rfl, e⟩ | ⟨y, u, rfl, e⟩
      . injection e with e1 _; rw [e1]
      . exact nomatch e
    . rcases Yh hb with ⟨j, u, rfl, e⟩ | ⟨y, u, rfl, e⟩
      . exact nomatch e
      . injection e with e1 _; rw [e1]
  byValue := fun k v h => by
    rcases Yh h with ⟨i, t, rfl, rfl⟩ | ⟨x, t, rfl, rfl⟩ <;> rfl
  pyHash:=fun hv h=>by
    rcases Yh hv with ⟨i, t, rfl, rfl⟩ | ⟨x, t, rfl, rfl⟩
    . exact wpAny_pyHash_int h
    . exact wpAny_pyHash_str h
  eqBool:=fun hu hv h=>by
    rcases Yh hu with ⟨i, t, rfl, rfl⟩ | ⟨x, t, rfl, rfl⟩
    . rcases Yh hv with ⟨j, u, rfl, rfl⟩ | ⟨y, u, rfl, rfl⟩
      . rw [Iw] at h; exact wpAny_eqBool_int h
      . rw [Ih] at h; exact SeqAt.EqAt.int_str i t y u _ _ _ _ h
    . rcases Yh hv with ⟨j, u, rfl, rfl⟩ | ⟨y, u, rfl, rfl⟩
      . rw [IF] at h; exact SeqAt.EqAt.str_int x t j u _ _ _ _ h
      . rw [H9] at h; exact wpAny_eqBool_str h
  «strs»:=fun k x t v h=>by
    rcases Yh h with ⟨i, u, rfl, e⟩ | ⟨y, u, rfl, e⟩
    . exact nomatch e
    . injection e with e1 _
      subst e1
      cases v <;> rfl
theorem Kp (prog : Program) (w : World) (i : Int) (t : Tok) : (Zq prog w).is (.inl i) (.int i t) = true:=Ff i t
theorem Kq (prog : Program) (w : World) (x : Str) (t : Tok) : (Zq prog w).is (.inr x) (.str x t) = true:=FV x t
end L2
namespace L2
open PySem PySem.Spec PyProof.Rows
inductive V where
  | non | bl (b : Bool) | int (i : Int) | str (x : Str) | byt (b : Array UInt8) | flt (b : UInt64) | ref (a : Addr) | ty (n : String)
  deriving DecidableEq
noncomputable def X7 : V -> Value -> Prop
  | .non, u=>u = Value.none
  | .bl b, u=>u = Value.bool b
  | .int i, u=>∃ t, u = Value.int i t
  | .str x, u=>∃ t, u = Value.str x t
  | .byt b, u=>∃ t, u = Value.bytes b t
  | .flt b, u=>∃ t, u = Value.float b t
  | .ref a, u=>u = Value.ref a
  | .ty n, u=>u = Value.type n
noncomputable abbrev X3 : List V -> List Value -> Prop:=Paired X7
theorem X3.length {xs : List V} {us : List Value} (r : X3 xs us) : xs.length = us.length:=Paired.length r
theorem X3.get : ∀ {xs : List V} {us : List Value} {i : Nat} {x : V}, X3 xs us -> xs[i]? = some x -> ∃ u, us[i]? = some u /\ X7 x u
  | _, _, _, _, .nil, e=>by simp at e
  | _, _, 0, _, .cons r _, e=>by simp at e; subst e; exact ⟨_, rfl, r⟩
  | _, _, i + 1, x, .cons _ t, e=>by
    obtain ⟨u, h1, h2⟩:=X3.get (i:=i) (x:=x) t (by simpa using e)
    exact ⟨u, by simpa using h1, h2⟩
theorem X3.set {x : V} {u : Value} (r : X7 x u) : ∀ {xs : List V} {us : List Value} (i : Nat), X3 xs us -> X3 (xs.set i x) (us.set i u)
  | _, _, _, .nil=>.nil
  | _, _, 0, .cons _ t=>.cons r t
  | _, _, i + 1, .cons q t=>.cons q (X3.set r i t)
theorem X3.append : ∀ {xs ys : List V} {us ws : List Value}, X3 xs us -> X3 ys ws -> X3 (xs ++ ys) (us ++ ws)
  | _, _, _, _, .nil, s=>s
  | _, _, _, _, .cons r t, s=>.cons r (X3.append t s)
theorem X3.take : ∀ {xs : List V} {us : List Value} (n : Nat), X3 xs us -> X3 (xs.take n) (us.take n)
  | _, _, 0, _=>.nil
  | _, _, _ + 1, .nil=>.nil
  | _, _, n + 1, .cons r t=>.cons r (X3.take n t)
theorem X3.drop : ∀ {xs : List V} {us : List Value} (n : Nat), X3 xs us -> X3 (xs.drop n) (us.drop n)
  | _, _, 0, r=>r
  | _, _, _ + 1, .nil=>.nil
  | _, _, n + 1, .cons _ t=>X3.drop n t
noncomputable def Bc : Option V -> Option Value -> Prop
  | some v, some u=>X7 v u
  | none, none=>True
  | _, _=>False
noncomputable def KV {κ : Type} : List (κ × V) -> List (κ × Value) -> Prop:=Paired fun (p : κ × V) (q : κ × Value)=>p.1 = q.1 /\ X7 p.2 q.2
noncomputable def kV : Key -> V
  | .inl i=>.int i
  | .inr x=>.str x
inductive HO where
  /-- a list -/
  | lst (xs : List V)
  /-- a tuple (never changes) -/
  | tup (xs : List V)
  /-- a dict whose keys are ints and texts; one whose keys are tuples of ints and texts (the empty one is both) -/
  | dK (kvs : List (Key × V)) | dT (kvs : List (List Key × V))
  /-- a set of ints: its members, its size -/
  | set (S : Int -> Bool) (n : Nat)
  /-- an instance of the class at C, its dict at dx, its attributes -/
  | ins (C dx : Addr) (fs : List (Str × V))
  /-- the dict of the instance at x -/
  | own (x : Addr)
  /-- the dict of an exception -/
  | xd (fs : List (Str × V))
  /-- a bound method, f of x -/
  | met (f x : Addr)
  /-- a range object lo, lo + 1, .. below hi -/
  | rng (lo hi : Int)
  /-- a thing that is known to the object (the script; a dict while a loop walks it): read, never written while it is so -/
  | frz (o : Obj) (u : HO)
  /-- a code object's table -/
  | tbl (ps : Array Value)
  /-- any other thing, by what is true of its one object (a def of one's own: SetO a S n:=HO.ext fun h=>..) -/
  | ext (φ : Heap -> Prop)
noncomputable abbrev Hp:=Addr -> Option HO
noncomputable def upd (H : Hp) (a : Addr) (o : HO) : Hp:=fun b=>if b = a then some o else H b
theorem YA {H : Hp} {a : Addr} {o : HO} : upd H a o a = some o:=by unfold upd; rw [if_pos rfl]
theorem XJ {H : Hp} {a b : Addr} {o : HO} (h : b ≠ a) : upd H a o b = H b:=by unfold upd; rw [if_neg h]
theorem XR {H : Hp} {a b : Addr} {o : HO} (h : H a = some o) (h' : H b = none) : a ≠ b:=by
  intro e; subst e; rw [h] at h'; cases h'
section
variable (P : Program) (w : World)
noncomputable def Zb (H : Hp) (h : Heap) (a : Addr) : HO -> Prop
  | .lst xs=>xs.length <= sizeLine /\ ∃ (its : List Value) (n : Nat), X3 xs its /\ h.get? a = some { cls:=.type "list", data:=.seq its.toArray n }
  | .tup xs=>xs.length <= sizeLine /\ ∃ its : List Value, X3 xs its /\ IsTup h a its.toArray
  | .dK kvs=>kvs.length <= sizeLine /\ (a == sysModules) = false /\ ∃ vs, KV kvs vs /\ h.DictOf (Zq P w) a vs
  | .dT kvs=>kvs.length <= sizeLine /\ (a == sysModules) = false /\ ∃ xs : List (List Key × Addr × Value),
      Paired (fun (p : List Key × V) (q : List Key × Addr × Value)=>p.1 = q.1 /\ H q.2.1 = some (.tup (p.1.map kV)) /\ X7 p.2 q.2.2) kvs xs /\
      ∃ o es ep, h.get? a = some o /\ o.ExactDict /\ o.data = .dict es ep /\ es.toList = xs.map (entryOfKey (tupleKind (Zq P w))) /\ (xs.map (·.1)).Nodup
  | .set S n=>h.SetOf (intKind P w) a S n
  | .ins C dx fs=>H dx = some (.own a) /\ fs.length <= 1000 /\ dx ≠ a /\ h.get? a = some (PySem.W.instObj C dx) /\
      ∃ mA, h.Ns1 dx mA /\ (∀ f, Bc (fs.lookup f) (mA f)) /\ PySem.Within mA (fs.map (·.1))
  | .own _=>∃ o, h.get? a = some o
  | .xd fs=>∃ mA, h.Ns1 a mA /\ ∀ f, Bc (fs.lookup f) (mA f)
  | .rng lo hi=>∃ t u v, h.get? a = some { cls:=.type "range", data:=.fields #[.int lo t, .int hi u, .int 1 v] }
  | .frz o u=>h.get? a = some o /\ Zb H h a u
  | .tbl ps=>h.get? a = some { cls:=.none, data:=.fields ps }
  | .met f x=>h.get? a = some (PySem.W.methodObj (.ref f) (.ref x))
  | .ext φ=>φ h /\ (∃ o, h.get? a = some o) /\ ∀ h1 h2 : Heap, φ h1 -> (∀ o, h1.get? a = some o -> h2.get? a = some o) -> φ h2
noncomputable def HOk (H : Hp) (h : Heap) : Prop:=∀ a o, H a = some o -> Zb P w H h a o
end
section
variable {P : Program} {w : World} {H H' : Hp} {h h' : Heap} {a : Addr} {o : HO}
theorem Zb.lt (x : Zb P w H h a o) : a < h.objs.size:=by
  cases o with
  | lst xs=>obtain ⟨_, _, _, _, e⟩:=x; exact Heap.lt_size e
  | tup xs=>obtain ⟨_, _, _, p⟩:=x; exact p.lt
  | dK kvs=>obtain ⟨_, _, _, _, o, _, _, e, _⟩:=x; exact Heap.lt_size e
  | dT kvs=>obtain ⟨_, _, _, _, o, _, _, e, _⟩:=x; exact Heap.lt_size e
  | set S n=>obtain ⟨o, _, _, _, e, _⟩:=x; exact Heap.lt_size e
  | ins C dx fs=>obtain ⟨_, _, _, e, _⟩:=x; exact Heap.lt_size e
  | own y=>obtain ⟨_, e⟩:=x; exact Heap.lt_size e
  | xd fs=>obtain ⟨_, ⟨_, _, _, e, _⟩, _⟩:=x; exact Heap.lt_size e
  | rng lo hi=>obtain ⟨_, _, _, e⟩:=x; exact Heap.lt_size e
  | frz ob u=>obtain ⟨e, _⟩:=x; exact Heap.lt_size e
  | tbl ps=>exact Heap.lt_size (show h.get? a = some _ from x)
  | met f y=>exact Heap.lt_size (show h.get? a = some _ from x)
  | ext φ=>obtain ⟨_, ⟨_, e⟩, _⟩:=x; exact Heap.lt_size e
theorem Paired.mapP {α β : Type} {F G : α -> β -> Prop} : ∀ {l₁ : List α} {l₂ : List β}, Paired F l₁ l₂ -> (∀ a b, F a b -> G a b) -> Paired G l₁ l₂
  | _, _, .nil, _=>.nil
  | _, _, .cons r t, f=>.cons (f _ _ r) (Paired.mapP t f)
theorem Zb.stay (x : Zb P w H h a o) (k : ∀ b u, (b = a ∨ H b = some (.own a)) -> h.get? b = some u -> h'.get? b = some u)
    (ho : ∀ b, H b = some (.own a) -> H' b = some (.own a)) (ht : ∀ b xs, H b = some (.tup xs) -> H' b = some (.tup xs)) : Zb P w H' h' a o:=by
  induction o with
  | lst xs=>obtain ⟨z, its, n, r, e⟩:=x; exact ⟨z, its, n, r, k _ _ (.inl rfl) e⟩
  | tup xs=>obtain ⟨z, its, r, ob, e, c⟩:=x; exact ⟨z, its, r, ob, k _ _ (.inl rfl) e, c⟩
  | dK kvs=>obtain ⟨z, y, vs, r, ob, es, ep, e, c⟩:=x; exact ⟨z, y, vs, r, ob, es, ep, k _ _ (.inl rfl) e, c⟩
  | dT kvs=>
    obtain ⟨z, y, xs, r, ob, es, ep, e, c⟩:=x
    exact ⟨z, y, xs, Paired.mapP r fun p q z=>⟨z.1, ht _ _ z.2.1, z.2.2⟩, ob, es, ep, k _ _ (.inl rfl) e, c⟩
  | set S n=>obtain ⟨ob, es, ep, t, e, c⟩:=x; exact ⟨ob, es, ep, t, k _ _ (.inl rfl) e, c⟩
  | ins C dx fs=>
    obtain ⟨d, z, ne, e, mA, ⟨od, es, ep, e2, c⟩, r⟩:=x
    exact ⟨ho _ d, z, ne, k _ _ (.inl rfl) e, mA, ⟨od, es, ep, k _ _ (.inr d) e2, c⟩, r⟩
  | own y=>obtain ⟨ob, e⟩:=x; exact ⟨ob, k _ _ (.inl rfl) e⟩
  | xd fs=>obtain ⟨mA, ⟨od, es, ep, e, c⟩, r⟩:=x; exact ⟨mA, ⟨od, es, ep, k _ _ (.inl rfl) e, c⟩, r⟩
  | rng lo hi=>obtain ⟨t, u, v, e⟩:=x; exact ⟨t, u, v, k _ _ (.inl rfl) e⟩
  | frz ob u ih=>obtain ⟨e, q⟩:=x; exact ⟨k _ _ (.inl rfl) e, ih q⟩
  | tbl ps=>
    have e : h.get? a = some { cls:=.none, data:=.fields ps }:=x
    show h'.get? a = some { cls:=.none, data:=.fields ps }
    exact k a _ (.inl rfl) e
  | met f y=>
    have e : h.get? a = some (PySem.W.methodObj (.ref f) (.ref y)):=x
    show h'.get? a = some (PySem.W.methodObj (.ref f) (.ref y))
    exact k a _ (.inl rfl) e
  | ext φ=>obtain ⟨p, ⟨o, e⟩, st⟩:=x; exact ⟨st _ _ p fun o q=>k _ _ (.inl rfl) q, ⟨o, k _ _ (.inl rfl) e⟩, st⟩
theorem HOk.lt (x : HOk P w H h) (e : H a = some o) : a < h.objs.size:=(x a o e).lt
theorem HOk.fresh (x : HOk P w H h) (e : h.objs.size <= a) : H a = none:=by
  cases q : H a with
  | none=>rfl
  | some u=>exact absurd (Nat.lt_of_lt_of_le (x.lt q) e) (Nat.lt_irrefl _)
theorem HOk.kept (x : HOk P w H h) (k : ∀ b u, h.get? b = some u -> h'.get? b = some u) : HOk P w H h':=fun a o e=>
  (x a o e).stay (fun b u _ q=>k b u q) (fun _ q=>q) fun _ _ q=>q
theorem HOk.laid (x : HOk P w H h) (k : ∀ b u, h.get? b = some u -> h'.get? b = some u) (hp : h.objs.size <= a) (new : Zb P w (upd H a o) h' a o) : HOk P w (upd H a o) h':=fun b u e=>by
  have hn:=x.fresh hp
  by_cases hb : b = a
  . subst hb; rw [YA] at e; cases e; exact new
  . rw [XJ hb] at e
    exact (x b u e).stay (fun c v _ q=>k c v q) (fun c q=>by rw [XJ (XR q hn)]; exact q) fun c xs q=>by rw [XJ (XR q hn)]; exact q
end
noncomputable def Rd (H : Hp) (a : Addr) (u : HO) : Prop:=H a = some u ∨ ∃ o, H a = some (.frz o u)
theorem Rd.of {H : Hp} {a : Addr} {u : HO} (h : H a = some u) : Rd H a u:=.inl h
theorem Rd.ok {P : Program} {w : World} {H : Hp} {h : Heap} {a : Addr} {u : HO} (r : Rd H a u) (x : HOk P w H h) : Zb P w H h a u:=by
  rcases r with r | ⟨o, r⟩
  . exact x a u r
  . obtain ⟨_, q⟩ := x a _ r
    exact q
noncomputable def Mut : Option HO -> Prop
  | some (.lst _)=>True
  | some (.dK _)=>True
  | some (.dT _)=>True
  | some (.set _ _)=>True
  | some (.ins _ _ _)=>True
  | some (.ext _)=>True
  | _=>False
section
variable {P : Program} {w : World} {H : Hp} {h h' : Heap} {x e : Addr} {o' : HO}
theorem HOk.write (ok : HOk P w H h) (mu : Mut (H x)) (he : e = x ∨ H e = some (.own x)) (k : ∀ b u, b ≠ e -> h.get? b = some u -> h'.get? b = some u) (heo : ∃ u, h'.get? e = some u)
    (new : Zb P w (upd H x o') h' x o') : HOk P w (upd H x o') h':=fun b u q=>by
  have nown : ∀ c y, H c = some (.own y) -> c ≠ x:=fun c y r z=>by subst z; rw [r] at mu; exact mu
  have ntup : ∀ c xs, H c = some (.tup xs) -> c ≠ x:=fun c xs r z=>by subst z; rw [r] at mu; exact mu
  by_cases hb : b = x
  . subst hb; rw [YA] at q; cases q; exact new
  . rw [XJ hb] at q
    by_cases hbe : b = e
    . have q' : H b = some (.own x):=by
        rcases he with z | z
        . exact absurd (hbe.trans z) hb
        . rw [hbe]; exact z
      rw [q] at q'; cases q'
      obtain ⟨v, hv⟩:=heo
      exact ⟨v, by rw [hbe]; exact hv⟩
    . refine (ok b u q).stay (fun c v hc r => k c v ?_ r) (fun c r => by rw [XJ (nown c b r)]; exact r) fun c xs r => by rw [XJ (ntup c xs r)]; exact r
      rcases hc with rfl | hc
      . exact hbe
      . rintro rfl
        rcases he with z | z
        . exact nown c b hc z
        . rw [hc] at z; cases z; exact hb rfl
end
structure Un (fs ex : List Addr) (H H' : Hp) (h h' : Heap) : Prop where
  keep : ∀ b o, h.get? b = some o -> H b = none -> b ∉ fs -> b ∉ ex -> h'.get? b = some o
  slot : ∀ b o, h.get? b = some o -> H b = none -> b ∈ fs -> b ∉ ex -> ∃ sl, h'.get? b = some { o with slots:=sl }
  free : ∀ b o, h.get? b = some o -> H b = none -> b ∉ ex -> H' b = none
  there : ∀ b o, h.get? b = some o -> b ∉ ex -> ∃ o', h'.get? b = some o'
  tups : ∀ b xs, H b = some (.tup xs) -> H' b = some (.tup xs)
  frzs : ∀ b o u, H b = some (.frz o u) -> H' b = some (.frz o u)
  tbls : ∀ b ps, H b = some (.tbl ps) -> ∃ more, H' b = some (.tbl (ps ++ more))
section
variable {fs fs' ex ex' : List Addr} {H H1 H2 : Hp} {h h1 h2 h' : Heap} {a x e : Addr} {o : HO}
theorem Un.any (u : Un fs ex H H1 h h1) {b : Addr} {ob : Obj} (q : h.get? b = some ob) (n : H b = none) (hx : b ∉ ex) : ∃ sl, h1.get? b = some { ob with slots:=sl }:=by
  by_cases hb : b ∈ fs
  . exact u.slot b ob q n hb hx
  . exact ⟨ob.slots, u.keep b ob q n hb hx⟩
theorem Un.trans (a : Un fs ex H H1 h h1) (b : Un fs ex H1 H2 h1 h2) : Un fs ex H H2 h h2 where
  keep:=fun c ob q n hc hx=>b.keep c ob (a.keep c ob q n hc hx) (a.free c ob q n hx) hc hx
  slot:=fun c ob q n hc hx=>by
    obtain ⟨sl, e1⟩:=a.slot c ob q n hc hx
    obtain ⟨sl', e2⟩:=b.slot c _ e1 (a.free c ob q n hx) hc hx
    exact ⟨sl', e2⟩
  free:=fun c ob q n hx=>by
    obtain ⟨o', e1⟩:=a.there c ob q hx
    exact b.free c o' e1 (a.free c ob q n hx) hx
  there:=fun c ob q hx=>by
    obtain ⟨o', e1⟩:=a.there c ob q hx
    exact b.there c o' e1 hx
  tups:=fun c xs q=>b.tups c xs (a.tups c xs q)
  frzs:=fun c ob xs q=>b.frzs c ob xs (a.frzs c ob xs q)
  tbls:=fun c ps q=>by
    obtain ⟨m1, e1⟩:=a.tbls c ps q
    obtain ⟨m2, e2⟩:=b.tbls c _ e1
    exact ⟨m1 ++ m2, by rw [e2, Array.append_assoc]⟩
theorem Un.kept (k : ∀ b u, h.get? b = some u -> h'.get? b = some u) : Un fs ex H H h h':=
  ⟨fun b ob q _ _ _=>k b ob q, fun b ob q _ _ _=>⟨ob.slots, k b ob q⟩, fun _ _ _ n _=>n, fun b ob q _=>⟨ob, k b ob q⟩, fun _ _ q=>q, fun _ _ _ q=>q, fun _ ps q=>⟨#[], by rw [q]; simp⟩⟩
theorem Un.refl : Un fs ex H H h h:=Un.kept fun _ _ q=>q
theorem Un.laid (k : ∀ b u, h.get? b = some u -> h'.get? b = some u) (hp : h.objs.size <= a) (hn : H a = none) : Un fs ex H (upd H a o) h h' where
  keep:=fun b u q _ _ _=>k b u q
  slot:=fun b u q _ _ _=>⟨u.slots, k b u q⟩
  free:=fun b u q n _=>by rw [XJ (Nat.ne_of_lt (Nat.lt_of_lt_of_le (Heap.lt_size q) hp))]; exact n
  there:=fun b u q _=>⟨u, k b u q⟩
  tups:=fun b xs q=>by rw [XJ (XR q hn)]; exact q
  frzs:=fun b u xs q=>by rw [XJ (XR q hn)]; exact q
  tbls:=fun b ps q=>⟨#[], by rw [XJ (XR q hn), q]; simp⟩
theorem Un.write (mu : Mut (H x)) (he : e = x ∨ H e = some (.own x)) (k : ∀ b u, b ≠ e -> h.get? b = some u -> h'.get? b = some u) (heo : ∃ u, h'.get? e = some u) : Un fs ex H (upd H x o) h h':=by
  have hx : ∀ b, H b = none -> b ≠ x:=fun b n z=>by subst z; rw [n] at mu; exact mu
  have hb : ∀ b, H b = none -> b ≠ e:=fun b n z=>by
    subst z
    rcases he with r | r
    . exact hx b n r
    . rw [n] at r; cases r
  have hm : ∀ b u, H b = some u -> ¬ Mut (some u) -> b ≠ x:=fun b u q nm z=>by subst z; rw [q] at mu; exact nm mu
  refine ⟨fun b u q n _ _=>k b u (hb b n) q, fun b u q n _ _=>⟨u.slots, k b u (hb b n) q⟩, fun b u q n _=>by rw [XJ (hx b n)]; exact n, fun b u q _=>?_,
    fun b xs q=>by rw [XJ (hm b _ q fun z=>z)]; exact q, fun b u xs q=>by rw [XJ (hm b _ q fun z=>z)]; exact q, fun b ps q=>⟨#[], by rw [XJ (hm b _ q fun z=>z), q]; simp⟩⟩
  by_cases hbe : b = e
  . subst hbe; exact heo
  . exact ⟨u, k b u hbe q⟩
theorem Un.mono (u : Un fs ex H H1 h h1) (hs : ∀ b ∈ fs, b ∈ fs') (hx : ∀ b ∈ ex, b ∈ ex') : Un fs' ex' H H1 h h1:=
  ⟨fun b ob q n hb he=>u.keep b ob q n (fun z=>hb (hs b z)) fun z=>he (hx b z), fun _ _ q n _ he=>u.any q n fun z=>he (hx _ z), fun b ob q n he=>u.free b ob q n fun z=>he (hx b z), fun b ob q he=>u.there b ob q fun z=>he (hx b z), u.tups, u.frzs, u.tbls⟩
end
noncomputable def trk (h : Heap) (H : Hp) : List Addr:=(List.range h.objs.size).filter fun a=>(H a).isSome
noncomputable def Ci (h : Heap) (H : Hp) : Heap:=PySem.W.hideAll h (trk h H)
theorem FN (h : Heap) (H : Hp) : (Ci h H).objs.size = h.objs.size:=PySem.W.hideAll_size _ _
theorem GB {h : Heap} {H : Hp} {b : Addr} {o : Obj} (e : h.get? b = some o) (n : H b = none) : (Ci h H).get? b = some o:=
  PySem.W.hideAll_get _ e fun hm=>by
    have q : (H b).isSome = true:=(List.mem_filter.mp hm).2
    rw [n] at q; simp at q
theorem Eo {h : Heap} {H : Hp} {b : Addr} {o : Obj} (e : (Ci h H).get? b = some o) : h.get? b = some o /\ H b = none:=by
  have e' : h.get? b = some o:=PySem.W.of_hideAll (trk h H) e
  refine ⟨e', ?_⟩
  cases q : H b with
  | none=>rfl
  | some x=>
    have hm : b ∈ trk h H:=List.mem_filter.mpr ⟨List.mem_range.mpr (Heap.lt_size e'), by simp [q]⟩
    have z : (Ci h H).get? b = none:=PySem.W.hideAll_none (trk h H) hm
    rw [z] at e; cases e
noncomputable def Ew (g h : Heap) (L : Addr) : List (Addr × Obj):=(List.range h.objs.size).filterMap fun a=>if a = L ∨ (g.get? a).isSome = true then none else (h.get? a).map fun o=>(a, o)
noncomputable def Zc (g h : Heap) (L d : Addr) : List (Addr × Obj):=(Ew g h L).filter fun p=>decide (p.1 ≠ d)
end L2
namespace L2
open PySem PySem.Spec PyProof.Rows
structure Mod (K : PySem.W.Frag) (mg : Str -> Option Value) (base : Heap) : Prop where
  kin : K.In base
  glob : base.Ns mainGlobals mg
  blt : ∃ mb, base.Ns builtinsNs mb /\ ∀ x : Str, x ≠ "__name__" -> mb x = bootBuiltins x
  nolimit : base.NoLimit
structure Cx where
  prog : Program
  w : World
  K : PySem.W.Frag
  mg : Str -> Option Value
  base : Heap
  A : Around
  N : List Str
  s₀ : Shared
  H₀ : Hp
  env : Env
  outer : List Env
  stack : List Env
  ex : List Addr
  fn : Str -> Bool
  calm : Bool
  pn : List (Addr × Obj)
  xe : Value -> Shared -> Prop
noncomputable def frs (l : List Env) : List Addr:=l.filterMap (·.frame)
noncomputable abbrev Cx.fs (X : Cx) : List Addr:=frs X.outer
noncomputable def Vis (sc : Scope) (x : Str) : Prop:=sc.names.lookup x = some .local ∨ sc.names.lookup x = some .cell ∨ sc.names.lookup x = some .free
noncomputable def Loc (sc : Scope) (x : Str) : Prop:=sc.names.lookup x = some .local ∨ sc.names.lookup x = some .cell
noncomputable def L9 (env : Env) (h : Heap) (m : Str -> Option Value) (x : Str) (u : Value) : Prop:=
  (env.kindOf x = some .local /\ m x = some u) ∨ ((env.kindOf x = some .cell ∨ env.kindOf x = some .free) /\ ∃ c, env.cells.lookup x = some c /\ h.IsCell c (some u))
structure Cx.Ok (X : Cx) : Prop where
  mod : Mod X.K X.mg X.base
  kind : X.env.scope.kind = .function
  glob : X.env.globals = mainGlobals
  blt : X.env.builtins = builtinsNs
  above : X.s₀.heap.objs.size <= X.env.locals
  inj : ∀ x y c, X.env.cells.lookup x = some c -> X.env.cells.lookup y = some c -> x = y
  has : ∀ x, (X.env.kindOf x = some .cell ∨ X.env.kindOf x = some .free) -> ∃ c, X.env.cells.lookup x = some c
  cab : ∀ x c, X.fn x = true -> X.env.cells.lookup x = some c -> X.s₀.heap.objs.size <= c
  hd : X.calm = true -> X.A.handled = none
  frames : X.A.frames = some X.stack
  stk : X.stack = X.outer ∨ (X.stack = X.env :: X.outer /\ X.env.frame = some X.env.locals)
  exf : ∀ b ∈ X.ex, b ≠ X.env.locals /\ ∀ x c, X.env.cells.lookup x = some c -> c ≠ b
  bs : ∀ b o, X.base.get? b = some o -> X.s₀.heap.get? b = some o /\ X.H₀ b = none
  bsz : X.base.objs.size <= X.s₀.heap.objs.size
  noex : ∀ b o, X.base.get? b = some o -> b ∉ X.ex
  exfs : ∀ b ∈ X.ex, b ∉ X.fs
  funs : X.s₀.heap.FunFrames X.base X.outer
  frf : ∀ b ∈ X.fs, X.H₀ b = none
structure Inv (X : Cx) (pins : List (Addr × Obj)) (σ : List (Option V)) (H : Hp) (s : Shared) : Prop where
  ok : X.Ok
  os : s.os = X.s₀.os
  bare : AllBare s.gens
  base : Un X.fs X.ex X.H₀ H X.s₀.heap s.heap
  loc : ∃ m, s.heap.Ns X.env.locals m /\ ∀ (i : Nat) (x : Str) (v : V), X.N[i]? = some x -> σ[i]? = some (some v) -> Vis X.env.scope x -> ∃ u, X7 v u /\ L9 X.env s.heap m x u
  cell : ∀ x c, X.env.cells.lookup x = some c -> ∃ v, s.heap.IsCell c v
  free : H X.env.locals = none
  freeC : ∀ x c, X.env.cells.lookup x = some c -> H c = none
  pin : ∀ p ∈ X.pn ++ pins, s.heap.get? p.1 = some p.2 /\ H p.1 = none /\ p.1 ≠ X.env.locals /\ p.1 ∉ X.fs /\ ∀ v, p.2.data ≠ .cell v
  hok : HOk X.prog X.w H s.heap
  len : σ.length = X.N.length
section
variable {X : Cx} {pins : List (Addr × Obj)} {σ : List (Option V)} {H H' : Hp} {s : Shared} {h' : Heap}
theorem Cx.Ok.nofr (ok : X.Ok) {b : Addr} {o : Obj} (e : X.base.get? b = some o) : b ∉ X.fs:=fun hb=>by
  have:=(ok.funs.mem hb).1
  rw [e] at this; cases this
theorem Inv.bs (I : Inv X pins σ H s) : ∀ b o, X.base.get? b = some o -> s.heap.get? b = some o /\ H b = none:=fun b o e=>
  ⟨I.base.keep b o (I.ok.bs b o e).1 (I.ok.bs b o e).2 (I.ok.nofr e) (I.ok.noex b o e), I.base.free b o (I.ok.bs b o e).1 (I.ok.bs b o e).2 (I.ok.noex b o e)⟩
theorem Inv.bk (I : Inv X pins σ H s) : ∀ b o, X.base.get? b = some o -> s.heap.get? b = some o:=fun b o e=>(I.bs b o e).1
theorem Inv.mod (I : Inv X pins σ H s) : Mod X.K X.mg X.base:=I.ok.mod
theorem Inv.kIn (I : Inv X pins σ H s) : X.K.In s.heap:=I.ok.mod.kin.keeps I.bk
theorem Inv.nolimit (I : Inv X pins σ H s) : s.heap.NoLimit:=I.ok.mod.nolimit.keeps I.bk
theorem Inv.lt (I : Inv X pins σ H s) : X.env.locals < s.heap.objs.size:=let ⟨_, hn, _⟩:=I.loc; hn.lt
theorem Inv.sz (I : Inv X pins σ H s) : X.s₀.heap.objs.size <= s.heap.objs.size:=Nat.le_trans I.ok.above (Nat.le_of_lt I.lt)
theorem Inv.nofs (I : Inv X pins σ H s) {a : Addr} (h : s.heap.objs.size <= a) : a ∉ X.fs:=fun hb=>by
  obtain ⟨_, o, ho, _⟩:=I.ok.funs.mem hb
  exact absurd (Nat.lt_of_lt_of_le (Heap.lt_size ho) (Nat.le_trans I.sz h)) (Nat.lt_irrefl _)
theorem Inv.cne (I : Inv X pins σ H s) : ∀ x c, X.env.cells.lookup x = some c -> c ≠ X.env.locals:=fun x c e z=>by
  obtain ⟨v, o, ho, hd⟩:=I.cell x c e
  obtain ⟨m, ⟨o', es, ep, ho', hd', _⟩, _⟩:=I.loc
  rw [z, ho'] at ho; cases ho; rw [hd'] at hd; cases hd
theorem Inv.funs (I : Inv X pins σ H s) : s.heap.FunFrames X.base X.outer:=by
  have all : ∀ (l : List Env), (∀ b ∈ frs l, b ∈ X.fs) -> X.s₀.heap.FunFrames X.base l -> s.heap.FunFrames X.base l:=by
    intro l
    induction l with
    | nil=>intro _ _; trivial
    | cons env r ih=>
      intro hs hl
      obtain ⟨hk, ⟨L, o, hf, hn, ho, hd⟩, hr⟩:=hl
      have hL : L ∈ X.fs:=hs L (by unfold frs; rw [List.filterMap_cons, hf]; exact List.mem_cons_self)
      obtain ⟨sl, e⟩:=I.base.slot L o ho (I.ok.frf L hL) hL fun z=>I.ok.exfs L z hL
      exact ⟨hk, ⟨L, _, hf, hn, e, hd⟩, ih (fun b hb=>hs b (by unfold frs; rw [List.filterMap_cons, hf]; exact List.mem_cons_of_mem _ hb)) hr⟩
  exact all X.outer (fun _ hb=>hb) I.ok.funs
theorem Inv.stack (I : Inv X pins σ H s) : s.heap.FunFrames X.base X.stack:=by
  rcases I.ok.stk with e | ⟨e, hf⟩
  . rw [e]; exact I.funs
  . rw [e]
    obtain ⟨m, hn, _⟩:=I.loc
    refine .cons (by rw [I.ok.kind]; decide) hf hn ?_ I.funs
    exact Heap.get?_none_of_le (Nat.le_trans I.ok.bsz I.ok.above)
theorem Inv.stkSub (I : Inv X pins σ H s) : ∀ b ∈ frs X.stack, b ∈ X.env.locals :: X.fs:=fun b hb=>by
  rcases I.ok.stk with e | ⟨e, hf⟩
  . rw [e] at hb; exact List.mem_cons_of_mem _ hb
  . rw [e] at hb
    unfold frs at hb
    rw [List.filterMap_cons, hf] at hb
    exact hb
theorem Inv.stkFree (I : Inv X pins σ H s) : ∀ b ∈ frs X.stack, H b = none:=fun b hb=>by
  rcases List.mem_cons.mp (I.stkSub b hb) with e | hb
  . rw [e]; exact I.free
  . obtain ⟨_, o, ho, _⟩ := I.ok.funs.mem hb
    exact I.base.free b o ho (I.ok.frf b hb) fun z=>I.ok.exfs b z hb
theorem Inv.step {g' : Array GenState} {t' : Nat} {d' : Drawn} {ch : List Addr} (I : Inv X pins σ H s)
    (hch : ∀ b ∈ ch, (b ∈ X.ex ∨ X.s₀.heap.objs.size <= b) /\ b ≠ X.env.locals /\ (∀ x c, X.env.cells.lookup x = some c -> c ≠ b) /\ ∀ p ∈ X.pn ++ pins, p.1 ≠ b)
    (keep : ∀ b o, b ≠ X.env.locals -> b ∉ X.fs -> b ∉ ch -> s.heap.get? b = some o -> H b = none -> h'.get? b = some o)
    (slot : ∀ b o, b ≠ X.env.locals -> b ∈ X.fs -> b ∉ ch -> s.heap.get? b = some o -> H b = none -> ∃ sl, h'.get? b = some { o with slots:=sl }) (free : ∀ b o, b ∉ ch -> s.heap.get? b = some o -> H b = none -> H' b = none)
    (there : ∀ b o, b ∉ ch -> s.heap.get? b = some o -> ∃ o', h'.get? b = some o')
    (tups : ∀ b xs, H b = some (.tup xs) -> H' b = some (.tup xs)) (frzs : ∀ b o u, H b = some (.frz o u) -> H' b = some (.frz o u)) (tbls : ∀ b ps, H b = some (.tbl ps) -> ∃ more, H' b = some (.tbl (ps ++ more)))
    (ns : ∀ m, s.heap.Ns X.env.locals m -> h'.Ns X.env.locals m) (hok : HOk X.prog X.w H' h') (hg : AllBare g') :
    Inv X pins σ H' { s with heap:=h', gens:=g', drawn:=d', toks:=t' }:=by
  have neL : ∀ b o, X.s₀.heap.get? b = some o -> b ≠ X.env.locals:=fun b o e=>Nat.ne_of_lt (Nat.lt_of_lt_of_le (Heap.lt_size e) I.ok.above)
  have neC : ∀ b o, X.s₀.heap.get? b = some o -> b ∉ X.ex -> b ∉ ch:=fun b o e hx hb=>by
    rcases (hch b hb).1 with z | z
    . exact hx z
    . exact absurd (Nat.lt_of_lt_of_le (Heap.lt_size e) z) (Nat.lt_irrefl _)
  have cellK : ∀ x c, X.env.cells.lookup x = some c -> ∀ v, s.heap.IsCell c v -> h'.IsCell c v:=fun x c e v ⟨o, ho, hd⟩=>by
    have nch : c ∉ ch:=fun z=>(hch c z).2.2.1 x c e rfl
    by_cases hc : c ∈ X.fs
    . obtain ⟨sl, q⟩ := slot c o (I.cne x c e) hc nch ho (I.freeC x c e)
      exact ⟨_, q, hd⟩
    . exact ⟨o, keep c o (I.cne x c e) hc nch ho (I.freeC x c e), hd⟩
  refine ⟨I.ok, I.os, hg, ⟨fun b o e n hb hx=>?_, fun b o e n hb hx=>?_, fun b o e n hx=>?_, fun b o e hx=>?_, fun b xs e=>tups b xs (I.base.tups b xs e), fun b o xs e=>frzs b o xs (I.base.frzs b o xs e), fun b ps e=>?_⟩, ?_, fun x c e=>?_, ?_, fun x c e=>?_, fun p hp=>?_, hok, I.len⟩
  . exact keep b o (neL b o e) hb (neC b o e hx) (I.base.keep b o e n hb hx) (I.base.free b o e n hx)
  . obtain ⟨sl, e1⟩ := I.base.slot b o e n hb hx
    obtain ⟨sl', e2⟩:=slot b _ (neL b o e) hb (neC b o e hx) e1 (I.base.free b o e n hx)
    exact ⟨sl', e2⟩
  . obtain ⟨o', e1⟩ := I.base.there b o e hx
    exact free b o' (neC b o e hx) e1 (I.base.free b o e n hx)
  . obtain ⟨o', e1⟩ := I.base.there b o e hx
    exact there b o' (neC b o e hx) e1
  . obtain ⟨m1, e1⟩ := I.base.tbls b ps e
    obtain ⟨m2, e2⟩:=tbls b _ e1
    exact ⟨m1 ++ m2, by rw [e2, Array.append_assoc]⟩
  . obtain ⟨m, hn, hl⟩ := I.loc
    refine ⟨m, ns m hn, fun i x v e1 e2 e3=>?_⟩
    obtain ⟨u, r, l⟩:=hl i x v e1 e2 e3
    refine ⟨u, r, ?_⟩
    rcases l with l | ⟨k, c, e, z⟩
    . exact .inl l
    . exact .inr ⟨k, c, e, cellK x c e _ z⟩
  . obtain ⟨v, z⟩ := I.cell x c e
    exact ⟨v, cellK x c e v z⟩
  . obtain ⟨m, ⟨o, _, _, ho, _⟩, _⟩ := I.loc
    exact free _ o (fun z=>(hch _ z).2.1 rfl) ho I.free
  . obtain ⟨v, o, ho, hd⟩ := I.cell x c e
    exact free c o (fun z=>(hch c z).2.2.1 x c e rfl) ho (I.freeC x c e)
  . obtain ⟨e, n, ne, nf, d⟩ := I.pin p hp
    have nch : p.1 ∉ ch:=fun z=>(hch p.1 z).2.2.2 p hp rfl
    exact ⟨keep p.1 p.2 ne nf nch e n, free p.1 p.2 nch e n, ne, nf, d⟩
theorem Inv.un {t' : Nat} (I : Inv X pins σ H s) (u : Un X.fs [] H H' s.heap h') (hok : HOk X.prog X.w H' h') : Inv X pins σ H' { s with heap:=h', toks:=t' }:=by
  obtain ⟨m, ⟨o, es, ep, ho, r⟩, _⟩:=id I.loc
  obtain ⟨sl, hL⟩:=u.any ho I.free (by simp)
  exact I.step (g':=s.gens) (d':=s.drawn) (ch:=[]) (fun _ z=>nomatch z) (fun b o _ hb _ e n=>u.keep b o e n hb (by simp)) (fun b o _ hb _ e n=>u.slot b o e n hb (by simp)) (fun b o _ e n=>u.free b o e n (by simp)) (fun b o _ e=>u.there b o e (by simp)) u.tups u.frzs u.tbls (fun m' hm=>by
    obtain ⟨o', es', ep', ho', r'⟩:=hm
    rw [ho] at ho'; cases ho'
    exact ⟨_, es', ep', hL, r'⟩) hok I.bare
theorem Inv.call {g' : Array GenState} {t' : Nat} {d' : Drawn} {ch : List Addr} (I : Inv X pins σ H s) (u : Un (frs X.stack) ch H H' s.heap h') (hok : HOk X.prog X.w H' h') (hg : AllBare g')
    (hch : ∀ b ∈ ch, (b ∈ X.ex ∨ X.s₀.heap.objs.size <= b) /\ b ≠ X.env.locals /\ (∀ x c, X.env.cells.lookup x = some c -> c ≠ b) /\ ∀ p ∈ X.pn ++ pins, p.1 ≠ b) :
    Inv X pins σ H' { s with heap:=h', gens:=g', drawn:=d', toks:=t' }:=by
  obtain ⟨m, ⟨o, es, ep, ho, r⟩, _⟩:=id I.loc
  obtain ⟨sl, hL⟩:=u.any ho I.free fun z=>(hch _ z).2.1 rfl
  exact I.step (ch:=ch) hch (fun b o hL hb hc e n=>u.keep b o e n (fun z=>(List.mem_cons.mp (I.stkSub b z)).elim hL hb) hc) (fun b o _ _ hc e n=>u.any e n hc) (fun b o hc e n=>u.free b o e n hc) (fun b o hc e=>u.there b o e hc) u.tups u.frzs u.tbls (fun m' hm=>by
    obtain ⟨o', es', ep', ho', r'⟩:=hm
    rw [ho] at ho'; cases ho'
    exact ⟨_, es', ep', hL, r'⟩) hok hg
theorem Inv.turned {t' : Nat} {it : Addr} (I : Inv X pins σ H s) (k : ∀ b o, b ≠ it -> s.heap.get? b = some o -> h'.get? b = some o) (hn : H it = none) (hL : it ≠ X.env.locals)
    (h1 : it ∈ X.ex ∨ X.s₀.heap.objs.size <= it) (h2 : ∀ x c, X.env.cells.lookup x = some c -> c ≠ it) (h3 : ∀ p ∈ X.pn ++ pins, p.1 ≠ it) : Inv X pins σ H { s with heap:=h', toks:=t' }:=by
  have nit : ∀ b u, H b = some u -> b ≠ it:=fun b u e z=>by rw [z, hn] at e; cases e
  refine I.step (g':=s.gens) (d':=s.drawn) (ch:=[it]) (fun b hb=>?_) (fun b o _ _ hc e _=>k b o (fun z=>hc (by simp [z])) e) (fun b o _ _ hc e _=>⟨o.slots, k b o (fun z=>hc (by simp [z])) e⟩) (fun _ _ _ _ n=>n)
    (fun b o hc e=>⟨o, k b o (fun z=>hc (by simp [z])) e⟩) (fun _ _ e=>e) (fun _ _ _ e=>e) (fun b ps e=>⟨#[], by rw [e]; simp⟩) (fun m hm=>?_) (fun b u e=>?_) I.bare
  . have e : b = it := by simpa using hb
    subst e
    exact ⟨h1, hL, h2, h3⟩
  . obtain ⟨o, es, ep, ho, r⟩ := hm
    exact ⟨o, es, ep, k _ o (Ne.symm hL) ho, r⟩
  . refine (I.hok b u e).stay (fun c v hc q => k c v ?_ q) (fun _ q => q) fun _ _ q => q
    rcases hc with z | z
    . rw [z]; exact nit b u e
    . exact nit c _ z
theorem Inv.tok (I : Inv X pins σ H s) (t : Nat) : Inv X pins σ H { s with toks:=t }:=I.un (h':=s.heap) (t':=t) Un.refl I.hok
theorem Inv.kept {t' : Nat} (I : Inv X pins σ H s) (k : ∀ b u, s.heap.get? b = some u -> h'.get? b = some u) : Inv X pins σ H { s with heap:=h', toks:=t' }:=I.un (Un.kept k) (I.hok.kept k)
theorem Inv.laid {a : Addr} {o : HO} {t' : Nat} (I : Inv X pins σ H s) (k : ∀ b u, s.heap.get? b = some u -> h'.get? b = some u) (hp : s.heap.objs.size <= a) (new : Zb X.prog X.w (upd H a o) h' a o) :
    Inv X pins σ (upd H a o) { s with heap:=h', toks:=t' }:=I.un (Un.laid k hp (I.hok.fresh hp)) (I.hok.laid k hp new)
theorem Inv.write {x e : Addr} {o : HO} {t' : Nat} (I : Inv X pins σ H s) (mu : Mut (H x)) (he : e = x ∨ H e = some (.own x)) (k : ∀ b u, b ≠ e -> s.heap.get? b = some u -> h'.get? b = some u) (heo : ∃ u, h'.get? e = some u)
    (new : Zb X.prog X.w (upd H x o) h' x o) : Inv X pins σ (upd H x o) { s with heap:=h', toks:=t' }:=I.un (Un.write mu he k heo) (I.hok.write mu he k heo new)
theorem Inv.weak {σ' : List (Option V)} (I : Inv X pins σ H s) (hl : σ'.length = σ.length) (w : ∀ (i : Nat) v, σ'[i]? = some (some v) -> σ[i]? = some (some v)) : Inv X pins σ' H s:=
  ⟨I.ok, I.os, I.bare, I.base, let ⟨m, hn, hl'⟩:=I.loc; ⟨m, hn, fun i x v e1 e2 e3=>hl' i x v e1 (w i v e2) e3⟩, I.cell, I.free, I.freeC, I.pin, I.hok, hl.trans I.len⟩
theorem Inv.pins_of {pins' : List (Addr × Obj)} (I : Inv X pins σ H s) (h : ∀ p ∈ pins', s.heap.get? p.1 = some p.2 /\ H p.1 = none /\ p.1 ≠ X.env.locals /\ p.1 ∉ X.fs /\ ∀ v, p.2.data ≠ .cell v) : Inv X pins' σ H s:=
  ⟨I.ok, I.os, I.bare, I.base, I.loc, I.cell, I.free, I.freeC, fun p hp=>(List.mem_append.mp hp).elim (fun z=>I.pin p (List.mem_append_left _ z)) (h p), I.hok, I.len⟩
theorem K7 {N : List Str} (hN : N.Nodup) {i j : Nat} {x : Str} (a : N[i]? = some x) (b : N[j]? = some x) : i = j:=by
  obtain ⟨h1, e1⟩:=List.getElem?_eq_some_iff.mp a
  obtain ⟨h2, e2⟩:=List.getElem?_eq_some_iff.mp b
  exact (List.getElem_inj hN).mp (e1.trans e2.symm)
theorem UV {M : Model} {A : Around} {E : Value -> Shared -> Prop} {i : Nat} {x : Str} {v : V} {u : Value} {Q : Unit -> Shared -> Prop} (I : Inv X pins σ H s) (hN : X.N.Nodup) (hi : X.N[i]? = some x) (hx : Loc X.env.scope x) (r : X7 v u)
    (h : ∀ s', Inv X pins (σ.set i (some v)) H s' -> (∃ a, Heap.SameBut a s.heap s'.heap /\ (a = X.env.locals ∨ X.env.cells.lookup x = some a)) -> Q () s') (hf : X.fn x = true ∨ X.env.scope.names.lookup x = some .local:=by first | exact .inl rfl | exact .inr rfl | assumption) : wpAny M A (storeName X.env x u) Q E s:=by
  obtain ⟨m, hn, hl⟩:=id I.loc
  have hcls : (X.env.scope.kind == .class || (X.env.scope.kind == .module && X.env.locals != X.env.globals)) = false:=by rw [I.ok.kind]; rfl
  have hiσ : i < σ.length:=by rw [I.len]; exact (List.getElem?_eq_some_iff.mp hi).1
  have cne:=I.cne
  have tracked : ∀ {a : Addr} {h' : Heap}, (∃ o, s.heap.get? a = some o /\ H a = none) -> Heap.SameBut a s.heap h' -> HOk X.prog X.w H h':=fun {a h'} ha hs b ob e=>by
    obtain ⟨_, _, hfree⟩:=ha
    refine (I.hok b ob e).stay (fun c w' hc q=>(hs.2 c ?_).trans q) (fun _ q=>q) fun _ _ q=>q
    rintro rfl
    rcases hc with rfl | hc
    . rw [hfree] at e; cases e
    . rw [hfree] at hc; cases hc
  rcases hx with hk | hk
  . refine wpAny_storeName_local hk hn (fun h' hn' hs => ?_) hcls
    obtain ⟨oL, _, _, hoL, _⟩:=id hn
    refine h _ ⟨I.ok, I.os, I.bare, ⟨fun b o e n hb hx=>?_, fun b o e n hb hx=>?_, I.base.free, fun b o e hx=>?_, I.base.tups, I.base.frzs, I.base.tbls⟩, ⟨_, hn', fun j y v' e1 e2 e3=>?_⟩, fun y c e=>?_, I.free, I.freeC, fun p hp=>?_, tracked ⟨oL, hoL, I.free⟩ hs, by simpa using I.len⟩ ⟨_, hs, .inl rfl⟩
    . exact (hs.2 b (Nat.ne_of_lt (Nat.lt_of_lt_of_le (Heap.lt_size e) I.ok.above))).trans (I.base.keep b o e n hb hx)
    . obtain ⟨sl, e1⟩ := I.base.slot b o e n hb hx
      exact ⟨sl, (hs.2 b (Nat.ne_of_lt (Nat.lt_of_lt_of_le (Heap.lt_size e) I.ok.above))).trans e1⟩
    . obtain ⟨o', e1⟩ := I.base.there b o e hx
      exact ⟨o', (hs.2 b (Nat.ne_of_lt (Nat.lt_of_lt_of_le (Heap.lt_size e) I.ok.above))).trans e1⟩
    . by_cases hj : j = i
      . subst hj
        rw [hi] at e1; cases e1
        rw [List.getElem?_set_self hiσ] at e2
        cases e2
        exact ⟨u, r, .inl ⟨hk, by simp⟩⟩
      . rw [List.getElem?_set_ne (Ne.symm hj)] at e2
        obtain ⟨u', r', q⟩:=hl j y v' e1 e2 e3
        refine ⟨u', r', ?_⟩
        rcases q with ⟨k, e⟩ | ⟨k, c, e, z⟩
        . refine .inl ⟨k, ?_⟩
          have : y ≠ x:=fun e=>hj (K7 hN e1 (e ▸ hi))
          simp [this, e]
        . exact .inr ⟨k, c, e, z.sameBut hs (cne y c e)⟩
    . obtain ⟨w', z⟩ := I.cell y c e
      exact ⟨w', z.sameBut hs (cne y c e)⟩
    . obtain ⟨e, n, ne, nf, d⟩ := I.pin p hp
      exact ⟨(hs.2 p.1 ne).trans e, n, ne, nf, d⟩
  . have hfn : X.fn x = true:=by
      rcases hf with z | z
      . exact z
      . rw [z] at hk; cases hk
    obtain ⟨c, hc⟩:=I.ok.has x (.inl hk)
    obtain ⟨w', z⟩:=I.cell x c hc
    refine wpAny_storeName_cell I.ok.kind hk hc z (fun h' hc' hs=>?_)
    obtain ⟨oc, hoc, hocd⟩:=id z
    refine h { s with heap:=h' } ⟨I.ok, I.os, I.bare, ⟨fun b o e n hb hx=>?_, fun b o e n hb hx=>?_, I.base.free, fun b o e hx=>?_, I.base.tups, I.base.frzs, I.base.tbls⟩, ⟨m, hn.sameBut hs (Ne.symm (cne x c hc)), fun j y v' e1 e2 e3=>?_⟩, fun y c' e=>?_, I.free, I.freeC, fun p hp=>?_, tracked ⟨oc, hoc, I.freeC x c hc⟩ hs, by simpa using I.len⟩ ⟨c, hs, .inr hc⟩
    . exact (hs.2 b (Nat.ne_of_lt (Nat.lt_of_lt_of_le (Heap.lt_size e) (I.ok.cab x c hfn hc)))).trans (I.base.keep b o e n hb hx)
    . obtain ⟨sl, e1⟩ := I.base.slot b o e n hb hx
      exact ⟨sl, (hs.2 b (Nat.ne_of_lt (Nat.lt_of_lt_of_le (Heap.lt_size e) (I.ok.cab x c hfn hc)))).trans e1⟩
    . obtain ⟨o', e1⟩ := I.base.there b o e hx
      exact ⟨o', (hs.2 b (Nat.ne_of_lt (Nat.lt_of_lt_of_le (Heap.lt_size e) (I.ok.cab x c hfn hc)))).trans e1⟩
    . by_cases hj : j = i
      . subst hj
        rw [hi] at e1; cases e1
        rw [List.getElem?_set_self hiσ] at e2
        cases e2
        exact ⟨u, r, .inr ⟨.inl hk, c, hc, hc'⟩⟩
      . rw [List.getElem?_set_ne (Ne.symm hj)] at e2
        obtain ⟨u', r', q⟩:=hl j y v' e1 e2 e3
        refine ⟨u', r', ?_⟩
        rcases q with q | ⟨k, c', e, z'⟩
        . exact .inl q
        . refine .inr ⟨k, c', e, z'.sameBut hs ?_⟩
          rintro rfl
          exact hj (K7 hN e1 (I.ok.inj _ _ _ e hc ▸ hi))
    . by_cases hcc : c' = c
      . subst hcc; exact ⟨_, hc'⟩
      . obtain ⟨w2, z2⟩ := I.cell y c' e
        exact ⟨w2, z2.sameBut hs hcc⟩
    . obtain ⟨e, n, ne, nf, d⟩ := I.pin p hp
      refine ⟨(hs.2 p.1 ?_).trans e, n, ne, nf, d⟩
      intro q
      rw [q, hoc] at e
      have q' : oc = p.2:=Option.some.inj e
      exact d w' (by rw [← q']; exact hocd)
theorem JE {M : Model} {A : Around} {E : Value -> Shared -> Prop} {i : Nat} {x : Str} {v : V} {u : Value} {Q : Unit -> Shared -> Prop} (I : Inv X pins σ H s) (hN : X.N.Nodup) (hi : X.N[i]? = some x) (hx : Loc X.env.scope x) (r : X7 v u)
    (h : ∀ s', Inv X pins (σ.set i (some v)) H s' -> Q () s') (hf : X.fn x = true ∨ X.env.scope.names.lookup x = some .local:=by first | exact .inl rfl | exact .inr rfl | assumption) : wpAny M A (storeName X.env x u) Q E s:=
  UV I hN hi hx r (fun s' I' _=>h s' I') hf
theorem Inv.call' {s' : Shared} {ch : List Addr} (I : Inv X pins σ H s) (ho : s'.os = s.os) (u : Un (frs X.stack) ch H H' s.heap s'.heap) (hok : HOk X.prog X.w H' s'.heap) (hg : AllBare s'.gens)
    (hch : ∀ b ∈ ch, (b ∈ X.ex ∨ X.s₀.heap.objs.size <= b) /\ b ≠ X.env.locals /\ (∀ x c, X.env.cells.lookup x = some c -> c ≠ b) /\ ∀ p ∈ X.pn ++ pins, p.1 ≠ b) : Inv X pins σ H' s':=by
  obtain ⟨h', g', d', t', o'⟩:=s'
  have e : o' = s.os:=ho
  subst e
  exact I.call (g':=g') (t':=t') (d':=d') u hok hg hch
end
noncomputable abbrev XK:=Value -> Option Addr -> Hp -> Prop
noncomputable abbrev St:=List (Option V)
noncomputable abbrev VK:=V -> Hp -> Prop
noncomputable abbrev TE:=St -> Hp -> VK -> Prop
noncomputable abbrev TT:=St -> Hp -> (Bool -> Hp -> Prop) -> Prop
noncomputable abbrev TA:=St -> Hp -> (List V -> Hp -> Prop) -> Prop
structure Ends where
  nx : St -> Hp -> Prop
  rt : VK
  bk : St -> Hp -> Prop:=fun _ _=>False
  ct : St -> Hp -> Prop:=fun _ _=>False
noncomputable abbrev TS:=Ends -> St -> Hp -> Prop
noncomputable def EP (X : Cx) (pins : List (Addr × Obj)) (σ : St) (Q : VK) (u : Value) (s' : Shared) : Prop:=∃ v H', Inv X pins σ H' s' /\ X7 v u /\ Q v H'
noncomputable def TP (X : Cx) (pins : List (Addr × Obj)) (σ : St) (Q : Bool -> Hp -> Prop) (b : Bool) (s' : Shared) : Prop:=∃ H', Inv X pins σ H' s' /\ Q b H'
noncomputable def AP (X : Cx) (pins : List (Addr × Obj)) (σ : St) (Q : List V -> Hp -> Prop) (us : List Value) (s' : Shared) : Prop:=∃ vs H', Inv X pins σ H' s' /\ X3 vs us /\ Q vs H'
noncomputable def SP (X : Cx) (pins : List (Addr × Obj)) (D : Ends) (f : Flow) (s' : Shared) : Prop:=
  match f with
  | .next=>∃ σ' H', Inv X pins σ' H' s' /\ D.nx σ' H'
  | .brk=>∃ σ' H', Inv X pins σ' H' s' /\ D.bk σ' H'
  | .cont=>∃ σ' H', Inv X pins σ' H' s' /\ D.ct σ' H'
  | .ret u=>∃ v σ' H', Inv X pins σ' H' s' /\ X7 v u /\ D.rt v H'
noncomputable def PE (X : Cx) (e : Expr) (t : TE) : Prop:=
  ∀ (pins : List (Addr × Obj)) (s : Shared) (σ : St) (H : Hp) (Q : VK), Inv X pins σ H s -> t σ H Q -> wpAny (model X.prog X.w) X.A (eval e X.env) (EP X pins σ Q) X.xe s
noncomputable def PT (X : Cx) (e : Expr) (t : TT) : Prop:=
  ∀ (pins : List (Addr × Obj)) (s : Shared) (σ : St) (H : Hp) (Q : Bool -> Hp -> Prop), Inv X pins σ H s -> t σ H Q -> wpAny (model X.prog X.w) X.A (isTrue e X.env (eval e X.env)) (TP X pins σ Q) X.xe s
noncomputable def PW (X : Cx) (e : Expr) (t : TT) : Prop:=
  ∀ (whole : Sem Value) (pins : List (Addr × Obj)) (s : Shared) (σ : St) (H : Hp) (Q : Bool -> Hp -> Prop), Inv X pins σ H s -> t σ H Q -> wpAny (model X.prog X.w) X.A (isTrue e X.env whole) (TP X pins σ Q) X.xe s
theorem PW.pt {X : Cx} {e : Expr} {t : TT} (h : PW X e t) : PT X e t:=h _
noncomputable def PA (X : Cx) (es : List Expr) (t : TA) : Prop:=
  ∀ (pos : Pos) (pins : List (Addr × Obj)) (s : Shared) (σ : St) (H : Hp) (Q : List V -> Hp -> Prop), Inv X pins σ H s -> t σ H Q -> wpAny (model X.prog X.w) X.A (spliced (backTo pos (starEach es X.env))) (AP X pins σ Q) X.xe s
noncomputable def PS (X : Cx) (st : Stmt) (t : TS) : Prop:=
  ∀ (pins : List (Addr × Obj)) (s : Shared) (σ : St) (H : Hp) (D : Ends), Inv X pins σ H s -> t D σ H -> wpAny (model X.prog X.w) X.A (exec st X.env) (SP X pins D) X.xe s
noncomputable def PSs (X : Cx) (st : List Stmt) (t : TS) : Prop:=
  ∀ (pins : List (Addr × Obj)) (s : Shared) (σ : St) (H : Hp) (D : Ends), Inv X pins σ H s -> t D σ H -> wpAny (model X.prog X.w) X.A (execs st X.env) (SP X pins D) X.xe s
theorem thn {α : Type} {t : Sem α} {Q Q' : α -> Shared -> Prop} {M : Model} {A : Around} {E : Value -> Shared -> Prop} {s : Shared} (h : wpAny M A t Q E s) (hQ : ∀ a s, Q a s -> Q' a s) : wpAny M A t Q' E s:=wpAny_mono h hQ fun _ _ x=>x
end L2
namespace L2
open PySem PySem.Spec PyProof.Rows
section
variable {X : Cx}
noncomputable def JR (i : Nat) : TE:=fun σ H Q=>∃ v, σ[i]? = some (some v) /\ Q v H
noncomputable def tC (v : V) : TE:=fun _ H Q=>Q v H
theorem Ij {i : Nat} {x : Str} {pos : Pos} (hN : X.N[i]? = some x) (hv : Vis X.env.scope x) (hd : (x == ("__debug__" : Str)) = false:=by decide) (hcd : (x == ("__classdict__" : Str)) = false:=by decide) : PE X (.Name x pos) (JR i):=by
  intro pins s σ H Q I h
  obtain ⟨v, e, h⟩:=h
  obtain ⟨m, hn, hl⟩:=I.loc
  obtain ⟨u, r, l⟩:=hl i x v hN e hv
  have fin : EP X pins σ Q u s:=⟨v, H, I, r, h⟩
  rcases l with ⟨hk, hm⟩ | ⟨hk, c, hc, hcell⟩
  . exact wpAny_Name (wpAny_loadName_local I.ok.kind hk hn hm fin) hd
  . rcases hk with hk | hk
    . exact wpAny_Name (wpAny_loadName_cell I.ok.kind hk hc hcell fin) hd
    . exact wpAny_Name (wpAny_loadName_free I.ok.kind hk hc hcell fin hcd) hd
theorem Xi {i j pos} : PE X (.Constant (.int i) j pos) (tC (.int i)):=fun _ _ _ H _ I h=>wpAny_Constant_int ⟨.int i, H, I.tok _, ⟨_, rfl⟩, h⟩
theorem Z4 {b j pos} : PE X (.Constant (.bool b) j pos) (tC (.bl b)):=fun _ _ _ H _ I h=>Constant_bool ⟨.bl b, H, I, rfl, h⟩
theorem Z3 {j pos} : PE X (.Constant .none j pos) (tC .non):=fun _ _ _ H _ I h=>Constant_none ⟨.non, H, I, rfl, h⟩
noncomputable def Gl (X : Cx) (x : Str) : Prop:=X.env.kindOf x = some .globalImplicit
theorem DW {E : Value -> Shared -> Prop} {pins : List (Addr × Obj)} {s : Shared} {σ : St} {H : Hp} {x : Str} {u : Value} {pos : Pos} {Q : Value -> Shared -> Prop} (I : Inv X pins σ H s) (hg : Gl X x) (hm : X.mg x = some u) (h : Q u s)
    (hd : (x == ("__debug__" : Str)) = false:=by decide) : wpAny (model X.prog X.w) X.A (eval (.Name x pos) X.env) Q E s:=
  Calls.Name_function_global I.ok.kind hg (Calls.loadGlobal_global (by rw [I.ok.glob]; exact I.mod.glob.keeps I.bk) hm h) hd
theorem Jv {E : Value -> Shared -> Prop} {pins : List (Addr × Obj)} {s : Shared} {σ : St} {H : Hp} {x : Str} {u : Value} {pos : Pos} {Q : Value -> Shared -> Prop} (I : Inv X pins σ H s) (hg : Gl X x) (hm : X.mg x = none) (hv : bootBuiltins x = some u) (h : Q u s)
    (hn : x ≠ "__name__":=by decide) (hd : (x == ("__debug__" : Str)) = false:=by decide) : wpAny (model X.prog X.w) X.A (eval (.Name x pos) X.env) Q E s:=by
  obtain ⟨mb, h1, h2⟩:=I.mod.blt
  exact Calls.Name_function_global I.ok.kind hg (Calls.loadGlobal_builtin (by rw [I.ok.glob]; exact I.mod.glob.keeps I.bk) hm (by rw [I.ok.blt]; exact h1.keeps I.bk) ((h2 x hn).trans hv) h) hd
theorem BW {x : Str} {v : V} {u : Value} {pos : Pos} (hg : Gl X x) (hm : X.mg x = some u) (r : X7 v u) (hd : (x == ("__debug__" : Str)) = false:=by decide) : PE X (.Name x pos) (tC v):=
  fun _ _ _ H _ I h=>DW I hg hm ⟨v, H, I, r, h⟩ hd
theorem JQ {x : Str} {v : V} {u : Value} {pos : Pos} (hg : Gl X x) (hm : X.mg x = none) (hv : bootBuiltins x = some u) (r : X7 v u) (hn : x ≠ "__name__":=by decide) (hd : (x == ("__debug__" : Str)) = false:=by decide) : PE X (.Name x pos) (tC v):=
  fun _ _ _ H _ I h=>Jv I hg hm hv ⟨v, H, I, r, h⟩ hn hd
variable {a b : Expr} {ta tb : TE} {pos : Pos}
noncomputable def tB (t : TE) : TT:=fun σ H Q=>t σ H fun x H1=>∃ c, x = .bl c /\ Q c H1
theorem Qk {e : Expr} {t : TE} (h : PE X e t) (he : ∀ whole, isTrue e X.env whole = (do let v ← whole; standAt e.pos; holding [v] (truthy v)):=by intro _; rfl) : PT X e (tB t):=by
  intro pins s σ H Q I hw
  refine isTrue_plain (thn (h pins s σ H _ I hw) fun v s1 ⟨x, H1, I1, r1, q1⟩=>?_) (he _)
  obtain ⟨d, rfl, q⟩:=q1
  cases r1
  exact wpAny_truthy_bool ⟨H1, I1, q⟩
variable {tA tB' : TT} {Zc : List Expr}
noncomputable def LQ (t u : TT) : TT:=fun σ H Q=>t σ H fun c H1=>if c = true then u σ H1 Q else Q false H1
noncomputable def tOr (t u : TT) : TT:=fun σ H Q=>t σ H fun c H1=>if c = true then Q true H1 else u σ H1 Q
noncomputable def Lh (t : TT) : TT:=fun σ H Q=>t σ H fun c H1=>Q (!c) H1
theorem ZI (ha : PT X a tA) : PW X (.BoolOp .And [a] pos) tA:=by
  intro wh pins s σ H Q I h
  refine isTrue_and (thn (ha pins s σ H Q I h) fun c s1 e=>?_)
  cases c with
  | true=>exact isTrue_and_nil e
  | false=>exact e
theorem Fw (ha : PT X a tA) : PW X (.BoolOp .Or [a] pos) tA:=by
  intro wh pins s σ H Q I h
  refine isTrue_or (thn (ha pins s σ H Q I h) fun c s1 e=>?_)
  cases c with
  | false=>exact isTrue_or_nil e
  | true=>exact e
theorem Y3 (ha : PT X a tA) (hb : PW X (.BoolOp .And (b :: Zc) pos) tB') : PW X (.BoolOp .And (a :: b :: Zc) pos) (LQ tA tB'):=by
  intro wh pins s σ H Q I h
  refine isTrue_and (thn (ha pins s σ H _ I h) fun c s1 ⟨H1, I1, q1⟩=>?_)
  cases c with
  | true=>exact hb wh pins s1 σ H1 Q I1 q1
  | false=>exact ⟨H1, I1, q1⟩
theorem EJ (ha : PT X a tA) (hb : PW X (.BoolOp .Or (b :: Zc) pos) tB') : PW X (.BoolOp .Or (a :: b :: Zc) pos) (tOr tA tB'):=by
  intro wh pins s σ H Q I h
  refine isTrue_or (thn (ha pins s σ H _ I h) fun c s1 ⟨H1, I1, q1⟩=>?_)
  cases c with
  | true=>exact ⟨H1, I1, q1⟩
  | false=>exact hb wh pins s1 σ H1 Q I1 q1
theorem Q7 (ha : PT X a tA) : PT X (.UnaryOp .Not a pos) (Lh tA):=by
  intro pins s σ H Q I h
  exact isTrue_not (ha pins s σ H (fun c H1=>Q (!c) H1) I h)
noncomputable def HX (ta tb : TE) : TE:=fun σ H Q=>ta σ H fun x H1=>∃ c, x = .bl c /\ if c = true then tb σ H1 Q else Q (.bl false) H1
noncomputable def LZ (ta tb : TE) : TE:=fun σ H Q=>ta σ H fun x H1=>∃ c, x = .bl c /\ if c = true then Q (.bl true) H1 else tb σ H1 Q
noncomputable def Ib (ta : TE) : TE:=fun σ H Q=>ta σ H fun x H1=>∃ c, x = .bl c /\ Q (.bl (!c)) H1
theorem Gc {op} {t : TE} (h : PE X a t) : PE X (.BoolOp op [a] pos) t:=fun pins s σ H Q I hw=>BoolOp_one (h pins s σ H Q I hw)
theorem DS (ha : PE X a ta) (hb : PE X (.BoolOp .And (b :: Zc) pos) tb) : PE X (.BoolOp .And (a :: b :: Zc) pos) (HX ta tb):=by
  intro pins s σ H Q I h
  refine BoolOp_and (thn (ha pins s σ H _ I h) fun v s1 ⟨x, H1, I1, r1, q1⟩=>?_)
  obtain ⟨c, rfl, q1⟩:=q1
  cases r1
  refine wpAny_truthy_bool ?_
  cases c with
  | true=>exact hb pins s1 σ H1 Q I1 q1
  | false=>exact ⟨.bl false, H1, I1, rfl, q1⟩
theorem LC (ha : PE X a ta) (hb : PE X (.BoolOp .Or (b :: Zc) pos) tb) : PE X (.BoolOp .Or (a :: b :: Zc) pos) (LZ ta tb):=by
  intro pins s σ H Q I h
  refine BoolOp_or (thn (ha pins s σ H _ I h) fun v s1 ⟨x, H1, I1, r1, q1⟩=>?_)
  obtain ⟨c, rfl, q1⟩:=q1
  cases r1
  refine wpAny_truthy_bool ?_
  cases c with
  | false=>exact hb pins s1 σ H1 Q I1 q1
  | true=>exact ⟨.bl true, H1, I1, rfl, q1⟩
theorem HS (ha : PE X a ta) : PE X (.UnaryOp .Not a pos) (Ib ta):=by
  intro pins s σ H Q I h
  refine UnaryOp_ (thn (ha pins s σ H _ I h) fun v s1 ⟨x, H1, I1, r1, q1⟩=>?_)
  obtain ⟨c, rfl, q1⟩:=q1
  cases r1
  exact not_of (wpAny_truthy_bool ⟨.bl (!c), H1, I1, rfl, q1⟩)
noncomputable def tIf (t : TT) (ta tb : TE) : TE:=fun σ H Q=>t σ H fun c H1=>if c = true then ta σ H1 Q else tb σ H1 Q
theorem Be {c : Expr} (hc : PT X c tA) (ha : PE X a ta) (hb : PE X b tb) : PE X (.IfExp c a b pos) (tIf tA ta tb):=by
  intro pins s σ H Q I h
  refine wpAny_IfExp (thn (hc pins s σ H _ I h) fun d s1 ⟨H1, I1, q1⟩=>?_)
  cases d with
  | true=>exact ha pins s1 σ H1 Q I1 q1
  | false=>exact hb pins s1 σ H1 Q I1 q1
end
end L2
namespace L2
open PySem PySem.Spec PyProof.Rows
noncomputable def SqL (K : PySem.W.Frag) (H : Hp) (a : Addr) (xs : List V) : Prop:=
  Rd H a (.lst xs) ∨
    ∃ (o : Obj) (its : Array Value) (n : Nat), K.lookup a = some o /\ o.cls = .type "list" /\ o.dict = none /\ o.data = .seq its n /\ its.size <= sizeLine /\ X3 xs its.toList
noncomputable def SqT (K : PySem.W.Frag) (H : Hp) (a : Addr) (xs : List V) : Prop:=
  Rd H a (.tup xs) ∨
    ∃ (o : Obj) (its : Array Value) (n : Nat), K.lookup a = some o /\ o.cls = .type "tuple" /\ o.data = .seq its n /\ its.size <= sizeLine /\ X3 xs its.toList
noncomputable def L7 : Value -> Option V
  | .none=>some .non
  | .bool b=>some (.bl b)
  | .int i _=>some (.int i)
  | .str x _=>some (.str x)
  | .bytes b _=>some (.byt b)
  | .float b _=>some (.flt b)
  | .ref a=>some (.ref a)
  | .type n=>some (.ty n)
  | _=>none
theorem X7.abs {x : V} {u : Value} (r : X7 x u) : L7 u = some x:=by
  cases x with
  | non=>cases r; rfl
  | bl _=>cases r; rfl
  | int _=>obtain ⟨t, rfl⟩:=r; rfl
  | str _=>obtain ⟨t, rfl⟩:=r; rfl
  | byt _=>obtain ⟨t, rfl⟩:=r; rfl
  | flt _=>obtain ⟨t, rfl⟩:=r; rfl
  | ref _=>cases r; rfl
  | ty _=>cases r; rfl
theorem X7.inj {x y : V} {u : Value} (r : X7 x u) (q : X7 y u) : x = y:=Option.some.inj (r.abs.symm.trans q.abs)
theorem X3.inj : ∀ {xs ys : List V} {us : List Value}, X3 xs us -> X3 ys us -> xs = ys
  | _, _, _, .nil, .nil=>rfl
  | _, _, _, .cons r t, .cons r' t'=>by rw [r.inj r', X3.inj t t']
section
variable {X : Cx} {pins : List (Addr × Obj)} {σ : St} {H : Hp} {s : Shared} {a : Addr} {xs ys : List V}
theorem SqL.of {K : PySem.W.Frag} (h : H a = some (.lst xs)) : SqL K H a xs:=.inl (.inl h)
theorem SqT.of {K : PySem.W.Frag} (h : H a = some (.tup xs)) : SqT K H a xs:=.inl (.inl h)
theorem Inv.list (I : Inv X pins σ H s) (h : SqL X.K H a xs) : ∃ its : List Value, X3 xs its /\ PlainL s.heap a its.toArray /\ xs.length <= sizeLine:=by
  rcases h with h | ⟨o, its, n, hk, hc, hd, hs, hz, r⟩
  . obtain ⟨z, its, n, r, e⟩ := h.ok I.hok
    exact ⟨its, r, ⟨_, n, e, rfl, rfl, rfl⟩, z⟩
  . refine ⟨its.toList, r, ⟨o, n, I.kIn a o hk, hc, hd, by simpa using hs⟩, ?_⟩
    have e:=r.length
    simp only [Array.length_toList] at e
    omega
theorem Inv.tuple (I : Inv X pins σ H s) (h : SqT X.K H a xs) : ∃ its : List Value, X3 xs its /\ IsTup s.heap a its.toArray /\ xs.length <= sizeLine:=by
  rcases h with h | ⟨o, its, n, hk, hc, hs, hz, r⟩
  . obtain ⟨z, its, r, p⟩ := h.ok I.hok
    exact ⟨its, r, p, z⟩
  . refine ⟨its.toList, r, ⟨o, I.kIn a o hk, hc, n, by simpa using hs⟩, ?_⟩
    have e:=r.length
    simp only [Array.length_toList] at e
    omega
theorem Inv.list_inj (I : Inv X pins σ H s) (h : SqL X.K H a xs) (h' : SqL X.K H a ys) : xs = ys:=by
  obtain ⟨its, r, ⟨o, n, e, _, _, d⟩, _⟩:=I.list h
  obtain ⟨its', r', ⟨o', n', e', _, _, d'⟩, _⟩:=I.list h'
  rw [e] at e'; cases e'
  rw [d] at d'
  injection d' with d1 _
  have : its = its':=by simpa using congrArg Array.toList d1
  subst this
  exact r.inj r'
end
noncomputable abbrev Cx.wish (X : Cx) (E : Value -> Shared -> Prop) : Cx:={ X with xe:=E }
noncomputable abbrev Cx.nox (X : Cx) : Cx:=X.wish fun _ _=>False
theorem Cx.Ok.wish {X : Cx} (ok : X.Ok) (E : Value -> Shared -> Prop) : (X.wish E).Ok:=
  ⟨ok.mod, ok.kind, ok.glob, ok.blt, ok.above, ok.inj, ok.has, ok.cab, ok.hd, ok.frames, ok.stk, ok.exf, ok.bs, ok.bsz, ok.noex, ok.exfs, ok.funs, ok.frf⟩
theorem Cx.Ok.unwish {X : Cx} {E : Value -> Shared -> Prop} (ok : (X.wish E).Ok) : X.Ok:=
  ⟨ok.mod, ok.kind, ok.glob, ok.blt, ok.above, ok.inj, ok.has, ok.cab, ok.hd, ok.frames, ok.stk, ok.exf, ok.bs, ok.bsz, ok.noex, ok.exfs, ok.funs, ok.frf⟩
section
variable {X : Cx} {pins : List (Addr × Obj)} {σ : St} {H : Hp} {s : Shared} {E : Value -> Shared -> Prop}
theorem Inv.wish (I : Inv X pins σ H s) (E : Value -> Shared -> Prop) : Inv (X.wish E) pins σ H s:=⟨I.ok.wish E, I.os, I.bare, I.base, I.loc, I.cell, I.free, I.freeC, I.pin, I.hok, I.len⟩
theorem Inv.unwish (I : Inv (X.wish E) pins σ H s) : Inv X pins σ H s:=⟨I.ok.unwish, I.os, I.bare, I.base, I.loc, I.cell, I.free, I.freeC, I.pin, I.hok, I.len⟩
theorem SP.unwish {D : Ends} {f : Flow} {s' : Shared} (h : SP (X.wish E) pins D f s') : SP X pins D f s':=by
  cases f with
  | next=>obtain ⟨σ', H', I, q⟩:=h; exact ⟨σ', H', I.unwish, q⟩
  | brk=>obtain ⟨σ', H', I, q⟩:=h; exact ⟨σ', H', I.unwish, q⟩
  | cont=>obtain ⟨σ', H', I, q⟩:=h; exact ⟨σ', H', I.unwish, q⟩
  | ret u=>obtain ⟨v, σ', H', I, r, q⟩:=h; exact ⟨v, σ', H', I.unwish, r, q⟩
theorem PE.nox {e : Expr} {t : TE} (h : PE X.nox e t) : PE X e t:=fun pins s σ H Q I hw=>
  wpAny_mono (h pins s σ H Q (I.wish _) hw) (fun _ _ ⟨v, H', I', r, q⟩=>⟨v, H', I'.unwish, r, q⟩) fun _ _ z=>False.elim z
theorem PT.nox {e : Expr} {t : TT} (h : PT X.nox e t) : PT X e t:=fun pins s σ H Q I hw=>
  wpAny_mono (h pins s σ H Q (I.wish _) hw) (fun _ _ ⟨H', I', q⟩=>⟨H', I'.unwish, q⟩) fun _ _ z=>False.elim z
theorem PSs.nox {st : List Stmt} {t : TS} (h : PSs X.nox st t) : PSs X st t:=fun pins s σ H D I hw=>
  wpAny_mono (h pins s σ H D (I.wish _) hw) (fun _ _ q=>q.unwish) fun _ _ z=>False.elim z
end
section
variable {X : Cx} {st : Stmt} {Zc : List Stmt} {t u : TS} {e : Expr} {te : TE} {pos : Pos}
noncomputable def QE : TS:=fun D σ H=>D.nx σ H
noncomputable def ZX (t u : TS) : TS:=fun D σ H=>t { D with nx:=u D } σ H
theorem Xe : PSs X [] QE:=fun _ _ σ H _ I h=>wpAny_execs_nil ⟨σ, H, I, h⟩
theorem Xc (h1 : PS X st t) (h2 : PSs X Zc u) : PSs X (st :: Zc) (ZX t u):=by
  intro pins s σ H D I h
  refine wpAny_execs_cons (thn (h1 pins s σ H { D with nx:=u D } I h) fun f s1 q=>?_)
  cases f with
  | next=>
    obtain ⟨σ', H', I', q⟩:=q
    exact h2 pins s1 σ' H' D I' q
  | ret v=>exact q
  | brk=>exact q
  | cont=>exact q
theorem Inv.quiet {pins : List (Addr × Obj)} {σ : St} {H : Hp} {s : Shared} (I : Inv X pins σ H s) : interactive X.env = false:=by simp [interactive, I.ok.kind]
noncomputable def Ko (te : TE) : TS:=fun D σ H=>te σ H fun _ H1=>D.nx σ H1
theorem Yg (he : PE X e te) (hs : swapsWith e none pos.line X.env = pure false:=by rfl) : PS X (.Expr e pos) (Ko te):=by
  intro pins s σ H D I h
  exact wpAny_Expr_any (thn (he pins s σ H _ I h) fun v s1 ⟨x, H1, I1, r1, q1⟩=>⟨σ, H1, I1, q1⟩) I.quiet hs
noncomputable def Hm (te : TE) : TS:=fun D σ H=>te σ H D.rt
theorem Xu (he : PE X e te) : PS X (.Return (some e) pos) (Hm te):=by
  intro pins s σ H D I h
  exact wpAny_Return_some (thn (he pins s σ H _ I h) fun v s1 ⟨x, H1, I1, r1, q1⟩=>⟨x, σ, H1, I1, r1, q1⟩)
noncomputable def E3 (c : TT) (t u : TS) : TS:=fun D σ H=>c σ H fun b H1=>if b = true then t D σ H1 else u D σ H1
theorem X6 {c : Expr} {a b : List Stmt} {tc : TT} (hc : PT X c tc) (ha : PSs X a t) (hb : PSs X b u) : PS X (.If c a b pos) (E3 tc t u):=by
  intro pins s σ H D I h
  refine wpAny_If (thn (hc pins s σ H _ I h) fun d s1 ⟨H1, I1, q1⟩=>?_)
  cases d with
  | true=>exact ha pins s1 σ H1 D I1 q1
  | false=>exact hb pins s1 σ H1 D I1 q1
noncomputable def HP : TS:=fun _ _ _=>False
theorem CF : PS X st HP:=fun _ _ _ _ _ _ h=>h.elim
end
noncomputable abbrev TG:=V -> St -> Hp -> (St -> Hp -> Prop) -> Prop
noncomputable abbrev TGs:=List V -> St -> Hp -> (St -> Hp -> Prop) -> Prop
noncomputable def PG (X : Cx) (target : Expr) (t : TG) : Prop:=
  ∀ (pins : List (Addr × Obj)) (s : Shared) (σ : St) (H : Hp) (v : V) (u : Value) (Q : St -> Hp -> Prop), Inv X pins σ H s -> X7 v u -> t v σ H Q ->
    wpAny (model X.prog X.w) X.A (assign target X.env u) (fun _ s'=>∃ σ' H', Inv X pins σ' H' s' /\ Q σ' H') X.xe s
noncomputable def PGs (X : Cx) (ts : List Expr) (t : TGs) : Prop:=
  ∀ (pins : List (Addr × Obj)) (s : Shared) (σ : St) (H : Hp) (vs : List V) (us : List Value) (Q : St -> Hp -> Prop), Inv X pins σ H s -> X3 vs us -> t vs σ H Q ->
    wpAny (model X.prog X.w) X.A (assignInOrder ((assignEach ts X.env).map (·.2)) us) (fun _ s'=>∃ σ' H', Inv X pins σ' H' s' /\ Q σ' H') X.xe s
noncomputable abbrev IY:=V -> V -> V -> Hp -> (Hp -> Prop) -> Prop
noncomputable def LG (X : Cx) (t : IY) : Prop:=
  ∀ (pins : List (Addr × Obj)) (s : Shared) (σ : St) (H : Hp) (o i v : V) (ov iv u : Value) (Q : Hp -> Prop), Inv X pins σ H s -> X7 o ov -> X7 i iv -> X7 v u -> t o i v H Q ->
    wpAny (model X.prog X.w) X.A (setItem ov iv u) (fun _ s'=>∃ H', Inv X pins σ H' s' /\ Q H') X.xe s
section
variable {X : Cx} {pos : Pos}
noncomputable def Z7 (i : Nat) : TG:=fun v σ H Q=>Q (σ.set i (some v)) H
theorem Xn {i : Nat} {x : Str} (hN : X.N.Nodup) (hi : X.N[i]? = some x) (hx : Loc X.env.scope x) (hf : X.fn x = true ∨ X.env.scope.names.lookup x = some .local:=by first | exact .inl rfl | exact .inr rfl | assumption) : PG X (.Name x pos) (Z7 i):=by
  intro pins s σ H v u Q I r h
  exact wpAny_assign_Name (JE I hN hi hx r (fun s' I'=>⟨_, H, I', h⟩) hf)
noncomputable def L4 : TGs:=fun vs σ H Q=>vs = [] /\ Q σ H
noncomputable def Ea (t : TG) (u : TGs) : TGs:=fun vs σ H Q=>∃ v r, vs = v :: r /\ t v σ H fun σ' H'=>u r σ' H' Q
theorem Uy : PGs X [] L4:=by
  intro pins s σ H vs us Q I r h
  obtain ⟨e, h⟩:=h
  subst e
  cases r
  exact assignInOrder_nil ⟨σ, H, I, h⟩
theorem ZA {e : Expr} {es : List Expr} {t : TG} {u : TGs} (h1 : PG X e t) (h2 : PGs X es u)
    (hs : (assignEach (e :: es) X.env).map (·.2) = assign e X.env :: (assignEach es X.env).map (·.2):=by rfl) : PGs X (e :: es) (Ea t u):=by
  intro pins s σ H vs us Q I r h
  obtain ⟨v, vr, e1, h⟩:=h
  subst e1
  cases r with
  | cons r rr=>
    rw [hs]
    refine assignInOrder_cons (thn (h1 pins s σ H _ _ _ I r h) fun _ s1 ⟨σ1, H1, I1, q1⟩=>?_)
    exact h2 pins s1 σ1 H1 _ _ Q I1 rr q1
noncomputable def LU (K : PySem.W.Frag) (n : Nat) (t : TGs) : TG:=fun v σ H Q=>∃ a xs, v = .ref a /\ SqT K H a xs /\ xs.length = n /\ t xs σ H Q
theorem GA {es : List Expr} {k : Nat} {t : TGs} {n : Nat} (hc : X.calm = true) (h : PGs X es t)
    (hn : (assignEach es X.env).length = n:=by rfl) (hst : (assignEach es X.env).findIdx? (·.1) = none:=by rfl) : PG X (.Tuple es k pos) (LU X.K n t):=by
  intro pins s σ H v u Q I r hw
  obtain ⟨a, xs, e1, hq, hl, hw⟩:=hw
  subst e1
  cases r
  obtain ⟨its, rv, ht, hz⟩:=I.tuple hq
  refine assign_Tuple_tuple (I.ok.hd hc) ht (by simp [hn, ← hl, rv.length]) hst fun h' hx=>?_
  have I1 : Inv X pins σ H { s with heap:=h' }:=I.kept (t':=s.toks) fun b o e=>hx b o (Nat.ne_of_lt (Heap.lt_size e)) e
  exact h pins _ σ H xs _ Q I1 (by simpa using rv) hw
noncomputable def LM (to ti : TE) (t : IY) : TG:=fun v σ H Q=>to σ H fun o H1=>ti σ H1 fun i H2=>t o i v H2 fun H3=>Q σ H3
theorem HV {o i : Expr} {to ti : TE} {t : IY} (ho : PE X o to) (hi : PE X i ti) (hs : LG X t)
    (ha : ∀ v, assign (.Subscript o i pos) X.env v = (do
      let ov ← holding [v] (eval o X.env)
      let iv ← holding [v, ov] (eval i X.env)
      standAt pos
      holding [v, ov, iv] (setItem ov iv v)
      release [v, ov, iv] []):=by intro _; rfl) : PG X (.Subscript o i pos) (LM to ti t):=by
  intro pins s σ H v u Q I r h
  rw [ha]
  refine wpAny_bind (wpAny_holding (thn (ho pins s σ H _ I h) fun ov s1 ⟨x, H1, I1, r1, q1⟩=>?_))
  refine wpAny_bind (wpAny_holding (thn (hi pins s1 σ H1 _ I1 q1) fun iv s2 ⟨y, H2, I2, r2, q2⟩=>?_))
  refine wpAny_bind (wpAny_standAt (wpAny_bind (wpAny_holding (thn (hs pins s2 σ H2 x y v ov iv u _ I2 r1 r2 r q2) fun _ s3 ⟨H3, I3, q3⟩=>?_))))
  exact wpAny_release ⟨σ, H3, I3, q3⟩
noncomputable def B4 (te : TE) (g : TG) : TS:=fun D σ H=>te σ H fun x H1=>g x σ H1 D.nx
theorem HC {tg e : Expr} {te : TE} {g : TG} (he : PE X e te) (hg : PG X tg g) (hs : swapsWithSole [tg] e pos.line X.env = pure false:=by rfl) (hw : swappedStores [tg] e X.env = pure none:=by rfl)
    (h1 : (assignEach [tg] X.env).map (·.2) = [assign tg X.env]:=by rfl) : PS X (.Assign [tg] e pos) (B4 te g):=by
  intro pins s σ H D I h
  refine wpAny_Assign_stores (thn (he pins s σ H _ I h) fun v s1 ⟨x, H1, I1, r1, q1⟩=>?_) hs hw
  rw [h1]
  exact thn (hg pins s1 σ H1 x v _ I1 r1 q1) fun _ s2 q=>q
theorem XA {i : Nat} {x : Str} {e : Expr} {te : TE} {pos' : Pos} (hN : X.N.Nodup) (hi : X.N[i]? = some x) (hx : Loc X.env.scope x) (he : PE X e te) (hs : swapsWith e (some (.Name x pos')) pos.line X.env = pure false:=by rfl) (hf : X.fn x = true ∨ X.env.scope.names.lookup x = some .local:=by first | exact .inl rfl | exact .inr rfl | assumption) :
    PS X (.Assign [.Name x pos'] e pos) (B4 te (Z7 i)):=by
  intro pins s σ H D I h
  refine wpAny_Assign_Name (thn (he pins s σ H _ I h) fun v s1 ⟨y, H1, I1, r1, q1⟩=>?_) hs
  exact JE I1 hN hi hx r1 (fun s2 I2=>⟨_, H1, I2, q1⟩) hf
noncomputable def LW (i j : Nat) (ta : TA) : TS:=fun D σ H=>ta σ H fun vs H1=>∃ v w, vs = [v, w] /\ D.nx ((σ.set i (some v)).set j (some w)) H1
theorem BO {i j : Nat} {x y : Str} {a b : Expr} {ta : TA} {px py pt : Pos} {kt k2 pt2} (hc : X.calm = true) (hN : X.N.Nodup) (hi : X.N[i]? = some x) (hj : X.N[j]? = some y) (hij : i ≠ j)
    (hx : X.env.scope.names.lookup x = some .local) (hy : X.env.scope.names.lookup y = some .local) (ha : PA X [a, b] ta)
    (hw : swappedStores [.Tuple [.Name x px, .Name y py] kt pt] (.Tuple [a, b] k2 pt2) X.env = pure (some [x, y]))
    (hs : swapsWithSole [.Tuple [.Name x px, .Name y py] kt pt] (.Tuple [a, b] k2 pt2) pos.line X.env = pure false:=by rfl) :
    PS X (.Assign [.Tuple [.Name x px, .Name y py] kt pt] (.Tuple [a, b] k2 pt2) pos) (LW i j ta):=by
  intro pins s σ H D I h
  rw [exec_Assign_arm]
  refine wpAny_bind (wpAny_standAt ?_)
  rw [hs]
  refine wpAny_bind (wpAny_pure ?_)
  rw [if_neg (by decide)]
  refine wpAny_bind (Tuple_ (thn (ha _ pins s σ H _ I h) fun us s1 ⟨vs, H1, I1, r1, q1⟩=>?_))
  obtain ⟨v, w, e1, q1⟩:=q1
  subst e1
  obtain ⟨u1, u2, rfl, rv, rw'⟩ : ∃ u1 u2, us = [u1, u2] /\ X7 v u1 /\ X7 w u2:=by
    cases r1 with
    | cons p q=>
      cases q with
      | cons p' q'=>
        cases q'
        exact ⟨_, _, rfl, p, p'⟩
  refine wpAny_newObj_type ?_ (by show 2 <= sizeLine; decide)
  have I2 : Inv X pins σ H1 { s1 with heap:=s1.heap.push { cls:=.type "tuple", data:=.seq [u1, u2].toArray } }:=I1.kept (t':=s1.toks) fun b o e=>Heap.get?_push_of_some _ e
  rw [hw]
  refine wpAny_bind (wpAny_pure ?_)
  show wpAny (model X.prog X.w) X.A (do rule "assign.swapped-stores"; let items ← unpackItems (.ref s1.heap.objs.size) 2 none; assignInOrder [fun v=>bindName X.env y v, fun v=>bindName X.env x v] items.reverse; pure Flow.next) _ _ _
  refine wpAny_bind (wpAny_rule (wpAny_bind (unpackItems_tuple (items:=#[u1, u2]) (I.ok.hd hc) (IsTup.new s1.heap _) fun h' hx'=>?_)))
  have I3:=I2.kept (h':=h') (t':=s1.toks) fun b o e=>hx' b o (Nat.ne_of_lt (Heap.lt_size e)) e
  show wpAny _ _ (assignInOrder [fun v=>bindName X.env y v, fun v=>bindName X.env x v] [u2, u1] >>= fun _=>pure Flow.next) _ _ _
  refine wpAny_bind (assignInOrder_cons (wpAny_bindName (JE I3 hN hj (.inl hy) rw' (fun s2 I4=>?_) (.inr hy))))
  refine assignInOrder_cons (wpAny_bindName (JE I4 hN hi (.inl hx) rv (fun s3 I5=>assignInOrder_nil (wpAny_pure ?_)) (.inr hx)))
  rw [List.set_comm _ _ (Ne.symm hij)] at I5
  exact ⟨_, H1, I5, q1⟩
end
section
variable {X : Cx} {pos : Pos}
noncomputable def D0 (c : TT) (tb : TS) : TS:=fun D σ H=>∃ W : Nat -> St -> Hp -> Prop, (∃ m, W m σ H) /\ ∀ m σ H, W m σ H ->
  c σ H fun b H1=>if b = true then ∃ N : St -> Hp -> Prop, (∀ σ' H', N σ' H' -> ∃ m', m' < m /\ W m' σ' H') /\ tb { D with nx:=N, ct:=N, bk:=D.nx } σ H1 else D.nx σ H1
theorem VZ {c : Expr} {body : List Stmt} {tc : TT} {tb : TS} (hp : PassesOwn (model X.prog X.w) X.A X.env X.xe) (hc : PT X c tc) (hb : PSs X body tb) : PS X (.While c body [] pos) (D0 tc tb):=by
  intro pins s σ H D I h
  obtain ⟨W, ⟨m0, w0⟩, turn⟩:=h
  refine wpAny_While (codeAny_whileLoop (fun n s'=>∃ σ' H', Inv X pins σ' H' s' /\ W n σ' H') ?_ m0 ⟨σ, H, I, w0⟩)
  rintro n s1 ⟨σ1, H1, I1, w1⟩
  refine wpAny_passesOwn hp (thn (hc pins s1 σ1 H1 _ I1 (turn n σ1 H1 w1)) fun b s2 ⟨H2, I2, q2⟩=>?_)
  cases b with
  | true=>
    obtain ⟨N, hN, q2⟩:=q2
    rw [if_pos rfl]
    refine wpAny_passesOwn hp (thn (hb pins s2 σ1 H2 _ I2 q2) fun f s3 q3=>?_)
    cases f with
    | next=>
      obtain ⟨σ3, H3, I3, n3⟩:=q3
      obtain ⟨m', hm, w3⟩:=hN σ3 H3 n3
      exact ⟨m', hm, σ3, H3, I3, w3⟩
    | cont=>
      obtain ⟨σ3, H3, I3, n3⟩:=q3
      obtain ⟨m', hm, w3⟩:=hN σ3 H3 n3
      exact ⟨m', hm, σ3, H3, I3, w3⟩
    | brk=>exact q3
    | ret v=>exact q3
  | false=>
    rw [if_neg Bool.false_ne_true]
    exact wpAny_execs_nil ⟨σ1, H2, I2, q2⟩
end
structure It where
  go : Nat -> Hp -> Prop
  yld : Nat -> Hp -> V -> Hp -> Prop
  stop : Nat -> Hp -> Prop
noncomputable def Kx (X : Cx) (pins : List (Addr × Obj)) (H : Hp) (b : Addr) : Prop:=
  H b = none /\ b ≠ X.env.locals /\ b ∉ X.fs /\ (b ∈ X.ex ∨ X.s₀.heap.objs.size <= b) /\ (∀ x c, X.env.cells.lookup x = some c -> c ≠ b) /\ ∀ p ∈ X.pn ++ pins, p.1 ≠ b
theorem Inv.fpOk {X : Cx} {pins : List (Addr × Obj)} {σ : St} {H H' : Hp} {s : Shared} {b : Addr} (I : Inv X pins σ H s) (hb : s.heap.objs.size <= b) (hn : H' b = none) : Kx X pins H' b:=by
  refine ⟨hn, Nat.ne_of_gt (Nat.lt_of_lt_of_le I.lt hb), I.nofs hb, .inr (Nat.le_trans I.sz hb), fun x c e z=>?_, fun p hp z=>?_⟩
  . obtain ⟨v, q⟩ := I.cell x c e
    exact absurd (Nat.lt_of_lt_of_le q.lt (by rw [z]; exact hb)) (Nat.lt_irrefl _)
  . exact absurd (Nat.lt_of_lt_of_le (Heap.lt_size (I.pin p hp).1) (by rw [z]; exact hb)) (Nat.lt_irrefl _)
structure Turn (P : Program) (w : World) (K : PySem.W.Frag) (tg : Expr) (J : It) (fp : List Addr) (it : Addr) (tn : Nat -> Heap -> Prop) : Prop where
  mem : it ∈ fp
  obj : ∀ i h, tn i h -> ∀ b ∈ fp, ∃ o, h.get? b = some o /\ ∀ v, o.data ≠ .cell v
  keep : ∀ i h h', tn i h -> (∀ b ∈ fp, ∀ o, h.get? b = some o -> h'.get? b = some o) -> tn i h'
  item : ∀ (X : Cx), X.prog = P -> X.w = w -> X.K = K -> X.calm = true -> ∀ (i : Nat) (pins : List (Addr × Obj)) (s : Shared) (σ : St) (H : Hp) (E : Value -> Shared -> Prop), Inv X pins σ H s -> (∀ b ∈ fp, Kx X pins H b) -> tn i s.heap -> J.go i H ->
    wpAny (model P w) X.A (pyNext (.ref it)) (fun r s1=>∃ u, r = some u /\
      wpAny (model P w) X.A (letOwnedTupleGo tg (.ref it) u) (fun _ s2=>∃ x H', Inv X pins σ H' s2 /\ X7 x u /\ J.yld i H x H' /\ tn (i + 1) s2.heap /\ ∀ b ∈ fp, H' b = none) E s1) E s
  done : ∀ (X : Cx), X.prog = P -> X.w = w -> X.K = K -> X.calm = true -> ∀ (i : Nat) (pins : List (Addr × Obj)) (s : Shared) (σ : St) (H : Hp) (E : Value -> Shared -> Prop), Inv X pins σ H s -> (∀ b ∈ fp, Kx X pins H b) -> tn i s.heap -> J.stop i H ->
    wpAny (model P w) X.A (pyNext (.ref it)) (fun r s1=>r = none /\ Inv X pins σ H s1) E s
  self : ∀ (A : Around) (i : Nat) (s : Shared) (Q : Value -> Shared -> Prop) (E : Value -> Shared -> Prop), tn i s.heap -> Q (.ref it) s -> wpAny (model P w) A (pyIter (.ref it)) Q E s
noncomputable abbrev TI:=St -> Hp -> (It -> Hp -> Prop) -> Prop
noncomputable def PIE (X : Cx) (pins : List (Addr × Obj)) (σ : St) (tg : Expr) (R : It -> Hp -> Prop) (itv : Value) (s2 : Shared) : Prop:=
  ∃ (it : Addr) (fp : List Addr) (tn : Nat -> Heap -> Prop) (J : It) (H' : Hp), itv = .ref it /\ Inv X pins σ H' s2 /\ Turn X.prog X.w X.K tg J fp it tn /\ tn 0 s2.heap /\ (∀ b ∈ fp, Kx X pins H' b) /\ R J H'
noncomputable def PI (X : Cx) (tg iter : Expr) (wi : TI) : Prop:=
  ∀ (pins : List (Addr × Obj)) (s : Shared) (σ : St) (H : Hp) (R : It -> Hp -> Prop), Inv X pins σ H s -> wi σ H R ->
    wpAny (model X.prog X.w) X.A (eval iter X.env) (fun v s1=>wpAny (model X.prog X.w) X.A (pyIter v) (PIE X pins σ tg R) X.xe s1) X.xe s
theorem EQ {M : Model} {A : Around} {E : Value -> Shared -> Prop} {s : Shared} {tg : Expr} {it : Addr} {u : Value} {o : Obj} {n : String} {vs : Array Value} {Q : Unit -> Shared -> Prop} (ho : s.heap.get? it = some o) (hc : o.cls = .type n) (hd : o.data = .fields vs)
    (hn : ["enumerate", "zip", "dict_itemiterator", "dict_reverseitemiterator", "odict_iterator", "itertools.zip_longest", "itertools.pairwise"].contains n = false) (hQ : Q () s) : wpAny M A (letOwnedTupleGo tg (.ref it) u) Q E s:=by
  unfold letOwnedTupleGo
  cases tg <;> first
    | exact wpAny_pure hQ
    | (cases u <;> first
        | exact wpAny_pure hQ
        | (refine wpAny_bind (wpAny_load ho ?_)
           rw [hc, hd]
           show wpAny M A (if (["enumerate", "zip", "dict_itemiterator", "dict_reverseitemiterator", "odict_iterator", "itertools.zip_longest", "itertools.pairwise"].contains n && vs[0]? == some (rawInt _)) = true then _ else _) Q E s
           rw [if_neg (by intro h; rw [hn, Bool.false_and] at h; cases h)]
           exact wpAny_pure hQ))
noncomputable def Itl (K : PySem.W.Frag) (a : Addr) : It:=
  ⟨fun i H=>∃ xs x, SqL K H a xs /\ xs[i]? = some x, fun i H x H'=>H' = H /\ ∀ xs, SqL K H a xs -> xs[i]? = some x, fun i H=>∃ xs, SqL K H a xs /\ xs.length <= i⟩
noncomputable def Itr (lo : Int) (n : Nat) : It:=⟨fun i _=>i < n, fun i H x H'=>H' = H /\ x = .int (lo + i), fun i _=>n <= i⟩
theorem Fj {P : Program} {w : World} {K : PySem.W.Frag} {tg : Expr} (a it : Addr) : Turn P w K tg (Itl K a) [it] it (fun i h=>h.IsListIter it a i) where
  mem:=by simp
  obj:=fun i h st b hb=>by
    have e : b = it:=by simpa using hb
    subst e
    obtain ⟨o, e, c, d⟩:=st
    exact ⟨o, e, fun v z=>by rw [d] at z; cases z⟩
  keep:=fun i h h' st k=>st.at fun o e=>k it (by simp) o e
  item:=by
    intro X hP hw hK hc i pins s σ H E I hf st hg
    subst hP hw hK
    obtain ⟨xs, x, hq, hx⟩:=hg
    obtain ⟨its, rv, p, hz⟩:=I.list hq
    obtain ⟨u, hu, ru⟩:=rv.get hx
    obtain ⟨f0, f1, f2, f3, f4, f5⟩:=hf it (by simp)
    refine wpAny_pyNext_list_item st p.isList (x:=u) (by simpa using hu) fun h' st' sb=>?_
    have I1 : Inv X pins σ H { s with heap:=h' }:=I.turned (t':=s.toks) (fun b o hb e=>(sb.2 b hb).trans e) f0 f1 f3 f4 f5
    obtain ⟨o, e, c, d⟩:=id st'
    exact ⟨u, rfl, EQ (s:={ s with heap:=h' }) e c d (by decide) ⟨x, H, I1, ru, ⟨rfl, fun ys hy=>by rw [I.list_inj hy hq]; exact hx⟩, st', fun b hb=>(hf b hb).1⟩⟩
  done:=by
    intro X hP hw hK hc i pins s σ H E I hf st hg
    subst hP hw hK
    obtain ⟨xs, hq, hx⟩:=hg
    obtain ⟨its, rv, p, hz⟩:=I.list hq
    obtain ⟨f0, f1, f2, f3, f4, f5⟩:=hf it (by simp)
    have hl:=rv.length
    exact wpAny_pyNext_list_end (I.ok.hd hc) st p.isList (by simp; omega) fun h' eb=>⟨rfl, I.turned (t':=s.toks) (fun b o hb e=>eb b o hb e) f0 f1 f3 f4 f5⟩
  self:=fun _ _ _ _ _ st h=>wpAny_pyIter_listiter st h
theorem GJ {P : Program} {w : World} {K : PySem.W.Frag} {tg : Expr} (it : Addr) (lo : Int) (n : Nat) : Turn P w K tg (Itr lo n) [it] it (fun i h=>IsRangeIter h it (lo + (i : Nat) * 1) ((n : Int) - (i : Nat)) 1) where
  mem:=by simp
  obj:=fun i h st b hb=>by
    have e : b = it:=by simpa using hb
    subst e
    exact ⟨_, st, fun v z=>by
      have z' : Data.fields _ = Data.cell v:=z
      cases z'⟩
  keep:=fun i h h' st k=>k it (by simp) _ st
  item:=by
    intro X hP hw hK hc i pins s σ H E I hf st hg
    subst hP hw hK
    obtain ⟨f0, f1, f2, f3, f4, f5⟩:=hf it (by simp)
    have W:=Walks.range (prog:=X.prog) (w:=X.w) (I.ok.hd hc) it lo 1 n
    refine W.item i s _ _ hg st fun v h' tk hv st' kk=>?_
    obtain ⟨t, rfl⟩:=hv
    have I1 : Inv X pins σ H { s with heap:=h', toks:=tk }:=I.turned (fun b o hb e=>kk b o (by simpa using hb) e) f0 f1 f3 f4 f5
    refine ⟨_, rfl, EQ (s:={ s with heap:=h', toks:=tk }) (n:="range_iterator") st' rfl rfl (by decide) ⟨.int (lo + i), H, I1, ⟨t, ?_⟩, ⟨rfl, rfl⟩, st', fun b hb=>(hf b hb).1⟩⟩
    rw [Int.mul_one]
  done:=by
    intro X hP hw hK hc i pins s σ H E I hf st hg
    subst hP hw hK
    obtain ⟨f0, f1, f2, f3, f4, f5⟩:=hf it (by simp)
    exact wpAny_pyNext_range_end (I.ok.hd hc) st (by have : n <= i:=hg; omega) fun h' eb=>⟨rfl, I.turned (t':=s.toks) (fun b o hb e=>eb b o hb e) f0 f1 f3 f4 f5⟩
  self:=fun _ _ _ _ _ st h=>wpAny_pyIter_rangeiter st h
end L2
namespace L2
open PySem PySem.Spec PyProof.Rows
section
variable {X : Cx} {tg : Expr}
noncomputable def Vy (K : PySem.W.Frag) (tl : TE) : TI:=fun σ H R=>tl σ H fun x H1=>∃ a, x = .ref a /\ (∃ xs, SqL K H1 a xs) /\ R (Itl K a) H1
theorem Ek {l : Expr} {tl : TE} (hl : PE X l tl) : PI X tg l (Vy X.K tl):=by
  intro pins s σ H R I h
  refine thn (hl pins s σ H _ I h) fun v s1 ⟨x, H1, I1, r1, q1⟩=>?_
  obtain ⟨a, e, ⟨xs, hq⟩, q⟩:=q1
  subst e
  cases r1
  obtain ⟨its, rv, p, hz⟩:=I1.list hq
  refine wpAny_pyIter_list p.isList ?_
  refine ⟨s1.heap.objs.size, [s1.heap.objs.size], _, _, H1, rfl, I1.kept (t':=s1.toks) fun b o e=>Heap.get?_push_of_some _ e, Fj a _, ⟨_, Heap.get?_push_size _ rfl, rfl, rfl⟩, fun b hb=>?_, q⟩
  have e : b = s1.heap.objs.size:=by simpa using hb
  subst e
  exact I1.fpOk (Nat.le_refl _) (I1.hok.fresh (Nat.le_refl _))
theorem CS {pins : List (Addr × Obj)} {σ : St} {H : Hp} {s : Shared} {R : It -> Hp -> Prop} {E : Value -> Shared -> Prop} {lo hi : Int} {t u v : Tok} {tk : Nat} (I : Inv X pins σ H s) (h1 : -(2 ^ 62) <= lo) (h2 : lo < 2 ^ 62) (h3 : -(2 ^ 62) <= hi) (h4 : hi < 2 ^ 62)
    (q : R (Itr lo (hi - lo).toNat) H) : wpAny (model X.prog X.w) X.A (pyIter (.ref s.heap.objs.size)) (PIE X pins σ tg R) E { s with heap:=s.heap.push { cls:=.type "range", data:=.fields #[.int lo t, .int hi u, .int 1 v] }, toks:=tk }:=by
  refine wpAny_pyIter_range (IsRange.new ..) (small_one h1 h2 h3 h4) ?_
  have I1 : Inv X pins σ H { s with heap:=s.heap.push { cls:=.type "range", data:=.fields #[.int lo t, .int hi u, .int 1 v] }, toks:=tk }:=I.kept fun b o e=>Heap.get?_push_of_some _ e
  refine ⟨(s.heap.push { cls:=.type "range", data:=.fields #[.int lo t, .int hi u, .int 1 v] }).objs.size, [(s.heap.push { cls:=.type "range", data:=.fields #[.int lo t, .int hi u, .int 1 v] }).objs.size], _, _, H, rfl,
    I1.kept (t':=tk) fun b o e=>Heap.get?_push_of_some _ e, GJ _ lo (hi - lo).toNat, ?_, fun b hb=>?_, q⟩
  . have e1 : lo + ((0 : Nat) : Int) * 1 = lo := by simp
    have e2 : (((hi - lo).toNat : Nat) : Int) - ((0 : Nat) : Int) = Builtin.Range.rangeSize lo hi 1:=by rw [rangeSize_one]; split <;> omega
    show IsRangeIter _ _ (lo + ((0 : Nat) : Int) * 1) ((((hi - lo).toNat : Nat) : Int) - ((0 : Nat) : Int)) 1
    rw [e1, e2]
    exact Heap.get?_push_size _ rfl
  . have e : b = (s.heap.push { cls := .type "range", data := .fields #[.int lo t, .int hi u, .int 1 v] }).objs.size := by simpa using hb
    subst e
    exact I1.fpOk (Nat.le_refl _) (I1.hok.fresh (Nat.le_refl _))
noncomputable def Hx (ta : TA) : TI:=fun σ H R=>ta σ H fun vs H1=>∃ j : Int, vs = [.int j] /\ -(2 ^ 62) <= j /\ j < 2 ^ 62 /\ R (Itr 0 j.toNat) H1
theorem Xy {a : Expr} {ta : TA} {p pos : Pos} (hg : Gl X "range") (hm : X.mg "range" = none) (ha : PA X [a] ta) (hs : starEach [a] X.env = [(false, eval a X.env)]:=by rfl) : PI X tg (.Call (.Name "range" p) [a] [] pos) (Hx ta):=by
  intro pins s σ H R I h
  refine Call_ (Jv I hg hm boot_range (PyProof.Rows.callWith_type1 (thn (ha pos pins s σ H _ I h) fun us s1 ⟨vs, H1, I1, r1, q1⟩=>?_) hs rfl))
  obtain ⟨j, e, q1, q2, q⟩:=q1
  subst e
  cases r1 with
  | cons r rr=>
    cases rr
    obtain ⟨t, rfl⟩:=r
    exact call_range_1 (CS I1 (by omega) (by omega) q1 q2 (by simpa using q))
noncomputable def Cd (wi : TI) (g : TG) (tb : TS) : TS:=fun D σ H=>wi σ H fun J H1=>∃ W : Nat -> Nat -> St -> Hp -> Prop, (∃ m, W 0 m σ H1) /\ ∀ i m σ H, W i m σ H ->
  (J.stop i H /\ D.nx σ H) ∨ (J.go i H /\ ∃ N : St -> Hp -> Prop, (∀ σ' H', N σ' H' -> ∃ m', m' < m /\ W (i + 1) m' σ' H') /\ ∀ x H', J.yld i H x H' -> g x σ H' fun σ2 H2=>tb { D with nx:=N, ct:=N, bk:=D.nx } σ2 H2)
noncomputable def U6 (fp : List Addr) (h : Heap) : List (Addr × Obj):=fp.filterMap fun b=>(h.get? b).map fun o=>(b, o)
theorem Jf {fp : List Addr} {h : Heap} {b : Addr} {o : Obj} (hb : b ∈ fp) (e : h.get? b = some o) : (b, o) ∈ U6 fp h:=List.mem_filterMap.mpr ⟨b, hb, by rw [e]; rfl⟩
theorem DN {fp : List Addr} {h : Heap} {p : Addr × Obj} (hp : p ∈ U6 fp h) : p.1 ∈ fp /\ h.get? p.1 = some p.2:=by
  obtain ⟨b, hb, e⟩:=List.mem_filterMap.mp hp
  cases q : h.get? b with
  | none=>rw [q] at e; cases e
  | some o=>
    rw [q] at e
    have e' : (b, o) = p:=Option.some.inj e
    subst e'
    exact ⟨hb, q⟩
theorem Inv.pinned {pins : List (Addr × Obj)} {σ : St} {H : Hp} {s : Shared} {fp : List Addr} (I : Inv X pins σ H s) (hf : ∀ b ∈ fp, Kx X pins H b) (ho : ∀ b ∈ fp, ∃ o, s.heap.get? b = some o /\ ∀ v, o.data ≠ .cell v) : Inv X (pins ++ U6 fp s.heap) σ H s:=
  I.pins_of fun p hp=>(List.mem_append.mp hp).elim (fun z=>I.pin p (List.mem_append_right _ z)) fun z=>by
    obtain ⟨hb, e⟩:=DN z
    obtain ⟨f0, f1, f2, _⟩:=hf p.1 hb
    obtain ⟨o, e', d⟩:=ho p.1 hb
    rw [e] at e'; cases e'
    exact ⟨e, f0, f1, f2, d⟩
theorem Inv.unpinned {pins pl : List (Addr × Obj)} {σ : St} {H : Hp} {s : Shared} (I : Inv X (pins ++ pl) σ H s) : Inv X pins σ H s:=I.pins_of fun p hp=>I.pin p (List.mem_append_right _ (List.mem_append_left _ hp))
theorem XM {iter : Expr} {body : List Stmt} {wi : TI} {g : TG} {tb : TS} {pos : Pos} (hp : PassesOwn (model X.prog X.w) X.A X.env X.xe) (hc : X.calm = true) (hi : PI X tg iter wi) (hg : PG X tg g) (hb : PSs X body tb)
    (hs : ∀ x, foldedSetIterable iter X.env x = pure x:=by intro _; rfl) : PS X (.For tg iter body [] pos) (Cd wi g tb):=by
  intro pins s σ H D I h
  refine wpAny_For (thn (hi pins s σ H _ I h) fun v s1 h1=>thn h1 fun itv s2 h2=>?_) hs
  obtain ⟨it, fp, tn, J, H2, e, I2, T, st2, f2, W, ⟨m0, w0⟩, turn⟩:=h2
  subst e
  -- what stays true of the iterator's objects through the loop
  have stat : ∀ {H' : Hp}, (∀ b ∈ fp, H' b = none) -> ∀ b ∈ fp, Kx X pins H' b:=fun hn b hb=>⟨hn b hb, (f2 b hb).2⟩
  refine codeAny_forLoop_any (fun n s'=>∃ i σ' H', Inv X pins σ' H' s' /\ tn i s'.heap /\ (∀ b ∈ fp, H' b = none) /\ W i n σ' H') ?_ m0 ⟨0, σ, H2, I2, st2, fun b hb=>(f2 b hb).1, w0⟩
  rintro n s3 ⟨i, σ3, H3, I3, st3, fr3, w3⟩
  rcases turn i n σ3 H3 w3 with ⟨stop, qn⟩ | ⟨go, N, hN, step⟩
  . refine wpAny_passesOwn hp (thn (T.done X rfl rfl rfl hc i pins s3 σ3 H3 X.xe I3 (stat fr3) st3 stop) fun r s4 ⟨hr, I4⟩ => ?_)
    subst hr
    exact wpAny_execs_nil ⟨σ3, H3, I4, qn⟩
  . refine wpAny_passesOwn hp (thn (T.item X rfl rfl rfl hc i pins s3 σ3 H3 X.xe I3 (stat fr3) st3 go) fun r s4 ⟨u, hr, h4⟩ => ?_)
    subst hr
    refine wpAny_passesOwn hp (thn h4 fun _ s5 ⟨x, H5, I5, r5, y5, st5, fr5⟩=>?_)
    have I5':=I5.pinned (stat fr5) (T.obj _ _ st5)
    refine wpAny_passesOwn hp (thn (hg _ s5 σ3 H5 x u _ I5' r5 (step x H5 y5)) fun _ s6 ⟨σ6, H6, I6, q6⟩=>?_)
    refine wpAny_passesOwn hp (thn (hb _ s6 σ6 H6 _ I6 q6) fun f s7 q7=>?_)
    have again : ∀ {σ7 : St} {H7 : Hp}, Inv X (pins ++ U6 fp s5.heap) σ7 H7 s7 -> N σ7 H7 -> ∃ m, m < n /\ ∃ i σ' H', Inv X pins σ' H' s7 /\ tn i s7.heap /\ (∀ b ∈ fp, H' b = none) /\ W i m σ' H':=fun {σ7 H7} I7 n7=>by
      obtain ⟨m', hm, w7⟩:=hN σ7 H7 n7
      refine ⟨m', hm, i + 1, σ7, H7, I7.unpinned, T.keep _ _ _ st5 fun b hb o e=>(I7.pin (b, o) (List.mem_append_right _ (List.mem_append_right _ (Jf hb e)))).1, fun b hb=>?_, w7⟩
      obtain ⟨o, e, d⟩:=T.obj _ _ st5 b hb
      exact (I7.pin (b, o) (List.mem_append_right _ (List.mem_append_right _ (Jf hb e)))).2.1
    cases f with
    | next=>obtain ⟨σ7, H7, I7, n7⟩:=q7; exact again I7 n7
    | cont=>obtain ⟨σ7, H7, I7, n7⟩:=q7; exact again I7 n7
    | brk=>obtain ⟨σ7, H7, I7, q7⟩:=q7; exact ⟨σ7, H7, I7.unpinned, q7⟩
    | ret v=>obtain ⟨x7, σ7, H7, I7, r7, q7⟩:=q7; exact ⟨x7, σ7, H7, I7.unpinned, r7, q7⟩
end
theorem JO {K : PySem.W.Frag} {a : Addr} {xs : List V} {g : TG} {tb : TS} {D : Ends} {σ : St} {H : Hp} (Pv : Nat -> St -> Hp -> Prop) (h0 : Pv 0 σ H) (hl : ∀ i σ H, i <= xs.length -> Pv i σ H -> SqL K H a xs)
    (hs : ∀ i x σ H, xs[i]? = some x -> Pv i σ H -> g x σ H fun σ2 H2=>tb { D with nx:=Pv (i + 1), ct:=Pv (i + 1), bk:=D.nx } σ2 H2) (hd : ∀ σ H, Pv xs.length σ H -> D.nx σ H) :
    ∃ W : Nat -> Nat -> St -> Hp -> Prop, (∃ m, W 0 m σ H) /\ ∀ i m σ H, W i m σ H ->
      ((Itl K a).stop i H /\ D.nx σ H) ∨ ((Itl K a).go i H /\ ∃ N : St -> Hp -> Prop, (∀ σ' H', N σ' H' -> ∃ m', m' < m /\ W (i + 1) m' σ' H') /\ ∀ x H', (Itl K a).yld i H x H' -> g x σ H' fun σ2 H2=>tb { D with nx:=N, ct:=N, bk:=D.nx } σ2 H2):=by
  refine ⟨fun i m σ H=>m = xs.length - i /\ i <= xs.length /\ Pv i σ H, ⟨xs.length, by simp, Nat.zero_le _, h0⟩, ?_⟩
  rintro i m σ H ⟨rfl, hi, p⟩
  have q:=hl i σ H hi p
  by_cases hlt : i < xs.length
  . refine .inr ⟨⟨xs, xs[i], q, by simp [hlt]⟩, Pv (i + 1), fun σ' H' p' => ⟨xs.length - (i + 1), by omega, rfl, hlt, p'⟩, fun x H' y => ?_⟩
    obtain ⟨e, y⟩:=y
    subst e
    exact hs i x σ _ (y xs q) p
  . have e : i = xs.length := by omega
    subst e
    exact .inl ⟨⟨xs, q, Nat.le_refl _⟩, hd σ H p⟩
end L2
namespace L2
open PySem PySem.Spec PyProof.Rows
noncomputable abbrev R2:=V -> V -> Hp -> VK -> Prop
noncomputable def OpR (X : Cx) (f : Value -> Value -> Sem Value) (r : R2) : Prop:=
  ∀ (pins : List (Addr × Obj)) (s : Shared) (σ : St) (H : Hp) (x y : V) (v u : Value) (Q : VK), Inv X pins σ H s -> X7 x v -> X7 y u -> r x y H Q ->
    wpAny (model X.prog X.w) X.A (f v u) (EP X pins σ Q) X.xe s
noncomputable def UnR (X : Cx) (f : Value -> Sem Value) (r : V -> Hp -> VK -> Prop) : Prop:=
  ∀ (pins : List (Addr × Obj)) (s : Shared) (σ : St) (H : Hp) (x : V) (v : Value) (Q : VK), Inv X pins σ H s -> X7 x v -> r x H Q ->
    wpAny (model X.prog X.w) X.A (f v) (EP X pins σ Q) X.xe s
noncomputable def Qc (X : Cx) (f : Value) (r : List V -> Hp -> VK -> Prop) : Prop:=
  ∀ (pins : List (Addr × Obj)) (s : Shared) (σ : St) (H : Hp) (xs : List V) (us : List Value) (Q : VK), Inv X pins σ H s -> X3 xs us -> r xs H Q ->
    wpAny (model X.prog X.w) X.A (call f us) (EP X pins σ Q) X.xe s
noncomputable def tOp (r : R2) (ta tb : TE) : TE:=fun σ H Q=>ta σ H fun x H1=>tb σ H1 fun y H2=>r x y H2 Q
noncomputable def tUn (r : V -> Hp -> VK -> Prop) (ta : TE) : TE:=fun σ H Q=>ta σ H fun x H1=>r x H1 Q
noncomputable def rI (C : Int -> Int -> Prop) (g : Int -> Int -> V) : R2:=fun x y H Q=>∃ i j, x = .int i /\ y = .int j /\ C i j /\ Q (g i j) H
noncomputable def rI0 (g : Int -> Int -> V) : R2:=fun x y H Q=>∃ i j, x = .int i /\ y = .int j /\ Q (g i j) H
noncomputable def rU (g : Int -> V) : V -> Hp -> VK -> Prop:=fun x H Q=>∃ i, x = .int i /\ Q (g i) H
section
variable {X : Cx} {a b c : Expr} {ta tb tc : TE} {pos : Pos}
theorem Ls (ha : PE X a ta) (hb : PE X b tb) {pins : List (Addr × Obj)} {s : Shared} {σ : St} {H : Hp} {R : V -> V -> Hp -> Prop} (I : Inv X pins σ H s)
    (h : ta σ H fun x H1=>tb σ H1 fun y H2=>R x y H2) {Q : Value -> Shared -> Prop} {f : Value -> Value -> Sem Value}
    (hf : ∀ v u s2 x y H2, Inv X pins σ H2 s2 -> X7 x v -> X7 y u -> R x y H2 -> wpAny (model X.prog X.w) X.A (f v u) Q X.xe s2) :
    wpAny (model X.prog X.w) X.A (eval a X.env) (fun v s₁=>wpAny (model X.prog X.w) X.A (eval b X.env) (fun u s₂=>wpAny (model X.prog X.w) X.A (f v u) Q X.xe s₂) X.xe s₁) X.xe s:=by
  refine thn (ha pins s σ H _ I h) fun v s1 ⟨x, H1, I1, r1, q1⟩=>?_
  refine thn (hb pins s1 σ H1 _ I1 q1) fun u s2 ⟨y, H2, I2, r2, q2⟩=>?_
  exact hf v u s2 x y H2 I2 r1 r2 q2
theorem XC {op : Operator} {r : R2} (ho : OpR X (binaryOp op) r) (ha : PE X a ta) (hb : PE X b tb) : PE X (.BinOp a op b pos) (tOp r ta tb):=by
  intro pins s σ H Q I h
  exact wpAny_BinOp (Ls ha hb I h fun v u s2 x y H2 I2 rx ry q=>ho pins s2 σ H2 x y v u Q I2 rx ry q)
theorem Hz {op : UnaryOp} {r : V -> Hp -> VK -> Prop} (ho : UnR X (unaryOp op) r) (ha : PE X a ta) : PE X (.UnaryOp op a pos) (tUn r ta):=by
  intro pins s σ H Q I h
  exact UnaryOp_ (thn (ha pins s σ H _ I h) fun v s1 ⟨x, H1, I1, r1, q1⟩=>ho pins s1 σ H1 x v Q I1 r1 q1)
theorem opI {f : Value -> Value -> Sem Value} {C : Int -> Int -> Prop} {g : Int -> Int -> Int}
    (rule : ∀ (i j : Int) (t u : Tok) (s : Shared) (Q : Value -> Shared -> Prop) (E : Value -> Shared -> Prop), C i j -> Q (.int (g i j) s.toks) { s with toks:=s.toks + 1 } -> wpAny (model X.prog X.w) X.A (f (.int i t) (.int j u)) Q E s) :
    OpR X f (rI C fun i j=>.int (g i j)):=by
  intro pins s σ H x y v u Q I rx ry h
  obtain ⟨i, j, rfl, rfl, hc, q⟩:=h
  obtain ⟨t, rfl⟩:=rx
  obtain ⟨t', rfl⟩:=ry
  exact rule i j t t' s _ _ hc ⟨.int (g i j), H, I.tok _, ⟨_, rfl⟩, q⟩
theorem LX {f : Value -> Value -> Sem Value} {g : Int -> Int -> Int}
    (rule : ∀ (i j : Int) (t u : Tok) (s : Shared) (Q : Value -> Shared -> Prop) (E : Value -> Shared -> Prop), Q (.int (g i j) s.toks) { s with toks:=s.toks + 1 } -> wpAny (model X.prog X.w) X.A (f (.int i t) (.int j u)) Q E s) :
    OpR X f (rI0 fun i j=>.int (g i j)):=by
  intro pins s σ H x y v u Q I rx ry h
  obtain ⟨i, j, rfl, rfl, q⟩:=h
  obtain ⟨t, rfl⟩:=rx
  obtain ⟨t', rfl⟩:=ry
  exact rule i j t t' s _ _ ⟨.int (g i j), H, I.tok _, ⟨_, rfl⟩, q⟩
theorem LB {f : Value -> Value -> Sem Value} {g : Int -> Int -> Bool}
    (rule : ∀ (i j : Int) (t u : Tok) (s : Shared) (Q : Value -> Shared -> Prop) (E : Value -> Shared -> Prop), Q (.bool (g i j)) s -> wpAny (model X.prog X.w) X.A (f (.int i t) (.int j u)) Q E s) :
    OpR X f (rI0 fun i j=>.bl (g i j)):=by
  intro pins s σ H x y v u Q I rx ry h
  obtain ⟨i, j, rfl, rfl, q⟩:=h
  obtain ⟨t, rfl⟩:=rx
  obtain ⟨t', rfl⟩:=ry
  exact rule i j t t' s _ _ ⟨.bl (g i j), H, I, rfl, q⟩
noncomputable def L3 (i j : Int) : Prop:=0 <= j /\ j <= 1000000 /\ i.natAbs < 2 ^ 64
noncomputable def IN (i j : Int) : Prop:=(-(2 ^ 64) < i /\ i < 2 ^ 64) ∨ (-(2 ^ 64) < j /\ j < 2 ^ 64)
theorem IN.ok {i j : Int} (h : IN i j) : IntMulOk i j:=by
  rcases h with ⟨h1, h2⟩ | ⟨h1, h2⟩
  . exact .of_left (intBits_le_64 h1 h2)
  . exact .of_right (intBits_le_64 h1 h2)
theorem YV : OpR X (binaryOp .Add) (rI0 fun i j=>.int (i + j)):=LX fun _ _ _ _ _ _ _ q=>add_int q
theorem Y4 : OpR X (binaryOp .Sub) (rI0 fun i j=>.int (i - j)):=LX fun _ _ _ _ _ _ _ q=>sub_int q
theorem Z0 : OpR X (binaryOp .Mult) (rI IN fun i j=>.int (i * j)):=opI fun _ _ _ _ _ _ _ hc q=>mul_int q hc.ok
theorem YE : OpR X (binaryOp .Mod) (rI (fun _ j=>0 < j) fun i j=>.int (i % j)):=opI fun i j _ _ _ _ _ hc q=>by
  have h1 : (0 : Int) < j:=hc
  exact mod_int' (by omega) (by rw [Int.fmod_eq_emod_of_nonneg i (by omega)]; exact q)
theorem BH : OpR X (binaryOp .Pow) (rI L3 fun i j=>.int (i ^ j.toNat)):=opI fun _ _ _ _ _ _ _ hc q=>pow_int_small hc.1 hc.2.1 hc.2.2 q
theorem unI {f : Value -> Sem Value} {g : Int -> Int}
    (rule : ∀ (i : Int) (t : Tok) (s : Shared) (Q : Value -> Shared -> Prop) (E : Value -> Shared -> Prop), Q (.int (g i) s.toks) { s with toks:=s.toks + 1 } -> wpAny (model X.prog X.w) X.A (f (.int i t)) Q E s) :
    UnR X f (rU fun i=>.int (g i)):=by
  intro pins s σ H x v Q I rx h
  obtain ⟨i, rfl, q⟩:=h
  obtain ⟨t, rfl⟩:=rx
  exact rule i t s _ _ ⟨.int (g i), H, I.tok _, ⟨_, rfl⟩, q⟩
theorem BN : UnR X (unaryOp .USub) (rU fun i=>.int (-i)):=unI fun _ _ _ _ _ q=>neg_int q
end
noncomputable def Lk : V -> V -> Bool
  | .non, .non=>true | .non, .int _=>true | .int _, .non=>true | .non, .bl _=>true | .bl _, .non=>true | .non, .str _=>true | .str _, .non=>true
  | .int _, .int _=>true | .bl _, .bl _=>true | .str _, .str _=>true | .byt _, .byt _=>true
  | .int _, .str _=>true | .str _, .int _=>true | .bl _, .str _=>true | .str _, .bl _=>true
  | _, _=>false
noncomputable def rEq : R2:=fun x y H Q=>Lk x y = true /\ Q (.bl (decide (x = y))) H
noncomputable def rNe : R2:=fun x y H Q=>Lk x y = true /\ Q (.bl (!decide (x = y))) H
theorem Dr {i j : Int} : decide (V.int i = V.int j) = (i == j):=by
  rw [Bool.eq_iff_iff]
  simp
theorem BG {i j : Bool} : decide (V.bl i = V.bl j) = (i == j):=by
  rw [Bool.eq_iff_iff]
  simp
theorem FD {i j : Str} : decide (V.str i = V.str j) = (i == j):=by
  rw [Bool.eq_iff_iff]
  simp
theorem Dd {i j : Array UInt8} : decide (V.byt i = V.byt j) = (i.toList == j.toList):=by
  rw [Bool.eq_iff_iff]
  cases i
  cases j
  simp
section
variable {X : Cx} {a b c : Expr} {ta tb tc : TE} {pos : Pos}
theorem X1 {pins : List (Addr × Obj)} {σ : St} {H : Hp} {s : Shared} {Q : VK} {k k' : Bool} (I : Inv X pins σ H s) (q : Q (.bl k) H) (e : k = k') : EP X pins σ Q (.bool k') s:=by
  subst e
  exact ⟨.bl k, H, I, rfl, q⟩
theorem Qf : OpR X (compareOp .Eq) rEq:=by
  intro pins s σ H x y v u Q I rx ry h
  obtain ⟨hs, q⟩:=h
  cases x with
  | non=>
    cases rx
    cases y with
    | non=>cases ry; exact PySem.EqNone.eq_none_none (X1 I q (by simp))
    | bl j=>cases ry; exact PySem.EqNone.eq_none_bool (X1 I q (by simp))
    | int j=>obtain ⟨t', rfl⟩:=ry; exact PySem.EqNone.eq_none_int (X1 I q (by simp))
    | str j=>obtain ⟨t', rfl⟩:=ry; exact PySem.EqNone.eq_none_str (X1 I q (by simp))
    | _=>exact absurd (show false = true from hs) Bool.false_ne_true
  | bl i=>
    cases rx
    cases y with
    | non=>cases ry; exact PySem.EqNone.eq_bool_none (X1 I q (by simp))
    | bl j=>cases ry; exact eq_bool (X1 I q BG)
    | str j=>obtain ⟨t', rfl⟩:=ry; exact PySem.EqMixed.eq_bool_str (X1 I q (by simp))
    | _=>exact absurd (show false = true from hs) Bool.false_ne_true
  | int i=>
    obtain ⟨t, rfl⟩:=rx
    cases y with
    | non=>cases ry; exact PySem.EqNone.eq_int_none (X1 I q (by simp))
    | int j=>obtain ⟨t', rfl⟩:=ry; exact eq_int (X1 I q Dr)
    | str j=>obtain ⟨t', rfl⟩:=ry; exact PySem.EqMixed.eq_int_str (X1 I q (by simp))
    | _=>exact absurd (show false = true from hs) Bool.false_ne_true
  | str i=>
    obtain ⟨t, rfl⟩:=rx
    cases y with
    | non=>cases ry; exact PySem.EqNone.eq_str_none (X1 I q (by simp))
    | bl j=>cases ry; exact PySem.EqMixed.eq_str_bool (X1 I q (by simp))
    | int j=>obtain ⟨t', rfl⟩:=ry; exact PySem.EqMixed.eq_str_int (X1 I q (by simp))
    | str j=>obtain ⟨t', rfl⟩:=ry; exact eq_str (X1 I q FD)
    | _=>exact absurd (show false = true from hs) Bool.false_ne_true
  | byt i=>
    obtain ⟨t, rfl⟩:=rx
    cases y with
    | byt j=>obtain ⟨t', rfl⟩:=ry; exact PySem.W.eq_bytes (X1 I q Dd)
    | _=>exact absurd (show false = true from hs) Bool.false_ne_true
  | _=>cases y <;> exact absurd (show false = true from hs) Bool.false_ne_true
theorem JY : OpR X (compareOp .NotEq) rNe:=by
  intro pins s σ H x y v u Q I rx ry h
  obtain ⟨hs, q⟩:=h
  cases x with
  | non=>
    cases rx
    cases y with
    | non=>cases ry; exact PySem.EqNone.ne_none_none (X1 I q (by simp))
    | bl j=>cases ry; exact PySem.EqNone.ne_none_bool (X1 I q (by simp))
    | int j=>obtain ⟨t', rfl⟩:=ry; exact PySem.EqNone.ne_none_int (X1 I q (by simp))
    | str j=>obtain ⟨t', rfl⟩:=ry; exact PySem.EqNone.ne_none_str (X1 I q (by simp))
    | _=>exact absurd (show false = true from hs) Bool.false_ne_true
  | bl i=>
    cases rx
    cases y with
    | non=>cases ry; exact PySem.EqNone.ne_bool_none (X1 I q (by simp))
    | bl j=>cases ry; exact ne_bool (X1 I q (congrArg not BG))
    | str j=>obtain ⟨t', rfl⟩:=ry; exact PySem.EqMixed.ne_bool_str (X1 I q (by simp))
    | _=>exact absurd (show false = true from hs) Bool.false_ne_true
  | int i=>
    obtain ⟨t, rfl⟩:=rx
    cases y with
    | non=>cases ry; exact PySem.EqNone.ne_int_none (X1 I q (by simp))
    | int j=>obtain ⟨t', rfl⟩:=ry; exact ne_int (X1 I q (congrArg not Dr))
    | str j=>obtain ⟨t', rfl⟩:=ry; exact PySem.EqMixed.ne_int_str (X1 I q (by simp))
    | _=>exact absurd (show false = true from hs) Bool.false_ne_true
  | str i=>
    obtain ⟨t, rfl⟩:=rx
    cases y with
    | non=>cases ry; exact PySem.EqNone.ne_str_none (X1 I q (by simp))
    | bl j=>cases ry; exact PySem.EqMixed.ne_str_bool (X1 I q (by simp))
    | int j=>obtain ⟨t', rfl⟩:=ry; exact PySem.EqMixed.ne_str_int (X1 I q (by simp))
    | str j=>obtain ⟨t', rfl⟩:=ry; exact ne_str (X1 I q (congrArg not FD))
    | _=>exact absurd (show false = true from hs) Bool.false_ne_true
  | byt i=>
    obtain ⟨t, rfl⟩:=rx
    cases y with
    | byt j=>obtain ⟨t', rfl⟩:=ry; exact PySem.W.ne_bytes (X1 I q (congrArg not Dd))
    | _=>exact absurd (show false = true from hs) Bool.false_ne_true
  | _=>cases y <;> exact absurd (show false = true from hs) Bool.false_ne_true
theorem Ve : OpR X (compareOp .Lt) (rI0 fun i j=>.bl (decide (i < j))):=LB fun _ _ _ _ _ _ _ q=>lt_int q
theorem Vg : OpR X (compareOp .Gt) (rI0 fun i j=>.bl (decide (j < i))):=LB fun _ _ _ _ _ _ _ q=>gt_int q
theorem Ee : OpR X (compareOp .GtE) (rI0 fun i j=>.bl (decide (j <= i))):=LB fun _ _ _ _ _ _ _ q=>ge_int q
theorem KW : OpR X (compareOp .Is) (fun x y H Q=>y = .non /\ Q (.bl (decide (x = .non))) H):=by
  intro pins s σ H x y v u Q I rx ry h
  obtain ⟨rfl, q⟩:=h
  cases ry
  refine is_none_gen (X1 I q ?_)
  cases x <;> first
    | (cases rx; rfl)
    | (obtain ⟨t, rfl⟩:=rx; rfl)
theorem FY : OpR X (compareOp .IsNot) (fun x y H Q=>y = .non /\ Q (.bl (!decide (x = .non))) H):=by
  intro pins s σ H x y v u Q I rx ry h
  obtain ⟨rfl, q⟩:=h
  cases ry
  refine isnot_none_gen (X1 I q ?_)
  cases x <;> first
    | (cases rx; rfl)
    | (obtain ⟨t, rfl⟩:=rx; rfl)
theorem OpR.or {f : Value -> Value -> Sem Value} {r r' : R2} (h : OpR X f r) (h' : OpR X f r') : OpR X f (fun x y H Q=>r x y H Q ∨ r' x y H Q):=by
  intro pins s σ H x y v u Q I rx ry q
  rcases q with q | q
  . exact h pins s σ H x y v u Q I rx ry q
  . exact h' pins s σ H x y v u Q I rx ry q
theorem Xv (b : Expr) {op : CmpOp} (h : op ≠ .In:=by decide) (h2 : op ≠ .NotIn:=by decide) : behindInMarks op b = false:=by
  have e1 : (op == CmpOp.In) = false:=by cases op <;> first | rfl | exact absurd rfl h
  have e2 : (op == CmpOp.NotIn) = false:=by cases op <;> first | rfl | exact absurd rfl h2
  cases b <;> simp [behindInMarks, e1, e2]
theorem Jl {op : CmpOp} {r : R2} (ho : OpR X (compareOp op) r) (ha : PE X a ta) (hb : PE X b tb) (hm : behindInMarks op b = false) : PE X (.Compare a [op] [b] pos) (tOp r ta tb):=by
  intro pins s σ H Q I h
  exact wpAny_Compare1 (Ls ha hb I h fun v u s2 x y H2 I2 rx ry q=>ho pins s2 σ H2 x y v u Q I2 rx ry q) hm
noncomputable def Ix (t : TE) : TT:=fun σ H Q=>t σ H fun x H'=>∃ k, x = .bl k /\ Q k H'
theorem Xo {op : CmpOp} {r : R2} (ho : OpR X (compareOp op) r) (ha : PE X a ta) (hb : PE X b tb) (hm : behindInMarks op b = false) : PT X (.Compare a [op] [b] pos) (Ix (tOp r ta tb)):=by
  intro pins s σ H Q I h
  refine wpAny_isTrue_Compare1 (thn (ha pins s σ H _ I h) fun v s1 ⟨x, H1, I1, r1, q1⟩=>thn (hb pins s1 σ H1 _ I1 q1) fun u s2 ⟨y, H2, I2, r2, q2⟩=>
    thn (ho pins s2 σ H2 x y v u _ I2 r1 r2 q2) fun c s3 ⟨z, H3, I3, r3, k, e, q3⟩=>?_) hm
  subst e
  cases r3
  exact wpAny_truthy_bool ⟨H3, I3, q3⟩
theorem Gj : (sizeLine : Nat) < 2 ^ 63:=by rw [sizeLine_eq]; decide
theorem KH {x : V} {us : List Value} (r : X3 [x] us) : ∃ u, us = [u] /\ X7 x u:=by
  cases r with
  | cons r1 r2=>cases r2; exact ⟨_, rfl, r1⟩
theorem Li {x y : V} {us : List Value} (r : X3 [x, y] us) : ∃ u w', us = [u, w'] /\ X7 x u /\ X7 y w':=by
  cases r with
  | cons r1 r2=>
    cases r2 with
    | cons r3 r4=>cases r4; exact ⟨_, _, rfl, r1, r3⟩
theorem Gu : Qc X (.builtin "abs") (fun xs H Q=>∃ i, xs = [.int i] /\ Q (.int (if i < 0 then -i else i)) H):=by
  intro pins s σ H xs us Q I r h
  obtain ⟨i, rfl, q⟩:=h
  obtain ⟨u, rfl, t, rfl⟩:=KH r
  exact call_abs_int fun u tk=>⟨.int (if i < 0 then -i else i), H, I.tok _, ⟨_, rfl⟩, q⟩
theorem FQ (hc : X.calm = true) : Qc X (.builtin "max") (fun xs H Q=>∃ i j, xs = [.int i, .int j] /\ Q (.int (if j > i then j else i)) H):=by
  intro pins s σ H xs us Q I r h
  obtain ⟨i, j, rfl, q⟩:=h
  obtain ⟨u, w', rfl, ⟨t, rfl⟩, ⟨t', rfl⟩⟩:=Li r
  refine max_two_ints (I.ok.hd hc) fun h' tk k=>⟨_, H, I.kept k, ?_, q⟩
  by_cases hj : j > i
  . rw [if_pos hj, if_pos hj]; exact ⟨_, rfl⟩
  . rw [if_neg hj, if_neg hj]; exact ⟨_, rfl⟩
end
end L2
namespace L2
open PySem PySem.Spec PyProof.Rows
structure ObjM (h : Heap) (x dx C : Addr) (mA : Str -> Option Value) : Prop where
  obj : h.get? x = some (PySem.W.instObj C dx)
  ns : h.Ns1 dx mA
  ne : dx ≠ x
theorem DA {h : Heap} {dx : Addr} {mA : Str -> Option Value} (n : h.Ns1 dx mA) : ∃ od, h.get? dx = some od /\ ∀ name, PySem.W.lookIn name od = some (mA name):=by
  obtain ⟨o, es, ep, ho, hd, hk, _, hm⟩:=n
  refine ⟨o, ho, fun name=>?_⟩
  have e:=hm name
  unfold nsFind findBy at e
  rw [← Array.find?_toList] at e
  unfold PySem.W.lookIn
  rw [hd]
  dsimp only
  split
  . rename_i y q
    rw [q] at e
    exact congrArg some e
  . rename_i q
    rw [q] at e
    have a : es.toList.any (·.refKey) = false:=by
      rw [List.any_eq_false]
      intro y hy
      obtain ⟨z, t, hkey⟩:=hk y (Array.mem_toList_iff.mp hy)
      simp [DictEntry.refKey, hkey]
    have a' : ¬ es.toList.any (·.refKey) = true:=by rw [a]; exact Bool.false_ne_true
    rw [if_neg a']
    exact congrArg some e
theorem ObjM.look {h : Heap} {x dx C : Addr} {mA : Str -> Option Value} (I : ObjM h x dx C mA) : ∃ od, PySem.W.InstAt h x (PySem.W.instObj C dx) C (some od) /\ ∀ name, PySem.W.lookIn name od = some (mA name):=
  let ⟨od, ho, hl⟩:=DA I.ns
  ⟨od, ⟨I.obj, rfl, rfl, ho⟩, hl⟩
section
variable {prog : Program} {w : World} {A : Around} {E : Value -> Shared -> Prop} {s : Shared} {K : PySem.W.Frag} {x dx C f : Addr} {mA : Str -> Option Value} {name : Str} {v : Value}
end
section
variable {P : Program} {w : World} {H H' : Hp} {h h' : Heap} {a C dx : Addr} {fs fs' : List (Str × V)}
theorem EH (hok : HOk P w H h) (e : H a = some (.ins C dx fs)) : ∃ mA, ObjM h a dx C mA /\ (∀ f, Bc (fs.lookup f) (mA f)) /\ PySem.Within mA (fs.map (·.1)) /\ fs.length <= 1000 /\ H dx = some (.own a):=by
  obtain ⟨d, z, ne, ob, mA, n, r, q⟩:=(show Zb P w H h a (.ins C dx fs) from hok a _ e)
  exact ⟨mA, ⟨ob, n, ne⟩, r, q, z, d⟩
end
structure Cls (K : PySem.W.Frag) (C : Addr) : Prop where
  pg : PySem.W.plainGet K C Str.empty = true
  hd : PySem.W.hasDictIn K C = true
  po : PySem.W.plainOver K C = true
  sa : PySem.W.findIn K (.ref C) "__setattr__" = some (some (.builtin "object.__setattr__"))
theorem Cls.get {K : PySem.W.Frag} {C : Addr} (c : Cls K C) (f : Str) : PySem.W.plainGet K C f = true:=c.pg
section
variable {X : Cx} {pins : List (Addr × Obj)} {σ : St} {H : Hp} {s : Shared} {a C dx : Addr} {fs : List (Str × V)} {f : Str} {v : V} {A : Around} {E : Value -> Shared -> Prop}
theorem Inv.made (I : Inv X pins σ H s) : Inv X pins σ (upd (upd H s.heap.objs.size (.own (s.heap.objs.size + 1))) (s.heap.objs.size + 1) (.ins C s.heap.objs.size []))
    { s with heap:=(s.heap.push PySem.W.emptyDict).push (PySem.W.instObj C s.heap.objs.size) }:=by
  have e1 : (s.heap.push PySem.W.emptyDict).get? s.heap.objs.size = some PySem.W.emptyDict:=Heap.get?_push_size s.heap rfl
  have e2 : ((s.heap.push PySem.W.emptyDict).push (PySem.W.instObj C s.heap.objs.size)).get? (s.heap.objs.size + 1) = some (PySem.W.instObj C s.heap.objs.size):=by
    have:=Heap.get?_push_size (s.heap.push PySem.W.emptyDict) (o:=PySem.W.instObj C s.heap.objs.size) rfl
    rwa [Heap.size_push] at this
  have e3 : (s.heap.push PySem.W.emptyDict).Ns s.heap.objs.size (fun _=>none):=⟨PySem.W.emptyDict, #[], _, e1, rfl, (fun e he=>absurd he (by simp)), fun _=>rfl⟩
  have I1:=I.laid (a:=s.heap.objs.size) (o:=.own (s.heap.objs.size + 1)) (h':=s.heap.push PySem.W.emptyDict) (t':=s.toks) (fun b u q=>Heap.get?_push_of_some _ q) (Nat.le_refl _) ⟨_, e1⟩
  refine I1.laid (a:=s.heap.objs.size + 1) (o:=.ins C s.heap.objs.size []) (t':=s.toks) (fun b u q=>Heap.get?_push_of_some _ q) (Nat.le_of_eq (Heap.size_push _ _)) ?_
  have ne : s.heap.objs.size ≠ s.heap.objs.size + 1:=Nat.ne_of_lt (Nat.lt_succ_self _)
  refine ⟨by rw [XJ ne, YA], Nat.zero_le _, ne, e2, fun _=>none, (Heap.Ns1.of_empty e3).at fun o q=>Heap.get?_push_of_some _ q, fun _=>True.intro, fun y hy=>absurd rfl hy⟩
end
section
variable {X : Cx} {o e value : Expr} {f : Str} {pos pos' tpos : Pos} {ta tv : TE}
end
section
variable {X : Cx} {pins : List (Addr × Obj)} {σ : St} {H : Hp} {s : Shared} {A : Around} {E : Value -> Shared -> Prop} {Q : Value -> Shared -> Prop} {c : Value} {b : Bool}
inductive TyOf (K : PySem.W.Frag) (H : Hp) : V -> Value -> Prop where
  | non : TyOf K H .non (.type "NoneType")
  | bl (x : Bool) : TyOf K H (.bl x) (.type "bool")
  | int (i : Int) : TyOf K H (.int i) (.type "int")
  | str (x : Str) : TyOf K H (.str x) (.type "str")
  | flt (x : UInt64) : TyOf K H (.flt x) (.type "float")
  | lst {a : Addr} {xs : List V} (e : H a = some (.lst xs)) : TyOf K H (.ref a) (.type "list")
  | frz {a : Addr} {o : Obj} {xs : List V} (e : H a = some (.frz o (.lst xs))) : TyOf K H (.ref a) (.type "list")
  | tup {a : Addr} {xs : List V} (e : H a = some (.tup xs)) : TyOf K H (.ref a) (.type "tuple")
  | dK {a : Addr} {kvs : List (Key × V)} (e : H a = some (.dK kvs)) : TyOf K H (.ref a) (.type "dict")
  | dT {a : Addr} {kvs : List (List Key × V)} (e : H a = some (.dT kvs)) : TyOf K H (.ref a) (.type "dict")
  | ins {a C dx : Addr} {fs : List (Str × V)} (e : H a = some (.ins C dx fs)) (cl : Cls K C) (ha : PySem.W.findIn K (.ref C) "__class__" = some (some (.builtin "object.__class__")))
      (hn : PySem.W.specialIn K (.builtin "object.__class__") "__get__" = some (some (.builtin "getset_descriptor.__get__"))) (htk : PySem.W.takesIn K (.builtin "object.__class__") = some true)
      (hm : PySem.W.mroIn K C (.type "object") = some true) : TyOf K H (.ref a) (.ref C)
theorem FK {x : V} {u t : Value} (I : Inv X pins σ H s) (rx : X7 x u) (ty : TyOf X.K H x t) (e : PySem.W.kitOne X.K t c = some b) (h : ∀ tk, Q (.bool b) { s with toks:=tk }) :
    wpAny (model X.prog X.w) A (call (.builtin "isinstance") [u, c]) Q E s:=by
  cases ty with
  | non=>cases (show u = Value.none from rx); exact PySem.W.kia_one PySem.W.kitx_none I.kIn True.intro e (fun z=>nomatch z) h
  | bl y=>cases (show u = Value.bool y from rx); exact PySem.W.kia_one PySem.W.kitx_bool I.kIn True.intro e (fun z=>nomatch z) h
  | int i=>obtain ⟨t, q⟩:=(show ∃ t, u = Value.int i t from rx); cases q; exact PySem.W.kia_one PySem.W.kitx_int I.kIn True.intro e (fun z=>nomatch z) h
  | str y=>obtain ⟨t, q⟩:=(show ∃ t, u = Value.str y t from rx); cases q; exact PySem.W.kia_one PySem.W.kitx_str I.kIn True.intro e (fun z=>nomatch z) h
  | flt y=>obtain ⟨t, q⟩:=(show ∃ t, u = Value.float y t from rx); cases q; exact PySem.W.kia_one PySem.W.kitx_float I.kIn True.intro e (fun z=>nomatch z) h
  | @lst a xs ea=>
    cases (show u = Value.ref a from rx)
    obtain ⟨_, _, n, _, h1⟩:=(show Zb X.prog X.w H s.heap a (.lst xs) from I.hok a _ ea)
    exact PySem.W.kia_one PySem.W.kitx_list I.kIn ⟨_, h1, rfl⟩ e (fun z=>nomatch z) h
  | @frz a ob xs ea=>
    cases (show u = Value.ref a from rx)
    obtain ⟨_, _, _, n, _, h1⟩:=(show Zb X.prog X.w H s.heap a (.frz ob (.lst xs)) from I.hok a _ ea)
    exact PySem.W.kia_one PySem.W.kitx_list I.kIn ⟨_, h1, rfl⟩ e (fun z=>nomatch z) h
  | @tup a xs ea=>
    cases (show u = Value.ref a from rx)
    obtain ⟨_, _, _, p⟩:=(show Zb X.prog X.w H s.heap a (.tup xs) from I.hok a _ ea)
    obtain ⟨o, h1, h2, _⟩:=p
    exact PySem.W.kia_one PySem.W.kitx_tuple I.kIn ⟨o, h1, h2⟩ e (fun z=>nomatch z) h
  | @dK a kvs ea=>
    cases (show u = Value.ref a from rx)
    obtain ⟨_, _, vs, _, p⟩:=(show Zb X.prog X.w H s.heap a (.dK kvs) from I.hok a _ ea)
    obtain ⟨o, es, ep, h1, h2, _⟩:=p
    exact PySem.W.kia_one PySem.W.kitx_dict I.kIn ⟨o, h1, h2.1⟩ e (fun z=>nomatch z) h
  | @dT a kvs ea=>
    cases (show u = Value.ref a from rx)
    obtain ⟨_, _, xs, _, o, es, ep, h1, h2, _⟩:=(show Zb X.prog X.w H s.heap a (.dT kvs) from I.hok a _ ea)
    exact PySem.W.kia_one PySem.W.kitx_dict I.kIn ⟨o, h1, h2.1⟩ e (fun z=>nomatch z) h
  | @ins a C dx fs ea cl ha hn htk hm=>
    cases (show u = Value.ref a from rx)
    obtain ⟨mA, O, _⟩:=EH I.hok ea
    obtain ⟨od, J, _⟩:=O.look
    exact PySem.W.kia_one (PySem.W.kitx_own (cl.get _) cl.hd ha hn htk hm) I.kIn J e (fun z=>nomatch z) h
end
end L2
namespace L2
open PySem PySem.Spec PyProof.Rows
structure Room (k : Nat) (A : Around) : Prop where
  hd : A.handled = none
  dp : A.depth + 3 * k + 5 < recursionLimit
  un : A.units + 16 * k + 200 < cLine
theorem Room.mono {j k : Nat} {A : Around} (r : Room k A) (h : j <= k) : Room j A:=⟨r.hd, by have:=r.dp; omega, by have:=r.un; omega⟩
theorem Room.deeper {k : Nat} {A : Around} (r : Room (k + 1) A) (env : Env) : Room k (A.deeper env):=
  ⟨r.hd, by have:=r.dp; show A.depth + 1 + 3 * k + 5 < _; omega, by have:=r.un; show A.units + 3 + 16 * k + 200 < _; omega⟩
theorem Room.in1 {k : Nat} {A : Around} (r : Room (k + 1) A) : Room k A.in1:=
  ⟨r.hd, by have:=r.dp; show A.depth + 3 * k + 5 < _; omega, by have:=r.un; show A.units + 1 + 16 * k + 200 < _; omega⟩
theorem Room.depth {k : Nat} {A : Around} (r : Room k A) : A.depth < recursionLimit:=by have:=r.dp; omega
theorem Room.units {k : Nat} {A : Around} (r : Room k A) : A.units + 64 < cLine:=by have:=r.un; omega
noncomputable def Zx : TA:=fun _ H Q=>Q [] H
noncomputable def XB (ta : TE) (tr : TA) : TA:=fun σ H Q=>ta σ H fun x H1=>tr σ H1 fun xs H2=>Q (x :: xs) H2
section
variable {X : Cx} {e : Expr} {es : List Expr} {te : TE} {t : TA} {pos : Pos}
theorem Xf : PA X [] Zx:=fun _ _ _ _ H Q I h=>Calls.spliced_nil ⟨[], H, I, .nil, h⟩
theorem Xd (ha : PE X e te) (hr : PA X es t) (hs : starEach (e :: es) X.env = (false, eval e X.env) :: starEach es X.env:=by rfl) : PA X (e :: es) (XB te t):=by
  intro pos pins s σ H Q I h
  rw [hs]
  show wpAny _ _ (spliced ((false, eval e X.env) :: backTo pos (starEach es X.env))) _ _ s
  refine Calls.spliced_cons (thn (ha pins s σ H _ I h) fun u s1 ⟨x, H1, I1, r1, q1⟩=>?_)
  exact thn (hr pos pins s1 σ H1 _ I1 q1) fun us s2 ⟨xs, H2, I2, r2, q2⟩=>⟨x :: xs, H2, I2, .cons r1 r2, q2⟩
noncomputable def Hk (t : TA) : TE:=fun σ H Q=>t σ H fun xs H1=>xs.length <= sizeLine /\ ∀ p, H1 p = none -> Q (.ref p) (upd H1 p (.tup xs))
noncomputable def CV (t : TA) : TE:=fun σ H Q=>t σ H fun xs H1=>xs.length <= sizeLine /\ ∀ p, H1 p = none -> Q (.ref p) (upd H1 p (.lst xs))
theorem QJ {x1} (h : PA X es t) : PE X (.Tuple es x1 pos) (Hk t):=by
  intro pins s σ H Q I hq
  refine wpAny_Tuple_spliced (thn (h pos pins s σ H _ I hq) fun us s1 ⟨xs, H1, I1, r, z, q⟩=>⟨by rw [← r.length]; exact z, ?_⟩)
  have hf : H1 s1.heap.objs.size = none:=I1.hok.fresh (Nat.le_refl _)
  refine ⟨.ref s1.heap.objs.size, upd H1 s1.heap.objs.size (.tup xs), I1.laid (t':=s1.toks) (fun b u e=>Heap.get?_push_of_some _ e) (Nat.le_refl _) ?_, rfl, q _ hf⟩
  exact ⟨z, us, r, ⟨_, Heap.get?_push_size _ rfl, rfl, _, rfl⟩⟩
theorem XW (h : PA X es t) : PE X (.List es pos) (CV t):=by
  intro pins s σ H Q I hq
  refine wpAny_List_spliced (thn (h pos pins s σ H _ I hq) fun us s1 ⟨xs, H1, I1, r, z, q⟩=>⟨by rw [← r.length]; exact z, ?_⟩)
  have hf : H1 s1.heap.objs.size = none:=I1.hok.fresh (Nat.le_refl _)
  refine ⟨.ref s1.heap.objs.size, upd H1 s1.heap.objs.size (.lst xs), I1.laid (t':=s1.toks) (fun b u e=>Heap.get?_push_of_some _ e) (Nat.le_refl _) ?_, rfl, q _ hf⟩
  exact ⟨z, us, 0, r, Heap.get?_push_size _ rfl⟩
end
noncomputable abbrev Sp:=List V -> Hp -> VK -> XK -> Prop
noncomputable abbrev CXT:=List Env -> Hp -> Shared -> XK -> Value -> Shared -> Prop
structure Env0 (P : Program) (w : World) (K : PySem.W.Frag) (mg : Str -> Option Value) (base : Heap) (A : Around) (outer : List Env) (s : Shared) (H : Hp) : Prop where
  frames : A.frames = some outer
  mod : Mod K mg base
  bs : ∀ b o, base.get? b = some o -> s.heap.get? b = some o /\ H b = none
  bsz : base.objs.size <= s.heap.objs.size
  funs : s.heap.FunFrames base outer
  frf : ∀ b ∈ frs outer, H b = none
  hok : HOk P w H s.heap
  bare : AllBare s.gens
noncomputable def CE (outer : List Env) (P : Program) (w : World) (H : Hp) (s : Shared) (Q : VK) (u : Value) (s' : Shared) : Prop:=
  ∃ v H', s'.os = s.os /\ AllBare s'.gens /\ Un (frs outer) [] H H' s.heap s'.heap /\ HOk P w H' s'.heap /\ X7 v u /\ Q v H'
noncomputable def CR (CX : CXT) (outer : List Env) (P : Program) (w : World) (H : Hp) (s : Shared) (Q : VK) (E : XK) (r : Result) (s' : Shared) : Prop:=
  match r with
  | .ok (.ret u)=>CE outer P w H s Q u s'
  | .ok _=>False
  | .error e=>CX outer H s E e s'
structure FnOk (P : Program) (w : World) (K : PySem.W.Frag) (mg : Str -> Option Value) (base : Heap) (CX : CXT) (k : Nat) (f : Addr) (fd : FuncData) (ps : List Str) (sp : Sp) : Prop where
  len : ∀ vs H Q E, sp vs H Q E -> vs.length = ps.length
  run : ∀ (A : Around) (outer : List Env) (s : Shared) (H : Hp) (args : Args) (us : List Value) (vs : List V) (Q : VK) (E : XK), Room k A -> Env0 P w K mg base A outer s H -> BindsTo s fd args (ps.zip us) -> X3 vs us -> sp vs H Q E ->
    codeAny (model P w) A (.call (.ref f) args) (CR CX outer P w H s Q E) s
theorem FnOk.mono {P : Program} {w : World} {K : PySem.W.Frag} {mg : Str -> Option Value} {base : Heap} {CX : CXT} {j k : Nat} {f : Addr} {fd : FuncData} {ps : List Str} {sp : Sp} (F : FnOk P w K mg base CX j f fd ps sp) (h : j <= k) :
    FnOk P w K mg base CX k f fd ps sp:=⟨F.len, fun A outer s H args us vs Q E hr=>F.run A outer s H args us vs Q E (hr.mono h)⟩
theorem FnOk.imp {P : Program} {w : World} {K : PySem.W.Frag} {mg : Str -> Option Value} {base : Heap} {CX : CXT} {k : Nat} {f : Addr} {fd : FuncData} {ps : List Str} {sp sp' : Sp} (F : FnOk P w K mg base CX k f fd ps sp)
    (h : ∀ vs H Q E, sp' vs H Q E -> sp vs H Q E) : FnOk P w K mg base CX k f fd ps sp':=
  ⟨fun vs H Q E q=>F.len vs H Q E (h _ _ _ _ q), fun A outer s H args us vs Q E hr he hb hv hs=>F.run A outer s H args us vs Q E hr he hb hv (h _ _ _ _ hs)⟩
theorem Env0.in1 {P : Program} {w : World} {K : PySem.W.Frag} {mg : Str -> Option Value} {base : Heap} {A : Around} {outer : List Env} {s : Shared} {H : Hp} (e : Env0 P w K mg base A outer s H) :
    Env0 P w K mg base A.in1 outer s H:=⟨e.frames, e.mod, e.bs, e.bsz, e.funs, e.frf, e.hok, e.bare⟩
section
variable {X : Cx} {pins : List (Addr × Obj)} {σ : St} {H : Hp} {s s' : Shared}
theorem Inv.env0 (I : Inv X pins σ H s) : Env0 X.prog X.w X.K X.mg X.base X.A X.stack s H:=
  ⟨I.ok.frames, I.ok.mod, I.bs, Nat.le_trans I.ok.bsz I.sz, I.stack, I.stkFree, I.hok, I.bare⟩
theorem Inv.after {Q : VK} {u : Value} (I : Inv X pins σ H s) (h : CE X.stack X.prog X.w H s Q u s') : EP X pins σ Q u s':=by
  obtain ⟨v, H', os, bare, un, hok, r, q⟩:=h
  obtain ⟨hh, g, d, t, os'⟩:=s'
  obtain rfl : os' = s.os:=os
  exact ⟨v, H', I.call (h':=hh) (g':=g) (d':=d) (t':=t) (ch:=[]) un hok bare (fun b z=>absurd z (by simp)), r, q⟩
end
noncomputable def V8 (sp : Sp) (dvs : List V) (E : XK) (t : TA) : TE:=fun σ H Q=>t σ H fun vs H1=>sp (vs ++ dvs) H1 Q E
noncomputable def KO (K : PySem.W.Frag) (fd : FuncData) (ps : List Str) (ds : List Value) : Prop:=
  ∀ (s : Shared) (us : List Value), K.In s.heap -> (us ++ ds).length = ps.length -> BindsTo s fd ⟨us, []⟩ (ps.zip (us ++ ds))
theorem KO.all {K : PySem.W.Frag} {fd : FuncData} {ps : List Str} (h : ∀ us : List Value, us.length = ps.length -> bindArgs fd ⟨us, []⟩ = pure (ps.zip us)) : KO K fd ps []:=fun s us _ hl=>by
  rw [List.append_nil] at hl ⊢
  exact .of_eq (h us hl)
noncomputable def Dv (CX : CXT) (X : Cx) (E : XK) : Prop:=∀ (pins : List (Addr × Obj)) (σ : St) (H : Hp) (s : Shared) (e : Value) (s' : Shared), Inv X pins σ H s -> CX X.stack H s E e s' -> X.xe e s'
section
variable {X : Cx} {CX : CXT} {k : Nat} {f C : Addr} {fd : FuncData} {ps : List Str} {sp : Sp} {dvs : List V} {ds : List Value} {E : XK} {x m : Str} {p pos apos : Pos} {e o : Expr} {es : List Expr} {ta : TE} {t : TA}
theorem Hn {pins : List (Addr × Obj)} {σ : St} {H : Hp} {s : Shared} {Q : VK} {us : List Value} {vs : List V} (F : FnOk X.prog X.w X.K X.mg X.base CX k f fd ps sp) (hr : Room k X.A) (hb : KO X.K fd ps ds) (hd : X3 dvs ds) (hx : Dv CX X E)
    (I : Inv X pins σ H s) (r : X3 vs us) (h : sp (vs ++ dvs) H Q E) : wpAny (model X.prog X.w) X.A (call (.ref f) us) (EP X pins σ Q) X.xe s:=by
  have r2 : X3 (vs ++ dvs) (us ++ ds):=r.append hd
  have hl : (us ++ ds).length = ps.length:=by rw [← r2.length]; exact F.len _ _ _ _ h
  refine wpAny_call (codeAny_mono (F.run X.A X.stack s H ⟨us, []⟩ (us ++ ds) (vs ++ dvs) Q E hr I.env0 (hb s us I.kIn hl) r2 h) fun r s' hq=>?_)
  cases r with
  | error e=>exact hx pins σ H s e s' I hq
  | ok fl=>
    cases fl with
    | ret u=>exact I.after hq
    | next=>exact False.elim hq
    | brk=>exact False.elim hq
    | cont=>exact False.elim hq
theorem EX (F : FnOk X.prog X.w X.K X.mg X.base CX k f fd ps sp) (hr : Room k X.A) (hg : Gl X x) (hm : X.mg x = some (.ref f)) (hk : PySem.W.keepIn X.K (.ref f) = true) (hb : KO X.K fd ps ds) (hd : X3 dvs ds) (hx : Dv CX X E)
    (ha : PA X (e :: es) t) (hdb : (x == ("__debug__" : Str)) = false:=by decide) (he : starEach (e :: es) X.env = (false, eval e X.env) :: starEach es X.env:=by rfl) (hpl : (backTo pos (starEach es X.env)).any (·.1) = false:=by rfl) :
    PE X (.Call (.Name x p) (e :: es) [] pos) (V8 sp dvs E t):=by
  intro pins s σ H Q I h
  refine wpAny_Call_Name_kw (DW I hg hm ?_ hdb)
  refine PySem.W.callWith_K (h₀:=X.base) I.ok.mod.kin hk (thn (ha pos pins s σ H _ I h) fun us s1 ⟨vs, H1, I1, r, q⟩=>⟨I1.kIn, ?_⟩) he hpl
  exact Hn F hr hb hd hx I1 r q
end
section
variable {X : Cx} {CX : CXT} {k : Nat} {f C : Addr} {fd : FuncData} {ps ks : List Str} {sp : Sp} {E : XK} {x m : Str} {p pos apos kpos : Pos} {e o : Expr} {es : List Expr} {kws : List Keyword} {te ta : TE} {t tk : TA} {nm : Option Str}
variable {g : List Value -> List Value -> List Value} {gV : List V -> List V -> List V}
end
structure FnScope (N P : List Str) (sc : Scope) : Prop where
  kind : sc.kind = .function
  co : sc.isCoroutine = false
  gen : sc.isGenerator = false
  nd : N.Nodup
  pre : N.take P.length = P
  par : ∀ x ∈ P, sc.names.lookup x = some .local ∨ sc.names.lookup x = some .cell
  nofree : ∀ y ∈ sc.names, y.2 ≠ .free
theorem UM {kindOf : Str -> Option NameKind} {x : Str} : ∀ {binds : List (Str × Value)} {m : Str -> Option Value}, (∀ v, (x, v) ∉ binds) -> bindL kindOf binds m x = m x
  | [], _, _=>rfl
  | (n, v) :: r, m, h=>by
    unfold bindL
    rw [UM fun w hw=>h w (List.mem_cons_of_mem _ hw)]
    split
    . have : x ≠ n := by rintro rfl; exact h v List.mem_cons_self
      simp [this]
    . rfl
theorem UX {kindOf : Str -> Option NameKind} {x : Str} : ∀ {binds : List (Str × Value)} {m : Str -> Option Value}, (∀ v, (x, v) ∉ binds) -> bindC kindOf binds m x = m x
  | [], _, _=>rfl
  | (n, v) :: r, m, h=>by
    unfold bindC
    rw [UX fun w hw=>h w (List.mem_cons_of_mem _ hw)]
    split
    . rfl
    . have : x ≠ n := by rintro rfl; exact h v List.mem_cons_self
      simp [this]
theorem UK {kindOf : Str -> Option NameKind} {x : Str} {v : Value} : ∀ {P : List Str} {vs : List Value} {i : Nat} {m : Str -> Option Value}, P.Nodup -> P[i]? = some x -> vs[i]? = some v -> kindOf x = some .local ->
    bindL kindOf (P.zip vs) m x = some v
  | [], _, _, _, _, h, _, _=>by simp at h
  | _ :: _, [], _, _, _, _, h, _=>by simp at h
  | p :: P, w :: vs, 0, m, nd, h1, h2, hk=>by
    simp at h1 h2; subst h1; subst h2
    show bindL kindOf ((p, w) :: P.zip vs) m p = _
    unfold bindL
    rw [UM fun v hv=>(List.nodup_cons.mp nd).1 (List.of_mem_zip hv).1, if_pos hk]
    simp
  | p :: P, w :: vs, i + 1, m, nd, h1, h2, hk=>by
    show bindL kindOf ((p, w) :: P.zip vs) m x = _
    unfold bindL
    exact UK (i:=i) (List.nodup_cons.mp nd).2 (by simpa using h1) (by simpa using h2) hk
theorem UF {kindOf : Str -> Option NameKind} {x : Str} {v : Value} : ∀ {P : List Str} {vs : List Value} {i : Nat} {m : Str -> Option Value}, P.Nodup -> P[i]? = some x -> vs[i]? = some v -> kindOf x ≠ some .local ->
    bindC kindOf (P.zip vs) m x = some v
  | [], _, _, _, _, h, _, _=>by simp at h
  | _ :: _, [], _, _, _, _, h, _=>by simp at h
  | p :: P, w :: vs, 0, m, nd, h1, h2, hk=>by
    simp at h1 h2; subst h1; subst h2
    show bindC kindOf ((p, w) :: P.zip vs) m p = _
    unfold bindC
    rw [UX fun v hv=>(List.nodup_cons.mp nd).1 (List.of_mem_zip hv).1, if_neg hk]
    simp
  | p :: P, w :: vs, i + 1, m, nd, h1, h2, hk=>by
    show bindC kindOf ((p, w) :: P.zip vs) m x = _
    unfold bindC
    exact UF (i:=i) (List.nodup_cons.mp nd).2 (by simpa using h1) (by simpa using h2) hk
noncomputable def Um (N : List Str) (vs : List V) : St:=vs.map some ++ List.replicate (N.length - vs.length) none
noncomputable def Hb (CX : CXT) (P : Program) (w : World) (K : PySem.W.Frag) (mg : Str -> Option Value) (base : Heap) (N : List Str) (qual : Str) (scope : Scope) (f : Addr) (cd : Value) (A : Around) (outer : List Env) (s : Shared) (H : Hp) (E : XK) : Cx where
  prog:=P
  w:=w
  K:=K
  mg:=mg
  base:=base
  A:=A.deeper (envOfC qual scope s.heap.objs.size f cd)
  N:=N
  s₀:=s
  H₀:=H
  env:=envOfC qual scope s.heap.objs.size f cd
  outer:=outer
  stack:=envOfC qual scope s.heap.objs.size f cd :: outer
  ex:=[]
  calm:=true
  fn:=fun _=>true
  pn:=[]
  xe:=fun e s'=>wpAny (model P w) (A.deeper (envOfC qual scope s.heap.objs.size f cd)) (leaving (envOfC qual scope s.heap.objs.size f cd) e) (fun _ s''=>CX outer H s E e s'') (fun e' s''=>CX outer H s E e' s'') s'
theorem K2 {sc : Scope} {n : Nat} {x : Str} (h : sc.names.lookup x = some .cell) : ∃ c, (cellsFrom n sc.names []).lookup x = some c:=by
  have q:=PySem.W.cellsFrom_some sc.names n [] (.inl h)
  exact Option.isSome_iff_exists.mp q
theorem Fi {CX : CXT} {P : Program} {w : World} {K : PySem.W.Frag} {mg : Str -> Option Value} {base : Heap} {N ps : List Str} {qual : Str} {scope : Scope} {f : Addr} {cd : Value} {A : Around} {outer : List Env} {s s1 : Shared} {H : Hp} {E : XK} {us : List Value} {vs : List V}
    (S : FnScope N ps scope) (hd : A.handled = none) (e0 : Env0 P w K mg base A outer s H) (hl : vs.length = ps.length) (r : X3 vs us)
    (x : InCallC s s.heap.objs.size (bindL (envOfC qual scope s.heap.objs.size f cd).kindOf (ps.zip us) fun _=>none) (cellsFrom (s.heap.objs.size + 1) scope.names []) (bindC (envOfC qual scope s.heap.objs.size f cd).kindOf (ps.zip us) fun _=>none) s1) :
    Inv (Hb CX P w K mg base N qual scope f cd A outer s H E) [] (Um N vs) H s1:=by
  have hpl : ps.length <= N.length:=by have:=congrArg List.length S.pre; rw [List.length_take] at this; omega
  obtain ⟨h1, tk, rfl, hk⟩:=x.done
  have noA : ∀ b : Addr, b ∉ (Hb CX P w K mg base N qual scope f cd A outer s H E).ex:=fun b z=>absurd (show b ∈ ([] : List Addr) from z) (by simp)
  refine ⟨⟨e0.mod, S.kind, rfl, rfl, Nat.le_refl _, fun y z c h1 h2=>?_, fun y hy=>?_, fun y c _ h=>?_, fun _=>hd, Around.frames_deeper e0.frames, .inr ⟨rfl, rfl⟩, fun b z=>absurd z (noA b), e0.bs, e0.bsz, fun b _ _=>noA b, fun b z=>absurd z (noA b), e0.funs, e0.frf⟩,
    rfl, e0.bare, Un.kept hk, ⟨_, x.toInCall.ns, fun i y v h1 h2 h3=>?_⟩, fun y c h=>⟨_, x.cell y c h⟩, e0.hok.fresh (Nat.le_refl _), fun y c h=>?_, fun p hp=>absurd (show p ∈ ([] : List (Addr × Obj)) from hp) (by simp), e0.hok.kept hk, ?_⟩
  . exact name_of_addr x.apart (PySem.mem_of_lookup h1) (PySem.mem_of_lookup h2)
  . have hy : scope.names.lookup y = some .cell ∨ scope.names.lookup y = some .free := hy
    rcases hy with hy | hy
    . exact K2 hy
    . exact absurd rfl (S.nofree _ (PySem.mem_of_lookup hy))
  . exact Nat.le_of_lt (x.above y c (PySem.mem_of_lookup h))
  . have hi : i < vs.length:=by
      unfold Um at h2
      by_cases hi : i < vs.length
      . exact hi
      . rw [List.getElem?_append_right (by simpa using hi)] at h2
        rw [List.getElem?_replicate] at h2
        split at h2 <;> cases h2
    have ha : vs[i]? = some v:=by
      unfold Um at h2
      rw [List.getElem?_append_left (by simpa using hi), List.getElem?_map] at h2
      cases e : vs[i]? with
      | none=>rw [e] at h2; cases h2
      | some a=>rw [e] at h2; cases h2; rfl
    obtain ⟨u, hu, rv⟩:=r.get ha
    have hp : ps[i]? = some y:=by
      rw [← S.pre, List.getElem?_take_of_lt (by omega)]; exact h1
    have ndP : ps.Nodup:=by rw [← S.pre]; exact S.nd.sublist (List.take_sublist _ _)
    refine ⟨u, rv, ?_⟩
    rcases S.par y (List.mem_of_getElem? hp) with k | k
    . exact .inl ⟨k, UK ndP hp hu k⟩
    . obtain ⟨c, e⟩ := K2 (n := s.heap.objs.size + 1) k
      refine .inr ⟨.inl k, c, e, ?_⟩
      have q:=x.cell y c e
      rw [UF ndP hp hu (by show scope.names.lookup y ≠ _; rw [k]; decide)] at q
      exact q
  . exact e0.hok.fresh (Nat.le_of_lt (x.above y c (PySem.mem_of_lookup h)))
  . unfold Um
    show _ = N.length
    rw [List.length_append, List.length_map, List.length_replicate]
    omega
theorem Lf {CX : CXT} {P : Program} {w : World} {K : PySem.W.Frag} {mg : Str -> Option Value} {base : Heap} {k : Nat} {f : Addr} {name qual : Str} {params : Arguments} {body : List Stmt} {scope : Scope} {dV kV doc pm cdv ct oc : Value} {an od : Option Addr}
    {osl : Array (Option Value)} {N ps : List Str} {sp : Sp} (lk : K.lookup f = some ⟨oc, od, .func (PySem.W.fnOf name qual params body scope dV kV doc pm an cdv ct), osl⟩) (hcd : PySem.W.codeIn K cdv qual = true) (S : FnScope N ps scope)
    (len : ∀ vs H Q E, sp vs H Q E -> vs.length = ps.length)
    (hbody : ∀ (A : Around) (outer : List Env) (s : Shared) (H : Hp) (vs : List V) (Q : VK) (E : XK), Room k (A.deeper (envOfC qual scope s.heap.objs.size f cdv)) -> sp vs H Q E ->
      ∃ t, PSs (Hb CX P w K mg base N qual scope f cdv A outer s H E) body t /\ t { nx:=fun _ H'=>Q .non H', rt:=Q } (Um N vs) H) :
    FnOk P w K mg base CX (k + 1) f (PySem.W.fnOf name qual params body scope dV kV doc pm an cdv ct) ps sp:=by
  refine ⟨len, fun A outer s H args us vs Q E hr e0 hb r hsp=>?_⟩
  have hl:=len _ _ _ _ hsp
  have KX : K.In s.heap:=e0.mod.kin.keeps fun b o e=>(e0.bs b o e).1
  have lim : s.heap.NoLimit:=e0.mod.nolimit.keeps fun b o e=>(e0.bs b o e).1
  have hkind : ∀ y ∈ ps.zip us, scope.names.lookup y.1 = some .local ∨ (scope.names.lookup y.1 = some .cell /\ ((cellsFrom (s.heap.objs.size + 1) scope.names []).lookup y.1).isSome = true):=fun ⟨n, v⟩ hy=>by
    rcases S.par n (List.of_mem_zip hy).1 with q | q
    . exact .inl q
    . exact .inr ⟨q, PySem.W.cellsFrom_some _ _ _ (.inl q)⟩
  refine codeAny_call_function hr.depth (KX _ _ lk) rfl S.co S.gen rfl (PySem.W.codeRec_of KX hcd) (hb _ _ _ _ ?_)
  refine wpAny_newFunctionEnv_cells S.kind hkind fun env he s1 x=>?_
  subst he
  refine ⟨lim.keeps x.toInCall.keep, codeAny_func ?_⟩
  obtain ⟨t, ht, hq⟩:=hbody A outer s H vs Q E (hr.deeper _) hsp
  have I : Inv (Hb CX P w K mg base N qual scope f cdv A outer s H E) [] (Um N vs) H s1:=Fi S hr.hd e0 hl r x
  refine wpAny_mono (ht [] s1 (Um N vs) H _ I hq) (fun fl s' hs=>?_) fun e s' hs=>hs
  have fin : ∀ {σ' : St} {H' : Hp} {v : V} {u : Value}, Inv (Hb CX P w K mg base N qual scope f cdv A outer s H E) [] σ' H' s' -> X7 v u -> Q v H' -> CE outer P w H s Q u s':=
    fun {σ' H' v u} J rv q=>⟨v, H', J.os, J.bare, J.base, J.hok, rv, q⟩
  cases fl with
  | ret u=>
    obtain ⟨v, σ', H', J, rv, q⟩:=hs
    exact fin J rv q
  | next=>
    obtain ⟨σ', H', J, q⟩:=hs
    exact fin (v:=V.non) (u:=Value.none) J rfl q
  | brk=>
    obtain ⟨_, _, _, q⟩:=hs
    exact False.elim q
  | cont=>
    obtain ⟨_, _, _, q⟩:=hs
    exact False.elim q
end L2
namespace L2
open PySem PySem.Spec PyProof.Rows
section
variable {X : Cx} {x : Str} {p pos : Pos} {e : Expr} {es : List Expr} {t : TA} {id T : String} {r : List V -> Hp -> VK -> Prop}
noncomputable def tCB (r : List V -> Hp -> VK -> Prop) (t : TA) : TE:=fun σ H Q=>t σ H fun vs H1=>r vs H1 Q
theorem Xq (hc : Qc X (.builtin id) r) (hg : Gl X x) (hm : X.mg x = none) (hv : bootBuiltins x = some (.builtin id)) (ha : PA X (e :: es) t) (hn : x ≠ "__name__":=by decide) (hdb : (x == ("__debug__" : Str)) = false:=by decide)
    (he : starEach (e :: es) X.env = (false, eval e X.env) :: starEach es X.env:=by rfl) (hpl : (backTo pos (starEach es X.env)).any (·.1) = false:=by rfl) : PE X (.Call (.Name x p) (e :: es) [] pos) (tCB r t):=by
  intro pins s σ H Q I h
  refine wpAny_Call_Name_kw (Jv I hg hm hv ?_ hn hdb)
  exact PyProof.Rows.callWith_builtin1 (thn (ha pos pins s σ H _ I h) fun us s1 ⟨vs, H1, I1, r1, q1⟩=>hc pins s1 σ H1 vs us Q I1 r1 q1) he hpl
theorem U4 (hc : Qc X (.type T) r) (hg : Gl X x) (hm : X.mg x = none) (hv : bootBuiltins x = some (.type T)) (ha : PA X (e :: es) t) (hn : x ≠ "__name__":=by decide) (hdb : (x == ("__debug__" : Str)) = false:=by decide)
    (he : starEach (e :: es) X.env = (false, eval e X.env) :: starEach es X.env:=by rfl) (hpl : (backTo pos (starEach es X.env)).any (·.1) = false:=by rfl) : PE X (.Call (.Name x p) (e :: es) [] pos) (tCB r t):=by
  intro pins s σ H Q I h
  refine wpAny_Call_Name_kw (Jv I hg hm hv ?_ hn hdb)
  exact PyProof.Rows.callWith_type1 (thn (ha pos pins s σ H _ I h) fun us s1 ⟨vs, H1, I1, r1, q1⟩=>hc pins s1 σ H1 vs us Q I1 r1 q1) he hpl
end
end L2
namespace HT
open PySem PyProof.Rows
section
open PySem.SeqAt
open PySem.AutoSeq1 (wpAny_loadPart')
open PySem.MeetsSeq PySem.MeetsSeq2 PySem.MeetsSeq3
end
section
variable {prog : Program} {w : World} {A : Around} {E : Value -> Shared -> Prop} {s : Shared}
theorem cat_tup {t b : Addr} {vs ws : List Value} {Q : Value -> Shared -> Prop} (ht : IsTup s.heap t vs.toArray) (hb : IsTup s.heap b ws.toArray) (hv : vs ≠ [])
    (h1 : ws = [] -> Q (.ref t) s) (h2 : ws ≠ [] -> Q (.ref s.heap.objs.size) { s with heap:=s.heap.push { cls:=.type "tuple", data:=.seq (vs ++ ws).toArray } })
    (hsz : vs.length + ws.length <= sizeLine) : wpAny (model prog w) A (binaryOp .Add (.ref t) (.ref b)) Q E s:=by
  obtain ⟨⟨cls, dd, data, sl⟩, ho, hc, n, hd⟩:=id ht
  obtain ⟨⟨cls2, dd2, data2, sl2⟩, ho2, hc2, n2, hd2⟩:=id hb
  simp only at hc hd hc2 hd2
  subst hc hd hc2 hd2
  have e : vs.toArray ++ ws.toArray = (vs ++ ws).toArray:=by simp
  by_cases hw : ws = []
  . exact concat_meets ⟨_, ho, rfl⟩ ⟨_, ho2, rfl⟩ noFill_tuple_add seq_tuple_add PySem.F.slot_tuple_add PySem.F.entry_tuple_add (PySem.F.args_tuple_add_2 _ _)
      (tuple_addW1 t b vs.toArray ws.toArray n n2 dd dd2 sl sl2 (by simpa using hv) (by simp [hw])) ⟨ho, ho2, h1 hw⟩
  . refine concat_meets ⟨_, ho, rfl⟩ ⟨_, ho2, rfl⟩ noFill_tuple_add seq_tuple_add PySem.F.slot_tuple_add PySem.F.entry_tuple_add (PySem.F.args_tuple_add_2 _ _)
      (tuple_addW2 t b vs.toArray ws.toArray n n2 dd dd2 sl sl2 (by simpa using hv) (by simpa using hw) (by rw [List.size_toArray, List.size_toArray]; exact hsz)) ⟨ho, ho2, ?_⟩
    rw [e]
    exact h2 hw
noncomputable def sIx (n d : Nat) : Option Int -> Nat
  | none=>d
  | some v=>if v < 0 then (v + (n : Int)).toNat else min v.toNat n
theorem sIx_none (n d : Nat) : sIx n d none = d:=rfl
theorem sIx_nat (n d k : Nat) : sIx n d (some (k : Int)) = min k n:=by
  show (if (k : Int) < 0 then ((k : Int) + (n : Int)).toNat else min (k : Int).toNat n) = min k n
  rw [if_neg (by omega), Int.toNat_natCast]
end
end HT
namespace L2
open PySem PySem.Spec PyProof.Rows
noncomputable abbrev TO:=St -> Hp -> (Option Int -> Hp -> Prop) -> Prop
noncomputable def PO (X : Cx) (e : Option Expr) (t : TO) : Prop:=
  ∀ (pins : List (Addr × Obj)) (s : Shared) (σ : St) (H : Hp) (Q : Option Int -> Hp -> Prop), Inv X pins σ H s -> t σ H Q ->
    wpAny (model X.prog X.w) X.A (evalPart e X.env) (fun u s'=>∃ o H', Inv X pins σ H' s' /\ IsPart u o /\ Q o H') X.xe s
noncomputable def DG : TO:=fun _ H Q=>Q none H
noncomputable def Hr (t : TE) : TO:=fun σ H Q=>t σ H fun x H1=>∃ i, x = .int i /\ Q (some i) H1
section
variable {X : Cx} {e : Expr} {te : TE} {lo hi : Option Expr} {tl th : TO} {pos p2 : Pos}
theorem KJ : PO X none DG:=by
  intro pins s σ H Q I h
  rw [evalPart_none]
  exact wpAny_pure ⟨none, H, I, .none, h⟩
theorem KP (h : PE X e te) : PO X (some e) (Hr te):=by
  intro pins s σ H Q I hw
  rw [evalPart_some]
  refine thn (h pins s σ H _ I hw) fun u s1 ⟨x, H1, I1, r1, q1⟩=>?_
  obtain ⟨i, rfl, q⟩:=q1
  obtain ⟨t, rfl⟩:=r1
  exact ⟨some i, H1, I1, .int i t, q⟩
noncomputable def SlR (X : Cx) (r : V -> Option Int -> Option Int -> Hp -> VK -> Prop) : Prop:=
  ∀ (pins : List (Addr × Obj)) (s : Shared) (σ : St) (H : Hp) (x : V) (v vl vu : Value) (lo hi : Option Int) (sl : Addr) (Q : VK), Inv X pins σ H s -> X7 x v -> s.heap.IsSliceOf sl vl vu .none -> IsPart vl lo -> IsPart vu hi -> r x lo hi H Q ->
    ∃ T id, typeLookup (.type T) "__getitem__" = pure (some (.builtin id)) /\ s.TypeIs v T /\ wpAny (model X.prog X.w) X.A (getItem v (.ref sl)) (EP X pins σ Q) X.xe s
theorem SlR.or {r r' : V -> Option Int -> Option Int -> Hp -> VK -> Prop} (h : SlR X r) (h' : SlR X r') : SlR X (fun x lo hi H Q=>r x lo hi H Q ∨ r' x lo hi H Q):=by
  intro pins s σ H x v vl vu lo hi sl Q I rx hs pl pu q
  rcases q with q | q
  . exact h pins s σ H x v vl vu lo hi sl Q I rx hs pl pu q
  . exact h' pins s σ H x v vl vu lo hi sl Q I rx hs pl pu q
noncomputable def tSl (r : V -> Option Int -> Option Int -> Hp -> VK -> Prop) (te : TE) (tl th : TO) : TE:=fun σ H Q=>te σ H fun x H1=>tl σ H1 fun l H2=>th σ H2 fun u H3=>r x l u H3 Q
theorem Ua {r : V -> Option Int -> Option Int -> Hp -> VK -> Prop} (hr : SlR X r) (he : PE X e te) (hl : PO X lo tl) (hu : PO X hi th) : PE X (.Subscript e (.Slice lo hi none p2) pos) (tSl r te tl th):=by
  intro pins s σ H Q I h
  refine Subscript_ (thn (he pins s σ H _ I h) fun v s1 ⟨x, H1, I1, r1, q1⟩=>?_)
  refine wpAny_Slice (thn (hl pins s1 σ H1 _ I1 q1) fun vl s2 ⟨l, H2, I2, pl, q2⟩=>thn (hu pins s2 σ H2 _ I2 q2) fun vu s3 ⟨u, H3, I3, pu, q3⟩=>?_)
  rw [evalPart_none]
  refine wpAny_pure ?_
  have I4 : Inv X pins σ H3 { s3 with heap:=s3.heap.push { cls:=.type "slice", data:=.fields #[vl, vu, .none] } }:=I3.kept (t':=s3.toks) fun b ob q=>Heap.get?_push_of_some _ q
  obtain ⟨T, id, hT, ht, hg⟩:=hr pins { s3 with heap:=s3.heap.push { cls:=.type "slice", data:=.fields #[vl, vu, .none] } } σ H3 x v vl vu l u s3.heap.objs.size Q I4 r1 (Heap.IsSliceOf.new ..) pl pu q3
  show wpAny (model X.prog X.w) X.A (subscriptTail e (.Slice lo hi none p2) v (.ref s3.heap.objs.size)) (EP X pins σ Q) X.xe { s3 with heap:=s3.heap.push { cls:=.type "slice", data:=.fields #[vl, vu, .none] } }
  exact tail_any (ops:=[.ref s3.heap.objs.size, v]) ht hT hg (by with_unfolding_all rfl)
noncomputable def Hj (xs : List V) (lo hi : Option Int) : List V:=(xs.drop (HT.sIx xs.length 0 lo)).take (HT.sIx xs.length xs.length hi - HT.sIx xs.length 0 lo)
theorem Kk (xs : List V) (lo hi : Option Int) : (Hj xs lo hi).length <= xs.length:=by
  unfold Hj
  rw [List.length_take, List.length_drop]
  omega
noncomputable def I9 (K : PySem.W.Frag) : R2:=fun x y H Q=>∃ a b xs ys, x = .ref a /\ y = .ref b /\ SqT K H a xs /\ SqT K H b ys /\ xs ≠ [] /\ xs.length + ys.length <= sizeLine /\
  (ys = [] -> Q (.ref a) H) /\ (ys ≠ [] -> ∀ p, H p = none -> Q (.ref p) (upd H p (.tup (xs ++ ys))))
theorem X3.nil_iff {xs : List V} {us : List Value} (r : X3 xs us) : us = [] ↔ xs = []:=by
  cases r with
  | nil=>simp
  | cons _ _=>simp
theorem E9 : OpR X (binaryOp .Add) (I9 X.K):=by
  intro pins s σ H x y v u Q I rx ry h
  obtain ⟨a, b, xs, ys, rfl, rfl, ha, hb, hx, hz, q1, q2⟩:=h
  cases rx
  cases ry
  obtain ⟨its, r1, p1, _⟩:=I.tuple ha
  obtain ⟨its2, r2, p2, _⟩:=I.tuple hb
  refine HT.cat_tup p1 p2 (fun z=>hx (r1.nil_iff.mp z)) (fun z=>⟨.ref a, H, I, rfl, q1 (r2.nil_iff.mp z)⟩) (fun z=>?_) (by rw [← r1.length, ← r2.length]; exact hz)
  refine ⟨.ref s.heap.objs.size, _, I.laid (t':=s.toks) (o:=.tup (xs ++ ys)) (fun b ob q=>Heap.get?_push_of_some _ q) (Nat.le_refl _) ?_, rfl, q2 (fun w=>z (r2.nil_iff.mpr w)) _ (I.hok.fresh (Nat.le_refl _))⟩
  exact ⟨by rw [List.length_append]; exact hz, _, r1.append r2, IsTup.new _ _⟩
end
end L2
namespace L2
open PySem PySem.Spec PyProof.Rows
noncomputable def ixN (n : Nat) (i : Int) : Option Nat:=if 0 <= i then (if i < n then some i.toNat else none) else if -(n : Int) <= i then some (i + n).toNat else none
noncomputable def atI {α : Type} (xs : List α) (i : Int) : Option α:=(ixN xs.length i).bind fun j=>xs[j]?
theorem Fr {n : Nat} {i : Int} {j : Nat} (h : ixN n i = some j) : seqIndex? i n = some j /\ j < n /\ -(n : Int) <= i /\ i < n:=by
  unfold ixN at h
  by_cases h0 : 0 <= i
  . rw [if_pos h0] at h
    by_cases h1 : i < n
    . rw [if_pos h1] at h
      have e : i.toNat = j:=Option.some.inj h
      exact ⟨by rw [seqIndex_of h0 h1, e], by omega, by omega, h1⟩
    . rw [if_neg h1] at h; cases h
  . rw [if_neg h0] at h
    by_cases h1 : -(n : Int) <= i
    . rw [if_pos h1] at h
      have e : (i + n).toNat = j:=Option.some.inj h
      exact ⟨by rw [seqIndex_neg (by omega) h1, e], by omega, h1, by omega⟩
    . rw [if_neg h1] at h; cases h
theorem DK {α : Type} {xs : List α} {i : Int} {v : α} (h : atI xs i = some v) : ∃ j, seqIndex? i xs.length = some j /\ xs[j]? = some v /\ j < xs.length /\ -(xs.length : Int) <= i /\ i < xs.length:=by
  unfold atI at h
  cases e : ixN xs.length i with
  | none=>rw [e] at h; cases h
  | some j=>
    rw [e] at h
    obtain ⟨h1, h2, h3, h4⟩:=Fr e
    exact ⟨j, h1, h, h2, h3, h4⟩
noncomputable def E6 (b : Expr) : Prop:=∀ o i, subscripted b false o i = operate [o, i] (getItem o i)
noncomputable def IxR (X : Cx) (r : R2) : Prop:=
  ∀ (value slice : Expr) (pins : List (Addr × Obj)) (s : Shared) (σ : St) (H : Hp) (x y : V) (v u : Value) (Q : VK), Inv X pins σ H s -> X7 x v -> X7 y u -> r x y H Q ->
    subscripted slice false v u = operate [v, u] (getItem v u) -> wpAny (model X.prog X.w) X.A (subscriptTail value slice v u) (EP X pins σ Q) X.xe s
noncomputable def MtR (X : Cx) (id : String) (r : V -> List V -> Hp -> VK -> Prop) : Prop:=
  ∀ (pins : List (Addr × Obj)) (s : Shared) (σ : St) (H : Hp) (x : V) (xs : List V) (v : Value) (us : List Value) (Q : VK), Inv X pins σ H s -> X7 x v -> X3 xs us -> r x xs H Q ->
    wpAny (model X.prog X.w) X.A (call (.builtin id) (v :: us)) (EP X pins σ Q) X.xe s
section
variable {X : Cx} {a b : Expr} {ta tb : TE} {pos : Pos}
theorem IxR.or {r r' : R2} (h : IxR X r) (h' : IxR X r') : IxR X (fun x y H Q=>r x y H Q ∨ r' x y H Q):=by
  intro value slice pins s σ H x y v u Q I rx ry q hs
  rcases q with q | q
  . exact h value slice pins s σ H x y v u Q I rx ry q hs
  . exact h' value slice pins s σ H x y v u Q I rx ry q hs
theorem MtR.or {id : String} {r r' : V -> List V -> Hp -> VK -> Prop} (h : MtR X id r) (h' : MtR X id r') : MtR X id (fun x xs H Q=>r x xs H Q ∨ r' x xs H Q):=by
  intro pins s σ H x xs v us Q I rx rs q
  rcases q with q | q
  . exact h pins s σ H x xs v us Q I rx rs q
  . exact h' pins s σ H x xs v us Q I rx rs q
theorem XH {r : R2} (hr : IxR X r) (ha : PE X a ta) (hb : PE X b tb) (hs : E6 b) : PE X (.Subscript a b pos) (tOp r ta tb):=by
  intro pins s σ H Q I h
  exact Subscript_ (Ls ha hb I h fun v u s2 x y H2 I2 rx ry q=>hr a b pins s2 σ H2 x y v u Q I2 rx ry q (hs _ _))
noncomputable def Iy (K : PySem.W.Frag) : R2:=fun x y H Q=>∃ p xs i v, x = .ref p /\ y = .int i /\ SqL K H p xs /\ atI xs i = some v /\ Q v H
noncomputable def Hi (K : PySem.W.Frag) : R2:=fun x y H Q=>∃ p xs i v, x = .ref p /\ y = .int i /\ SqT K H p xs /\ atI xs i = some v /\ Q v H
theorem Ha : IxR X (Iy X.K):=by
  intro value slice pins s σ H x y v u Q I rx ry h hs
  obtain ⟨p, xs, i, z, rfl, rfl, hq, he, q⟩:=h
  cases rx
  obtain ⟨t, rfl⟩:=ry
  obtain ⟨its, r, pl, hz⟩:=I.list hq
  obtain ⟨j, h1, h2, h3, h4, h5⟩:=DK he
  obtain ⟨w, ew, rw'⟩:=r.get h2
  have hl:=r.length
  have hn:=Gj
  have fin : EP X pins σ Q w s:=⟨z, H, I, rw', q⟩
  by_cases h0 : 0 <= i
  . have hj : i.toNat = j:=by
      rw [seqIndex_of h0 h5] at h1
      exact Option.some.inj h1
    exact item_listR pl.isList h0 (by omega) (by rw [hj]; simpa using ew) fin hs
  . have hj : (i + (its.toArray.size : Int)).toNat = j:=by
      rw [seqIndex_neg (by omega) h4] at h1
      rw [List.size_toArray, ← hl]
      exact Option.some.inj h1
    exact subscriptTail_builtinR (x:=w) pl.isList.typeIs slot_list_getitem.lookup
      (wpAny_getItem_list_neg (Q:=fun r s'=>r = w /\ EP X pins σ Q r s') pl.isList (by omega) (by rw [List.size_toArray] <;> omega) (by omega) (by rw [hj]; simpa using ew) ⟨rfl, fin⟩) hs
theorem HM : IxR X (Hi X.K):=by
  intro value slice pins s σ H x y v u Q I rx ry h hs
  obtain ⟨p, xs, i, z, rfl, rfl, hq, he, q⟩:=h
  cases rx
  obtain ⟨t, rfl⟩:=ry
  obtain ⟨its, r, pl, hz⟩:=I.tuple hq
  obtain ⟨j, h1, h2, h3, h4, h5⟩:=DK he
  obtain ⟨w, ew, rw'⟩:=r.get h2
  have hl:=r.length
  have hn:=Gj
  have fin : EP X pins σ Q w s:=⟨z, H, I, rw', q⟩
  exact subscriptTail_builtinR (x:=w) pl.typeIs slot_tuple_getitem.lookup
    (getItem_tuple (j:=j) (Q:=fun r s'=>r = w /\ EP X pins σ Q r s') pl (by omega) (by omega) (by rw [List.size_toArray, ← hl]; exact h1) (by simpa using ew) ⟨rfl, fin⟩) hs
theorem GD (its : List Value) (n j : Nat) (u : Value) : Obj.mapSeq (·.setIfInBounds j u) { cls:=.type "list", data:=.seq its.toArray n } = { cls:=.type "list", data:=.seq (its.set j u).toArray n }:=by
  simp [Obj.mapSeq]
theorem Inv.lst {pins : List (Addr × Obj)} {σ : St} {H : Hp} {s : Shared} {p : Addr} {xs : List V} (I : Inv X pins σ H s) (h : H p = some (.lst xs)) :
    ∃ (its : List Value) (n : Nat), X3 xs its /\ s.heap.get? p = some { cls:=.type "list", data:=.seq its.toArray n } /\ xs.length <= sizeLine:=by
  obtain ⟨z, its, n, r, e⟩:=I.hok p _ h
  exact ⟨its, n, r, e, z⟩
theorem Inv.lstUpd {pins : List (Addr × Obj)} {σ : St} {H : Hp} {s : Shared} {p : Addr} {xs ys : List V} {its its' : List Value} {n n' : Nat} {f : Obj -> Obj} (I : Inv X pins σ H s) (h : H p = some (.lst xs))
    (ho : s.heap.get? p = some { cls:=.type "list", data:=.seq its.toArray n }) (hf : f { cls:=.type "list", data:=.seq its.toArray n } = { cls:=.type "list", data:=.seq its'.toArray n' }) (r : X3 ys its') (hz : ys.length <= sizeLine) (t : Nat) :
    Inv X pins σ (upd H p (.lst ys)) { s with heap:=s.heap.update p f, toks:=t }:=by
  have e : (s.heap.update p f).get? p = some { cls:=.type "list", data:=.seq its'.toArray n' }:=by
    rw [Heap.get?_update_self f ho (by rw [hf] <;> rfl), hf]
  refine I.write (x:=p) (e:=p) (by rw [h]; trivial) (.inl rfl) (fun b u hb q=>(Heap.get?_update_other _ _ (Ne.symm hb)).trans q) ⟨_, e⟩ ?_
  exact ⟨hz, its', n', r, e⟩
noncomputable def Im : V -> V -> V -> Hp -> (Hp -> Prop) -> Prop:=fun o i v H Q=>∃ p xs k j, o = .ref p /\ i = .int k /\ H p = some (.lst xs) /\ ixN xs.length k = some j /\ Q (upd H p (.lst (xs.set j v)))
theorem Cl : LG X Im:=by
  intro pins s σ H o i v ov iv u Q I ro ri rv h
  obtain ⟨p, xs, k, j, rfl, rfl, hp, hj, q⟩:=h
  cases ro
  obtain ⟨t, rfl⟩:=ri
  obtain ⟨its, n, r, ho, hz⟩:=I.lst hp
  obtain ⟨h1, h2, h3, h4⟩:=Fr hj
  have hl:=r.length
  have hn:=Gj
  have I' : Inv X pins σ (upd H p (.lst (xs.set j v))) { s with heap:=s.heap.update p (Obj.mapSeq (·.setIfInBounds j u)) }:=
    I.lstUpd hp ho (GD its n j u) (r.set rv j) (by rw [List.length_set]; exact hz) s.toks
  by_cases h0 : 0 <= k
  . have hk : k.toNat = j:=by
      rw [seqIndex_of h0 h4] at h1
      exact Option.some.inj h1
    exact PySem.W.ki_setAt ho h0 (by omega) (by rw [List.size_toArray, ← hl]; exact h4) (by rw [hk]; exact ⟨_, I', q⟩)
  . have hk : (k + (its.toArray.size : Int)).toNat = j:=by
      rw [seqIndex_neg (by omega) h3] at h1
      rw [List.size_toArray, ← hl]
      exact Option.some.inj h1
    exact PySem.W.ki_setBack ho (by omega) (by rw [List.size_toArray, ← hl]; exact h3) (by omega) (by rw [hk]; exact ⟨_, I', q⟩)
theorem Kf (lo hi : Option Int) (n : Nat) : (sliceBounds lo hi none n).1 = ((HT.sIx n 0 lo : Nat) : Int) /\ (sliceBounds lo hi none n).2.1 = ((HT.sIx n n hi : Nat) : Int) /\ (sliceBounds lo hi none n).2.2 = 1:=by
  refine ⟨?_, ?_, rfl⟩
  . cases lo with
    | none=>simp [sliceBounds, HT.sIx]
    | some i=>
      simp only [sliceBounds, HT.sIx, Option.getD_none, show (1 : Int) > 0 by decide, if_true]
      by_cases h : i < 0
      . simp only [h, if_true] <;> omega
      . simp only [h, if_false] <;> omega
  . cases hi with
    | none=>simp [sliceBounds, HT.sIx]
    | some i=>
      simp only [sliceBounds, HT.sIx, Option.getD_none, show (1 : Int) > 0 by decide, if_true]
      by_cases h : i < 0
      . simp only [h, if_true] <;> omega
      . simp only [h, if_false] <;> omega
theorem VY (its : List Value) (lo hi : Option Int) : slicePick its.toArray lo hi none = ((its.drop (HT.sIx its.length 0 lo)).take (HT.sIx its.length its.length hi - HT.sIx its.length 0 lo)).toArray:=by
  obtain ⟨h1, h2, h3⟩:=Kf lo hi its.toArray.size
  unfold slicePick
  rw [h1, h2, h3]
  simp only [sliceRange_one, pick_run, List.size_toArray] <;> rfl
noncomputable def IP (K : PySem.W.Frag) : V -> Option Int -> Option Int -> Hp -> VK -> Prop:=fun x lo hi H Q=>∃ a xs, x = .ref a /\ SqL K H a xs /\ ∀ p, H p = none -> Q (.ref p) (upd H p (.lst (Hj xs lo hi)))
theorem EO : SlR X (IP X.K):=by
  intro pins s σ H x v vl vu lo hi sl Q I rx hs pl pu h
  obtain ⟨a, xs, rfl, hx, q⟩:=h
  cases rx
  obtain ⟨its, r, ht, hz⟩:=I.list hx
  have hlen:=r.length
  refine ⟨"list", _, slot_list_getitem.lookup, ht.isList.typeIs, ?_⟩
  refine wpAny_getItem_list_slice ht.isList hs pl pu .none (by simp) ?_ (by rw [List.size_toArray] <;> omega)
  rw [VY, ← hlen]
  refine ⟨.ref s.heap.objs.size, _, I.laid (t':=s.toks) (o:=.lst (Hj xs lo hi)) (fun b ob q=>Heap.get?_push_of_some _ q) (Nat.le_refl _) ?_, rfl, q _ (I.hok.fresh (Nat.le_refl _))⟩
  exact ⟨Nat.le_trans (Kk xs lo hi) hz, _, 0, (r.drop (HT.sIx xs.length 0 lo)).take (HT.sIx xs.length xs.length hi - HT.sIx xs.length 0 lo), Heap.get?_push_size _ rfl⟩
noncomputable def JB : V -> Bool
  | .non=>true
  | .bl _=>true
  | .int _=>true
  | .str _=>true
  | _=>false
noncomputable def eqV : V -> V -> Bool
  | .non, .non=>true
  | .bl a, .bl b=>a == b
  | .bl a, .int b=>(if a then 1 else 0) == b
  | .int a, .bl b=>a == (if b then 1 else 0)
  | .int a, .int b=>a == b
  | .str a, .str b=>a == b
  | _, _=>false
theorem HG {A : Around} {s : Shared} {y x : V} {u v : Value} (ry : X7 y u) (rx : X7 x v) (fy : JB y = true) (fx : JB x = true) : SeqAt.EqAt A s u v (eqV y x):=by
  cases y with
  | non=>
    cases ry
    cases x with
    | non=>cases rx; exact SeqAt.EqAt.same _
    | bl b=>cases rx; exact SeqAt.EqAt.none_bool b
    | int b=>obtain ⟨t, rfl⟩:=rx; exact SeqAt.EqAt.none_int b t
    | str b=>obtain ⟨t, rfl⟩:=rx; exact SeqAt.EqAt.none_str b t
    | _=>exact absurd (show false = true from fx) Bool.false_ne_true
  | bl a=>
    cases ry
    cases x with
    | non=>cases rx; exact SeqAt.EqAt.bool_none a
    | bl b=>cases rx; exact SeqAt.EqAt.bool_bool a b
    | int b=>obtain ⟨t, rfl⟩:=rx; exact SeqAt.EqAt.bool_int a b t
    | str b=>obtain ⟨t, rfl⟩:=rx; exact SeqAt.EqAt.bool_str a b t
    | _=>exact absurd (show false = true from fx) Bool.false_ne_true
  | int a=>
    obtain ⟨t', rfl⟩:=ry
    cases x with
    | non=>cases rx; exact SeqAt.EqAt.int_none a t'
    | bl b=>cases rx; exact SeqAt.EqAt.int_bool a t' b
    | int b=>obtain ⟨t, rfl⟩:=rx; exact SeqAt.EqAt.int_int a t' b t
    | str b=>obtain ⟨t, rfl⟩:=rx; exact SeqAt.EqAt.int_str a t' b t
    | _=>exact absurd (show false = true from fx) Bool.false_ne_true
  | str a=>
    obtain ⟨t', rfl⟩:=ry
    cases x with
    | non=>cases rx; exact SeqAt.EqAt.str_none a t'
    | bl b=>cases rx; exact SeqAt.EqAt.str_bool a t' b
    | int b=>obtain ⟨t, rfl⟩:=rx; exact SeqAt.EqAt.str_int a t' b t
    | str b=>obtain ⟨t, rfl⟩:=rx; exact SeqAt.EqAt.str_str a t' b t
    | _=>exact absurd (show false = true from fx) Bool.false_ne_true
  | _=>exact absurd (show false = true from fy) Bool.false_ne_true
noncomputable def eqU (x : V) (u : Value) : Bool:=match u with
  | .none=>eqV .non x
  | .bool b=>eqV (.bl b) x
  | .int i _=>eqV (.int i) x
  | .str z _=>eqV (.str z) x
  | _=>false
theorem Di {x y : V} {u : Value} (r : X7 y u) (f : JB y = true) : eqU x u = eqV y x:=by
  cases y with
  | non=>cases r; rfl
  | bl b=>cases r; rfl
  | int i=>obtain ⟨t, rfl⟩:=r; rfl
  | str z=>obtain ⟨t, rfl⟩:=r; rfl
  | _=>exact absurd (show false = true from f) Bool.false_ne_true
theorem Vs {x : V} : ∀ {xs : List V} {us : List Value}, X3 xs us -> xs.all JB = true -> us.any (eqU x) = xs.any fun y=>eqV y x
  | _, _, .nil, _=>rfl
  | y :: xs, u :: us, .cons r t, f=>by
    rw [List.all_cons, Bool.and_eq_true] at f
    rw [List.any_cons, List.any_cons, Di r f.1, Vs t f.2]
theorem Qs {A : Around} {s : Shared} {x : V} {v : Value} (rx : X7 x v) (fx : JB x = true) : ∀ {xs : List V} {us : List Value}, X3 xs us -> xs.all JB = true -> ∀ u ∈ us, SeqAt.EqAt A s u v (eqU x u)
  | _, _, .nil, _=>fun u hu=>by cases hu
  | y :: xs, u :: us, .cons r t, f=>fun u' hu=>by
    rw [List.all_cons, Bool.and_eq_true] at f
    rcases List.mem_cons.mp hu with rfl | hu
    . rw [Di r f.1]; exact HG r rx f.1 fx
    . exact Qs rx fx t f.2 u' hu
noncomputable def inV (x : V) (xs : List V) : Bool:=xs.any fun y=>eqV y x
noncomputable def rIn (K : PySem.W.Frag) (neg : Bool) : R2:=fun x y H Q=>∃ p xs, y = .ref p /\ (SqL K H p xs ∨ SqT K H p xs) /\ JB x = true /\ xs.all JB = true /\ Q (.bl (if neg then !inV x xs else inV x xs)) H
theorem Fb : OpR X (compareOp .In) (rIn X.K false):=by
  intro pins s σ H x y v u Q I rx ry h
  obtain ⟨p, xs, rfl, hq, fx, fs, q⟩:=h
  cases ry
  rcases hq with hq | hq
  . obtain ⟨its, r, pl, hz⟩ := I.list hq
    refine SeqAt.in_listAt (eqU x) pl.isList (fun w hw=>Qs rx fx r fs w (by simpa using hw)) ⟨.bl _, H, I, rfl, ?_⟩
    rw [show its.toArray.any (eqU x) = its.any (eqU x) by simp, Vs r fs]
    exact q
  . obtain ⟨its, r, pl, hz⟩ := I.tuple hq
    refine SeqAt.in_tupleAt (eqU x) pl (fun w hw=>Qs rx fx r fs w (by simpa using hw)) ⟨.bl _, H, I, rfl, ?_⟩
    rw [show its.toArray.any (eqU x) = its.any (eqU x) by simp, Vs r fs]
    exact q
theorem Jt : OpR X (compareOp .NotIn) (rIn X.K true):=by
  intro pins s σ H x y v u Q I rx ry h
  obtain ⟨p, xs, rfl, hq, fx, fs, q⟩:=h
  cases ry
  rcases hq with hq | hq
  . obtain ⟨its, r, pl, hz⟩ := I.list hq
    refine SeqAt.notIn_listAt (eqU x) pl.isList (fun w hw=>Qs rx fx r fs w (by simpa using hw)) ⟨.bl _, H, I, rfl, ?_⟩
    rw [show its.toArray.any (eqU x) = its.any (eqU x) by simp, Vs r fs]
    exact q
  . obtain ⟨its, r, pl, hz⟩ := I.tuple hq
    refine SeqAt.notIn_tupleAt (eqU x) pl (fun w hw=>Qs rx fx r fs w (by simpa using hw)) ⟨.bl _, H, I, rfl, ?_⟩
    rw [show its.toArray.any (eqU x) = its.any (eqU x) by simp, Vs r fs]
    exact q
theorem UN : Qc X (.builtin "len") (fun xs H Q=>∃ p ys, xs = [.ref p] /\ (SqL X.K H p ys ∨ SqT X.K H p ys) /\ Q (.int ys.length) H):=by
  intro pins s σ H xs us Q I r h
  obtain ⟨p, ys, rfl, hq, q⟩:=h
  obtain ⟨u, rfl, rx⟩:=KH r
  cases rx
  have hn:=Gj
  rcases hq with hq | hq
  . obtain ⟨its, r', pl, hz⟩ := I.list hq
    have hlen:=r'.length
    exact Calls.call_len_list pl.isList (by simp only [List.size_toArray] <;> omega) ⟨.int ys.length, H, I.tok _, ⟨s.toks + 1, by rw [List.size_toArray, hlen]⟩, q⟩
  . obtain ⟨its, r', pl, hz⟩ := I.tuple hq
    have hlen:=r'.length
    exact len_tuple pl (by simp only [List.size_toArray] <;> omega) ⟨.int ys.length, H, I.tok _, ⟨s.toks + 1, by rw [List.size_toArray, hlen]⟩, q⟩
theorem Qc.or {f : Value} {r r' : List V -> Hp -> VK -> Prop} (h : Qc X f r) (h' : Qc X f r') : Qc X f (fun xs H Q=>r xs H Q ∨ r' xs H Q):=by
  intro pins s σ H xs us Q I rs q
  rcases q with q | q
  . exact h pins s σ H xs us Q I rs q
  . exact h' pins s σ H xs us Q I rs q
theorem UZ : Qc X (.type "list") (fun xs H Q=>∃ p ys, xs = [.ref p] /\ (SqL X.K H p ys ∨ SqT X.K H p ys) /\ ∀ l, H l = none -> Q (.ref l) (upd H l (.lst ys))):=by
  intro pins s σ H xs us Q I r h
  obtain ⟨p, ys, rfl, hq, q⟩:=h
  obtain ⟨u, rfl, rx⟩:=KH r
  cases rx
  have fin : ∀ (its : List Value), X3 ys its -> ys.length <= sizeLine -> ∀ (h' : Heap) (c' : Nat), (∀ b o', s.heap.get? b = some o' -> h'.get? b = some o') ->
      h'.get? s.heap.objs.size = some { cls:=.type "list", dict:=none, data:=.seq its.toArray c', slots:=#[] } -> EP X pins σ Q (.ref s.heap.objs.size) { s with heap:=h' }:=fun its r' hz h' c' kp e=>
    ⟨.ref s.heap.objs.size, _, I.laid (t':=s.toks) kp (Nat.le_refl _) (show Zb X.prog X.w _ h' _ (.lst ys) from ⟨hz, its, c', r', e⟩), rfl, q _ (I.hok.fresh (Nat.le_refl _))⟩
  rcases hq with hq | hq
  . obtain ⟨its, r', pl, hz⟩ := I.list hq
    have hlen:=r'.length
    obtain ⟨o, ho, hc, n, hd⟩:=pl.isList
    exact call_list_seq p (.inl rfl) ho hc hd (fun h' c' kp e=>fin its r' hz h' c' kp e) (by simp only [List.size_toArray] <;> omega)
  . obtain ⟨its, r', pl, hz⟩ := I.tuple hq
    have hlen:=r'.length
    obtain ⟨o, ho, hc, n, hd⟩:=pl
    exact call_list_seq p (.inr rfl) ho hc hd (fun h' c' kp e=>fin its r' hz h' c' kp e) (by simp only [List.size_toArray] <;> omega)
noncomputable def tyV (K : PySem.W.Frag) (T : String) (x : V) (H : Hp) : Prop:=match x with
  | .str _=>T = "str"
  | .int _=>T = "int"
  | .ref p=>(T = "list" /\ ∃ xs, SqL K H p xs) ∨ (T = "tuple" /\ ∃ o, K.lookup p = some o /\ o.cls = .type "tuple" /\ o.dict = none) ∨
      (T = "dict" /\ ((∃ kvs, H p = some (.dK kvs)) ∨ ∃ kvs, H p = some (.dT kvs))) ∨ (T = "set" /\ ∃ S n, H p = some (.set S n))
  | _=>False
theorem BL {pins : List (Addr × Obj)} {σ : St} {H : Hp} {s : Shared} {T : String} {x : V} {v : Value} (I : Inv X pins σ H s) (r : X7 x v) (ty : tyV X.K T x H) :
    s.TypeIs v T /\ ∀ a, v = .ref a -> ∃ ob, s.heap.get? a = some ob /\ ob.dict = none:=by
  cases x with
  | str z=>
    obtain ⟨t, rfl⟩:=r
    cases (show T = "str" from ty)
    exact ⟨typeIs_str s z t, fun _ e=>nomatch e⟩
  | int i=>
    obtain ⟨t, rfl⟩:=r
    cases (show T = "int" from ty)
    exact ⟨typeIs_int s i t, fun _ e=>nomatch e⟩
  | ref p=>
    cases r
    rcases ty with ⟨rfl, xs, hq⟩ | ⟨rfl, o, hk, hc, hd⟩ | ⟨rfl, hk⟩ | ⟨rfl, S, n, hk⟩
    . obtain ⟨its, _, pl, _⟩ := I.list hq
      refine ⟨pl.isList.typeIs, fun a e=>?_⟩
      cases e
      obtain ⟨o, n, e, c, hd, _⟩:=pl
      exact ⟨o, e, hd⟩
    . refine ⟨⟨o, I.kIn p o hk, hc⟩, fun a e => ?_⟩
      cases e
      exact ⟨o, I.kIn _ o hk, hd⟩
    . have z : ∃ o, s.heap.get? p = some o /\ o.ExactDict:=by
        rcases hk with ⟨kvs, hk⟩ | ⟨kvs, hk⟩
        . obtain ⟨_, _, _, _, o, _, _, e, ex, _⟩ := I.hok p _ hk
          exact ⟨o, e, ex⟩
        . obtain ⟨_, _, _, _, o, _, _, e, ex, _⟩ := I.hok p _ hk
          exact ⟨o, e, ex⟩
      obtain ⟨o, e, ex⟩:=z
      refine ⟨⟨o, e, ex.1⟩, fun a e2=>?_⟩
      cases e2
      exact ⟨o, e, ex.2.1⟩
    . obtain ⟨o, _, _, _, e, ex, _⟩ := I.hok p _ hk
      refine ⟨⟨o, e, ex.1⟩, fun a e2=>?_⟩
      cases e2
      exact ⟨o, e, ex.2.1⟩
  | _=>exact False.elim ty
noncomputable def LI (K : PySem.W.Frag) (T : String) (r : V -> List V -> Hp -> VK -> Prop) (to : TE) : TE:=fun σ H Q=>to σ H fun x H1=>tyV K T x H1 /\ r x [] H1 Q
noncomputable def tBM (K : PySem.W.Frag) (T : String) (r : V -> List V -> Hp -> VK -> Prop) (to : TE) (t : TA) : TE:=fun σ H Q=>to σ H fun x H1=>tyV K T x H1 /\ t σ H1 fun xs H2=>r x xs H2 Q
variable {o e : Expr} {es : List Expr} {to : TE} {t : TA} {name : Str} {apos cpos : Pos} {T id : String} {r : V -> List V -> Hp -> VK -> Prop}
theorem IA (pa : PlainAttrs T) (slot : Slot T name id) (hty : typeOf (.builtin id) = pure (.type "method_descriptor")) (hm : MtR X id r) (ho : PE X o to)
    (hbase : attributeBase o name X.env (eval o X.env) = eval o X.env:=by rfl) (hline : (apos.endLine == cpos.line) = true:=by rfl) : PE X (.Call (.Attribute o name apos) [] [] cpos) (LI X.K T r to):=by
  intro pins s σ H Q I h
  refine wpAny_Call_method0_late hbase hline (thn (ho pins s σ H _ I h) fun v s1 ⟨x, H1, I1, r1, ty, q1⟩=>?_)
  obtain ⟨h1, h2⟩:=BL I1 r1 ty
  exact ⟨T, id, pa, slot, hty, h1, h2, Calls.callWith_builtin rfl (PySem.evalArgs_none (hm pins s1 σ H1 x [] v [] Q I1 r1 .nil q1))⟩
theorem Z6 (pa : PlainAttrs T) (slot : Slot T name id) (hty : typeOf (.builtin id) = pure (.type "method_descriptor")) (hm : MtR X id r) (ho : PE X o to) (ha : PA X (e :: es) t)
    (hbase : attributeBase o name X.env (eval o X.env) = eval o X.env:=by rfl)
    (hfew : ((backTo cpos (starEach (e :: es) X.env)).all (fun x=>!x.1) && (backToKw cpos (keywordEach [] X.env)).all (fun x=>x.1.isSome)
      && decide ((e :: es).length + ([] : List Keyword).length + (if ([] : List Keyword).isEmpty then 0 else 1) < 30)) = true:=by rfl)
    (hline : (apos.endLine == cpos.line) = true:=by rfl) (hs : starEach (e :: es) X.env = (false, eval e X.env) :: starEach es X.env:=by rfl) (hplain : (backTo cpos (starEach es X.env)).any (·.1) = false:=by rfl) :
    PE X (.Call (.Attribute o name apos) (e :: es) [] cpos) (tBM X.K T r to t):=by
  intro pins s σ H Q I h
  refine wpAny_Call_method_late hbase hfew hline rfl (thn (ho pins s σ H _ I h) fun v s1 ⟨x, H1, I1, r1, ty, q1⟩=>?_)
  obtain ⟨h1, h2⟩:=BL I1 r1 ty
  refine ⟨T, id, pa, slot, hty, h1, h2, ?_⟩
  have hA:=ha cpos pins s1 σ H1 _ I1 q1
  rw [hs] at hA ⊢
  refine Calls.callWith_builtin (by show (false || (backTo cpos (starEach es X.env)).any (·.1)) = false; rw [hplain] <;> rfl) (Calls.evalArgs_plain ?_)
  exact thn hA fun us s2 ⟨vs, H2, I2, r2, q2⟩=>hm pins s2 σ H2 x vs v us Q I2 r1 r2 q2
/- xs.append(e), list.index on a module's tuple .. are MtR facts of 06m -/
end
end L2
namespace L2
open PySem PySem.Spec PyProof.Rows
noncomputable def MtM (X : Cx) (id : String) (r : V -> List V -> Hp -> VK -> Prop) : Prop:=
  ∀ (pins : List (Addr × Obj)) (s : Shared) (σ : St) (H : Hp) (x : V) (xs : List V) (v : Value) (us : List Value) (Q : VK), Inv X pins σ H s -> X7 x v -> X3 xs us -> r x xs H Q ->
    wpAny (model X.prog X.w) X.A (call (.builtin id) (v :: us)) (EP X pins σ Q) X.xe s
theorem X3.one : ∀ {x : V} {us : List Value}, X3 [x] us -> ∃ u, us = [u] /\ X7 x u:=fun {x us} h=>by
  cases h with
  | cons r t=>
    cases t
    exact ⟨_, rfl, r⟩
theorem X3.two : ∀ {x y : V} {us : List Value}, X3 [x, y] us -> ∃ u v, us = [u, v] /\ X7 x u /\ X7 y v:=fun {x y us} h=>by
  cases h with
  | cons r t=>
    cases t with
    | cons q t=>
      cases t
      exact ⟨_, _, rfl, r, q⟩
theorem X3.zero : ∀ {us : List Value}, X3 [] us -> us = []
  | _, .nil=>rfl
theorem X3.dropLast {xs : List V} {us : List Value} (h : X3 xs us) : X3 xs.dropLast us.dropLast:=by
  induction h with
  | nil=>exact .nil
  | cons r t ih=>
    cases t with
    | nil=>exact .nil
    | cons q t'=>exact .cons r ih
theorem X3.eraseIdx : ∀ {xs : List V} {us : List Value} (i : Nat), X3 xs us -> X3 (xs.eraseIdx i) (us.eraseIdx i)
  | _, _, _, .nil=>.nil
  | _, _, 0, .cons _ t=>t
  | _, _, i + 1, .cons r t=>.cons r (X3.eraseIdx i t)
theorem X3.reverse {xs : List V} {us : List Value} (h : X3 xs us) : X3 xs.reverse us.reverse:=by
  induction h with
  | nil=>exact .nil
  | cons r t ih=>rw [List.reverse_cons, List.reverse_cons]; exact X3.append ih (.cons r .nil)
theorem X3.rep {xs : List V} {us : List Value} (h : X3 xs us) : ∀ k : Nat, X3 (List.replicate k xs).flatten (List.replicate k us).flatten
  | 0=>.nil
  | k + 1=>by
    rw [List.replicate_succ, List.replicate_succ, List.flatten_cons, List.flatten_cons]
    exact X3.append h (X3.rep h k)
theorem GF {α : Type} (l : List α) : l.eraseIdx (l.length - 1) = l.dropLast:=by
  induction l with
  | nil=>rfl
  | cons a r ih=>
    cases r with
    | nil=>rfl
    | cons b r=>
      have e : (a :: b :: r).length - 1 = ((b :: r).length - 1) + 1:=by
        have h1 : (a :: b :: r).length = r.length + 2:=rfl
        have h2 : (b :: r).length = r.length + 1:=rfl
        omega
      rw [e, List.eraseIdx_cons_succ, ih]
      all_goals rfl
theorem UT {α : Type} : ∀ (l : List α) (i : Nat), (l.eraseIdx i).length <= l.length
  | [], _=>Nat.le_refl _
  | _ :: _, 0=>Nat.le_succ _
  | _ :: r, i + 1=>Nat.succ_le_succ (UT r i)
theorem U2 (its : List Value) : ∀ (k : Nat) (acc : List Value),
    List.foldl (fun x1 x2=>x1 ++ x2) acc.toArray (List.replicate k its.toArray) = (acc ++ (List.replicate k its).flatten).toArray
  | 0, acc=>by simp
  | k + 1, acc=>by
    have e : acc.toArray ++ its.toArray = (acc ++ its).toArray:=by simp
    have e2 : (acc ++ its) ++ (List.replicate k its).flatten = acc ++ (List.replicate (k + 1) its).flatten:=by
      rw [List.replicate_succ, List.flatten_cons, List.append_assoc]
    rw [← e2, ← U2 its k (acc ++ its), ← e, List.replicate_succ, List.foldl_cons]
section
variable {X : Cx} {pins : List (Addr × Obj)} {σ : St} {H : Hp} {s : Shared} {l b : Addr} {xs ys zs : List V}
theorem Inv.lset {its its' : List Value} {n : Nat} {f : Array Value -> Array Value} {t' : Nat} (I : Inv X pins σ H s) (hH : H l = some (.lst xs))
    (e : s.heap.get? l = some { cls:=.type "list", data:=.seq its.toArray n }) (hf : f its.toArray = its'.toArray) (hv : X3 ys its') (hz : ys.length <= sizeLine) :
    Inv X pins σ (upd H l (.lst ys)) { s with heap:=s.heap.update l (Obj.mapSeq f), toks:=t' }:=by
  have q:=PySem.IsL.update e f
  rw [hf] at q
  refine I.write (x:=l) (e:=l) (by rw [hH]; exact trivial) (.inl rfl) (fun b' u hb hu=>(Heap.get?_update_other s.heap (Obj.mapSeq f) (Ne.symm hb)).trans hu) ⟨_, q⟩ ?_
  exact ⟨hz, its', _, hv, q⟩
theorem Inv.lnew {its : List Value} {t' : Nat} (I : Inv X pins σ H s) (hv : X3 ys its) (hz : ys.length <= sizeLine) :
    Inv X pins σ (upd H s.heap.objs.size (.lst ys)) { s with heap:=s.heap.push { cls:=.type "list", data:=.seq its.toArray }, toks:=t' }:=
  I.laid (fun _ _ q=>Heap.get?_push_of_some _ q) (Nat.le_refl _) ⟨hz, its, 0, hv, Heap.get?_push_size _ rfl⟩
theorem Inv.fresh (I : Inv X pins σ H s) : H s.heap.objs.size = none:=I.hok.fresh (Nat.le_refl _)
theorem Inv.lstM (I : Inv X pins σ H s) (hH : H l = some (.lst xs)) : xs.length <= sizeLine /\ ∃ (its : List Value) (n : Nat), X3 xs its /\ xs.length = its.length /\ s.heap.get? l = some { cls:=.type "list", data:=.seq its.toArray n }:=by
  obtain ⟨z, its, n, r, e⟩:=I.hok l _ hH
  exact ⟨z, its, n, r, r.length, e⟩
theorem Gb {n : Nat} (h : n <= sizeLine) : Builtin.List.listTooLong n = false:=by
  unfold Builtin.List.listTooLong
  exact decide_eq_false (by omega)
end
section
variable {X : Cx}
noncomputable def Vt : V -> List V -> Hp -> VK -> Prop:=fun x vs H Q=>∃ l xs y, x = .ref l /\ vs = [y] /\ H l = some (.lst xs) /\ xs.length < sizeLine /\ Q .non (upd H l (.lst (xs ++ [y])))
theorem X8 : MtM X "list.append" Vt:=by
  intro pins s σ H x vs v us Q I rx rv h
  obtain ⟨l, xs, y, rfl, rfl, hH, hz, q⟩:=h
  cases rx
  obtain ⟨u, rfl, ru⟩:=rv.one
  obtain ⟨z, its, n, r, hl, e⟩:=I.lstM hH
  refine call_meets F.slot_list_append ⟨_, e, rfl⟩ F.entry_list_append (F.args_list_append_2 _ _) (PySem.list_append l its.toArray n u (by rw [List.size_toArray]; omega)) ⟨e, ?_⟩
  refine ⟨.non, _, I.lset (its':=its ++ [u]) hH e (by simp) (r.append (.cons ru .nil)) ?_, rfl, q⟩
  rw [List.length_append, List.length_singleton]
  omega
noncomputable def DB : V -> List V -> Hp -> VK -> Prop:=fun x vs H Q=>∃ l b xs zs, x = .ref l /\ vs = [.ref b] /\ H l = some (.lst xs) /\ H b = some (.lst zs) /\ xs.length + zs.length <= sizeLine /\ Q .non (upd H l (.lst (xs ++ zs)))
theorem Va : MtM X "list.extend" DB:=by
  intro pins s σ H x vs v us Q I rx rv h
  obtain ⟨l, b, xs, zs, rfl, rfl, hH, hB, hz, q⟩:=h
  cases rx
  obtain ⟨u, rfl, ru⟩:=rv.one
  cases ru
  obtain ⟨z, its, n, r, hl, e⟩:=I.lstM hH
  obtain ⟨z2, its2, n2, r2, hl2, e2⟩:=I.lstM hB
  have hsz : its.toArray.size + its2.toArray.size <= sizeLine:=by rw [List.size_toArray, List.size_toArray]; omega
  have hlong : ¬ (!its.toArray.isEmpty && Builtin.List.listTooLong (its.toArray.size + its2.toArray.size)) = true:=by
    rw [Gb hsz, Bool.and_false]
    exact Bool.false_ne_true
  refine call_meets F.slot_list_extend ⟨_, e, rfl⟩ F.entry_list_extend (F.args_list_extend_2 _ _)
    (AutoSeq1.list_extend_list_list_0 l its.toArray n b its2.toArray n2 hlong (by rw [List.size_toArray]; omega) (by omega)) ⟨e, e2, ?_⟩
  refine ⟨.non, _, I.lset (its':=its ++ its2) hH e (by simp) (r.append r2) ?_, rfl, q⟩
  rw [List.length_append]
  omega
noncomputable def LO : V -> List V -> Hp -> VK -> Prop:=fun x vs H Q=>∃ l xs y, x = .ref l /\ vs = [] /\ H l = some (.lst xs) /\ xs[xs.length - 1]? = some y /\ Q y (upd H l (.lst xs.dropLast))
theorem HI : MtM X "list.pop" LO:=by
  intro pins s σ H x vs v us Q I rx rv h
  obtain ⟨l, xs, y, rfl, rfl, hH, hy, q⟩:=h
  cases rx
  have hus:=rv.zero
  subst hus
  obtain ⟨z, its, n, r, hl, e⟩:=I.lstM hH
  obtain ⟨u, hu, ru⟩:=r.get hy
  have hy' : its.toArray[its.toArray.size - 1]? = some u:=by
    show its.toArray[its.length - 1]? = some u
    rw [← Array.getElem?_toList, ← hl]
    exact hu
  refine call_meets F.slot_list_pop ⟨_, e, rfl⟩ F.entry_list_pop (F.args_list_pop_1 _) (MeetsSeq.list_pop_last l its.toArray n u hy' (by rw [List.size_toArray]; omega)) ⟨e, ?_⟩
  refine ⟨y, _, I.lset (its':=its.dropLast) hH e ?_ r.dropLast ?_, ru, q⟩
  . show its.toArray.eraseIdxIfInBounds (its.toArray.size - 1) = its.dropLast.toArray
    rw [List.size_toArray, List.eraseIdxIfInBounds_toArray, GF]
  . rw [List.length_dropLast]
    omega
noncomputable def DR : V -> List V -> Hp -> VK -> Prop:=fun x vs H Q=>∃ l xs i k y, x = .ref l /\ vs = [.int i] /\ H l = some (.lst xs) /\ -(2 ^ 63) <= i /\ i < 2 ^ 63 /\ seqIndex? i xs.length = some k /\ xs[k]? = some y /\ Q y (upd H l (.lst (xs.eraseIdx k)))
theorem Bi : MtM X "list.pop" DR:=by
  intro pins s σ H x vs v us Q I rx rv h
  obtain ⟨l, xs, i, k, y, rfl, rfl, hH, h1, h2, hk, hy, q⟩:=h
  cases rx
  obtain ⟨u, rfl, ru⟩:=rv.one
  obtain ⟨t, rfl⟩:=ru
  obtain ⟨z, its, n, r, hl, e⟩:=I.lstM hH
  obtain ⟨w, hw, rw'⟩:=r.get hy
  refine call_meets F.slot_list_pop ⟨_, e, rfl⟩ F.entry_list_pop (F.args_list_pop_2 _ _)
    (MeetsSeq.list_pop_at l its.toArray n i t k w (fitsIndex_both h1 h2) (by rw [List.size_toArray, ← hl]; exact hk) (by rw [← Array.getElem?_toList]; exact hw) (by rw [List.size_toArray]; omega)) ⟨e, ?_⟩
  refine ⟨y, _, I.lset (its':=its.eraseIdx k) hH e ?_ (r.eraseIdx k) ?_, rw', q⟩
  . show its.toArray.eraseIdxIfInBounds k = (its.eraseIdx k).toArray
    rw [List.eraseIdxIfInBounds_toArray]
  . have := UT xs k
    omega
noncomputable def LL : R2:=fun x y H Q=>∃ l b xs zs, x = .ref l /\ y = .ref b /\ H l = some (.lst xs) /\ H b = some (.lst zs) /\ xs.length + zs.length <= sizeLine /\ ∀ p, H p = none -> Q (.ref p) (upd H p (.lst (xs ++ zs)))
theorem Gf : OpR X (binaryOp .Add) LL:=by
  intro pins s σ H x y v u Q I rx ry h
  obtain ⟨l, b, xs, zs, rfl, rfl, hH, hB, hz, q⟩:=h
  cases rx
  cases ry
  obtain ⟨z, its, n, r, hl, e⟩:=I.lstM hH
  obtain ⟨z2, its2, n2, r2, hl2, e2⟩:=I.lstM hB
  refine PySem.P.add_list e e2 ?_ (by rw [List.size_toArray, List.size_toArray]; omega)
  have ea : its.toArray ++ its2.toArray = (its ++ its2).toArray:=by simp
  rw [ea]
  exact ⟨.ref _, _, I.lnew (t':=s.toks) (r.append r2) (by rw [List.length_append]; omega), rfl, q _ I.fresh⟩
noncomputable def LV : R2:=fun x y H Q=>∃ l k xs, x = .ref l /\ y = .int k /\ H l = some (.lst xs) /\ -(2 ^ 63) <= k /\ k < 2 ^ 63 /\ xs.length * k.toNat <= sizeLine /\
  ∀ p, H p = none -> Q (.ref p) (upd H p (.lst (List.replicate k.toNat xs).flatten))
theorem EU {α : Type} (xs : List α) (k : Nat) : (List.replicate k xs).flatten.length = k * xs.length:=by
  induction k with
  | zero=>simp
  | succ k ih=>rw [List.replicate_succ, List.flatten_cons, List.length_append, ih, Nat.succ_mul, Nat.add_comm]
theorem IG : OpR X (binaryOp .Mult) LV:=by
  intro pins s σ H x y v u Q I rx ry h
  obtain ⟨l, k, xs, rfl, rfl, hH, h1, h2, hz, q⟩:=h
  cases rx
  obtain ⟨t, rfl⟩:=ry
  obtain ⟨z, its, n, r, hl, e⟩:=I.lstM hH
  have hlen : its.toArray.size * k.toNat <= sizeLine:=by rw [List.size_toArray, ← hl]; exact hz
  have hcap : ¬ its.toArray.size * k.toNat > (2 ^ 63 - 1) / 8:=by
    have : (sizeLine : Nat) <= (2 ^ 63 - 1) / 8:=by decide
    omega
  have hfit : ¬ (!Builtin.List.listFitsIndex k) = true:=by
    rw [fitsIndex_both h1 h2]
    exact Bool.false_ne_true
  have hlong : ¬ Builtin.List.listTooLong (its.toArray.size * k.toNat) = true:=by
    rw [Gb hlen]
    exact Bool.false_ne_true
  have hnew : List.foldl (fun x1 x2=>x1 ++ x2) #[] (List.replicate (if its.toArray.isEmpty = true then 0 else k.toNat) its.toArray) = (List.replicate k.toNat its).flatten.toArray:=by
    have f0 : ∀ m : Nat, List.foldl (fun x1 x2=>x1 ++ x2) #[] (List.replicate m its.toArray) = (List.replicate m its).flatten.toArray:=fun m=>by
      have:=U2 its m []
      rw [List.nil_append] at this
      exact this
    rw [f0]
    cases its with
    | nil=>simp
    | cons a r'=>rw [if_neg (by simp)]
  refine wpAny_binaryOp_repeat_ref (T:="list") (U:="int") (by decide) ⟨_, e, rfl⟩ (fun s'=>typeIs_int s' k t) noFill_list_mul F.fills_int_mul F.slot_int_rmul repeat_list F.slot_int_index.lookup
    (call_meets F.slot_int_rmul (typeIs_int s k t) F.entry_int_rmul (F.args_int_rmul_2 _ _) (int___rmul___int_list k t l its.toArray n)
      ⟨e, rfl, ⟨_, e, rfl⟩, call_meets F.slot_list_mul ⟨_, e, rfl⟩ F.entry_list_mul (F.args_list_mul_2 _ _) (AutoListH.list___mul___list_int_3 l its.toArray n k t hfit hcap hlong) ⟨e, ?_⟩⟩)
  rw [hnew]
  exact ⟨.ref _, _, I.lnew (t':=s.toks) (r.rep k.toNat) (by rw [EU, Nat.mul_comm]; exact hz), rfl, q _ I.fresh⟩
end
section
variable {prog : Program} {w : World} {A : Around} {E : Value -> Shared -> Prop} {s : Shared}
end
section
variable {X : Cx}
end
end L2
namespace Att
open PySem PySem.W PySem.Calls PyProof.Rows
theorem JX {P : Params} {h : Heap} : ∀ (ns : List Int) (vs : List Value), WellAll P h vs (ns.map WData.int) -> IntsAre vs ns:=by
  intro ns
  induction ns with
  | nil=>
    intro vs w
    rw [List.map_nil] at w
    cases w
    exact .nil
  | cons n ns ih=>
    intro vs w
    rw [List.map_cons] at w
    cases w with
    | cons a b=>
      cases a
      exact .cons _ _ (ih _ b)
theorem Fe {l : OpenLaw} {n : Nat} (hn : l.most = some n) {P : Params} {h : Heap} {args : List WData} {vals : List Value}
    (hpre : l.row.toRowW.claim.pre args = true) (hwl : WellAll P h vals args) :
    ∃ a vs ns, vals = [Value.ref a] /\ args = [WData.list (ns.map WData.int)] /\ h.get? a = some { cls:=.type "list", data:=.seq vs.toArray } /\ IntsAre vs ns /\ ns.length <= n:=by
  have hsh : WShape.hasAll [] args [.list .int] = true:=(pre_splitW hpre).1
  have hc : l.pre.holds [] { args:=args } = true:=(pre_splitW hpre).2
  obtain ⟨d, r, rfl, h1, h2⟩:=hasAllW_cons hsh
  obtain rfl:=hasAllW_nil h2
  obtain ⟨xs, rfl, h3⟩:=hasW_list h1
  obtain ⟨ns, rfl⟩:=items_int h3
  have hlen : ns.length <= n:=by
    unfold OpenLaw.pre at hc
    have h4 : (WTm.not (.lt (.lit (.int (n : Int))) (.len (.arg 0)))).holds [] { args:=[.list (ns.map .int)] } = true:=by
      have h4:=(holds_andW hc).1
      rw [hn] at h4
      exact h4
    have h5:=condW_of h4 (w_not (w_lt w_lit (w_len_list (w_arg rfl))))
    rw [List.length_map] at h5
    refine Nat.le_of_not_lt fun q=>?_
    have q' : (n : Int) < ((ns.length : Nat) : Int):=by omega
    first
      | (rw [decide_eq_true q'] at h5; exact absurd h5 (by decide))
      | (simp at h5; omega)
  cases hwl with
  | cons w1 w2=>
    cases w2
    cases w1 with
    | list ho hall=>exact ⟨_, _, ns, rfl, rfl, ho, JX ns _ hall, hlen⟩
theorem FI (l : OpenLaw) (args : List WData) : l.row.toRowW.claim.post args (.bool true) args = true:=
  postW_of (r:=l.row.toRowW) (X:=(true == true))
    (show WShape.has [] (.bool true) .bool = true by first | rfl | decide | simp [WShape.has, WShape.arms, WShape.armsAll])
    (show (WTm.eq .res (.lit (.bool true))).value [] { args:=args, res:=some (.bool true), after:=args } = some (.bool (true == true)) from w_eq_bool (w_res rfl) w_lit) rfl
theorem attach_call {l : OpenLaw} {n : Nat} {q : Program} {loose : List Str} {XP : (Str -> Option Value) -> Heap -> Prop} {YP : World -> Heap -> Prop} {d : DefRec}
    (hn : l.most = some n) (hdf : d.params.defaults = [])
    (call : ∀ (w : World) (s₀ s₁ : Shared) (mg mb : Str -> Option Value) (fa : Addr) (o : Obj) (pm cd doc : Value) (a : Addr) (vs : List Value) (ns : List Int),
      Ground q loose [] XP w s₀ mg mb s₁.heap -> YP w s₁.heap ->
      s₁.heap.get? fa = some o -> o.data = .func (docDef d.name d.params d.body d.scope pm cd doc) -> s₁.heap.CodeRec cd d.name -> mg d.name = some (.ref fa) ->
      s₁.heap.get? a = some { cls:=.type "list", data:=.seq vs.toArray } -> IntsAre vs ns -> ns.length <= n -> s₁.gens = #[] ->
      codeAny (model l.prog w) callerA (.call (.ref fa) ⟨[.ref a], []⟩) (fun r s'=>r = .ok (.ret (.bool true)) /\ OldK s₁.heap s'.heap /\ s'.os = s₁.os /\ AllBare s'.gens) s₁) :
    WalkO q loose XP YP l.row.toRowW d [] (fun f vs=>PySem.call f vs):=by
  intro w s₀ s₁ mg mb G Y fa o pm cd doc dV kV ho hd hcd hD hmg hg args vals as hpre hlay hrd hwl hlo
  obtain rfl : dV = .none:=Dflts.none hD hdf
  obtain rfl : kV = .none:=Dflts.noKw hD
  obtain ⟨a, vs, ns, rfl, rfl, hobj, hints, hlen⟩:=Fe hn hpre hwl
  refine enter_call (codeAny_mono (call w s₀ s₁ mg mb fa o pm cd doc a vs ns G Y ho (fd_plain hd) hcd hmg hobj hints hlen hg) fun r s' hq=>?_)
  obtain ⟨rfl, h2, h3, h4⟩:=hq
  exact ⟨.inl ⟨.bool true, .bool true, [], rfl, fun _=>rfl, .bool true, FI l _, fun _=>⟨List.Pairwise.nil, fun _ hm=>(nomatch hm)⟩⟩, h2, h3, h4⟩
section
variable {prog : Program} {w : World} {A : Around} {E : Value -> Shared -> Prop} {s : Shared} {K : Frag}
noncomputable def LN (h : Heap) (L d : Addr) : List (Addr × Obj):=(List.range h.objs.size).filterMap fun a=>if a = L ∨ a = d then none else (h.get? a).map fun o=>(a, o)
end
end Att
namespace L2
open PySem PySem.Spec PyProof.Rows
theorem J7 : ∀ {vs : List Value} {ns : List Int}, IntsAre vs ns -> X3 (ns.map V.int) vs
  | _, _, .nil=>.nil
  | _, _, .cons n t h=>.cons ⟨t, rfl⟩ (J7 h)
noncomputable def Lq (H : Hp) : Prop:=∀ b, H b = none ∨ ∃ o xs, H b = some (.frz o (.lst xs))
theorem CG {P : Program} {w : World} {K : PySem.W.Frag} {mg mb : Str -> Option Value} {CX : CXT} {k : Nat} {fa a : Addr} {fd : FuncData} {x : Str} {sp : Sp} {s₁ : Shared} {vs : List Value} {ns : List Int}
    (KX : K.In s₁.heap) (hns : s₁.heap.Ns mainGlobals mg) (hb : s₁.heap.Ns builtinsNs mb) (hbb : ∀ x : Str, x ≠ "__name__" -> mb x = bootBuiltins x) (hlim : s₁.heap.NoLimit) (hg : s₁.gens = #[])
    (ha : s₁.heap.get? a = some { cls:=.type "list", data:=.seq vs.toArray }) (hi : IntsAre vs ns) (hl : ns.length <= sizeLine) (hr : Room k callerA)
    (F : ∀ base : Heap, K.In base -> base.Ns mainGlobals mg -> FnOk P w K mg base CX k fa fd [x] sp) (hbind : ∀ (s : Shared) (u : Value), BindsTo s fd ⟨[u], []⟩ [(x, u)])
    (hsp : ∀ H : Hp, Lq H -> SqL K H a (ns.map V.int) -> sp [.ref a] H (fun v _=>v = .bl true) fun _ _ _=>False)
    (hCX : ∀ H e s', CX [] H s₁ (fun _ _ _=>False) e s' -> False) :
    codeAny (model P w) callerA (.call (.ref fa) ⟨[.ref a], []⟩) (fun r s'=>r = .ok (.ret (.bool true)) /\ OldK s₁.heap s'.heap /\ s'.os = s₁.os /\ AllBare s'.gens) s₁:=by
  have rv:=J7 hi
  have lenV:=hi.length
  -- from an abstract heap in which nothing but the script may be tracked
  have core : ∀ H : Hp, Lq H -> SqL K H a (ns.map V.int) -> HOk P w H s₁.heap -> (∀ b, H b ≠ none -> b = a) -> (H a ≠ none -> K.lookup a = none) ->
      codeAny (model P w) callerA (.call (.ref fa) ⟨[.ref a], []⟩) (fun r s'=>r = .ok (.ret (.bool true)) /\ OldK s₁.heap s'.heap /\ s'.os = s₁.os /\ AllBare s'.gens) s₁:=by
    intro H hO hS hok hA hK
    have base_of : ∀ {b : Addr} {o : Obj}, s₁.heap.get? b = some o -> H b = none -> (Ci s₁.heap H).get? b = some o:=fun e n=>GB e n
    have noA : ∀ {b : Addr} {o : Obj} {es : Array DictEntry} {ep : Nat}, s₁.heap.get? b = some o -> o.data = .dict es ep -> H b = none:=fun {b o es ep} e d=>by
      cases q : H b with
      | none=>rfl
      | some u=>
        have e' : b = a:=hA b (by rw [q]; simp)
        subst e'
        rw [ha] at e; cases e
        have d' : Data.seq vs.toArray _ = Data.dict es ep:=d
        cases d'
    have nsK : ∀ {b : Addr} {m : Str -> Option Value}, s₁.heap.Ns b m -> (Ci s₁.heap H).Ns b m:=fun {b m} ⟨o, es, ep, e, d, r⟩=>⟨o, es, ep, base_of e (noA e d), d, r⟩
    have hKb : K.In (Ci s₁.heap H):=fun b o e=>base_of (KX b o e) (by
      cases q : H b with
      | none=>rfl
      | some u=>
        have e' : b = a:=hA b (by rw [q]; simp)
        subst e'
        rw [hK (by rw [q]; simp)] at e; cases e)
    have hM : Mod K mg (Ci s₁.heap H):=⟨hKb, nsK hns, ⟨mb, nsK hb, hbb⟩, let ⟨mc, h1, h2⟩:=hlim; ⟨mc, nsK h1, h2⟩⟩
    have e0 : Env0 P w K mg (Ci s₁.heap H) callerA [] s₁ H:=⟨rfl, hM, fun b o e=>Eo e, Nat.le_of_eq (FN _ _), trivial, fun b hb=>absurd (show b ∈ ([] : List Addr) from hb) (by simp), hok, .of_eq hg⟩
    refine codeAny_mono ((F _ hKb (nsK hns)).run callerA [] s₁ H ⟨[.ref a], []⟩ [.ref a] [.ref a] _ _ hr e0 (hbind s₁ (.ref a)) (.cons rfl .nil) (hsp H hO hS)) fun r s' h=>?_
    cases r with
    | error e=>exact (hCX H e s' h).elim
    | ok fl=>
      cases fl with
      | next=>exact False.elim h
      | brk=>exact False.elim h
      | cont=>exact False.elim h
      | ret u=>
        obtain ⟨v, H', os, bare, un, hok', r', q⟩:=h
        have q' : v = .bl true:=q
        subst q'
        obtain rfl : u = Value.bool true:=r'
        refine ⟨rfl, OldK.of_keep fun b o e=>?_, os, bare⟩
        cases q : H b with
        | none=>exact un.keep b o e q (by intro z; exact absurd (show b ∈ ([] : List Addr) from z) (by simp)) (by simp)
        | some u=>
          rcases hO b with z | ⟨ob, xs, z⟩
          . rw [q] at z; cases z
          . have z2 := un.frzs b ob _ z
            obtain ⟨e1, _⟩:=hok b _ z
            obtain ⟨e2, _⟩:=hok' b _ z2
            rw [e] at e1; cases e1
            exact e2
  cases hk : K.lookup a with
  | some o=>
    -- the script is one of the module's own objects
    have e:=KX a o hk
    rw [ha] at e
    cases e
    refine core (fun _=>none) (fun _=>.inl rfl) (.inr ⟨_, vs.toArray, _, hk, rfl, rfl, rfl, by rw [List.size_toArray, lenV]; exact hl, by simpa using rv⟩) (fun b u z=>by have z' : (none : Option HO) = some u:=z; cases z') (fun b z=>absurd rfl z) fun z=>absurd rfl z
  | none=>
    refine core (fun b=>if b = a then some (.frz { cls:=.type "list", data:=.seq vs.toArray } (.lst (ns.map V.int))) else none) (fun b=>?_) (.inl (.inr ⟨{ cls:=.type "list", data:=.seq vs.toArray }, if_pos rfl⟩)) (fun b u z=>?_) (fun b z=>?_) fun _=>hk
    . by_cases hb : b = a
      . exact .inr ⟨_, _, if_pos hb⟩
      . exact .inl (if_neg hb)
    . by_cases hb : b = a
      . have z' := (if_pos hb).symm.trans z
        cases z'
        subst hb
        exact ⟨ha, by rw [List.length_map]; exact hl, vs, _, rv, ha⟩
      . have z' := (if_neg hb).symm.trans z
        cases z'
    . by_cases hb : b = a
      . exact hb
      . exact absurd (if_neg hb) z
end L2
namespace L2
open PySem PySem.Spec PyProof.Rows
theorem BT {l : PySem.W.OpenLaw} {n k : Nat} {q : Program} {loose : List Str} {XP : (Str -> Option Value) -> Heap -> Prop} {YP : World -> Heap -> Prop} {d : DefRec} {K : Params -> PySem.W.Frag} {CX : World -> CXT} {sp : World -> Sp} {x : Str}
    (hn : l.most = some n) (hn2 : n <= sizeLine) (hdf : d.params.defaults = []) (hr : Room k callerA)
    (hY : ∀ (w : World) (h : Heap), YP w h -> (K w.params).In h)
    (F : ∀ (w : World) (mg : Str -> Option Value) (fa : Addr) (h : Heap), (K w.params).In h -> h.Ns mainGlobals mg -> mg d.name = some (.ref fa) ->
      ∃ fd : FuncData, (∀ (s : Shared) (u : Value), BindsTo s fd ⟨[u], []⟩ [(x, u)]) /\
        ∀ base : Heap, (K w.params).In base -> base.Ns mainGlobals mg -> FnOk l.prog w (K w.params) mg base (CX w) k fa fd [x] (sp w))
    (hsp : ∀ (w : World) (H : Hp) (a : Addr) (ns : List Int), ns.length <= n -> Lq H -> SqL (K w.params) H a (ns.map V.int) -> sp w [.ref a] H (fun v _=>v = .bl true) fun _ _ _=>False)
    (hCX : ∀ (w : World) (H : Hp) (s : Shared) (e : Value) (s' : Shared), CX w [] H s (fun _ _ _=>False) e s' -> False) :
    PySem.W.WalkO q loose XP YP l.row.toRowW d [] (fun f vs=>PySem.call f vs):=by
  refine Att.attach_call hn hdf fun w s₀ s₁ mg mb fa o pm cd doc a vs ns G Y ho hd hcd hmg hobj hints hlen hg=>?_
  have KX:=hY w _ Y
  obtain ⟨fd, hb, hF⟩:=F w mg fa _ KX G.T.g hmg
  exact CG KX G.T.g G.T.b G.T.builtins G.T.nolimit hg hobj hints (Nat.le_trans hlen hn2) hr hF hb (fun H hO hS=>hsp w H a ns hlen hO hS) fun H e s'=>hCX w H s₁ e s'
end L2
namespace L2
open PySem PySem.Spec PyProof.Rows
noncomputable def YM (s : Stmt) : Arguments:=match s with
  | .FunctionDef _ a _ _ _ _ _ _ _ _=>a
  | _=>{ posonlyargs:=[], args:=[], vararg:=none, kwonlyargs:=[], kw_defaults:=[], kwarg:=none, defaults:=[] }
noncomputable def Yx (s : Stmt) : List Stmt:=match s with
  | .FunctionDef _ _ b _ _ _ _ _ _ _=>b
  | _=>[]
noncomputable def Xh (s : Stmt) : Scope:=match s with
  | .FunctionDef _ _ _ _ _ _ sc _ _ _=>sc
  | _=>{ kind:=.function, names:=[], isGenerator:=false, isCoroutine:=false }
noncomputable abbrev CX0 : CXT:=fun _ _ _ _ _ _=>False
noncomputable abbrev E0 : XK:=fun _ _ _=>False
theorem Lu {X : Cx} : Dv CX0 X E0:=fun _ _ _ _ _ _ _ h=>h.elim
structure Fun (K : PySem.W.Frag) (x qual : Str) (st : Stmt) (f : Addr) (fd : FuncData) : Prop where
  ex : ∃ (oc : Value) (od : Option Addr) (kV doc pm : Value) (an : Option Addr) (cdv ct : Value) (osl : Array (Option Value)),
    fd = PySem.W.fnOf x qual (YM st) (Yx st) (Xh st) .none kV doc pm an cdv ct /\ K.lookup f = some ⟨oc, od, .func fd, osl⟩ /\ PySem.W.codeIn K cdv qual = true
  kp : PySem.W.keepIn K (.ref f) = true
section
variable {P : Program} {w : World} {K : PySem.W.Frag} {mg : Str -> Option Value} {base : Heap}
theorem Fun.ok {x qual : Str} {st : Stmt} {f : Addr} {fd : FuncData} {N ps : List Str} {k : Nat} {sp : Sp} (F : Fun K x qual st f fd) (S : FnScope N ps (Xh st)) (len : ∀ vs H Q E, sp vs H Q E -> vs.length = ps.length)
    (hbody : ∀ (cdv : Value) (A : Around) (outer : List Env) (s : Shared) (H : Hp) (vs : List V) (Q : VK) (E : XK), Room k (A.deeper (envOfC qual (Xh st) s.heap.objs.size f cdv)) -> sp vs H Q E ->
      ∃ t, PSs (Hb CX0 P w K mg base N qual (Xh st) f cdv A outer s H E).nox (Yx st) t /\ t { nx:=fun _ H'=>Q .non H', rt:=Q } (Um N vs) H) : FnOk P w K mg base CX0 (k + 1) f fd ps sp:=by
  obtain ⟨oc, od, kV, doc, pm, an, cdv, ct, osl, rfl, lk, hcd⟩:=F.ex
  refine Lf lk hcd S len fun A outer s H vs Q E hr hsp=>?_
  obtain ⟨t, h, q⟩:=hbody cdv A outer s H vs Q E hr hsp
  exact ⟨t, h.nox, q⟩
theorem Fun.binds {x qual : Str} {st : Stmt} {f : Addr} {fd : FuncData} {ps : List Str} (F : Fun K x qual st f fd)
    (h : ∀ (kV doc pm : Value) (an : Option Addr) (cdv ct : Value) (us : List Value), us.length = ps.length -> bindArgs (PySem.W.fnOf x qual (YM st) (Yx st) (Xh st) .none kV doc pm an cdv ct) ⟨us, []⟩ = pure (ps.zip us)) : KO K fd ps []:=by
  obtain ⟨oc, od, kV, doc, pm, an, cdv, ct, osl, rfl, lk, hcd⟩:=F.ex
  exact .all (h kV doc pm an cdv ct)
theorem Q0 {x qual : Str} {st : Stmt} {f : Addr} {oc : Value} {od an : Option Addr} {osl : Array (Option Value)} {kV doc pm cdv ct : Value} (l : K.lookup f = some ⟨oc, od, .func (PySem.W.fnOf x qual (YM st) (Yx st) (Xh st) .none kV doc pm an cdv ct), osl⟩)
    (c : PySem.W.codeIn K cdv qual = true) (k : PySem.W.keepIn K (.ref f) = true) : Fun K x qual st f (PySem.W.fnOf x qual (YM st) (Yx st) (Xh st) .none kV doc pm an cdv ct):=⟨⟨oc, od, kV, doc, pm, an, cdv, ct, osl, rfl, l, c⟩, k⟩
end
theorem Yi {A : Around} {k : Nat} (hr : Room k A) : A.units + 1 < cLine:=Nat.lt_of_le_of_lt (Nat.add_le_add_left (by decide : 1 <= 64) _) hr.units
theorem FE {n : Nat} (h : n <= 1000) : n < sizeLine:=Nat.lt_of_le_of_lt h (by decide)
section
variable {X : Cx}
theorem pv (i : Nat) {x : Str} {pos : Pos} (hN : X.N[i]? = some x:=by rfl) (hv : Vis X.env.scope x:=by first | exact Or.inl rfl | exact Or.inr (Or.inl rfl) | exact Or.inr (Or.inr rfl)) (hd : (x == ("__debug__" : Str)) = false:=by decide)
    (hcd : (x == ("__classdict__" : Str)) = false:=by decide) : PE X (.Name x pos) (JR i):=Ij hN hv hd hcd
end
noncomputable def Xr (H H' : Hp) : Prop:=∀ b o, H b = some o -> H' b = some o
theorem Xr.refl (H : Hp) : Xr H H:=fun _ _ h=>h
theorem Xr.trans {H H1 H2 : Hp} (a : Xr H H1) (b : Xr H1 H2) : Xr H H2:=fun c o h=>b c o (a c o h)
theorem Xr.free {H H' : Hp} (e : Xr H H') {l : Addr} (h : H' l = Option.none) : H l = Option.none:=by
  cases q : H l with
  | none=>rfl
  | some o=>
    rw [e l o q] at h
    cases h
theorem Xr.seq {K : PySem.W.Frag} {H H' : Hp} {a : Addr} {xs : List V} (e : Xr H H') (h : SqL K H a xs) : SqL K H' a xs:=by
  rcases h with (h | ⟨o, h⟩) | h
  . exact .inl (.inl (e _ _ h))
  . exact .inl (.inr ⟨o, e _ _ h⟩)
  . exact .inr h
end L2
namespace L2
open PySem PySem.Spec PyProof.Rows
section
variable {κ : Type} [DecidableEq κ]
noncomputable def G8 (kvs : List (κ × V)) (k : κ) : Option V:=(kvs.find? fun kv=>decide (kv.1 = k)).map (·.2)
noncomputable def Bd (kvs : List (κ × V)) (k : κ) (v : V) : List (κ × V):=
  if (kvs.any fun kv=>decide (kv.1 = k)) = true then kvs.map (fun kv=>if kv.1 = k then (kv.1, v) else kv) else kvs ++ [(k, v)]
noncomputable def Hs (kvs : List (κ × V)) (k : κ) : List (κ × V):=kvs.filter fun kv=>decide (kv.1 ≠ k)
theorem Ux {p : κ × V} {r : List (κ × V)} {k : κ} (e : p.1 = k) : G8 (p :: r) k = some p.2:=by simp [G8, List.find?_cons, e]
theorem Ud {p : κ × V} {r : List (κ × V)} {k : κ} (e : ¬ p.1 = k) : G8 (p :: r) k = G8 r k:=by simp [G8, List.find?_cons, e]
theorem Gx (k : κ) : ∀ kvs : List (κ × V), (kvs.any fun kv=>decide (kv.1 = k)) = (G8 kvs k).isSome
  | []=>rfl
  | p :: r=>by
    rw [List.any_cons]
    by_cases e : p.1 = k
    . simp only [Ux e, decide_eq_true e, Bool.true_or, Option.isSome_some]
    . rw [Ud e, decide_eq_false e, Bool.false_or]; exact Gx k r
theorem Bc.isSome_eq {o : Option V} {u : Option Value} (r : Bc o u) : o.isSome = u.isSome:=by
  cases o with
  | none=>cases u with
    | none=>rfl
    | some _=>exact (show False from r).elim
  | some _=>cases u with
    | none=>exact (show False from r).elim
    | some _=>rfl
theorem Bc.getD {o : Option V} {u : Option Value} {d : V} {d' : Value} (r : Bc o u) (rd : X7 d d') : X7 (o.getD d) (u.getD d'):=by
  cases o with
  | none=>cases u with
    | none=>exact rd
    | some _=>exact (show False from r).elim
  | some _=>cases u with
    | none=>exact (show False from r).elim
    | some _=>exact r
theorem KV.val {kvs : List (κ × V)} {vs : List (κ × Value)} (r : KV kvs vs) (k : κ) : Bc (G8 kvs k) (valueAt vs k):=by
  unfold KV at r
  induction r with
  | nil=>exact True.intro
  | @cons p q ps qs h t ih=>
    obtain ⟨h1, h2⟩:=h
    by_cases e : p.1 = k
    . have e' : q.1 = k := h1.symm.trans e
      have b : valueAt (q :: qs) k = some q.2:=by simp [valueAt, List.find?_cons, e']
      rw [Ux e, b]; exact h2
    . have e' : ¬ q.1 = k := fun z => e (h1.trans z)
      have b : valueAt (q :: qs) k = valueAt qs k:=by simp [valueAt, List.find?_cons, e']
      rw [Ud e, b]; exact ih
theorem KV.any {kvs : List (κ × V)} {vs : List (κ × Value)} (r : KV kvs vs) (k : κ) : (kvs.any fun kv=>decide (kv.1 = k)) = vs.any fun kv=>decide (kv.1 = k):=by
  unfold KV at r
  induction r with
  | nil=>rfl
  | cons h t ih=>rw [List.any_cons, List.any_cons, ih, h.1]
theorem KV.repl {kvs : List (κ × V)} {vs : List (κ × Value)} (r : KV kvs vs) (k : κ) {y : V} {u : Value} (ry : X7 y u) :
    KV (kvs.map fun kv=>if kv.1 = k then (kv.1, y) else kv) (vs.map fun kv=>if kv.1 = k then (kv.1, u) else kv):=by
  unfold KV at r ⊢
  induction r with
  | nil=>exact .nil
  | @cons p q ps qs h t ih=>
    rw [List.map_cons, List.map_cons]
    refine .cons ?_ ih
    obtain ⟨h1, h2⟩:=h
    by_cases e : p.1 = k
    . rw [if_pos e, if_pos (h1.symm.trans e)]; exact ⟨h1, ry⟩
    . rw [if_neg e, if_neg (fun z=>e (h1.trans z))]; exact ⟨h1, h2⟩
theorem KV.put {kvs : List (κ × V)} {vs : List (κ × Value)} (r : KV kvs vs) (k : κ) {y : V} {u : Value} (ry : X7 y u) : KV (Bd kvs k y) (stored vs k u):=by
  unfold Bd stored
  rw [r.any k]
  by_cases e : (vs.any fun kv=>decide (kv.1 = k)) = true
  . rw [if_pos e, if_pos e]; exact r.repl k ry
  . rw [if_neg e, if_neg e]; exact Paired.snoc r ⟨rfl, ry⟩
theorem KV.drop {kvs : List (κ × V)} {vs : List (κ × Value)} (r : KV kvs vs) (k : κ) : KV (Hs kvs k) (without vs k):=by
  unfold KV at r ⊢
  unfold Hs without
  induction r with
  | nil=>exact .nil
  | @cons p q ps qs h t ih=>
    obtain ⟨h1, h2⟩:=h
    rw [List.filter_cons, List.filter_cons]
    by_cases e : p.1 = k
    . have a : ¬ decide (p.1 ≠ k) = true := by simp [e]
      have b : ¬ decide (q.1 ≠ k) = true:=by simp [h1.symm.trans e]
      rw [if_neg a, if_neg b]; exact ih
    . have e' : ¬ q.1 = k := fun z => e (h1.trans z)
      have a : decide (p.1 ≠ k) = true:=by simp [e]
      have b : decide (q.1 ≠ k) = true:=by simp [e']
      rw [if_pos a, if_pos b]; exact .cons ⟨h1, h2⟩ ih
theorem KV.keys {kvs : List (κ × V)} {vs : List (κ × Value)} (r : KV kvs vs) : kvs.map (·.1) = vs.map (·.1):=by
  unfold KV at r
  induction r with
  | nil=>rfl
  | cons h t ih=>rw [List.map_cons, List.map_cons, ih, h.1]
theorem KV.length {kvs : List (κ × V)} {vs : List (κ × Value)} (r : KV kvs vs) : kvs.length = vs.length:=Paired.length r
end
theorem Lj {P : Program} {w : World} {k : Key} {u : Value} (r : X7 (kV k) u) : (Zq P w).is k u = true:=by
  cases k with
  | inl i=>obtain ⟨t, e⟩:=(show ∃ t, u = Value.int i t from r); subst e; exact Kp P w i t
  | inr x=>obtain ⟨t, e⟩:=(show ∃ t, u = Value.str x t from r); subst e; exact Kq P w x t
theorem U0 {P : Program} {w : World} : ∀ {ks : List Key} {us : List Value}, X3 (ks.map kV) us -> ItemsAre (Zq P w) ks us
  | [], _, r=>by rw [List.map_nil] at r; cases r; exact .nil
  | k :: ks, _, r=>by
    rw [List.map_cons] at r
    cases r with
    | cons h t=>exact .cons (Lj h) (U0 t)
noncomputable abbrev KT (H : Hp) : List (List Key × V) -> List (List Key × Addr × Value) -> Prop:=Paired fun p q=>p.1 = q.1 /\ H q.2.1 = some (.tup (p.1.map kV)) /\ X7 p.2 q.2.2
theorem KT.val {H : Hp} {kvs : List (List Key × V)} {xs : List (List Key × Addr × Value)} (r : KT H kvs xs) (k : List Key) : Bc (G8 kvs k) ((atKey xs k).map (·.2)):=by
  induction r with
  | nil=>exact True.intro
  | @cons p q ps qs h t ih=>
    obtain ⟨h1, _, h2⟩:=h
    by_cases e : p.1 = k
    . have e' : q.1 = k := h1.symm.trans e
      have b : atKey (q :: qs) k = some q.2:=by simp [atKey, List.find?_cons, e']
      rw [Ux e, b]; exact h2
    . have e' : ¬ q.1 = k := fun z => e (h1.trans z)
      have b : atKey (q :: qs) k = atKey qs k:=by simp [atKey, List.find?_cons, e']
      rw [Ud e, b]; exact ih
theorem KT.repl {H : Hp} {kvs : List (List Key × V)} {xs : List (List Key × Addr × Value)} (r : KT H kvs xs) (k : List Key) {y : V} {u : Value} (ry : X7 y u) :
    KT H (kvs.map fun kv=>if kv.1 = k then (kv.1, y) else kv) (xs.map (putAt k u)):=by
  induction r with
  | nil=>exact .nil
  | @cons p q ps qs h t ih=>
    rw [List.map_cons, List.map_cons]
    refine .cons ?_ ih
    obtain ⟨h1, h2, h3⟩:=h
    unfold putAt
    by_cases e : p.1 = k
    . rw [if_pos e, if_pos (h1.symm.trans e)]; exact ⟨h1, h2, ry⟩
    . rw [if_neg e, if_neg (fun z=>e (h1.trans z))]; exact ⟨h1, h2, h3⟩
theorem KT.put {H : Hp} {kvs : List (List Key × V)} {xs : List (List Key × Addr × Value)} (r : KT H kvs xs) (k : List Key) {b : Addr} {y : V} {u : Value} (hb : H b = some (.tup (k.map kV))) (ry : X7 y u) :
    KT H (Bd kvs k y) (storedH xs k b u):=by
  have e : (kvs.any fun kv=>decide (kv.1 = k)) = (atKey xs k).isSome:=by
    rw [Gx, (r.val k).isSome_eq, Option.isSome_map]
  unfold Bd storedH
  rw [e]
  by_cases q : (atKey xs k).isSome = true
  . rw [if_pos q, if_pos q]; exact r.repl k ry
  . rw [if_neg q, if_neg q]; exact Paired.snoc r ⟨rfl, hb, ry⟩
theorem KT.keeps {H H' : Hp} {kvs : List (List Key × V)} {xs : List (List Key × Addr × Value)} (r : KT H kvs xs) (ht : ∀ b ys, H b = some (.tup ys) -> H' b = some (.tup ys)) : KT H' kvs xs:=
  Paired.mapP r fun _ _ z=>⟨z.1, ht _ _ z.2.1, z.2.2⟩
section
variable {P : Program} {w : World} {H : Hp} {h : Heap} {a : Addr}
theorem HY {ks : List Key} (ok : HOk P w H h) (e : H a = some (.tup (ks.map kV))) : (tupleKind (Zq P w)).is h ks a:=by
  obtain ⟨_, its, r, o, h1, h2, n, h3⟩:=(show Zb P w H h a (.tup (ks.map kV)) from ok a _ e)
  exact ⟨o, its.toArray, n, h1, h2, h3, by simpa using U0 r⟩
end
noncomputable def IV (H : Hp) (a : Addr) (y : V) (r : Option V) : Prop:=
  (∃ kvs k, Rd H a (.dK kvs) /\ y = kV k /\ r = G8 kvs k) ∨ ∃ kvs k b, Rd H a (.dT kvs) /\ y = .ref b /\ H b = some (.tup (k.map kV)) /\ r = G8 kvs k
noncomputable def IT (H : Hp) (a : Addr) (y v : V) (H' : Hp) : Prop:=
  (∃ kvs k, H a = some (.dK kvs) /\ y = kV k /\ kvs.length < sizeLine /\ H' = upd H a (.dK (Bd kvs k v))) ∨
  ∃ kvs k b, H a = some (.dT kvs) /\ y = .ref b /\ H b = some (.tup (k.map kV)) /\ kvs.length < sizeLine /\ H' = upd H a (.dT (Bd kvs k v))
theorem IV.k {H : Hp} {a : Addr} {kvs : List (Key × V)} {k : Key} (e : H a = some (.dK kvs)) : IV H a (kV k) (G8 kvs k):=.inl ⟨kvs, k, .inl e, rfl, rfl⟩
theorem IV.t {H : Hp} {a b : Addr} {kvs : List (List Key × V)} {k : List Key} (e : H a = some (.dT kvs)) (eb : H b = some (.tup (k.map kV))) : IV H a (.ref b) (G8 kvs k):=.inr ⟨kvs, k, b, .inl e, rfl, eb, rfl⟩
theorem IT.k {H : Hp} {a : Addr} {kvs : List (Key × V)} {k : Key} {v : V} (e : H a = some (.dK kvs)) (hl : kvs.length < sizeLine) : IT H a (kV k) v (upd H a (.dK (Bd kvs k v))):=.inl ⟨kvs, k, e, rfl, hl, rfl⟩
theorem IT.t {H : Hp} {a b : Addr} {kvs : List (List Key × V)} {k : List Key} {v : V} (e : H a = some (.dT kvs)) (eb : H b = some (.tup (k.map kV))) (hl : kvs.length < sizeLine) :
    IT H a (.ref b) v (upd H a (.dT (Bd kvs k v))):=.inr ⟨kvs, k, b, e, rfl, eb, hl, rfl⟩
section
variable {X : Cx} {pins : List (Addr × Obj)} {σ : St} {H : Hp} {s : Shared} {a : Addr} {y v : V} {u r : Value} {o : Option V} {A : Around} {E : Value -> Shared -> Prop}
end
section
variable {X : Cx} {pins : List (Addr × Obj)} {σ : St} {H : Hp} {s : Shared} {a : Addr} {kvs : List (Key × V)} {k : Key} {u : Value} {A : Around} {E : Value -> Shared -> Prop}
end
section
variable {X : Cx} {o i e value : Expr} {pos pos' tpos : Pos} {td ty tv : TE}
end
section
variable {X : Cx} {pos : Pos}
end
section
variable {X : Cx} {pins : List (Addr × Obj)} {σ : St} {H : Hp} {s : Shared} {a : Addr} {y d : V} {u r : Value} {o : Option V} {A : Around} {E : Value -> Shared -> Prop}
end
section
variable {X : Cx} {o e f : Expr} {apos cpos : Pos} {td ty tx : TE}
end
section
variable {X : Cx} {pins : List (Addr × Obj)} {σ : St} {H : Hp} {s : Shared} {a : Addr} {kvs : List (Key × V)} {A : Around} {E : Value -> Shared -> Prop}
end
section
variable {X : Cx} {pins : List (Addr × Obj)} {σ : St} {H : Hp} {s : Shared} {a : Addr} {y : V} {u : Value} {A : Around} {E : Value -> Shared -> Prop}
end
end L2
namespace L2
open PySem PySem.Spec PyProof.Rows
section
variable {X : Cx}
end
section
variable {κ : Type} [DecidableEq κ]
end
end L2
namespace L2
open PySem PySem.Spec PyProof.Rows
theorem Da {env : Env} : ∀ (names : List (Str × NameKind)), (∀ x ∈ names, x.2 = NameKind.free -> ∃ c, env.cells.lookup x.1 = some c) ->
    ∀ cs : List (Str × Addr), (∀ x c, cs.lookup x = some c -> env.cells.lookup x = some c) ->
    ∃ cl : List (Str × Addr), (forIn names cs (fun (x : Str × NameKind) (r : List (Str × Addr))=>(if (x.2 == NameKind.free) = true then do let a ← cellOf env x.1; pure (ForInStep.yield ((x.1, a) :: r)) else pure (ForInStep.yield r) : Sem (ForInStep (List (Str × Addr)))))) = (pure cl : Sem (List (Str × Addr))) /\
      (∀ x c, cl.lookup x = some c -> env.cells.lookup x = some c) /\ (∀ x, ((x, NameKind.free) ∈ names ∨ ∃ c, cs.lookup x = some c) -> ∃ c, cl.lookup x = some c)
  | [], _, cs, hs=>⟨cs, by rw [List.forIn_nil], hs, fun x h=>h.elim (fun z=>nomatch z) id⟩
  | (n, k) :: r, hf, cs, hs=>by
    have hr : ∀ x ∈ r, x.2 = NameKind.free -> ∃ c, env.cells.lookup x.1 = some c:=fun x hx=>hf x (List.mem_cons_of_mem _ hx)
    by_cases hk : k = NameKind.free
    . subst hk
      obtain ⟨a, ha⟩:=hf (n, NameKind.free) List.mem_cons_self rfl
      have hs' : ∀ x c, ((n, a) :: cs).lookup x = some c -> env.cells.lookup x = some c:=fun x c h=>by
        rw [List.lookup_cons] at h
        by_cases hx : x = n
        . subst hx
          simp only [beq_self_eq_true] at h
          rw [← h]; exact ha
        . have : (x == n) = false := beq_eq_false_iff_ne.mpr hx
          rw [this] at h
          exact hs x c h
      obtain ⟨cl, e, h1, h2⟩:=Da r hr ((n, a) :: cs) hs'
      refine ⟨cl, ?_, h1, fun x h=>h2 x ?_⟩
      . rw [List.forIn_cons]
        have e1 : cellOf env n = pure a:=by unfold cellOf; rw [show env.cells.lookup n = some a from ha]
        simp only [beq_self_eq_true, if_true, e1]
        exact e
      . rcases h with h | ⟨c, h⟩
        . rcases List.mem_cons.mp h with h | h
          . have : x = n := congrArg Prod.fst h
            subst this
            exact .inr ⟨a, by rw [List.lookup_cons]; simp⟩
          . exact .inl h
        . by_cases hx : x = n
          . subst hx; exact .inr ⟨a, by rw [List.lookup_cons]; simp⟩
          . exact .inr ⟨c, by rw [List.lookup_cons, beq_eq_false_iff_ne.mpr hx]; exact h⟩
    . obtain ⟨cl, e, h1, h2⟩ := Da r hr cs hs
      refine ⟨cl, ?_, h1, fun x h=>h2 x ?_⟩
      . rw [List.forIn_cons]
        have hb : (k == NameKind.free) = false:=by simpa using hk
        simp only [hb, Bool.false_eq_true, if_false]
        exact e
      . rcases h with h | h
        . rcases List.mem_cons.mp h with h | h
          . exact absurd (congrArg Prod.snd h).symm hk
          . exact .inl h
        . exact .inr h
theorem Kj {scope : Scope} {env : Env} (hf : ∀ x ∈ scope.names, x.2 = NameKind.free -> ∃ c, env.cells.lookup x.1 = some c) :
    ∃ cl : List (Str × Addr), closureFor scope env = pure cl /\ (∀ x c, cl.lookup x = some c -> env.cells.lookup x = some c) /\ (∀ x, (x, NameKind.free) ∈ scope.names -> ∃ c, cl.lookup x = some c):=by
  obtain ⟨cl, e, h1, h2⟩:=Da scope.names hf [] (fun x c h=>by simp at h)
  refine ⟨cl, ?_, h1, fun x h=>h2 x (.inl h)⟩
  unfold closureFor
  show ((forIn scope.names [] (fun (x : Str × NameKind) (r : List (Str × Addr))=>(if (x.2 == NameKind.free) = true then do let a ← cellOf env x.1; pure (ForInStep.yield ((x.1, a) :: r)) else pure (ForInStep.yield r) : Sem (ForInStep (List (Str × Addr)))))) >>= fun s=>pure s) = pure cl
  rw [e]
  rfl
theorem QR {env : Env} : ∀ {names : List (Str × NameKind)} {x : Str} {k : NameKind}, (∀ y ∈ names, y.2 ≠ NameKind.cell) ->
    (names.map fun (n, k)=>if (k == NameKind.free && env.scope.kind == .function && env.kindOf n == some .cell) then (n, NameKind.cell) else (n, k)).lookup x = some k -> (k = .cell ∨ k = .free) -> (x, NameKind.free) ∈ names
  | [], _, _, _, h, _=>by simp at h
  | (n, kk) :: r, x, k, hc, h, hk=>by
    have ih:=@QR env r x k (fun y hy=>hc y (List.mem_cons_of_mem _ hy))
    have hh:=hc (n, kk) List.mem_cons_self
    simp only [List.map_cons] at h
    by_cases hcond : (kk == NameKind.free && env.scope.kind == .function && env.kindOf n == some .cell) = true
    . rw [if_pos hcond, List.lookup_cons] at h
      have hfree : kk = NameKind.free:=by
        rw [Bool.and_eq_true, Bool.and_eq_true] at hcond
        simpa using hcond.1.1
      cases hx : x == n with
      | true=>
        have : x = n:=by simpa using hx
        subst this; subst hfree
        exact List.mem_cons_self
      | false=>rw [hx] at h; exact List.mem_cons_of_mem _ (ih h hk)
    . rw [if_neg hcond, List.lookup_cons] at h
      cases hx : x == n with
      | true=>
        rw [hx] at h
        have hkk : kk = k:=Option.some.inj h
        have : x = n:=by simpa using hx
        subst this; subst hkk
        rcases hk with z | z
        . exact absurd z hh
        . subst z; exact List.mem_cons_self
      | false=>rw [hx] at h; exact List.mem_cons_of_mem _ (ih h hk)
theorem Z9 {env : Env} : ∀ {names : List (Str × NameKind)} {x : Str}, names.lookup x = some .free ->
    let l:=(names.map fun (n, k)=>if (k == NameKind.free && env.scope.kind == .function && env.kindOf n == some .cell) then (n, NameKind.cell) else (n, k))
    l.lookup x = some .cell ∨ l.lookup x = some .free
  | [], _, h=>by simp at h
  | (n, kk) :: r, x, h=>by
    have ih:=@Z9 env r x
    simp only [List.map_cons]
    rw [List.lookup_cons] at h
    by_cases hcond : (kk == NameKind.free && env.scope.kind == .function && env.kindOf n == some .cell) = true
    . rw [if_pos hcond, List.lookup_cons]
      cases hx : x == n with
      | true=>exact .inl rfl
      | false=>rw [hx] at h; exact ih h
    . rw [if_neg hcond, List.lookup_cons]
      cases hx : x == n with
      | true=>rw [hx] at h; exact .inr h
      | false=>rw [hx] at h; exact ih h
noncomputable abbrev Cx.comp (X : Cx) (N : List Str) (scope : Scope) (cl : List (Str × Addr)) (C : Addr) (s : Shared) (H : Hp) (ex : List Addr) (E : Value -> Shared -> Prop) : Cx:=
  { X with N:=N, s₀:=s, H₀:=H, env:=compEnvC scope cl C X.env, outer:=X.stack, ex:=ex, fn:=fun _=>false, pn:=[], xe:=E }
noncomputable def PTs (X : Cx) (ifs : List Expr) (t : TT) : Prop:=
  ∀ (pins : List (Addr × Obj)) (s : Shared) (σ : St) (H : Hp) (Q : Bool -> Hp -> Prop), Inv X pins σ H s -> t σ H Q ->
    wpAny (model X.prog X.w) X.A (forIn ifs true fun c r=>if r = true then do let ok ← isTrue c X.env (eval c X.env); pure (ForInStep.yield ok) else pure (ForInStep.yield r)) (TP X pins σ Q) X.xe s
noncomputable def V9 : TT:=fun _ H Q=>Q true H
theorem Hu {σ : St} {H : Hp} {A B : Hp -> Prop} (h : A H) : V9 σ H fun c H5=>if c = true then A H5 else B H5:=by
  show if true = true then A H else B H
  rw [if_pos rfl]
  exact h
theorem ZD {X : Cx} : PTs X [] V9:=fun _ _ _ H _ I h=>wpAny_tests_nil ⟨H, I, h⟩
theorem JU {X : Cx} {c : Expr} {t : TT} (h : PT X c t) : PTs X [c] t:=fun pins s σ H Q I hw=>wpAny_tests_one (h pins s σ H Q I hw)
noncomputable def J1 (n : Nat) (g : TG) : Prop:=∀ x σ H Q, g x σ H Q -> g x σ H fun σ2 H2=>Q σ2 H2 /\ σ2.length = σ.length /\ ∀ i, n <= i -> σ2[i]? = σ[i]?
theorem YD {n i : Nat} (h : i < n) : J1 n (Z7 i):=fun x σ H Q q=>⟨q, by simp, fun j hj=>by rw [List.getElem?_set_ne (by lia)]⟩
noncomputable def YH (n : Nat) (caps : List (Nat × Str)) (σ : St) : St:=List.replicate n none ++ caps.map fun p=>(σ[p.1]?).join
noncomputable def Bl (g : TG) (tt : TT) (te : TE) (σ : St) (Q : VK) (J : It) (W : Nat -> Nat -> List V -> Hp -> Prop) : Prop:=
  ∀ i m ys H2, W i m ys H2 -> ys.length <= sizeLine /\
    ((J.stop i H2 /\ ∀ p, H2 p = none -> Q (.ref p) (upd H2 p (.lst ys))) ∨
    (J.go i H2 /\ ∃ N : List V -> Hp -> Prop, (∀ ys' H', N ys' H' -> ∃ m', m' < m /\ W (i + 1) m' ys' H') /\ ∀ x H3, J.yld i H2 x H3 -> g x σ H3 fun σ4 H4=>tt σ4 H4 fun c H5=>
      if c = true then te σ4 H5 fun v H6=>N (ys ++ [v]) H6 else N ys H5))
noncomputable def DC (n : Nat) (caps : List (Nat × Str)) (g : TG) (tt : TT) (te : TE) (σ : St) (Q : VK) (J : It) (H1 : Hp) : Prop:=
  ∃ W : Nat -> Nat -> List V -> Hp -> Prop, (∃ m, W 0 m [] H1) /\ Bl g tt te (YH n caps σ) Q J W
noncomputable def Ke (n : Nat) (caps : List (Nat × Str)) (wi : TI) (g : TG) (tt : TT) (te : TE) : TE:=fun σ H Q=>wi σ H fun J H1=>DC n caps g tt te σ Q J H1
noncomputable def UL (sc scope : Scope) (N0 tns : List Str) (caps : List (Nat × Str)) : Bool:=
  scope.kind == .function && scope.names.all (fun y=>!(y.2 == .cell)) && scope.names.all (fun y=>!(y.2 == .local) || scope.names.lookup y.1 == some .local) &&
  scope.names.all (fun y=>!(y.2 == .free) || sc.names.lookup y.1 == some .cell) && caps.all (fun p=>N0[p.1]? == some p.2 && sc.names.lookup p.2 == some .cell && scope.names.lookup p.2 == some .free)
theorem Kc {α : Type} {p : α} {P : Prop} (h : p ∈ ([] : List α)) : P:=nomatch h
noncomputable def IC (M : Model) (A : Around) (elt tg : Expr) (ifs : List Expr) (acc : Value) (env : Env) (E : Value -> Shared -> Prop) (K : Shared -> Prop) (v : Value) (s : Shared) : Prop:=
  wpAny M A (assign tg env v) (fun _ s₂=>wpAny M A (forIn ifs true fun c r=>if r = true then do let ok ← isTrue c env (eval c env); pure (ForInStep.yield ok) else pure (ForInStep.yield r)) (fun ok s₃=>
    if ok = true then wpAny M A (eval elt env) (fun x s₄=>wpAny M A (call (.builtin "list.append") [acc, x]) (fun _ s₅=>K s₅) E s₄) E s₃ else K s₃) E s₂) E s
noncomputable def La (M : Model) (A : Around) (elt tg : Expr) (ifs : List Expr) (it acc : Value) (env : Env) (E : Value -> Shared -> Prop) (Rn K : Shared -> Prop) (s : Shared) : Prop:=
  wpAny M A (pyNext it) (fun r s₁=>r = none /\ Rn s₁ ∨ ∃ v, r = some v /\ wpAny M A (letOwnedTupleGo tg it v) (fun _ s₁=>IC M A elt tg ifs acc env E K v s₁) E s₁) E s
section
variable {prog : Program} {w : World} {A : Around} {R : Result -> Shared -> Prop} {s : Shared}
theorem U1 {elt target iter : Expr} {ifs : List Expr} {scope : Scope} {pos : Pos} {it acc : Value} {env : Env} {E : Value -> Shared -> Prop} (I : Nat -> Shared -> Prop) (hE : (notedBy (model prog w) A env fun e s'=>R (.error e) s') = E)
    (turn : ∀ n s, I n s -> La (model prog w) A elt target ifs it acc env E (fun s=>R (.ok .next) s) (fun s=>∃ m, m < n /\ I m s) s) (n : Nat) (h : I n s) :
    codeAny (model prog w) A (.compLoop (.ListComp elt [⟨target, iter, ifs, 0⟩] scope pos) 0 it acc env) R s:=by
  subst hE
  refine codeAny_loop rfl I (fun n s hI=>?_) n h
  show wpAny _ A ((compTurn (.ListComp elt [⟨target, iter, ifs, 0⟩] scope pos) 0 it acc env).onRaise (fun x=>do noteFrame x env; theTreesLotGoes x)) _ _ s
  refine wpAny_noted ?_
  rw [compTurn_list]
  refine wpAny_bind (wpAny_standAt (wpAny_bind (thn (turn n s hI) fun r s₁ h₁=>?_)))
  rcases h₁ with ⟨rfl, h₁⟩ | ⟨v, rfl, h₁⟩
  . exact wpAny_pure h₁
  . refine wpAny_bind (thn h₁ fun _ s₁' h₁' => wpAny_bind (thn h₁' fun _ s₂ h₂ => wpAny_bind (thn h₂ fun ok s₃ h₃ => ?_)))
    cases ok with
    | false=>exact wpAny_pure ⟨rfl, h₃⟩
    | true=>exact wpAny_bind (wpAny_bind (thn h₃ fun x s₄ h₄=>wpAny_bind (thn h₄ fun _ s₅ h₅=>wpAny_pure (wpAny_pure ⟨rfl, h₅⟩))))
end
noncomputable def lob (its : List Value) (k : Nat) : Obj:={ cls:=.type "list", data:=.seq (List.toArray its) k }
structure CIn (Y : Cx) (tn : Nat -> Heap -> Prop) (fp : List Addr) (D : Addr) (σ : St) (i : Nat) (H : Hp) (o : Obj) (s : Shared) : Prop where
  I : Inv Y [] σ H s
  t : tn i s.heap
  f : ∀ b ∈ fp, H b = none
  l : s.heap.get? D = some o
  n : H D = none
inductive CI (Y : Cx) (tn : Nat -> Heap -> Prop) (fp : List Addr) (D : Addr) (σ : St) (W : Nat -> Nat -> List V -> Hp -> Prop) (m : Nat) (s : Shared) : Prop
  | mk (i : Nat) (H : Hp) (ys : List V) (its : List Value) (k : Nat) (c : CIn Y tn fp D σ i H (lob its k) s) (r : X3 ys its) (w : W i m ys H)
structure CAt (Y : Cx) (fp : List Addr) (D : Addr) : Prop where
  calm : Y.calm = true
  pn : Y.pn = []
  ne : D ≠ Y.env.locals
  fs : D ∉ Y.fs
  sz : Y.s₀.heap.objs.size <= D
  cl : ∀ x c, Y.env.cells.lookup x = some c -> c ≠ D
  fpn : ∀ b ∈ fp, b ≠ D
  ok : ∀ b ∈ fp, ∀ H : Hp, H b = none -> Kx Y [] H b
section
variable {Y : Cx} {tn : Nat -> Heap -> Prop} {fp : List Addr} {D it : Addr} {σ : St} {tg elt iter : Expr} {ifs : List Expr} {J : It} {g : TG} {tt : TT} {te : TE} {n i : Nat} {H : Hp} {s : Shared} {o : Obj} {Kn : Shared -> Prop}
theorem CAt.pins (c : CAt Y fp D) (hn : ∀ b ∈ fp, H b = none) : ∀ b ∈ fp, Kx Y [(D, o)] H b:=fun b hb=>
  have z:=c.ok b hb H (hn b hb)
  ⟨z.1, z.2.1, z.2.2.1, z.2.2.2.1, z.2.2.2.2.1, fun p hp e=>by
    rw [c.pn] at hp
    cases List.mem_singleton.mp hp
    exact c.fpn b hb e.symm⟩
theorem KU (T : Turn Y.prog Y.w Y.K tg J fp it tn) {h5 : Heap} (t : tn i h5) (I : Inv Y ([(D, o)] ++ U6 fp h5) σ H s) : CIn Y tn fp D σ i H o s:=
  have p:=I.pin (D, o) (List.mem_append_right _ (.head _))
  have q : ∀ b ∈ fp, ∀ o', h5.get? b = some o' -> s.heap.get? b = some o' /\ H b = none:=fun b hb o' e=>have z:=I.pin (b, o') (List.mem_append_right _ (.tail _ (Jf hb e))); ⟨z.1, z.2.1⟩
  ⟨I.pins_of (pins':=[]) fun _ h=>Kc h, T.keep _ _ _ t fun b hb o' e=>(q b hb o' e).1, fun b hb=>(T.obj _ _ t b hb).elim fun o' e=>(q b hb o' e.1).2, p.1, p.2.1⟩
theorem Mh (T : Turn Y.prog Y.w Y.K tg J fp it tn) (a : CAt Y fp D) {its : List Value} {k : Nat} {v : Value} {E : Value -> Shared -> Prop} (c : CIn Y tn fp D σ i H (lob its k) s) (hz : its.length <= sizeLine)
    (hQ : ∀ k' s', CIn Y tn fp D σ i H (lob (its ++ [v]) k') s' -> Kn s') : wpAny (model Y.prog Y.w) Y.A (call (.builtin "list.append") [.ref D, v]) (fun _ s=>Kn s) E s:=by
  refine call_meets F.slot_list_append ⟨_, c.l, rfl⟩ F.entry_list_append (F.args_list_append_2 _ _) (PySem.list_append D (List.toArray its) k v hz) ⟨c.l, ?_⟩
  have q : ∃ k', PySem.IsL (s.heap.update D (Obj.mapSeq (·.push v))) D ((List.toArray its).push v) k':=⟨_, PySem.IsL.update c.l (·.push v)⟩
  rw [List.push_toArray] at q
  obtain ⟨k', q⟩:=q
  exact hQ k' _ ⟨c.I.turned (t':=s.toks) (h':=s.heap.update D (Obj.mapSeq (·.push v))) (it:=D) (fun b o hb' e=>(Heap.get?_update_other s.heap _ (Ne.symm hb')).trans e) c.n a.ne (.inr a.sz) a.cl (fun p hp=>by rw [a.pn] at hp; exact Kc hp),
    T.keep _ _ _ c.t fun b hb o e=>(Heap.get?_update_other s.heap _ (Ne.symm (a.fpn b hb))).trans e, c.f, q, c.n⟩
theorem Bo {acc : Value} {pins : List (Addr × Obj)} {N : List V -> Hp -> Prop} {ys : List V} {x : V} {u : Value} (hg : PG Y tg g) (ht : PTs Y ifs tt) (he : PE Y elt te) (hG : J1 n g) (h0 : ∀ (j : Nat) v, σ[j]? = some (some v) -> n <= j)
    (I : Inv Y pins σ H s) (r : X7 x u) (st : g x σ H fun σ4 H4=>tt σ4 H4 fun c H5=>if c = true then te σ4 H5 fun v H6=>N (ys ++ [v]) H6 else N ys H5)
    (hF : ∀ H7 s7, Inv Y pins σ H7 s7 -> N ys H7 -> Kn s7) (hT : ∀ H8 s8 y v, Inv Y pins σ H8 s8 -> X7 y v -> N (ys ++ [y]) H8 -> wpAny (model Y.prog Y.w) Y.A (call (.builtin "list.append") [acc, v]) (fun _ s=>Kn s) Y.xe s8) :
    IC (model Y.prog Y.w) Y.A elt tg ifs acc Y.env Y.xe Kn u s:=by
  refine thn (hg _ s _ H x u _ I r (hG _ _ _ _ st)) fun _ s6 ⟨σ6, H6, I6, q6, l6, k6⟩=>?_
  have wk : ∀ (j : Nat) v, σ[j]? = some (some v) -> σ6[j]? = some (some v):=fun j v e=>(k6 j (h0 j v e)).trans e
  refine thn (ht _ s6 σ6 H6 _ I6 q6) fun c s7 ⟨H7, I7, q7⟩=>?_
  cases c with
  | false=>exact hF _ _ (I7.weak l6.symm wk) q7
  | true=>exact thn (he _ s7 σ6 H7 _ I7 q7) fun v8 s8 ⟨y8, H8, I8, r8, n8⟩=>hT _ _ _ _ (I8.weak l6.symm wk) r8 n8
theorem VD {scope : Scope} {pos : Pos} {Q : V -> Hp -> Prop} {R : Result -> Shared -> Prop} (hE : (notedBy (model Y.prog Y.w) Y.A Y.env fun e s'=>R (.error e) s') = Y.xe)
    (T : Turn Y.prog Y.w Y.K tg J fp it tn) (hG : J1 n g) (hg : PG Y tg g) (ht : PTs Y ifs tt) (he : PE Y elt te) (a : CAt Y fp D) (h0 : ∀ (j : Nat) v, σ[j]? = some (some v) -> n <= j)
    {W : Nat -> Nat -> List V -> Hp -> Prop} (turn : Bl g tt te σ Q J W)
    (hEnd : ∀ ys its k H3 s4, Inv Y [(D, lob its k)] σ H3 s4 -> X3 ys its -> ys.length <= sizeLine -> Q (.ref D) (upd H3 D (.lst ys)) -> R (.ok .next) s4) {m0 : Nat} (hi : CI Y tn fp D σ W m0 s) :
    codeAny (model Y.prog Y.w) Y.A (.compLoop (.ListComp elt [⟨tg, iter, ifs, 0⟩] scope pos) 0 (.ref it) (.ref D) Y.env) R s:=by
  refine U1 (CI Y tn fp D σ W) hE (fun m s3 c=>?_) m0 hi
  cases c with
  | mk i H3 ys its k c rv w3=>
  have I3 : Inv Y [(D, lob its k)] σ H3 s3:=c.I.pins_of fun p hp=>List.mem_singleton.mp hp ▸ ⟨c.l, c.n, a.ne, a.fs, fun _ z=>by cases z⟩
  have t:=turn i m ys H3 w3
  refine t.2.elim (fun q=>?_) fun q=>?_
  . exact thn (T.done Y rfl rfl rfl a.calm i _ s3 _ H3 Y.xe I3 (a.pins c.f) c.t q.1) fun r s4 h=>.inl ⟨h.1, hEnd ys its k H3 s4 h.2 rv t.1 (q.2 D c.n)⟩
  . refine q.2.elim fun NN h => ?_
    refine thn (T.item Y rfl rfl rfl a.calm i _ s3 _ H3 Y.xe I3 (a.pins c.f) c.t q.1) fun r s4 h4=>.inr (h4.elim fun u h4=>⟨u, h4.1, thn h4.2 fun _ s5 h5=>h5.elim fun x h5=>h5.elim fun H5 h5=>?_⟩)
    exact Bo hg ht he hG h0 (h5.1.pinned (a.pins h5.2.2.2.2) (T.obj _ _ h5.2.2.2.1)) h5.2.1 (h.2 x H5 h5.2.2.1)
      (fun H7 s7 I7 q7=>(h.1 _ _ q7).elim fun m' z=>⟨m', z.1, .mk (i + 1) H7 ys its k (KU T h5.2.2.2.1 I7) rv z.2⟩)
      fun H8 s8 y v I8 r8 q8=>(h.1 _ _ q8).elim fun m' z=>Mh T a (KU T h5.2.2.2.1 I8) (rv.length ▸ t.1) fun k' s' c'=>⟨m', z.1, .mk (i + 1) H8 (ys ++ [y]) (its ++ [v]) k' c' (rv.append (.cons r8 .nil)) z.2⟩
end
section
variable {X : Cx} {elt tg iter : Expr} {ifs : List Expr} {scope sc : Scope} {pos : Pos} {n : Nat} {tns : List Str} {caps : List (Nat × Str)} {wi : TI} {g : TG} {tt : TT} {te : TE}
structure CompEnd (X : Cx) (pins : List (Addr × Obj)) (σ : St) (H3 : Hp) (D C : Addr) (ys : List V) (s' : Shared) : Prop where
  inv : Inv X pins σ (upd H3 D (.lst ys)) s'
  fresh : H3 D = none
  fp : Kx X pins (upd H3 D (.lst ys)) C
  ns : ∃ m, s'.heap.Ns C m
theorem Gz {pins : List (Addr × Obj)} {σ σ' : St} {H H3 : Hp} {s s4 : Shared} {D C : Addr} {fp : List Addr} {its : List Value} {k : Nat} {ys : List V} {Y : Cx} (I : Inv X pins σ H s) (hf : ∀ b ∈ fp, Kx X pins H b) (hD : s.heap.objs.size <= D) (hDlt : D < C)
    (I4 : Inv Y [(D, lob its k)] σ' H3 s4) (hos : s4.os = s.os) (u : Un (frs X.stack) fp H H3 s.heap s4.heap) (hok : HOk X.prog X.w H3 s4.heap) (hC : Y.env.locals = C) (rv : X3 ys its) (hz : ys.length <= sizeLine) : CompEnd X pins σ H3 D C ys s4:=by
  subst hC
  have p:=I4.pin (D, lob its k) (List.mem_append_right _ (.head _))
  have hDn : H3 D = none:=p.2.1
  have up : ∀ {b : Addr} {o : HO}, H3 b = some o -> upd H3 D (.lst ys) b = some o:=fun e=>(XJ (XR e hDn)).trans e
  refine ⟨I.call' (ch:=fp) hos ⟨u.keep, u.slot, fun b o e nn hx=>(XJ (Nat.ne_of_lt (Nat.lt_of_lt_of_le (Heap.lt_size e) hD))).trans (u.free b o e nn hx), u.there, fun b xs e=>up (u.tups b xs e), fun b o xs e=>up (u.frzs b o xs e), fun b ps e=>(u.tbls b ps e).elim fun more z=>⟨more, up z⟩⟩ (fun a o e=>?_) I4.bare fun b hb=>have z:=hf b hb; ⟨z.2.2.2.1, z.2.1, z.2.2.2.2.1, z.2.2.2.2.2⟩, hDn, I.fpOk (Nat.le_trans hD (Nat.le_of_lt hDlt)) ((XJ (Nat.ne_of_gt hDlt)).trans I4.free), I4.loc.elim fun m z=>⟨m, z.1⟩⟩
  by_cases ha : a = D
  . subst ha
    rw [YA] at e; cases e
    exact ⟨hz, its, k, rv, p.1⟩
  . rw [XJ ha] at e
    exact (hok a o e).stay (fun b u _ q=>q) (fun b q=>up q) fun b xs q=>up q
noncomputable def L8 (X : Cx) (elt tg iter : Expr) (ifs : List Expr) (scope : Scope) (pos : Pos) (it : Value) (cl : List (Str × Addr)) (RR : Value -> Addr -> Result -> Shared -> Prop) (E : Value -> Shared -> Prop) (s : Shared) : Prop:=
  wpAny (model X.prog X.w) X.A (newList []) (fun acc s₃=>wpAny (model X.prog X.w) X.A (newFunctionEnv scope X.env.globals cl [] X.env.qual none .none (some X.env)) (fun cenv s₄=>
      codeAny (model X.prog X.w) X.A (.compStart (.ListComp elt [⟨tg, iter, ifs, 0⟩] scope pos) 0 it acc { cenv with scope:=relabel scope X.env }) (RR acc cenv.locals) s₄) E s₃) E s
theorem Vm {σ : St} {i : Nat} {v : V} (e : (YH n caps σ)[i]? = some (some v)) : n <= i /\ ∃ p, caps[i - n]? = some p /\ σ[p.1]? = some (some v):=by
  unfold YH at e
  by_cases h : i < n
  . rw [List.getElem?_append_left (by simpa using h), List.getElem?_replicate, if_pos h] at e
    cases e
  . have hi := Nat.le_of_not_lt h
    rw [List.getElem?_append_right (by simpa using hi), List.length_replicate, List.getElem?_map] at e
    refine ⟨hi, ?_⟩
    cases hcp : caps[i - n]? with
    | none=>rw [hcp] at e; cases e
    | some p=>
      rw [hcp] at e
      exact ⟨p, rfl, Option.join_eq_some_iff.mp (Option.some.inj e)⟩
structure COk (X : Cx) (scope : Scope) (caps : List (Nat × Str)) : Prop where
  kind : scope.kind = .function
  cell : ∀ y ∈ scope.names, y.2 ≠ NameKind.cell
  loc : ∀ y ∈ scope.names, y.2 = .local -> scope.names.lookup y.1 = some .local
  free : ∀ y ∈ scope.names, y.2 = .free -> X.env.scope.names.lookup y.1 = some .cell
  caps : ∀ p ∈ caps, (X.N[p.1]? = some p.2 /\ X.env.scope.names.lookup p.2 = some .cell) /\ scope.names.lookup p.2 = some .free
theorem COk.of {N0 : List Str} (hsc : X.env.scope = sc) (hN0 : X.N = N0) (ok : UL sc scope N0 tns caps = true) : COk X scope caps:=by
  subst hsc
  subst hN0
  unfold UL at ok
  simp only [Bool.and_eq_true, List.all_eq_true, beq_iff_eq, Bool.or_eq_true, Bool.not_eq_true', beq_eq_false_iff_ne] at ok
  exact ⟨ok.1.1.1.1, ok.1.1.1.2, fun y hy e=>(ok.1.1.2 y hy).resolve_left (absurd e), fun y hy e=>(ok.1.2 y hy).resolve_left (absurd e), ok.2⟩
section
variable {pins : List (Addr × Obj)} {σ : St} {H : Hp} {s : Shared} {fp : List Addr} {cl : List (Str × Addr)} {C : Addr} {E : Value -> Shared -> Prop} {N : List Str} {h₁ : Heap}
theorem E5 (ok : COk X scope caps) (I : Inv X pins σ H s) (hf : ∀ b ∈ fp, Kx X pins H b) (hlt : ∀ b ∈ fp, b < s.heap.objs.size)
    (hsub : ∀ x c, cl.lookup x = some c -> X.env.cells.lookup x = some c) (hall : ∀ x, (x, NameKind.free) ∈ scope.names -> ∃ c, cl.lookup x = some c) (hC : s.heap.objs.size < C) : (X.comp N scope cl C s H fp E).Ok:=
  ⟨I.ok.mod, ok.kind, I.ok.glob, I.ok.blt, Nat.le_of_lt hC, fun x y c h1 h2=>I.ok.inj x y c (hsub x c h1) (hsub y c h2), fun x hx=>hall x (hx.elim (fun z=>QR ok.cell z (.inl rfl)) fun z=>QR ok.cell z (.inr rfl)), (fun x c hx=>by cases hx), I.ok.hd, I.ok.frames, .inl rfl,
    fun b hb=>⟨Nat.ne_of_lt (Nat.lt_trans (hlt b hb) hC), fun x c e=>(hf b hb).2.2.2.2.1 x c (hsub x c e)⟩, I.bs, Nat.le_trans I.ok.bsz I.sz, fun b o e hb=>(hf b hb).2.2.2.1.elim (I.ok.noex b o e) fun z=>absurd (Nat.lt_of_lt_of_le (Heap.lt_size e) (Nat.le_trans I.ok.bsz z)) (Nat.lt_irrefl _),
    fun b hb hz=>(List.mem_cons.mp (I.stkSub b hz)).elim (hf b hb).2.1 (hf b hb).2.2.1, I.stack, I.stkFree⟩
theorem CM (okc : COk X scope caps) (hn : tns.length = n) (ok : (X.comp (tns ++ caps.map (·.2)) scope cl C s H fp E).Ok) (I : Inv X pins σ H s)
    (hsub : ∀ x c, cl.lookup x = some c -> X.env.cells.lookup x = some c) (hall : ∀ x, (x, NameKind.free) ∈ scope.names -> ∃ c, cl.lookup x = some c) (hC : s.heap.objs.size < C) (hns : h₁.Ns C fun _=>none) (old : ∀ b o, s.heap.get? b = some o -> h₁.get? b = some o) {tk : Nat} :
    Inv (X.comp (tns ++ caps.map (·.2)) scope cl C s H fp E) [] (YH n caps σ) H { s with heap:=h₁, toks:=tk }:=by
  refine ⟨ok, rfl, I.bare, Un.kept old, ⟨_, hns, fun i x v e1 e2 _=>?_⟩, fun x c e=>(I.cell x c (hsub x c e)).elim fun v z=>z.elim fun o z=>⟨v, o, old _ _ z.1, z.2⟩, I.hok.fresh (Nat.le_of_lt hC), fun x c e=>I.freeC x c (hsub x c e), fun p hp=>Kc (α:=Addr × Obj) hp, I.hok.kept old, by simp [YH, hn]⟩
  obtain ⟨hi, p, hp, hσ⟩:=Vm e2
  have e1' : (tns ++ caps.map (·.2))[i]? = some x:=e1
  rw [List.getElem?_append_right (hn ▸ hi), hn, List.getElem?_map, hp] at e1'
  cases Option.some.inj e1'
  have p5:=okc.caps p (List.mem_of_getElem? hp)
  obtain ⟨m, hm, hl⟩:=I.loc
  obtain ⟨u, r, l⟩:=hl p.1 p.2 v p5.1.1 hσ (.inr (.inl p5.1.2))
  refine ⟨u, r, .inr ?_⟩
  rcases l with ⟨k, _⟩ | ⟨k, c, e, z⟩
  . cases p5.1.2.symm.trans k
  . obtain ⟨c', e'⟩ := hall p.2 (PySem.mem_of_lookup p5.2)
    cases e.symm.trans (hsub _ _ e')
    exact ⟨Z9 (env:=X.env) p5.2, c, e', z.elim fun o z=>⟨o, old _ _ z.1, z.2⟩⟩
variable {J : It} {it : Addr} {tn : Nat -> Heap -> Prop} {Q : V -> Hp -> Prop} {RR : Value -> Addr -> Result -> Shared -> Prop} {W : Nat -> Nat -> List V -> Hp -> Prop} {m0 : Nat}
theorem B0 (ok : COk X scope caps) (hc : X.calm = true) (hn : tns.length = n) (hG : J1 n g)
    (hb : ∀ cl C s H ex E, PG (X.comp (tns ++ caps.map (·.2)) scope cl C s H ex E) tg g /\ PTs (X.comp (tns ++ caps.map (·.2)) scope cl C s H ex E) ifs tt /\ PE (X.comp (tns ++ caps.map (·.2)) scope cl C s H ex E) elt te)
    (I : Inv X pins σ H s) (T : Turn X.prog X.w X.K tg J fp it tn) (t0 : tn 0 s.heap) (hf : ∀ b ∈ fp, Kx X pins H b)
    (hsub : ∀ x c, cl.lookup x = some c -> X.env.cells.lookup x = some c) (hall : ∀ x, (x, NameKind.free) ∈ scope.names -> ∃ c, cl.lookup x = some c)
    (w0 : W 0 m0 [] H) (turn : Bl g tt te (YH n caps σ) Q J W)
    (hRR : ∀ D C ys H3 s', CompEnd X pins σ H3 D C ys s' -> Q (.ref D) (upd H3 D (.lst ys)) -> RR (.ref D) C (.ok .next) s')
    (hC : s.heap.objs.size < C) (hns : h₁.Ns C fun _=>none) (old : ∀ b o, s.heap.get? b = some o -> h₁.get? b = some o) (hacc : h₁.get? s.heap.objs.size = some (lob [] 0)) {tk : Nat} :
    codeAny (model X.prog X.w) X.A (.compStart (.ListComp elt [⟨tg, iter, ifs, 0⟩] scope pos) 0 (.ref it) (.ref s.heap.objs.size) (compEnvC scope cl C X.env)) (RR (.ref s.heap.objs.size) C) { s with heap:=h₁, toks:=tk }:=by
  have hlt : ∀ b ∈ fp, b < s.heap.objs.size:=fun b hb=>(T.obj _ _ t0 b hb).elim fun o e=>Heap.lt_size e.1
  have okY : ∀ E, (X.comp (tns ++ caps.map (·.2)) scope cl C s H fp E).Ok:=fun E=>E5 ok I hf hlt hsub hall hC
  have t1 : tn 0 h₁:=T.keep _ _ _ t0 fun b _ o e=>old b o e
  have loop : ∀ tk, codeAny (model X.prog X.w) X.A (.compLoop (.ListComp elt [⟨tg, iter, ifs, 0⟩] scope pos) 0 (.ref it) (.ref s.heap.objs.size) (compEnvC scope cl C X.env)) (RR (.ref s.heap.objs.size) C) { s with heap:=h₁, toks:=tk }:=fun tk=>
    have z:=hb cl C s H fp (notedBy (model X.prog X.w) X.A (compEnvC scope cl C X.env) fun e s'=>RR (.ref s.heap.objs.size) C (.error e) s')
    VD (Y:=X.comp (tns ++ caps.map (·.2)) scope cl C s H fp _) rfl T hG z.1 z.2.1 z.2.2
      ⟨hc, rfl, Nat.ne_of_lt hC, fun hz=>(I.stack.mem hz).2.elim fun o ho=>absurd (Heap.lt_size ho.1) (Nat.lt_irrefl _), Nat.le_refl _, fun x c e=>(I.cell x c (hsub x c e)).elim fun v z=>Nat.ne_of_lt z.lt, fun b hb=>Nat.ne_of_lt (hlt b hb),
        fun b hb H' h'=>⟨h', Nat.ne_of_lt (Nat.lt_trans (hlt b hb) hC), (okY fun _ _=>True).exfs b hb, .inl hb, fun x c e=>(hf b hb).2.2.2.2.1 x c (hsub x c e), fun p hp=>Kc (α:=Addr × Obj) hp⟩⟩
      (fun j v e=>(Vm e).1) turn (fun ys its k H3 s4 I4 rv hz q=>hRR _ C ys H3 s4 (Gz I hf (Nat.le_refl _) hC I4 I4.os I4.base I4.hok rfl rv hz) q)
      (.mk 0 H [] [] 0 ⟨CM ok hn (okY _) I hsub hall hC hns old, t1, fun b hb=>(hf b hb).1, hacc, I.hok.fresh (Nat.le_refl _)⟩ .nil w0)
  exact codeAny_compStart_list (loop _) (T.self _ 0 _ _ _ t1 (loop _))
theorem VI (ok : COk X scope caps) (hc : X.calm = true) (hn : tns.length = n) (hG : J1 n g)
    (hb : ∀ cl C s H ex E, PG (X.comp (tns ++ caps.map (·.2)) scope cl C s H ex E) tg g /\ PTs (X.comp (tns ++ caps.map (·.2)) scope cl C s H ex E) ifs tt /\ PE (X.comp (tns ++ caps.map (·.2)) scope cl C s H ex E) elt te)
    {itv : Value} (h : PIE X pins σ tg (fun J H1=>DC n caps g tt te σ Q J H1) itv s)
    (hsub : ∀ x c, cl.lookup x = some c -> X.env.cells.lookup x = some c) (hall : ∀ x, (x, NameKind.free) ∈ scope.names -> ∃ c, cl.lookup x = some c)
    (hRR : ∀ D C ys H3 s', CompEnd X pins σ H3 D C ys s' -> Q (.ref D) (upd H3 D (.lst ys)) -> RR (.ref D) C (.ok .next) s') :
    L8 X elt tg iter ifs scope pos itv cl RR E s:=by
  obtain ⟨it, fp, tn, J, H', rfl, I, T, t0, hf, W, ⟨m0, w0⟩, turn⟩:=h
  refine wpAny_newObj_type (wpAny_newFunctionEnv ok.cell (by intro y hy; simp at hy) (fun h₁ hns₁ hsb₁=>?_) ok.kind)
  have hs : ∀ o, (s.heap.push o).objs.size = s.heap.objs.size + 1:=fun o=>Heap.size_push ..
  exact B0 ok hc hn hG hb I T t0 hf hsub hall w0 turn hRR (Nat.lt_of_lt_of_eq (Nat.lt_succ_self _) (hs _).symm) hns₁
    (fun b o e=>hsb₁.extBut b o (Nat.ne_of_lt (Nat.lt_trans (Heap.lt_size e) (Nat.lt_of_lt_of_eq (Nat.lt_succ_self _) (hs _).symm))) (Heap.get?_push_of_some _ (Heap.get?_push_of_some _ e)))
    (hsb₁.extBut _ _ (Nat.ne_of_lt (Nat.lt_of_lt_of_eq (Nat.lt_succ_self _) (hs _).symm)) (Heap.get?_push_of_some _ (Heap.get?_push_size _ rfl)))
end
theorem EI (sc : Scope) (N0 : List Str) (tns : List Str) (caps : List (Nat × Str)) (hc : X.calm = true) (hi : PI X tg iter wi) (hG : J1 tns.length g)
    (hb : ∀ cl C s H ex E, PG (X.comp (tns ++ caps.map (·.2)) scope cl C s H ex E) tg g /\ PTs (X.comp (tns ++ caps.map (·.2)) scope cl C s H ex E) ifs tt /\ PE (X.comp (tns ++ caps.map (·.2)) scope cl C s H ex E) elt te)
    (hsc : X.env.scope = sc:=by rfl) (hN0 : X.N = N0:=by rfl) (ok : UL sc scope N0 tns caps = true:=by decide +kernel)
    (hs : ∀ x, foldedSetIterable iter X.env x = pure x:=by intro _; rfl) :
    PE X (.ListComp elt [⟨tg, iter, ifs, 0⟩] scope pos) (Ke tns.length caps wi g tt te):=by
  intro pins s σ H Q I h
  have okc:=COk.of hsc hN0 ok
  obtain ⟨cl, ecl, hsub, hall⟩:=Kj (scope:=scope) (env:=X.env) fun x hx hfr=>I.ok.has x.1 (.inl (okc.free x hx hfr))
  rw [eval_ListComp]
  exact wpAny_comprehension_free (use:=none) rfl hs ecl okc.kind okc.loc (thn (hi pins s σ H _ I h) fun xv s₁ h₁=>thn h₁ fun itv s₂ h₂=>
    VI (RR:=fun acc C=>compPost (model X.prog X.w) X.A X.xe none (EP X pins σ Q) acc C) okc hc rfl hG hb h₂ hsub hall fun D C ys H3 s' ce q=>ce.ns.elim fun mm hns=>
      ⟨mm, hns, fun h' hs'=>⟨.ref D, _, ce.inv.turned (t':=s'.toks) (fun b o hb' e=>(hs'.extBut b o hb' e)) ce.fp.1 ce.fp.2.1 ce.fp.2.2.2.1 ce.fp.2.2.2.2.1 ce.fp.2.2.2.2.2, rfl, q⟩⟩)
theorem KC {x : Str} {px spos : Pos} (j : Nat) (sc : Scope) (N0 : List Str) (tns : List Str) (caps : List (Nat × Str)) (hc : X.calm = true) (hN : X.N.Nodup) (hj : X.N[j]? = some x) (hx : X.env.scope.names.lookup x = some .local) (hi : PI X tg iter wi) (hG : J1 tns.length g)
    (hb : ∀ cl C s H ex E, PG (X.comp (tns ++ caps.map (·.2)) scope cl C s H ex E) tg g /\ PTs (X.comp (tns ++ caps.map (·.2)) scope cl C s H ex E) ifs tt /\ PE (X.comp (tns ++ caps.map (·.2)) scope cl C s H ex E) elt te)
    (hsc : X.env.scope = sc:=by rfl) (hN0 : X.N = N0:=by rfl) (ok : UL sc scope N0 tns caps = true:=by decide +kernel)
    (hsw : swapsWith (.ListComp elt [⟨tg, iter, ifs, 0⟩] scope pos) (some (.Name x px)) spos.line X.env = pure true:=by rfl)
    (hs : ∀ x, foldedSetIterable iter X.env x = pure x:=by intro _; rfl) :
    PS X (.Assign [.Name x px] (.ListComp elt [⟨tg, iter, ifs, 0⟩] scope pos) spos) (B4 (Ke tns.length caps wi g tt te) (Z7 j)):=by
  intro pins s σ H D I h
  have okc:=COk.of hsc hN0 ok
  obtain ⟨cl, ecl, hsub, hall⟩:=Kj (scope:=scope) (env:=X.env) fun x hx hfr=>I.ok.has x.1 (.inl (okc.free x hx hfr))
  rw [exec_Assign_Name_used _ _ _ _ hsw]
  refine wpAny_bind (wpAny_standAt (wpAny_bind ?_))
  show wpAny _ _ (do let _ ← comprehension (.ListComp elt [⟨tg, iter, ifs, 0⟩] scope pos) scope X.env _ (newList []) false (eval iter X.env) (some (assign (.Name x px) X.env))) _ _ s
  refine wpAny_bind (thn (wpAny_comprehension_free (use:=some (assign (.Name x px) X.env)) (Q:=fun _ s'=>SP X pins D .next s') rfl hs ecl okc.kind okc.loc
    (thn (hi pins s σ H _ I h) fun xv s₁ h₁=>thn h₁ fun itv s₂ h₂=>?_)) fun _ s' hq=>wpAny_pure (wpAny_pure hq))
  refine VI (Q:=fun v H1=>Z7 j v σ H1 D.nx) (RR:=fun acc C=>compPost (model X.prog X.w) X.A X.xe (some (assign (.Name x px) X.env)) (fun _ s'=>SP X pins D .next s') acc C) okc hc rfl hG hb h₂ hsub hall ?_
  intro DD C ys H3 s' ce q
  obtain ⟨mm, hns⟩:=ce.ns
  obtain ⟨c0, c1, c2, c3, c4, c5⟩:=ce.fp
  show wpAny _ _ (assign (.Name x px) X.env (.ref DD)) _ _ _
  refine wpAny_assign_Name (UV ce.inv hN hj (.inl hx) (v:=.ref DD) rfl (fun s2 I2 chg=>?_) (.inr hx))
  obtain ⟨c, hsb, hcc⟩:=chg
  have hCc : C ≠ c:=by
    rcases hcc with z | z
    . rw [z]; exact c1
    . exact fun e=>c4 x c z e.symm
  refine ⟨mm, ?_, fun h' hs'=>?_⟩
  . obtain ⟨o, es, ep, ho, r⟩ := hns
    exact ⟨o, es, ep, (hsb.2 C hCc).trans ho, r⟩
  . exact ⟨_, _, I2.turned (t':=s2.toks) (fun b o hb' e=>(hs'.extBut b o hb' e)) c0 c1 c3 c4 c5, q⟩
end
section
variable {K : PySem.W.Frag} {a : Addr} {xs : List V} {n : Nat} {caps : List (Nat × Str)} {g : TG} {tt : TT} {te : TE} {σ : St} {H : Hp} {Q : V -> Hp -> Prop}
theorem Dy (Pv : Nat -> List V -> Hp -> Prop) (h0 : Pv 0 [] H) (hl : ∀ i ys H, i <= xs.length -> Pv i ys H -> SqL K H a xs /\ ys.length <= sizeLine)
    (hs : ∀ i x ys H, xs[i]? = some x -> Pv i ys H -> g x (YH n caps σ) H fun σ4 H4=>tt σ4 H4 fun c H5=>if c = true then te σ4 H5 fun v H6=>Pv (i + 1) (ys ++ [v]) H6 else Pv (i + 1) ys H5)
    (hd : ∀ ys H p, Pv xs.length ys H -> H p = none -> Q (.ref p) (upd H p (.lst ys))) :
    DC n caps g tt te σ Q (Itl K a) H:=by
  refine ⟨fun i m ys H=>m = xs.length - i /\ i <= xs.length /\ Pv i ys H, ⟨xs.length, by simp, Nat.zero_le _, h0⟩, ?_⟩
  rintro i m ys H2 ⟨rfl, hi, p⟩
  obtain ⟨q, hz⟩:=hl i ys H2 hi p
  refine ⟨hz, ?_⟩
  by_cases hlt : i < xs.length
  . refine .inr ⟨⟨xs, xs[i], q, by simp [hlt]⟩, Pv (i + 1), fun ys' H' p' => ⟨xs.length - (i + 1), by (clear p' hz q p hi hd hs hl h0; omega), rfl, hlt, p'⟩, fun x H' y => ?_⟩
    obtain ⟨e, y⟩:=y
    subst e
    exact hs i x ys _ (y xs q) p
  . have e : i = xs.length := by lia
    subst e
    exact .inl ⟨⟨xs, q, Nat.le_refl _⟩, fun p' hp'=>hd ys H2 p' p hp'⟩
end
section
variable {X : Cx} {pos : Pos}
noncomputable def Km (K : PySem.W.Frag) : List V -> Hp -> VK -> Prop:=fun xs H Q=>∃ p ys, xs = [.ref p] /\ (SqL K H p ys ∨ SqT K H p ys) /\ ∀ l, H l = none -> Q (.ref l) (upd H l (.lst ys))
noncomputable def GC (K : PySem.W.Frag) : List V -> Hp -> VK -> Prop:=fun xs H Q=>∃ p ys, xs = [.ref p] /\ (SqL K H p ys ∨ SqT K H p ys) /\ Q (.int ys.length) H
theorem Q4 (K : PySem.W.Frag) (h : X.K = K) : Qc X (.type "list") (Km K):=by subst h; exact UZ
theorem Xj (K : PySem.W.Frag) (h : X.K = K) : Qc X (.builtin "len") (GC K):=by subst h; exact UN
theorem Xm (K : PySem.W.Frag) (h : X.K = K) : IxR X (Iy K):=by subst h; exact Ha
theorem Qj (K : PySem.W.Frag) (h : X.K = K) : IxR X (Hi K):=by subst h; exact HM
theorem Ur (K : PySem.W.Frag) (h : X.K = K) : SlR X (IP K):=by subst h; exact EO
end
end L2
namespace L2
open PySem PySem.Spec PyProof.Rows
structure Fn (P : Program) (w : World) (K : PySem.W.Frag) (mg : Str -> Option Value) (base : Heap) (k : Nat) (x : Str) (ps : List Str) (sp : Sp) : Prop where
  ex : ∃ f fd, FnOk P w K mg base CX0 k f fd ps sp /\ KO K fd ps [] /\ PySem.W.keepIn K (.ref f) = true /\ mg x = some (.ref f)
section
variable {X : Cx} {k j : Nat} {x : Str} {ps : List Str} {sp : Sp} {e : Expr} {es : List Expr} {t : TA} {p pos : Pos}
theorem X4 (G : Fn X.prog X.w X.K X.mg X.base k x ps sp) (hr : Room j X.A) (hj : k <= j) (ha : PA X (e :: es) t) (hg : Gl X x:=by rfl) (hdb : (x == ("__debug__" : Str)) = false:=by decide)
    (he : starEach (e :: es) X.env = (false, eval e X.env) :: starEach es X.env:=by rfl) (hpl : (backTo pos (starEach es X.env)).any (·.1) = false:=by rfl) :
    PE X (.Call (.Name x p) (e :: es) [] pos) (V8 sp [] E0 t):=by
  obtain ⟨f, fd, F, b, kp, m⟩:=G.ex
  exact EX F (hr.mono hj) hg m kp b .nil Lu ha hdb he hpl
end
noncomputable def Def (K : PySem.W.Frag) (mg : Str -> Option Value) (x : Str) (st : Stmt) (ps : List Str) : Prop:=∃ f fd, Fun K x x st f fd /\ KO K fd ps [] /\ mg x = some (.ref f)
theorem Ym {P : Program} {w : World} {K : PySem.W.Frag} {mg : Str -> Option Value} {base : Heap} {x : Str} {st : Stmt} {N ps : List Str} {k : Nat} {sp : Sp} (D : Def K mg x st ps) (S : FnScope N ps (Xh st)) (len : ∀ vs H Q E, sp vs H Q E -> vs.length = ps.length)
    (hbody : ∀ (f : Addr) (cdv : Value) (A : Around) (outer : List Env) (s : Shared) (H : Hp) (vs : List V) (Q : VK) (E : XK), Room k (A.deeper (envOfC x (Xh st) s.heap.objs.size f cdv)) -> sp vs H Q E ->
      ∃ t, PSs (Hb CX0 P w K mg base N x (Xh st) f cdv A outer s H E).nox (Yx st) t /\ t { nx:=fun _ H'=>Q .non H', rt:=Q } (Um N vs) H) : Fn P w K mg base (k + 1) x ps sp:=by
  obtain ⟨f, fd, F, b, m⟩:=D
  exact ⟨f, fd, F.ok S len (hbody f), b, F.kp, m⟩
theorem Dj {a d c : Nat} (h : d <= 8) (hu : a + 8 < c) : a + d < c:=by omega
theorem XL {H : Hp} {p : Addr} (h : H p = none) (o : HO) : Xr H (upd H p o):=fun b u q=>by rw [XJ (XR q h)]; exact q
theorem Xr.own {H H2 : Hp} {p : Addr} (s : Xr H H2) (h : H p = none) (o : HO) : Xr H (upd H2 p o):=fun b u q=>by rw [XJ (XR q h)]; exact s b u q
theorem Xr.new {H H2 : Hp} {p : Addr} (s : Xr H H2) (h : H2 p = none) (o : HO) : Xr H (upd H2 p o):=s.trans (XL h o)
theorem hu8 {A : Around} {k : Nat} (hr : Room k A) : A.units + 8 < cLine:=Nat.lt_of_le_of_lt (Nat.add_le_add_left (by decide : 8 <= 64) _) hr.units
noncomputable abbrev Enc (α : Type):=PySem.W.Frag -> Hp -> V -> α -> Prop
noncomputable def Xb : Enc Int:=fun _ _ v i=>v = .int i
noncomputable def rL {α : Type} (r : Enc α) : Enc (List α):=fun K H v as=>∃ a xs, v = .ref a /\ SqL K H a xs /\ Paired (r K H) xs as
theorem Paired.getL {α β : Type} {F : α -> β -> Prop} : ∀ {l : List α} {m : List β} {i : Nat} {a : α}, Paired F l m -> l[i]? = some a -> ∃ b, m[i]? = some b /\ F a b
  | _, _, _, _, .nil, e=>by simp at e
  | _, _, 0, _, .cons r _, e=>by simp at e; subst e; exact ⟨_, rfl, r⟩
  | _, _, i + 1, a, .cons _ t, e=>by
    obtain ⟨b, h1, h2⟩:=Paired.getL (i:=i) (a:=a) t (by simpa using e)
    exact ⟨b, by simpa using h1, h2⟩
theorem Paired.getR {α β : Type} {F : α -> β -> Prop} : ∀ {l : List α} {m : List β} {i : Nat} {b : β}, Paired F l m -> m[i]? = some b -> ∃ a, l[i]? = some a /\ F a b
  | _, _, _, _, .nil, e=>by simp at e
  | _, _, 0, _, .cons r _, e=>by simp at e; subst e; exact ⟨_, rfl, r⟩
  | _, _, i + 1, b, .cons _ t, e=>by
    obtain ⟨a, h1, h2⟩:=Paired.getR (i:=i) (b:=b) t (by simpa using e)
    exact ⟨a, by simpa using h1, h2⟩
theorem Paired.len {α β : Type} {F : α -> β -> Prop} {l : List α} {m : List β} (h : Paired F l m) : l.length = m.length:=Paired.length h
theorem Paired.app {α β : Type} {F : α -> β -> Prop} : ∀ {l l' : List α} {m m' : List β}, Paired F l m -> Paired F l' m' -> Paired F (l ++ l') (m ++ m')
  | _, _, _, _, .nil, h=>h
  | _, _, _, _, .cons r t, h=>.cons r (Paired.app t h)
theorem Kr (ns : List Int) : ∀ {K : PySem.W.Frag} {H : Hp}, Paired (Xb K H) (ns.map V.int) ns:=by
  intro K H
  induction ns with
  | nil=>exact .nil
  | cons n r ih=>exact .cons rfl ih
structure EqOk {α : Type} [DecidableEq α] (r : Enc α) (d : Nat) : Prop where
  uniq : ∀ {X : Cx} {pins : List (Addr × Obj)} {σ : St} {H : Hp} {s : Shared} {x : V} {a b : α}, Inv X pins σ H s -> r X.K H x a -> r X.K H x b -> a = b
  eq : ∀ {X : Cx} {pins : List (Addr × Obj)} {σ : St} {H : Hp} {s : Shared} {x y : V} {v u : Value} {a b : α} {A : Around}, Inv X pins σ H s -> X7 x v -> X7 y u -> r X.K H x a -> r X.K H y b -> A.units + d < cLine -> SeqAt.EqAt A s v u (decide (a = b))
  rc : ∀ {X : Cx} {pins : List (Addr × Obj)} {σ : St} {H : Hp} {s : Shared} {x y : V} {v u : Value} {a b : α} {A : Around}, Inv X pins σ H s -> X7 x v -> X7 y u -> r X.K H x a -> r X.K H y b -> A.units + d < cLine -> SeqAt.RcAt A s v u (decide (a = b))
  ne : ∀ {X : Cx} {pins : List (Addr × Obj)} {σ : St} {H : Hp} {s : Shared} {x y : V} {v u : Value} {a b : α} {A : Around}, Inv X pins σ H s -> X7 x v -> X7 y u -> r X.K H x a -> r X.K H y b -> A.units + d < cLine -> SeqAt.RcNeAt A s v u (!decide (a = b))
  keep : ∀ {K : PySem.W.Frag} {H H' : Hp} {x : V} {a : α}, Xr H H' -> r K H x a -> r K H' x a
theorem EqOk.up {α : Type} [DecidableEq α] {r : Enc α} {d e : Nat} (E : EqOk r d) (h : d <= e) : EqOk r e:=
  ⟨E.uniq, fun I rx ry h1 h2 hu=>E.eq I rx ry h1 h2 (by omega), fun I rx ry h1 h2 hu=>E.rc I rx ry h1 h2 (by omega), fun I rx ry h1 h2 hu=>E.ne I rx ry h1 h2 (by omega), E.keep⟩
theorem ZN (A : Around) : A.in1.units = A.units + 1:=rfl
theorem CZ {a b : Int} : (a == b) = decide (a = b):=by rw [Bool.eq_iff_iff]; simp
theorem eq_int : EqOk Xb 0 where
  uniq:=fun _ h1 h2=>by
    have h1' : _ = V.int _:=h1
    have h2' : _ = V.int _:=h2
    rw [h1'] at h2'; injection h2'
  eq:=fun {X pins σ H s x y v u a b A} I rx ry h1 h2 _=>by
    have h1' : x = V.int a:=h1
    have h2' : y = V.int b:=h2
    subst h1' h2'
    obtain ⟨t, rfl⟩:=rx
    obtain ⟨t', rfl⟩:=ry
    rw [← CZ]; exact SeqAt.EqAt.int_int a t b t'
  rc:=fun {X pins σ H s x y v u a b A} I rx ry h1 h2 _=>by
    have h1' : x = V.int a:=h1
    have h2' : y = V.int b:=h2
    subst h1' h2'
    obtain ⟨t, rfl⟩:=rx
    obtain ⟨t', rfl⟩:=ry
    rw [← CZ]; exact SeqAt.RcAt.int_int a t b t'
  ne:=fun {X pins σ H s x y v u a b A} I rx ry h1 h2 _=>by
    have h1' : x = V.int a:=h1
    have h2' : y = V.int b:=h2
    subst h1' h2'
    obtain ⟨t, rfl⟩:=rx
    obtain ⟨t', rfl⟩:=ry
    rw [← CZ]; exact SeqAt.RcNeAt.int_int a t b t'
  keep:=fun _ h=>h
theorem F6 {α : Type} [DecidableEq α] {as bs : List α} (h : as.length = bs.length) : (List.range as.length).all (fun j=>decide (as[j]? = bs[j]?)) = decide (as = bs):=by
  rw [Bool.eq_iff_iff]
  simp only [List.all_eq_true, List.mem_range, decide_eq_true_eq]
  constructor
  . intro hh
    apply List.ext_getElem?
    intro i
    by_cases hi : i < as.length
    . exact hh i hi
    . rw [List.getElem?_eq_none (by omega), List.getElem?_eq_none (by omega)]
  . rintro rfl; intros; rfl
theorem Paired.uniq {α β : Type} {F : α -> β -> Prop} (hu : ∀ a b c, F a b -> F a c -> b = c) : ∀ {l : List α} {m m' : List β}, Paired F l m -> Paired F l m' -> m = m'
  | _, _, _, .nil, .nil=>rfl
  | _, _, _, .cons r t, .cons r' t'=>by rw [hu _ _ _ r r', Paired.uniq hu t t']
theorem Paired.imp2 {α β : Type} {F G : α -> β -> Prop} (h : ∀ a b, F a b -> G a b) : ∀ {l : List α} {m : List β}, Paired F l m -> Paired G l m
  | _, _, .nil=>.nil
  | _, _, .cons r t=>.cons (h _ _ r) (Paired.imp2 h t)
section
variable {α : Type} [DecidableEq α] {r : Enc α} {d : Nat}
theorem VS (E : EqOk r d) {X : Cx} {pins : List (Addr × Obj)} {σ : St} {H : Hp} {s : Shared} {A : Around} (I : Inv X pins σ H s) (hu : A.units + (d + 1) < cLine) {xs ys : List V} {as bs : List α} {its its2 : List Value}
    (r1 : X3 xs its) (r2 : X3 ys its2) (p1 : Paired (r X.K H) xs as) (p2 : Paired (r X.K H) ys bs) :
    ∀ j (h1 : j < its.toArray.size) (h2 : j < its2.toArray.size), SeqAt.EqAt A.in1 s its.toArray[j] its2.toArray[j] (decide (as[j]? = bs[j]?)):=by
  intro j h1 h2
  have h1' : j < its.length:=by simpa using h1
  have h2' : j < its2.length:=by simpa using h2
  obtain ⟨x, ex, rx⟩:=Paired.getR (i:=j) (b:=its[j]) r1 (by simp [h1'])
  obtain ⟨y, ey, ry⟩:=Paired.getR (i:=j) (b:=its2[j]) r2 (by simp [h2'])
  obtain ⟨a, ea, ra⟩:=Paired.getL p1 ex
  obtain ⟨b, eb, rb⟩:=Paired.getL p2 ey
  have:=E.eq (A:=A.in1) I rx ry ra rb (by rw [ZN]; omega)
  rw [ea, eb]
  simpa using this
theorem DX (E : EqOk r d) : EqOk (rL r) (d + 1):=by
  have un : ∀ {X : Cx} {pins : List (Addr × Obj)} {σ : St} {H : Hp} {s : Shared} {x : V} {a b : List α}, Inv X pins σ H s -> rL r X.K H x a -> rL r X.K H x b -> a = b:=by
    intro X pins σ H s x as bs I h1 h2
    obtain ⟨a, xs, rfl, q1, p1⟩:=h1
    obtain ⟨b, ys, e, q2, p2⟩:=h2
    cases e
    cases I.list_inj q1 q2
    exact Paired.uniq (F:=r X.K H) (fun _ _ _ z z'=>E.uniq I z z') p1 p2
  have rc : ∀ {X : Cx} {pins : List (Addr × Obj)} {σ : St} {H : Hp} {s : Shared} {x y : V} {v u : Value} {a b : List α} {A : Around}, Inv X pins σ H s -> X7 x v -> X7 y u -> rL r X.K H x a -> rL r X.K H y b -> A.units + (d + 1) < cLine -> SeqAt.RcAt A s v u (decide (a = b)):=by
    intro X pins σ H s x y v u as bs A I rx ry h1 h2 hu
    obtain ⟨a, xs, rfl, q1, p1⟩:=h1
    obtain ⟨b, ys, rfl, q2, p2⟩:=h2
    cases rx; cases ry
    obtain ⟨its, r1, l1, _⟩:=I.list q1
    obtain ⟨its2, r2, l2, _⟩:=I.list q2
    have n1:=r1.length
    have n2:=r2.length
    have m1:=Paired.len p1
    have m2:=Paired.len p2
    by_cases hl : as.length = bs.length
    . have := SeqAt.RcAt.lists (A := A) (e := fun j => decide (as[j]? = bs[j]?)) l1.isList l2.isList (by simp only [List.size_toArray]; omega) (by omega) (VS E I hu r1 r2 p1 p2)
      rw [show its.toArray.size = as.length by simp only [List.size_toArray]; omega, F6 hl] at this
      exact this
    . rw [decide_eq_false (fun e => hl (congrArg List.length e))]
      exact SeqAt.RcAt.lists_lengths l1.isList l2.isList (by simp only [List.size_toArray, bne_iff_ne]; omega) (by omega)
  refine ⟨un, ?_, rc, ?_, ?_⟩
  . intro X pins σ H s x y v u as bs A I rx ry h1 h2 hu
    obtain ⟨a, xs, rfl, q1, p1⟩:=id h1
    obtain ⟨b, ys, rfl, q2, p2⟩:=id h2
    have R:=rc (A:=A) I rx ry h1 h2 hu
    cases rx; cases ry
    by_cases e : a = b
    . subst e
      rw [decide_eq_true (un I h1 h2)]
      exact SeqAt.EqAt.same _
    . exact SeqAt.EqAt.of_refs e R
  . intro X pins σ H s x y v u as bs A I rx ry h1 h2 hu
    obtain ⟨a, xs, rfl, q1, p1⟩:=h1
    obtain ⟨b, ys, rfl, q2, p2⟩:=h2
    cases rx; cases ry
    obtain ⟨its, r1, l1, _⟩:=I.list q1
    obtain ⟨its2, r2, l2, _⟩:=I.list q2
    have n1:=r1.length
    have n2:=r2.length
    have m1:=Paired.len p1
    have m2:=Paired.len p2
    by_cases hl : as.length = bs.length
    . have := SeqAt.RcNeAt.lists (A := A) (e := fun j => decide (as[j]? = bs[j]?)) l1.isList l2.isList (by simp only [List.size_toArray]; omega) (by omega) (VS E I hu r1 r2 p1 p2)
      rw [show its.toArray.size = as.length by simp only [List.size_toArray]; omega, F6 hl] at this
      exact this
    . rw [decide_eq_false (fun e => hl (congrArg List.length e))]
      exact SeqAt.RcNeAt.lists_lengths l1.isList l2.isList (by simp only [List.size_toArray, bne_iff_ne]; omega) (by omega)
  . intro K H H' x as e h
    obtain ⟨a, xs, rfl, q1, p1⟩:=h
    exact ⟨a, xs, rfl, e.seq q1, Paired.imp2 (fun _ _ z=>E.keep e z) p1⟩
end
section
variable {α β : Type} [DecidableEq α] [DecidableEq β] {r : Enc α} {q : Enc β} {d : Nat}
end
section
variable {X : Cx} {α : Type} [DecidableEq α] {r : Enc α} {d : Nat}
noncomputable def LT (K : PySem.W.Frag) (r : Enc α) : R2:=fun x y H Q=>∃ a b, r K H x a /\ r K H y b /\ Q (.bl (decide (a = b))) H
noncomputable def L1 (K : PySem.W.Frag) (r : Enc α) : R2:=fun x y H Q=>∃ a b, r K H x a /\ r K H y b /\ Q (.bl (!decide (a = b))) H
theorem Ik (E : EqOk r d) (hu : X.A.units + d < cLine) : OpR X (compareOp .Eq) (LT X.K r):=by
  intro pins s σ H x y v u Q I rx ry h
  obtain ⟨a, b, h1, h2, q⟩:=h
  exact E.rc (A:=X.A) I rx ry h1 h2 hu _ _ _ _ ⟨.bl _, H, I, rfl, q⟩
theorem Il (E : EqOk r d) (hu : X.A.units + d < cLine) : OpR X (compareOp .NotEq) (L1 X.K r):=by
  intro pins s σ H x y v u Q I rx ry h
  obtain ⟨a, b, h1, h2, q⟩:=h
  exact E.ne (A:=X.A) I rx ry h1 h2 hu _ _ _ _ ⟨.bl _, H, I, rfl, q⟩
theorem Zp : Qc X (.builtin "isinstance") (fun xs H Q=>∃ x n t b, xs = [x, .ty n] /\ TyOf X.K H x t /\ PySem.W.kitOne X.K t (.type n) = some b /\ Q (.bl b) H):=by
  intro pins s σ H xs us Q I r h
  obtain ⟨x, n, t, b, rfl, ty, e, q⟩:=h
  obtain ⟨u, v, rfl, ru, rv⟩:=X3.two r
  cases (show v = Value.type n from rv)
  exact FK I ru ty e fun tk=>⟨.bl b, H, I.tok tk, rfl, q⟩
theorem V0 : OpR X (binaryOp .FloorDiv) (rI (fun _ j=>0 < j /\ j.natAbs.log2 < 9000) fun i j=>.int (i / j)):=opI fun i j _ _ _ _ _ hc q=>by
  refine floordiv_int (by omega) ?_ (.inl (PyProof.noPylong_of_log2 hc.2))
  rw [Int.fdiv_eq_ediv_of_nonneg i (by omega)]
  exact q
end
end L2
namespace PySem
open Sem (wp)
section
variable {prog : Program} {w : World} {A : Around} {E : Value -> Shared -> Prop} {s : Shared}
end
end PySem
namespace L2
open PySem PySem.Spec PyProof.Rows
theorem FC {α β : Type} {F : α -> β -> Prop} : ∀ {l : List α} {m : List β} {i : Nat} {b : β}, Paired F l m -> m[i]? = some b -> ∃ a, l[i]? = some a /\ F a b
  | _, _, _, _, .nil, e=>by simp at e
  | _, _, 0, _, .cons r _, e=>by simp at e; subst e; exact ⟨_, rfl, r⟩
  | _, _, i + 1, b, .cons _ t, e=>by
    obtain ⟨a, h1, h2⟩:=FC (i:=i) (b:=b) t (by simpa using e)
    exact ⟨a, by simpa using h1, h2⟩
section
variable {X : Cx} {e : Expr} {te : TE}
end
end L2
namespace L2
open PySem PySem.Spec PyProof.Rows
section
variable {X : Cx} {pins : List (Addr × Obj)} {σ : St} {H : Hp} {s : Shared} {h' : Heap}
theorem Inv.turnLay {t' : Nat} {ch : List Addr} {T : Addr} {u : HO} (I : Inv X pins σ H s) (k : ∀ b o, b ∉ ch -> s.heap.get? b = some o -> h'.get? b = some o) (hf : ∀ b ∈ ch, Kx X pins H b)
    (hp : s.heap.objs.size <= T) (new : Zb X.prog X.w (upd H T u) h' T u) : Inv X pins σ (upd H T u) { s with heap:=h', toks:=t' }:=by
  have hn : H T = none:=I.hok.fresh hp
  have nit : ∀ b o, H b = some o -> b ∉ ch:=fun b o e z=>by rw [(hf b z).1] at e; cases e
  refine I.step (g':=s.gens) (d':=s.drawn) (ch:=ch) (fun b hb=>?_) (fun b o _ _ hc e _=>k b o hc e) (fun b o _ _ hc e _=>⟨o.slots, k b o hc e⟩)
    (fun b o _ e n=>by rw [XJ (Nat.ne_of_lt (Nat.lt_of_lt_of_le (Heap.lt_size e) hp))]; exact n)
    (fun b o hc e=>⟨o, k b o hc e⟩) (fun b xs e=>by rw [XJ (XR e hn)]; exact e) (fun b o xs e=>by rw [XJ (XR e hn)]; exact e) (fun b ps e=>⟨#[], by rw [XJ (XR e hn), e]; simp⟩) (fun m hm=>?_) (fun b v e=>?_) I.bare
  . obtain ⟨f0, f1, f2, f3, f4, f5⟩ := hf b hb
    exact ⟨f3, f1, f4, f5⟩
  . obtain ⟨o, es, ep, ho, r⟩ := hm
    exact ⟨o, es, ep, k _ o (fun z=>(hf _ z).2.1 rfl) ho, r⟩
  . by_cases hb : b = T
    . subst hb; rw [YA] at e; cases e; exact new
    . rw [XJ hb] at e
      refine (I.hok b v e).stay (fun c o hc q=>k c o ?_ q) (fun c q=>by rw [XJ (XR q hn)]; exact q) fun c xs q=>by rw [XJ (XR q hn)]; exact q
      rcases hc with z | z
      . rw [z]; exact nit b v e
      . exact nit c _ z
end
noncomputable def Ite (K : PySem.W.Frag) (a : Addr) : It:=
  ⟨fun i H=>∃ xs x, SqL K H a xs /\ xs[i]? = some x, fun i H y H'=>∃ p x, y = .ref p /\ H p = none /\ H' = upd H p (.tup [.int (i : Int), x]) /\ ∀ xs, SqL K H a xs -> xs[i]? = some x, fun i H=>∃ xs, SqL K H a xs /\ xs.length <= i⟩
theorem Dh {P : Program} {w : World} {K : PySem.W.Frag} {elts : List Expr} {k : Nat} {pos : Pos} (a e it : Addr) (h1 : e ≠ it) (h2 : a ≠ e) (h3 : a ≠ it) :
    Turn P w K (.Tuple elts k pos) (Ite K a) [e, it] e (fun i h=>(∃ old, IsEnum h e it (i : Int) old) /\ h.IsListIter it a i) where
  mem:=by simp
  obj:=fun i h st b hb=>by
    obtain ⟨⟨old, eo⟩, o, io, c, d⟩:=st
    rcases List.mem_cons.mp hb with z | z
    . subst z
      exact ⟨_, eo, fun v z=>by cases z⟩
    . have z := List.mem_singleton.mp z
      subst z
      exact ⟨o, io, fun v z=>by rw [d] at z; cases z⟩
  keep:=fun i h h' st k=>⟨let ⟨old, eo⟩:=st.1; ⟨old, k e (by simp) _ eo⟩, st.2.at fun o q=>k it (by simp) o q⟩
  item:=by
    intro X hP hw hK hc i pins s σ H E I hf st hg
    subst hP hw hK
    obtain ⟨xs, x, hq, hx⟩:=hg
    obtain ⟨its, rv, p, hz⟩:=I.list hq
    obtain ⟨u, hu, ru⟩:=rv.get hx
    obtain ⟨⟨old, eo⟩, io⟩:=id st
    have hu' : its.toArray[i]? = some u:=by simpa using hu
    have W:=WalksT.enumerate (prog:=X.prog) (w:=X.w) (A:=X.A) (I.ok.hd hc) e it a h1 h2 h3 its.toArray
    refine wpAny_pyNext_enum_item eo io p.isList hu' h1 fun h' eo' io' tup sz kk=>?_
    have hT : ∀ b o, s.heap.get? b = some o -> s.heap.objs.size ≠ b:=fun b o q z=>absurd (Heap.lt_size q) (by rw [← z]; exact Nat.lt_irrefl _)
    have hTe:=hT e _ eo
    have hTi : s.heap.objs.size ≠ it:=by obtain ⟨o, q, _⟩:=io; exact hT it o q
    have ha' : h'.IsList a its.toArray:=p.isList.at fun o q=>kk a o h2 h3 q
    refine ⟨_, rfl, W.go elts k pos i s.heap.objs.size _ _ _ ⟨⟨_, eo'⟩, io', ha', hTe, hTi⟩ fun h'' st' kk'=>?_⟩
    obtain ⟨st2, io2, _⟩:=st'
    have tup2:=kk' _ _ (by simp [hTe, hTi]) tup
    have k2 : ∀ b o, b ∉ [e, it] -> s.heap.get? b = some o -> h''.get? b = some o:=fun b o q1 q=>kk' b o q1 (kk b o (fun z=>q1 (by simp [z])) (fun z=>q1 (by simp [z])) q)
    refine ⟨.ref s.heap.objs.size, upd H s.heap.objs.size (.tup [.int (i : Int), x]), I.turnLay (h':=h'') (t':=s.toks + 1) k2 hf (Nat.le_refl _) ⟨by show 2 <= sizeLine; decide, [.int (i : Int) s.toks, u], .cons ⟨_, rfl⟩ (.cons ru .nil), ⟨_, tup2, rfl, _, rfl⟩⟩, rfl,
      ⟨_, x, rfl, I.hok.fresh (Nat.le_refl _), rfl, fun ys hy=>by rw [I.list_inj hy hq]; exact hx⟩, ⟨by simpa using st2, io2⟩, fun b hb=>?_⟩
    rcases List.mem_cons.mp hb with z | z
    . rw [z, XJ hTe.symm]; exact (hf e (by simp)).1
    . rw [List.mem_singleton.mp z, XJ hTi.symm]; exact (hf it (by simp)).1
  done:=by
    intro X hP hw hK hc i pins s σ H E I hf st hg
    subst hP hw hK
    obtain ⟨xs, hq, hx⟩:=hg
    obtain ⟨its, rv, p, hz⟩:=I.list hq
    obtain ⟨⟨old, eo⟩, io⟩:=id st
    obtain ⟨f0, f1, f2, f3, f4, f5⟩:=hf it (by simp)
    have hl:=rv.length
    exact wpAny_pyNext_enum_end (I.ok.hd hc) eo io p.isList (by simp; omega) fun h' eb=>⟨rfl, I.turned (t':=s.toks) (fun b o hb q=>eb b o hb q) f0 f1 f3 f4 f5⟩
  self:=by
    intro A i s Q E st h
    obtain ⟨⟨old, eo⟩, io⟩:=st
    exact wpAny_pyIter_enum eo h
section
variable {X : Cx} {elts : List Expr} {k : Nat} {pos0 : Pos}
noncomputable def Ig (K : PySem.W.Frag) (tl : TE) : TI:=fun σ H R=>tl σ H fun x H1=>∃ a, x = .ref a /\ (∃ xs, SqL K H1 a xs) /\ R (Ite K a) H1
theorem Ue {l : Expr} {tl : TE} {p pos : Pos} (hg : Gl X "enumerate") (hm : X.mg "enumerate" = none) (hl : PE X l tl) (hs : starEach [l] X.env = [(false, eval l X.env)]:=by rfl) :
    PI X (.Tuple elts k pos0) (.Call (.Name "enumerate" p) [l] [] pos) (Ig X.K tl):=by
  intro pins s σ H R I h
  refine wpAny_Call_Name_kw (Jv I hg hm boot_enumerate ?_)
  refine PyProof.Rows.callWith_type1 ?_ hs rfl
  rw [hs]
  show wpAny _ _ (spliced ((false, eval l X.env) :: backTo pos [])) _ _ s
  refine Calls.spliced_cons (thn (hl pins s σ H _ I h) fun v s1 ⟨x, H1, I1, r1, a, ex, ⟨xs, hq⟩, q⟩=>?_)
  subst ex
  cases r1
  obtain ⟨its, rv, pl, hz⟩:=I1.list hq
  refine Calls.spliced_nil ?_
  have hlt : a < s1.heap.objs.size:=by obtain ⟨o, n, ho, _⟩:=pl; exact Heap.lt_size ho
  refine call_enumerate_list pl.isList fun h' en io sz kk=>?_
  refine wpAny_pyIter_enum en ?_
  refine ⟨_, [s1.heap.objs.size + 1, s1.heap.objs.size], _, _, H1, rfl, I1.kept (t':=s1.toks) kk, Dh a _ _ (Nat.ne_of_gt (Nat.lt_succ_self _)) (Nat.ne_of_lt (Nat.lt_succ_of_lt hlt)) (Nat.ne_of_lt hlt), ⟨⟨_, en⟩, io⟩, fun b hb=>?_, q⟩
  have hb' : s1.heap.objs.size <= b:=by
    rcases List.mem_cons.mp hb with z | z
    . rw [z]; exact Nat.le_succ _
    . rw [List.mem_singleton.mp z]; exact Nat.le_refl _
  exact I1.fpOk hb' (I1.hok.fresh hb')
end
section
variable {X : Cx}
end
section
variable {α : Type} [DecidableEq α] {r : Enc α} {d : Nat}
end
end L2
namespace L2
open PySem PySem.Spec PyProof.Rows
section
variable {X : Cx} {o e f : Expr} {td ty tx : TE} {apos cpos : Pos}
end
end L2
namespace L2
open PySem PySem.Spec PyProof.Rows
theorem YL : ∀ (names : List (Str × NameKind)) (n : Nat) (acc : List (Str × Addr)) {x : Str}, (x, NameKind.cell) ∉ names -> (cellsFrom n names acc).lookup x = acc.lookup x
  | [], _, _, _, _=>rfl
  | (y, k) :: r, n, acc, x, h=>by
    have hr : (x, NameKind.cell) ∉ r:=fun z=>h (List.mem_cons_of_mem _ z)
    unfold cellsFrom
    split
    . rename_i hk
      have hk' : k = NameKind.cell:=by simpa using hk
      rw [YL r _ _ hr, List.lookup_cons]
      have : (x == y) = false:=beq_eq_false_iff_ne.mpr fun e=>h (by rw [e, hk']; exact List.mem_cons_self)
      rw [this]
    . exact YL r _ _ hr
theorem ZV : ∀ (names : List (Str × NameKind)) (n : Nat) (acc : List (Str × Addr)) {x : Str} {c : Addr}, (x, NameKind.cell) ∈ names -> (cellsFrom n names acc).lookup x = some c -> n <= c
  | [], _, _, _, _, h, _=>nomatch h
  | (y, k) :: r, n, acc, x, c, h, e=>by
    unfold cellsFrom at e
    split at e
    . by_cases hr : (x, NameKind.cell) ∈ r
      . exact Nat.le_of_succ_le (ZV r _ _ hr e)
      . rw [YL r _ _ hr, List.lookup_cons] at e
        rcases List.mem_cons.mp h with h | h
        . have hx : x = y := congrArg Prod.fst h
          rw [hx, beq_self_eq_true] at e
          exact Nat.le_of_eq (Option.some.inj e)
        . exact absurd h hr
    . rename_i hk
      rcases List.mem_cons.mp h with h | h
      . exact absurd (by simpa using (congrArg Prod.snd h).symm) hk
      . exact ZV r _ _ h e
theorem ZR : ∀ (names : List (Str × NameKind)) (n : Nat) (acc : List (Str × Addr)) {x : Str}, ((x, NameKind.cell) ∈ names ∨ ∃ c, acc.lookup x = some c) -> ∃ c, (cellsFrom n names acc).lookup x = some c
  | [], _, _, _, h=>h.elim (fun z=>nomatch z) id
  | (y, k) :: r, n, acc, x, h=>by
    unfold cellsFrom
    split
    . refine ZR r _ _ ?_
      by_cases hx : x = y
      . subst hx; exact .inr ⟨n, by rw [List.lookup_cons]; simp⟩
      . rcases h with h | ⟨c, h⟩
        . rcases List.mem_cons.mp h with h | h
          . exact absurd (congrArg Prod.fst h) hx
          . exact .inl h
        . exact .inr ⟨c, by rw [List.lookup_cons, beq_eq_false_iff_ne.mpr hx]; exact h⟩
    . rename_i hk
      refine ZR r _ _ ?_
      rcases h with h | h
      . rcases List.mem_cons.mp h with h | h
        . exact absurd (by simpa using (congrArg Prod.snd h).symm) hk
        . exact .inl h
      . exact .inr h
theorem ZU : ∀ (names : List (Str × NameKind)) (n : Nat) (acc : List (Str × Addr)), (∀ x y c, acc.lookup x = some c -> acc.lookup y = some c -> x = y) -> (∀ x c, acc.lookup x = some c -> c < n) ->
    ∀ x y c, (cellsFrom n names acc).lookup x = some c -> (cellsFrom n names acc).lookup y = some c -> x = y
  | [], _, _, h, _=>h
  | (z, k) :: r, n, acc, h, hl=>by
    unfold cellsFrom
    split
    . refine ZU r (n + 1) _ (fun x y c h1 h2 => ?_) fun x c h1 => ?_
      . rw [List.lookup_cons] at h1 h2
        cases hx : x == z <;> cases hy : y == z <;> rw [hx] at h1 <;> rw [hy] at h2 <;> simp only at h1 h2
        . exact h x y c h1 h2
        . cases h2; exact absurd (hl x n h1) (Nat.lt_irrefl _)
        . cases h1; exact absurd (hl y n h2) (Nat.lt_irrefl _)
        . rw [beq_iff_eq.mp hx, beq_iff_eq.mp hy]
      . rw [List.lookup_cons] at h1
        cases hx : x == z <;> rw [hx] at h1 <;> simp only at h1
        . exact Nat.lt_succ_of_lt (hl x c h1)
        . cases h1; exact Nat.lt_succ_self _
    . exact ZU r n acc h hl
theorem ZH : ∀ (names : List (Str × NameKind)) (h : Heap) (acc : List (Str × Addr)) {x : Str} {c : Addr}, (cellsFrom h.objs.size names acc).lookup x = some c -> acc.lookup x = some c ∨ ((pushCells h names).IsCell c none /\ h.objs.size <= c)
  | [], _, _, _, _, e=>.inl e
  | (z, k) :: r, h, acc, x, c, e=>by
    unfold cellsFrom at e
    unfold pushCells
    split at e
    . rename_i hk
      rw [if_pos hk]
      have e' : (cellsFrom (h.push { cls:=.type "cell", data:=.cell none }).objs.size r ((z, h.objs.size) :: acc)).lookup x = some c:=by rw [Heap.size_push]; exact e
      rcases ZH r _ _ e' with q | ⟨q1, q2⟩
      . rw [List.lookup_cons] at q
        cases hx : x == z <;> rw [hx] at q <;> simp only at q
        . exact .inl q
        . cases q
          exact .inr ⟨⟨_, pushCells_keeps _ _ _ _ (Heap.get?_push_size _ rfl), rfl⟩, Nat.le_refl _⟩
      . exact .inr ⟨q1, by rw [Heap.size_push] at q2; omega⟩
    . rename_i hk
      rw [if_neg hk]
      exact ZH r h acc e
theorem VE : ∀ {l : List (Str × NameKind)} {x : Str} {j k : NameKind}, (l.map (·.1)).Nodup -> (x, j) ∈ l -> (x, k) ∈ l -> j ≠ k -> False
  | [], _, _, _, _, h, _, _=>nomatch h
  | (y, i) :: r, x, j, k, hn, h1, h2, ne=>by
    rw [List.map_cons, List.nodup_cons] at hn
    rcases List.mem_cons.mp h1 with h1 | h1 <;> rcases List.mem_cons.mp h2 with h2 | h2
    . cases h1; cases h2; exact ne rfl
    . cases h1; exact hn.1 (List.mem_map.mpr ⟨_, h2, rfl⟩)
    . cases h2; exact hn.1 (List.mem_map.mpr ⟨_, h1, rfl⟩)
    . exact VE hn.2 h1 h2 ne
theorem Qi {env : Env} : ∀ {names : List (Str × NameKind)} {x : Str} {k : NameKind},
    (names.map fun (n, k)=>if (k == NameKind.free && env.scope.kind == .function && env.kindOf n == some .cell) then (n, NameKind.cell) else (n, k)).lookup x = some k -> (k = .cell ∨ k = .free) -> (x, NameKind.free) ∈ names ∨ (x, NameKind.cell) ∈ names
  | [], _, _, h, _=>by simp at h
  | (n, kk) :: r, x, k, h, hk=>by
    have ih:=@Qi env r x k
    simp only [List.map_cons] at h
    have up : ((x, NameKind.free) ∈ r ∨ (x, NameKind.cell) ∈ r) -> ((x, NameKind.free) ∈ (n, kk) :: r ∨ (x, NameKind.cell) ∈ (n, kk) :: r):=fun z=>z.elim (fun z=>.inl (List.mem_cons_of_mem _ z)) fun z=>.inr (List.mem_cons_of_mem _ z)
    by_cases hcond : (kk == NameKind.free && env.scope.kind == .function && env.kindOf n == some .cell) = true
    . rw [if_pos hcond, List.lookup_cons] at h
      have hfree : kk = NameKind.free:=by
        rw [Bool.and_eq_true, Bool.and_eq_true] at hcond
        simpa using hcond.1.1
      cases hx : x == n with
      | true=>
        have : x = n:=by simpa using hx
        subst this; subst hfree
        exact .inl List.mem_cons_self
      | false=>rw [hx] at h; exact up (ih h hk)
    . rw [if_neg hcond, List.lookup_cons] at h
      cases hx : x == n with
      | true=>
        rw [hx] at h
        have hkk : kk = k:=Option.some.inj h
        have : x = n:=by simpa using hx
        subst this; subst hkk
        rcases hk with z | z
        . subst z; exact .inr List.mem_cons_self
        . subst z; exact .inl List.mem_cons_self
      | false=>rw [hx] at h; exact up (ih h hk)
theorem GE {M : Model} {A : Around} {E : Value -> Shared -> Prop} {s : Shared} {scope : Scope} {globals : Addr} {cl : List (Str × Addr)} {qual : Str} {outer : Env} {Q : Env -> Shared -> Prop}
    (hQ : ∀ h', h'.Ns s.heap.objs.size (fun _=>none) -> (∀ b o, s.heap.get? b = some o -> h'.get? b = some o) ->
      (∀ x c, (cellsFrom (s.heap.objs.size + 1) scope.names cl).lookup x = some c -> cl.lookup x = some c ∨ (h'.IsCell c none /\ s.heap.objs.size + 1 <= c)) ->
      Q (newEnv scope s.heap.objs.size globals (cellsFrom (s.heap.objs.size + 1) scope.names cl) qual none .none (some outer) builtinsNs) { s with heap:=h' }) :
    wpAny M A (newFunctionEnv scope globals cl [] qual none .none (some outer)) Q E s:=by
  simp only [newFunctionEnv, Option.isSome_some, if_true]
  refine wpAny_bind (wpAny_alloc ?_)
  refine wpAny_bind (wpAny_layCells _ (fun name kind cells=>by cases hkc : kind == NameKind.cell <;> simp [hkc]) _ _ _ _ ?_)
  rw [show ({ s with heap:=s.heap.push { cls:=.type "dict", data:=.dict #[] } } : Shared).heap.objs.size = s.heap.objs.size + 1 from Heap.size_push ..]
  rw [List.forIn_nil]
  refine wpAny_bind (wpAny_pure (wpAny_pure (hQ _ ((Heap.Ns.new s.heap (.type "dict")).keeps (pushCells_keeps _ _)) (fun b o e=>pushCells_keeps _ _ b o (Heap.get?_push_of_some _ e)) fun x c e=>?_)))
  have e' : (cellsFrom (s.heap.push { cls:=.type "dict", data:=.dict #[] }).objs.size scope.names cl).lookup x = some c:=by rw [Heap.size_push]; exact e
  rcases ZH scope.names _ cl e' with q | ⟨q1, q2⟩
  . exact .inl q
  . exact .inr ⟨q1, by rw [Heap.size_push] at q2; exact q2⟩
noncomputable def J9 (sc scope : Scope) (N0 tns : List Str) (caps : List (Nat × Str)) : Bool:=
  scope.kind == .function && decide (scope.names.map (·.1)).Nodup && scope.names.all (fun y=>!(y.2 == .local) || scope.names.lookup y.1 == some .local) &&
  scope.names.all (fun y=>!(y.2 == .free) || (sc.names.lookup y.1 == some .cell || sc.names.lookup y.1 == some .free)) && caps.all (fun p=>N0[p.1]? == some p.2 && (sc.names.lookup p.2 == some .cell || sc.names.lookup p.2 == some .free) && scope.names.lookup p.2 == some .free)
noncomputable abbrev Cx.compN (X : Cx) (N : List Str) (scope : Scope) (cl : List (Str × Addr)) (C : Addr) (s : Shared) (H : Hp) (ex : List Addr) (E : Value -> Shared -> Prop) : Cx:=
  { X.comp N scope cl C s H ex E with fn:=fun x=>scope.names.lookup x == some .cell }
noncomputable def Lz (scope sc : Scope) : Scope:=
  { scope with names:=scope.names.map fun (n, k)=>if (k == .free && sc.kind == .function && sc.names.lookup n == some .cell) then (n, .cell) else (n, k) }
section
variable {X : Cx} {elt tg iter : Expr} {ifs : List Expr} {scope sc : Scope} {pos : Pos} {n : Nat} {tns : List Str} {caps : List (Nat × Str)} {wi : TI} {g : TG} {tt : TT} {te : TE}
theorem KA {N0 : List Str} (hc : X.calm = true) (hsc : X.env.scope = sc) (hN0 : X.N = N0) (ok : J9 sc scope N0 tns caps = true) (hn : tns.length = n) (hG : J1 n g)
    (hb : ∀ cl C s H ex E, PG (X.compN (tns ++ caps.map (·.2)) scope cl C s H ex E) tg g /\ PTs (X.compN (tns ++ caps.map (·.2)) scope cl C s H ex E) ifs tt /\ PE (X.compN (tns ++ caps.map (·.2)) scope cl C s H ex E) elt te)
    {pins : List (Addr × Obj)} {σ : St} {H : Hp} {s : Shared} {J : It} {fp : List Addr} {it : Addr} {tn : Nat -> Heap -> Prop} {cl : List (Str × Addr)} {Q : V -> Hp -> Prop} {RR : Value -> Addr -> Result -> Shared -> Prop}
    (I : Inv X pins σ H s) (T : Turn X.prog X.w X.K tg J fp it tn) (t0 : tn 0 s.heap) (hf : ∀ b ∈ fp, Kx X pins H b)
    (hsub : ∀ x c, cl.lookup x = some c -> X.env.cells.lookup x = some c) (hall : ∀ x, (x, NameKind.free) ∈ scope.names -> ∃ c, cl.lookup x = some c)
    (W : Nat -> Nat -> List V -> Hp -> Prop) {m0 : Nat} (w0 : W 0 m0 [] H)
    (turn : Bl g tt te (YH n caps σ) Q J W)
    (hRR : ∀ D C ys H3 s', CompEnd X pins σ H3 D C ys s' -> Q (.ref D) (upd H3 D (.lst ys)) -> RR (.ref D) C (.ok .next) s') {E : Value -> Shared -> Prop} :
    wpAny (model X.prog X.w) X.A (newList []) (fun acc s₃=>wpAny (model X.prog X.w) X.A (newFunctionEnv scope X.env.globals cl [] X.env.qual none .none (some X.env)) (fun cenv s₄=>
      codeAny (model X.prog X.w) X.A (.compStart (.ListComp elt [⟨tg, iter, ifs, 0⟩] scope pos) 0 (.ref it) acc { cenv with scope:=relabel scope X.env }) (RR acc cenv.locals) s₄) E s₃) E s:=by
  subst hsc
  subst hN0
  unfold J9 at ok
  simp only [Bool.and_eq_true, List.all_eq_true] at ok
  obtain ⟨⟨⟨⟨ok1, ok2⟩, ok3⟩, ok4⟩, ok5⟩:=ok
  have hkind : scope.kind = .function:=by simpa using ok1
  have hnd : (scope.names.map (·.1)).Nodup:=by simpa using ok2
  refine wpAny_newObj_type (GE (fun h₁ hns₁ hsb₁ hc₁=>?_))
  dsimp only at hns₁ hsb₁ hc₁ ⊢
  generalize hH2 : s.heap.push { cls:=.type "list", dict:=none, data:=.seq ([] : List Value).toArray } = H2 at hns₁ hsb₁ hc₁ ⊢
  have hC : H2.objs.size = s.heap.objs.size + 1:=by rw [← hH2, Heap.size_push]
  have hDC : s.heap.objs.size ≠ H2.objs.size:=by rw [hC]; exact Nat.ne_of_lt (Nat.lt_succ_self _)
  have hCle : s.heap.objs.size <= H2.objs.size:=by rw [hC]; exact Nat.le_succ _
  have below : ∀ b, b < s.heap.objs.size -> b ≠ H2.objs.size /\ b ≠ s.heap.objs.size:=fun b hb=>⟨by rw [hC]; exact Nat.ne_of_lt (Nat.lt_succ_of_lt hb), Nat.ne_of_lt hb⟩
  have old : ∀ b o, s.heap.get? b = some o -> h₁.get? b = some o:=fun b o e=>hsb₁ b o (hH2 ▸ Heap.get?_push_of_some _ e)
  have hacc : h₁.get? s.heap.objs.size = some { cls:=.type "list", data:=.seq ([] : List Value).toArray 0 }:=hsb₁ _ _ (hH2 ▸ Heap.get?_push_size _ rfl)
  have hst₁ : tn 0 h₁:=T.keep _ _ _ t0 fun b _ o e=>old b o e
  have cf2 : ∀ x, (x, NameKind.free) ∈ scope.names -> ∃ c, (cellsFrom (H2.objs.size + 1) scope.names cl).lookup x = some c /\ cl.lookup x = some c:=fun x hx=>by
    obtain ⟨c, hc⟩:=hall x hx
    exact ⟨c, by rw [YL scope.names _ _ (fun hm=>VE hnd hx hm (by decide))]; exact hc, hc⟩
  have cf3 : ∀ x, (x, NameKind.cell) ∈ scope.names -> ∃ c, (cellsFrom (H2.objs.size + 1) scope.names cl).lookup x = some c:=fun x hx=>ZR scope.names _ _ (.inl hx)
  have cf4 : ∀ x y c, (cellsFrom (H2.objs.size + 1) scope.names cl).lookup x = some c -> (cellsFrom (H2.objs.size + 1) scope.names cl).lookup y = some c -> x = y:=
    ZU scope.names _ _ (fun x y c h1 h2=>I.ok.inj x y c (hsub x c h1) (hsub y c h2)) (fun x c e=>by
      obtain ⟨v, z⟩:=I.cell x c (hsub x c e)
      exact Nat.lt_of_lt_of_le z.lt (by rw [hC]; omega))
  have cf5 : ∀ x c, scope.names.lookup x = some NameKind.cell -> (cellsFrom (H2.objs.size + 1) scope.names cl).lookup x = some c -> H2.objs.size + 1 <= c:=fun x c hx e=>ZV scope.names _ _ (PySem.mem_of_lookup hx) e
  generalize hcl : cellsFrom (H2.objs.size + 1) scope.names cl = cl' at *
  -- addresses
  generalize hD : s.heap.objs.size = D at *
  generalize hCe : H2.objs.size = C at *
  have fpLt : ∀ b ∈ fp, b < D:=fun b hb=>by
    obtain ⟨o, e, _⟩:=T.obj _ _ t0 b hb
    rw [← hD]; exact Heap.lt_size e
  have hDlt : D < C:=by omega
  have cellNe : ∀ x c, cl'.lookup x = some c -> c ≠ D:=fun x c e=>by
    rcases hc₁ x c e with q | ⟨_, q⟩
    . obtain ⟨v, z⟩ := I.cell x c (hsub x c q)
      rw [← hD]; exact Nat.ne_of_lt z.lt
    . exact Nat.ne_of_gt (Nat.lt_trans hDlt (Nat.lt_of_succ_le q))
  have fpNe : ∀ b ∈ fp, ∀ x c, cl'.lookup x = some c -> c ≠ b:=fun b hb x c e=>by
    rcases hc₁ x c e with q | ⟨_, q⟩
    . exact (hf b hb).2.2.2.2.1 x c (hsub x c q)
    . exact Nat.ne_of_gt (Nat.lt_trans (fpLt b hb) (Nat.lt_trans hDlt (Nat.lt_of_succ_le q)))
  let X' : Cx:=X.compN (tns ++ caps.map (·.2)) scope cl' C s H fp (notedBy (model X.prog X.w) X.A (compEnvC scope cl' C X.env) fun e s'=>RR (.ref D) C (.error e) s')
  have okX : X'.Ok:=by
    refine ⟨I.ok.mod, hkind, I.ok.glob, I.ok.blt, by show s.heap.objs.size <= C; omega, cf4, fun x hx=>?_, fun x c hx hcx=>(by show s.heap.objs.size <= c; have:=cf5 x c (by have hx2 : (scope.names.lookup x == some NameKind.cell) = true:=hx; simpa using hx2) hcx; omega), I.ok.hd, I.ok.frames, .inl rfl, fun b hb=>?_, I.bs, Nat.le_trans I.ok.bsz I.sz, fun b o e hb=>?_, fun b hb hz=>?_, I.stack, I.stkFree⟩
    . have hx' : (relabel scope X.env).names.lookup x = some .cell ∨ (relabel scope X.env).names.lookup x = some .free := hx
      have hz : (x, NameKind.free) ∈ scope.names ∨ (x, NameKind.cell) ∈ scope.names:=by
        rcases hx' with z | z
        . exact Qi z (.inl rfl)
        . exact Qi z (.inr rfl)
      rcases hz with z | z
      . obtain ⟨c, q, _⟩ := cf2 x z
        exact ⟨c, q⟩
      . exact cf3 x z
    . refine ⟨Nat.ne_of_lt (Nat.lt_trans (fpLt b hb) hDlt), fpNe b hb⟩
    . rcases (hf b hb).2.2.2.1 with z | z
      . exact I.ok.noex b o e z
      . exact absurd (Nat.lt_of_lt_of_le (Heap.lt_size e) (Nat.le_trans I.ok.bsz z)) (Nat.lt_irrefl _)
    . rcases List.mem_cons.mp (I.stkSub b hz) with z | z
      . exact (hf b hb).2.1 z
      . exact (hf b hb).2.2.1 z
  have lenc : (YH n caps σ).length = (tns ++ caps.map (·.2)).length:=by unfold YH; simp [hn]
  have I1 : ∀ tk, Inv X' [] (YH n caps σ) H { s with heap:=h₁, toks:=tk }:=fun tk=>by
    refine ⟨okX, rfl, I.bare, Un.kept old, ⟨_, hns₁, fun i x v e1 e2 e3=>?_⟩, fun x c e=>?_, I.hok.fresh (by rw [hD]; exact Nat.le_of_lt hDlt), fun x c e=>?fc, fun p hp=>absurd (show p ∈ ([] : List (Addr × Obj)) from hp) (by simp), I.hok.kept old, lenc⟩
    . have hi : n <= i:=by
        by_cases h : n <= i
        . exact h
        . have e2' : (YH n caps σ)[i]? = some (some v) := e2
          unfold YH at e2'
          rw [List.getElem?_append_left (by simp; omega), List.getElem?_replicate] at e2'
          split at e2' <;> cases e2'
      have e2' : (YH n caps σ)[i]? = some (some v):=e2
      unfold YH at e2'
      rw [List.getElem?_append_right (by simpa using hi), List.length_replicate, List.getElem?_map] at e2'
      have e1' : (tns ++ caps.map (·.2))[i]? = some x:=e1
      rw [List.getElem?_append_right (by rw [hn]; exact hi), hn, List.getElem?_map] at e1'
      cases hcp : caps[i - n]? with
      | none=>rw [hcp] at e2'; cases e2'
      | some p=>
        rw [hcp] at e2' e1'
        simp only [Option.map_some, Option.some.injEq] at e2' e1'
        have hp5:=ok5 p (List.mem_of_getElem? hcp)
        simp only [beq_iff_eq, Bool.or_eq_true] at hp5
        obtain ⟨⟨p1, p2⟩, p3⟩:=hp5
        have hσ : σ[p.1]? = some (some v):=by
          cases hq : σ[p.1]? with
          | none=>rw [hq] at e2'; cases e2'
          | some o=>rw [hq] at e2'; simp at e2'; rw [e2']
        subst e1'
        obtain ⟨m, hm, hl⟩:=I.loc
        obtain ⟨u, r, l⟩:=hl p.1 p.2 v p1 hσ (.inr p2)
        refine ⟨u, r, .inr ?_⟩
        rcases l with ⟨k, _⟩ | ⟨k, c, e, z⟩
        . have k' : X.env.scope.names.lookup p.2 = some .local := k
          rcases p2 with p2 | p2 <;> (rw [p2] at k'; cases k')
        . obtain ⟨c', e', e''⟩ := cf2 p.2 (PySem.mem_of_lookup p3)
          have:=hsub _ _ e''
          rw [e] at this; cases this
          obtain ⟨o, ho, hd⟩:=z
          exact ⟨Z9 (env:=X.env) p3, c, e', ⟨o, old _ _ ho, hd⟩⟩
    . rcases hc₁ x c e with q | ⟨q, _⟩
      . obtain ⟨v, o, ho, hd⟩ := I.cell x c (hsub x c q)
        exact ⟨v, o, old _ _ ho, hd⟩
      . exact ⟨_, q⟩
    case fc=>
      rcases hc₁ x c e with q | ⟨_, q⟩
      . exact I.freeC x c (hsub x c q)
      . exact I.hok.fresh (by rw [hD]; omega)
  obtain ⟨hg, ht, he⟩:=hb cl' C s H fp X'.xe
  have fsLt : ∀ b ∈ X'.fs, b < D:=fun b hb=>by
    obtain ⟨_, o, ho, _⟩:=I.stack.mem hb
    rw [← hD]; exact Heap.lt_size ho
  have aY : CAt X' fp D:=⟨hc, rfl, Nat.ne_of_lt hDlt, fun hz=>absurd (fsLt _ hz) (Nat.lt_irrefl _), by show s.heap.objs.size <= D; omega, cellNe, fun b hb=>Nat.ne_of_lt (fpLt b hb), fun b hb H' h'=>⟨h', Nat.ne_of_lt (Nat.lt_trans (fpLt b hb) hDlt), okX.exfs b hb, .inl hb, fpNe b hb, fun p hp=>Kc (α:=Addr × Obj) hp⟩⟩
  have loop : ∀ s₃ : Shared, (∃ tk, s₃ = { s with heap:=h₁, toks:=tk }) ->
      codeAny (model X.prog X.w) X.A (.compLoop (.ListComp elt [⟨tg, iter, ifs, 0⟩] scope pos) 0 (.ref it) (.ref D) (compEnvC scope cl' C X.env)) (RR (.ref D) C) s₃:=by
    rintro s₃ ⟨tk, rfl⟩
    exact VD (Y:=X') rfl T hG hg ht he aY (fun j v e=>(Vm e).1) turn (fun ys its k H3 s4 I4 rv hz q=>hRR _ C ys H3 s4 (Gz I hf (Nat.le_of_eq hD) hDlt I4 I4.os I4.base I4.hok rfl rv hz) q)
      (.mk 0 H [] [] 0 ⟨I1 tk, hst₁, fun b hb=>(hf b hb).1, hacc, I.hok.fresh (by rw [hD]; exact Nat.le_refl _)⟩ .nil w0)
  exact codeAny_compStart_list (loop _ ⟨_, rfl⟩) (T.self _ 0 _ _ _ hst₁ (loop _ ⟨_, rfl⟩))
theorem CH (sc : Scope) (N0 : List Str) (tns : List Str) (caps : List (Nat × Str)) (hc : X.calm = true) (hi : PI X tg iter wi) (hG : J1 tns.length g)
    (hb : ∀ cl C s H ex E, PG (X.compN (tns ++ caps.map (·.2)) scope cl C s H ex E) tg g /\ PTs (X.compN (tns ++ caps.map (·.2)) scope cl C s H ex E) ifs tt /\ PE (X.compN (tns ++ caps.map (·.2)) scope cl C s H ex E) elt te)
    (hsc : X.env.scope = sc:=by rfl) (hN0 : X.N = N0:=by rfl) (ok : J9 sc scope N0 tns caps = true:=by decide +kernel)
    (hs : ∀ x, foldedSetIterable iter X.env x = pure x:=by intro _; rfl) :
    PE X (.ListComp elt [⟨tg, iter, ifs, 0⟩] scope pos) (Ke tns.length caps wi g tt te):=by
  intro pins s σ H Q I h
  have ok':=ok
  unfold J9 at ok'
  simp only [Bool.and_eq_true, List.all_eq_true] at ok'
  obtain ⟨⟨⟨⟨ok1, ok2⟩, ok3⟩, ok4⟩, ok5⟩:=ok'
  obtain ⟨cl, ecl, hsub, hall⟩:=Kj (scope:=scope) (env:=X.env) fun x hx hfr=>by
    have:=ok4 x hx
    rw [hfr] at this
    have z : sc.names.lookup x.1 = some .cell ∨ sc.names.lookup x.1 = some .free:=by simpa using this
    exact I.ok.has x.1 (by show X.env.scope.names.lookup x.1 = _ ∨ X.env.scope.names.lookup x.1 = _; rw [hsc]; exact z)
  rw [eval_ListComp]
  refine wpAny_comprehension_free (use:=none) rfl hs ecl (by simpa using ok1) (fun x hx hl=>by have:=ok3 x hx; rw [hl] at this; simpa using this) (thn (hi pins s σ H _ I h) fun xv s₁ h₁=>thn h₁ fun itv s₂ h₂=>?_)
  obtain ⟨it, fp, tn, J, H', rfl, I2, T, st2, f2, W, ⟨m0, w0⟩, turn⟩:=h₂
  refine KA (RR:=fun acc C=>compPost (model X.prog X.w) X.A X.xe none (EP X pins σ Q) acc C) hc hsc hN0 ok rfl hG hb I2 T st2 f2 hsub hall W w0 turn ?_
  intro D C ys H3 s' ce q
  obtain ⟨mm, hns⟩:=ce.ns
  refine ⟨mm, hns, fun h' hs'=>⟨.ref D, _, ?_, rfl, q⟩⟩
  obtain ⟨c0, c1, c2, c3, c4, c5⟩:=ce.fp
  exact ce.inv.turned (t':=s'.toks) (fun b o hb' e=>(hs'.extBut b o hb' e)) c0 c1 c3 c4 c5
end
end L2
namespace L2
open PySem PySem.Spec PyProof.Rows
theorem Vb : ∀ (xs : List V) (us : List Value), xs.length = us.length -> (∀ (j : Nat) x u, xs[j]? = some x -> us[j]? = some u -> X7 x u) -> X3 xs us
  | [], [], _, _=>.nil
  | [], _ :: _, h, _=>by simp at h
  | _ :: _, [], h, _=>by simp at h
  | x :: xs, u :: us, h, r=>.cons (r 0 x u rfl rfl) (Vb xs us (by simpa using h) fun j y v e1 e2=>r (j + 1) y v (by simpa using e1) (by simpa using e2))
noncomputable def K1 (ta : TA) : TE:=fun σ H Q=>ta σ H fun vs H1=>∃ j : Int, vs = [.int j] /\ 0 <= j /\ j <= 1000 /\ ∀ p, H1 p = none -> Q (.ref p) (upd H1 p (.lst ((List.range j.toNat).map fun i=>V.int ((i : Nat) : Int))))
variable {X : Cx}
theorem Jp {e : Expr} {ta : TA} {p q q2 pos : Pos} (hc : X.calm = true) (hg : Gl X "list") (hg2 : Gl X "range") (hm : X.mg "list" = none) (hm2 : X.mg "range" = none) (ha : PA X [e] ta)
    (hs : starEach [.Call (.Name "range" q) [e] [] q2] X.env = [(false, eval (.Call (.Name "range" q) [e] [] q2) X.env)]:=by rfl) (hs2 : starEach [e] X.env = [(false, eval e X.env)]:=by rfl) :
    PE X (.Call (.Name "list" p) [.Call (.Name "range" q) [e] [] q2] [] pos) (K1 ta):=by
  intro pins s σ H Q I h
  refine wpAny_Call_Name_kw (Jv I hg hm PyProof.Rows.boot_list ?_)
  refine PyProof.Rows.callWith_type1 ?_ hs rfl
  rw [hs]
  show wpAny _ _ (spliced ((false, eval (.Call (.Name "range" q) [e] [] q2) X.env) :: backTo pos [])) _ _ s
  refine Calls.spliced_cons ?_
  refine wpAny_Call_Name_kw (Jv I hg2 hm2 boot_range ?_)
  refine PyProof.Rows.callWith_type1 (thn (ha q2 pins s σ H _ I h) fun us s1 ⟨vs, H1, I1, r1, q1⟩=>?_) hs2 rfl
  obtain ⟨j, e, h0, h1, k⟩:=q1
  subst e
  cases r1 with
  | cons r rr=>
    cases rr
    obtain ⟨t, rfl⟩:=r
    refine call_range_1 ?_
    refine Calls.spliced_nil ?_
    refine call_list_range (n:=j.toNat) (I.ok.hd hc) (IsRange.new ..) (small_one (by omega) (by omega) (by omega) (by omega)) (by rw [rangeSize_one]; split <;> omega) (by omega) fun h' tk acc' c' hk hS hacc=>?_
    refine ⟨.ref _, _, I1.laid (h':=h') (t':=tk) (o:=.lst ((List.range j.toNat).map fun i=>V.int ((i : Nat) : Int))) (fun b o e=>hk b o (Heap.get?_push_of_some _ e)) (by rw [Heap.size_push]; exact Nat.le_succ _) ?_, rfl, k _ (I1.hok.fresh (by rw [Heap.size_push]; exact Nat.le_succ _))⟩
    refine ⟨by rw [List.length_map, List.length_range]; exact Nat.le_of_lt (FE (by omega)), acc'.toList, c', Vb _ _ (by simp [hacc.1]) fun i x u e1 e2=>?_, hS⟩
    have e2' : acc'[i]? = some u:=by simpa using e2
    obtain ⟨tk, rfl⟩:=hacc.2 i u e2'
    rw [List.getElem?_map] at e1
    cases e3 : (List.range j.toNat)[i]? with
    | none=>rw [e3] at e1; cases e1
    | some z=>
      rw [e3] at e1
      have hz : z = i:=by
        have hi : i < j.toNat:=by have:=(List.getElem?_eq_some_iff.mp e3).1; simpa using this
        rw [List.getElem?_range hi] at e3
        exact (Option.some.inj e3).symm
      subst hz
      have : x = V.int (z : Int):=(Option.some.inj e1).symm
      subst this
      exact ⟨tk, by simp⟩
end L2
namespace L2
open PySem PySem.Spec PyProof.Rows
theorem ZL {l : List Expr} {p : Pos} {es : List Expr} {env : Env} : starEach (.List l p :: es) env = (false, eval (.List l p) env) :: starEach es env:=rfl
theorem Uu {X : Cx} {l : List Expr} {p : Pos} {es : List Expr} {te : TE} {t : TA} (ha : PE X (.List l p) te) (hr : PA X es t) : PA X (.List l p :: es) (XB te t):=Xd ha hr ZL
end L2
namespace L2
open PySem PySem.Spec PyProof.Rows
end L2
namespace L2
open PySem PySem.Spec PyProof.Rows
variable {X : Cx} {o e : Expr} {es : List Expr} {to : TE} {t : TA} {name : Str} {apos cpos : Pos} {T id : String} {r : V -> List V -> Hp -> VK -> Prop}
end L2
namespace PySem
open PySem.Spec
namespace SeqAt
open MeetsSeq
theorem list_indexFrom (l : Addr) (items : Array Value) (n : Nat) (dd : Option Addr) (sl : Array (Option Value)) (x : Value) (e : Value -> Bool) (k : Nat) (t : Tok) (j : Nat) (hk : k <= j) (hj : j < items.size) (hsmall : (j : Int) < 2 ^ 63 - 1)
    (hit : e items[j] = true) (hno : ∀ m (hm : m < items.size), k <= m -> m < j -> e items[m] = false) :
    Meets (Builtin.«list.index» ⟨[.ref l, x, .int (k : Int) t], []⟩)
      (fun A R s=>s.heap.get? l = some { cls:=.type "list", dict:=dd, data:=.seq items n, slots:=sl } /\ (∀ y, y ∈ items -> EqAt A.in1 s y x (e y)) /\ R (.ok (.ret (.int j s.toks))) { s with toks:=s.toks + 1 }):=by
  intro prog w A R s h
  obtain ⟨hp, g, d, tk, os⟩:=s; obtain ⟨hl, he, h⟩:=h
  wp_walk using wpAny_loadPart' hl
  have a1 : ((fun i : Int=>if i < 0 then max 0 (i + (items.size : Int)) else i) ((some (k : Int)).getD 0)) = ((k : Nat) : Int):=by
    show (if (k : Int) < 0 then max 0 ((k : Int) + (items.size : Int)) else (k : Int)) = _
    rw [if_neg (by omega)]
  have a2 : ((fun i : Int=>if i < 0 then max 0 (i + (items.size : Int)) else i) ((none : Option Int).getD (2 ^ 63 - 1))) = 2 ^ 63 - 1:=by simp
  rw [a1, a2]
  exact ⟨plainId_quiet plain_index_loop _, codeAny_builtin entry_index_loop (by
    rw [Around.under_plainId plain_index_loop _]
    exact index_loopAt l items n dd sl x e (2 ^ 63 - 1) j hj hsmall hit _ k rfl hk (fun m hm h1 h2=>hno m hm h1 h2) prog w A R _ ⟨hl, he, h⟩)⟩
end SeqAt
end PySem
namespace L2
open PySem PySem.Spec PyProof.Rows
noncomputable def DZ (K : PySem.W.Frag) : V -> List V -> Hp -> VK -> Prop:=fun x vs H Q=>∃ l xs y, ∃ k j : Nat, ∃ kk : Int, x = .ref l /\ vs = [y, .int kk] /\ kk = (k : Int) /\ SqL K H l xs /\ JB y = true /\ xs.all JB = true /\ k <= j /\ (∃ z, xs[j]? = some z /\ eqV z y = true) /\ (∀ (m : Nat) z, k <= m -> m < j -> xs[m]? = some z -> eqV z y = false) /\ Q (.int (j : Int)) H
section
variable {X : Cx}
theorem FH : MtR X "list.index" (DZ X.K):=by
  intro pins s σ H x vs v us Q I rx rv h
  obtain ⟨l, xs, y, k, j, kk, rfl, rfl, rfl, hq, fy, fs, hkj, ⟨z, hz, ez⟩, hm, q⟩:=h
  cases rx
  obtain ⟨u, u2, rfl, ry, rk⟩:=X3.two rv
  obtain ⟨t, rfl⟩:=rk
  obtain ⟨its, r, pl, hle⟩:=I.list hq
  have hl:=r.length
  have hjl:=(List.getElem?_eq_some_iff.mp hz).1
  have ge : ∀ (m : Nat) (w : V), xs[m]? = some w -> ∀ hm : m < its.toArray.size, eqU y its.toArray[m] = eqV w y:=fun m w hw hm=>by
    obtain ⟨u', hu', ru'⟩:=r.get hw
    have e : its.toArray[m] = u':=by
      have:=(List.getElem?_eq_some_iff.mp hu').2
      simpa using this
    rw [e]
    exact Di ru' (List.all_eq_true.mp fs w (List.mem_of_getElem? hw))
  obtain ⟨o, n, ho, hc, hd, hs⟩:=id pl
  obtain ⟨cls, dict, data, slots⟩:=o
  cases hc; cases hd; cases hs
  refine call_meets F.slot_list_index ⟨_, ho, rfl⟩ F.entry_list_index (F.args_list_index_3 _ _ _) (SeqAt.list_indexFrom l its.toArray n none slots u (eqU y) k t j hkj (by rw [List.size_toArray]; omega) ?_ ?_ ?_) ⟨ho, fun w hw=>Qs ry fy r fs w (by simpa using hw), ?_⟩
  . have : sizeLine < 2 ^ 63 - 1 := by decide
    omega
  . rw [ge j z hz]; exact ez
  . intro m hm' hle1 hlt
    rw [ge m xs[m] (List.getElem?_eq_getElem (by omega))]
    exact hm m _ hle1 hlt (List.getElem?_eq_getElem (by omega))
  . exact ⟨.int (j : Int), H, I.tok _, ⟨_, rfl⟩, q⟩
end
end L2
namespace L2
open PySem PySem.Spec PyProof.Rows
noncomputable def LH (K : PySem.W.Frag) : List V -> Hp -> VK -> Prop:=fun xs H Q=>∃ (a : Addr) (bs : List Bool), xs = [.ref a] /\ SqL K H a (bs.map V.bl) /\ Q (.bl (bs.all id)) H
section
variable {X : Cx}
theorem HL : ∀ (bs : List Bool), ((List.range bs.length).all fun i=>(bs[i]?).getD true) = bs.all id:=fun bs=>by
  rw [Bool.eq_iff_iff, List.all_eq_true, List.all_eq_true]
  constructor
  . intro h b hb
    obtain ⟨i, hi, rfl⟩:=List.getElem_of_mem hb
    have:=h i (List.mem_range.mpr hi)
    simpa [List.getElem?_eq_getElem hi] using this
  . intro h i hi
    have hi':=List.mem_range.mp hi
    simpa [List.getElem?_eq_getElem hi'] using h _ (List.getElem_mem hi')
theorem DI (hc : X.calm = true) : Qc X (.builtin "all") (LH X.K):=by
  intro pins s σ H xs us Q I r h
  obtain ⟨a, bs, rfl, hq, q⟩:=h
  obtain ⟨u, rfl, ru⟩:=KH r
  cases ru
  obtain ⟨its, rv, pl, hz⟩:=I.list hq
  have hlen : bs.length = its.length:=by have:=rv.length; rwa [List.length_map] at this
  have hlt : a < s.heap.objs.size:=by obtain ⟨o, n, ho, _⟩:=pl; exact Heap.lt_size ho
  refine call_all_walk (wpAny_pyIter_list pl.isList ?_)
  refine ⟨s.heap.objs.size, [s.heap.objs.size, a], [s.heap.objs.size], its.toArray.size, _, _, fun i=>(bs[i]?).getD true, rfl, Walks.list (A:=X.A.in1) (I.ok.hd hc) _ a (Nat.ne_of_lt hlt) its.toArray,
    ⟨⟨_, Heap.get?_push_size _ rfl, rfl, rfl⟩, pl.isList.at fun o e=>Heap.get?_push_of_some _ e⟩, fun i v s' Q' E' hP hQ=>?_, fun h' tk hk=>?_⟩
  . have hv' : its[i]? = some v := by simpa using hP
    obtain ⟨x, ex, rx⟩:=FC rv hv'
    rw [List.getElem?_map] at ex
    cases e : bs[i]? with
    | none=>rw [e] at ex; cases ex
    | some z=>
      rw [e] at ex
      have ex' : V.bl z = x:=Option.some.inj ex
      subst ex'
      cases rx
      simp only [e, Option.getD_some] at hQ
      exact wpAny_truthy_bool hQ
  . have e : ((List.range its.toArray.size).all fun i=>(bs[i]?).getD true) = bs.all id:=by
      rw [List.size_toArray, ← hlen]; exact HL bs
    rw [e]
    have I2 : Inv X pins σ H { s with heap:=h', toks:=tk }:=I.kept (t':=tk) fun b o e=>hk b o (fun hm=>by
      rw [List.mem_singleton.mp hm] at e
      exact absurd (Heap.lt_size e) (Nat.lt_irrefl _)) (Heap.get?_push_of_some _ e)
    exact ⟨.bl (bs.all id), H, I2, rfl, q⟩
end
end L2
namespace L2
open PySem PySem.Spec PyProof.Rows
section
variable {X : Cx} {α : Type} [DecidableEq α] {r : Enc α} {d : Nat}
end
section
variable {X : Cx}
end
section
variable {X : Cx}
theorem QX (K : PySem.W.Frag) (h : X.K = K) : OpR X (compareOp .NotIn) (rIn K true):=by subst h; exact Jt
variable {T : String} {name : Str} {id : String} {r : V -> List V -> Hp -> VK -> Prop} {o e : Expr} {es : List Expr} {to : TE} {t : TA} {apos cpos : Pos}
end
section
variable {X : Cx} {elt tg iter : Expr} {ifs : List Expr} {scope : Scope} {pos : Pos} {wi : TI} {g : TG} {tt : TT} {te : TE}
theorem K6 {sc : Scope} {N0 : List Str} {tns : List Str} {caps : List (Nat × Str)} (hc : X.calm = true) (hi : PI X tg iter wi) (hG : J1 tns.length g)
    (hb : ∀ cl C s H ex E, PG (X.compN (tns ++ caps.map (·.2)) scope cl C s H ex E) tg g /\ PTs (X.compN (tns ++ caps.map (·.2)) scope cl C s H ex E) ifs tt /\ PE (X.compN (tns ++ caps.map (·.2)) scope cl C s H ex E) elt te)
    (hsc : X.env.scope = sc:=by rfl) (hN0 : X.N = N0:=by rfl) (ok : J9 sc scope N0 tns caps = true:=by decide +kernel)
    (hs : ∀ x, foldedSetIterable iter X.env x = pure x:=by intro _; rfl) :
    PE X (.ListComp elt [⟨tg, iter, ifs, 0⟩] scope pos) (Ke tns.length caps wi g tt te):=CH sc N0 tns caps hc hi hG hb hsc hN0 ok hs
theorem Y1 {sc : Scope} {N0 : List Str} {tns : List Str} {caps : List (Nat × Str)} (hc : X.calm = true) (hi : PI X tg iter wi) (hG : J1 tns.length g)
    (hb : ∀ cl C s H ex E, PG (X.comp (tns ++ caps.map (·.2)) scope cl C s H ex E) tg g /\ PTs (X.comp (tns ++ caps.map (·.2)) scope cl C s H ex E) ifs tt /\ PE (X.comp (tns ++ caps.map (·.2)) scope cl C s H ex E) elt te)
    (hsc : X.env.scope = sc:=by rfl) (hN0 : X.N = N0:=by rfl) (ok : UL sc scope N0 tns caps = true:=by decide +kernel)
    (hs : ∀ x, foldedSetIterable iter X.env x = pure x:=by intro _; rfl) :
    PE X (.ListComp elt [⟨tg, iter, ifs, 0⟩] scope pos) (Ke tns.length caps wi g tt te):=EI sc N0 tns caps hc hi hG hb hsc hN0 ok hs
end
section
variable {X : Cx} {tg l : Expr} {tl : TE} {p pos : Pos} {K : PySem.W.Frag}
theorem XQ (h : X.K = K) (hl : PE X l tl) : PI X tg l (Vy K tl):=by subst h; exact Ek hl
end
end L2
namespace L2
open PySem PySem.Spec PyProof.Rows
section
variable {X : Cx}
end
end L2
namespace L2
open PySem PySem.Spec PyProof.Rows
inductive Pay where
  | non | int (i : Int) | tag (t : Str) (xs : List Int)
  deriving DecidableEq
structure Exc where
  cls : Str
  pay : Pay
inductive Res (α : Type) where
  | bad | err (x : Exc) | ok (a : α)
noncomputable def Res.bind {α β : Type} : Res α -> (α -> Res β) -> Res β
  | .bad, _=>.bad
  | .err x, _=>.err x
  | .ok a, f=>f a
theorem Res.ok_bind {α β : Type} (a : α) (f : α -> Res β) : (Res.ok a).bind f = f a:=rfl
noncomputable def chk {α : Type} (c : Prop) [Decidable c] (m : Res α) : Res α:=if c then m else .bad
theorem Yp {α : Type} {c : Prop} [Decidable c] {m : Res α} (h : c) : chk c m = m:=if_pos h
noncomputable abbrev Xz:=Addr × HO
noncomputable def He : HO -> Bool
  | .lst _=>true
  | .dK _=>true
  | .dT _=>true
  | _=>false
noncomputable def fl (OO : List (List Xz)) : List Addr:=OO.flatten.map (·.1)
open Classical in
noncomputable def hid (H : Hp) (OO : List (List Xz)) : Hp:=fun b=>if b ∈ fl OO then none else H b
structure W (OO : List (List Xz)) (H : Hp) : Prop where
  tr : ∀ c ∈ OO.flatten, H c.1 = some c.2
  nd : (fl OO).Nodup
  mu : ∀ c ∈ OO.flatten, He c.2 = true
theorem X0 {H : Hp} {OO} {b : Addr} {o : HO} (h : hid H OO b = some o) : H b = some o /\ b ∉ fl OO:=by
  unfold hid at h
  split at h
  . cases h
  . exact ⟨h, by assumption⟩
theorem YG {H : Hp} {OO} {b : Addr} {o : HO} (h : H b = some o) (n : b ∉ fl OO) : hid H OO b = some o:=by
  unfold hid; rw [if_neg n]; exact h
theorem XG {H : Hp} {OO} : Xr (hid H OO) H:=fun b o h=>(X0 h).1
theorem Xk {H H' : Hp} {OO} (s : Xr H H') : Xr (hid H OO) (hid H' OO):=fun b o h=>YG (s _ _ (X0 h).1) (X0 h).2
theorem YB {H H' : Hp} {OO OO'} (s : Xr H H') (h : ∀ b, b ∈ fl OO' -> b ∈ fl OO) : Xr (hid H OO) (hid H' OO'):=fun b o q=>YG (s _ _ (X0 q).1) fun z=>(X0 q).2 (h b z)
theorem XE {C : List Xz} {OO} : fl (C :: OO) = C.map (·.1) ++ fl OO:=by simp [fl]
theorem Fp {OO} : fl ([] :: OO) = fl OO:=by simp [fl]
theorem Yk {H : Hp} {OO} : hid H ([] :: OO) = hid H OO:=by unfold hid; rw [Fp]
theorem W.keep {OO} {H H' : Hp} (w : W OO H) (s : Xr H H') : W OO H':=⟨fun c hc=>s _ _ (w.tr c hc), w.nd, w.mu⟩
theorem W.of {OO OO' : List (List Xz)} {H : Hp} (w : W OO H) (h : OO'.flatten.Perm OO.flatten) : W OO' H:=
  ⟨fun c hc=>w.tr c (h.mem_iff.mp hc), (h.map _).nodup_iff.mpr w.nd, fun c hc=>w.mu c (h.mem_iff.mp hc)⟩
theorem W.sub {OO OO' : List (List Xz)} {H : Hp} (w : W OO H) (h : OO'.flatten.Sublist OO.flatten) : W OO' H:=
  ⟨fun c hc=>w.tr c (h.mem hc), (h.map _).nodup w.nd, fun c hc=>w.mu c (h.mem hc)⟩
theorem W.tail {C OO} {H : Hp} (w : W (C :: OO) H) : W OO H:=w.sub (by simp)
theorem W.nil {OO} {H : Hp} (w : W OO H) : W ([] :: OO) H:=w.of (by simp)
theorem W.cell {C OO} {H : Hp} (w : W (C :: OO) H) : ∀ c ∈ C, H c.1 = some c.2:=fun c hc=>w.tr c (by simp [hc])
theorem Vj {OO : List (List Xz)} {c : Xz} (h : c ∈ OO.flatten) : c.1 ∈ fl OO:=List.mem_map.mpr ⟨c, h, rfl⟩
theorem GT {OO : List (List Xz)} {b : Addr} (h : b ∈ fl OO) : ∃ o, (b, o) ∈ OO.flatten:=by
  obtain ⟨⟨a, o⟩, hc, rfl⟩:=List.mem_map.mp h
  exact ⟨o, hc⟩
theorem W.fresh {OO} {H : Hp} (w : W OO H) {p : Addr} (h : H p = none) : p ∉ fl OO:=fun z=>by
  obtain ⟨o, ho⟩:=GT z
  have:=w.tr _ ho
  rw [h] at this; cases this
theorem W.new {OO} {H : Hp} (w : W OO H) {p : Addr} (h : H p = none) {o : HO} (m : He o = true) : W ([(p, o)] :: OO) (upd H p o):=by
  have hf:=w.fresh h
  refine ⟨fun c hc=>?_, ?_, fun c hc=>?_⟩
  . simp only [List.flatten_cons, List.cons_append, List.nil_append, List.mem_cons] at hc
    rcases hc with rfl | hc
    . exact YA
    . rw [XJ (fun e=>hf (by rw [← e]; exact Vj hc))]; exact w.tr c hc
  . rw [XE]; simpa using ⟨hf, w.nd⟩
  . simp only [List.flatten_cons, List.cons_append, List.nil_append, List.mem_cons] at hc
    rcases hc with rfl | hc
    . exact m
    . exact w.mu c hc
theorem Kz {OO} {H : Hp} {p : Addr} (h : H p = none) {o : HO} : Xr (hid H OO) (hid (upd H p o) ([(p, o)] :: OO)):=fun b u q=>by
  obtain ⟨q1, q2⟩:=X0 q
  have hb : b ≠ p:=XR q1 h
  refine YG (by rw [XJ hb]; exact q1) ?_
  rw [XE]; simpa using ⟨hb, q2⟩
theorem Qv {OO} {H : Hp} (w : W OO H) {p : Addr} (h : H p = none) {o : HO} : hid (upd H p o) OO p = some o:=YG YA (w.fresh h)
class MonoE {α : Type} (r : Enc α) : Prop where
  mono : ∀ {K : PySem.W.Frag} {H H' : Hp} {v : V} {a : α}, Xr H H' -> r K H v a -> r K H' v a
noncomputable def LP : HO -> Bool
  | .tup _=>true
  | .frz _ _=>true
  | _=>false
noncomputable def VB (H H' : Hp) : Prop:=∀ b o, H b = some o -> LP o = true -> H' b = some o
theorem Xr.i {H H' : Hp} (s : Xr H H') : VB H H':=fun b o h _=>s b o h
theorem W.i {OO} {H : Hp} (w : W OO H) : VB H (hid H OO):=fun b o h i=>YG h fun z=>by
  obtain ⟨u, hu⟩:=GT z
  have h1:=w.tr _ hu
  have h2:=w.mu _ hu
  rw [h] at h1
  have e : o = u:=Option.some.inj h1
  subst e
  revert i h2; cases o <;> simp [LP, He]
theorem VB.trans {H H1 H2 : Hp} (a : VB H H1) (b : VB H1 H2) : VB H H2:=fun c o h i=>b c o (a c o h i) i
class FlatE {α : Type} (r : Enc α) : Prop where
  flat : ∀ {K : PySem.W.Frag} {H H' : Hp} {v : V} {a : α}, VB H H' -> r K H v a -> r K H' v a
instance {α : Type} {r : Enc α} [f : FlatE r] : MonoE r:=⟨fun s h=>f.flat s.i h⟩
noncomputable def XO : Enc Bool:=fun _ _ v b=>v = .bl b
noncomputable def Zt {α : Type} (r : Enc α) : Enc (Option α):=fun K H v a=>match a with
  | none=>v = .non
  | some a=>v ≠ .non /\ r K H v a
noncomputable def rV {α : Type} (r : Enc α) : Enc (List α):=fun K H v as=>∃ a xs, v = .ref a /\ H a = some (.lst xs) /\ Paired (r K H) xs as
noncomputable def rPL {α : Type} (r : Enc α) : Enc (List α):=fun K H v as=>∃ a xs, v = .ref a /\ H a = some (.tup xs) /\ Paired (r K H) xs as
noncomputable def rP2 {α β : Type} (r : Enc α) (q : Enc β) : Enc (α × β):=fun K H v p=>∃ a x y, v = .ref a /\ H a = some (.tup [x, y]) /\ r K H x p.1 /\ q K H y p.2
noncomputable def rP3 {α β γ : Type} (r : Enc α) (q : Enc β) (t : Enc γ) : Enc (α × β × γ):=fun K H v p=>∃ a x y z, v = .ref a /\ H a = some (.tup [x, y, z]) /\ r K H x p.1 /\ q K H y p.2.1 /\ t K H z p.2.2
instance {α : Type} {r : Enc α} [m : MonoE r] : MonoE (rV r):=⟨fun s h9=>(by obtain ⟨a, xs, e, q, p⟩:=h9; exact ⟨a, xs, e, s _ _ q, Paired.imp2 (fun _ _ z=>m.mono s z) p⟩)⟩
instance {α : Type} {r : Enc α} [m : MonoE r] : MonoE (rPL r):=⟨fun s h9=>(by obtain ⟨a, xs, e, q, p⟩:=h9; exact ⟨a, xs, e, s _ _ q, Paired.imp2 (fun _ _ z=>m.mono s z) p⟩)⟩
instance {α : Type} {r : Enc α} [m : FlatE r] : FlatE (rPL r):=⟨fun s h9=>(by obtain ⟨a, xs, e, q, p⟩:=h9; exact ⟨a, xs, e, s _ _ q rfl, Paired.imp2 (fun _ _ z=>m.flat s z) p⟩)⟩
instance {α β : Type} {r : Enc α} {q : Enc β} [m : MonoE r] [n : MonoE q] : MonoE (rP2 r q):=⟨fun s h9=>(by obtain ⟨a, x, y, e, h, p1, p2⟩:=h9; exact ⟨a, x, y, e, s _ _ h, m.mono s p1, n.mono s p2⟩)⟩
instance {α β : Type} {r : Enc α} {q : Enc β} [m : FlatE r] [n : FlatE q] : FlatE (rP2 r q):=⟨fun s h9=>(by obtain ⟨a, x, y, e, h, p1, p2⟩:=h9; exact ⟨a, x, y, e, s _ _ h rfl, m.flat s p1, n.flat s p2⟩)⟩
instance {α β γ : Type} {r : Enc α} {q : Enc β} {t : Enc γ} [m : MonoE r] [n : MonoE q] [k : MonoE t] : MonoE (rP3 r q t):=⟨fun s h9=>(by obtain ⟨a, x, y, z, e, h, p1, p2, p3⟩:=h9; exact ⟨a, x, y, z, e, s _ _ h, m.mono s p1, n.mono s p2, k.mono s p3⟩)⟩
instance {α β γ : Type} {r : Enc α} {q : Enc β} {t : Enc γ} [m : FlatE r] [n : FlatE q] [k : FlatE t] : FlatE (rP3 r q t):=⟨fun s h9=>(by obtain ⟨a, x, y, z, e, h, p1, p2, p3⟩:=h9; exact ⟨a, x, y, z, e, s _ _ h rfl, m.flat s p1, n.flat s p2, k.flat s p3⟩)⟩
instance : FlatE Xb:=⟨fun _ h=>h⟩
instance : FlatE XO:=⟨fun _ h=>h⟩
instance {α : Type} {r : Enc α} [m : MonoE r] : MonoE (rL r):=⟨fun s h9=>(by obtain ⟨a, xs, e, q, p⟩:=h9; exact ⟨a, xs, e, s.seq q, Paired.imp2 (fun _ _ z=>m.mono s z) p⟩)⟩
instance {α : Type} {r : Enc α} [m : MonoE r] : MonoE (Zt r):=⟨fun {K H H' v a} s h=>by cases a with
  | none=>exact h
  | some a=>exact ⟨h.1, m.mono s h.2⟩⟩
instance {α : Type} {r : Enc α} [m : FlatE r] : FlatE (Zt r):=⟨fun {K H H' v a} s h=>by cases a with
  | none=>exact h
  | some a=>exact ⟨h.1, m.flat s h.2⟩⟩
noncomputable abbrev OE (α : Type):=PySem.W.Frag -> Hp -> V -> α -> List Xz -> Prop
inductive P3 {α β γ : Type} (F : α -> β -> γ -> Prop) : List α -> List β -> List γ -> Prop where
  | nil : P3 F [] [] []
  | cons {a b c l m n} : F a b c -> P3 F l m n -> P3 F (a :: l) (b :: m) (c :: n)
noncomputable def oF {α : Type} (r : Enc α) : OE α:=fun K h v a C=>C = [] /\ r K h v a
noncomputable def oL {α : Type} (o : OE α) : OE (List α):=fun K h v as C=>∃ p xs Cs, v = .ref p /\ P3 (o K h) xs as Cs /\ C = (p, .lst xs) :: Cs.flatten
noncomputable def oT2 {α β : Type} (o : OE α) (q : OE β) : OE (α × β):=fun K h v a C=>∃ p x y C1 C2, v = .ref p /\ h p = some (.tup [x, y]) /\ o K h x a.1 C1 /\ q K h y a.2 C2 /\ C = C1 ++ C2
noncomputable def DE {α : Type} (o : OE α) : OE (Option α):=fun K h v a C=>match a with
  | none=>v = .non /\ C = []
  | some a=>v ≠ .non /\ o K h v a C
section
variable {α β γ δ : Type}
theorem P3.imp {F G : α -> β -> γ -> Prop} (h : ∀ a b c, F a b c -> G a b c) : ∀ {l m n}, P3 F l m n -> P3 G l m n:=fun p=>by
  induction p with
  | nil=>exact .nil
  | cons r _ ih=>exact .cons (h _ _ _ r) ih
theorem P3.app {F : α -> β -> γ -> Prop} : ∀ {l m n l' m' n'}, P3 F l m n -> P3 F l' m' n' -> P3 F (l ++ l') (m ++ m') (n ++ n'):=fun p h=>by
  induction p with
  | nil=>exact h
  | cons r _ ih=>exact .cons r ih
theorem P3.snoc {F : α -> β -> γ -> Prop} {l m n a b c} (h : P3 F l m n) (r : F a b c) : P3 F (l ++ [a]) (m ++ [b]) (n ++ [c]):=h.app (.cons r .nil)
theorem P3.len {F : α -> β -> γ -> Prop} : ∀ {l m n}, P3 F l m n -> l.length = m.length /\ n.length = m.length
  | _, _, _, .nil=>⟨rfl, rfl⟩
  | _, _, _, .cons _ t=>by simp [(P3.len t).1, (P3.len t).2]
theorem P3.pair {F : α -> β -> γ -> Prop} {G : α -> β -> Prop} : ∀ {l m n}, P3 F l m n -> (∀ a b c, c ∈ n -> F a b c -> G a b) -> Paired G l m:=fun p h=>by
  induction p with
  | nil=>exact .nil
  | cons r _ ih=>exact .cons (h _ _ _ List.mem_cons_self r) (ih fun a b c hc=>h a b c (List.mem_cons_of_mem _ hc))
theorem P3.get {F : α -> β -> γ -> Prop} : ∀ {l m n} {i : Nat} {b : β}, P3 F l m n -> m[i]? = some b -> ∃ a c, l[i]? = some a /\ n[i]? = some c /\ F a b c
  | _, _, _, _, _, .nil, e=>by simp at e
  | _, _, _, 0, _, .cons r _, e=>by simp at e; subst e; exact ⟨_, _, rfl, rfl, r⟩
  | _, _, _, i + 1, b, .cons _ t, e=>by
    obtain ⟨a, c, h1, h2, h3⟩:=P3.get (i:=i) (b:=b) t (by simpa using e)
    exact ⟨a, c, by simpa using h1, by simpa using h2, h3⟩
theorem P3.set {F : α -> β -> γ -> Prop} {a : α} {b : β} {c : γ} (r : F a b c) : ∀ {l m n} (i : Nat), P3 F l m n -> P3 F (l.set i a) (m.set i b) (n.set i c)
  | _, _, _, _, .nil=>.nil
  | _, _, _, 0, .cons _ t=>.cons r t
  | _, _, _, i + 1, .cons q t=>.cons q (P3.set r i t)
theorem P3.flat {F : α -> β -> Prop} : ∀ {l : List α} {m : List β} {n : List (List Xz)}, P3 (fun a b c=>c = [] /\ F a b) l m n -> Paired F l m /\ n.flatten = []:=fun p=>by
  induction p with
  | nil=>exact ⟨.nil, rfl⟩
  | cons r _ ih=>exact ⟨.cons r.2 ih.1, by rw [List.flatten_cons, r.1, ih.2]; rfl⟩
theorem P3.of {F : α -> β -> Prop} : ∀ {l : List α} {m : List β}, Paired F l m -> P3 (fun a b (c : List Xz)=>c = [] /\ F a b) l m (List.replicate m.length [])
  | _, _, .nil=>.nil
  | _, _, .cons r t=>.cons ⟨rfl, r⟩ (P3.of t)
theorem X9 : ∀ n : Nat, (List.replicate n ([] : List Xz)).flatten = []
  | 0=>rfl
  | n + 1=>by simp [List.replicate_succ, X9 n]
end
class MonoO {α : Type} (o : OE α) : Prop where
  mono : ∀ {K : PySem.W.Frag} {H H' : Hp} {v : V} {a : α} {C : List Xz}, Xr H H' -> o K H v a C -> o K H' v a C
class FlatO {α : Type} (o : OE α) : Prop where
  flat : ∀ {K : PySem.W.Frag} {H H' : Hp} {v : V} {a : α} {C : List Xz}, VB H H' -> o K H v a C -> o K H' v a C
class FrzC {α : Type} (o : OE α) (r : outParam (Enc α)) : Prop where
  frz : ∀ {K : PySem.W.Frag} {H H' : Hp} {v : V} {a : α} {C : List Xz}, o K H v a C -> Xr H H' -> (∀ c ∈ C, H' c.1 = some c.2) -> r K H' v a
instance {α : Type} {r : Enc α} [m : MonoE r] : MonoO (oF r):=⟨fun s h=>⟨h.1, m.mono s h.2⟩⟩
instance {α : Type} {r : Enc α} [m : FlatE r] : FlatO (oF r):=⟨fun s h=>⟨h.1, m.flat s h.2⟩⟩
instance {α : Type} {r : Enc α} [m : MonoE r] : FrzC (oF r) r:=⟨fun h s _=>m.mono s h.2⟩
instance {α : Type} {o : OE α} [m : MonoO o] : MonoO (oL o):=⟨fun s h9=>(by obtain ⟨p, xs, Cs, e, q, c⟩:=h9; exact ⟨p, xs, Cs, e, q.imp fun _ _ _ z=>m.mono s z, c⟩)⟩
instance {α : Type} {o : OE α} [m : FlatO o] : FlatO (oL o):=⟨fun s h9=>(by obtain ⟨p, xs, Cs, e, q, c⟩:=h9; exact ⟨p, xs, Cs, e, q.imp fun _ _ _ z=>m.flat s z, c⟩)⟩
instance {α : Type} {o : OE α} {r : Enc α} [m : FrzC o r] : FrzC (oL o) (rV r):=⟨fun ⟨p, xs, Cs, e, q, c⟩ s hc=>by
  subst c
  exact ⟨p, xs, e, hc _ List.mem_cons_self, q.pair fun a b c hm z=>m.frz z s fun x hx=>hc x (List.mem_cons_of_mem _ (List.mem_flatten.mpr ⟨c, hm, hx⟩))⟩⟩
instance {α β : Type} {o : OE α} {q : OE β} [m : MonoO o] [n : MonoO q] : MonoO (oT2 o q):=⟨fun s h9=>(by obtain ⟨p, x, y, C1, C2, e, h, h1, h2, c⟩:=h9; exact ⟨p, x, y, C1, C2, e, s _ _ h, m.mono s h1, n.mono s h2, c⟩)⟩
instance {α β : Type} {o : OE α} {q : OE β} [m : FlatO o] [n : FlatO q] : FlatO (oT2 o q):=⟨fun s h9=>(by obtain ⟨p, x, y, C1, C2, e, h, h1, h2, c⟩:=h9; exact ⟨p, x, y, C1, C2, e, s _ _ h rfl, m.flat s h1, n.flat s h2, c⟩)⟩
instance {α β : Type} {o : OE α} {q : OE β} {r : Enc α} {t : Enc β} [m : FrzC o r] [n : FrzC q t] : FrzC (oT2 o q) (rP2 r t):=⟨fun ⟨p, x, y, C1, C2, e, h, h1, h2, c⟩ s hc=>by
  subst c
  exact ⟨p, x, y, e, s _ _ h, m.frz h1 s fun c hm=>hc c (by simp [hm]), n.frz h2 s fun c hm=>hc c (by simp [hm])⟩⟩
instance {α : Type} {o : OE α} [m : MonoO o] : MonoO (DE o):=⟨fun {K H H' v a C} s h=>by cases a with
  | none=>exact h
  | some a=>exact ⟨h.1, m.mono s h.2⟩⟩
instance {α : Type} {o : OE α} [m : FlatO o] : FlatO (DE o):=⟨fun {K H H' v a C} s h=>by cases a with
  | none=>exact h
  | some a=>exact ⟨h.1, m.flat s h.2⟩⟩
instance {α : Type} {o : OE α} {r : Enc α} [m : FrzC o r] : FrzC (DE o) (Zt r):=⟨fun {K H H' v a C} h s hc=>by cases a with
  | none=>exact h.1
  | some a=>exact ⟨h.1, m.frz h.2 s hc⟩⟩
structure SC where
  p : Hp -> Prop
  mono : ∀ h h', Xr h h' -> p h -> p h'
noncomputable def SC.nil : SC:=⟨fun _=>True, fun _ _ _ _=>True.intro⟩
noncomputable def SC.and (S T : SC) : SC:=⟨fun h=>S.p h /\ T.p h, fun _ _ s q=>⟨S.mono _ _ s q.1, T.mono _ _ s q.2⟩⟩
noncomputable def SC.one {α : Type} (K : PySem.W.Frag) (r : Enc α) [m : MonoE r] (v : V) (a : α) : SC:=⟨fun h=>r K h v a, fun _ _ s q=>m.mono s q⟩
noncomputable def SC.oneO {α : Type} (K : PySem.W.Frag) (o : OE α) [m : MonoO o] (v : V) (a : α) (C : List Xz) : SC:=⟨fun h=>o K h v a C, fun _ _ s q=>m.mono s q⟩
noncomputable abbrev SC.add {α : Type} (S : SC) (K : PySem.W.Frag) (r : Enc α) [m : MonoE r] (v : V) (a : α) : SC:=S.and (SC.one K r v a)
noncomputable abbrev SC.addO {α : Type} (S : SC) (K : PySem.W.Frag) (o : OE α) [m : MonoO o] (v : V) (a : α) (C : List Xz) : SC:=S.and (SC.oneO K o v a C)
theorem SC.l {S T : SC} {h : Hp} (q : (S.and T).p h) : S.p h:=q.1
theorem SC.r {S T : SC} {h : Hp} (q : (S.and T).p h) : T.p h:=q.2
theorem SC.i {S T : SC} {h : Hp} (q : S.p h) (p : T.p h) : (S.and T).p h:=⟨q, p⟩
theorem SC.t {h : Hp} : SC.nil.p h:=True.intro
noncomputable def PZ {β : Type} (Er : Exc -> Hp -> Prop) (F : β -> Hp -> Prop) (H : Hp) (m : Res β) : Prop:=
  match m with
  | .bad=>False
  | .err x=>∀ H', Xr H H' -> Er x H'
  | .ok b=>F b H
section
variable (K : PySem.W.Frag) (Er : Exc -> Hp -> Prop) (S : SC) (OO OO' : List (List Xz)) (σ : St)
noncomputable def FB {α : Type} (r : Enc α) (Q : VK) (a : α) (H : Hp) : Prop:=∀ v H', Xr H H' -> r K H' v a -> Q v H'
noncomputable def FO {α : Type} (o : OE α) (Q : VK) (a : α) (H : Hp) : Prop:=∀ v C H', Xr H H' -> W (C :: OO') H' -> Xr (hid H OO) (hid H' (C :: OO')) -> o K (hid H' (C :: OO')) v a C -> Q v H'
noncomputable def FT (Q : Bool -> Hp -> Prop) (b : Bool) (H : Hp) : Prop:=∀ H', Xr H H' -> Q b H'
noncomputable def EvB {α : Type} (te : TE) (r : Enc α) (m : Res α) : Prop:=∀ H Q, W OO H -> S.p (hid H OO) -> PZ Er (FB K r Q) H m -> te σ H Q
noncomputable def Ev {α : Type} (te : TE) (o : OE α) (m : Res α) : Prop:=∀ H Q, W OO H -> S.p (hid H OO) -> PZ Er (FO K OO OO' o Q) H m -> te σ H Q
noncomputable def EvT (tt : TT) (m : Res Bool) : Prop:=∀ H Q, W OO H -> S.p (hid H OO) -> PZ Er (FT Q) H m -> tt σ H Q
end
section
variable {K : PySem.W.Frag} {Er : Exc -> Hp -> Prop} {S : SC} {OO OO' OO2 : List (List Xz)} {σ : St} {α β γ : Type}
theorem FB.tr {r : Enc α} {Q : VK} : ∀ a H H', Xr H H' -> FB K r Q a H -> FB K r Q a H':=fun a H H' s h v H2 s2 q=>h v H2 (s.trans s2) q
theorem FO.tr {o : OE α} {Q : VK} : ∀ a H H', Xr H H' -> FO K OO OO' o Q a H -> FO K OO OO' o Q a H':=fun a H H' s h v C H2 s2 w m q=>h v C H2 (s.trans s2) w ((Xk s).trans m) q
theorem FT.tr {Q : Bool -> Hp -> Prop} : ∀ b H H', Xr H H' -> FT Q b H -> FT Q b H':=fun a H H' s h H2 s2=>h H2 (s.trans s2)
theorem EvB.run {te : TE} {r : Enc α} {m : Res α} (he : EvB K Er S OO σ te r m) {H : Hp} {Q : VK} (w : W OO H) (s : S.p (hid H OO)) {f : α -> Res β} {F : β -> Hp -> Prop} (hF : ∀ b H H', Xr H H' -> F b H -> F b H') (P : PZ Er F H (m.bind f))
    (hk : ∀ a v H', Xr H H' -> W OO H' -> S.p (hid H' OO) -> r K H' v a -> PZ Er F H' (f a) -> Q v H') : te σ H Q:=by
  refine he H Q w s ?_
  cases m with
  | bad=>exact P
  | err x=>exact P
  | ok a=>
    intro v H' s' hr
    refine hk a v H' s' (w.keep s') (S.mono _ _ (Xk s') s) hr ?_
    have P' : PZ Er F H (f a):=P
    revert P'
    cases f a with
    | bad=>exact fun z=>z
    | err x=>exact fun z H2 s2=>z H2 (s'.trans s2)
    | ok b=>exact fun z=>hF b H H' s' z
theorem Ev.run {te : TE} {o : OE α} {m : Res α} (he : Ev K Er S OO OO' σ te o m) {H : Hp} {Q : VK} (w : W OO H) (s : S.p (hid H OO)) {f : α -> Res β} {F : β -> Hp -> Prop} (hF : ∀ b H H', Xr H H' -> F b H -> F b H') (P : PZ Er F H (m.bind f))
    (hk : ∀ a v C H', Xr H H' -> W (C :: OO') H' -> Xr (hid H OO) (hid H' (C :: OO')) -> S.p (hid H' (C :: OO')) -> o K (hid H' (C :: OO')) v a C -> PZ Er F H' (f a) -> Q v H') : te σ H Q:=by
  refine he H Q w s ?_
  cases m with
  | bad=>exact P
  | err x=>exact P
  | ok a=>
    intro v C H' s' w' m' ho
    refine hk a v C H' s' w' m' (S.mono _ _ m' s) ho ?_
    have P' : PZ Er F H (f a):=P
    revert P'
    cases f a with
    | bad=>exact fun z=>z
    | err x=>exact fun z H2 s2=>z H2 (s'.trans s2)
    | ok b=>exact fun z=>hF b H H' s' z
theorem EvT.run {tt : TT} {m : Res Bool} (he : EvT Er S OO σ tt m) {H : Hp} {Q : Bool -> Hp -> Prop} (w : W OO H) (s : S.p (hid H OO)) {f : Bool -> Res β} {F : β -> Hp -> Prop} (hF : ∀ b H H', Xr H H' -> F b H -> F b H') (P : PZ Er F H (m.bind f))
    (hk : ∀ b H', Xr H H' -> W OO H' -> S.p (hid H' OO) -> PZ Er F H' (f b) -> Q b H') : tt σ H Q:=by
  refine he H Q w s ?_
  cases m with
  | bad=>exact P
  | err x=>exact P
  | ok a=>
    intro H' s'
    refine hk a H' s' (w.keep s') (S.mono _ _ (Xk s') s) ?_
    have P' : PZ Er F H (f a):=P
    revert P'
    cases f a with
    | bad=>exact fun z=>z
    | err x=>exact fun z H2 s2=>z H2 (s'.trans s2)
    | ok b=>exact fun z=>hF b H H' s' z
theorem Ev.toB {te : TE} {o : OE α} {r : Enc α} [z : FrzC o r] {m : Res α} (he : Ev K Er S OO OO σ te o m) : EvB K Er S OO σ te r m:=fun H Q w s P=>by
  refine he H Q w s ?_
  cases m with
  | bad=>exact P
  | err x=>exact P
  | ok a=>exact fun v C H' s' w' m' ho=>P v H' s' (z.frz ho XG w'.cell)
theorem Ev.frz {te : TE} {o : OE α} {r : Enc α} [z : FrzC o r] {m : Res α} (he : Ev K Er S OO OO' σ te o m) : Ev K Er S OO OO' σ te (oF r) m:=fun H Q w s P=>by
  refine he H Q w s ?_
  cases m with
  | bad=>exact P
  | err x=>exact P
  | ok a=>
    intro v C H' s' w' m' ho
    have hs : Xr (hid H' (C :: OO')) (hid H' ([] :: OO')):=YB (Xr.refl _) fun b hb=>by rw [Fp] at hb; rw [XE]; simp [hb]
    refine P v [] H' s' w'.tail.nil (m'.trans hs) ⟨rfl, z.frz ho hs fun c hc=>YG (w'.cell c hc) ?_⟩
    rw [Fp]
    have:=w'.nd
    rw [XE] at this
    intro hb
    exact (List.nodup_append.mp this).2.2 c.1 (List.mem_map.mpr ⟨c, hc, rfl⟩) c.1 hb rfl
theorem EvB.flat {te : TE} {r : Enc α} [z : FlatE r] {m : Res α} (he : EvB K Er S OO σ te r m) : Ev K Er S OO OO σ te (oF r) m:=fun H Q w s P=>by
  refine he H Q w s ?_
  cases m with
  | bad=>exact P
  | err x=>exact P
  | ok a=>
    intro v H' s' hr
    have w':=w.keep s'
    exact P v [] H' s' w'.nil (by rw [Yk]; exact Xk s') ⟨rfl, by rw [Yk]; exact z.flat w'.i hr⟩
theorem Xa {r : Enc α} [z : MonoE r] {v : V} {a : α} (i : Nat) (hσ : σ[i]? = some (some v)) (h : ∀ x, S.p x -> r K x v a) : EvB K Er S OO σ (JR i) r (.ok a):=fun H Q w s P=>
  ⟨v, hσ, P v H (Xr.refl _) (z.mono XG (h _ s))⟩
theorem QS {o : OE α} {r : Enc α} [z : FrzC o r] {v : V} {a : α} {C : List Xz} (i k : Nat) (hσ : σ[i]? = some (some v)) (hk : OO[k]? = some C) (h : ∀ x, S.p x -> o K x v a C) : EvB K Er S OO σ (JR i) r (.ok a):=fun H Q w s P=>
  ⟨v, hσ, P v H (Xr.refl _) (z.frz (h _ s) XG fun c hc=>w.tr c (List.mem_flatten.mpr ⟨C, List.mem_of_getElem? hk, hc⟩))⟩
theorem XF : ∀ {OO : List (List Xz)} {k : Nat} {C : List Xz}, OO[k]? = some C -> (C :: OO.set k []).flatten.Perm OO.flatten
  | [], _, _, h=>by simp at h
  | D :: OO, 0, C, h=>by simp at h; subst h; simp
  | D :: OO, k + 1, C, h=>by
    have:=XF (OO:=OO) (k:=k) (C:=C) (by simpa using h)
    simp only [List.set_cons_succ, List.flatten_cons] at this ⊢
    refine List.Perm.trans ?_ (this.append_left D)
    rw [← List.append_assoc, ← List.append_assoc]
    exact List.perm_append_comm.append_right _
theorem Jk {OO OO' : List (List Xz)} (h : OO'.flatten.Perm OO.flatten) (b : Addr) : b ∈ fl OO' ↔ b ∈ fl OO:=(h.map (·.1)).mem_iff
theorem XD {H : Hp} {OO OO' : List (List Xz)} (h : OO'.flatten.Perm OO.flatten) : hid H OO' = hid H OO:=by
  funext b; unfold hid
  by_cases hb : b ∈ fl OO
  . rw [if_pos hb, if_pos ((Jk h b).mpr hb)]
  . rw [if_neg hb, if_neg fun z=>hb ((Jk h b).mp z)]
theorem Ye {o : OE α} {v : V} {a : α} {C : List Xz} (i k : Nat) (hσ : σ[i]? = some (some v)) (hk : OO[k]? = some C) (h : ∀ x, S.p x -> o K x v a C) : Ev K Er S OO (OO.set k []) σ (JR i) o (.ok a):=fun H Q w s P=>by
  have hp:=XF hk
  exact ⟨v, hσ, P v C H (Xr.refl _) (w.of hp) (by rw [XD hp]; exact Xr.refl _) (by rw [XD hp]; exact h _ s)⟩
theorem Xg (n : Int) : EvB K Er S OO σ (tC (.int n)) Xb (.ok n):=fun H Q w s P=>P _ H (Xr.refl _) rfl
theorem Zl (b : Bool) : EvB K Er S OO σ (tC (.bl b)) XO (.ok b):=fun H Q w s P=>P _ H (Xr.refl _) rfl
theorem IK {o : OE α} : Ev K Er S OO OO σ (tC .non) (DE o) (.ok none):=fun H Q w s P=>P _ [] H (Xr.refl _) w.nil (by rw [Yk]; exact Xr.refl _) ⟨rfl, rfl⟩
theorem JS {ta tb : TE} {g : Int -> Int -> V} {r : Enc β} {f : Int -> Int -> β} {ma mb : Res Int} (hg : ∀ K H i j, r K H (g i j) (f i j)) (ha : EvB K Er S OO σ ta Xb ma) (hb : EvB K Er S OO σ tb Xb mb) :
    EvB K Er S OO σ (tOp (rI0 g) ta tb) r (ma.bind fun a=>mb.bind fun b=>.ok (f a b)):=fun H Q w s P=>
  ha.run w s FB.tr P fun a x H1 s1 w1 q1 r1 P1=>hb.run w1 q1 FB.tr P1 fun b y H2 s2 w2 q2 r2 P2=>⟨a, b, r1, r2, P2 _ H2 (Xr.refl _) (hg K H2 a b)⟩
theorem V4 {ta tb : TE} {Cc : Int -> Int -> Prop} {g : Int -> Int -> V} {r : Enc β} {f : Int -> Int -> Res β} {ma mb : Res Int} (hg : ∀ K H i j c, f i j = .ok c -> Cc i j /\ r K H (g i j) c) (he : ∀ i j x, f i j ≠ .err x)
    (ha : EvB K Er S OO σ ta Xb ma) (hb : EvB K Er S OO σ tb Xb mb) :
    EvB K Er S OO σ (tOp (rI Cc g) ta tb) r (ma.bind fun a=>mb.bind fun b=>f a b):=fun H Q w s P=>
  ha.run w s FB.tr P fun a x H1 s1 w1 q1 r1 P1=>hb.run w1 q1 FB.tr P1 fun b y H2 s2 w2 q2 r2 P2=>by
    cases e : f a b with
    | bad=>rw [e] at P2; exact P2.elim
    | err x=>exact absurd e (he a b x)
    | ok c=>
      rw [e] at P2
      obtain ⟨h1, h2⟩:=hg K H2 a b c e
      exact ⟨a, b, r1, r2, h1, P2 _ H2 (Xr.refl _) h2⟩
noncomputable def Kg (a b : Int) : Res Int:=chk ((-(2 ^ 64) < a /\ a < 2 ^ 64) ∨ (-(2 ^ 64) < b /\ b < 2 ^ 64)) (.ok (a * b))
noncomputable def Jy (a b : Int) : Res Int:=chk (0 < b) (.ok (a % b))
noncomputable def Hd (a b : Int) : Res Int:=chk (0 < b /\ b.natAbs.log2 < 9000) (.ok (a / b))
noncomputable def IW (a b : Int) : Res Int:=chk (0 <= b /\ b <= 1000000 /\ a.natAbs < 2 ^ 64) (.ok (a ^ b.toNat))
theorem Y8 {c : Prop} [Decidable c] {m : Res α} {a : α} (h : chk c m = .ok a) : c /\ m = .ok a:=by
  unfold chk at h; split at h
  . exact ⟨by assumption, h⟩
  . cases h
theorem Qa {c : Prop} [Decidable c] {a : α} {x : Exc} : chk c (Res.ok a) ≠ .err x:=by
  unfold chk; split <;> exact fun z=>nomatch z
theorem Za {ta tb : TE} {ma mb : Res Int} (ha : EvB K Er S OO σ ta Xb ma) (hb : EvB K Er S OO σ tb Xb mb) : EvB K Er S OO σ (tOp (rI IN fun i j=>.int (i * j)) ta tb) Xb (ma.bind fun a=>mb.bind fun b=>Kg a b):=
  V4 (fun K H i j c h=>by obtain ⟨h1, h2⟩:=Y8 h; cases h2; exact ⟨h1, rfl⟩) (fun i j x=>Qa) ha hb
theorem Yb {ta tb : TE} {ma mb : Res Int} (ha : EvB K Er S OO σ ta Xb ma) (hb : EvB K Er S OO σ tb Xb mb) : EvB K Er S OO σ (tOp (rI (fun _ j=>0 < j) fun i j=>.int (i % j)) ta tb) Xb (ma.bind fun a=>mb.bind fun b=>Jy a b):=
  V4 (fun K H i j c h=>by obtain ⟨h1, h2⟩:=Y8 h; cases h2; exact ⟨h1, rfl⟩) (fun i j x=>Qa) ha hb
theorem KG {ta tb : TE} {ma mb : Res Int} (ha : EvB K Er S OO σ ta Xb ma) (hb : EvB K Er S OO σ tb Xb mb) : EvB K Er S OO σ (tOp (rI (fun _ j=>0 < j /\ j.natAbs.log2 < 9000) fun i j=>.int (i / j)) ta tb) Xb (ma.bind fun a=>mb.bind fun b=>Hd a b):=
  V4 (fun K H i j c h=>by obtain ⟨h1, h2⟩:=Y8 h; cases h2; exact ⟨h1, rfl⟩) (fun i j x=>Qa) ha hb
theorem Fk {ta tb : TE} {ma mb : Res Int} (ha : EvB K Er S OO σ ta Xb ma) (hb : EvB K Er S OO σ tb Xb mb) : EvB K Er S OO σ (tOp (rI L3 fun i j=>.int (i ^ j.toNat)) ta tb) Xb (ma.bind fun a=>mb.bind fun b=>IW a b):=
  V4 (fun K H i j c h=>by obtain ⟨h1, h2⟩:=Y8 h; cases h2; exact ⟨h1, rfl⟩) (fun i j x=>Qa) ha hb
theorem Yl {ta tb : TE} {ma mb : Res Int} (ha : EvB K Er S OO σ ta Xb ma) (hb : EvB K Er S OO σ tb Xb mb) : EvB K Er S OO σ (tOp (rI0 fun i j=>.int (i + j)) ta tb) Xb (ma.bind fun a=>mb.bind fun b=>.ok (a + b)):=JS (fun _ _ _ _=>rfl) ha hb
theorem Yr {ta tb : TE} {ma mb : Res Int} (ha : EvB K Er S OO σ ta Xb ma) (hb : EvB K Er S OO σ tb Xb mb) : EvB K Er S OO σ (tOp (rI0 fun i j=>.int (i - j)) ta tb) Xb (ma.bind fun a=>mb.bind fun b=>.ok (a - b)):=JS (fun _ _ _ _=>rfl) ha hb
theorem Qh {ta tb : TE} {ma mb : Res Int} (ha : EvB K Er S OO σ ta Xb ma) (hb : EvB K Er S OO σ tb Xb mb) : EvB K Er S OO σ (tOp (rI0 fun i j=>.bl (decide (i < j))) ta tb) XO (ma.bind fun a=>mb.bind fun b=>.ok (decide (a < b))):=JS (fun _ _ _ _=>rfl) ha hb
theorem Qo {ta tb : TE} {ma mb : Res Int} (ha : EvB K Er S OO σ ta Xb ma) (hb : EvB K Er S OO σ tb Xb mb) : EvB K Er S OO σ (tOp (rI0 fun i j=>.bl (decide (j < i))) ta tb) XO (ma.bind fun a=>mb.bind fun b=>.ok (decide (b < a))):=JS (fun _ _ _ _=>rfl) ha hb
theorem DO {ta tb : TE} {ma mb : Res Int} (ha : EvB K Er S OO σ ta Xb ma) (hb : EvB K Er S OO σ tb Xb mb) : EvB K Er S OO σ (tOp (rI0 fun i j=>.bl (decide (j <= i))) ta tb) XO (ma.bind fun a=>mb.bind fun b=>.ok (decide (b <= a))):=JS (fun _ _ _ _=>rfl) ha hb
theorem Fg {ta : TE} {ma : Res Int} (ha : EvB K Er S OO σ ta Xb ma) : EvB K Er S OO σ (tUn (rU fun i=>.int (-i)) ta) Xb (ma.bind fun a=>.ok (-a)):=fun H Q w s P=>
  ha.run w s FB.tr P fun a x H1 s1 w1 q1 r1 P1=>⟨a, r1, P1 _ H1 (Xr.refl _) rfl⟩
class Scal {α : Type} [DecidableEq α] (r : Enc α) : Prop where
  to : ∀ {K : PySem.W.Frag} {H H' : Hp} {x y : V} {a b : α}, r K H x a -> r K H' y b -> Lk x y = true /\ decide (x = y) = decide (a = b)
instance : Scal Xb:=⟨fun {K H H' x y a b} h1 h2=>by cases (show x = .int a from h1); cases (show y = .int b from h2); exact ⟨rfl, by simp⟩⟩
instance : Scal XO:=⟨fun {K H H' x y a b} h1 h2=>by cases (show x = .bl a from h1); cases (show y = .bl b from h2); exact ⟨rfl, by simp⟩⟩
theorem Y2 [DecidableEq α] {r : Enc α} [z : Scal r] [MonoE r] {ta tb : TE} {ma mb : Res α} (ha : EvB K Er S OO σ ta r ma) (hb : EvB K Er S OO σ tb r mb) : EvB K Er S OO σ (tOp rEq ta tb) XO (ma.bind fun a=>mb.bind fun b=>.ok (decide (a = b))):=fun H Q w s P=>
  ha.run w s FB.tr P fun a x H1 s1 w1 q1 r1 P1=>hb.run w1 q1 FB.tr P1 fun b y H2 s2 w2 q2 r2 P2=>by
    obtain ⟨h1, h2⟩:=z.to r1 r2
    exact ⟨h1, P2 _ H2 (Xr.refl _) (by rw [h2]; rfl)⟩
theorem Qq [DecidableEq α] {r : Enc α} [z : Scal r] [MonoE r] {ta tb : TE} {ma mb : Res α} (ha : EvB K Er S OO σ ta r ma) (hb : EvB K Er S OO σ tb r mb) : EvB K Er S OO σ (tOp rNe ta tb) XO (ma.bind fun a=>mb.bind fun b=>.ok (!decide (a = b))):=fun H Q w s P=>
  ha.run w s FB.tr P fun a x H1 s1 w1 q1 r1 P1=>hb.run w1 q1 FB.tr P1 fun b y H2 s2 w2 q2 r2 P2=>by
    obtain ⟨h1, h2⟩:=z.to r1 r2
    exact ⟨h1, P2 _ H2 (Xr.refl _) (by rw [h2]; rfl)⟩
theorem EY [DecidableEq α] {r : Enc α} [z : MonoE r] {ta tb : TE} {ma mb : Res α} (ha : EvB K Er S OO σ ta r ma) (hb : EvB K Er S OO σ tb r mb) : EvB K Er S OO σ (tOp (LT K r) ta tb) XO (ma.bind fun a=>mb.bind fun b=>.ok (decide (a = b))):=fun H Q w s P=>
  ha.run w s FB.tr P fun a x H1 s1 w1 q1 r1 P1=>hb.run w1 q1 FB.tr P1 fun b y H2 s2 w2 q2 r2 P2=>⟨a, b, z.mono s2 r1, r2, P2 _ H2 (Xr.refl _) rfl⟩
theorem B8 [DecidableEq α] {r : Enc α} [z : MonoE r] {ta tb : TE} {ma mb : Res α} (ha : EvB K Er S OO σ ta r ma) (hb : EvB K Er S OO σ tb r mb) : EvB K Er S OO σ (tOp (L1 K r) ta tb) XO (ma.bind fun a=>mb.bind fun b=>.ok (!decide (a = b))):=fun H Q w s P=>
  ha.run w s FB.tr P fun a x H1 s1 w1 q1 r1 P1=>hb.run w1 q1 FB.tr P1 fun b y H2 s2 w2 q2 r2 P2=>⟨a, b, z.mono s2 r1, r2, P2 _ H2 (Xr.refl _) rfl⟩
theorem Vp {te : TE} {m : Res Bool} (h : EvB K Er S OO σ te XO m) : EvT Er S OO σ (tB te) m:=fun H Q w s P=>h H _ w s (by
  cases m with
  | bad=>exact P
  | err x=>exact P
  | ok a=>exact fun v H' s' r=>⟨a, r, P H' s'⟩)
theorem Xl {te : TE} {m : Res Bool} (h : EvB K Er S OO σ te XO m) : EvT Er S OO σ (Ix te) m:=Vp h
theorem Qb {t : TT} {m : Res Bool} (h : EvT Er S OO σ t m) : EvT Er S OO σ (Lh t) (m.bind fun b=>.ok (!b)):=fun H Q w s P=>h.run w s FT.tr P fun b H1 s1 w1 q1 P1=>P1 H1 (Xr.refl _)
noncomputable def Jc (a b : Res Bool) : Res Bool:=a.bind fun x=>if x = true then b else .ok false
noncomputable def orR (a b : Res Bool) : Res Bool:=a.bind fun x=>if x = true then .ok true else b
theorem Yo {t u : TT} {m n : Res Bool} (h : EvT Er S OO σ t m) (k : EvT Er S OO σ u n) : EvT Er S OO σ (LQ t u) (Jc m n):=fun H Q w s P=>h.run w s FT.tr P fun b H1 s1 w1 q1 P1=>by
  cases b with
  | true=>rw [if_pos rfl] at P1 ⊢; exact k H1 Q w1 q1 P1
  | false=>exact P1 H1 (Xr.refl _)
theorem DF {t u : TT} {m n : Res Bool} (h : EvT Er S OO σ t m) (k : EvT Er S OO σ u n) : EvT Er S OO σ (tOr t u) (orR m n):=fun H Q w s P=>h.run w s FT.tr P fun b H1 s1 w1 q1 P1=>by
  cases b with
  | true=>exact P1 H1 (Xr.refl _)
  | false=>exact k H1 Q w1 q1 P1
theorem Ct {t : TE} {m : Res Bool} (h : EvB K Er S OO σ t XO m) : EvB K Er S OO σ (Ib t) XO (m.bind fun b=>.ok (!b)):=fun H Q w s P=>h.run w s FB.tr P fun b x H1 s1 w1 q1 r1 P1=>⟨b, r1, P1 _ H1 (Xr.refl _) rfl⟩
theorem VX {t u : TE} {m n : Res Bool} (h : EvB K Er S OO σ t XO m) (k : EvB K Er S OO σ u XO n) : EvB K Er S OO σ (HX t u) XO (Jc m n):=fun H Q w s P=>h.run w s FB.tr P fun b x H1 s1 w1 q1 r1 P1=>⟨b, r1, by
  cases b with
  | true=>rw [if_pos rfl] at P1 ⊢; exact k H1 Q w1 q1 P1
  | false=>exact P1 _ H1 (Xr.refl _) rfl⟩
theorem EZ {t u : TE} {m n : Res Bool} (h : EvB K Er S OO σ t XO m) (k : EvB K Er S OO σ u XO n) : EvB K Er S OO σ (LZ t u) XO (orR m n):=fun H Q w s P=>h.run w s FB.tr P fun b x H1 s1 w1 q1 r1 P1=>⟨b, r1, by
  cases b with
  | true=>exact P1 _ H1 (Xr.refl _) rfl
  | false=>exact k H1 Q w1 q1 P1⟩
theorem Ly {c : TT} {ta tb : TE} {o : OE α} {mc : Res Bool} {ma mb : Res α} (hc : EvT Er S OO σ c mc) (ha : Ev K Er S OO OO' σ ta o ma) (hb : Ev K Er S OO OO' σ tb o mb) : Ev K Er S OO OO' σ (tIf c ta tb) o (mc.bind fun b=>if b = true then ma else mb):=fun H Q w s P=>
  hc.run w s FO.tr P fun b H1 s1 w1 q1 P1=>by
    cases b with
    | true=>rw [if_pos rfl] at P1 ⊢; exact ha H1 Q w1 q1 P1
    | false=>exact hb H1 Q w1 q1 P1
end
end L2
namespace L2
open PySem PySem.Spec PyProof.Rows
section
variable (K : PySem.W.Frag) (Er : Exc -> Hp -> Prop) (S : SC) (OO : List (List Xz)) (σ : St)
noncomputable def FS {α : Type} (r : Enc α) (Q : VK) (a : α) (H : Hp) : Prop:=∀ v H', Xr H H' -> r K (hid H' OO) v a -> Q v H'
noncomputable def EvS {α : Type} (te : TE) (r : Enc α) (m : Res α) : Prop:=∀ H Q, W OO H -> S.p (hid H OO) -> PZ Er (FS K OO r Q) H m -> te σ H Q
noncomputable def rE {α : Type} (r : Enc α) (H : Hp) (v : V) (as : List α) : Prop:=∃ p xs, v = .ref p /\ H p = some (.lst xs) /\ Paired (r K (hid H OO)) xs as
noncomputable def FL {α : Type} (r : Enc α) (Q : VK) (as : List α) (H : Hp) : Prop:=∀ v H', Xr H H' -> rE K OO r H' v as -> Q v H'
noncomputable def EvL {α : Type} (te : TE) (r : Enc α) (m : Res (List α)) : Prop:=∀ H Q, W OO H -> S.p (hid H OO) -> PZ Er (FL K OO r Q) H m -> te σ H Q
end
section
variable {K : PySem.W.Frag} {Er : Exc -> Hp -> Prop} {S : SC} {OO OO' OO2 : List (List Xz)} {σ : St} {α β γ : Type}
theorem FS.tr {r : Enc α} {Q : VK} : ∀ a H H', Xr H H' -> FS K OO r Q a H -> FS K OO r Q a H':=fun a H H' s h v H2 s2 q=>h v H2 (s.trans s2) q
theorem FL.tr {r : Enc α} {Q : VK} : ∀ a H H', Xr H H' -> FL K OO r Q a H -> FL K OO r Q a H':=fun a H H' s h v H2 s2 q=>h v H2 (s.trans s2) q
theorem PZ.run {F : β -> Hp -> Prop} {f : α -> Res β} {H H' : Hp} {a : α} {m : Res α} (hm : m = .ok a) (hF : ∀ b H H', Xr H H' -> F b H -> F b H') (s : Xr H H') (P : PZ Er F H (m.bind f)) : PZ Er F H' (f a):=by
  subst hm
  have P' : PZ Er F H (f a):=P
  revert P'
  cases f a with
  | bad=>exact fun z=>z
  | err x=>exact fun z H2 s2=>z H2 (s.trans s2)
  | ok b=>exact fun z=>hF b H H' s z
theorem EvS.run {te : TE} {r : Enc α} {m : Res α} (he : EvS K Er S OO σ te r m) {H : Hp} {Q : VK} (w : W OO H) (s : S.p (hid H OO)) {f : α -> Res β} {F : β -> Hp -> Prop} (hF : ∀ b H H', Xr H H' -> F b H -> F b H') (P : PZ Er F H (m.bind f))
    (hk : ∀ a v H', Xr H H' -> W OO H' -> S.p (hid H' OO) -> r K (hid H' OO) v a -> PZ Er F H' (f a) -> Q v H') : te σ H Q:=by
  refine he H Q w s ?_
  cases e : m with
  | bad=>rw [e] at P; exact P
  | err x=>rw [e] at P; exact P
  | ok a=>exact fun v H' s' hr=>hk a v H' s' (w.keep s') (S.mono _ _ (Xk s') s) hr (PZ.run e hF s' P)
theorem EvL.run {te : TE} {r : Enc α} {m : Res (List α)} (he : EvL K Er S OO σ te r m) {H : Hp} {Q : VK} (w : W OO H) (s : S.p (hid H OO)) {f : List α -> Res β} {F : β -> Hp -> Prop} (hF : ∀ b H H', Xr H H' -> F b H -> F b H') (P : PZ Er F H (m.bind f))
    (hk : ∀ a v H', Xr H H' -> W OO H' -> S.p (hid H' OO) -> rE K OO r H' v a -> PZ Er F H' (f a) -> Q v H') : te σ H Q:=by
  refine he H Q w s ?_
  cases e : m with
  | bad=>rw [e] at P; exact P
  | err x=>rw [e] at P; exact P
  | ok a=>exact fun v H' s' hr=>hk a v H' s' (w.keep s') (S.mono _ _ (Xk s') s) hr (PZ.run e hF s' P)
theorem PZ.imp {F G : β -> Hp -> Prop} {H : Hp} {m : Res β} (P : PZ Er F H m) (h : ∀ b, m = .ok b -> F b H -> G b H) : PZ Er G H m:=by
  cases m with
  | bad=>exact P
  | err x=>exact P
  | ok b=>exact h b rfl P
theorem EvS.toB {te : TE} {r : Enc α} [z : MonoE r] {m : Res α} (he : EvS K Er S OO σ te r m) : EvB K Er S OO σ te r m:=fun H Q w s P=>he H Q w s (P.imp fun b _ h v H' s' q=>h v H' s' (z.mono XG q))
theorem EvS.ev {te : TE} {r : Enc α} {m : Res α} (he : EvS K Er S OO σ te r m) : Ev K Er S OO OO σ te (oF r) m:=fun H Q w s P=>he H Q w s (P.imp fun b _ h v H' s' q=>
  h v [] H' s' (w.keep s').nil (by rw [Yk]; exact Xk s') ⟨rfl, by rw [Yk]; exact q⟩)
theorem EvB.sh {te : TE} {r : Enc α} [z : FlatE r] {m : Res α} (he : EvB K Er S OO σ te r m) : EvS K Er S OO σ te r m:=fun H Q w s P=>he H Q w s (P.imp fun b _ h v H' s' q=>h v H' s' (z.flat (w.keep s').i q))
theorem Ev.sh {te : TE} {o : OE α} {r : Enc α} [z : FrzC o r] {m : Res α} (he : Ev K Er S OO OO σ te o m) : EvS K Er S OO σ te r m:=fun H Q w s P=>he.frz H Q w s (P.imp fun b _ h v C H' s' w' m' q=>by
  obtain ⟨rfl, q⟩:=q
  rw [Yk] at q
  exact h v H' s' q)
theorem Xt {r : Enc α} {v : V} {a : α} (i : Nat) (hσ : σ[i]? = some (some v)) (h : ∀ x, S.p x -> r K x v a) : EvS K Er S OO σ (JR i) r (.ok a):=fun H Q w s P=>⟨v, hσ, P v H (Xr.refl _) (h _ s)⟩
theorem EvS.ls {te : TE} {r : Enc α} {m : Res (List α)} (he : EvS K Er S OO σ te (rV r) m) : EvL K Er S OO σ te r m:=fun H Q w s P=>he H Q w s (P.imp fun b _ h v H' s' ⟨p, xs, e, q, pr⟩=>h v H' s' ⟨p, xs, e, XG _ _ q, pr⟩)
theorem EvB.ls {te : TE} {r : Enc α} [z : FlatE r] {m : Res (List α)} (he : EvB K Er S OO σ te (rV r) m) : EvL K Er S OO σ te r m:=fun H Q w s P=>he H Q w s (P.imp fun b _ h v H' s' ⟨p, xs, e, q, pr⟩=>h v H' s' ⟨p, xs, e, q, Paired.imp2 (fun _ _ z'=>z.flat (w.keep s').i z') pr⟩)
theorem Ev.ls {te : TE} {r : Enc α} [z : MonoE r] {m : Res (List α)} (he : Ev K Er S OO OO σ te (oL (oF r)) m) : EvL K Er S OO σ te r m:=he.sh.ls
noncomputable def atR (as : List α) (i : Int) : Res α:=match atI as i with
  | some a=>.ok a
  | none=>.bad
theorem K5 {as : List α} {i : Int} {a : α} (h : atR as i = .ok a) : atI as i = some a:=by
  unfold atR at h; split at h
  . cases h; assumption
  . cases h
theorem Gk {as : List α} {i : Int} {x : Exc} : atR as i ≠ .err x:=by unfold atR; split <;> exact fun z=>nomatch z
theorem Jg {F : V -> α -> Prop} {xs : List V} {as : List α} {i : Int} {a : α} (p : Paired F xs as) (h : atI as i = some a) : ∃ x, atI xs i = some x /\ F x a:=by
  unfold atI at h ⊢
  rw [Paired.len p]
  cases e : ixN as.length i with
  | none=>rw [e] at h; cases h
  | some j=>
    rw [e] at h
    obtain ⟨x, h1, h2⟩:=Paired.getR p h
    exact ⟨x, h1, h2⟩
theorem PZ.okOf {F : β -> Hp -> Prop} {H : Hp} {m : Res β} (he : ∀ x, m ≠ .err x) (P : PZ Er F H m) : ∃ b, m = .ok b /\ F b H:=by
  cases m with
  | bad=>exact P.elim
  | err x=>exact absurd rfl (he x)
  | ok b=>exact ⟨b, rfl, P⟩
theorem Xx {ta tb : TE} {r : Enc α} [z : MonoE r] {ma : Res (List α)} {mb : Res Int} (ha : EvB K Er S OO σ ta (rV r) ma) (hb : EvB K Er S OO σ tb Xb mb) : EvB K Er S OO σ (tOp (Iy K) ta tb) r (ma.bind fun as=>mb.bind fun i=>atR as i):=fun H Q w s P=>
  ha.run w s FB.tr P fun a x H1 s1 w1 q1 ⟨p, xs, e, q, pr⟩ P1=>hb.run w1 q1 FB.tr P1 fun b y H2 s2 w2 q2 r2 P2=>by
    obtain ⟨c, hc, P3⟩:=P2.okOf fun x=>Gk
    obtain ⟨u, h1, h2⟩:=Jg pr (K5 hc)
    exact ⟨p, xs, b, u, e, r2, SqL.of (s2 _ _ q), h1, P3 u H2 (Xr.refl _) (z.mono s2 h2)⟩
theorem Kt {ta tb : TE} {r : Enc α} [z : MonoE r] {ma : Res (List α)} {mb : Res Int} (ha : EvB K Er S OO σ ta (rPL r) ma) (hb : EvB K Er S OO σ tb Xb mb) : EvB K Er S OO σ (tOp (Hi K) ta tb) r (ma.bind fun as=>mb.bind fun i=>atR as i):=fun H Q w s P=>
  ha.run w s FB.tr P fun a x H1 s1 w1 q1 ⟨p, xs, e, q, pr⟩ P1=>hb.run w1 q1 FB.tr P1 fun b y H2 s2 w2 q2 r2 P2=>by
    obtain ⟨c, hc, P3⟩:=P2.okOf fun x=>Gk
    obtain ⟨u, h1, h2⟩:=Jg pr (K5 hc)
    exact ⟨p, xs, b, u, e, r2, SqT.of (s2 _ _ q), h1, P3 u H2 (Xr.refl _) (z.mono s2 h2)⟩
theorem Fx {ta : TE} {r : Enc α} {q : Enc β} {m : Res (α × β)} (ha : EvB K Er S OO σ ta (rP2 r q) m) : EvB K Er S OO σ (tOp (Hi K) ta (tC (.int 0))) r (m.bind fun p=>.ok p.1):=fun H Q w s P=>
  ha.run w s FB.tr P fun a x H1 s1 w1 q1 ⟨p, x, y, e, q, h1, h2⟩ P1=>⟨p, _, 0, x, e, rfl, SqT.of q, rfl, P1 _ H1 (Xr.refl _) h1⟩
theorem F7 {ta : TE} {r : Enc α} {q : Enc β} {m : Res (α × β)} (ha : EvB K Er S OO σ ta (rP2 r q) m) : EvB K Er S OO σ (tOp (Hi K) ta (tC (.int 1))) q (m.bind fun p=>.ok p.2):=fun H Q w s P=>
  ha.run w s FB.tr P fun a x H1 s1 w1 q1 ⟨p, x, y, e, q, h1, h2⟩ P1=>⟨p, _, 1, y, e, rfl, SqT.of q, rfl, P1 _ H1 (Xr.refl _) h2⟩
theorem XS {ta : TE} {r : Enc α} {m : Res (List α)} (ha : EvB K Er S OO σ ta (rV r) m) : EvB K Er S OO σ (tCB (GC K) (XB ta Zx)) Xb (m.bind fun as=>.ok (as.length : Int)):=fun H Q w s P=>
  ha.run w s FB.tr P fun a x H1 s1 w1 q1 ⟨p, xs, e, q, pr⟩ P1=>⟨p, xs, by rw [e], .inl (SqL.of q), P1 _ H1 (Xr.refl _) (by rw [Paired.len pr]; rfl)⟩
theorem JH {ta : TE} {r : Enc α} {m : Res (List α)} (ha : EvB K Er S OO σ ta (rPL r) m) : EvB K Er S OO σ (tCB (GC K) (XB ta Zx)) Xb (m.bind fun as=>.ok (as.length : Int)):=fun H Q w s P=>
  ha.run w s FB.tr P fun a x H1 s1 w1 q1 ⟨p, xs, e, q, pr⟩ P1=>⟨p, xs, by rw [e], .inr (SqT.of q), P1 _ H1 (Xr.refl _) (by rw [Paired.len pr]; rfl)⟩
theorem C5 {r : Enc α} [z : MonoE r] {xs : List V} {as : List α} {H : Hp} {Q : VK} (w : W OO H) (pr : Paired (r K (hid H OO)) xs as) (P : FO K OO OO (oL (oF r)) Q as H) : ∀ p, H p = none -> Q (.ref p) (upd H p (.lst xs)):=fun p hp=>by
  have hn:=Kz (OO:=OO) hp (o:=.lst xs)
  refine P (.ref p) [(p, .lst xs)] _ (XL hp _) (w.new hp rfl) hn ?_
  refine ⟨p, xs, List.replicate as.length [], rfl, (P3.of (Paired.imp2 (fun _ _ h=>z.mono hn h) pr)).imp fun _ _ _ h=>h, by rw [X9]⟩
theorem Paired.take' {F : α -> β -> Prop} : ∀ {l : List α} {m : List β} (n : Nat), Paired F l m -> Paired F (l.take n) (m.take n)
  | _, _, 0, _=>.nil
  | _, _, _ + 1, .nil=>.nil
  | _, _, n + 1, .cons r t=>.cons r (Paired.take' n t)
theorem Paired.drop' {F : α -> β -> Prop} : ∀ {l : List α} {m : List β} (n : Nat), Paired F l m -> Paired F (l.drop n) (m.drop n)
  | _, _, 0, h=>h
  | _, _, _ + 1, .nil=>.nil
  | _, _, n + 1, .cons _ t=>Paired.drop' n t
theorem Paired.rep' {F : α -> β -> Prop} {l : List α} {m : List β} (h : Paired F l m) : ∀ n : Nat, Paired F (List.replicate n l).flatten (List.replicate n m).flatten
  | 0=>.nil
  | n + 1=>by simp only [List.replicate_succ, List.flatten_cons]; exact Paired.app h (Paired.rep' h n)
noncomputable def FM (as : List α) (lo hi : Option Int) : List α:=(as.drop (HT.sIx as.length 0 lo)).take (HT.sIx as.length as.length hi - HT.sIx as.length 0 lo)
theorem VH {F : V -> α -> Prop} {xs : List V} {as : List α} (p : Paired F xs as) (lo hi : Option Int) : Paired F (Hj xs lo hi) (FM as lo hi):=by
  unfold Hj FM; rw [Paired.len p]; exact Paired.take' _ (Paired.drop' _ p)
noncomputable def FP (Q : Option Int -> Hp -> Prop) (a : Option Int) (H : Hp) : Prop:=∀ H', Xr H H' -> Q a H'
noncomputable def EvP (Er : Exc -> Hp -> Prop) (S : SC) (OO : List (List Xz)) (σ : St) (t : TO) (m : Res (Option Int)) : Prop:=∀ H Q, W OO H -> S.p (hid H OO) -> PZ Er (FP Q) H m -> t σ H Q
theorem EvP.run {t : TO} {m : Res (Option Int)} (he : EvP Er S OO σ t m) {H : Hp} {Q : Option Int -> Hp -> Prop} (w : W OO H) (s : S.p (hid H OO)) {f : Option Int -> Res β} {F : β -> Hp -> Prop} (hF : ∀ b H H', Xr H H' -> F b H -> F b H') (P : PZ Er F H (m.bind f))
    (hk : ∀ a H', Xr H H' -> W OO H' -> S.p (hid H' OO) -> PZ Er F H' (f a) -> Q a H') : t σ H Q:=by
  refine he H Q w s ?_
  cases e : m with
  | bad=>rw [e] at P; exact P
  | err x=>rw [e] at P; exact P
  | ok a=>exact fun H' s'=>hk a H' s' (w.keep s') (S.mono _ _ (Xk s') s) (PZ.run e hF s' P)
theorem V6 : EvP Er S OO σ DG (.ok none):=fun H Q w s P=>P H (Xr.refl _)
theorem Uc {te : TE} {m : Res Int} (h : EvB K Er S OO σ te Xb m) : EvP Er S OO σ (Hr te) (m.bind fun i=>.ok (some i)):=fun H Q w s P=>
  h.run w s (fun _ _ _ s h H2 s2=>h H2 (s.trans s2)) P fun a v H1 s1 w1 q1 r1 P1=>⟨a, r1, P1 H1 (Xr.refl _)⟩
theorem Gh {te : TE} {tl th : TO} {r : Enc α} [z : MonoE r] {m : Res (List α)} {ml mh : Res (Option Int)} (he : EvL K Er S OO σ te r m) (hl : EvP Er S OO σ tl ml) (hh : EvP Er S OO σ th mh) :
    Ev K Er S OO OO σ (tSl (IP K) te tl th) (oL (oF r)) (m.bind fun as=>ml.bind fun lo=>mh.bind fun hi=>.ok (FM as lo hi)):=fun H Q w s P=>
  he.run w s FO.tr P fun as x H1 s1 w1 q1 ⟨p, xs, e, q, pr⟩ P1=>hl.run w1 q1 FO.tr P1 fun lo H2 s2 w2 q2 P2=>hh.run w2 q2 FO.tr P2 fun hi H3 s3 w3 q3 P3'=>
    ⟨p, xs, e, SqL.of (s3 _ _ (s2 _ _ q)), C5 w3 (VH (Paired.imp2 (fun _ _ h=>z.mono ((Xk s2).trans (Xk s3)) h) pr) lo hi) P3'⟩
theorem CP {ta : TE} {r : Enc α} {m : Res (List α)} (ha : EvB K Er S OO σ ta (rL r) m) : EvB K Er S OO σ (tCB (GC K) (XB ta Zx)) Xb (m.bind fun as=>.ok (as.length : Int)):=fun H Q w s P=>
  ha.run w s FB.tr P fun a x H1 s1 w1 q1 ⟨p, xs, e, q, pr⟩ P1=>⟨p, xs, by rw [e], .inl q, P1 _ H1 (Xr.refl _) (by rw [Paired.len pr]; rfl)⟩
theorem Ep {ta tb : TE} {ma : Res (List Int)} {mb : Res Int} (ha : EvB K Er S OO σ ta (rL Xb) ma) (hb : EvB K Er S OO σ tb Xb mb) : EvB K Er S OO σ (tOp (Iy K) ta tb) Xb (ma.bind fun as=>mb.bind fun i=>atR as i):=fun H Q w s P=>
  ha.run w s FB.tr P fun a x H1 s1 w1 q1 ⟨p, xs, e, q, pr⟩ P1=>hb.run w1 q1 FB.tr P1 fun b y H2 s2 w2 q2 r2 P2=>by
    obtain ⟨c, hc, P3⟩:=P2.okOf fun x=>Gk
    obtain ⟨u, h1, h2⟩:=Jg pr (K5 hc)
    exact ⟨p, xs, b, u, e, r2, s2.seq q, h1, P3 u H2 (Xr.refl _) h2⟩
theorem Fm {te : TE} {tl th : TO} {m : Res (List Int)} {ml mh : Res (Option Int)} (he : EvB K Er S OO σ te (rL Xb) m) (hl : EvP Er S OO σ tl ml) (hh : EvP Er S OO σ th mh) :
    Ev K Er S OO OO σ (tSl (IP K) te tl th) (oL (oF Xb)) (m.bind fun as=>ml.bind fun lo=>mh.bind fun hi=>.ok (FM as lo hi)):=fun H Q w s P=>
  he.run w s FO.tr P fun as x H1 s1 w1 q1 ⟨p, xs, e, q, pr⟩ P1=>hl.run w1 q1 FO.tr P1 fun lo H2 s2 w2 q2 P2=>hh.run w2 q2 FO.tr P2 fun hi H3 s3 w3 q3 P3'=>
    ⟨p, xs, e, s3.seq (s2.seq q), C5 w3 (VH (Paired.imp2 (fun _ _ h=>h) pr) lo hi) P3'⟩
noncomputable def Hl (as bs : List α) : Res (List α):=chk (as.length + bs.length <= sizeLine) (.ok (as ++ bs))
theorem K8 {ta tb : TE} {r : Enc α} [z : MonoE r] {ma mb : Res (List α)} (ha : EvL K Er S OO σ ta r ma) (hb : EvL K Er S OO σ tb r mb) : Ev K Er S OO OO σ (tOp LL ta tb) (oL (oF r)) (ma.bind fun as=>mb.bind fun bs=>Hl as bs):=fun H Q w s P=>
  ha.run w s FO.tr P fun as x H1 s1 w1 q1 ⟨p, xs, e, q, pr⟩ P1=>hb.run w1 q1 FO.tr P1 fun bs y H2 s2 w2 q2 ⟨p', ys, e', q', pr'⟩ P2=>by
    obtain ⟨c, hc, P3⟩:=P2.okOf fun x=>Qa
    obtain ⟨h1, h2⟩:=Y8 hc
    cases h2
    exact ⟨p, p', xs, ys, e, e', s2 _ _ q, q', by rw [Paired.len pr, Paired.len pr']; exact h1, C5 w2 (Paired.app (Paired.imp2 (fun _ _ h=>z.mono (Xk s2) h) pr) pr') P3⟩
noncomputable def Lg (as : List α) (n : Int) : Res (List α):=chk (-(2 ^ 63) <= n /\ n < 2 ^ 63 /\ as.length * n.toNat <= sizeLine) (.ok (List.replicate n.toNat as).flatten)
theorem HJ {ta tb : TE} {r : Enc α} [z : MonoE r] {ma : Res (List α)} {mb : Res Int} (ha : EvL K Er S OO σ ta r ma) (hb : EvB K Er S OO σ tb Xb mb) : Ev K Er S OO OO σ (tOp LV ta tb) (oL (oF r)) (ma.bind fun as=>mb.bind fun n=>Lg as n):=fun H Q w s P=>
  ha.run w s FO.tr P fun as x H1 s1 w1 q1 ⟨p, xs, e, q, pr⟩ P1=>hb.run w1 q1 FO.tr P1 fun n y H2 s2 w2 q2 r2 P2=>by
    obtain ⟨c, hc, P3⟩:=P2.okOf fun x=>Qa
    obtain ⟨⟨h0, h1, h3⟩, h2⟩:=Y8 hc
    cases h2
    exact ⟨p, n, xs, e, r2, s2 _ _ q, h0, h1, by rw [Paired.len pr]; exact h3, C5 w2 (Paired.rep' (Paired.imp2 (fun _ _ h=>z.mono (Xk s2) h) pr) _) P3⟩
theorem BX {ta : TE} {r : Enc α} [z : MonoE r] {ma : Res (List α)} (ha : EvL K Er S OO σ ta r ma) : Ev K Er S OO OO σ (tCB (Km K) (XB ta Zx)) (oL (oF r)) (ma.bind fun as=>.ok as):=fun H Q w s P=>
  ha.run w s FO.tr P fun as x H1 s1 w1 q1 ⟨p, xs, e, q, pr⟩ P1=>⟨p, xs, by rw [e], .inl (SqL.of q), C5 w1 pr P1⟩
noncomputable def ZC (lo hi : Int) : List Int:=(List.range (hi - lo).toNat).map fun (i : Nat)=>lo + (i : Int)
theorem Js {ta : TE} {ma : Res Int} (ha : EvB K Er S OO σ ta Xb ma) : Ev K Er S OO OO σ (K1 (XB ta Zx)) (oL (oF Xb)) (ma.bind fun n=>chk (0 <= n /\ n <= 1000) (.ok (ZC 0 n))):=fun H Q w s P=>
  ha.run w s FO.tr P fun n x H1 s1 w1 q1 r1 P1=>by
    obtain ⟨c, hc, P3⟩:=P1.okOf fun x=>Qa
    obtain ⟨⟨h0, h1⟩, h2⟩:=Y8 hc
    cases h2
    refine ⟨n, by rw [show x = .int n from r1], h0, h1, C5 w1 ?_ P3⟩
    unfold ZC
    rw [Int.sub_zero]
    have : ∀ l : List Nat, Paired (Xb K (hid H1 OO)) (l.map fun (i : Nat)=>V.int (i : Int)) (l.map fun (i : Nat)=>(0 : Int) + (i : Int)):=fun l=>by
      induction l with
      | nil=>exact .nil
      | cons a l ih=>exact .cons (by show V.int (a : Int) = V.int (0 + (a : Int)); rw [Int.zero_add]) ih
    exact this _
theorem Z5 {o : OE α} : Ev K Er S OO OO σ (CV Zx) (oL o) (.ok []):=fun H Q w s P=>⟨Nat.zero_le _, fun p hp=>P (.ref p) [(p, .lst [])] _ (XL hp _) (w.new hp rfl) (Kz hp) ⟨p, [], [], rfl, .nil, rfl⟩⟩
noncomputable def FA {α : Type} (K : PySem.W.Frag) (OO : List (List Xz)) (r : Enc α) (Q : List V -> Hp -> Prop) (as : List α) (H : Hp) : Prop:=∀ vs H', Xr H H' -> Paired (r K (hid H' OO)) vs as -> Q vs H'
noncomputable def EvA {α : Type} (K : PySem.W.Frag) (Er : Exc -> Hp -> Prop) (S : SC) (OO : List (List Xz)) (σ : St) (t : TA) (r : Enc α) (m : Res (List α)) : Prop:=∀ H Q, W OO H -> S.p (hid H OO) -> PZ Er (FA K OO r Q) H m -> t σ H Q
theorem Y6 {r : Enc α} : EvA K Er S OO σ Zx r (.ok []):=fun H Q w s P=>P [] H (Xr.refl _) .nil
theorem XI {te : TE} {t : TA} {r : Enc α} [z : MonoE r] {m : Res α} {n : Res (List α)} (he : EvS K Er S OO σ te r m) (ht : EvA K Er S OO σ t r n) : EvA K Er S OO σ (XB te t) r (m.bind fun a=>n.bind fun as=>.ok (a :: as)):=fun H Q w s P=>
  he.run w s (fun b H H' s h vs H2 s2 p=>h vs H2 (s.trans s2) p) P fun a x H1 s1 w1 q1 r1 P1=>by
    refine ht H1 _ w1 q1 ?_
    cases e : n with
    | bad=>rw [e] at P1; exact P1
    | err x=>rw [e] at P1; exact P1
    | ok as=>rw [e] at P1; exact fun vs H2 s2 p=>P1 (x :: vs) H2 s2 (.cons (z.mono (Xk s2) r1) p)
theorem QK {t : TA} {r : Enc α} [z : MonoE r] {m : Res (List α)} (h : EvA K Er S OO σ t r m) : Ev K Er S OO OO σ (CV t) (oL (oF r)) (m.bind fun as=>chk (as.length <= sizeLine) (.ok as)):=fun H Q w s P=>by
  refine h H _ w s ?_
  cases e : m with
  | bad=>rw [e] at P; exact P
  | err x=>rw [e] at P; exact P
  | ok as=>
    rw [e] at P
    intro vs H1 s1 p
    obtain ⟨c, hc, P3⟩:=PZ.okOf (fun x=>Qa) (show PZ Er _ H (chk (as.length <= sizeLine) (.ok as)) from P)
    obtain ⟨h1, h2⟩:=Y8 hc
    cases h2
    exact ⟨by rw [Paired.len p]; exact h1, C5 (w.keep s1) p (FO.tr _ _ _ s1 P3)⟩
theorem Gp {t : TA} {r : Enc α} [z : MonoE r] {m : Res (List α)} (h : EvA K Er S OO σ t r m) : EvS K Er S OO σ (Hk t) (rPL r) (m.bind fun as=>chk (as.length <= sizeLine) (.ok as)):=fun H Q w s P=>by
  refine h H _ w s ?_
  cases e : m with
  | bad=>rw [e] at P; exact P
  | err x=>rw [e] at P; exact P
  | ok as=>
    rw [e] at P
    intro vs H1 s1 p
    obtain ⟨c, hc, P3⟩:=PZ.okOf (fun x=>Qa) (show PZ Er _ H (chk (as.length <= sizeLine) (.ok as)) from P)
    obtain ⟨h1, h2⟩:=Y8 hc
    cases h2
    have w1:=w.keep s1
    refine ⟨by rw [Paired.len p]; exact h1, fun a ha=>P3 _ _ (s1.trans (XL ha _)) ⟨a, vs, rfl, Qv w1 ha, Paired.imp2 (fun _ _ q=>z.mono (Xk (XL ha _)) q) p⟩⟩
theorem Uq {ta tb : TE} {r : Enc α} {q : Enc β} [z : MonoE r] [y : MonoE q] {ma : Res α} {mb : Res β} (ha : EvS K Er S OO σ ta r ma) (hb : EvS K Er S OO σ tb q mb) : EvS K Er S OO σ (Hk (XB ta (XB tb Zx))) (rP2 r q) (ma.bind fun a=>mb.bind fun b=>.ok (a, b)):=fun H Q w s P=>
  ha.run w s FS.tr P fun a x H1 s1 w1 q1 r1 P1=>hb.run w1 q1 FS.tr P1 fun b y' H2 s2 w2 q2 r2 P2=>
    ⟨by show 2 <= sizeLine; decide, fun p hp=>P2 _ _ (XL hp _) ⟨p, x, y', rfl, Qv w2 hp, z.mono ((Xk s2).trans (Xk (XL hp _))) r1, y.mono (Xk (XL hp _)) r2⟩⟩
theorem Cq {ta tb tc : TE} {r : Enc α} {q : Enc β} {t : Enc γ} [z : MonoE r] [y : MonoE q] [x : MonoE t] {ma : Res α} {mb : Res β} {mc : Res γ} (ha : EvS K Er S OO σ ta r ma) (hb : EvS K Er S OO σ tb q mb) (hc : EvS K Er S OO σ tc t mc) :
    EvS K Er S OO σ (Hk (XB ta (XB tb (XB tc Zx)))) (rP3 r q t) (ma.bind fun a=>mb.bind fun b=>mc.bind fun c=>.ok (a, b, c)):=fun H Q w s P=>
  ha.run w s FS.tr P fun a x' H1 s1 w1 q1 r1 P1=>hb.run w1 q1 FS.tr P1 fun b y' H2 s2 w2 q2 r2 P2=>hc.run w2 q2 FS.tr P2 fun c z' H3 s3 w3 q3 r3 P3=>
    ⟨by show 3 <= sizeLine; decide, fun p hp=>P3 _ _ (XL hp _) ⟨p, x', y', z', rfl, Qv w3 hp, z.mono (((Xk s2).trans (Xk s3)).trans (Xk (XL hp _))) r1, y.mono ((Xk s3).trans (Xk (XL hp _))) r2, x.mono (Xk (XL hp _)) r3⟩⟩
end
end L2
namespace L2
open PySem PySem.Spec PyProof.Rows
section
variable {K : PySem.W.Frag} {Er : Exc -> Hp -> Prop} {S : SC} {OO OO' OO2 : List (List Xz)} {σ : St} {α β γ ρ ι : Type} {α1 α2 α3 α4 α5 α6 : Type}
noncomputable def noE (m : Res α) : Res α:=match m with
  | .ok a=>.ok a
  | _=>.bad
theorem VM {m : Res α} {a : α} (h : noE m = .ok a) : m = .ok a:=by
  cases m with
  | ok b=>exact h
  | bad=>cases h
  | err x=>cases h
theorem VO {m : Res α} {x : Exc} : noE m ≠ .err x:=by cases m <;> exact fun z=>nomatch z
noncomputable def FF (K : PySem.W.Frag) (o : OE α) (Q : VK) (a : α) (H : Hp) : Prop:=∀ v C H', W [C] H' -> Xr H (hid H' [C]) -> o K (hid H' [C]) v a C -> Q v H'
noncomputable def sp1 (r1 : Enc α1) (o : OE ρ) (f : α1 -> Res ρ) (K : PySem.W.Frag) : Sp:=fun vs H Q _=>∃ v1 a1 b, vs = [v1] /\ r1 K H v1 a1 /\ f a1 = .ok b /\ FF K o Q b H
noncomputable def sp2 (r1 : Enc α1) (r2 : Enc α2) (o : OE ρ) (f : α1 -> α2 -> Res ρ) (K : PySem.W.Frag) : Sp:=fun vs H Q _=>∃ v1 v2 a1 a2 b, vs = [v1, v2] /\ r1 K H v1 a1 /\ r2 K H v2 a2 /\ f a1 a2 = .ok b /\ FF K o Q b H
noncomputable def sp3 (r1 : Enc α1) (r2 : Enc α2) (r3 : Enc α3) (o : OE ρ) (f : α1 -> α2 -> α3 -> Res ρ) (K : PySem.W.Frag) : Sp:=fun vs H Q _=>∃ v1 v2 v3 a1 a2 a3 b, vs = [v1, v2, v3] /\ r1 K H v1 a1 /\ r2 K H v2 a2 /\ r3 K H v3 a3 /\ f a1 a2 a3 = .ok b /\ FF K o Q b H
noncomputable def sp5 (r1 : Enc α1) (r2 : Enc α2) (r3 : Enc α3) (r4 : Enc α4) (r5 : Enc α5) (o : OE ρ) (f : α1 -> α2 -> α3 -> α4 -> α5 -> Res ρ) (K : PySem.W.Frag) : Sp:=fun vs H Q _=>∃ v1 v2 v3 v4 v5 a1 a2 a3 a4 a5 b, vs = [v1, v2, v3, v4, v5] /\ r1 K H v1 a1 /\ r2 K H v2 a2 /\ r3 K H v3 a3 /\ r4 K H v4 a4 /\ r5 K H v5 a5 /\ f a1 a2 a3 a4 a5 = .ok b /\ FF K o Q b H
theorem IE {C : List Xz} {H H' : Hp} (w : W OO H) (w' : W [C] H') (m' : Xr H (hid H' [C])) : W (C :: OO) H' /\ Xr (hid H OO) (hid H' (C :: OO)) /\ VB (hid H' [C]) (hid H' (C :: OO)):=by
  have s : Xr H H':=m'.trans XG
  have f1 : fl [C] = C.map (·.1):=by simp [fl]
  have hd : ∀ b, b ∈ fl OO -> b ∉ C.map (·.1):=fun b hb hc=>by
    obtain ⟨u, hu⟩:=GT hb
    exact (X0 (m' _ _ (w.tr _ hu))).2 (by rw [f1]; exact hc)
  have w2 : W (C :: OO) H':=by
    refine ⟨fun c hc=>?_, ?_, fun c hc=>?_⟩
    . rw [List.flatten_cons, List.mem_append] at hc
      rcases hc with hc | hc
      . exact w'.tr c (by simp [hc])
      . exact s _ _ (w.tr c hc)
    . rw [XE]
      refine List.nodup_append.mpr ⟨by rw [← f1]; exact w'.nd, w.nd, fun a ha b hb e=>?_⟩
      subst e; exact hd a hb ha
    . rw [List.flatten_cons, List.mem_append] at hc
      rcases hc with hc | hc
      . exact w'.mu c (by simp [hc])
      . exact w.mu c hc
  refine ⟨w2, fun b u q=>?_, fun b u q i=>?_⟩
  . obtain ⟨q1, q2⟩ := X0 q
    obtain ⟨q3, q4⟩:=X0 (m' _ _ q1)
    refine YG q3 ?_
    rw [XE, List.mem_append]
    exact fun z=>z.elim (fun z=>q4 (by rw [f1]; exact z)) q2
  . exact w2.i b u (X0 q).1 i
theorem Ul {o : OE α} [z : FlatO o] {Q : VK} {b : α} {H : Hp} (w : W OO H) (P : FO K OO OO o Q b H) : FF K o Q b H:=fun v C H' w' m' ho=>by
  obtain ⟨w2, h2, h3⟩:=IE w w' m'
  exact P v C H' (m'.trans XG) w2 h2 (z.flat h3 ho)
theorem Yu {ta : TE} {r1 : Enc α1} {o : OE ρ} [FlatO o] {f : α1 -> Res ρ} {ma : Res α1} (ha : EvB K Er S OO σ ta r1 ma) : Ev K Er S OO OO σ (V8 (sp1 r1 o f K) [] E0 (XB ta Zx)) o (ma.bind fun a=>noE (f a)):=fun H Q w s P=>
  ha.run w s FO.tr P fun a x H1 s1 w1 q1 r1 P1=>by
    obtain ⟨b, hb, P2⟩:=P1.okOf fun x=>VO
    exact ⟨x, a, b, rfl, r1, VM hb, Ul w1 P2⟩
theorem XT {ta tb : TE} {r1 : Enc α1} {r2 : Enc α2} [z1 : MonoE r1] {o : OE ρ} [FlatO o] {f : α1 -> α2 -> Res ρ} {ma : Res α1} {mb : Res α2} (ha : EvB K Er S OO σ ta r1 ma) (hb : EvB K Er S OO σ tb r2 mb) :
    Ev K Er S OO OO σ (V8 (sp2 r1 r2 o f K) [] E0 (XB ta (XB tb Zx))) o (ma.bind fun a=>mb.bind fun b=>noE (f a b)):=fun H Q w s P=>
  ha.run w s FO.tr P fun a x H1 s1 w1 q1 r1 P1=>hb.run w1 q1 FO.tr P1 fun b y H2 s2 w2 q2 r2 P2=>by
    obtain ⟨c, hc, P3⟩:=P2.okOf fun x=>VO
    exact ⟨x, y, a, b, c, rfl, z1.mono s2 r1, r2, VM hc, Ul w2 P3⟩
theorem Qy {ta tb tc : TE} {r1 : Enc α1} {r2 : Enc α2} {r3 : Enc α3} [z1 : MonoE r1] [z2 : MonoE r2] {o : OE ρ} [FlatO o] {f : α1 -> α2 -> α3 -> Res ρ} {ma : Res α1} {mb : Res α2} {mc : Res α3} (ha : EvB K Er S OO σ ta r1 ma) (hb : EvB K Er S OO σ tb r2 mb) (hc : EvB K Er S OO σ tc r3 mc) :
    Ev K Er S OO OO σ (V8 (sp3 r1 r2 r3 o f K) [] E0 (XB ta (XB tb (XB tc Zx)))) o (ma.bind fun a=>mb.bind fun b=>mc.bind fun c=>noE (f a b c)):=fun H Q w s P=>
  ha.run w s FO.tr P fun a x H1 s1 w1 q1 r1 P1=>hb.run w1 q1 FO.tr P1 fun b y H2 s2 w2 q2 r2 P2=>hc.run w2 q2 FO.tr P2 fun c z H3 s3 w3 q3 r3 P3=>by
    obtain ⟨d, hd, P4⟩:=P3.okOf fun x=>VO
    exact ⟨x, y, z, a, b, c, d, rfl, z1.mono (s2.trans s3) r1, z2.mono s3 r2, r3, VM hd, Ul w3 P4⟩
theorem Gs {ta tb tc td te : TE} {r1 : Enc α1} {r2 : Enc α2} {r3 : Enc α3} {r4 : Enc α4} {r5 : Enc α5} [z1 : MonoE r1] [z2 : MonoE r2] [z3 : MonoE r3] [z4 : MonoE r4] {o : OE ρ} [FlatO o] {f : α1 -> α2 -> α3 -> α4 -> α5 -> Res ρ} {ma : Res α1} {mb : Res α2} {mc : Res α3} {md : Res α4} {me : Res α5} (ha : EvB K Er S OO σ ta r1 ma) (hb : EvB K Er S OO σ tb r2 mb) (hc : EvB K Er S OO σ tc r3 mc) (hd : EvB K Er S OO σ td r4 md) (he : EvB K Er S OO σ te r5 me) :
    Ev K Er S OO OO σ (V8 (sp5 r1 r2 r3 r4 r5 o f K) [] E0 (XB ta (XB tb (XB tc (XB td (XB te Zx)))))) o (ma.bind fun a=>mb.bind fun b=>mc.bind fun c=>md.bind fun d=>me.bind fun e=>noE (f a b c d e)):=fun H Q w s P=>
  ha.run w s FO.tr P fun a x H1 s1 w1 q1 r1 P1=>hb.run w1 q1 FO.tr P1 fun b y H2 s2 w2 q2 r2 P2=>hc.run w2 q2 FO.tr P2 fun c z H3 s3 w3 q3 r3 P3=>hd.run w3 q3 FO.tr P3 fun d u H4 s4 w4 q4 r4 P4=>he.run w4 q4 FO.tr P4 fun e t H5 s5 w5 q5 r5 P5=>by
    obtain ⟨g, hg, P6⟩:=P5.okOf fun x=>VO
    exact ⟨x, y, z, u, t, a, b, c, d, e, g, rfl, z1.mono (s2.trans (s3.trans (s4.trans s5))) r1, z2.mono (s3.trans (s4.trans s5)) r2, z3.mono (s4.trans s5) r3, z4.mono s5 r4, r5, VM hg, Ul w5 P6⟩
structure Jn (γ ι : Type) where
  oo : ι -> List (List Xz)
  ss : ι -> St
  sc : γ -> ι -> SC
inductive Ctl (ρ γ : Type) where
  | ret (r : ρ) | nx (g : γ)
noncomputable def FTd (K : PySem.W.Frag) (o : OE ρ) (D : Ends) (r : ρ) (h : Hp) : Prop:=∀ v C OO' H', W (C :: OO') H' -> Xr h (hid H' (C :: OO')) -> o K (hid H' (C :: OO')) v r C -> D.rt v H'
noncomputable def FNd (J : Jn γ ι) (D : Ends) (g : γ) (h : Hp) : Prop:=∀ x H', W (J.oo x) H' -> Xr h (hid H' (J.oo x)) -> (J.sc g x).p (hid H' (J.oo x)) -> D.nx (J.ss x) H'
noncomputable def FCd (K : PySem.W.Frag) (o : OE ρ) (J : Jn γ ι) (D : Ends) (c : Ctl ρ γ) (h : Hp) : Prop:=match c with
  | .ret r=>FTd K o D r h
  | .nx g=>FNd J D g h
class FdOk (Fd : Ends -> β -> Hp -> Prop) : Prop where
  tr : ∀ D b h h', Xr h h' -> Fd D b h -> Fd D b h'
instance {o : OE ρ} : FdOk (FTd K o):=⟨fun D b h h' s q v C O H' w m x=>q v C O H' w (s.trans m) x⟩
instance {J : Jn γ ι} : FdOk (FNd J):=⟨fun D b h h' s q x H' w m y=>q x H' w (s.trans m) y⟩
instance {o : OE ρ} {J : Jn γ ι} : FdOk (FCd K o J):=⟨fun D b h h' s q=>by
  cases b with
  | ret r=>exact fun v C O H' w m x=>q v C O H' w (s.trans m) x
  | nx g=>exact fun x H' w m y=>q x H' w (s.trans m) y⟩
theorem PZ.tr {F : β -> Hp -> Prop} (hF : ∀ b H H', Xr H H' -> F b H -> F b H') {H H' : Hp} {m : Res β} (s : Xr H H') (P : PZ Er F H m) : PZ Er F H' m:=by
  cases m with
  | bad=>exact P
  | err x=>exact fun H2 s2=>P H2 (s.trans s2)
  | ok b=>exact hF b H H' s P
noncomputable def Sv (Er : Exc -> Hp -> Prop) (S : SC) (OO : List (List Xz)) (σ : St) (t : TS) (Fd : Ends -> β -> Hp -> Prop) (m : Res β) : Prop:=∀ H D, W OO H -> S.p (hid H OO) -> PZ Er (Fd D) (hid H OO) m -> t D σ H
variable {Fd : Ends -> β -> Hp -> Prop} [fd : FdOk Fd] {u : TS}
theorem Ev.st {te : TE} {o : OE α} {m : Res α} (he : Ev K Er S OO OO' σ te o m) {H : Hp} {D : Ends} {Q : VK} (w : W OO H) (s : S.p (hid H OO)) {f : α -> Res β} (P : PZ Er (Fd D) (hid H OO) (m.bind f))
    (hk : ∀ a v C H', W (C :: OO') H' -> S.p (hid H' (C :: OO')) -> o K (hid H' (C :: OO')) v a C -> PZ Er (Fd D) (hid H' (C :: OO')) (f a) -> Q v H') : te σ H Q:=by
  refine he H Q w s ?_
  cases m with
  | bad=>exact P
  | err x=>exact fun H' s'=>P H' (XG.trans s')
  | ok a=>exact fun v C H' s' w' m' ho=>hk a v C H' w' (S.mono _ _ m' s) ho (PZ.tr (fd.tr D) m' P)
theorem EvB.st {te : TE} {r : Enc α} {m : Res α} (he : EvB K Er S OO σ te r m) {H : Hp} {D : Ends} {Q : VK} (w : W OO H) (s : S.p (hid H OO)) {f : α -> Res β} (P : PZ Er (Fd D) (hid H OO) (m.bind f))
    (hk : ∀ a v H', Xr H H' -> W OO H' -> S.p (hid H' OO) -> r K H' v a -> PZ Er (Fd D) (hid H' OO) (f a) -> Q v H') : te σ H Q:=by
  refine he H Q w s ?_
  cases m with
  | bad=>exact P
  | err x=>exact fun H' s'=>P H' (XG.trans s')
  | ok a=>exact fun v H' s' hr=>hk a v H' s' (w.keep s') (S.mono _ _ (Xk s') s) hr (PZ.tr (fd.tr D) (Xk s') P)
theorem EvS.st {te : TE} {r : Enc α} {m : Res α} (he : EvS K Er S OO σ te r m) {H : Hp} {D : Ends} {Q : VK} (w : W OO H) (s : S.p (hid H OO)) {f : α -> Res β} (P : PZ Er (Fd D) (hid H OO) (m.bind f))
    (hk : ∀ a v H', Xr H H' -> W OO H' -> S.p (hid H' OO) -> r K (hid H' OO) v a -> PZ Er (Fd D) (hid H' OO) (f a) -> Q v H') : te σ H Q:=by
  refine he H Q w s ?_
  cases m with
  | bad=>exact P
  | err x=>exact fun H' s'=>P H' (XG.trans s')
  | ok a=>exact fun v H' s' hr=>hk a v H' s' (w.keep s') (S.mono _ _ (Xk s') s) hr (PZ.tr (fd.tr D) (Xk s') P)
theorem EvT.st {tt : TT} {m : Res Bool} (he : EvT Er S OO σ tt m) {H : Hp} {D : Ends} {Q : Bool -> Hp -> Prop} (w : W OO H) (s : S.p (hid H OO)) {f : Bool -> Res β} (P : PZ Er (Fd D) (hid H OO) (m.bind f))
    (hk : ∀ b H', W OO H' -> S.p (hid H' OO) -> PZ Er (Fd D) (hid H' OO) (f b) -> Q b H') : tt σ H Q:=by
  refine he H Q w s ?_
  cases m with
  | bad=>exact P
  | err x=>exact fun H' s'=>P H' (XG.trans s')
  | ok a=>exact fun H' s'=>hk a H' (w.keep s') (S.mono _ _ (Xk s') s) (PZ.tr (fd.tr D) (Xk s') P)
theorem set_set {OO : List (List Xz)} {k : Nat} {C : List Xz} : (OO.set k C).set k [] = OO.set k []:=by simp
theorem LY {C : List Xz} {H : Hp} {k : Nat} (w : W (C :: OO) H) (hk : k < OO.length) : W (OO.set k C) H /\ Xr (hid H (C :: OO)) (hid H (OO.set k C)):=by
  have h1:=XF (OO:=OO) (k:=k) (C:=OO[k]) (by simp [hk])
  have h2:=XF (OO:=OO.set k C) (k:=k) (C:=C) (by simp [hk])
  rw [set_set] at h2
  have h3 : (OO.set k C).flatten.Perm (C ++ (OO.set k []).flatten):=by simpa using h2.symm
  have h4 : (C :: OO).flatten.Perm (C ++ (OO[k] ++ (OO.set k []).flatten)):=by
    rw [List.flatten_cons]; exact (by simpa using h1.symm : OO.flatten.Perm (OO[k] ++ (OO.set k []).flatten)).append_left C
  have h5 : (C ++ (OO.set k []).flatten).Sublist (C ++ (OO[k] ++ (OO.set k []).flatten)):=List.Sublist.append (List.Sublist.refl _) (List.sublist_append_right _ _)
  have w1 : W [C ++ (OO[k] ++ (OO.set k []).flatten)] H:=w.of (by simpa using h4.symm)
  have w2 : W [C ++ (OO.set k []).flatten] H:=w1.sub (by simpa using h5)
  refine ⟨w2.of (by simpa using h3), YB (Xr.refl _) fun b hb=>?_⟩
  obtain ⟨o, ho⟩:=GT hb
  exact Vj (h4.mem_iff.mpr (h5.mem (h3.mem_iff.mp ho)))
theorem XZ {te : TE} {o : OE α} [MonoO o] {m : Res α} {f : α -> Res β} (i k : Nat) (he : Ev K Er S OO OO' σ te o m) (hk : k < OO'.length) (hr : ∀ a v C, Sv Er (S.addO K o v a C) (OO'.set k C) (σ.set i (some v)) u Fd (f a)) : Sv Er S OO σ (ZX (B4 te (Z7 i)) u) Fd (m.bind f):=fun H D w s P=>
  he.st w s P fun a v C H' w' s' ho P'=>by
    obtain ⟨w2, h2⟩:=LY w' hk
    exact hr a v C H' D w2 ⟨S.mono _ _ h2 s', MonoO.mono h2 ho⟩ (PZ.tr (fd.tr D) h2 P')
theorem XY {te : TE} {r : Enc α} [MonoE r] {m : Res α} {f : α -> Res β} (i : Nat) (he : EvS K Er S OO σ te r m) (hr : ∀ a v, Sv Er (S.add K r v a) OO (σ.set i (some v)) u Fd (f a)) : Sv Er S OO σ (ZX (B4 te (Z7 i)) u) Fd (m.bind f):=fun H D w s P=>
  he.st w s P fun a v H' s1 w' s' ho P'=>hr a v H' D w' ⟨s', ho⟩ P'
theorem Xw {te : TE} {o : OE ρ} {m : Res ρ} (he : Ev K Er S OO OO' σ te o m) : Sv Er S OO σ (ZX (Hm te) u) (FTd K o) m:=fun H D w s P=>
  he H _ w s (by
    cases m with
    | bad=>exact P
    | err x=>exact fun H' s'=>P H' (XG.trans s')
    | ok a=>exact fun v C H' s' w' m' ho=>P v C OO' H' w' m' ho)
theorem B5 {J : Jn γ ι} {t : TS} {o : OE ρ} {m : Res ρ} (h : Sv Er S OO σ t (FTd K o) m) : Sv Er S OO σ t (FCd K o J) (m.bind fun r=>.ok (.ret r)):=fun H D w s P=>h H D w s (by
  cases m with
  | bad=>exact P
  | err x=>exact P
  | ok a=>exact P)
theorem Yq {J : Jn γ ι} {t : TS} {o : OE ρ} {m : Res γ} (h : Sv Er S OO σ t (FNd J) m) : Sv Er S OO σ t (FCd K o J) (m.bind fun r=>.ok (.nx r)):=fun H D w s P=>h H D w s (by
  cases m with
  | bad=>exact P
  | err x=>exact P
  | ok a=>exact P)
theorem Xs {J : Jn γ ι} (x : ι) (g : γ) (h1 : OO = J.oo x) (h2 : σ = J.ss x) (h3 : ∀ h, S.p h -> (J.sc g x).p h) : Sv Er S OO σ QE (FNd J) (.ok g):=fun H D w s P=>by
  subst h1 h2
  exact P x H w (Xr.refl _) (h3 _ s)
theorem Z1 {o : OE ρ} {c : TT} {t1 : TS} {mc : Res Bool} {m1 m2 : Res ρ} (hc : EvT Er S OO σ c mc) (h1 : Sv Er S OO σ t1 (FTd K o) m1) (h2 : Sv Er S OO σ u (FTd K o) m2) : Sv Er S OO σ (ZX (E3 c t1 QE) u) (FTd K o) (mc.bind fun b=>if b = true then m1 else m2):=fun H D w s P=>
  hc.st (Fd:=FTd K o) w s P fun b H' w' s' P'=>by
    cases b with
    | true=>rw [if_pos rfl] at P' ⊢; exact h1 H' _ w' s' P'
    | false=>exact h2 H' D w' s' P'
theorem YT {o : OE ρ} {J : Jn γ ι} {c : TT} {t1 : TS} {mc : Res Bool} {m1 : Res ρ} {m2 : Res (Ctl ρ γ)} (hc : EvT Er S OO σ c mc) (h1 : Sv Er S OO σ t1 (FTd K o) m1) (h2 : Sv Er S OO σ u (FCd K o J) m2) : Sv Er S OO σ (ZX (E3 c t1 QE) u) (FCd K o J) (mc.bind fun b=>if b = true then m1.bind (fun r=>.ok (.ret r)) else m2):=fun H D w s P=>
  hc.st (Fd:=FCd K o J) w s P fun b H' w' s' P'=>by
    cases b with
    | true=>
      rw [if_pos rfl] at P' ⊢
      refine h1 H' _ w' s' ?_
      cases m1 with
      | bad=>exact P'
      | err x=>exact P'
      | ok a=>exact P'
    | false=>exact h2 H' D w' s' P'
theorem ZQ {c : TT} {t1 t2 : TS} {mc : Res Bool} {m1 m2 : Res β} (hc : EvT Er S OO σ c mc) (h1 : Sv Er S OO σ t1 Fd m1) (h2 : Sv Er S OO σ t2 Fd m2) : Sv Er S OO σ (E3 c t1 t2) Fd (mc.bind fun b=>if b = true then m1 else m2):=fun H D w s P=>
  hc.st w s P fun b H' w' s' P'=>by
    cases b with
    | true=>rw [if_pos rfl] at P' ⊢; exact h1 H' _ w' s' P'
    | false=>exact h2 H' D w' s' P'
theorem Zs {J : Jn γ ι} {t : TS} {m : Res γ} {f : γ -> Res β} (hb : Sv Er S OO σ t (FNd J) m) (hr : ∀ g x, Sv Er (J.sc g x) (J.oo x) (J.ss x) u Fd (f g)) : Sv Er S OO σ (ZX t u) Fd (m.bind f):=fun H D w s P=>
  hb H _ w s (by
    cases m with
    | bad=>exact P
    | err x=>exact P
    | ok g=>exact fun x H' w' m' q=>hr g x H' D w' q (PZ.tr (fd.tr D) m' P))
noncomputable def Zu (f : γ -> Res ρ) : Ctl ρ γ -> Res ρ
  | .ret r=>.ok r
  | .nx g=>f g
noncomputable def Zd {δ : Type} (f : γ -> Res (Ctl ρ δ)) : Ctl ρ γ -> Res (Ctl ρ δ)
  | .ret r=>.ok (.ret r)
  | .nx g=>f g
theorem KY {δ κ : Type} {o : OE ρ} {J : Jn γ ι} {J2 : Jn δ κ} {t : TS} {m : Res (Ctl ρ γ)} {f : γ -> Res (Ctl ρ δ)} (hb : Sv Er S OO σ t (FCd K o J) m) (hr : ∀ g x, Sv Er (J.sc g x) (J.oo x) (J.ss x) u (FCd K o J2) (f g)) : Sv Er S OO σ (ZX t u) (FCd K o J2) (m.bind (Zd f)):=fun H D w s P=>
  hb H _ w s (by
    cases m with
    | bad=>exact P
    | err x=>exact P
    | ok g=>
      cases g with
      | ret r=>exact P
      | nx g=>exact fun x H' w' m' q=>hr g x H' D w' q (PZ.tr (FdOk.tr D) m' P))
theorem Sv.weak {S2 : SC} {t : TS} {m : Res β} (h : Sv Er S2 OO σ t Fd m) (hs : ∀ x, S.p x -> S2.p x) : Sv Er S OO σ t Fd m:=fun H D w s P=>h H D w (hs _ s) P
theorem Du {t : TS} {o : OE α} {r : Enc α} [z : FrzC o r] [MonoE r] {v : V} {a : α} {C : List Xz} {m : Res β} (k : Nat) (hk : OO[k]? = some C) (h : ∀ x, S.p x -> o K x v a C) (hr : Sv Er (S.add K r v a) (OO.set k []) σ t Fd m) : Sv Er S OO σ t Fd m:=fun H D w s P=>by
  have hp:=XF hk
  have w1 : W (C :: OO.set k []) H:=w.of hp
  have hs : Xr (hid H OO) (hid H (OO.set k [])):=by
    rw [← XD hp]
    exact YB (Xr.refl _) fun b hb=>by rw [XE]; simp [hb]
  refine hr H D w1.tail ⟨S.mono _ _ hs s, z.frz (h _ s) hs fun c hc=>YG (w1.cell c hc) ?_⟩ (PZ.tr (fd.tr D) hs P)
  have:=w1.nd
  rw [XE] at this
  exact fun hb=>(List.nodup_append.mp this).2.2 c.1 (List.mem_map.mpr ⟨c, hc, rfl⟩) c.1 hb rfl
theorem Ma {C D C' : List Xz} {H : Hp} {k : Nat} {p : Addr} {o : HO} (w : W (D :: OO) H) (hk : OO[k]? = some C) (hp : p ∈ C.map (·.1)) (hC : (C'.map (·.1)).Perm ((C ++ D).map (·.1))) (ht : ∀ c ∈ C', upd H p o c.1 = some c.2) (hm : ∀ c ∈ C', He c.2 = true) :
    W (OO.set k C') (upd H p o) /\ hid (upd H p o) (OO.set k C') = hid H (D :: OO):=by
  have hlt : k < OO.length:=by
    rcases Nat.lt_or_ge k OO.length with h | h
    . exact h
    . rw [List.getElem?_eq_none h] at hk; cases hk
  have h1:=XF hk
  have h2:=XF (OO:=OO.set k C') (k:=k) (C:=C') (by simp [hlt])
  rw [set_set] at h2
  have h3 : (OO.set k C').flatten.Perm (C' ++ (OO.set k []).flatten):=by simpa using h2.symm
  have h4 : (D :: OO).flatten.Perm (D ++ (C ++ (OO.set k []).flatten)):=by
    rw [List.flatten_cons]; exact (by simpa using h1.symm : OO.flatten.Perm (C ++ (OO.set k []).flatten)).append_left D
  have hfl : (fl (OO.set k C')).Perm (fl (D :: OO)):=by
    unfold fl
    refine (h3.map _).trans (List.Perm.trans ?_ (h4.map _).symm)
    simp only [List.map_append]
    refine (hC.append_right _).trans ?_
    simp only [List.map_append]
    rw [← List.append_assoc]
    exact List.perm_append_comm.append_right _
  have nd:=w.nd
  refine ⟨⟨fun c hc=>?_, hfl.nodup_iff.mpr nd, fun c hc=>?_⟩, ?_⟩
  . rcases List.mem_append.mp (h3.mem_iff.mp hc) with hc | hc
    . exact ht c hc
    . have hne : c.1 ≠ p:=fun e=>by
        have nd2 : ((D ++ (C ++ (OO.set k []).flatten)).map (·.1)).Nodup:=(h4.map _).nodup_iff.mp nd
        simp only [List.map_append] at nd2
        have nd3:=(List.nodup_append.mp nd2).2.1
        exact (List.nodup_append.mp nd3).2.2 p hp c.1 (List.mem_map.mpr ⟨c, hc, rfl⟩) e.symm
      rw [XJ hne]
      exact w.tr c (h4.mem_iff.mpr (by simp [hc]))
  . rcases List.mem_append.mp (h3.mem_iff.mp hc) with hc | hc
    . exact hm c hc
    . exact w.mu c (h4.mem_iff.mpr (by simp [hc]))
  . funext b
    unfold hid
    by_cases hb : b ∈ fl (D :: OO)
    . rw [if_pos hb, if_pos (hfl.mem_iff.mpr hb)]
    . rw [if_neg hb, if_neg fun z => hb (hfl.mem_iff.mp z)]
      refine XJ fun e=>hb ?_
      rw [e]
      obtain ⟨c, hc, rfl⟩:=List.mem_map.mp hp
      exact Vj (h4.mem_iff.mpr (by simp [hc]))
theorem ZP {Cs : List (List Xz)} {D : List Xz} : (Cs ++ [D]).flatten = Cs.flatten ++ D:=by simp
theorem Qd {ta : TE} {o : OE α} [MonoO o] {m : Res α} {f : List α -> Res β} {v : V} {as : List α} {C : List Xz} (i k : Nat) (hσ : σ[i]? = some (some v)) (hk : OO[k]? = some C) (hk' : OO'[k]? = some C) (h : ∀ x, S.p x -> oL o K x v as C) (he : Ev K Er S OO OO' σ ta o m)
    (hr : ∀ a C', Sv Er (S.addO K (oL o) v (as ++ [a]) C') (OO'.set k C') σ u Fd (f (as ++ [a]))) : Sv Er S OO σ (ZX (Ko (tBM K "list" Vt (JR i) (XB ta Zx))) u) Fd (m.bind fun a=>chk (as.length < sizeLine) (f (as ++ [a]))):=fun H D w s P=>by
  obtain ⟨p, xs, Cs, e, q, c⟩:=h _ s
  subst c
  have hH : H p = some (.lst xs):=w.tr (p, .lst xs) (List.mem_flatten.mpr ⟨_, List.mem_of_getElem? hk, List.mem_cons_self⟩)
  refine ⟨v, hσ, by rw [e]; exact .inl ⟨rfl, _, SqL.of hH⟩, he.st w s P fun a y D' H' w' s' ho P'=>?_⟩
  obtain ⟨p', xs', Cs', e2, q2, c2⟩:=h _ s'
  rw [e] at e2; cases e2
  have c3 : (p, HO.lst xs) = (p, HO.lst xs') /\ Cs.flatten = Cs'.flatten:=by
    injection c2 with h1 h2
    exact ⟨h1, h2⟩
  obtain ⟨c3, c4⟩:=c3
  cases c3
  have hH' : H' p = some (.lst xs):=w'.tr (p, .lst xs) (by rw [List.flatten_cons]; exact List.mem_append_right _ (List.mem_flatten.mpr ⟨_, List.mem_of_getElem? hk', List.mem_cons_self⟩))
  cases hlt : decide (as.length < sizeLine) with
  | false=>rw [chk, if_neg (by simpa using hlt)] at P'; exact P'.elim
  | true=>
    have hlt' : as.length < sizeLine:=by simpa using hlt
    rw [Yp hlt'] at P'
    have wnd:=w'.nd
    have hcell : ∀ c ∈ (p, HO.lst (xs ++ [y])) :: (Cs' ++ [D']).flatten, upd H' p (.lst (xs ++ [y])) c.1 = some c.2:=fun c hc=>by
      rcases List.mem_cons.mp hc with rfl | hc
      . exact YA
      . have hp1 := XF hk'
        have w3 : W [D' ++ (((p, HO.lst xs) :: Cs.flatten) ++ (OO'.set k []).flatten)] H':=w'.of (by
          simp only [List.flatten_cons, List.flatten_nil, List.append_nil]
          exact (by simpa using hp1 : (((p, HO.lst xs) :: Cs.flatten) ++ (OO'.set k []).flatten).Perm OO'.flatten).append_left D')
        have hin : c ∈ D' ++ (((p, HO.lst xs) :: Cs.flatten) ++ (OO'.set k []).flatten):=by
          rw [ZP, List.mem_append] at hc
          rcases hc with hc | hc
          . rw [← c4] at hc; simp [hc]
          . simp [hc]
        have hne : c.1 ≠ p:=fun ee=>by
          have nd3:=w3.nd
          rw [ZP, List.mem_append, ← c4] at hc
          simp only [fl, List.flatten_cons, List.flatten_nil, List.append_nil, List.map_append, List.cons_append, List.map_cons] at nd3
          rw [List.nodup_append] at nd3
          obtain ⟨_, n2, n3⟩:=nd3
          rcases hc with hc | hc
          . exact (List.nodup_cons.mp n2).1 (List.mem_append_left _ (List.mem_map.mpr ⟨c, hc, ee⟩))
          . exact n3 c.1 (List.mem_map.mpr ⟨c, hc, rfl⟩) p List.mem_cons_self ee
        rw [XJ hne]
        exact w3.tr c (by simpa using hin)
    obtain ⟨w4, h4⟩:=Ma (C':=(p, .lst (xs ++ [y])) :: (Cs' ++ [D']).flatten) w' hk' List.mem_cons_self (by simp [ZP, c4]) hcell (fun c hc=>by
      rcases List.mem_cons.mp hc with rfl | hc
      . rfl
      . rw [ZP, List.mem_append, ← c4] at hc
        rcases hc with hc | hc
        . exact w'.mu c (by rw [List.flatten_cons]; exact List.mem_append_right _ (List.mem_flatten.mpr ⟨_, List.mem_of_getElem? hk', List.mem_cons_of_mem _ hc⟩))
        . exact w'.mu c (by rw [List.flatten_cons]; exact List.mem_append_left _ hc))
    refine ⟨p, xs, y, e, rfl, hH', by rw [(P3.len q).1]; exact hlt', ?_⟩
    refine hr a _ _ D w4 ?_ (by rw [h4]; exact P')
    rw [h4]
    exact ⟨s', ⟨p, xs ++ [y], Cs' ++ [D'], e, q2.snoc ho, rfl⟩⟩
end
end L2
namespace L2
open PySem PySem.Spec PyProof.Rows
section
variable {K : PySem.W.Frag} {Er : Exc -> Hp -> Prop} {S : SC} {OO OO' OO2 : List (List Xz)} {σ : St} {α β γ ρ ι δ ε : Type}
variable {Fd : Ends -> β -> Hp -> Prop} [fd : FdOk Fd] {u : TS}
noncomputable def forN : List α -> γ -> (γ -> α -> Res γ) -> Res γ
  | [], g, _=>.ok g
  | a :: as, g, f=>(f g a).bind fun g'=>forN as g' f
noncomputable def forC : List α -> γ -> (γ -> α -> Res (Ctl ρ γ)) -> Res (Ctl ρ γ)
  | [], g, _=>.ok (.nx g)
  | a :: as, g, f=>(f g a).bind fun c=>match c with
    | .ret r=>.ok (.ret r)
    | .nx g'=>forC as g' f
theorem XN {m : Res α} {f : α -> Res β} {g : β -> Res γ} : (m.bind f).bind g = m.bind fun a=>(f a).bind g:=by cases m <;> rfl
structure Tgt (K : PySem.W.Frag) (OO : List (List Xz)) (g : TG) (r : Enc α) (κ : Type) where
  set : κ -> St -> St
  sc : α -> κ -> SC -> SC
  ok : ∀ {H : Hp} {v : V} {a : α} {σ : St} {S : SC} {Q : St -> Hp -> Prop}, r K (hid H OO) v a -> S.p (hid H OO) -> (∀ x, (sc a x S).p (hid H OO) -> Q (set x σ) H) -> g v σ H Q
noncomputable def tg1 {r : Enc α} [MonoE r] (i : Nat) : Tgt K OO (Z7 i) r V where
  set:=fun v σ=>σ.set i (some v)
  sc:=fun a v S=>S.add K r v a
  ok:=fun {H v a σ S Q} hr hs hq=>hq v ⟨hs, hr⟩
noncomputable def tg2 {r : Enc α} {q : Enc β} [MonoE r] [MonoE q] (i j : Nat) : Tgt K OO (LU K 2 (Ea (Z7 i) (Ea (Z7 j) L4))) (rP2 r q) (V × V) where
  set:=fun v σ=>(σ.set i (some v.1)).set j (some v.2)
  sc:=fun a v S=>(S.add K r v.1 a.1).add K q v.2 a.2
  ok:=fun {H v a σ S Q} ⟨p, x, y, e, h, h1, h2⟩ hs hq=>⟨p, _, e, SqT.of (XG _ _ h), rfl, x, [y], rfl, y, [], rfl, rfl, hq (x, y) ⟨⟨hs, h1⟩, h2⟩⟩
structure Walk (K : PySem.W.Frag) (Er : Exc -> Hp -> Prop) (S : SC) (OO : List (List Xz)) (σ : St) (wi : TI) (r : Enc α) (m : Res (List α)) : Prop where
  ok : ∀ {H : Hp} {R : It -> Hp -> Prop}, W OO H -> S.p (hid H OO) -> PZ Er (fun as H=>∀ J H', Xr H H' ->
      (∀ (i : Nat) a, as[i]? = some a -> ∀ OO2 H2, W OO2 H2 -> Xr (hid H' OO) (hid H2 OO2) -> J.go i H2 /\ ∀ x H3, J.yld i H2 x H3 -> Xr H2 H3 /\ r K (hid H3 OO2) x a) ->
      (∀ OO2 H2, W OO2 H2 -> Xr (hid H' OO) (hid H2 OO2) -> J.stop as.length H2) -> R J H') H m -> wi σ H R
theorem XU {te : TE} {r : Enc α} [z : MonoE r] {m : Res (List α)} (he : EvS K Er S OO σ te (rV r) m) : Walk K Er S OO σ (Vy K te) r m:=⟨fun {H R} w s P=>by
  refine he H _ w s (P.imp fun as _ h v H' s' ⟨p, xs, e, hp, pr⟩=>⟨p, e, ⟨xs, SqL.of (XG _ _ hp)⟩, h _ H' s' ?_ ?_⟩)
  . intro i a ha OO2 H2 w2 m2
    obtain ⟨x, hx, rx⟩:=Paired.getR pr ha
    have hq : SqL K H2 p xs:=SqL.of (XG _ _ (m2 _ _ hp))
    refine ⟨⟨xs, x, hq, hx⟩, fun y H3 ⟨e3, hy⟩=>?_⟩
    subst e3
    refine ⟨Xr.refl _, ?_⟩
    have:=hy xs hq
    rw [hx] at this
    cases this
    exact z.mono m2 rx
  . intro OO2 H2 w2 m2
    exact ⟨xs, SqL.of (XG _ _ (m2 _ _ hp)), by rw [Paired.len pr]; exact Nat.le_refl _⟩⟩
noncomputable def V5 (as : List α) : List (Int × α):=(List.range as.length).map (fun (i : Nat)=>(i : Int)) |>.zip as
theorem DV {as : List α} {i : Nat} {p : Int × α} (h : (V5 as)[i]? = some p) : p.1 = (i : Int) /\ as[i]? = some p.2:=by
  unfold V5 at h
  rw [List.getElem?_zip_eq_some] at h
  obtain ⟨h1, h2⟩:=h
  rw [List.getElem?_map] at h1
  have hlt : i < as.length:=by
    rcases Nat.lt_or_ge i as.length with q | q
    . exact q
    . rw [List.getElem?_eq_none q] at h2; cases h2
  rw [List.getElem?_range hlt] at h1
  exact ⟨(Option.some.inj h1).symm, h2⟩
theorem FX {as : List α} : (V5 as).length = as.length:=by simp [V5]
theorem QY {te : TE} {r : Enc α} [z : MonoE r] {m : Res (List α)} (he : EvS K Er S OO σ te (rV r) m) : Walk K Er S OO σ (Ig K te) (rP2 Xb r) (m.bind fun as=>.ok (V5 as)):=⟨fun {H R} w s P=>by
  refine he H _ w s ?_
  cases em : m with
  | bad=>rw [em] at P; exact P
  | err x=>rw [em] at P; exact P
  | ok as=>
    rw [em] at P
    intro v H' s' ⟨p, xs, e, hp, pr⟩
    refine ⟨p, e, ⟨xs, SqL.of (XG _ _ hp)⟩, P _ H' s' ?_ ?_⟩
    . intro i a ha OO2 H2 w2 m2
      obtain ⟨ha1, ha2⟩:=DV ha
      obtain ⟨x, hx, rx⟩:=Paired.getR pr ha2
      have hq : SqL K H2 p xs:=SqL.of (XG _ _ (m2 _ _ hp))
      refine ⟨⟨xs, x, hq, hx⟩, fun y H3 h3=>?_⟩
      obtain ⟨b, x', rfl, hb, rfl, hy⟩:=h3
      have:=hy xs hq
      rw [hx] at this
      cases this
      refine ⟨XL hb _, ⟨b, .int i, x, rfl, Qv w2 hb, by show V.int _ = V.int _; rw [ha1], z.mono (m2.trans (Xk (XL hb _))) rx⟩⟩
    . intro OO2 H2 w2 m2
      exact ⟨xs, SqL.of (XG _ _ (m2 _ _ hp)), by rw [FX, Paired.len pr]; exact Nat.le_refl _⟩⟩
theorem GO {lo hi : Int} {i : Nat} {a : Int} (h : (ZC lo hi)[i]? = some a) : a = lo + i /\ i < (hi - lo).toNat:=by
  unfold ZC at h
  rw [List.getElem?_map] at h
  rcases Nat.lt_or_ge i (hi - lo).toNat with q | q
  . rw [List.getElem?_range q] at h; exact ⟨(Option.some.inj h).symm, q⟩
  . rw [List.getElem?_eq_none (by simpa using q)] at h; cases h
theorem GW {lo hi : Int} : (ZC lo hi).length = (hi - lo).toNat:=by simp [ZC]
noncomputable def QM (lo hi : Int) : Res (List Int):=chk (-(2 ^ 62) <= lo /\ lo < 2 ^ 62 /\ -(2 ^ 62) <= hi /\ hi < 2 ^ 62) (.ok (ZC lo hi))
theorem Xp {te : TE} {m : Res Int} (he : EvB K Er S OO σ te Xb m) : Walk K Er S OO σ (Hx (XB te Zx)) Xb (m.bind fun n=>QM 0 n):=⟨fun {H R} w s P=>
  he.run w s (fun as H H' s' h J H2 s2=>h J H2 (s'.trans s2)) P fun n v H1 s1 w1 q1 r1 P1=>by
    obtain ⟨c, hc, P2⟩:=P1.okOf fun x=>Qa
    obtain ⟨⟨_, _, h1, h2⟩, h3⟩:=Y8 hc
    cases h3
    refine ⟨n, by rw [show v = .int n from r1], h1, h2, P2 _ H1 (Xr.refl _) (fun i a ha OO2 H2 w2 m2=>?_) fun OO2 H2 w2 m2=>?_⟩
    . obtain ⟨e1, e2⟩ := GO ha
      rw [Int.sub_zero] at e2
      refine ⟨e2, fun x H3 ⟨e3, e4⟩=>?_⟩
      subst e3
      exact ⟨Xr.refl _, by rw [e4, e1]; rfl⟩
    . show n.toNat <= _
      rw [GW, Int.sub_zero]; exact Nat.le_refl _⟩
theorem Y5 {wi : TI} {g : TG} {tb : TS} {r : Enc α} {κ : Type} {m : Res (List α)} {body : γ -> α -> Res γ} {f : γ -> Res β} (J : Jn γ ι) (T : ∀ OO, Tgt K OO g r κ) (x0 : ι) (g0 : γ) (he : Walk K Er S OO σ wi r m) (h1 : OO = J.oo x0) (h2 : σ = J.ss x0) (h3 : ∀ h, S.p h -> (J.sc g0 x0).p h)
    (hb : ∀ g x a v, Sv Er ((T (J.oo x)).sc a v (J.sc g x)) (J.oo x) ((T (J.oo x)).set v (J.ss x)) tb (FNd J) (body g a))
    (hr : ∀ g x, Sv Er (J.sc g x) (J.oo x) (J.ss x) u Fd (f g)) : Sv Er S OO σ (ZX (Cd wi g tb) u) Fd (m.bind fun as=>(forN as g0 body).bind f):=fun H D w s P=>by
  refine he.ok w s ?_
  cases em : m with
  | bad=>rw [em] at P; exact P
  | err x=>rw [em] at P; exact fun H' s'=>P H' (XG.trans s')
  | ok as=>
    rw [em] at P
    have P : PZ Er (Fd D) (hid H OO) ((forN as g0 body).bind f):=P
    intro It H' s' hgo hstop
    refine ⟨fun i mm σ' H2=>mm = as.length - i /\ i <= as.length /\ ∃ x gg, σ' = J.ss x /\ W (J.oo x) H2 /\ Xr (hid H' OO) (hid H2 (J.oo x)) /\ (J.sc gg x).p (hid H2 (J.oo x)) /\ PZ Er (Fd D) (hid H2 (J.oo x)) ((forN (as.drop i) gg body).bind f), ⟨as.length, rfl, Nat.zero_le _, x0, g0, h2, ?_, ?_, ?_, ?_⟩, ?_⟩
    . rw [← h1]; exact w.keep s'
    . rw [← h1]; exact Xr.refl _
    . rw [← h1]; exact h3 _ (S.mono _ _ (Xk s') s)
    . rw [← h1, List.drop_zero]; exact PZ.tr (fd.tr D) (Xk s') P
    . rintro i mm σ' H2 ⟨rfl, hi, x, gg, rfl, w2, m2, sc2, P2⟩
      by_cases hlt : i < as.length
      . right
        have ha : as[i]? = some as[i]:=by simp [hlt]
        obtain ⟨h4, h5⟩:=hgo i _ ha (J.oo x) H2 w2 m2
        refine ⟨h4, fun σ3 H3=>∃ x gg, σ3 = J.ss x /\ W (J.oo x) H3 /\ Xr (hid H' OO) (hid H3 (J.oo x)) /\ (J.sc gg x).p (hid H3 (J.oo x)) /\ PZ Er (Fd D) (hid H3 (J.oo x)) ((forN (as.drop (i + 1)) gg body).bind f), fun σ3 H3 q=>⟨as.length - (i + 1), Nat.sub_lt_sub_left hlt (Nat.lt_succ_self i), rfl, hlt, q⟩, fun y H3 hy=>?_⟩
        obtain ⟨s3, r3⟩:=h5 y H3 hy
        have w3:=w2.keep s3
        have m3:=Xk (OO:=J.oo x) s3
        refine (T (J.oo x)).ok r3 ((J.sc gg x).mono _ _ m3 sc2) fun v hv=>hb gg x as[i] v H3 _ w3 hv ?_
        rw [List.drop_eq_getElem_cons hlt] at P2
        have P3 : PZ Er (Fd D) (hid H2 (J.oo x)) ((body gg as[i]).bind fun g'=>(forN (as.drop (i + 1)) g' body).bind f):=by rw [← XN]; exact P2
        cases eb : body gg as[i] with
        | bad=>rw [eb] at P3; exact P3
        | err x=>rw [eb] at P3; exact fun H4 s4=>P3 H4 (m3.trans s4)
        | ok g'=>
          rw [eb] at P3
          exact fun x' H4 w4 m4 sc4=>⟨x', g', rfl, w4, m2.trans (m3.trans m4), sc4, PZ.tr (fd.tr D) (m3.trans m4) P3⟩
      . left
        have e : i = as.length:=Nat.le_antisymm hi (Nat.not_lt.mp hlt)
        subst e
        refine ⟨hstop (J.oo x) H2 w2 m2, hr gg x H2 D w2 sc2 ?_⟩
        rw [List.drop_length] at P2
        exact P2
theorem Zn {o : OE ρ} {wi : TI} {g : TG} {tb : TS} {r : Enc α} {κ : Type} {m : Res (List α)} {body : γ -> α -> Res (Ctl ρ γ)} {f : γ -> Res ρ} (J : Jn γ ι) (T : ∀ OO, Tgt K OO g r κ) (x0 : ι) (g0 : γ) (he : Walk K Er S OO σ wi r m) (h1 : OO = J.oo x0) (h2 : σ = J.ss x0) (h3 : ∀ h, S.p h -> (J.sc g0 x0).p h)
    (hb : ∀ g x a v, Sv Er ((T (J.oo x)).sc a v (J.sc g x)) (J.oo x) ((T (J.oo x)).set v (J.ss x)) tb (FCd K o J) (body g a))
    (hr : ∀ g x, Sv Er (J.sc g x) (J.oo x) (J.ss x) u (FTd K o) (f g)) : Sv Er S OO σ (ZX (Cd wi g tb) u) (FTd K o) (m.bind fun as=>(forC as g0 body).bind (Zu f)):=fun H D w s P=>by
  refine he.ok w s ?_
  cases em : m with
  | bad=>rw [em] at P; exact P
  | err x=>rw [em] at P; exact fun H' s'=>P H' (XG.trans s')
  | ok as=>
    rw [em] at P
    have P : PZ Er (FTd K o D) (hid H OO) ((forC as g0 body).bind (Zu f)):=P
    intro It H' s' hgo hstop
    refine ⟨fun i mm σ' H2=>mm = as.length - i /\ i <= as.length /\ ∃ x gg, σ' = J.ss x /\ W (J.oo x) H2 /\ Xr (hid H' OO) (hid H2 (J.oo x)) /\ (J.sc gg x).p (hid H2 (J.oo x)) /\ PZ Er (FTd K o D) (hid H2 (J.oo x)) ((forC (as.drop i) gg body).bind (Zu f)), ⟨as.length, rfl, Nat.zero_le _, x0, g0, h2, ?_, ?_, ?_, ?_⟩, ?_⟩
    . rw [← h1]; exact w.keep s'
    . rw [← h1]; exact Xr.refl _
    . rw [← h1]; exact h3 _ (S.mono _ _ (Xk s') s)
    . rw [← h1, List.drop_zero]; exact PZ.tr (FdOk.tr D) (Xk s') P
    . rintro i mm σ' H2 ⟨rfl, hi, x, gg, rfl, w2, m2, sc2, P2⟩
      by_cases hlt : i < as.length
      . right
        have ha : as[i]? = some as[i]:=by simp [hlt]
        obtain ⟨h4, h5⟩:=hgo i _ ha (J.oo x) H2 w2 m2
        refine ⟨h4, fun σ3 H3=>∃ x gg, σ3 = J.ss x /\ W (J.oo x) H3 /\ Xr (hid H' OO) (hid H3 (J.oo x)) /\ (J.sc gg x).p (hid H3 (J.oo x)) /\ PZ Er (FTd K o D) (hid H3 (J.oo x)) ((forC (as.drop (i + 1)) gg body).bind (Zu f)), fun σ3 H3 q=>⟨as.length - (i + 1), Nat.sub_lt_sub_left hlt (Nat.lt_succ_self i), rfl, hlt, q⟩, fun y H3 hy=>?_⟩
        obtain ⟨s3, r3⟩:=h5 y H3 hy
        have w3:=w2.keep s3
        have m3:=Xk (OO:=J.oo x) s3
        refine (T (J.oo x)).ok r3 ((J.sc gg x).mono _ _ m3 sc2) fun v hv=>hb gg x as[i] v H3 _ w3 hv ?_
        rw [List.drop_eq_getElem_cons hlt] at P2
        have P3 : PZ Er (FTd K o D) (hid H2 (J.oo x)) ((body gg as[i]).bind fun c=>(match c with
          | .ret r=>Res.ok (Ctl.ret r)
          | .nx g'=>forC (as.drop (i + 1)) g' body).bind (Zu f)):=by rw [← XN]; exact P2
        cases eb : body gg as[i] with
        | bad=>rw [eb] at P3; exact P3
        | err x=>rw [eb] at P3; exact fun H4 s4=>P3 H4 (m3.trans s4)
        | ok c=>
          rw [eb] at P3
          cases c with
          | ret r=>exact FdOk.tr (Fd:=FTd K o) D r _ _ m3 P3
          | nx g'=>exact fun x' H4 w4 m4 sc4=>⟨x', g', rfl, w4, m2.trans (m3.trans m4), sc4, PZ.tr (FdOk.tr D) (m3.trans m4) P3⟩
      . left
        have e : i = as.length:=Nat.le_antisymm hi (Nat.not_lt.mp hlt)
        subst e
        refine ⟨hstop (J.oo x) H2 w2 m2, hr gg x H2 D w2 sc2 ?_⟩
        rw [List.drop_length] at P2
        exact P2
theorem ZB {κ2 : Type} {o : OE ρ} {J2 : Jn δ κ2} {wi : TI} {g : TG} {tb : TS} {r : Enc α} {κ : Type} {m : Res (List α)} {body : γ -> α -> Res (Ctl ρ γ)} {f : γ -> Res (Ctl ρ δ)} (J : Jn γ ι) (T : ∀ OO, Tgt K OO g r κ) (x0 : ι) (g0 : γ) (he : Walk K Er S OO σ wi r m) (h1 : OO = J.oo x0) (h2 : σ = J.ss x0) (h3 : ∀ h, S.p h -> (J.sc g0 x0).p h)
    (hb : ∀ g x a v, Sv Er ((T (J.oo x)).sc a v (J.sc g x)) (J.oo x) ((T (J.oo x)).set v (J.ss x)) tb (FCd K o J) (body g a))
    (hr : ∀ g x, Sv Er (J.sc g x) (J.oo x) (J.ss x) u (FCd K o J2) (f g)) : Sv Er S OO σ (ZX (Cd wi g tb) u) (FCd K o J2) (m.bind fun as=>(forC as g0 body).bind (Zd f)):=fun H D w s P=>by
  refine he.ok w s ?_
  cases em : m with
  | bad=>rw [em] at P; exact P
  | err x=>rw [em] at P; exact fun H' s'=>P H' (XG.trans s')
  | ok as=>
    rw [em] at P
    have P : PZ Er (FCd K o J2 D) (hid H OO) ((forC as g0 body).bind (Zd f)):=P
    intro It H' s' hgo hstop
    refine ⟨fun i mm σ' H2=>mm = as.length - i /\ i <= as.length /\ ∃ x gg, σ' = J.ss x /\ W (J.oo x) H2 /\ Xr (hid H' OO) (hid H2 (J.oo x)) /\ (J.sc gg x).p (hid H2 (J.oo x)) /\ PZ Er (FCd K o J2 D) (hid H2 (J.oo x)) ((forC (as.drop i) gg body).bind (Zd f)), ⟨as.length, rfl, Nat.zero_le _, x0, g0, h2, ?_, ?_, ?_, ?_⟩, ?_⟩
    . rw [← h1]; exact w.keep s'
    . rw [← h1]; exact Xr.refl _
    . rw [← h1]; exact h3 _ (S.mono _ _ (Xk s') s)
    . rw [← h1, List.drop_zero]; exact PZ.tr (FdOk.tr D) (Xk s') P
    . rintro i mm σ' H2 ⟨rfl, hi, x, gg, rfl, w2, m2, sc2, P2⟩
      by_cases hlt : i < as.length
      . right
        have ha : as[i]? = some as[i]:=by simp [hlt]
        obtain ⟨h4, h5⟩:=hgo i _ ha (J.oo x) H2 w2 m2
        refine ⟨h4, fun σ3 H3=>∃ x gg, σ3 = J.ss x /\ W (J.oo x) H3 /\ Xr (hid H' OO) (hid H3 (J.oo x)) /\ (J.sc gg x).p (hid H3 (J.oo x)) /\ PZ Er (FCd K o J2 D) (hid H3 (J.oo x)) ((forC (as.drop (i + 1)) gg body).bind (Zd f)), fun σ3 H3 q=>⟨as.length - (i + 1), Nat.sub_lt_sub_left hlt (Nat.lt_succ_self i), rfl, hlt, q⟩, fun y H3 hy=>?_⟩
        obtain ⟨s3, r3⟩:=h5 y H3 hy
        have w3:=w2.keep s3
        have m3:=Xk (OO:=J.oo x) s3
        refine (T (J.oo x)).ok r3 ((J.sc gg x).mono _ _ m3 sc2) fun v hv=>hb gg x as[i] v H3 _ w3 hv ?_
        rw [List.drop_eq_getElem_cons hlt] at P2
        have P3 : PZ Er (FCd K o J2 D) (hid H2 (J.oo x)) ((body gg as[i]).bind fun c=>(match c with
          | .ret r=>Res.ok (Ctl.ret r)
          | .nx g'=>forC (as.drop (i + 1)) g' body).bind (Zd f)):=by rw [← XN]; exact P2
        cases eb : body gg as[i] with
        | bad=>rw [eb] at P3; exact P3
        | err x=>rw [eb] at P3; exact fun H4 s4=>P3 H4 (m3.trans s4)
        | ok c=>
          rw [eb] at P3
          cases c with
          | ret r=>exact FdOk.tr (Fd:=FTd K o) D r _ _ m3 P3
          | nx g'=>exact fun x' H4 w4 m4 sc4=>⟨x', g', rfl, w4, m2.trans (m3.trans m4), sc4, PZ.tr (FdOk.tr D) (m3.trans m4) P3⟩
      . left
        have e : i = as.length:=Nat.le_antisymm hi (Nat.not_lt.mp hlt)
        subst e
        refine ⟨hstop (J.oo x) H2 w2 m2, hr gg x H2 D w2 sc2 ?_⟩
        rw [List.drop_length] at P2
        exact P2
noncomputable def Jq : Nat -> γ -> (γ -> Res Bool) -> (γ -> Res γ) -> Res γ
  | 0, _, _, _=>.bad
  | n + 1, g, c, f=>(c g).bind fun b=>if b = true then (f g).bind fun g'=>Jq n g' c f else .ok g
theorem Ga {c : TT} {tb : TS} {mc : γ -> Res Bool} {body : γ -> Res γ} {f : γ -> Res β} (J : Jn γ ι) (n : Nat) (x0 : ι) (g0 : γ) (h1 : OO = J.oo x0) (h2 : σ = J.ss x0) (h3 : ∀ h, S.p h -> (J.sc g0 x0).p h)
    (hc : ∀ g x, EvT Er (J.sc g x) (J.oo x) (J.ss x) c (mc g)) (hb : ∀ g x, Sv Er (J.sc g x) (J.oo x) (J.ss x) tb (FNd J) (body g))
    (hr : ∀ g x, Sv Er (J.sc g x) (J.oo x) (J.ss x) u Fd (f g)) : Sv Er S OO σ (ZX (D0 c tb) u) Fd ((Jq n g0 mc body).bind f):=fun H D w s P=>by
  refine ⟨fun mm σ' H2=>∃ x gg, σ' = J.ss x /\ W (J.oo x) H2 /\ (J.sc gg x).p (hid H2 (J.oo x)) /\ PZ Er (Fd D) (hid H2 (J.oo x)) ((Jq mm gg mc body).bind f), ⟨n, x0, g0, h2, by rw [← h1]; exact w, by rw [← h1]; exact h3 _ s, by rw [← h1]; exact P⟩, ?_⟩
  rintro mm σ' H2 ⟨x, gg, rfl, w2, sc2, P2⟩
  cases mm with
  | zero=>exact P2.elim
  | succ mm=>
    have P3 : PZ Er (Fd D) (hid H2 (J.oo x)) ((mc gg).bind fun b=>(if b = true then (body gg).bind fun g'=>Jq mm g' mc body else .ok gg).bind f):=by rw [← XN]; exact P2
    refine (hc gg x).st w2 sc2 P3 fun b H3 w3 sc3 P4=>?_
    cases b with
    | false=>exact hr gg x H3 D w3 sc3 P4
    | true=>
      rw [if_pos rfl] at P4 ⊢
      refine ⟨fun σ3 H4=>∃ x gg, σ3 = J.ss x /\ W (J.oo x) H4 /\ (J.sc gg x).p (hid H4 (J.oo x)) /\ PZ Er (Fd D) (hid H4 (J.oo x)) ((Jq mm gg mc body).bind f), fun σ3 H4 q=>⟨mm, Nat.lt_succ_self _, q⟩, hb gg x H3 _ w3 sc3 ?_⟩
      rw [XN] at P4
      cases eb : body gg with
      | bad=>rw [eb] at P4; exact P4
      | err x=>rw [eb] at P4; exact P4
      | ok g'=>
        rw [eb] at P4
        exact fun x' H5 w5 m5 sc5=>⟨x', g', rfl, w5, sc5, PZ.tr (fd.tr D) m5 P4⟩
noncomputable def GL (as : List α) (f : α -> Res β) : Res (List β):=match as with
  | []=>.ok []
  | a :: as=>(f a).bind fun b=>(GL as f).bind fun bs=>.ok (b :: bs)
noncomputable def UD (as : List α) (f : α -> Res β) : Res (List β):=chk (as.length <= sizeLine) (GL as f)
noncomputable def Vw (as : List α) (c : α -> Res Bool) (f : α -> Res β) : Res (List β):=match as with
  | []=>.ok []
  | a :: as=>(c a).bind fun b=>if b = true then (f a).bind fun b=>(Vw as c f).bind fun bs=>.ok (b :: bs) else Vw as c f
noncomputable def Bx (as : List α) (c : α -> Res Bool) (f : α -> Res β) : Res (List β):=chk (as.length <= sizeLine) (Vw as c f)
theorem PZ.chk {F : β -> Hp -> Prop} {H : Hp} {c : Prop} [Decidable c] {m : Res β} (P : PZ Er F H (chk c m)) : c /\ PZ Er F H m:=by
  unfold L2.chk at P; split at P
  . exact ⟨by assumption, P⟩
  . exact P.elim
theorem ET {o : OE α} [z : MonoO o] {xs : List V} {as : List α} {Cs : List (List Xz)} {H H0 : Hp} {Q : VK} (w : W (Cs.flatten :: OO) H) (m0 : Xr (hid H0 OO) (hid H (Cs.flatten :: OO))) (s0 : Xr H0 H) (pr : P3 (o K (hid H (Cs.flatten :: OO))) xs as Cs) (P : FO K OO OO (oL o) Q as H0) : ∀ p, H p = none -> Q (.ref p) (upd H p (.lst xs)):=fun p hp=>by
  have hn:=Kz (OO:=Cs.flatten :: OO) hp (o:=.lst xs)
  have wn:=w.new hp (o:=.lst xs) rfl
  have pe : (((p, HO.lst xs) :: Cs.flatten) :: OO).flatten.Perm ([(p, HO.lst xs)] :: Cs.flatten :: OO).flatten:=by simp
  refine P (.ref p) ((p, .lst xs) :: Cs.flatten) _ (s0.trans (XL hp _)) (wn.of pe) ?_ ?_
  . rw [XD pe]; exact m0.trans hn
  . rw [XD pe]
    exact ⟨p, xs, Cs, rfl, pr.imp fun _ _ _ h=>z.mono hn h, rfl⟩
theorem ZJ {o : OE β} [z : MonoO o] {wi : TI} {g : TG} {te : TE} {r : Enc α} {κ : Type} {m : Res (List α)} {f : α -> Res β} {n : Nat} {caps : List (Nat × Str)} (T : ∀ OO, Tgt K OO g r κ) (he : Walk K Er S OO σ wi r m)
    (hb : ∀ C a v, Ev K Er ((T (C :: OO)).sc a v S) (C :: OO) (C :: OO) ((T (C :: OO)).set v (YH n caps σ)) te o (f a)) : Ev K Er S OO OO σ (Ke n caps wi g V9 te) (oL o) (m.bind fun as=>UD as f):=fun H Q w s P=>by
  refine he.ok w s ?_
  cases em : m with
  | bad=>rw [em] at P; exact P
  | err x=>rw [em] at P; exact P
  | ok as=>
    rw [em] at P
    obtain ⟨hsz, P⟩:=PZ.chk (show PZ Er _ H (chk (as.length <= sizeLine) (GL as f)) from P)
    intro It H' s' hgo hstop
    -- what is left: the Zc of the items, then all
    refine ⟨fun i mm ys H2=>mm = as.length - i /\ i <= as.length /\ ∃ bs Cs, Xr H H2 /\ W (Cs.flatten :: OO) H2 /\ Xr (hid H' OO) (hid H2 (Cs.flatten :: OO)) /\ P3 (o K (hid H2 (Cs.flatten :: OO))) ys bs Cs /\ bs.length = i /\ PZ Er (FO K OO OO (oL o) Q) H ((GL (as.drop i) f).bind fun Zc=>.ok (bs ++ Zc)),
      ⟨as.length, rfl, Nat.zero_le _, [], [], s', (w.keep s').nil, by show Xr _ (hid H' ([] :: OO)); rw [Yk]; exact Xr.refl _, .nil, rfl, ?_⟩, ?_⟩
    . rw [List.drop_zero]
      revert P
      cases GL as f <;> exact fun z=>z
    . rintro i mm ys H2 ⟨rfl, hi, bs, Cs, s2, w2, m2, pr, hlen, P2⟩
      refine ⟨by rw [pr.len.1, hlen]; omega, ?_⟩
      by_cases hlt : i < as.length
      . right
        have ha : as[i]? = some as[i]:=by simp [hlt]
        obtain ⟨h4, h5⟩:=hgo i _ ha (Cs.flatten :: OO) H2 w2 m2
        refine ⟨h4, fun ys' H3=>∃ bs Cs, Xr H H3 /\ W (Cs.flatten :: OO) H3 /\ Xr (hid H' OO) (hid H3 (Cs.flatten :: OO)) /\ P3 (o K (hid H3 (Cs.flatten :: OO))) ys' bs Cs /\ bs.length = i + 1 /\ PZ Er (FO K OO OO (oL o) Q) H ((GL (as.drop (i + 1)) f).bind fun Zc=>.ok (bs ++ Zc)), fun ys' H3 q=>⟨as.length - (i + 1), Nat.sub_lt_sub_left hlt (Nat.lt_succ_self i), rfl, hlt, q⟩, fun y H3 hy=>?_⟩
        obtain ⟨s3, r3⟩:=h5 y H3 hy
        have w3:=w2.keep s3
        have m3:=Xk (OO:=Cs.flatten :: OO) s3
        have sS : S.p (hid H3 (Cs.flatten :: OO)):=S.mono _ _ ((Xk s').trans (m2.trans m3)) s
        refine (T (Cs.flatten :: OO)).ok r3 sS fun v hv=>?_
        show V9 _ _ _
        refine Hu ?_
        rw [List.drop_eq_getElem_cons hlt] at P2
        have P3' : PZ Er (FO K OO OO (oL o) Q) H ((f as[i]).bind fun b=>(GL (as.drop (i + 1)) f).bind fun Zc=>.ok (bs ++ b :: Zc)):=by
          have : ((f as[i]).bind fun b=>(GL (as.drop (i + 1)) f).bind fun Zc=>Res.ok (bs ++ b :: Zc)) = (GL (as[i] :: as.drop (i + 1)) f).bind fun Zc=>.ok (bs ++ Zc):=by
            show _ = ((f as[i]).bind fun b=>(GL (as.drop (i + 1)) f).bind fun bs=>Res.ok (b :: bs)).bind _
            rw [XN]; congr 1; funext b; rw [XN]; rfl
          rw [this]; exact P2
        refine hb Cs.flatten as[i] v H3 _ w3 hv ?_
        cases eb : f as[i] with
        | bad=>rw [eb] at P3'; exact P3'
        | err x=>rw [eb] at P3'; exact fun H4 s4=>P3' H4 (s2.trans (s3.trans s4))
        | ok b=>
          rw [eb] at P3'
          intro v' C' H4 s4 w4 m4 ho
          have pe : ((Cs ++ [C']).flatten :: OO).flatten.Perm (C' :: Cs.flatten :: OO).flatten:=by
            simp only [ZP, List.flatten_cons]
            rw [List.append_assoc, ← List.append_assoc, ← List.append_assoc]
            exact List.perm_append_comm.append_right _
          refine ⟨bs ++ [b], Cs ++ [C'], s2.trans (s3.trans s4), w4.of pe, ?_, ?_, by simp [hlen], ?_⟩
          . rw [XD pe]; exact m2.trans (m3.trans m4)
          . rw [XD pe]; exact P3.snoc (pr.imp fun _ _ _ h=>z.mono (m3.trans m4) h) ho
          . have P4 : PZ Er (FO K OO OO (oL o) Q) H ((GL (as.drop (i + 1)) f).bind fun Zc => .ok (bs ++ b :: Zc)) := P3'
            simpa using P4
      . left
        have e : i = as.length:=Nat.le_antisymm hi (Nat.not_lt.mp hlt)
        subst e
        refine ⟨hstop (Cs.flatten :: OO) H2 w2 m2, ?_⟩
        rw [List.drop_length] at P2
        have P3' : FO K OO OO (oL o) Q (bs ++ []) H:=P2
        rw [List.append_nil] at P3'
        exact ET (H0:=H) w2 ((Xk s').trans m2) s2 pr P3'
theorem JN {o : OE β} [z : MonoO o] {wi : TI} {g : TG} {tt : TT} {te : TE} {r : Enc α} {κ : Type} {m : Res (List α)} {c : α -> Res Bool} {f : α -> Res β} {n : Nat} {caps : List (Nat × Str)} (T : ∀ OO, Tgt K OO g r κ) (he : Walk K Er S OO σ wi r m)
    (hc : ∀ C a v, EvT Er ((T (C :: OO)).sc a v S) (C :: OO) ((T (C :: OO)).set v (YH n caps σ)) tt (c a))
    (hb : ∀ C a v, Ev K Er ((T (C :: OO)).sc a v S) (C :: OO) (C :: OO) ((T (C :: OO)).set v (YH n caps σ)) te o (f a)) : Ev K Er S OO OO σ (Ke n caps wi g tt te) (oL o) (m.bind fun as=>Bx as c f):=fun H Q w s P=>by
  refine he.ok w s ?_
  cases em : m with
  | bad=>rw [em] at P; exact P
  | err x=>rw [em] at P; exact P
  | ok as=>
    rw [em] at P
    obtain ⟨hsz, P⟩:=PZ.chk (show PZ Er _ H (chk (as.length <= sizeLine) (Vw as c f)) from P)
    intro It H' s' hgo hstop
    refine ⟨fun i mm ys H2=>mm = as.length - i /\ i <= as.length /\ ∃ bs Cs, Xr H H2 /\ W (Cs.flatten :: OO) H2 /\ Xr (hid H' OO) (hid H2 (Cs.flatten :: OO)) /\ P3 (o K (hid H2 (Cs.flatten :: OO))) ys bs Cs /\ bs.length <= i /\ PZ Er (FO K OO OO (oL o) Q) H ((Vw (as.drop i) c f).bind fun Zc=>.ok (bs ++ Zc)),
      ⟨as.length, rfl, Nat.zero_le _, [], [], s', (w.keep s').nil, by show Xr _ (hid H' ([] :: OO)); rw [Yk]; exact Xr.refl _, .nil, Nat.zero_le _, ?_⟩, ?_⟩
    . rw [List.drop_zero]
      revert P
      cases Vw as c f <;> exact fun z=>z
    . rintro i mm ys H2 ⟨rfl, hi, bs, Cs, s2, w2, m2, pr, hlen, P2⟩
      refine ⟨by rw [pr.len.1]; omega, ?_⟩
      by_cases hlt : i < as.length
      . right
        have ha : as[i]? = some as[i]:=by simp [hlt]
        obtain ⟨h4, h5⟩:=hgo i _ ha (Cs.flatten :: OO) H2 w2 m2
        refine ⟨h4, fun ys' H3=>∃ bs Cs, Xr H H3 /\ W (Cs.flatten :: OO) H3 /\ Xr (hid H' OO) (hid H3 (Cs.flatten :: OO)) /\ P3 (o K (hid H3 (Cs.flatten :: OO))) ys' bs Cs /\ bs.length <= i + 1 /\ PZ Er (FO K OO OO (oL o) Q) H ((Vw (as.drop (i + 1)) c f).bind fun Zc=>.ok (bs ++ Zc)), fun ys' H3 q=>⟨as.length - (i + 1), Nat.sub_lt_sub_left hlt (Nat.lt_succ_self i), rfl, hlt, q⟩, fun y H3 hy=>?_⟩
        obtain ⟨s3, r3⟩:=h5 y H3 hy
        have w3:=w2.keep s3
        have m3:=Xk (OO:=Cs.flatten :: OO) s3
        have sS : S.p (hid H3 (Cs.flatten :: OO)):=S.mono _ _ ((Xk s').trans (m2.trans m3)) s
        refine (T (Cs.flatten :: OO)).ok r3 sS fun v hv=>?_
        rw [List.drop_eq_getElem_cons hlt] at P2
        have P3' : PZ Er (FO K OO OO (oL o) Q) H ((c as[i]).bind fun b=>(if b = true then (f as[i]).bind fun b=>(Vw (as.drop (i + 1)) c f).bind fun bs=>.ok (b :: bs) else Vw (as.drop (i + 1)) c f).bind fun Zc=>.ok (bs ++ Zc)):=by
          rw [← XN]; exact P2
        refine hc Cs.flatten as[i] v H3 _ w3 hv ?_
        cases ec : c as[i] with
        | bad=>rw [ec] at P3'; exact P3'
        | err x=>rw [ec] at P3'; exact fun H4 s4=>P3' H4 (s2.trans (s3.trans s4))
        | ok b=>
          rw [ec] at P3'
          intro H4 s4
          have w4:=w3.keep s4
          have m4:=Xk (OO:=Cs.flatten :: OO) s4
          cases b with
          | false=>exact ⟨bs, Cs, s2.trans (s3.trans s4), w4, m2.trans (m3.trans m4), pr.imp fun _ _ _ h=>z.mono (m3.trans m4) h, Nat.le_succ_of_le hlen, P3'⟩
          | true=>
            rw [if_pos rfl]
            have P4 : PZ Er (FO K OO OO (oL o) Q) H ((f as[i]).bind fun b=>(Vw (as.drop (i + 1)) c f).bind fun Zc=>.ok (bs ++ b :: Zc)):=by
              have : ((f as[i]).bind fun b=>(Vw (as.drop (i + 1)) c f).bind fun Zc=>Res.ok (bs ++ b :: Zc)) = ((f as[i]).bind fun b=>(Vw (as.drop (i + 1)) c f).bind fun bs=>Res.ok (b :: bs)).bind fun Zc=>.ok (bs ++ Zc):=by
                rw [XN]; congr 1; funext b; rw [XN]; rfl
              rw [this]; exact P3'
            refine hb Cs.flatten as[i] v H4 _ w4 (((T (Cs.flatten :: OO)).sc as[i] v S).mono _ _ m4 hv) ?_
            cases eb : f as[i] with
            | bad=>rw [eb] at P4; exact P4
            | err x=>rw [eb] at P4; exact fun H5 s5=>P4 H5 (s2.trans (s3.trans (s4.trans s5)))
            | ok b=>
              rw [eb] at P4
              intro v' C' H5 s5 w5 m5 ho
              have pe : ((Cs ++ [C']).flatten :: OO).flatten.Perm (C' :: Cs.flatten :: OO).flatten:=by
                simp only [ZP, List.flatten_cons]
                rw [List.append_assoc, ← List.append_assoc, ← List.append_assoc]
                exact List.perm_append_comm.append_right _
              refine ⟨bs ++ [b], Cs ++ [C'], s2.trans (s3.trans (s4.trans s5)), w5.of pe, ?_, ?_, by simpa using hlen, ?_⟩
              . rw [XD pe]; exact m2.trans (m3.trans (m4.trans m5))
              . rw [XD pe]; exact P3.snoc (pr.imp fun _ _ _ h=>z.mono (m3.trans (m4.trans m5)) h) ho
              . have P5 : PZ Er (FO K OO OO (oL o) Q) H ((Vw (as.drop (i + 1)) c f).bind fun Zc => .ok (bs ++ b :: Zc)) := P4
                simpa using P5
      . left
        have e : i = as.length:=Nat.le_antisymm hi (Nat.not_lt.mp hlt)
        subst e
        refine ⟨hstop (Cs.flatten :: OO) H2 w2 m2, ?_⟩
        rw [List.drop_length] at P2
        have P3' : FO K OO OO (oL o) Q (bs ++ []) H:=P2
        rw [List.append_nil] at P3'
        exact ET (H0:=H) w2 ((Xk s').trans m2) s2 pr P3'
noncomputable def Kh (as : List α) (i : Int) (a : α) : Res (List α):=match ixN as.length i with
  | some j=>.ok (as.set j a)
  | none=>.bad
end
end L2
namespace L2
open PySem PySem.Spec PyProof.Rows
section
variable {K : PySem.W.Frag} {Er : Exc -> Hp -> Prop} {S : SC} {OO OO' OO2 : List (List Xz)} {σ : St} {α β γ ρ ι δ ε : Type}
variable {Fd : Ends -> β -> Hp -> Prop} [fd : FdOk Fd] {u : TS}
theorem IH {C D C' : List Xz} {H : Hp} {k : Nat} {p : Addr} {o : HO} (w : W (D :: OO) H) (hk : OO[k]? = some C) (hp : p ∈ C.map (·.1)) (hp' : p ∈ C'.map (·.1)) (hnd : (C'.map (·.1)).Nodup) (hin : ∀ b ∈ C'.map (·.1), b ∈ (C ++ D).map (·.1)) (ht : ∀ c ∈ C', upd H p o c.1 = some c.2) (hm : ∀ c ∈ C', He c.2 = true) :
    W (OO.set k C') (upd H p o) /\ Xr (hid H (D :: OO)) (hid (upd H p o) (OO.set k C')):=by
  have hlt : k < OO.length:=by
    rcases Nat.lt_or_ge k OO.length with h | h
    . exact h
    . rw [List.getElem?_eq_none h] at hk; cases hk
  have h1:=XF hk
  have h2:=XF (OO:=OO.set k C') (k:=k) (C:=C') (by simp [hlt])
  rw [set_set] at h2
  have h3 : (OO.set k C').flatten.Perm (C' ++ (OO.set k []).flatten):=by simpa using h2.symm
  have h4 : (D :: OO).flatten.Perm ((C ++ D) ++ (OO.set k []).flatten):=by
    rw [List.flatten_cons]
    refine ((by simpa using h1.symm : OO.flatten.Perm (C ++ (OO.set k []).flatten)).append_left D).trans ?_
    rw [← List.append_assoc]
    exact List.perm_append_comm.append_right _
  have nd2 : (((C ++ D) ++ (OO.set k []).flatten).map (·.1)).Nodup:=(h4.map _).nodup_iff.mp w.nd
  rw [List.map_append] at nd2
  obtain ⟨n1, n2, n3⟩:=List.nodup_append.mp nd2
  refine ⟨⟨fun c hc=>?_, ?_, fun c hc=>?_⟩, fun b v q=>?_⟩
  . rcases List.mem_append.mp (h3.mem_iff.mp hc) with hc | hc
    . exact ht c hc
    . have hne : c.1 ≠ p := fun e => n3 p (hin p hp') c.1 (List.mem_map.mpr ⟨c, hc, rfl⟩) e.symm
      rw [XJ hne]
      exact w.tr c (h4.mem_iff.mpr (by simp [hc]))
  . refine ((h3.map _).nodup_iff).mpr ?_
    rw [List.map_append]
    exact List.nodup_append.mpr ⟨hnd, n2, fun a ha b hb=>n3 a (hin a ha) b hb⟩
  . rcases List.mem_append.mp (h3.mem_iff.mp hc) with hc | hc
    . exact hm c hc
    . exact w.mu c (h4.mem_iff.mpr (by simp [hc]))
  . obtain ⟨q1, q2⟩ := X0 q
    have hbp : b ≠ p:=fun e=>q2 (by
      rw [e]
      obtain ⟨c, hc, rfl⟩:=List.mem_map.mp hp
      exact Vj (h4.mem_iff.mpr (by simp [hc])))
    refine YG (by rw [XJ hbp]; exact q1) fun z=>q2 ?_
    obtain ⟨o', ho'⟩:=GT z
    rcases List.mem_append.mp (h3.mem_iff.mp ho') with hc | hc
    . obtain ⟨c, hc2, e⟩ := List.mem_map.mp (hin b (List.mem_map.mpr ⟨_, hc, rfl⟩))
      rw [← e]
      exact Vj (h4.mem_iff.mpr (List.mem_append_left _ hc2))
    . exact Vj (c:=(b, o')) (h4.mem_iff.mpr (by simp [hc]))
theorem IR {D : List Xz} {Cs Cs' : List (List Xz)} {H : Hp} {k : Nat} {p : Addr} {xs xs' : List V} (w : W (D :: OO) H) (hk : OO[k]? = some ((p, .lst xs) :: Cs.flatten)) (hin : ∀ c ∈ Cs'.flatten, c ∈ Cs.flatten ++ D) (hnd : (Cs'.flatten.map (·.1)).Nodup) :
    W (OO.set k ((p, .lst xs') :: Cs'.flatten)) (upd H p (.lst xs')) /\ Xr (hid H (D :: OO)) (hid (upd H p (.lst xs')) (OO.set k ((p, .lst xs') :: Cs'.flatten))):=by
  have h1:=XF hk
  have w3 : W [((p, HO.lst xs) :: (Cs.flatten ++ D)) ++ (OO.set k []).flatten] H:=w.of (by
    simp only [List.flatten_cons, List.flatten_nil, List.append_nil]
    refine List.Perm.trans ?_ ((by simpa using h1 : (((p, HO.lst xs) :: Cs.flatten) ++ (OO.set k []).flatten).Perm OO.flatten).append_left D)
    rw [← List.append_assoc]
    refine List.Perm.append_right _ ?_
    exact (List.perm_append_comm (l₁:=(p, HO.lst xs) :: Cs.flatten) (l₂:=D)))
  have nd:=w3.nd
  simp only [fl, List.flatten_cons, List.flatten_nil, List.append_nil, List.map_append, List.cons_append, List.map_cons] at nd
  have hne : ∀ c ∈ Cs'.flatten, c.1 ≠ p:=fun c hc e=>by
    refine (List.nodup_cons.mp nd).1 ?_
    rw [← e]
    refine List.mem_append_left _ ?_
    rw [← List.map_append]
    exact List.mem_map.mpr ⟨c, hin c hc, rfl⟩
  refine IH w hk List.mem_cons_self List.mem_cons_self ?_ ?_ ?_ ?_
  . rw [List.map_cons, List.nodup_cons]
    refine ⟨fun z=>?_, hnd⟩
    obtain ⟨c, hc, e⟩:=List.mem_map.mp z
    exact hne c hc e
  . intro b hb
    rcases List.mem_cons.mp hb with rfl | hb
    . exact List.mem_cons_self
    . obtain ⟨c, hc, rfl⟩ := List.mem_map.mp hb
      rw [List.cons_append, List.map_cons]
      exact List.mem_cons_of_mem _ (List.mem_map.mpr ⟨c, hin c hc, rfl⟩)
  . intro c hc
    rcases List.mem_cons.mp hc with rfl | hc
    . exact YA
    . rw [XJ (hne c hc)]
      exact w3.tr c (by
        rw [List.flatten_cons, List.flatten_nil, List.append_nil]
        exact List.mem_append_left _ (List.mem_cons_of_mem _ (hin c hc)))
  . intro c hc
    rcases List.mem_cons.mp hc with rfl | hc
    . rfl
    . exact w3.mu c (by
        rw [List.flatten_cons, List.flatten_nil, List.append_nil]
        exact List.mem_append_left _ (List.mem_cons_of_mem _ (hin c hc)))
theorem KQ {o : OE α} {h : Hp} {p : Addr} {xs : List V} {as : List α} {R : List Xz} (q : oL o K h (.ref p) as ((p, .lst xs) :: R)) : ∃ Cs, P3 (o K h) xs as Cs /\ R = Cs.flatten:=by
  obtain ⟨p', xs', Cs, e, q, c⟩:=q
  injection c with c1 c2
  injection c1 with c3 c4
  injection c4 with c5
  subst c5
  exact ⟨Cs, q, c2⟩
theorem EE {as : List α} {i : Int} {a : α} {bs : List α} (h : Kh as i a = .ok bs) : ∃ j, ixN as.length i = some j /\ bs = as.set j a:=by
  unfold Kh at h; split at h
  . cases h; exact ⟨_, by assumption, rfl⟩
  . cases h
theorem Eh {as : List α} {i : Int} {a : α} {x : Exc} : Kh as i a ≠ .err x:=by unfold Kh; split <;> exact fun z=>nomatch z
theorem Bh {Cs : List (List Xz)} {j : Nat} {D : List Xz} (hj : j < Cs.length) : ((Cs.set j D).flatten ++ Cs[j]).Perm (Cs.flatten ++ D):=by
  have h1:=XF (OO:=Cs) (k:=j) (C:=Cs[j]) (by simp [hj])
  have h2:=XF (OO:=Cs.set j D) (k:=j) (C:=D) (by simp [hj])
  rw [set_set] at h2
  have h3 : (Cs.set j D).flatten.Perm (D ++ (Cs.set j []).flatten):=by simpa using h2.symm
  have h4 : Cs.flatten.Perm (Cs[j] ++ (Cs.set j []).flatten):=by simpa using h1.symm
  refine (h3.append_right _).trans (List.Perm.trans ?_ (h4.append_right _).symm)
  refine List.perm_append_comm.trans ((List.perm_append_comm.append_left _).trans ?_)
  rw [List.append_assoc]
theorem QP {D : List Xz} {Cs : List (List Xz)} {H : Hp} {k : Nat} {p : Addr} {xs : List V} (w : W (D :: OO) H) (hk : OO[k]? = some ((p, .lst xs) :: Cs.flatten)) : ((Cs.flatten ++ D).map (·.1)).Nodup:=by
  have h1:=XF hk
  have w3 : W [((p, HO.lst xs) :: (Cs.flatten ++ D)) ++ (OO.set k []).flatten] H:=w.of (by
    simp only [List.flatten_cons, List.flatten_nil, List.append_nil]
    refine List.Perm.trans ?_ ((by simpa using h1 : (((p, HO.lst xs) :: Cs.flatten) ++ (OO.set k []).flatten).Perm OO.flatten).append_left D)
    rw [← List.append_assoc]
    refine List.Perm.append_right _ ?_
    exact (List.perm_append_comm (l₁:=(p, HO.lst xs) :: Cs.flatten) (l₂:=D)))
  have nd:=w3.nd
  simp only [fl, List.flatten_cons, List.flatten_nil, List.append_nil, List.cons_append, List.map_cons] at nd
  have n2:=(List.nodup_cons.mp nd).2
  rw [List.map_append] at n2
  exact (List.nodup_append.mp n2).1
theorem Fc {ta : TE} {o : OE α} [MonoO o] {m : Res (List α)} {f : List α -> Res β} {v : V} {as : List α} {C : List Xz} (i k : Nat) (hσ : σ[i]? = some (some v)) (hk : OO[k]? = some C) (hk' : OO'[k]? = some C) (h : ∀ x, S.p x -> oL o K x v as C) (he : Ev K Er S OO OO' σ ta (oL o) m)
    (hr : ∀ bs C', Sv Er (S.addO K (oL o) v (as ++ bs) C') (OO'.set k C') σ u Fd (f (as ++ bs))) : Sv Er S OO σ (ZX (Ko (tBM K "list" DB (JR i) (XB ta Zx))) u) Fd (m.bind fun bs=>chk (as.length + bs.length <= sizeLine) (f (as ++ bs))):=fun H D w s P=>by
  obtain ⟨p, xs, Cs, e, q, c⟩:=h _ s
  subst c
  have hH : H p = some (.lst xs):=w.tr (p, .lst xs) (List.mem_flatten.mpr ⟨_, List.mem_of_getElem? hk, List.mem_cons_self⟩)
  refine ⟨v, hσ, by rw [e]; exact .inl ⟨rfl, _, SqL.of hH⟩, he.st w s P fun bs y D' H' w' s' ho P'=>?_⟩
  obtain ⟨hsz, P'⟩:=PZ.chk P'
  subst e
  obtain ⟨Cs2, q2, c2⟩:=KQ (h _ s')
  obtain ⟨p', zs, Ds, e3, q3, c3⟩:=ho
  subst c3
  have hH' : H' p = some (.lst xs):=w'.tr (p, .lst xs) (by rw [List.flatten_cons]; exact List.mem_append_right _ (List.mem_flatten.mpr ⟨_, List.mem_of_getElem? hk', List.mem_cons_self⟩))
  have hH2 : H' p' = some (.lst zs):=w'.tr (p', .lst zs) (by rw [List.flatten_cons]; exact List.mem_append_left _ List.mem_cons_self)
  have cn:=QP w' hk'
  obtain ⟨w3, m3⟩:=IR (xs':=xs ++ zs) (Cs':=Cs2 ++ Ds) w' hk' (fun c hc=>by
      rw [List.flatten_append, List.mem_append] at hc
      rcases hc with hc | hc
      . rw [c2]; exact List.mem_append_left _ hc
      . exact List.mem_append_right _ (List.mem_cons_of_mem _ hc)) (by
      rw [List.flatten_append, ← c2]
      refine List.Nodup.sublist (List.Sublist.map _ ?_) cn
      exact List.Sublist.append (List.Sublist.refl _) (List.sublist_cons_self _ _))
  refine ⟨p, p', xs, zs, rfl, by rw [e3], hH', hH2, by rw [q2.len.1, q3.len.1]; exact hsz, ?_⟩
  exact hr bs _ _ D w3 ⟨S.mono _ _ m3 s', ⟨p, _, _, rfl, P3.imp (fun _ _ _ z=>MonoO.mono m3 z) (q2.app q3), rfl⟩⟩ (PZ.tr (fd.tr D) m3 P')
noncomputable def CA (as : List α) (i : Int) : Res (α × List α):=chk (-(2 ^ 63) <= i /\ i < 2 ^ 63) (match seqIndex? i as.length with
  | none=>.bad
  | some k=>match as[k]? with
    | none=>.bad
    | some a=>.ok (a, as.eraseIdx k))
theorem Ed {as : List α} {i : Int} {p : α × List α} (h : CA as i = .ok p) : (-(2 ^ 63) <= i /\ i < 2 ^ 63) /\ ∃ k, seqIndex? i as.length = some k /\ as[k]? = some p.1 /\ p.2 = as.eraseIdx k:=by
  obtain ⟨h1, h2⟩:=Y8 h
  refine ⟨h1, ?_⟩
  split at h2
  . cases h2
  . split at h2
    . cases h2
    . cases h2; exact ⟨_, by assumption, by assumption, rfl⟩
theorem Ez {as : List α} {i : Int} {x : Exc} : CA as i ≠ .err x:=by
  unfold CA chk; split
  . split
    . exact fun z=>nomatch z
    . split <;> exact fun z=>nomatch z
  . exact fun z=>nomatch z
theorem Paired.erase' {F : α -> γ -> Prop} : ∀ {l : List α} {m : List γ} (n : Nat), Paired F l m -> Paired F (l.eraseIdx n) (m.eraseIdx n)
  | _, _, _, .nil=>.nil
  | _, _, 0, .cons _ t=>t
  | _, _, n + 1, .cons r t=>.cons r (Paired.erase' n t)
theorem EL {te ti : TE} {r : Enc α} [MonoE r] {mi : Res Int} {f : α × List α -> Res β} {v : V} {as : List α} {C : List Xz} {D : Ends} {H : Hp} {Q : VK} (i k : Nat) (hσ : σ[i]? = some (some v)) (hk : OO[k]? = some C) (h : ∀ x, S.p x -> oL (oF r) K x v as C) (hi : EvB K Er S OO σ ti Xb mi)
    (w : W OO H) (s : S.p (hid H OO)) (P : PZ Er (Fd D) (hid H OO) (mi.bind fun j=>(CA as j).bind f))
    (hr : ∀ a bs y C' H', W (OO.set k C') H' -> ((S.add K r y a).addO K (oL (oF r)) v bs C').p (hid H' (OO.set k C')) -> PZ Er (Fd D) (hid H' (OO.set k C')) (f (a, bs)) -> Q y H') : tBM K "list" DR (JR i) (XB ti Zx) σ H Q:=by
  obtain ⟨p, xs, Cs, e, q, c⟩:=h _ s
  subst c
  have hH : H p = some (.lst xs):=w.tr (p, .lst xs) (List.mem_flatten.mpr ⟨_, List.mem_of_getElem? hk, List.mem_cons_self⟩)
  refine ⟨v, hσ, by rw [e]; exact .inl ⟨rfl, _, SqL.of hH⟩, hi.st w s P fun j z H' s1 w' s' ho P'=>?_⟩
  subst e
  obtain ⟨Cs2, q2, c2⟩:=KQ (h _ s')
  obtain ⟨pr, hfl⟩:=P3.flat q2
  cases es : CA as j with
  | bad=>rw [es] at P'; exact P'.elim
  | err x=>exact absurd es Ez
  | ok pp=>
    rw [es] at P'
    obtain ⟨a, bs⟩:=pp
    obtain ⟨h1, kk, h2, h3, h4⟩:=Ed es
    obtain ⟨y, hy, ry⟩:=Paired.getR pr h3
    have w0 : W ([] :: OO) H':=w'.nil
    have hk0 : OO[k]? = some ((p, .lst xs) :: ([] : List (List Xz)).flatten):=by rw [hk, c2, hfl]; rfl
    obtain ⟨w3, m3⟩:=IR (D:=[]) (Cs:=[]) (xs':=xs.eraseIdx kk) (Cs':=List.replicate bs.length []) w0 hk0 (fun c hc=>by rw [X9] at hc; cases hc) (by rw [X9]; exact List.nodup_nil)
    rw [Yk] at m3
    refine ⟨p, xs, j, kk, y, rfl, by rw [show z = .int j from ho], s1 _ _ hH, h1.1, h1.2, by rw [Paired.len pr]; exact h2, hy, ?_⟩
    have pr2 : Paired (r K (hid H' OO)) (xs.eraseIdx kk) bs:=by rw [show bs = as.eraseIdx kk from h4]; exact Paired.erase' kk pr
    exact hr a bs y _ _ w3 ⟨⟨S.mono _ _ m3 s', MonoE.mono m3 ry⟩, ⟨p, _, _, rfl, (P3.of (Paired.imp2 (fun _ _ z=>MonoE.mono m3 z) pr2)).imp fun _ _ _ z=>z, rfl⟩⟩ (PZ.tr (fd.tr D) m3 P')
theorem Co {ti : TE} {r : Enc α} [MonoE r] {mi : Res Int} {f : List α -> List α -> Res β} {v v2 : V} {as zs : List α} {C C2 : List Xz} (i k i2 k2 : Nat) (hne : k2 ≠ k) (hσ : σ[i]? = some (some v)) (hk : OO[k]? = some C) (h : ∀ x, S.p x -> oL (oF r) K x v as C)
    (hσ2 : σ[i2]? = some (some v2)) (hk2 : OO[k2]? = some C2) (h2 : ∀ x, S.p x -> oL (oF r) K x v2 zs C2) (hi : EvB K Er S OO σ ti Xb mi)
    (hr : ∀ a bs C' C2', Sv Er ((S.addO K (oL (oF r)) v bs C').addO K (oL (oF r)) v2 (zs ++ [a]) C2') ((OO.set k C').set k2 C2') σ u Fd (f bs (zs ++ [a]))) :
    Sv Er S OO σ (ZX (Ko (tBM K "list" Vt (JR i2) (XB (tBM K "list" DR (JR i) (XB ti Zx)) Zx))) u) Fd (mi.bind fun j=>(CA as j).bind fun p=>chk (zs.length < sizeLine) (f p.2 (zs ++ [p.1]))):=fun H D w s P=>by
  obtain ⟨p2, xs2, Cs2, e2, q2, c2⟩:=h2 _ s
  subst c2
  have hH2 : H p2 = some (.lst xs2):=w.tr (p2, .lst xs2) (List.mem_flatten.mpr ⟨_, List.mem_of_getElem? hk2, List.mem_cons_self⟩)
  refine ⟨v2, hσ2, by rw [e2]; exact .inl ⟨rfl, _, SqL.of hH2⟩, EL (te:=ti) i k hσ hk h hi w s P fun a bs y C' H' w' s' P'=>?_⟩
  obtain ⟨hsz, P'⟩:=PZ.chk P'
  subst e2
  obtain ⟨Cs3, q3, c3⟩:=KQ (h2 _ s'.1.1)
  obtain ⟨pr, hfl⟩:=P3.flat q3
  have hkk : (OO.set k C')[k2]? = some ((p2, HO.lst xs2) :: ([] : List (List Xz)).flatten):=by
    rw [List.getElem?_set_ne (fun e=>hne e.symm), hk2, c3, hfl]; rfl
  have hH3 : H' p2 = some (.lst xs2):=w'.tr (p2, .lst xs2) (List.mem_flatten.mpr ⟨_, List.mem_of_getElem? hkk, List.mem_cons_self⟩)
  obtain ⟨w3, m3⟩:=IR (D:=[]) (Cs:=[]) (xs':=xs2 ++ [y]) (Cs':=List.replicate (zs ++ [a]).length []) w'.nil hkk (fun c hc=>by rw [X9] at hc; cases hc) (by rw [X9]; exact List.nodup_nil)
  rw [Yk] at m3
  refine ⟨p2, xs2, y, rfl, rfl, hH3, by rw [Paired.len pr]; exact hsz, ?_⟩
  refine hr a bs C' _ _ D w3 ⟨⟨S.mono _ _ m3 s'.1.1, (SC.oneO K (oL (oF r)) v bs C').mono _ _ m3 s'.2⟩, ⟨p2, _, _, rfl, (P3.of (Paired.app (Paired.imp2 (fun _ _ z=>MonoE.mono m3 z) pr) (.cons (MonoE.mono m3 (show r K _ y a from s'.1.2)) .nil))).imp fun _ _ _ z=>z, rfl⟩⟩ (PZ.tr (fd.tr D) m3 P')
theorem By {ta tb : TE} {r : Enc α} {q : Enc γ} [z : MonoE r] [MonoE q] {ma : Res α} {mb : Res γ} {f : α -> γ -> Res β} (i j : Nat) (ha : EvS K Er S OO σ ta r ma) (hb : EvS K Er S OO σ tb q mb)
    (hr : ∀ a b v w, Sv Er ((S.add K r v a).add K q w b) OO ((σ.set i (some v)).set j (some w)) u Fd (f a b)) : Sv Er S OO σ (ZX (LW i j (XB ta (XB tb Zx))) u) Fd (ma.bind fun a=>mb.bind fun b=>f a b):=fun H D w s P=>
  ha.st w s P fun a x H1 s1 w1 q1 r1 P1=>hb.st w1 q1 P1 fun b y H2 s2 w2 q2 r2 P2=>⟨x, y, rfl, hr a b x y H2 D w2 ⟨⟨q2, z.mono (Xk s2) r1⟩, r2⟩ P2⟩
theorem Ey {ta tb : TE} {ma mb : Res Int} (ha : EvB K Er S OO σ ta Xb ma) (hb : EvB K Er S OO σ tb Xb mb) : EvB K Er S OO σ (tCB (fun xs H Q=>∃ i j : Int, xs = [.int i, .int j] /\ Q (.int (if j > i then j else i)) H) (XB ta (XB tb Zx))) Xb (ma.bind fun a=>mb.bind fun b=>.ok (max a b)):=fun H Q w s P=>
  ha.run w s FB.tr P fun a x H1 s1 w1 q1 r1 P1=>hb.run w1 q1 FB.tr P1 fun b y H2 s2 w2 q2 r2 P2=>⟨a, b, by rw [show x = .int a from r1, show y = .int b from r2], P2 _ H2 (Xr.refl _) (by show V.int _ = V.int _; congr 1; omega)⟩
theorem Jo : ∀ {xs : List V} {bs : List Bool} {H : Hp}, Paired (XO K H) xs bs -> xs = bs.map V.bl
  | _, _, _, .nil=>rfl
  | _, _, _, .cons r t=>by rw [show _ = V.bl _ from r, Jo t]; rfl
theorem ED {ta : TE} {ma : Res (List Bool)} (ha : EvB K Er S OO σ ta (rV XO) ma) : EvB K Er S OO σ (tCB (LH K) (XB ta Zx)) XO (ma.bind fun a=>.ok (a.all id)):=fun H Q w s P=>
  ha.run w s FB.tr P fun a x H1 s1 w1 q1 ⟨p, xs, e, q, pr⟩ P1=>⟨p, a, by rw [e], by rw [← Jo pr]; exact SqL.of q, P1 _ H1 (Xr.refl _) rfl⟩
class TyE {α : Type} (r : Enc α) (n : outParam String) : Prop where
  ty : ∀ {K : PySem.W.Frag} {H : Hp} {v : V} {a : α}, r K H v a -> TyOf K H v (.type n)
instance : TyE Xb "int":=⟨fun {K H v a} h=>by cases (show v = .int a from h); exact .int a⟩
instance : TyE XO "bool":=⟨fun {K H v a} h=>by cases (show v = .bl a from h); exact .bl a⟩
instance {r : Enc α} : TyE (rV r) "list":=⟨fun ⟨p, xs, e, q, _⟩=>by subst e; exact .lst q⟩
instance {r : Enc α} : TyE (rPL r) "tuple":=⟨fun h9=>(by obtain ⟨p, xs, e, q, _⟩:=h9; subst e; exact .tup q)⟩
instance {r : Enc α} {q : Enc γ} : TyE (rP2 r q) "tuple":=⟨fun h9=>(by obtain ⟨p, x, y, e, q, _⟩:=h9; subst e; exact .tup q)⟩
instance {r : Enc α} {q : Enc γ} {t : Enc δ} : TyE (rP3 r q t) "tuple":=⟨fun h9=>(by obtain ⟨p, x, y, z, e, q, _⟩:=h9; subst e; exact .tup q)⟩
theorem ZM {te : TE} {r : Enc α} {n : String} [z : TyE r n] {m : Res α} (t : String) (b : Bool) (hk : PySem.W.kitOne K (.type n) (.type t) = some b) (he : EvB K Er S OO σ te r m) :
    EvB K Er S OO σ (tCB (fun xs H Q=>∃ x n t b, xs = [x, .ty n] /\ TyOf K H x t /\ PySem.W.kitOne K t (.type n) = some b /\ Q (.bl b) H) (XB te (XB (tC (.ty t)) Zx))) XO (m.bind fun _=>.ok b):=fun H Q w s P=>
  he.run w s FB.tr P fun a x H1 s1 w1 q1 r1 P1=>⟨x, t, .type n, b, rfl, z.ty r1, hk, P1 _ H1 (Xr.refl _) rfl⟩
theorem F0 {ta : TE} {ma : Res Int} (ha : EvB K Er S OO σ ta Xb ma) : EvB K Er S OO σ (tCB (fun xs H Q=>∃ i : Int, xs = [.int i] /\ Q (.int (if i < 0 then -i else i)) H) (XB ta Zx)) Xb (ma.bind fun a=>.ok (a.natAbs : Int)):=fun H Q w s P=>
  ha.run w s FB.tr P fun a x H1 s1 w1 q1 r1 P1=>⟨a, by rw [show x = .int a from r1], P1 _ H1 (Xr.refl _) (by show V.int _ = V.int _; congr 1; omega)⟩
end
end L2
namespace L2
open PySem PySem.Spec PyProof.Rows
section
variable {K : PySem.W.Frag} {Er : Exc -> Hp -> Prop} {S : SC} {OO OO' OO1 OO2 : List (List Xz)} {σ : St} {α β γ ρ ι δ ε : Type}
variable {Fd : Ends -> β -> Hp -> Prop} [fd : FdOk Fd] {u : TS}
theorem Ho (n : Nat) (H : Hp) : W (List.replicate n []) H:=⟨fun c hc=>(by rw [X9] at hc; cases hc), (by unfold fl; rw [X9]; exact List.nodup_nil), fun c hc=>(by rw [X9] at hc; cases hc)⟩
theorem CN (n : Nat) (H : Hp) : hid H (List.replicate n []) = H:=by funext b; unfold hid fl; rw [X9]; simp
theorem Ir {o : OE ρ} [z : MonoO o] {Q : VK} {b : ρ} {H : Hp} (q : FF K o Q b H) : ∀ v C OO' H', W (C :: OO') H' -> Xr H (hid H' (C :: OO')) -> o K (hid H' (C :: OO')) v b C -> Q v H':=fun v C OO' H' w m ho=>by
  have hs : Xr (hid H' (C :: OO')) (hid H' [C]):=YB (Xr.refl _) fun b hb=>by
    rw [XE]
    refine List.mem_append_left _ ?_
    simpa [fl] using hb
  exact q v C H' (w.sub (by simp)) (m.trans hs) (z.mono hs ho)
theorem Yv {o : OE ρ} [MonoO o] {t : TS} {m : Res ρ} {Q : VK} {b : ρ} {H : Hp} {D : Ends} (n : Nat) (h : Sv (fun _ _=>False) S (List.replicate n []) σ t (FTd K o) m) (hs : S.p H) (hm : m = .ok b) (q : FF K o Q b H) (hD : D.rt = Q) : t D σ H:=by
  refine h H D (Ho n H) (by rw [CN]; exact hs) ?_
  subst hm
  rw [CN]
  intro v C OO' H' w mm ho
  rw [hD]
  exact Ir q v C OO' H' w mm ho
noncomputable def oU : OE Unit:=fun _ _ v _ C=>v = .non /\ C = []
instance : MonoO oU:=⟨fun _ h=>h⟩
instance : FlatO oU:=⟨fun _ h=>h⟩
noncomputable def rU0 : Enc Unit:=fun _ _ v _=>v = .non
instance : FlatE rU0:=⟨fun _ h=>h⟩
instance : FrzC oU rU0:=⟨fun h _ _=>h.1⟩
theorem Iu {J : Jn Unit ι} {t : TS} {m : Res Unit} {Q : VK} {b : Unit} {H : Hp} {D : Ends} (n : Nat) (h : Sv (fun _ _=>False) S (List.replicate n []) σ t (FNd J) m) (hs : S.p H) (hm : m = .ok b) (q : FF K oU Q b H) (hD : ∀ σ H, D.nx σ H = Q .non H) : t D σ H:=by
  refine h H D (Ho n H) (by rw [CN]; exact hs) ?_
  subst hm
  rw [CN]
  intro x H' w mm ho
  rw [hD]
  have hs : Xr (hid H' (J.oo x)) (hid H' [[]]):=YB (Xr.refl _) fun b hb=>by simp [fl] at hb
  exact q .non [] H' ⟨fun c hc=>by simp at hc, by simp [fl], fun c hc=>by simp at hc⟩ (mm.trans hs) ⟨rfl, rfl⟩
theorem F1 {t : TS} {m : Res β} (k : Nat) (hr : Sv Er S (OO.set k []) σ t Fd m) : Sv Er S OO σ t Fd m:=fun H D w s P=>by
  cases hk : OO[k]? with
  | none=>
    rw [List.set_eq_of_length_le (List.getElem?_eq_none_iff.mp hk)] at hr
    exact hr H D w s P
  | some C=>
    have hp:=XF hk
    have w1 : W (C :: OO.set k []) H:=w.of hp
    have hs : Xr (hid H OO) (hid H (OO.set k [])):=by
      rw [← XD hp]
      exact YB (Xr.refl _) fun b hb=>by rw [XE]; simp [hb]
    exact hr H D w1.tail (S.mono _ _ hs s) (PZ.tr (fd.tr D) hs P)
theorem Ky {te : TE} {r : Enc α} {m : Res α} {f : Res β} (he : EvB K Er S OO σ te r m) (hr : Sv Er S OO σ u Fd f) : Sv Er S OO σ (ZX (Ko te) u) Fd (m.bind fun _=>f):=fun H D w s P=>
  he.st w s P fun a v H' s1 w' s' ho P'=>hr H' D w' s' P'
noncomputable def FAO {α : Type} (K : PySem.W.Frag) (OO OO' : List (List Xz)) (o : OE α) (Q : List V -> Hp -> Prop) (as : List α) (H : Hp) : Prop:=∀ vs Cs H', Xr H H' -> W (Cs.flatten :: OO') H' -> Xr (hid H OO) (hid H' (Cs.flatten :: OO')) -> P3 (o K (hid H' (Cs.flatten :: OO'))) vs as Cs -> Q vs H'
noncomputable def IQ {α : Type} (K : PySem.W.Frag) (Er : Exc -> Hp -> Prop) (S : SC) (OO OO' : List (List Xz)) (σ : St) (t : TA) (o : OE α) (m : Res (List α)) : Prop:=∀ H Q, W OO H -> S.p (hid H OO) -> PZ Er (FAO K OO OO' o Q) H m -> t σ H Q
theorem QB {o : OE α} : IQ K Er S OO OO σ Zx o (.ok []):=fun H Q w s P=>P [] [] H (Xr.refl _) w.nil (by show Xr _ (hid H ([] :: OO)); rw [Yk]; exact Xr.refl _) .nil
theorem YU {te : TE} {t : TA} {o : OE α} [z : MonoO o] {m : Res α} {n : Res (List α)} (he : Ev K Er S OO OO1 σ te o m) (ht : ∀ C, IQ K Er S (C :: OO1) (C :: OO2) σ t o n) : IQ K Er S OO OO2 σ (XB te t) o (m.bind fun a=>n.bind fun as=>.ok (a :: as)):=fun H Q w s P=>by
  refine he H _ w s ?_
  cases em : m with
  | bad=>rw [em] at P; exact P
  | err x=>rw [em] at P; exact P
  | ok a=>
    rw [em] at P
    intro v C H1 s1 w1 m1 ho
    refine ht C H1 _ w1 (S.mono _ _ m1 s) ?_
    have P1 : PZ Er (FAO K OO OO2 o Q) H (n.bind fun as=>.ok (a :: as)):=P
    cases en : n with
    | bad=>rw [en] at P1; exact P1
    | err x=>rw [en] at P1; exact fun H2 s2=>P1 H2 (s1.trans s2)
    | ok as=>
      rw [en] at P1
      have P1 : FAO K OO OO2 o Q (a :: as) H:=P1
      intro vs Cs H2 s2 w2 m2 pr
      have pe : ((C :: Cs).flatten :: OO2).flatten.Perm (Cs.flatten :: C :: OO2).flatten:=by
        simp only [List.flatten_cons]
        rw [← List.append_assoc]
        exact List.perm_append_comm.append_right _
      refine P1 (v :: vs) (C :: Cs) H2 (s1.trans s2) (w2.of pe) ?_ ?_
      . rw [XD pe]; exact m1.trans m2
      . rw [XD pe]; exact .cons (z.mono m2 ho) pr
theorem Jd {t : TA} {o : OE α} [z : MonoO o] {m : Res (List α)} (h : IQ K Er S OO OO σ t o m) : Ev K Er S OO OO σ (CV t) (oL o) (m.bind fun as=>chk (as.length <= sizeLine) (.ok as)):=fun H Q w s P=>by
  refine h H _ w s ?_
  cases e : m with
  | bad=>rw [e] at P; exact P
  | err x=>rw [e] at P; exact P
  | ok as=>
    rw [e] at P
    obtain ⟨hsz, P⟩:=PZ.chk (show PZ Er _ H (chk (as.length <= sizeLine) (.ok as)) from P)
    intro vs Cs H1 s1 w1 m1 p
    exact ⟨by rw [p.len.1]; exact hsz, ET w1 m1 s1 p P⟩
class InE {α : Type} [DecidableEq α] (r : Enc α) : Prop where
  fl : ∀ {K : PySem.W.Frag} {H : Hp} {x : V} {a : α}, r K H x a -> JB x = true
  eq : ∀ {K : PySem.W.Frag} {H H' : Hp} {x y : V} {a b : α}, r K H x a -> r K H' y b -> eqV x y = decide (a = b)
instance : InE Xb:=⟨fun {K H x a} h=>by cases (show x = .int a from h); rfl, fun {K H H' x y a b} h h'=>by
  cases (show x = .int a from h); cases (show y = .int b from h'); show (a == b) = _; rw [CZ]⟩
theorem Qr [DecidableEq α] {r : Enc α} [z : InE r] {H H' : Hp} {x : V} {a : α} (hx : r K H x a) : ∀ {xs : List V} {as : List α}, Paired (r K H') xs as -> xs.all JB = true /\ inV x xs = decide (a ∈ as)
  | _, _, .nil=>⟨rfl, by simp [inV]⟩
  | _, _, .cons h t=>by
    obtain ⟨h1, h2⟩:=Qr hx t
    refine ⟨by rw [List.all_cons, h1, z.fl h]; rfl, ?_⟩
    unfold inV at h2 ⊢
    rw [List.any_cons, h2, z.eq h hx, Bool.eq_iff_iff, Bool.or_eq_true, decide_eq_true_eq, decide_eq_true_eq, decide_eq_true_eq, List.mem_cons]
    exact or_congr ⟨Eq.symm, Eq.symm⟩ Iff.rfl
theorem HA [DecidableEq α] {ta tb : TE} {r : Enc α} [z : InE r] {ma : Res α} {mb : Res (List α)} (ha : EvB K Er S OO σ ta r ma) (hb : EvB K Er S OO σ tb (rV r) mb) : EvB K Er S OO σ (tOp (rIn K false) ta tb) XO (ma.bind fun a=>mb.bind fun as=>.ok (decide (a ∈ as))):=fun H Q w s P=>
  ha.run w s FB.tr P fun a x H1 s1 w1 q1 r1 P1=>hb.run w1 q1 FB.tr P1 fun b y H2 s2 w2 q2 ⟨p, xs, e, q, pr⟩ P2=>by
    obtain ⟨h1, h2⟩:=Qr r1 pr
    exact ⟨p, xs, e, .inl (SqL.of q), z.fl r1, h1, P2 _ H2 (Xr.refl _) (by rw [h2]; rfl)⟩
theorem F3 [DecidableEq α] {ta tb : TE} {r : Enc α} [z : InE r] {ma : Res α} {mb : Res (List α)} (ha : EvB K Er S OO σ ta r ma) (hb : EvB K Er S OO σ tb (rV r) mb) : EvB K Er S OO σ (tOp (rIn K true) ta tb) XO (ma.bind fun a=>mb.bind fun as=>.ok (!decide (a ∈ as))):=fun H Q w s P=>
  ha.run w s FB.tr P fun a x H1 s1 w1 q1 r1 P1=>hb.run w1 q1 FB.tr P1 fun b y H2 s2 w2 q2 ⟨p, xs, e, q, pr⟩ P2=>by
    obtain ⟨h1, h2⟩:=Qr r1 pr
    exact ⟨p, xs, e, .inl (SqL.of q), z.fl r1, h1, P2 _ H2 (Xr.refl _) (by rw [h2]; rfl)⟩
theorem Bn [DecidableEq α] {ta tb : TE} {r : Enc α} [z : InE r] {ma : Res α} {mb : Res (List α)} (ha : EvB K Er S OO σ ta r ma) (hb : EvB K Er S OO σ tb (rPL r) mb) : EvB K Er S OO σ (tOp (rIn K true) ta tb) XO (ma.bind fun a=>mb.bind fun as=>.ok (!decide (a ∈ as))):=fun H Q w s P=>
  ha.run w s FB.tr P fun a x H1 s1 w1 q1 r1 P1=>hb.run w1 q1 FB.tr P1 fun b y H2 s2 w2 q2 ⟨p, xs, e, q, pr⟩ P2=>by
    obtain ⟨h1, h2⟩:=Qr r1 pr
    exact ⟨p, xs, e, .inr (SqT.of q), z.fl r1, h1, P2 _ H2 (Xr.refl _) (by rw [h2]; rfl)⟩
noncomputable def Hc [DecidableEq α] (as : List α) (a : α) : Res Int:=match as.findIdx? (fun b=>decide (b = a)) with
  | some j=>.ok (j : Int)
  | none=>.bad
theorem GP [DecidableEq α] {r : Enc α} [z : InE r] {H H' : Hp} {x : V} {a : α} (hx : r K H x a) {xs : List V} {as : List α} (p : Paired (r K H') xs as) {j : Nat} (hj : as.findIdx? (fun b=>decide (b = a)) = some j) :
    (∃ y, xs[j]? = some y /\ eqV y x = true) /\ ∀ (m : Nat) y, m < j -> xs[m]? = some y -> eqV y x = false:=by
  rw [List.findIdx?_eq_some_iff_getElem] at hj
  obtain ⟨h1, h2, h3⟩:=hj
  constructor
  . obtain ⟨y, hy, ry⟩ := Paired.getR p (i := j) (b := as[j]) (by simp [h1])
    exact ⟨y, hy, by rw [z.eq ry hx]; exact h2⟩
  . intro m y hm hy
    obtain ⟨b, hb, rb⟩:=Paired.getL p hy
    have hml : m < as.length:=by omega
    have e : b = as[m]:=by rw [List.getElem?_eq_getElem hml] at hb; exact (Option.some.inj hb).symm
    rw [z.eq rb hx, e]
    have:=h3 m hm
    simpa using this
theorem E1 [DecidableEq α] {as : List α} {a : α} {x : Exc} : Hc as a ≠ .err x:=by unfold Hc; split <;> exact fun z=>nomatch z
theorem EC [DecidableEq α] {as : List α} {a : α} {n : Int} (h : Hc as a = .ok n) : ∃ j : Nat, as.findIdx? (fun b=>decide (b = a)) = some j /\ n = j:=by
  unfold Hc at h; split at h
  . cases h; exact ⟨_, by assumption, rfl⟩
  . cases h
theorem Uw {ta tb : TE} {r : Enc α} {m : Res (Option α)} (ha : EvB K Er S OO σ ta (Zt r) m) : EvB K Er S OO σ (tOp (fun x y H Q=>y = .non /\ Q (.bl (decide (x = .non))) H) ta (tC .non)) XO (m.bind fun a=>.ok a.isNone):=fun H Q w s P=>
  ha.run w s FB.tr P fun a x H1 s1 w1 q1 r1 P1=>⟨rfl, P1 _ H1 (Xr.refl _) (by
    cases a with
    | none=>rw [show x = .non from r1]; rfl
    | some a=>show V.bl _ = V.bl _; rw [decide_eq_false r1.1]; rfl)⟩
theorem Gy {ta tb : TE} {r : Enc α} {m : Res (Option α)} (ha : EvB K Er S OO σ ta (Zt r) m) : EvB K Er S OO σ (tOp (fun x y H Q=>y = .non /\ Q (.bl (!decide (x = .non))) H) ta (tC .non)) XO (m.bind fun a=>.ok a.isSome):=fun H Q w s P=>
  ha.run w s FB.tr P fun a x H1 s1 w1 q1 r1 P1=>⟨rfl, P1 _ H1 (Xr.refl _) (by
    cases a with
    | none=>rw [show x = .non from r1]; rfl
    | some a=>show V.bl _ = V.bl _; rw [decide_eq_false r1.1]; rfl)⟩
theorem Es {α : Type} [DecidableEq α] {r r' : Enc α} {d : Nat} (E : EqOk r d) (h : ∀ {K : PySem.W.Frag} {H : Hp} {v : V} {a : α}, r' K H v a -> r K H v a) (m : MonoE r') : EqOk r' d where
  uniq:=fun I h1 h2=>E.uniq I (h h1) (h h2)
  eq:=fun I rx ry h1 h2 hu=>E.eq I rx ry (h h1) (h h2) hu
  rc:=fun I rx ry h1 h2 hu=>E.rc I rx ry (h h1) (h h2) hu
  ne:=fun I rx ry h1 h2 hu=>E.ne I rx ry (h h1) (h h2) hu
  keep:=fun s q=>m.mono s q
theorem Hf {α : Type} [DecidableEq α] {r : Enc α} {d : Nat} [m : MonoE r] (E : EqOk r d) : EqOk (rV r) (d + 1):=Es (DX E) (fun ⟨a, xs, e, q, p⟩=>⟨a, xs, e, SqL.of q, p⟩) inferInstance
end
end L2
namespace L2
open PySem PySem.Spec PyProof.Rows
section
variable {K : PySem.W.Frag} {Er : Exc -> Hp -> Prop} {S : SC} {OO OO' OO1 OO2 : List (List Xz)} {σ : St} {α β γ ρ ι δ ε : Type}
variable {Fd : Ends -> β -> Hp -> Prop} [fd : FdOk Fd] {u : TS}
theorem Ec {te : TE} {o : OE α} {m : Res α} (hn : ∀ {K h v a C}, o K h v a C -> v ≠ .non) (he : Ev K Er S OO OO' σ te o m) : Ev K Er S OO OO' σ te (DE o) (m.bind fun a=>.ok (some a)):=fun H Q w s P=>by
  refine he H Q w s ?_
  cases m with
  | bad=>exact P
  | err x=>exact P
  | ok a=>exact fun v C H' s' w' m' ho=>P v C H' s' w' m' ⟨hn ho, ho⟩
theorem Gr {ta tb : TE} {o : OE α} {q : OE β} [z : MonoO o] [y : MonoO q] {ma : Res α} {mb : Res β} (ha : Ev K Er S OO OO1 σ ta o ma) (hb : ∀ C, Ev K Er S (C :: OO1) (C :: OO2) σ tb q mb) : Ev K Er S OO OO2 σ (Hk (XB ta (XB tb Zx))) (oT2 o q) (ma.bind fun a=>mb.bind fun b=>.ok (a, b)):=fun H Q w s P=>by
  refine ha H _ w s ?_
  cases em : ma with
  | bad=>rw [em] at P; exact P
  | err x=>rw [em] at P; exact P
  | ok a=>
    rw [em] at P
    intro v C H1 s1 w1 m1 ho
    refine hb C H1 _ w1 (S.mono _ _ m1 s) ?_
    have P1 : PZ Er (FO K OO OO2 (oT2 o q) Q) H (mb.bind fun b=>.ok (a, b)):=P
    cases en : mb with
    | bad=>rw [en] at P1; exact P1
    | err x=>rw [en] at P1; exact fun H2 s2=>P1 H2 (s1.trans s2)
    | ok b=>
      rw [en] at P1
      have P1 : FO K OO OO2 (oT2 o q) Q (a, b) H:=P1
      intro v2 C2 H2 s2 w2 m2 ho2
      refine ⟨by show 2 <= sizeLine; decide, fun p hp=>?_⟩
      have pe : ((C ++ C2) :: OO2).flatten.Perm (C2 :: C :: OO2).flatten:=by
        simp only [List.flatten_cons]
        rw [← List.append_assoc]
        exact List.perm_append_comm.append_right _
      have s3 : Xr H2 (upd H2 p (.tup [v, v2])):=XL hp _
      have w3:=(w2.keep s3).of pe
      have m3 : Xr (hid H2 (C2 :: C :: OO2)) (hid (upd H2 p (.tup [v, v2])) ((C ++ C2) :: OO2)):=by rw [XD pe]; exact Xk s3
      refine P1 (.ref p) (C ++ C2) _ (s1.trans (s2.trans s3)) w3 (m1.trans (m2.trans m3)) ⟨p, v, v2, C, C2, rfl, ?_, z.mono (m2.trans m3) ho, y.mono m3 ho2, rfl⟩
      rw [XD pe]
      exact Qv w2 hp
theorem HB {c : TT} {t1 : TS} {mc : Res Bool} {m2 : Res β} (hc : EvT Er S OO σ c mc) (h2 : Sv Er S OO σ u Fd m2) : Sv Er S OO σ (ZX (E3 c t1 QE) u) Fd (mc.bind fun b=>if b = true then .bad else m2):=fun H D w s P=>
  hc.st w s P fun b H' w' s' P'=>by
    cases b with
    | true=>rw [if_pos rfl] at P'; exact P'.elim
    | false=>exact h2 H' D w' s' P'
theorem Ka : ∀ {l : List Xz} {a b : Xz}, (l.map (·.1)).Nodup -> a ∈ l -> b ∈ l -> a.1 = b.1 -> a = b
  | [], _, _, _, h, _, _=>by cases h
  | c :: l, a, b, n, ha, hb, e=>by
    rw [List.map_cons, List.nodup_cons] at n
    cases ha with
    | head=>cases hb with
      | head=>rfl
      | tail _ hb=>exact absurd (List.mem_map.mpr ⟨b, hb, e.symm⟩) n.1
    | tail _ ha=>cases hb with
      | head=>exact absurd (List.mem_map.mpr ⟨a, ha, e⟩) n.1
      | tail _ hb=>exact Ka n.2 ha hb e
theorem JL {Cs : List (List Xz)} {k : Nat} {C : List Xz} (h : Cs[k]? = some C) : ∀ c ∈ C, c ∈ Cs.flatten:=fun c hc=>List.mem_flatten.mpr ⟨C, List.mem_of_getElem? h, hc⟩
theorem HQ {as : List α} {i : Int} {a : α} (h : atR as i = .ok a) : ∃ k, ixN as.length i = some k /\ as[k]? = some a:=by
  have:=K5 h
  unfold atI at this
  cases e : ixN as.length i with
  | none=>rw [e] at this; cases this
  | some k=>rw [e] at this; exact ⟨k, rfl, this⟩
theorem Dg {r : Enc α} [z : MonoE r] {v : V} {as : List (List α)} {row row' : List α} {H : Hp} {p q : Addr} {xs ys ys' : List V} {Cs : List (List Xz)} {k kk : Nat} (w : W OO H) (hk : OO[k]? = some ((p, .lst xs) :: Cs.flatten)) (hP : P3 (oL (oF r) K (hid H OO)) xs as Cs) (hrow : as[kk]? = some row)
    (hx : xs[kk]? = some (.ref q)) (hq : H q = some (.lst ys)) (hcs : Cs[kk]? = some [(q, .lst ys)]) (pr : Paired (r K (hid H OO)) ys' row') :
    ∃ C', W (OO.set k C') (upd H q (.lst ys')) /\ Xr (hid H OO) (hid (upd H q (.lst ys')) (OO.set k C')) /\ oL (oL (oF r)) K (hid (upd H q (.lst ys')) (OO.set k C')) (.ref p) (as.set kk row') C':=by
  have hkl : kk < Cs.length:=by
    rcases Nat.lt_or_ge kk Cs.length with h | h
    . exact h
    . rw [List.getElem?_eq_none h] at hcs; cases hcs
  have hin : ∀ c ∈ (p, HO.lst xs) :: Cs.flatten, c ∈ OO.flatten:=fun c hc=>List.mem_flatten.mpr ⟨_, List.mem_of_getElem? hk, hc⟩
  have w0 : W ([] :: OO) H:=w.nil
  have cn0:=QP w0 hk
  rw [List.append_nil] at cn0
  have e0 : Cs[kk] = [(q, .lst ys)]:=by
    rw [List.getElem?_eq_getElem hkl] at hcs; exact Option.some.inj hcs
  have hp:=Bh (Cs:=Cs) (j:=kk) (D:=[(q, HO.lst ys')]) hkl
  rw [e0] at hp
  have hpm : ((Cs.set kk [(q, HO.lst ys')]).flatten.map (·.1)).Perm (Cs.flatten.map (·.1)):=by
    have:=hp.map (·.1)
    simp only [List.map_append, List.map_cons, List.map_nil] at this
    exact (List.perm_append_right_iff _).mp this
  have hpne : p ∉ Cs.flatten.map (·.1):=by
    have h1:=XF hk
    have:=(w.of (OO':=((p, HO.lst xs) :: Cs.flatten) :: OO.set k []) h1).nd
    rw [XE, List.map_cons, List.cons_append, List.nodup_cons] at this
    exact fun z=>this.1 (List.mem_append_left _ z)
  have hqC : q ∈ Cs.flatten.map (·.1):=List.mem_map.mpr ⟨(q, .lst ys), JL hcs _ (by simp), rfl⟩
  have hpq : p ≠ q:=fun e=>hpne (e ▸ hqC)
  have hcells : ∀ c ∈ (p, HO.lst xs) :: (Cs.set kk [(q, HO.lst ys')]).flatten, upd H q (.lst ys') c.1 = some c.2 /\ He c.2 = true:=fun c hc=>by
    rcases List.mem_cons.mp hc with rfl | hc
    . rw [XJ hpq]; exact ⟨w.tr _ (hin _ List.mem_cons_self), rfl⟩
    . obtain ⟨D, hD, hcD⟩ := List.mem_flatten.mp hc
      rcases List.mem_or_eq_of_mem_set hD with hD | hD
      . by_cases hcq : c.1 = q
        . -- a cell at q in another place: then it is this one
          have hc2 : c ∈ (Cs.set kk [(q, HO.lst ys')]).flatten:=hc
          have n1 : ((Cs.set kk [(q, HO.lst ys')]).flatten.map (·.1)).Nodup:=hpm.nodup_iff.mpr cn0
          have hm : (q, HO.lst ys') ∈ (Cs.set kk [(q, HO.lst ys')]).flatten:=List.mem_flatten.mpr ⟨[(q, .lst ys')], List.mem_set (by simpa using hkl) _, by simp⟩
          have e1 : c = (q, HO.lst ys'):=by
            have:=Ka n1 hc2 hm hcq
            exact this
          rw [e1]; exact ⟨YA, rfl⟩
        . rw [XJ hcq]
          have : c ∈ OO.flatten:=hin c (List.mem_cons_of_mem _ (List.mem_flatten.mpr ⟨D, hD, hcD⟩))
          exact ⟨w.tr c this, w.mu c this⟩
      . rw [hD] at hcD
        have e1 : c = (q, HO.lst ys'):=by simpa using hcD
        rw [e1]; exact ⟨YA, rfl⟩
  have hq' : q ∈ (Cs.set kk [(q, HO.lst ys')]).flatten.map (·.1):=hpm.mem_iff.mpr hqC
  obtain ⟨w2, m2⟩:=IH (C':=(p, .lst xs) :: (Cs.set kk [(q, HO.lst ys')]).flatten) (p:=q) (o:=.lst ys') w0 hk (List.mem_cons_of_mem _ hqC) (List.mem_cons_of_mem _ hq') (by
      rw [List.map_cons, List.nodup_cons]
      exact ⟨fun z=>hpne (hpm.mem_iff.mp z), hpm.nodup_iff.mpr cn0⟩) (fun b hb=>by
      rw [List.append_nil]
      rcases List.mem_cons.mp hb with rfl | hb
      . exact List.mem_cons_self
      . exact List.mem_cons_of_mem _ (hpm.mem_iff.mp hb)) (fun c hc=>(hcells c hc).1) fun c hc=>(hcells c hc).2
  rw [Yk] at m2
  have e3 : xs.set kk (.ref q) = xs:=by
    apply List.ext_getElem?
    intro n
    by_cases hn : n = kk
    . subst hn
      rw [hx, List.getElem?_set_self (by
        rcases Nat.lt_or_ge n xs.length with h | h
        . exact h
        . rw [List.getElem?_eq_none h] at hx; cases hx)]
    . rw [List.getElem?_set_ne (fun e=>hn e.symm)]
  refine ⟨_, w2, m2, ⟨p, xs, Cs.set kk [(q, HO.lst ys')], rfl, ?_, rfl⟩⟩
  have:=P3.set (F:=oL (oF r) K (hid (upd H q (.lst ys')) (OO.set k ((p, .lst xs) :: (Cs.set kk [(q, HO.lst ys')]).flatten)))) (a:=V.ref q) (b:=row') (c:=[(q, HO.lst ys')])
    ⟨q, ys', List.replicate row'.length [], rfl, (P3.of (Paired.imp2 (fun _ _ h=>z.mono m2 h) pr)).imp fun _ _ _ h=>h, by rw [X9]⟩ kk (P3.imp (fun _ _ _ h=>MonoO.mono m2 h) hP)
  rw [e3] at this
  exact this
theorem FR {r : Enc α} {h : Hp} {as : List (List α)} {xs : List V} {Cs : List (List Xz)} {kk : Nat} {row : List α} (q : P3 (oL (oF r) K h) xs as Cs) (hrow : as[kk]? = some row) : ∃ q0 ys, xs[kk]? = some (.ref q0) /\ Cs[kk]? = some [(q0, .lst ys)] /\ Paired (r K h) ys row:=by
  obtain ⟨x, c, h1, h2, p, ys, Ds, e, h3, h4⟩:=q.get hrow
  obtain ⟨h5, h6⟩:=P3.flat h3
  rw [h6] at h4
  exact ⟨p, ys, by rw [h1, e], by rw [h2, h4], h5⟩
theorem VQ {F : V -> α -> Prop} {y : V} {a : α} (r : F y a) : ∀ {l : List V} {m : List α} (i : Nat), Paired F l m -> Paired F (l.set i y) (m.set i a)
  | _, _, _, .nil=>.nil
  | _, _, 0, .cons _ t=>.cons r t
  | _, _, i + 1, .cons q t=>.cons q (VQ r i t)
theorem Ft {ta ti tj : TE} {r : Enc α} [z : MonoE r] {m : Res α} {mi mj : Res Int} {f : List (List α) -> Res β} {v : V} {as : List (List α)} {C : List Xz} (i k : Nat) (hσ : σ[i]? = some (some v)) (hk : OO[k]? = some C) (h : ∀ x, S.p x -> oL (oL (oF r)) K x v as C) (he : EvS K Er S OO σ ta r m)
    (hi : EvB K Er S OO σ ti Xb mi) (hj : EvB K Er S OO σ tj Xb mj)
    (hr : ∀ bs C', Sv Er (S.addO K (oL (oL (oF r))) v bs C') (OO.set k C') σ u Fd (f bs)) :
    Sv Er S OO σ (ZX (B4 ta (LM (tOp (Iy K) (JR i) ti) tj Im)) u) Fd (m.bind fun a=>mi.bind fun x=>(atR as x).bind fun row=>mj.bind fun y=>(Kh row y a).bind fun row'=>(Kh as x row').bind f):=fun H D w s P=>
  he.st w s P fun a va H1 s1 w1 q1 r1 P1=>⟨v, hσ, hi.st w1 q1 P1 fun x vx H2 s2 w2 q2 r2 P2=>by
    cases ea : atR as x with
    | bad=>rw [ea] at P2; exact P2.elim
    | err ex=>exact absurd ea Gk
    | ok row=>
      rw [ea] at P2
      obtain ⟨kk, hkk, hrow⟩:=HQ ea
      obtain ⟨p, xs, Cs, e, q, c⟩:=h _ q2
      subst c e
      obtain ⟨q0, ys, g1, g2, g3⟩:=FR q hrow
      have hin : ∀ c ∈ (p, HO.lst xs) :: Cs.flatten, c ∈ OO.flatten:=fun c hc=>List.mem_flatten.mpr ⟨_, List.mem_of_getElem? hk, hc⟩
      have hH : H2 p = some (.lst xs):=w2.tr (p, .lst xs) (hin _ List.mem_cons_self)
      have hq0 : H2 q0 = some (.lst ys):=w2.tr (q0, .lst ys) (hin _ (List.mem_cons_of_mem _ (JL g2 _ (by simp))))
      refine ⟨p, xs, x, .ref q0, rfl, r2, SqL.of hH, by unfold atI; rw [q.len.1, hkk]; exact g1, hj.st w2 q2 (f:=fun y=>(Kh row y a).bind fun row'=>(Kh as x row').bind f) P2 fun y vy H3 s3 w3 q3 r3 P3'=>?_⟩
      cases eb : Kh row y a with
      | bad=>rw [eb] at P3'; exact P3'.elim
      | err ex=>exact absurd eb Eh
      | ok row'=>
        rw [eb] at P3'
        obtain ⟨jj, hjj, rfl⟩:=EE eb
        have P4 : PZ Er (Fd D) (hid H3 OO) (f (as.set kk (row.set jj a))):=by
          have e5 : Kh as x (row.set jj a) = .ok (as.set kk (row.set jj a)):=by unfold Kh; rw [hkk]
          have : PZ Er (Fd D) (hid H3 OO) ((Kh as x (row.set jj a)).bind f):=P3'
          rw [e5] at this
          exact this
        have m3:=Xk (OO:=OO) s3
        obtain ⟨C', w4, m4, o4⟩:=Dg (ys':=ys.set jj va) (row':=row.set jj a) (v:=.ref p) w3 hk (P3.imp (fun _ _ _ h=>MonoO.mono m3 h) q) hrow g1 (s3 _ _ hq0) g2 (VQ (z.mono ((Xk s2).trans m3) r1) jj (Paired.imp2 (fun _ _ h=>z.mono m3 h) g3))
        exact ⟨q0, ys, y, jj, rfl, r3, s3 _ _ hq0, by rw [Paired.len g3]; exact hjj, hr _ C' _ D w4 ⟨S.mono _ _ m4 q3, o4⟩ (PZ.tr (fd.tr D) m4 P4)⟩⟩
theorem Lv {H H' : Hp} {C D : List Xz} {k : Nat} (w : W OO H) (hk : OO[k]? = some C) (s : Xr H H') (w' : W (D :: OO.set k []) H') (m : Xr (hid H (OO.set k [])) (hid H' (D :: OO.set k []))) :
    W (D :: OO) H' /\ Xr (hid H OO) (hid H' (D :: OO)) /\ VB (hid H' (D :: OO.set k [])) (hid H' (D :: OO)):=by
  have hp:=XF hk
  have wk : W (C :: OO.set k []) H:=w.of hp
  have hC : ∀ c ∈ C, hid H (OO.set k []) c.1 = some c.2:=fun c hc=>YG (wk.cell c hc) (by
    have:=wk.nd
    rw [XE] at this
    exact fun hb=>(List.nodup_append.mp this).2.2 c.1 (List.mem_map.mpr ⟨c, hc, rfl⟩) c.1 hb rfl)
  have hC' : ∀ c ∈ C, H' c.1 = some c.2 /\ c.1 ∉ fl (D :: OO.set k []):=fun c hc=>X0 (m _ _ (hC c hc))
  have w2 : W (C :: D :: OO.set k []) H':=by
    refine ⟨fun c hc=>?_, ?_, fun c hc=>?_⟩
    . rw [List.flatten_cons, List.mem_append] at hc
      exact hc.elim (fun hc=>(hC' c hc).1) fun hc=>w'.tr c hc
    . rw [XE]
      refine List.nodup_append.mpr ⟨?_, w'.nd, fun a ha b hb e=>?_⟩
      . have := wk.nd
        rw [XE] at this
        exact (List.nodup_append.mp this).1
      . obtain ⟨c, hc, rfl⟩ := List.mem_map.mp ha
        subst e
        exact (hC' c hc).2 hb
    . rw [List.flatten_cons, List.mem_append] at hc
      exact hc.elim (fun hc=>wk.mu c (by simp [hc])) fun hc=>w'.mu c hc
  have pe : (D :: OO).flatten.Perm (C :: D :: OO.set k []).flatten:=by
    simp only [List.flatten_cons]
    refine List.Perm.trans (List.Perm.append_left D (by simpa using hp.symm : OO.flatten.Perm (C ++ (OO.set k []).flatten))) ?_
    rw [← List.append_assoc, ← List.append_assoc]
    exact List.perm_append_comm.append_right _
  have w3:=w2.of pe
  refine ⟨w3, fun b u q=>?_, fun b u q i=>w3.i b u (X0 q).1 i⟩
  obtain ⟨q1, q2⟩:=X0 q
  have q3 : hid H (OO.set k []) b = some u:=YG q1 fun z=>q2 ((Jk hp b).mp (by rw [XE]; simp [z]))
  obtain ⟨q4, q5⟩:=X0 (m _ _ q3)
  refine YG q4 fun z=>?_
  have z2:=(Jk pe b).mp z
  rw [XE, List.mem_append] at z2
  rcases z2 with z2 | z2
  . exact q2 ((Jk hp b).mp (by rw [XE]; exact List.mem_append_left _ z2))
  . exact q5 z2
theorem Lo {r1 : Enc γ} {o1 : OE γ} [z : FrzC o1 r1] [MonoE r1] {H : Hp} {v : V} {a : γ} {C : List Xz} {k : Nat} (w : W OO H) (hk : OO[k]? = some C) (s : S.p (hid H OO)) (h : ∀ x, S.p x -> o1 K x v a C) :
    W (OO.set k []) H /\ (S.add K r1 v a).p (hid H (OO.set k [])):=by
  have hp:=XF hk
  have wk : W (C :: OO.set k []) H:=w.of hp
  have hs : Xr (hid H OO) (hid H (OO.set k [])):=by
    rw [← XD hp]
    exact YB (Xr.refl _) fun b hb=>by rw [XE]; simp [hb]
  refine ⟨wk.tail, S.mono _ _ hs s, z.frz (h _ s) hs fun c hc=>YG (wk.cell c hc) ?_⟩
  have:=wk.nd
  rw [XE] at this
  exact fun hb=>(List.nodup_append.mp this).2.2 c.1 (List.mem_map.mpr ⟨c, hc, rfl⟩) c.1 hb rfl
theorem Em {te : TE} {o : OE α} [y : FlatO o] {r1 : Enc γ} {o1 : OE γ} [FrzC o1 r1] [MonoE r1] {m : Res α} {v : V} {a : γ} {C : List Xz} (k : Nat) (hk : OO[k]? = some C) (h : ∀ x, S.p x -> o1 K x v a C) (he : Ev K Er (S.add K r1 v a) (OO.set k []) (OO.set k []) σ te o m) : Ev K Er S OO OO σ te o m:=fun H Q w s P=>by
  obtain ⟨w1, s1⟩:=Lo (r1:=r1) w hk s h
  refine he H Q w1 s1 (P.imp fun b _ hb v' D H' s' w' m' ho=>?_)
  obtain ⟨w3, m3, i3⟩:=Lv w hk s' w' m'
  exact hb v' D H' s' w3 m3 (y.flat i3 ho)
theorem CY {f : List (List Int) -> Res β} {v : V} {as : List (List Int)} {C : List Xz} (i j k : Nat) (n : Int) (hσ : σ[i]? = some (some v)) (hij : i ≠ j) (hjl : j < σ.length) (hk : OO[k]? = some C) (h : ∀ x, S.p x -> oL (oL (oF Xb)) K x v as C)
    (hr : ∀ C' w, Sv Er (S.addO K (oL (oL (oF Xb))) v (as.map (· ++ [n])) C') (OO.set k C') (σ.set j w) u Fd (f (as.map (· ++ [n])))) :
    Sv Er S OO σ (ZX (Cd (Vy K (JR i)) (Z7 j) (ZX (Ko (tBM K "list" Vt (JR j) (XB (tC (.int n)) Zx))) QE)) u) Fd (chk (∀ row ∈ as, row.length < sizeLine) (f (as.map (· ++ [n])))):=fun H D w s P=>by
  obtain ⟨hsz, P⟩:=PZ.chk P
  obtain ⟨p, xs, Cs0, e, q, c⟩:=h _ s
  subst c e
  have hkl : k < OO.length:=by
    rcases Nat.lt_or_ge k OO.length with h | h
    . exact h
    . rw [List.getElem?_eq_none h] at hk; cases hk
  have hin : ∀ {Cs : List (List Xz)}, (p, HO.lst xs) ∈ (OO.set k ((p, .lst xs) :: Cs.flatten)).flatten:=fun {Cs}=>List.mem_flatten.mpr ⟨_, List.mem_set hkl _, List.mem_cons_self⟩
  have hOO : OO.set k ((p, .lst xs) :: Cs0.flatten) = OO:=by
    apply List.ext_getElem?
    intro m
    by_cases hm : m = k
    . subst hm; rw [List.getElem?_set_self hkl, hk]
    . rw [List.getElem?_set_ne (fun e=>hm e.symm)]
  have hH : H p = some (.lst xs):=w.tr (p, .lst xs) (by rw [← hOO]; exact hin)
  refine ⟨.ref p, hσ, p, rfl, ⟨xs, SqL.of hH⟩, ?_⟩
  refine JO (K:=K) (a:=p) (xs:=xs) (fun t σ' H'=>∃ Cs wv, σ' = σ.set j wv /\ W (OO.set k ((p, .lst xs) :: Cs.flatten)) H' /\ Xr (hid H OO) (hid H' (OO.set k ((p, .lst xs) :: Cs.flatten))) /\ P3 (oL (oF Xb) K (hid H' (OO.set k ((p, .lst xs) :: Cs.flatten)))) xs ((as.take t).map (· ++ [n]) ++ as.drop t) Cs)
    ⟨Cs0, σ[j], by rw [List.set_getElem_self], by rw [hOO]; exact w, by rw [hOO]; exact Xr.refl _, by rw [hOO]; simpa using q⟩
    (fun t σ' H' ht ⟨Cs, wv, _, w', _, _⟩=>SqL.of (w'.tr (p, .lst xs) hin)) ?_ ?_
  . rintro t x σ' H' hx ⟨Cs, wv, rfl, w', m', q'⟩
    have hlen:=q.len.1
    have htl : t < as.length:=by
      rw [← hlen]
      rcases Nat.lt_or_ge t xs.length with h | h
      . exact h
      . rw [List.getElem?_eq_none h] at hx; cases hx
    have hrow : ((as.take t).map (· ++ [n]) ++ as.drop t)[t]? = some as[t]:=by
      rw [List.getElem?_append_right (by simp; omega)]
      simp [Nat.min_eq_left (Nat.le_of_lt htl)]
    obtain ⟨q0, ys, g1, g2, g3⟩:=FR q' hrow
    rw [hx] at g1
    cases g1
    have hk' : (OO.set k ((p, HO.lst xs) :: Cs.flatten))[k]? = some ((p, HO.lst xs) :: Cs.flatten):=by simp [hkl]
    have hq0 : H' q0 = some (.lst ys):=w'.tr (q0, .lst ys) (List.mem_flatten.mpr ⟨_, List.mem_of_getElem? hk', List.mem_cons_of_mem _ (JL g2 _ (by simp))⟩)
    have hsz' : as[t].length < sizeLine:=hsz _ (List.getElem_mem htl)
    show ZX _ _ _ ((σ.set j wv).set j (some (.ref q0))) H'
    refine ⟨.ref q0, by rw [List.getElem?_set_self (by simpa using hjl)], .inl ⟨rfl, _, SqL.of hq0⟩, q0, ys, .int n, rfl, rfl, hq0, by rw [Paired.len g3]; exact hsz', ?_⟩
    obtain ⟨C', w4, m4, o4⟩:=Dg (ys':=ys ++ [.int n]) (row':=as[t] ++ [n]) (v:=.ref p) w' hk' q' hrow hx hq0 g2 (Paired.app g3 (show Paired (Xb K (hid H' (OO.set k ((p, .lst xs) :: Cs.flatten)))) [V.int n] [n] from .cons rfl .nil))
    obtain ⟨p', xs', Cs', e1, o5, rfl⟩:=o4
    cases e1
    have hc1 : (p, HO.lst xs) ∈ (OO.set k ((p, .lst xs') :: Cs'.flatten)).flatten ∨ xs' = xs:=by
      right
      have h1:=w4.tr (p, .lst xs') (by rw [List.set_set]; exact List.mem_flatten.mpr ⟨_, List.mem_set hkl _, List.mem_cons_self⟩)
      have hpq : p ≠ q0:=fun ee=>by
        have hp1:=XF hk'
        have:=(w'.of (OO':=((p, HO.lst xs) :: Cs.flatten) :: (OO.set k ((p, HO.lst xs) :: Cs.flatten)).set k []) hp1).nd
        rw [XE, List.map_cons, List.cons_append, List.nodup_cons] at this
        exact this.1 (List.mem_append_left _ (List.mem_map.mpr ⟨(q0, .lst ys), JL g2 _ (by simp), ee.symm⟩))
      rw [XJ hpq] at h1
      have h2:=w'.tr (p, .lst xs) hin
      rw [h1] at h2
      have h3 : HO.lst xs' = HO.lst xs:=Option.some.inj h2
      injection h3
    obtain rfl : xs' = xs:=by
      rcases hc1 with h9 | h9
      . have h1 := w4.tr (p, .lst xs') (by rw [List.set_set]; exact List.mem_flatten.mpr ⟨_, List.mem_set hkl _, List.mem_cons_self⟩)
        have h2:=w4.tr (p, .lst xs) (by rw [List.set_set]; exact h9)
        rw [h1] at h2
        have h3 : HO.lst xs' = HO.lst xs:=Option.some.inj h2
        injection h3
      . exact h9
    rw [List.set_set] at w4 m4 o5
    refine ⟨Cs', some (.ref q0), by simp, w4, m'.trans m4, ?_⟩
    have e6 : ((as.take t).map (· ++ [n]) ++ as.drop t).set t (as[t] ++ [n]) = (as.take (t + 1)).map (· ++ [n]) ++ as.drop (t + 1):=by
      rw [List.set_append_right _ _ (by simp; omega)]
      simp only [List.length_map, List.length_take, Nat.min_eq_left (Nat.le_of_lt htl), Nat.sub_self]
      rw [List.drop_eq_getElem_cons htl, List.set_cons_zero, List.take_succ_eq_append_getElem htl, List.map_append, List.append_assoc]
      rfl
    rw [e6] at o5
    exact o5
  . rintro σ' H' ⟨Cs, wv, rfl, w', m', q'⟩
    have hlen:=q.len.1
    rw [hlen, List.take_length, List.drop_length, List.append_nil] at q'
    exact hr _ wv H' D w' ⟨S.mono _ _ m' s, ⟨p, xs, Cs, rfl, q', rfl⟩⟩ (PZ.tr (fd.tr D) m' P)
theorem JK (K : PySem.W.Frag) (T : String) : PySem.W.kitOne K (.type T) (.type T) = some true:=by
  unfold PySem.W.kitOne
  rw [if_pos (beq_self_eq_true _)]
theorem UU (K : PySem.W.Frag) : PySem.W.kitOne K (.type "int") (.type "bool") = some false:=by
  first
    | rfl
    | decide +kernel
    | (unfold PySem.W.kitOne PySem.W.kitCls; rfl)
end
end L2
namespace L2
open PySem PySem.Spec PyProof.Rows
section
variable {K : PySem.W.Frag} {Er : Exc -> Hp -> Prop} {S : SC} {OO OO' OO1 OO2 : List (List Xz)} {σ : St} {α β γ ρ ι δ ε : Type}
variable {Fd : Ends -> β -> Hp -> Prop} [fd : FdOk Fd] {u : TS}
noncomputable def Io : Option α -> Res α
  | some a=>.ok a
  | none=>.bad
theorem Gg {te : TE} {r : Enc α} {m : Res (Option α)} (he : EvB K Er S OO σ te (Zt r) m) : EvB K Er S OO σ te r (m.bind Io):=fun H Q w s P=>by
  refine he H Q w s ?_
  cases m with
  | bad=>exact P
  | err x=>exact P
  | ok a=>
    cases a with
    | none=>exact P.elim
    | some a=>exact fun v H' s' hr=>P v H' s' hr.2
theorem EN {r : Enc α} {q : Enc γ} {K : PySem.W.Frag} {h : Hp} {v : V} {a : α × γ} {C : List Xz} (q : oF (rP2 r q) K h v a C) : v ≠ .non:=by
  obtain ⟨_, p, x, y, e, _⟩:=q
  rw [e]; exact fun z=>nomatch z
theorem Mi {o : OE α} {K : PySem.W.Frag} {h : Hp} {v : V} {a : List α} {C : List Xz} (q : oL o K h v a C) : v ≠ .non:=by
  obtain ⟨p, x, Cs, e, _⟩:=q
  rw [e]; exact fun z=>nomatch z
end
end L2
namespace L2
open PySem PySem.Spec PyProof.Rows
section
variable {K : PySem.W.Frag} {Er : Exc -> Hp -> Prop} {S : SC} {OO OO' OO1 OO2 : List (List Xz)} {σ : St} {α β γ ρ ι δ ε : Type}
variable {α1 α2 α3 α4 α5 : Type}
noncomputable def rP4 (r1 : Enc α1) (r2 : Enc α2) (r3 : Enc α3) (r4 : Enc α4) : Enc (α1 × α2 × α3 × α4):=fun K H v p=>∃ a x1 x2 x3 x4, v = .ref a /\ H a = some (.tup [x1, x2, x3, x4]) /\ r1 K H x1 p.1 /\ r2 K H x2 p.2.1 /\ r3 K H x3 p.2.2.1 /\ r4 K H x4 p.2.2.2
instance {r1 : Enc α1} {r2 : Enc α2} {r3 : Enc α3} {r4 : Enc α4} [m1 : MonoE r1] [m2 : MonoE r2] [m3 : MonoE r3] [m4 : MonoE r4] : MonoE (rP4 r1 r2 r3 r4):=⟨fun s h9=>(by obtain ⟨a, x1, x2, x3, x4, e, h, p1, p2, p3, p4⟩:=h9; exact ⟨a, x1, x2, x3, x4, e, s _ _ h, m1.mono s p1, m2.mono s p2, m3.mono s p3, m4.mono s p4⟩)⟩
instance {r1 : Enc α1} {r2 : Enc α2} {r3 : Enc α3} {r4 : Enc α4} [m1 : FlatE r1] [m2 : FlatE r2] [m3 : FlatE r3] [m4 : FlatE r4] : FlatE (rP4 r1 r2 r3 r4):=⟨fun s h9=>(by obtain ⟨a, x1, x2, x3, x4, e, h, p1, p2, p3, p4⟩:=h9; exact ⟨a, x1, x2, x3, x4, e, s _ _ h rfl, m1.flat s p1, m2.flat s p2, m3.flat s p3, m4.flat s p4⟩)⟩
instance {r1 : Enc α1} {r2 : Enc α2} {r3 : Enc α3} {r4 : Enc α4} : TyE (rP4 r1 r2 r3 r4) "tuple":=⟨fun h9=>(by obtain ⟨p, x1, x2, x3, x4, e, q, _⟩:=h9; subst e; exact .tup q)⟩
theorem K3 {t1 : TE} {t2 : TE} {t3 : TE} {t4 : TE} {r1 : Enc α1} {r2 : Enc α2} {r3 : Enc α3} {r4 : Enc α4} [z1 : MonoE r1] [z2 : MonoE r2] [z3 : MonoE r3] [z4 : MonoE r4] {m1 : Res α1} {m2 : Res α2} {m3 : Res α3} {m4 : Res α4} (h1 : EvS K Er S OO σ t1 r1 m1) (h2 : EvS K Er S OO σ t2 r2 m2) (h3 : EvS K Er S OO σ t3 r3 m3) (h4 : EvS K Er S OO σ t4 r4 m4) : EvS K Er S OO σ (Hk (XB t1 (XB t2 (XB t3 (XB t4 Zx))))) (rP4 r1 r2 r3 r4) (m1.bind fun a1=>m2.bind fun a2=>m3.bind fun a3=>m4.bind fun a4=>.ok (a1, a2, a3, a4)):=fun H Q w s P=>
  h1.run w s FS.tr P fun a1 y1 H1 s1 w1 u1 q1 P1=>h2.run w1 u1 FS.tr P1 fun a2 y2 H2 s2 w2 u2 q2 P2=>h3.run w2 u2 FS.tr P2 fun a3 y3 H3 s3 w3 u3 q3 P3=>h4.run w3 u3 FS.tr P3 fun a4 y4 H4 s4 w4 u4 q4 P4=>⟨by show 4 <= sizeLine; decide, fun p hp=>P4 _ _ (XL hp _) ⟨p, y1, y2, y3, y4, rfl, Qv w4 hp, z1.mono ((Xk s2).trans ((Xk s3).trans ((Xk s4).trans (Xk (XL hp _))))) q1, z2.mono ((Xk s3).trans ((Xk s4).trans (Xk (XL hp _)))) q2, z3.mono ((Xk s4).trans (Xk (XL hp _))) q3, z4.mono (Xk (XL hp _)) q4⟩⟩
noncomputable def rP5 (r1 : Enc α1) (r2 : Enc α2) (r3 : Enc α3) (r4 : Enc α4) (r5 : Enc α5) : Enc (α1 × α2 × α3 × α4 × α5):=fun K H v p=>∃ a x1 x2 x3 x4 x5, v = .ref a /\ H a = some (.tup [x1, x2, x3, x4, x5]) /\ r1 K H x1 p.1 /\ r2 K H x2 p.2.1 /\ r3 K H x3 p.2.2.1 /\ r4 K H x4 p.2.2.2.1 /\ r5 K H x5 p.2.2.2.2
instance {r1 : Enc α1} {r2 : Enc α2} {r3 : Enc α3} {r4 : Enc α4} {r5 : Enc α5} [m1 : MonoE r1] [m2 : MonoE r2] [m3 : MonoE r3] [m4 : MonoE r4] [m5 : MonoE r5] : MonoE (rP5 r1 r2 r3 r4 r5):=⟨fun s h9=>(by obtain ⟨a, x1, x2, x3, x4, x5, e, h, p1, p2, p3, p4, p5⟩:=h9; exact ⟨a, x1, x2, x3, x4, x5, e, s _ _ h, m1.mono s p1, m2.mono s p2, m3.mono s p3, m4.mono s p4, m5.mono s p5⟩)⟩
instance {r1 : Enc α1} {r2 : Enc α2} {r3 : Enc α3} {r4 : Enc α4} {r5 : Enc α5} [m1 : FlatE r1] [m2 : FlatE r2] [m3 : FlatE r3] [m4 : FlatE r4] [m5 : FlatE r5] : FlatE (rP5 r1 r2 r3 r4 r5):=⟨fun s h9=>(by obtain ⟨a, x1, x2, x3, x4, x5, e, h, p1, p2, p3, p4, p5⟩:=h9; exact ⟨a, x1, x2, x3, x4, x5, e, s _ _ h rfl, m1.flat s p1, m2.flat s p2, m3.flat s p3, m4.flat s p4, m5.flat s p5⟩)⟩
instance {r1 : Enc α1} {r2 : Enc α2} {r3 : Enc α3} {r4 : Enc α4} {r5 : Enc α5} : TyE (rP5 r1 r2 r3 r4 r5) "tuple":=⟨fun h9=>(by obtain ⟨p, x1, x2, x3, x4, x5, e, q, _⟩:=h9; subst e; exact .tup q)⟩
variable {Fd : Ends -> β -> Hp -> Prop} [fd : FdOk Fd] {u : TS}
end
end L2
namespace L2
open PySem PySem.Spec PyProof.Rows
theorem Zb.ex {P : Program} {w : World} {H : Hp} {h : Heap} {a : Addr} {o : HO} (x : Zb P w H h a o) : ∃ u, h.get? a = some u:=by
  cases o with
  | lst xs=>obtain ⟨_, _, _, _, e⟩:=x; exact ⟨_, e⟩
  | tup xs=>obtain ⟨_, _, _, p⟩:=x; obtain ⟨o, e, _⟩:=p; exact ⟨_, e⟩
  | dK kvs=>obtain ⟨_, _, _, _, o, _, _, e, _⟩:=x; exact ⟨_, e⟩
  | dT kvs=>obtain ⟨_, _, _, _, o, _, _, e, _⟩:=x; exact ⟨_, e⟩
  | set S n=>obtain ⟨o, _, _, _, e, _⟩:=x; exact ⟨_, e⟩
  | ins C dx fs=>obtain ⟨_, _, _, e, _⟩:=x; exact ⟨_, e⟩
  | own y=>exact x
  | xd fs=>obtain ⟨_, ⟨_, _, _, e, _⟩, _⟩:=x; exact ⟨_, e⟩
  | rng lo hi=>obtain ⟨_, _, _, e⟩:=x; exact ⟨_, e⟩
  | frz ob u=>exact ⟨_, x.1⟩
  | tbl ps=>exact ⟨_, x⟩
  | met f y=>exact ⟨_, x⟩
  | ext φ=>exact x.2.1
theorem HOk.un0 {P : Program} {w : World} {H : Hp} {h : Heap} {a : Addr} (x : HOk P w H h) (e : h.get? a = none) : H a = none:=by
  cases q : H a with
  | none=>rfl
  | some u=>obtain ⟨v, hv⟩:=(x a u q).ex; rw [e] at hv; cases hv
structure Fl (h0 h : Heap) (H : Hp) (a T : Addr) (cls : Value) : Prop where
  na : h0.get? a = none
  nT : h0.get? T = none
  fa : H a = none
  fT : H T = none
  ne : T ≠ a
  obj : ∃ oe vs oT ts a0, h.get? a = some oe /\ oe.cls = cls /\ vs[0]? = some a0 /\ oe.data = .fields vs /\ vs[1]? = some (.ref T) /\ h.get? T = some oT /\ oT.data = .fields ts /\ ts[3]? = some Value.none
noncomputable def Lx (h : Heap) (fs : List Addr) (a T : Addr) : Heap:=Ci h (fun b=>if b ∈ fs ∨ b = a ∨ b = T then some (.own 0) else none)
theorem KR {h : Heap} {fs : List Addr} {a T b : Addr} {o : Obj} (e : h.get? b = some o) (n1 : b ∉ fs) (n2 : b ≠ a) (n3 : b ≠ T) : (Lx h fs a T).get? b = some o:=
  GB e (if_neg fun z=>z.elim n1 fun z=>z.elim n2 n3)
section
variable {P : Program} {w : World} {h0 h h' base : Heap} {H : Hp} {a T : Addr} {cls a0 : Value} {l : List Env}
theorem Un.traced (hl : h.FunFrames base l) (keep : ∀ b o, b ∉ frs l -> b ≠ a -> b ≠ T -> h.get? b = some o -> h'.get? b = some o) (up : h.UpToSlots h') : Un (frs l) [a, T] H H h h' where
  keep:=fun b o e _ hb hx=>keep b o hb (fun z=>hx (by simp [z])) (fun z=>hx (by simp [z])) e
  slot:=fun b o e _ hb _=>by
    obtain ⟨_, o2, ho2, hd2⟩:=hl.mem hb
    rw [e] at ho2; cases ho2
    exact up b o e hd2
  free:=fun b o e n _=>n
  there:=fun b o e hx=>by
    by_cases hb : b ∈ frs l
    . obtain ⟨_, o2, ho2, hd2⟩ := hl.mem hb
      obtain ⟨sl, q⟩:=up b o2 ho2 hd2
      exact ⟨_, q⟩
    . exact ⟨o, keep b o hb (fun z=>hx (by simp [z])) (fun z=>hx (by simp [z])) e⟩
  tups:=fun _ _ q=>q
  frzs:=fun _ _ _ q=>q
  tbls:=fun _ ps q=>⟨#[], by simpa using q⟩
theorem HOk.traced (hok : HOk P w H h) (hfn : ∀ b ∈ frs l, H b = none) (fa : H a = none) (fT : H T = none) (keep : ∀ b o, b ∉ frs l -> b ≠ a -> b ≠ T -> h.get? b = some o -> h'.get? b = some o) : HOk P w H h':=fun b o e=>by
  refine (hok b o e).stay (fun c u hc q=>?_) (fun _ q=>q) fun _ _ q=>q
  have hn : H c ≠ none:=by
    rcases hc with z | z
    . rw [z, e]; exact fun y=>nomatch y
    . rw [z]; exact fun y=>nomatch y
  exact keep c u (fun z=>hn (hfn c z)) (fun z=>hn (z ▸ fa)) (fun z=>hn (z ▸ fT)) q
theorem Fl.after (x : Fl h0 h H a T cls) (hl : h.FunFrames base l) (hfn : ∀ b ∈ frs l, H b = none) (hok : HOk P w H h) (th : ∀ b o, h0.get? b = some o -> ∃ o', h.get? b = some o')
    (st : (Lx h (frs l) a T).StaysIn h') (tr : h'.TracedW (Lx h (frs l) a T) a cls a0) (up : h.UpToSlots h') : ∃ T', Fl h0 h' H a T' cls /\ HOk P w H h' /\ Un (frs l) [a, T] H H h h':=by
  obtain ⟨oe, vs, T', oT, ts, ha, ⟨hc, h0'⟩, hd, h1, hnT, hne, hT, hdT, h3⟩:=tr
  have key : T' = T ∨ h.get? T' = none:=by
    cases q : h.get? T' with
    | none=>exact .inr rfl
    | some o=>
      by_cases hf : T' ∈ frs l
      . obtain ⟨_, o2, ho2, hd2⟩ := hl.mem hf
        obtain ⟨sl, e2⟩:=up T' o2 ho2 hd2
        rw [hT] at e2; cases e2
        exact absurd hdT (hd2 ts)
      . by_cases hz : T' = T
        . exact .inl hz
        . rw [KR q hf hne hz] at hnT; cases hnT
  have keep : ∀ b o, b ∉ frs l -> b ≠ a -> b ≠ T -> h.get? b = some o -> h'.get? b = some o:=fun b o n1 n2 n3 e=>st b o (KR e n1 n2 n3)
  refine ⟨T', ⟨x.na, ?_, x.fa, ?_, hne, oe, vs, oT, ts, a0, ha, hc, h0', hd, h1, hT, hdT, h3⟩, hok.traced hfn x.fa x.fT keep, Un.traced hl keep up⟩
  . rcases key with e | e
    . rw [e]; exact x.nT
    . cases q : h0.get? T' with
      | none=>rfl
      | some o=>obtain ⟨o', e'⟩:=th _ _ q; rw [e] at e'; cases e'
  . rcases key with e | e
    . rw [e]; exact x.fT
    . exact hok.un0 e
end
section
variable {fs fs2 ex ex2 : List Addr} {H0 H H' : Hp} {h0 h h' : Heap}
end
section
variable {P : Program} {w : World} {K : PySem.W.Frag} {mg : Str -> Option Value} {base : Heap} {N : List Str} {qual : Str} {scope : Scope} {f : Addr} {cd : Value} {A : Around} {outer : List Env} {s0 : Shared} {H0 : Hp} {E : XK}
end
section
variable {X : Cx} {k j : Nat} {x : Str} {ps : List Str} {sp : Sp} {e : Expr} {es : List Expr} {t : TA} {p pos : Pos} {E : XK}
end
section
variable {X : Cx} {E : XK} {C : Addr} {x : Str} {e : Expr} {es : List Expr} {t : TA} {np cpos pos : Pos}
end
end L2
namespace L2
open PySem PySem.Spec PyProof.Rows
noncomputable abbrev TJ:=St -> Hp -> (Hp -> Prop) -> Prop
section
variable {X : Cx} {e : Expr} {es : List Expr} {te : TE} {t : TJ} {n : Nat} {pos p : Pos}
end
noncomputable abbrev Cx.held (X : Cx) (a : Addr) (pn : List (Addr × Obj)) : Cx:={ X with A:=X.A.mark (some (.ref a)), calm:=false, pn:=pn, xe:=fun _ _=>False }
theorem Cx.Ok.held {X : Cx} (ok : X.Ok) (a : Addr) (pn : List (Addr × Obj)) : (X.held a pn).Ok:=
  ⟨ok.mod, ok.kind, ok.glob, ok.blt, ok.above, ok.inj, ok.has, ok.cab, (fun z=>nomatch z), ok.frames, ok.stk, ok.exf, ok.bs, ok.bsz, ok.noex, ok.exfs, ok.funs, ok.frf⟩
section
variable {X : Cx} {pins : List (Addr × Obj)} {σ : St} {H : Hp} {s : Shared} {h' : Heap}
end
section
variable {X : Cx} {body suite : List Stmt} {b₀ : Stmt} {cn n : Str} {Ch : Addr} {i : Nat} {tb : XK -> TS} {ts : Addr -> Addr -> TS} {np hpos pos : Pos}
end
end L2
namespace L2
open PySem PySem.Spec PyProof.Rows
section
variable {K : PySem.W.Frag} {Er : Exc -> Hp -> Prop} {S : SC} {OO OO' OO2 : List (List Xz)} {σ : St} {α β γ ρ ι : Type} {α1 α2 α3 α4 α5 α6 : Type} {mg : Str -> Option Value} {E : XK}
noncomputable def FJ (Q : Hp -> Prop) (_ : Unit) (H : Hp) : Prop:=∀ H', Xr H H' -> Q H'
theorem FJ.tr {Q : Hp -> Prop} : ∀ (b : Unit) (H H' : Hp), Xr H H' -> FJ Q b H -> FJ Q b H':=fun _ _ _ s h H2 s2=>h H2 (s.trans s2)
variable {Fd : Ends -> β -> Hp -> Prop} [fd : FdOk Fd] {u : TS}
section
variable {te : XK -> TE} {m : Res α} {ts : Addr -> Addr -> TS} {N i : Nat} {Ch : Addr} {o : OE ρ} {g : Exc -> Res ρ} {ns : List Str} {d : Str}
end
end
end L2
namespace L2
open PySem PySem.Spec PyProof.Rows PySem.W PySem.Builtin PySem.Builtin.ObjectAttr PySem.Builtin.Getset_descriptor
section
variable {prog : Program} {w : World} {A : Around} {E : Value -> Shared -> Prop} {K : Frag} {x D : Addr} {s : Shared}
end
theorem Bw {X : Cx} {x : Str} {v : V} {pos : Pos} (h : ∃ u, X.mg x = some u /\ X7 v u) (hg : Gl X x) (hd : (x == ("__debug__" : Str)) = false:=by decide) : PE X (.Name x pos) (tC v):=by
  obtain ⟨u, hm, r⟩:=h
  exact BW hg hm r hd
theorem PS.nox {X : Cx} {st : Stmt} {t : TS} (h : PS X.nox st t) : PS X st t:=fun pins s σ H D I hw=>
  wpAny_mono (h pins s σ H D (I.wish _) hw) (fun _ _ q=>q.unwish) fun _ _ z=>False.elim z
section
variable {K : PySem.W.Frag} {C D : Addr} {b : Bool}
end
end L2
namespace L2
open PySem PySem.Spec PyProof.Rows
theorem P3.dropLast {α β γ : Type} {F : α -> β -> γ -> Prop} : ∀ {l m n}, P3 F l m n -> P3 F l.dropLast m.dropLast n.dropLast
  | _, _, _, .nil=>.nil
  | _, _, _, .cons _ .nil=>.nil
  | _, _, _, .cons r (.cons q t)=>.cons r (P3.dropLast (.cons q t))
theorem Q5 {α : Type} (l : List (List α)) : l.dropLast.flatten.Sublist l.flatten:=by
  have e : l.flatten = l.dropLast.flatten ++ (l.drop (l.length - 1)).flatten:=by rw [List.dropLast_eq_take, ← List.flatten_append, List.take_append_drop]
  rw [e]
  exact List.sublist_append_left _ _
section
variable {α β : Type} {K : PySem.W.Frag} {Er : Exc -> Hp -> Prop} {S : SC} {OO : List (List Xz)} {σ : St} {Fd : Ends -> β -> Hp -> Prop} [fd : FdOk Fd] {u : TS}
end
end L2
namespace L2
open PySem PySem.Spec PyProof.Rows
section
variable {α β γ δ ε : Type}
structure Crs (r : Enc α) (q : Enc β) (d : Nat) : Prop where
  no : ∀ {X : Cx} {pins : List (Addr × Obj)} {σ : St} {H : Hp} {s : Shared} {x : V} {a : α} {b : β}, Inv X pins σ H s -> r X.K H x a -> q X.K H x b -> False
  lr : ∀ {X : Cx} {pins : List (Addr × Obj)} {σ : St} {H : Hp} {s : Shared} {x y : V} {v u : Value} {a : α} {b : β} {A : Around}, Inv X pins σ H s -> X7 x v -> X7 y u -> r X.K H x a -> q X.K H y b -> A.units + d < cLine -> SeqAt.EqAt A s v u false /\ SeqAt.RcAt A s v u false /\ SeqAt.RcNeAt A s v u true
  rl : ∀ {X : Cx} {pins : List (Addr × Obj)} {σ : St} {H : Hp} {s : Shared} {x y : V} {v u : Value} {a : α} {b : β} {A : Around}, Inv X pins σ H s -> X7 x v -> X7 y u -> q X.K H x b -> r X.K H y a -> A.units + d < cLine -> SeqAt.EqAt A s v u false /\ SeqAt.RcAt A s v u false /\ SeqAt.RcNeAt A s v u true
theorem Crs.up {r : Enc α} {q : Enc β} {d e : Nat} (c : Crs r q d) (h : d <= e) : Crs r q e:=⟨c.no, fun I rx ry h1 h2 hu=>c.lr I rx ry h1 h2 (by omega), fun I rx ry h1 h2 hu=>c.rl I rx ry h1 h2 (by omega)⟩
end
end L2
namespace L2
open PySem PySem.Spec PyProof.Rows
section
variable {K : PySem.W.Frag} {Er : Exc -> Hp -> Prop} {S : SC} {OO OO' OO1 OO2 : List (List Xz)} {σ : St} {α β γ ρ ι δ ε ζ : Type}
variable {Fd : Ends -> β -> Hp -> Prop} [fd : FdOk Fd] {u : TS}
noncomputable def getL : α ⊕ γ -> Res α
  | .inl a=>.ok a
  | .inr _=>.bad
noncomputable def getR : α ⊕ γ -> Res γ
  | .inl _=>.bad
  | .inr b=>.ok b
end
end L2
namespace L2
theorem Iz {α : Type} {us : List α} (h : us.length = 1) : ∃ a, us = [a]:=List.length_eq_one_iff.mp h
theorem Ic {α : Type} {us : List α} (h : us.length = 2) : ∃ a0 a1, us = [a0, a1]:=by
  cases us with
  | nil=>cases h
  | cons a0 t=>
    obtain ⟨a1, rfl⟩:=Iz (Nat.succ.inj h)
    exact ⟨a0, a1, rfl⟩
theorem Hy {α : Type} {us : List α} (h : us.length = 3) : ∃ a0 a1 a2, us = [a0, a1, a2]:=by
  cases us with
  | nil=>cases h
  | cons a0 t=>
    obtain ⟨a1, a2, rfl⟩:=Ic (Nat.succ.inj h)
    exact ⟨a0, a1, a2, rfl⟩
theorem Lb {α : Type} {us : List α} (h : us.length = 4) : ∃ a0 a1 a2 a3, us = [a0, a1, a2, a3]:=by
  cases us with
  | nil=>cases h
  | cons a0 t=>
    obtain ⟨a1, a2, a3, rfl⟩:=Hy (Nat.succ.inj h)
    exact ⟨a0, a1, a2, a3, rfl⟩
theorem Ld {α : Type} {us : List α} (h : us.length = 5) : ∃ a0 a1 a2 a3 a4, us = [a0, a1, a2, a3, a4]:=by
  cases us with
  | nil=>cases h
  | cons a0 t=>
    obtain ⟨a1, a2, a3, a4, rfl⟩:=Lb (Nat.succ.inj h)
    exact ⟨a0, a1, a2, a3, a4, rfl⟩
end L2
namespace L2
open PySem PySem.Spec PyProof.Rows
section
variable {prog : Program} {w : World} {A : Around} {E : Value -> Shared -> Prop}
end
section
variable {X : Cx} {pos : Pos}
end
section
variable {K : PySem.W.Frag} {Er : Exc -> Hp -> Prop} {S : SC} {OO OO' OO1 OO2 : List (List Xz)} {σ : St} {α β γ ρ ι δ ε ζ : Type}
variable {Fd : Ends -> β -> Hp -> Prop} [fd : FdOk Fd] {u : TS}
theorem Cu {te : TE} {m : Res (Option (Int × Int))} (he : Ev K Er S OO OO' σ te (oF (Zt (rP2 Xb Xb))) m) : Ev K Er S OO OO' σ te (oF (Zt (rPL Xb))) (m.bind fun a=>.ok (a.map fun p=>[p.1, p.2])):=fun H Q w s P=>by
  refine he H Q w s ?_
  cases m with
  | bad=>exact P
  | err x=>exact P
  | ok a=>
    refine fun v C H' s' w' m' ho=>P v C H' s' w' m' ⟨ho.1, ?_⟩
    cases a with
    | none=>exact ho.2
    | some a=>
      obtain ⟨_, hn, p, x, y, e, h, h1, h2⟩:=ho
      exact ⟨hn, p, _, e, h, .cons h1 (.cons h2 .nil)⟩
theorem Gw {te : TE} {m : Res (Option (Int × Int × Int × Int))} (he : Ev K Er S OO OO' σ te (oF (Zt (rP4 Xb Xb Xb Xb))) m) : Ev K Er S OO OO' σ te (oF (Zt (rPL Xb))) (m.bind fun a=>.ok (a.map fun p=>[p.1, p.2.1, p.2.2.1, p.2.2.2])):=fun H Q w s P=>by
  refine he H Q w s ?_
  cases m with
  | bad=>exact P
  | err x=>exact P
  | ok a=>
    refine fun v C H' s' w' m' ho=>P v C H' s' w' m' ⟨ho.1, ?_⟩
    cases a with
    | none=>exact ho.2
    | some a=>
      obtain ⟨_, hn, p, x, y, x3, x4, e, h, h1, h2, h3, h4⟩:=ho
      exact ⟨hn, p, _, e, h, .cons h1 (.cons h2 (.cons h3 (.cons h4 .nil)))⟩
theorem Vd {r : Enc α} : Ev K Er S OO OO σ (tC .non) (oF (Zt r)) (.ok none):=fun H Q w s P=>P _ [] H (Xr.refl _) w.nil (by rw [Yk]; exact Xr.refl _) ⟨rfl, rfl⟩
theorem QW {te : TE} {r : Enc α} {m : Res α} (hn : ∀ {K h v a C}, oF r K h v a C -> v ≠ .non) (he : Ev K Er S OO OO' σ te (oF r) m) : Ev K Er S OO OO' σ te (oF (Zt r)) (m.bind fun a=>.ok (some a)):=fun H Q w s P=>by
  refine he H Q w s ?_
  cases m with
  | bad=>exact P
  | err x=>exact P
  | ok a=>exact fun v C H' s' w' m' ho=>P v C H' s' w' m' ⟨ho.1, hn ho, ho.2⟩
theorem IJ {r1 : Enc α} {r2 : Enc β} {r3 : Enc γ} {r4 : Enc δ} {K : PySem.W.Frag} {h : Hp} {v : V} {a : α × β × γ × δ} {C : List Xz} (q : oF (rP4 r1 r2 r3 r4) K h v a C) : v ≠ .non:=by
  obtain ⟨_, p, x1, x2, x3, x4, e, _⟩:=q
  rw [e]
  exact fun z=>nomatch z
end
end L2
namespace L2
open PySem PySem.Spec PyProof.Rows
section
variable {X : Cx}
end
section
variable {K : PySem.W.Frag} {Er : Exc -> Hp -> Prop} {S : SC} {OO OO' OO1 OO2 : List (List Xz)} {σ : St} {α β γ ρ ι δ ε ζ : Type}
variable {Fd : Ends -> β -> Hp -> Prop} [fd : FdOk Fd] {u : TS}
end
end L2
namespace L2
open PySem PySem.Spec PyProof.Rows
set_option maxRecDepth 100000
section
variable {prog : Program} {w : World} {A : Around} {E : Value -> Shared -> Prop} {s : Shared}
end
section
variable {prog : Program} {w : World} {A : Around} {R : Result -> Shared -> Prop} {K : Type} [DecidableEq K] {knd : KeyKind prog w K}
noncomputable def Cw (acc kv : List (K × Value)) : List (K × Value):=kv.foldl (fun a p=>stored a p.1 p.2) acc
end
end L2
namespace L2
open PySem PySem.Spec PyProof.Rows
section
variable {X : Cx}
noncomputable def ID (acc kvs : List (Key × V)) : List (Key × V):=kvs.foldl (fun a p=>Bd a p.1 p.2) acc
theorem KV.all {kvs : List (Key × V)} {vs : List (Key × Value)} (t : KV kvs vs) : ∀ {acc : List (Key × V)} {acc' : List (Key × Value)}, KV acc acc' -> KV (ID acc kvs) (Cw acc' vs):=by
  induction t with
  | nil=>intro acc acc' h; exact h
  | @cons p q kvs vs r _ ih=>
    intro acc acc' h
    have h2:=h.put p.1 r.2
    have e : stored acc' p.1 q.2 = stored acc' q.1 q.2:=by rw [r.1]
    rw [e] at h2
    exact ih h2
noncomputable def Vx (ns : List Int) : List Int:=ns.mergeSort fun a b=>decide (a <= b)
theorem Jb (ns : List Int) : (Vx ns).Perm ns:=List.mergeSort_perm ns _
theorem GX (ns : List Int) : (Vx ns).Pairwise (· <= ·):=by
  have h:=List.pairwise_mergeSort (le:=fun a b : Int=>decide (a <= b)) (fun a b c h1 h2=>by rw [decide_eq_true_eq] at h1 h2 ⊢; omega) (fun a b=>by rw [Bool.or_eq_true, decide_eq_true_eq, decide_eq_true_eq]; omega) ns
  exact h.imp fun h=>by simpa using h
theorem K9 {a b : List Int} (h : a.Perm b) (r : a.Pairwise (· <= ·)) : a = Vx b:=List.Perm.eq_of_pairwise (le:=(· <= ·)) (fun _ _ _ _ h1 h2=>Int.le_antisymm h1 h2) r (GX b) (h.trans (Jb b).symm)
theorem CK : ∀ {ns : List Int} {vs : List Value}, X3 (ns.map V.int) vs -> IntsAre vs ns:=fun {ns}=>by
  induction ns with
  | nil=>intro vs h; cases h; exact .nil
  | cons n ns ih=>
    intro vs h
    cases h with
    | cons r t=>
      obtain ⟨k, rfl⟩:=r
      exact .cons n k (ih t)
noncomputable def BR (K : PySem.W.Frag) : List V -> Hp -> VK -> Prop:=fun xs H Q=>∃ l ns, xs = [.ref l] /\ SqL K H l (ns.map V.int) /\ ns.length < 64 /\ ∀ p, H p = none -> Q (.ref p) (upd H p (.lst ((Vx ns).map V.int)))
theorem Vz (K : PySem.W.Frag) (hK : X.K = K) : Qc X (.builtin "sorted") (BR K):=by
  subst hK
  intro pins s σ H xs us Q I r h
  obtain ⟨l, ns, rfl, hq, h64, q⟩:=h
  obtain ⟨u, rfl, ru⟩:=KH r
  cases ru
  obtain ⟨its, rv, pl, hz⟩:=I.list hq
  have hlen:=rv.length
  rw [List.length_map] at hlen
  refine sorted_ints pl.isList (CK rv) (by omega) fun out ns' a1 a2 a3=>?_
  obtain ⟨e, he⟩:=sortedAll_at s.heap its out
  have en : ns' = Vx ns:=K9 a2 a3
  have v:=J7 a1
  rw [en] at v
  have hfr : H (s.heap.objs.size + 1) = none:=I.hok.fresh (Nat.le_succ _)
  refine ⟨.ref (s.heap.objs.size + 1), _, I.laid (t':=s.toks) (fun b o e=>sortedAll_old e) (Nat.le_succ _) (show Zb X.prog X.w _ _ _ (.lst ((Vx ns).map V.int)) from ⟨?_, out.toList, e, v, he⟩), rfl, q _ hfr⟩
  rw [List.length_map, (Jb ns).length_eq]
  rw [List.length_map] at hz
  exact hz
end
end L2
namespace L2
open PySem PySem.Spec PyProof.Rows
section
variable {X : Cx} {pins : List (Addr × Obj)} {σ : St} {H : Hp} {s : Shared} {d : Addr} {o : Obj} {kvs : List (Key × V)}
theorem KV.key {kvs : List (Key × V)} {vs : List (Key × Value)} (h : KV kvs vs) : ∀ {i : Nat} (h1 : i < kvs.length) (h2 : i < vs.length), (kvs[i]).1 = (vs[i]).1:=by
  induction h with
  | nil=>intro i h1; exact absurd h1 (Nat.not_lt_zero _)
  | cons r _ ih=>
    intro i h1 h2
    cases i with
    | zero=>exact r.1
    | succ i=>exact ih (Nat.lt_of_succ_lt_succ h1) (Nat.lt_of_succ_lt_succ h2)
end
section
variable {X : Cx}
end
end L2
namespace L2
open PySem PySem.Spec PyProof.Rows
section
variable {K : PySem.W.Frag} {Er : Exc -> Hp -> Prop} {S : SC} {OO OO' OO2 : List (List Xz)} {σ : St} {α β γ ρ ι δ ε : Type}
variable {Fd : Ends -> β -> Hp -> Prop} [fd : FdOk Fd] {u : TS}
theorem Cm {H : Hp} {xs : List V} {ns : List Int} (h : Paired (Xb K H) xs ns) : xs = ns.map V.int:=by
  induction h with
  | nil=>rfl
  | cons r _ ih=>rw [List.map_cons, ih, show _ = V.int _ from r]
theorem Bf {H : Hp} (ns : List Int) : Paired (Xb K H) (ns.map V.int) ns:=by
  induction ns with
  | nil=>exact .nil
  | cons n ns ih=>exact .cons rfl ih
theorem CU {ta : TE} {ma : Res (List Int)} (ha : EvL K Er S OO σ ta Xb ma) : Ev K Er S OO OO σ (tCB (BR K) (XB ta Zx)) (oL (oF Xb)) (ma.bind fun as=>chk (as.length < 64) (.ok (Vx as))):=fun H Q w s P=>
  ha.run w s FO.tr P fun as x H1 s1 w1 q1 ⟨p, xs, e, q, pr⟩ P1=>by
    obtain ⟨hl, P2⟩:=PZ.chk P1
    exact ⟨p, as, by rw [e], SqL.of (by rw [← Cm pr]; exact q), hl, C5 w1 (Bf _) P2⟩
theorem Bp {ta : TE} {r : Enc α} [z : FlatE r] {ma : Res (List α)} (ha : EvB K Er S OO σ ta (rPL r) ma) : Ev K Er S OO OO σ (tCB (Km K) (XB ta Zx)) (oL (oF r)) (ma.bind fun as=>.ok as):=fun H Q w s P=>
  ha.run w s FO.tr P fun as x H1 s1 w1 q1 ⟨p, xs, e, q, pr⟩ P1=>⟨p, xs, by rw [e], .inr (SqT.of q), C5 w1 (Paired.imp2 (fun _ _ h=>z.flat w1.i h) pr) P1⟩
end
end L2
namespace L2
open PySem PySem.Spec PyProof.Rows
section
variable {prog : Program} {w : World} {A : Around}
end
section
variable {X : Cx}
end
end L2
namespace L2
open PySem PySem.Spec PyProof.Rows
section
variable {K : PySem.W.Frag} {Er : Exc -> Hp -> Prop} {S : SC} {OO OO' OO1 OO2 : List (List Xz)} {σ : St} {α β γ ρ ι δ ε : Type}
variable {Fd : Ends -> β -> Hp -> Prop} [fd : FdOk Fd] {u : TS}
end
end L2
namespace L2
open PySem PySem.Spec PyProof.Rows
theorem B9 {prog : Program} {w : World} {A : Around} {E : Value -> Shared -> Prop} {s : Shared} {l b : Addr} {o1 o2 : Obj} {Q : Value -> Shared -> Prop} (h1 : s.heap.get? l = some o1) (c1 : o1.cls = .type "list") (h2 : s.heap.get? b = some o2) (c2 : o2.cls = .type "list") (hu : A.units < cLine)
    (h : wpAny (model prog w) A (call (.builtin "list.__lt__") [.ref l, .ref b]) (fun v s'=>(∃ k, v = .bool k) /\ Q v s') E s) : wpAny (model prog w) A (compareOp .Lt (.ref l) (.ref b)) Q E s:=by
  have t1 : s.TypeIs (.ref l) "list":=⟨_, h1, c1⟩
  have t2 : s.TypeIs (.ref b) "list":=⟨_, h2, c2⟩
  show wpAny _ _ (richCompare .Lt (.ref l) (.ref b)) _ _ _
  unfold richCompare
  refine wpAny_holding ?_
  refine wpAny_bind (wpAny_cRoomFor hu ?_)
  have hone : oneThing? .Lt (.ref l) (.ref b) = none:=rfl
  rw [hone]
  dsimp only
  refine wpAny_bind (wpAny_typeOf t1 ?_)
  refine wpAny_bind (wpAny_typeOf t2 ?_)
  rw [if_neg (by decide)]
  refine wpAny_bind (wpAny_pure ?_)
  rw [if_neg (by decide)]
  unfold tryCompare
  refine wpAny_bind (wpAny_bind (wpAny_callSpecialIfBound?_slot t1 F.slot_list_lt (thn h fun v s' ⟨⟨k, e⟩, q⟩=>?_)))
  subst e
  exact wpAny_pure (wpAny_pure q)
theorem Vc : entryFor table "list.__eq__.loop" = some Builtin.«list.__eq__.loop»:=entryFor_of_fast (by kernel_rfl)
theorem ZT : plainId "list.__eq__.loop" = true:=by decide +kernel
section
variable {X : Cx}
end
end L2
namespace L2
open PySem PySem.Spec PyProof.Rows
section
variable {K : PySem.W.Frag} {Er : Exc -> Hp -> Prop} {S : SC} {OO OO' OO1 OO2 : List (List Xz)} {σ : St} {α β γ ρ ι δ ε : Type}
noncomputable def Hw [DecidableEq α] (as : List α) (a : α) (k : Int) : Res Int:=chk (0 <= k) ((Hc (as.drop k.toNat) a).bind fun j=>.ok (k + j))
theorem GK [DecidableEq α] {ta tb tc : TE} {r : Enc α} [z : InE r] [y : MonoE r] {ma : Res (List α)} {mb : Res α} {mc : Res Int} (ha : EvB K Er S OO σ ta (rV r) ma) (hb : EvB K Er S OO σ tb r mb) (hc : EvB K Er S OO σ tc Xb mc) : EvB K Er S OO σ (tBM K "list" (DZ K) ta (XB tb (XB tc Zx))) Xb (ma.bind fun as=>mb.bind fun a=>mc.bind fun k=>Hw as a k):=fun H Q w s P=>
  ha.run w s FB.tr P fun as x H1 s1 w1 q1 ⟨p, xs, e, q, pr⟩ P1=>⟨by rw [e]; exact .inl ⟨rfl, _, SqL.of q⟩, hb.run w1 q1 FB.tr P1 fun b v H2 s2 w2 q2 r2 P2=>hc.run w2 q2 FB.tr P2 fun k vk H3 s3 w3 q3 r3 P3=>by
    obtain ⟨hk0, P4⟩:=PZ.chk P3
    have pr2:=Paired.imp2 (G:=r K H3) (fun _ _ h=>y.mono (s2.trans s3) h) pr
    have r2':=y.mono s3 r2
    cases hi : Hc (as.drop k.toNat) b with
    | bad=>rw [hi] at P4; exact P4.elim
    | err x=>exact absurd hi E1
    | ok c=>
      rw [hi] at P4
      obtain ⟨j, hj, rfl⟩:=EC hi
      obtain ⟨h1, h2⟩:=GP r2' (Paired.drop' k.toNat pr2) hj
      obtain ⟨zz, hz1, hz2⟩:=h1
      rw [List.getElem?_drop] at hz1
      refine ⟨p, xs, v, k.toNat, k.toNat + j, k, e, by rw [show vk = .int k from r3], by omega, SqL.of ((s2.trans s3) _ _ q), z.fl r2', (Qr r2' pr2).1, Nat.le_add_right _ _, ⟨zz, hz1, hz2⟩, fun m z hm1 hm2 hz=>?_, ?_⟩
      . refine h2 (m - k.toNat) z (by omega) ?_
        rw [List.getElem?_drop, show k.toNat + (m - k.toNat) = m by omega]
        exact hz
      . have := P4 (.int (k + (j : Int))) H3 (Xr.refl _) rfl
        rw [show ((k.toNat + j : Nat) : Int) = k + (j : Int) by omega]
        exact this⟩
end
end L2
namespace L2
open PySem PySem.Spec PyProof.Rows
section
variable {K : PySem.W.Frag} {Er : Exc -> Hp -> Prop} {S : SC} {OO OO' OO1 OO2 : List (List Xz)} {σ : St} {α β γ ρ ι δ ε : Type}
noncomputable def tk (k : List Int) : List Key:=k.map Sum.inl
variable {Fd : Ends -> β -> Hp -> Prop} [fd : FdOk Fd] {u : TS}
end
end L2
namespace L2
open PySem PySem.Spec PyProof.Rows
section
variable {X : Cx} {α : Type} [DecidableEq α] {r : Enc α} {d : Nat}
end
section
variable {K : PySem.W.Frag} {Er : Exc -> Hp -> Prop} {S : SC} {OO OO' OO1 OO2 : List (List Xz)} {σ : St} {α β γ ρ ι δ ε : Type}
end
end L2
namespace L2
open PySem PySem.Spec PyProof.Rows
section
variable {X : Cx} {pins : List (Addr × Obj)} {σ : St} {H : Hp} {s : Shared} {h' : Heap}
theorem Inv.turns {t' : Nat} {ch : List Addr} (I : Inv X pins σ H s) (k : ∀ b o, b ∉ ch -> s.heap.get? b = some o -> h'.get? b = some o) (hf : ∀ b ∈ ch, Kx X pins H b) : Inv X pins σ H { s with heap:=h', toks:=t' }:=by
  have nit : ∀ b o, H b = some o -> b ∉ ch:=fun b o e z=>by rw [(hf b z).1] at e; cases e
  refine I.step (g':=s.gens) (d':=s.drawn) (ch:=ch) (fun b hb=>?_) (fun b o _ _ hc e _=>k b o hc e) (fun b o _ _ hc e _=>⟨o.slots, k b o hc e⟩)
    (fun b o _ e n=>n) (fun b o hc e=>⟨o, k b o hc e⟩) (fun b xs e=>e) (fun b o xs e=>e) (fun b ps e=>⟨#[], by rw [e]; simp⟩) (fun m hm=>?_) (fun b v e=>?_) I.bare
  . obtain ⟨f0, f1, f2, f3, f4, f5⟩ := hf b hb
    exact ⟨f3, f1, f4, f5⟩
  . obtain ⟨o, es, ep, ho, r⟩ := hm
    exact ⟨o, es, ep, k _ o (fun z=>(hf _ z).2.1 rfl) ho, r⟩
  . refine (I.hok b v e).stay (fun c o hc q => k c o ?_ q) (fun c q => q) fun c xs q => q
    rcases hc with z | z
    . rw [z]; exact nit b v e
    . exact nit c _ z
end
section
variable {X : Cx} {elts : List Expr} {k : Nat} {pos0 : Pos}
end
end L2
namespace L2
open PySem PySem.Spec PyProof.Rows
section
variable {K : PySem.W.Frag} {Er : Exc -> Hp -> Prop} {S : SC} {OO OO' OO1 OO2 : List (List Xz)} {σ : St} {α β γ ρ ι δ ε : Type}
end
end L2
namespace L2
open PySem PySem.Spec PyProof.Rows
section
variable {X : Cx}
end
section
variable {K : PySem.W.Frag} {Er : Exc -> Hp -> Prop} {S : SC} {OO OO' OO1 OO2 : List (List Xz)} {σ : St} {α β γ ρ ι δ ε : Type}
variable {Fd : Ends -> β -> Hp -> Prop} [fd : FdOk Fd] {u : TS}
end
end L2
namespace L2
open PySem PySem.Spec PyProof.Rows
section
variable {K : PySem.W.Frag} {Er : Exc -> Hp -> Prop} {S : SC} {OO OO' OO1 OO2 : List (List Xz)} {σ : St} {α β γ ρ ι δ ε : Type} {u : TS}
noncomputable def VL : Nat -> γ -> (γ -> Res Bool) -> (γ -> Res (Ctl ρ γ)) -> Res (Ctl ρ γ)
  | 0, _, _, _=>.bad
  | n + 1, g, c, f=>(c g).bind fun b=>if b = true then (f g).bind fun r=>match r with
    | .ret r=>.ok (.ret r)
    | .nx g'=>VL n g' c f else .ok (.nx g)
theorem Fu {o : OE ρ} {c : TT} {tb : TS} {mc : γ -> Res Bool} {body : γ -> Res (Ctl ρ γ)} {f : γ -> Res ρ} (J : Jn γ ι) (n : Nat) (x0 : ι) (g0 : γ) (h1 : OO = J.oo x0) (h2 : σ = J.ss x0) (h3 : ∀ h, S.p h -> (J.sc g0 x0).p h)
    (hc : ∀ g x, EvT Er (J.sc g x) (J.oo x) (J.ss x) c (mc g)) (hb : ∀ g x, Sv Er (J.sc g x) (J.oo x) (J.ss x) tb (FCd K o J) (body g))
    (hr : ∀ g x, Sv Er (J.sc g x) (J.oo x) (J.ss x) u (FTd K o) (f g)) : Sv Er S OO σ (ZX (D0 c tb) u) (FTd K o) ((VL n g0 mc body).bind (Zu f)):=fun H D w s P=>by
  refine ⟨fun mm σ' H2=>∃ x gg, σ' = J.ss x /\ W (J.oo x) H2 /\ (J.sc gg x).p (hid H2 (J.oo x)) /\ PZ Er (FTd K o D) (hid H2 (J.oo x)) ((VL mm gg mc body).bind (Zu f)), ⟨n, x0, g0, h2, by rw [← h1]; exact w, by rw [← h1]; exact h3 _ s, by rw [← h1]; exact P⟩, ?_⟩
  rintro mm σ' H2 ⟨x, gg, rfl, w2, sc2, P2⟩
  cases mm with
  | zero=>exact P2.elim
  | succ mm=>
    have P3 : PZ Er (FTd K o D) (hid H2 (J.oo x)) ((mc gg).bind fun b=>(if b = true then (body gg).bind fun r=>match r with
      | .ret r=>.ok (.ret r)
      | .nx g'=>VL mm g' mc body else .ok (.nx gg)).bind (Zu f)):=by rw [← XN]; exact P2
    refine (hc gg x).st w2 sc2 P3 fun b H3 w3 sc3 P4=>?_
    cases b with
    | false=>exact hr gg x H3 D w3 sc3 P4
    | true=>
      rw [if_pos rfl] at P4 ⊢
      refine ⟨fun σ3 H4=>∃ x gg, σ3 = J.ss x /\ W (J.oo x) H4 /\ (J.sc gg x).p (hid H4 (J.oo x)) /\ PZ Er (FTd K o D) (hid H4 (J.oo x)) ((VL mm gg mc body).bind (Zu f)), fun σ3 H4 q=>⟨mm, Nat.lt_succ_self _, q⟩, hb gg x H3 _ w3 sc3 ?_⟩
      rw [XN] at P4
      cases eb : body gg with
      | bad=>rw [eb] at P4; exact P4
      | err x=>rw [eb] at P4; exact P4
      | ok c=>
        rw [eb] at P4
        cases c with
        | ret r=>exact P4
        | nx g'=>exact fun x' H5 w5 m5 sc5=>⟨x', g', rfl, w5, sc5, PZ.tr (FdOk.tr D) m5 P4⟩
end
end L2
namespace L2
open PySem PySem.Spec PyProof.Rows
section
variable {X : Cx}
end
section
variable {K : PySem.W.Frag} {Er : Exc -> Hp -> Prop} {S : SC} {OO : List (List Xz)} {σ : St}
end
end L2
namespace L2
open PySem PySem.Spec PyProof.Rows
section
variable {X : Cx} {pins : List (Addr × Obj)} {σ : St} {H : Hp} {s : Shared} {d : Addr} {o : Obj} {kvs : List (Key × V)}
end
end L2
namespace L2
open PySem PySem.Spec PyProof.Rows
section
variable {X : Cx}
end
section
variable {K : PySem.W.Frag} {Er : Exc -> Hp -> Prop} {S : SC} {OO OO' OO1 OO2 OO3 : List (List Xz)} {σ : St} {α β γ ρ ι δ ε ζ : Type}
variable {Fd : Ends -> β -> Hp -> Prop} [fd : FdOk Fd] {u : TS}
noncomputable def oT3 (o : OE α) (q : OE β) (t : OE γ) : OE (α × β × γ):=fun K h v a C=>∃ p x y z C1 C2 C3, v = .ref p /\ h p = some (.tup [x, y, z]) /\ o K h x a.1 C1 /\ q K h y a.2.1 C2 /\ t K h z a.2.2 C3 /\ C = C1 ++ (C2 ++ C3)
instance {o : OE α} {q : OE β} {t : OE γ} [m : MonoO o] [n : MonoO q] [k : MonoO t] : MonoO (oT3 o q t):=⟨fun s h9=>(by obtain ⟨p, x, y, z, C1, C2, C3, e, h, h1, h2, h3, c⟩:=h9; exact ⟨p, x, y, z, C1, C2, C3, e, s _ _ h, m.mono s h1, n.mono s h2, k.mono s h3, c⟩)⟩
instance {o : OE α} {q : OE β} {t : OE γ} [m : FlatO o] [n : FlatO q] [k : FlatO t] : FlatO (oT3 o q t):=⟨fun s h9=>(by obtain ⟨p, x, y, z, C1, C2, C3, e, h, h1, h2, h3, c⟩:=h9; exact ⟨p, x, y, z, C1, C2, C3, e, s _ _ h rfl, m.flat s h1, n.flat s h2, k.flat s h3, c⟩)⟩
instance {o : OE α} {q : OE β} {t : OE γ} {ro : Enc α} {rq : Enc β} {rt : Enc γ} [m : FrzC o ro] [n : FrzC q rq] [k : FrzC t rt] : FrzC (oT3 o q t) (rP3 ro rq rt):=⟨fun ⟨p, x, y, z, C1, C2, C3, e, h, h1, h2, h3, c⟩ s hc=>by
  subst c
  exact ⟨p, x, y, z, e, s _ _ h, m.frz h1 s fun c hm=>hc c (by simp [hm]), n.frz h2 s fun c hm=>hc c (by simp [hm]), k.frz h3 s fun c hm=>hc c (by simp [hm])⟩⟩
end
end L2
namespace L2
open PySem PySem.Spec PyProof.Rows
section
variable {K : PySem.W.Frag} {Er : Exc -> Hp -> Prop} {S : SC} {OO OO' OO1 OO2 : List (List Xz)} {σ : St} {α β γ ρ ι δ ε ζ : Type}
variable {Fd : Ends -> β -> Hp -> Prop} [fd : FdOk Fd] {u : TS}
end
end L2
namespace L2
open PySem PySem.Spec PyProof.Rows
section
variable {K : PySem.W.Frag} {Er : Exc -> Hp -> Prop} {S : SC} {OO OO' OO1 OO2 : List (List Xz)} {σ : St} {α β γ ρ ι δ ε ζ : Type}
variable {Fd : Ends -> β -> Hp -> Prop} [fd : FdOk Fd] {u : TS}
end
end L2
namespace L2
open PySem PySem.Spec PyProof.Rows
section
variable {K : PySem.W.Frag} {Er : Exc -> Hp -> Prop} {S : SC} {OO OO' OO1 OO2 : List (List Xz)} {σ : St} {α β γ ρ ι δ ε ζ α1 α3 α4 : Type}
variable {Fd : Ends -> β -> Hp -> Prop} [fd : FdOk Fd] {u : TS}
noncomputable def L0 (K : PySem.W.Frag) (o : OE ρ) (q : OE γ) (v2 : V) (Q : VK) (x : ρ × γ) (h : Hp) : Prop:=∀ v C C' H', W [C ++ C'] H' -> Xr h (hid H' [C ++ C']) -> o K (hid H' [C ++ C']) v x.1 C -> q K (hid H' [C ++ C']) v2 x.2 C' -> Q v H'
noncomputable def BC (K : PySem.W.Frag) (o : OE ρ) (q : OE γ) (v2 : V) (D : Ends) (x : ρ × γ) (h : Hp) : Prop:=∀ v C C' OO' H', W (C :: C' :: OO') H' -> Xr h (hid H' (C :: C' :: OO')) -> o K (hid H' (C :: C' :: OO')) v x.1 C -> q K (hid H' (C :: C' :: OO')) v2 x.2 C' -> D.rt v H'
instance {o : OE ρ} {q : OE γ} {v2 : V} : FdOk (BC K o q v2):=⟨fun D b h h' s q v C C' O H' w m x y=>q v C C' O H' w (s.trans m) x y⟩
theorem Ht {o : OE ρ} [zo : MonoO o] {q : OE γ} [zq : MonoO q] {t : TS} {m : Res (ρ × γ)} {Q : VK} {b : ρ × γ} {H : Hp} {D : Ends} {v2 : V} {C : List Xz} (n k : Nat) (hkn : k < n) (h : Sv (fun _ _=>False) S ((List.replicate n []).set k C) σ t (BC K o q v2) m) (w : W [C] H) (hs : S.p (hid H [C])) (hm : m = .ok b) (qf : L0 K o q v2 Q b (hid H [C])) (hD : D.rt = Q) : t D σ H:=by
  have pe : ((List.replicate n []).set k C).flatten.Perm [C].flatten:=by
    have h1:=XF (OO:=(List.replicate n []).set k C) (k:=k) (C:=C) (by simp [hkn])
    have e : ((List.replicate n ([] : List Xz)).set k C).set k [] = List.replicate n []:=by
      rw [List.set_set]
      apply List.ext_getElem?
      intro m
      by_cases hm : m = k
      . subst hm; simp [hkn]
      . rw [List.getElem?_set_ne (fun e=>hm e.symm)]
    rw [e, List.flatten_cons, X9] at h1
    simpa using h1.symm
  refine h H D (w.of pe) (by rw [XD pe]; exact hs) ?_
  subst hm
  rw [XD pe]
  intro v C1 C2 OO' H' w' m' h1 h2
  rw [hD]
  have hsub : Xr (hid H' (C1 :: C2 :: OO')) (hid H' [C1 ++ C2]):=YB (Xr.refl _) fun b hb=>by
    rw [XE, XE, ← List.append_assoc]
    refine List.mem_append_left _ ?_
    simpa [fl] using hb
  exact qf v C1 C2 H' (w'.sub (by simp)) (m'.trans hsub) (zo.mono hsub h1) (zq.mono hsub h2)
end
end L2
namespace L2
open PySem
noncomputable def Inc (xs : Array Nat) : Prop:=xs.toList.Pairwise (· < ·)
theorem Inc.lt {xs : Array Nat} (h : Inc xs) {i j v u : Nat} (hij : i < j) (hi : xs[i]? = some v) (hj : xs[j]? = some u) : v < u:=by
  rw [← Array.getElem?_toList] at hi hj
  obtain ⟨a, rfl⟩:=List.getElem?_eq_some_iff.mp hi
  obtain ⟨b, rfl⟩:=List.getElem?_eq_some_iff.mp hj
  exact List.pairwise_iff_getElem.mp h i j a b hij
theorem Inc.le {xs : Array Nat} (h : Inc xs) {i j v u : Nat} (hij : i <= j) (hi : xs[i]? = some v) (hj : xs[j]? = some u) : v <= u:=by
  rcases Nat.lt_or_eq_of_le hij with z | z
  . exact Nat.le_of_lt (h.lt z hi hj)
  . subst z; rw [hi] at hj; cases hj; exact Nat.le_refl _
structure TOk (t : SetTable) (led : Bool) : Prop where
  inc : Inc t.place
  dum : t.dummies = #[]
  led : t.led = led
theorem TOk.fresh (f m : Nat) (led : Bool) : TOk (.fresh f m led) led:=⟨List.Pairwise.nil, rfl, rfl⟩
end L2
namespace L2
open PySem PySem.Spec PyProof.Rows
theorem CD {vs : List Value} {ms : List Int} (h : IntsAre vs ms) (k : Int) : (∃ v ∈ vs, Value.isInt k v = true) ↔ k ∈ ms:=by
  induction h with
  | nil=>simp
  | cons n t _ ih=>
    rw [List.mem_cons, ← ih]
    constructor
    . rintro ⟨v, hv, e⟩
      rcases List.mem_cons.mp hv with z | z
      . subst z; obtain ⟨t', e'⟩:=Value.isInt_shape e; cases e'; exact .inl rfl
      . exact .inr ⟨v, z, e⟩
    . rintro (z | ⟨v, hv, e⟩)
      . subst z; exact ⟨_, .head _, beq_self_eq_true _⟩
      . exact ⟨v, .tail _ hv, e⟩
theorem Dk {vs vs' : List Value} (p : vs'.Perm vs) : ∀ {ms : List Int}, IntsAre vs ms -> ∃ ms', IntsAre vs' ms' /\ ms'.Perm ms:=by
  induction p with
  | nil=>intro ms h; exact ⟨ms, h, .refl _⟩
  | cons x _ ih=>
    intro ms h
    cases h with
    | cons n t h=>obtain ⟨m, a, b⟩:=ih h; exact ⟨n :: m, .cons n t a, b.cons _⟩
  | swap x y l=>
    intro ms h
    cases h with
    | cons n t h=>cases h with
      | cons m u h=>exact ⟨_, .cons m u (.cons n t h), .swap ..⟩
  | trans _ _ ih1 ih2=>
    intro ms h
    obtain ⟨m, a, b⟩:=ih2 h
    obtain ⟨m', a', b'⟩:=ih1 a
    exact ⟨m', a', b'.trans b⟩
noncomputable def dd (l : List Int) : List Int:=l.foldl step_dedup []
structure SCore (prog : Program) (w : World) (es : Array (Int × Value)) (t : SetTable) (ns : List Int) : Prop where
  el : ElemsOf (intKind prog w) es.toList
  pm : ∃ ms, IntsAre (es.toList.map (·.2)) ms /\ ms.Perm ns
  sz : es.size < scanBound
  fit : t.fits es.size = true
  tok : TOk t (!w.params.followText "set-order")
noncomputable def Iq (prog : Program) (w : World) (h : Heap) (a : Addr) (ns : List Int) : Prop:=
  ∃ o es ep t, h.get? a = some o /\ o.ExactSet /\ o.data = .set es ep t /\ SCore prog w es t ns
section
variable {prog : Program} {w : World} {A : Around} {E : Value -> Shared -> Prop} {s : Shared} {a : Addr} {ns : List Int}
theorem SCore.len {es : Array (Int × Value)} {t : SetTable} (c : SCore prog w es t ns) : es.size = ns.length:=by
  obtain ⟨ms, a, b⟩:=c.pm
  rw [← b.length_eq, ← IntsAre.length a, List.length_map, Array.length_toList]
theorem SCore.mem {es : Array (Int × Value)} {t : SetTable} (c : SCore prog w es t ns) (k : Int) : (∃ e ∈ es.toList, Value.isInt k e.2 = true) ↔ k ∈ ns:=by
  obtain ⟨ms, a, b⟩:=c.pm
  rw [← b.mem_iff, ← CD a k]
  constructor
  . rintro ⟨e, h, z⟩; exact ⟨e.2, List.mem_map_of_mem h, z⟩
  . rintro ⟨v, h, z⟩
    obtain ⟨e, h1, rfl⟩:=List.mem_map.mp h
    exact ⟨e, h1, z⟩
theorem SCore.perm {es es' : Array (Int × Value)} {t t' : SetTable} (c : SCore prog w es t ns) (p : es'.toList.Perm es.toList) (f : t'.fits es'.size = true) (k : TOk t' (!w.params.followText "set-order")) : SCore prog w es' t' ns:=by
  obtain ⟨ms, a, b⟩:=c.pm
  obtain ⟨m, a', b'⟩:=Dk (p.map (·.2)) a
  have e : es'.size = es.size:=by rw [← Array.length_toList, p.length_eq, Array.length_toList]
  exact ⟨c.el.perm p, ⟨m, a', b'.trans b⟩, by rw [e]; exact c.sz, f, k⟩
theorem Iq.put {h : Heap} {o : Obj} {es es' : Array (Int × Value)} {ep : Nat} {t t' : SetTable} (ho : h.get? a = some o) (hx : o.ExactSet) (hd : o.data = .set es ep t) :
    (h.update a (Obj.putSet es' t')).get? a = some { o with data:=.set es' (ep + 1) t' } /\ (SCore prog w es' t' ns -> Iq prog w (h.update a (Obj.putSet es' t')) a ns):=by
  have g:=Heap.get?_update_self (Obj.putSet es' t') ho (by rw [putSet_of es' t' hd]; rfl)
  rw [putSet_of es' t' hd] at g
  exact ⟨g, fun c=>⟨_, _, _, _, g, hx, rfl, c⟩⟩
end
end L2
namespace L2
open PySem PySem.Spec PyProof.Rows
section
variable {prog : Program} {w : World} {A : Around} {E : Value -> Shared -> Prop} {s : Shared}
theorem Iq.at {h h' : Heap} {a : Addr} {ns : List Int} (x : Iq prog w h a ns) (k : ∀ o, h.get? a = some o -> h'.get? a = some o) : Iq prog w h' a ns:=
  let ⟨o, es, ep, t, ho, r⟩:=x; ⟨o, es, ep, t, k o ho, r⟩
end
end L2
namespace L2
open PySem PySem.Spec PyProof.Rows
section
variable {M : Model} {A : Around} {E : Value -> Shared -> Prop} {s : Shared}
end
section
variable {prog : Program} {w : World} {A : Around} {E : Value -> Shared -> Prop} {s : Shared} {a : Addr} {o : Obj} {es : Array (Int × Value)} {ep : Nat} {t : SetTable}
end
end L2
namespace L2
open PySem PySem.Spec PyProof.Rows
section
variable {prog : Program} {w : World} {A : Around} {E : Value -> Shared -> Prop} {s : Shared} {a I tp : Addr} {o : Obj} {es : Array (Int × Value)} {ep : Nat} {t : SetTable} {L : List (Int × Value)}
inductive SMode (w : World) (a : Addr) (es : Array (Int × Value)) (ep : Nat) (t : SetTable) (tp : Addr) (L : List (Int × Value)) (h : Heap) (i : Nat) : Value -> Prop
  | text (sl : Nat) (hT : w.params.followText "set-order" = true) (hL : L = (pickOrder (w.params.setOrder a ep) es).toList) : SMode w a es ep t tp L h i (.int sl 0)
  | plain (sl : Nat) (hT : w.params.followText "set-order" = false) (hp : (!t.plain && decide (es.size > 1)) = false) (hL : L = es.toList) (hb : SetTable.below t.place sl = i) : SMode w a es ep t tp L h i (.int sl 0)
  | drawn (ps : List Nat) (hg : h.get? tp = some { cls:=.type "tuple", data:=.seq (ps.map fun i=>Value.int (i : Nat) 0).toArray }) (hn : ps.length = L.length) (hL : ∀ (i : Nat) pl, ps[i]? = some pl -> L[i]? = es[pl]?) : SMode w a es ep t tp L h i (.ref tp)
structure SIt (w : World) (I a : Addr) (es : Array (Int × Value)) (ep : Nat) (t : SetTable) (tp : Addr) (L : List (Int × Value)) (o : Obj) (i : Nat) (h : Heap) : Prop where
  it : ∃ ob first, h.get? I = some ob /\ ob.cls = .type "set_iterator" /\ ob.data = .fields #[first, .int i 0, .ref a, .int es.size 0, .int ep 0] /\ SMode w a es ep t tp L h i first
  st : h.get? a = some o
theorem SMode.at {h h' : Heap} {i : Nat} {v : Value} (m : SMode w a es ep t tp L h i v) (k : ∀ o, h.get? tp = some o -> h'.get? tp = some o) : SMode w a es ep t tp L h' i v:=by
  cases m with
  | text sl hT hL=>exact .text sl hT hL
  | plain sl hT hp hL hb=>exact .plain sl hT hp hL hb
  | drawn ps hg hn hL=>exact .drawn ps (k _ hg) hn hL
end
end L2
namespace L2
open PySem PySem.Spec PyProof.Rows
section
variable {prog : Program} {w : World} {A : Around} {E : Value -> Shared -> Prop} {s : Shared} {a I tp : Addr} {o : Obj} {es : Array (Int × Value)} {ep : Nat} {t : SetTable} {L : List (Int × Value)} {ns : List Int}
theorem SIt.frame {i : Nat} {h h' : Heap} (x : SIt w I a es ep t tp L o i h) (k : ∀ b ∈ [I, a, tp], ∀ o, h.get? b = some o -> h'.get? b = some o) : SIt w I a es ep t tp L o i h':=by
  obtain ⟨⟨ob, f, h1, h2, h3, m⟩, h4⟩:=x
  exact ⟨⟨ob, f, k I (by simp) _ h1, h2, h3, m.at fun o e=>k tp (by simp) o e⟩, k a (by simp) _ h4⟩
end
section
variable {X : Cx}
end
end L2
namespace L2
open PySem PySem.Spec PyProof.Rows
section
variable {K : PySem.W.Frag} {Er : Exc -> Hp -> Prop} {S : SC} {OO : List (List Xz)} {σ : St}
variable {u : TS} {α γ ρ ι : Type}
variable {β : Type} {Fd : Ends -> β -> Hp -> Prop} [fd : FdOk Fd]
end
section
variable {α β γ : Type}
end
section
variable {K : PySem.W.Frag} {Er : Exc -> Hp -> Prop} {S : SC} {OO : List (List Xz)} {σ : St} {α1 α2 α3 α4 ρ : Type} {mg : Str -> Option Value} {E : XK}
end
end L2
namespace L2
open PySem PySem.Spec PyProof.Rows
section
variable {X : Cx} {tg : Expr}
noncomputable def BI (K : PySem.W.Frag) : R2:=fun x y H Q=>∃ a b xs ys, x = .ref a /\ y = .ref b /\ SqT K H a xs /\ SqT K H b ys /\ ys ≠ [] /\ xs.length + ys.length <= sizeLine /\
  (xs = [] -> Q (.ref b) H) /\ (xs ≠ [] -> ∀ p, H p = none -> Q (.ref p) (upd H p (.tup (xs ++ ys))))
theorem CL (K : PySem.W.Frag) (hK : X.K = K) : OpR X (binaryOp .Add) (BI K):=by
  subst hK
  intro pins s σ H x y v u Q I rx ry h
  obtain ⟨a, b, xs, ys, e1, e2, ha, hb, hy, hz, q1, q2⟩:=h
  by_cases hx : xs = []
  . subst e1 e2
    cases rx
    cases ry
    obtain ⟨its, r1, p1, _⟩:=I.tuple ha
    obtain ⟨its2, r2, p2, _⟩:=I.tuple hb
    obtain ⟨⟨cls, dd, data, sl⟩, ho, hc, n, hd⟩:=id p1
    obtain ⟨⟨cls2, dd2, data2, sl2⟩, ho2, hc2, n2, hd2⟩:=id p2
    simp only at hc hd hc2 hd2
    subst hc hd hc2 hd2
    have e0 : its = []:=r1.nil_iff.mpr hx
    exact concat_meets ⟨_, ho, rfl⟩ ⟨_, ho2, rfl⟩ noFill_tuple_add seq_tuple_add PySem.F.slot_tuple_add PySem.F.entry_tuple_add (PySem.F.args_tuple_add_2 _ _)
      (tuple_addW0 a b its.toArray its2.toArray n n2 dd dd2 sl sl2 (by simp [e0])) ⟨ho, ho2, ⟨.ref b, H, I, rfl, q1 hx⟩⟩
  . exact E9 pins s σ H x y v u Q I rx ry ⟨a, b, xs, ys, e1, e2, ha, hb, hx, hz, fun z=>absurd z hy, fun _=>q2 hx⟩
noncomputable def LA (lo : Int) (n : Nat) : It:=⟨fun i _=>i < n, fun i H x H'=>H' = H /\ x = .int (lo - i), fun i _=>n <= i⟩
theorem Db {P : Program} {w : World} {K : PySem.W.Frag} {tg : Expr} (it : Addr) (lo : Int) (n : Nat) : Turn P w K tg (LA lo n) [it] it (fun i h=>IsRangeIter h it (lo + (i : Nat) * -1) ((n : Int) - (i : Nat)) (-1)) where
  mem:=by simp
  obj:=fun i h st b hb=>by
    have e : b = it:=by simpa using hb
    subst e
    exact ⟨_, st, fun v z=>by
      have z' : Data.fields _ = Data.cell v:=z
      cases z'⟩
  keep:=fun i h h' st k=>k it (by simp) _ st
  item:=by
    intro X hP hw hK hc i pins s σ H E I hf st hg
    subst hP hw hK
    obtain ⟨f0, f1, f2, f3, f4, f5⟩:=hf it (by simp)
    have W:=Walks.range (prog:=X.prog) (w:=X.w) (I.ok.hd hc) it lo (-1) n
    refine W.item i s _ _ hg st fun v h' tk hv st' kk=>?_
    obtain ⟨t, rfl⟩:=hv
    have I1 : Inv X pins σ H { s with heap:=h', toks:=tk }:=I.turned (fun b o hb e=>kk b o (by simpa using hb) e) f0 f1 f3 f4 f5
    refine ⟨_, rfl, EQ (s:={ s with heap:=h', toks:=tk }) (n:="range_iterator") st' rfl rfl (by decide) ⟨.int (lo - i), H, I1, ⟨t, ?_⟩, ⟨rfl, rfl⟩, st', fun b hb=>(hf b hb).1⟩⟩
    rw [show lo + (i : Int) * -1 = lo - i by omega]
  done:=by
    intro X hP hw hK hc i pins s σ H E I hf st hg
    subst hP hw hK
    obtain ⟨f0, f1, f2, f3, f4, f5⟩:=hf it (by simp)
    exact wpAny_pyNext_range_end (I.ok.hd hc) st (by have : n <= i:=hg; omega) fun h' eb=>⟨rfl, I.turned (t':=s.toks) (fun b o hb e=>eb b o hb e) f0 f1 f3 f4 f5⟩
  self:=fun _ _ _ _ _ st h=>wpAny_pyIter_rangeiter st h
theorem QI (a b : Int) : Builtin.Range.rangeSize a b (-1) = if b < a then a - b else 0:=by
  unfold Builtin.Range.rangeSize
  simp only [show ¬ (-1 : Int) > 0 by decide, if_false, Int.neg_neg, Int.ediv_one]
  split <;> omega
theorem GZ {a b : Int} (ha : -(2 ^ 62) <= a) (ha' : a < 2 ^ 62) (hb : -(2 ^ 62) <= b) (hb' : b < 2 ^ 62) : Builtin.Range.small a b (-1) = true:=by
  unfold Builtin.Range.small
  rw [QI]
  simp only [Builtin.Range.rangeFitsLong, Bool.and_eq_true, Bool.or_eq_true, decide_eq_true_eq, beq_iff_eq, show ¬ (-1 : Int) > 0 by decide, if_false]
  split <;> omega
noncomputable def Ie (ta : TA) : TI:=fun σ H R=>ta σ H fun vs H1=>∃ i j : Int, vs = [.int i, .int j, .int (-1)] /\ (-(2 ^ 62) <= i /\ i < 2 ^ 62 /\ -(2 ^ 62) <= j /\ j < 2 ^ 62) /\ R (LA i (i - j).toNat) H1
theorem BS {pins : List (Addr × Obj)} {σ : St} {H : Hp} {s : Shared} {R : It -> Hp -> Prop} {E : Value -> Shared -> Prop} {lo hi : Int} {t u v : Tok} {tk : Nat} (I : Inv X pins σ H s) (h1 : -(2 ^ 62) <= lo) (h2 : lo < 2 ^ 62) (h3 : -(2 ^ 62) <= hi) (h4 : hi < 2 ^ 62)
    (q : R (LA lo (lo - hi).toNat) H) : wpAny (model X.prog X.w) X.A (pyIter (.ref s.heap.objs.size)) (PIE X pins σ tg R) E { s with heap:=s.heap.push { cls:=.type "range", data:=.fields #[.int lo t, .int hi u, .int (-1) v] }, toks:=tk }:=by
  refine wpAny_pyIter_range (IsRange.new ..) (GZ h1 h2 h3 h4) ?_
  have I1 : Inv X pins σ H { s with heap:=s.heap.push { cls:=.type "range", data:=.fields #[.int lo t, .int hi u, .int (-1) v] }, toks:=tk }:=I.kept fun b o e=>Heap.get?_push_of_some _ e
  refine ⟨(s.heap.push { cls:=.type "range", data:=.fields #[.int lo t, .int hi u, .int (-1) v] }).objs.size, [(s.heap.push { cls:=.type "range", data:=.fields #[.int lo t, .int hi u, .int (-1) v] }).objs.size], _, _, H, rfl,
    I1.kept (t':=tk) fun b o e=>Heap.get?_push_of_some _ e, Db _ lo (lo - hi).toNat, ?_, fun b hb=>?_, q⟩
  . have e1 : lo + ((0 : Nat) : Int) * -1 = lo := by simp
    have e2 : (((lo - hi).toNat : Nat) : Int) - ((0 : Nat) : Int) = Builtin.Range.rangeSize lo hi (-1):=by rw [QI]; split <;> omega
    show IsRangeIter _ _ (lo + ((0 : Nat) : Int) * -1) ((((lo - hi).toNat : Nat) : Int) - ((0 : Nat) : Int)) (-1)
    rw [e1, e2]
    exact Heap.get?_push_size _ rfl
  . have e : b = (s.heap.push { cls := .type "range", data := .fields #[.int lo t, .int hi u, .int (-1) v] }).objs.size := by simpa using hb
    subst e
    exact I1.fpOk (Nat.le_refl _) (I1.hok.fresh (Nat.le_refl _))
theorem DP {a b c : Expr} {ta : TA} {p pos : Pos} (hg : Gl X "range") (hm : X.mg "range" = none) (ha : PA X [a, b, c] ta) (hs : starEach [a, b, c] X.env = [(false, eval a X.env), (false, eval b X.env), (false, eval c X.env)]:=by rfl) (hs2 : starEach [b, c] X.env = [(false, eval b X.env), (false, eval c X.env)]:=by rfl) :
    PI X tg (.Call (.Name "range" p) [a, b, c] [] pos) (Ie ta):=by
  intro pins s σ H R I h
  refine Call_ (Jv I hg hm boot_range (PyProof.Rows.callWith_type1 (thn (ha pos pins s σ H _ I h) fun us s1 ⟨vs, H1, I1, r1, q1⟩=>?_) (by rw [hs, hs2]) (by rw [hs2]; rfl)))
  obtain ⟨i, j, e, ⟨q1, q2, q3, q4⟩, q⟩:=q1
  subst e
  cases r1 with
  | cons r rr=>
    cases rr with
    | cons r' rr=>
      cases rr with
      | cons r'' rr=>
        cases rr
        obtain ⟨t, rfl⟩:=r
        obtain ⟨t', rfl⟩:=r'
        obtain ⟨t'', rfl⟩:=r''
        exact call_range_3 (by decide) (BS I1 q1 q2 q3 q4 q) (.inl (PyProof.noPylong_of_log2 (by decide +kernel)))
end
end L2
namespace L2
open PySem PySem.Spec PyProof.Rows
section
variable {K : PySem.W.Frag} {Er : Exc -> Hp -> Prop} {S : SC} {OO OO' : List (List Xz)} {σ : St} {α β γ : Type}
theorem CQ {ta tb : TE} {r : Enc α} [z : MonoE r] {ma mb : Res (List α)} (ha : EvB K Er S OO σ ta (rPL r) ma) (hb : EvB K Er S OO σ tb (rPL r) mb) : EvB K Er S OO σ (tOp (BI K) ta tb) (rPL r) (ma.bind fun as=>mb.bind fun bs=>chk (0 < bs.length /\ as.length + bs.length <= sizeLine) (.ok (as ++ bs))):=fun H Q w s P=>
  ha.run w s FB.tr P fun as x H1 s1 w1 q1 ⟨p, xs, e, q, pr⟩ P1=>hb.run w1 q1 FB.tr P1 fun bs y H2 s2 w2 q2 ⟨p', ys, e', q', pr'⟩ P2=>by
    obtain ⟨⟨h1, h2⟩, P3⟩:=PZ.chk P2
    have hl:=Paired.len pr
    have hl':=Paired.len pr'
    have pr2 : Paired (r K H2) xs as:=Paired.imp2 (fun _ _ h=>z.mono s2 h) pr
    refine ⟨p, p', xs, ys, e, e', SqT.of (s2 _ _ q), SqT.of q', fun z=>by rw [z] at hl'; simp at hl'; omega, by rw [hl, hl']; exact h2, fun hz=>?_, fun _ a ha=>P3 _ _ (XL ha _) ⟨a, _, rfl, YA, Paired.imp2 (fun _ _ h=>z.mono (XL ha _) h) (Paired.app pr2 pr')⟩⟩
    subst hz
    have ha : as = []:=List.length_eq_zero_iff.mp (by rw [← hl]; rfl)
    subst ha
    exact P3 _ H2 (Xr.refl _) ⟨p', ys, rfl, q', pr'⟩
noncomputable def UY (lo hi : Int) : List Int:=(List.range (lo - hi).toNat).map fun (i : Nat)=>lo - (i : Int)
theorem GM {lo hi : Int} {i : Nat} {a : Int} (h : (UY lo hi)[i]? = some a) : a = lo - i /\ i < (lo - hi).toNat:=by
  unfold UY at h
  rw [List.getElem?_map] at h
  rcases Nat.lt_or_ge i (lo - hi).toNat with q | q
  . rw [List.getElem?_range q] at h; exact ⟨(Option.some.inj h).symm, q⟩
  . rw [List.getElem?_eq_none (by simpa using q)] at h; cases h
theorem GV {lo hi : Int} : (UY lo hi).length = (lo - hi).toNat:=by simp [UY]
noncomputable def LS (lo hi st : Int) : Res (List Int):=chk (st = -1 /\ -(2 ^ 62) <= lo /\ lo < 2 ^ 62 /\ -(2 ^ 62) <= hi /\ hi < 2 ^ 62) (.ok (UY lo hi))
theorem KM {ta tb tc : TE} {ma mb mc : Res Int} (ha : EvB K Er S OO σ ta Xb ma) (hb : EvB K Er S OO σ tb Xb mb) (hc : EvB K Er S OO σ tc Xb mc) : Walk K Er S OO σ (Ie (XB ta (XB tb (XB tc Zx)))) Xb (ma.bind fun lo=>mb.bind fun n=>mc.bind fun st=>LS lo n st):=⟨fun {H R} w s P=>
  ha.run w s (fun as H H' s' h J H2 s2=>h J H2 (s'.trans s2)) P fun lo v H1 s1 w1 q1 r1 P1=>hb.run w1 q1 (fun as H H' s' h J H2 s2=>h J H2 (s'.trans s2)) P1 fun n v2 H2 s2 w2 q2 r2 P2=>hc.run w2 q2 (fun as H H' s' h J H2 s2=>h J H2 (s'.trans s2)) P2 fun st v3 H3 s3 w3 q3 r3 P3'=>by
    obtain ⟨c, hc, P3⟩:=P3'.okOf fun x=>Qa
    obtain ⟨⟨h0, h1⟩, h3⟩:=Y8 hc
    cases h3
    subst h0
    refine ⟨lo, n, by rw [show v = .int lo from r1, show v2 = .int n from r2, show v3 = .int (-1) from r3], h1, P3 _ H3 (Xr.refl _) (fun i a ha OO2 H4 w4 m4=>?_) fun OO2 H4 w4 m4=>?_⟩
    . obtain ⟨e1, e2⟩ := GM ha
      refine ⟨e2, fun x H5 ⟨e3, e4⟩=>?_⟩
      subst e3
      exact ⟨Xr.refl _, by rw [e4, e1]; rfl⟩
    . show (lo - n).toNat <= _
      rw [GV]; exact Nat.le_refl _⟩
theorem Ef {te : TE} {o1 : OE α} {o2 : OE γ} [z : MonoO o1] {m : Res (α × γ)} (he : Ev K Er S OO OO' σ te (oT2 o1 o2) m) : Ev K Er S OO OO' σ (tOp (Hi K) te (tC (.int 0))) o1 (m.bind fun p=>.ok p.1):=fun H Q w s P=>by
  refine he H _ w s ?_
  cases m with
  | bad=>exact P
  | err x=>exact P
  | ok a=>
    intro v C H1 s1 w1 m1 ⟨p, x', y, C1, C2, e, q, h1, h2, c⟩
    subst c
    have hs : Xr (hid H1 ((C1 ++ C2) :: OO')) (hid H1 (C1 :: OO')):=YB (Xr.refl _) fun b hb=>by
      rw [XE] at hb ⊢
      rw [List.map_append, List.append_assoc]
      rcases List.mem_append.mp hb with z | z
      . exact List.mem_append_left _ z
      . exact List.mem_append_right _ (List.mem_append_right _ z)
    have P2 : FO K OO OO' o1 Q a.1 H:=P
    refine ⟨p, _, 0, x', e, rfl, SqT.of (XG _ _ q), rfl, P2 x' C1 H1 s1 (w1.sub ?_) (m1.trans hs) (z.mono hs h1)⟩
    simp only [List.flatten_cons, List.append_assoc]
    exact List.Sublist.append_left (List.sublist_append_right _ _) _
theorem P3.reverse {δ : Type} {F : α -> γ -> δ -> Prop} : ∀ {l m n}, P3 F l m n -> P3 F l.reverse m.reverse n.reverse:=fun p=>by
  induction p with
  | nil=>exact .nil
  | cons r _ ih=>rw [List.reverse_cons, List.reverse_cons, List.reverse_cons]; exact ih.snoc r
variable {u : TS} {Fd : Ends -> β -> Hp -> Prop} [fd : FdOk Fd]
noncomputable def Eu (as : List α) : Res (α × List α):=match as.getLast? with
  | some a=>.ok (a, as.dropLast)
  | none=>.bad
theorem Ei {r : Enc α} [MonoE r] {f : α × List α -> Res β} {v : V} {as : List α} {C : List Xz} (x i k : Nat) (hσ : σ[i]? = some (some v)) (hk : OO[k]? = some C) (h : ∀ x, S.p x -> oL (oF r) K x v as C)
    (hr : ∀ a bs y C', Sv Er ((S.add K r y a).addO K (oL (oF r)) v bs C') (OO.set k C') (σ.set x (some y)) u Fd (f (a, bs))) : Sv Er S OO σ (ZX (B4 (LI K "list" LO (JR i)) (Z7 x)) u) Fd ((Eu as).bind f):=fun H D w s P=>by
  obtain ⟨p, xs, Cs, e, q, c⟩:=h _ s
  subst c e
  unfold Eu at P
  cases ha : as.getLast? with
  | none=>rw [ha] at P; exact P.elim
  | some a=>
    rw [ha] at P
    have hH : H p = some (.lst xs):=w.tr (p, .lst xs) (List.mem_flatten.mpr ⟨_, List.mem_of_getElem? hk, List.mem_cons_self⟩)
    have nd:=QP w.nil hk
    rw [List.append_nil] at nd
    obtain ⟨w3, m3⟩:=IR (D:=[]) (xs':=xs.dropLast) (Cs':=Cs.dropLast) w.nil hk (fun c hc=>List.mem_append_left _ ((Q5 Cs).subset hc)) (nd.sublist ((Q5 Cs).map _))
    rw [Yk] at m3
    rw [List.getLast?_eq_getElem?, ← q.len.1] at ha
    obtain ⟨y, c, hy, _, _, ry⟩:=P3.get q ha
    refine ⟨.ref p, hσ, .inl ⟨rfl, _, SqL.of hH⟩, p, xs, y, rfl, rfl, hH, hy, ?_⟩
    exact hr a as.dropLast y _ _ D w3 ⟨⟨S.mono _ _ m3 s, MonoE.mono m3 ry⟩, ⟨p, _, _, rfl, P3.imp (fun _ _ _ z=>MonoO.mono m3 z) q.dropLast, rfl⟩⟩ (PZ.tr (fd.tr D) m3 P)
end
end L2
namespace L2
open PySem PySem.Spec PyProof.Rows
section
variable {K : PySem.W.Frag} {Er : Exc -> Hp -> Prop} {S : SC} {OO : List (List Xz)} {σ : St} {α β γ ι : Type} {u : TS} {Fd : Ends -> β -> Hp -> Prop} [fd : FdOk Fd]
noncomputable def Jn.wR (J : Jn γ ι) (k : Nat) (R : List Xz) : Jn γ ι:={ oo:=fun x=>(J.oo x).set k R, ss:=J.ss, sc:=J.sc }
theorem BJ {k : Nat} {C : List Xz} (hk : OO[k]? = some []) : (OO.set k C).flatten.Perm (C :: OO).flatten:=by
  have hlt : k < OO.length:=(List.getElem?_eq_some_iff.mp hk).1
  have h1 : (OO.set k C)[k]? = some C:=by simp [hlt]
  have h2:=XF h1
  rw [List.set_set] at h2
  have h3 : OO.set k [] = OO:=by
    refine List.ext_getElem? fun i=>?_
    by_cases e : k = i
    . subst e; rw [hk]; simp [hlt]
    . simp [e]
  rw [h3] at h2
  exact h2.symm
theorem Dc {te : TE} {tb : TS} {o : OE α} [z : MonoO o] {m : Res (List α)} {body : γ -> α -> Res γ} {f : γ -> Res β} (J : Jn γ ι) (kx kr ix : Nat) (x0 : ι) (g0 : γ) (he : Ev K Er S OO OO σ te (oL o) m) (h1 : OO = J.oo x0) (h2 : σ = J.ss x0) (h3 : ∀ h, S.p h -> (J.sc g0 x0).p h)
    (hkx : ∀ x, (J.oo x)[kx]? = some []) (hkr : ∀ x, (J.oo x)[kr]? = some []) (hne : kr ≠ kx)
    (hb : ∀ R g x a v C, Sv Er ((J.sc g x).addO K o v a C) (((J.oo x).set kr R).set kx C) ((J.ss x).set ix (some v)) tb (FNd (J.wR kr R)) (body g a))
    (hr : ∀ g x, Sv Er (J.sc g x) (J.oo x) (J.ss x) u Fd (f g)) : Sv Er S OO σ (ZX (Cd (Vy K te) (Z7 ix) tb) u) Fd (m.bind fun as=>(forN as g0 body).bind f):=fun H D w s P=>by
  refine he H _ w s ?_
  cases em : m with
  | bad=>rw [em] at P; exact P
  | err x=>rw [em] at P; exact fun H' s'=>P H' (XG.trans s')
  | ok as=>
    rw [em] at P
    have P : PZ Er (Fd D) (hid H OO) ((forN as g0 body).bind f):=P
    intro v C H' s' w' m' ⟨p, xs, Cs, e, q, c⟩
    subst c e
    have hp':=w'.cell (p, .lst xs) List.mem_cons_self
    have hlen:=q.len
    let R : Nat -> List Xz:=fun i=>(p, HO.lst xs) :: (Cs.drop i).flatten
    have e0 : R 0 = (p, HO.lst xs) :: Cs.flatten:=by show _ :: (Cs.drop 0).flatten = _; rw [List.drop_zero]
    have pm0 : ∀ x i, ((J.oo x).set kr (R i)).flatten.Perm (R i :: J.oo x).flatten:=fun x i=>BJ (hkr x)
    have hin : ∀ {x i H2}, W ((J.oo x).set kr (R i)) H2 -> SqL K H2 p xs:=fun {x i H2} w2=>SqL.of ((w2.of (pm0 x i).symm).cell (p, .lst xs) List.mem_cons_self)
    refine ⟨p, rfl, ⟨xs, SqL.of hp'⟩, fun i mm σ' H2=>mm = as.length - i /\ i <= as.length /\ ∃ x gg, σ' = J.ss x /\ W ((J.oo x).set kr (R i)) H2 /\ Xr (hid H' (((p, HO.lst xs) :: Cs.flatten) :: OO)) (hid H2 ((J.oo x).set kr (R i))) /\ (J.sc gg x).p (hid H2 ((J.oo x).set kr (R i))) /\ PZ Er (Fd D) (hid H2 ((J.oo x).set kr (R i))) ((forN (as.drop i) gg body).bind f), ⟨as.length, rfl, Nat.zero_le _, x0, g0, h2, ?_⟩, ?_⟩
    . have pm : ((J.oo x0).set kr (R 0)).flatten.Perm (((p, HO.lst xs) :: Cs.flatten) :: OO).flatten := by rw [h1, ← e0]; exact pm0 x0 0
      rw [XD pm, List.drop_zero]
      exact ⟨w'.of pm, Xr.refl _, h3 _ (S.mono _ _ m' s), PZ.tr (fd.tr D) m' P⟩
    . rintro i mm σ' H2 ⟨rfl, hi, x, gg, rfl, w2, m2, sc2, P2⟩
      by_cases hlt : i < as.length
      . right
        have ha : as[i]? = some as[i]:=by simp [hlt]
        obtain ⟨y0, c0, hy0, hc0, ho0⟩:=P3.get q ha
        have hq:=hin w2
        refine ⟨⟨xs, y0, hq, hy0⟩, fun σ3 H3=>∃ x gg, σ3 = J.ss x /\ W ((J.oo x).set kr (R (i + 1))) H3 /\ Xr (hid H' (((p, HO.lst xs) :: Cs.flatten) :: OO)) (hid H3 ((J.oo x).set kr (R (i + 1)))) /\ (J.sc gg x).p (hid H3 ((J.oo x).set kr (R (i + 1)))) /\ PZ Er (Fd D) (hid H3 ((J.oo x).set kr (R (i + 1)))) ((forN (as.drop (i + 1)) gg body).bind f), fun σ3 H3 q=>⟨as.length - (i + 1), Nat.sub_lt_sub_left hlt (Nat.lt_succ_self i), rfl, hlt, q⟩, fun y H3 ⟨e3, hy⟩=>?_⟩
        subst e3
        have hyy:=hy xs hq
        rw [hy0] at hyy
        cases hyy
        have hkx2 : ((J.oo x).set kr (R (i + 1)))[kx]? = some []:=by rw [List.getElem?_set_ne hne]; exact hkx x
        have hcl : i < Cs.length:=(List.getElem?_eq_some_iff.mp hc0).1
        have hc1 : Cs[i] = c0:=(List.getElem?_eq_some_iff.mp hc0).2
        have pm : (((J.oo x).set kr (R (i + 1))).set kx c0).flatten.Perm ((J.oo x).set kr (R i)).flatten:=by
          refine (BJ hkx2).trans (List.Perm.trans ?_ (pm0 x i).symm)
          rw [List.flatten_cons]
          refine ((pm0 x (i + 1)).append_left c0).trans ?_
          show (c0 ++ (((p, HO.lst xs) :: (Cs.drop (i + 1)).flatten) :: J.oo x).flatten).Perm (((p, HO.lst xs) :: (Cs.drop i).flatten) :: J.oo x).flatten
          rw [List.drop_eq_getElem_cons hcl, hc1]
          simp only [List.flatten_cons, List.cons_append, List.append_assoc]
          exact List.perm_middle
        have w3:=w2.of pm
        have eh:=XD (H:=H3) pm
        refine hb (R (i + 1)) gg x as[i] y0 c0 H3 _ w3 ⟨by rw [eh]; exact sc2, by rw [eh]; exact z.mono m2 ho0⟩ ?_
        rw [eh]
        rw [List.drop_eq_getElem_cons hlt] at P2
        have P3 : PZ Er (Fd D) (hid H3 ((J.oo x).set kr (R i))) ((body gg as[i]).bind fun g'=>(forN (as.drop (i + 1)) g' body).bind f):=by rw [← XN]; exact P2
        cases eb : body gg as[i] with
        | bad=>rw [eb] at P3; exact P3
        | err x=>rw [eb] at P3; exact P3
        | ok g'=>
          rw [eb] at P3
          exact fun x' H4 w4 m4 sc4=>⟨x', g', rfl, w4, m2.trans m4, sc4, PZ.tr (fd.tr D) m4 P3⟩
      . left
        have e : i = as.length:=Nat.le_antisymm hi (Nat.not_lt.mp hlt)
        subst e
        have hs : Xr (hid H2 ((J.oo x).set kr (R as.length))) (hid H2 (J.oo x)):=by
          rw [XD (pm0 x as.length)]
          exact YB (Xr.refl _) fun b hb=>by rw [XE]; exact List.mem_append_right _ hb
        refine ⟨⟨xs, hin w2, by rw [hlen.1]; exact Nat.le_refl _⟩, hr gg x H2 D ((w2.of (pm0 x as.length).symm).tail) ((J.sc gg x).mono _ _ hs sc2) ?_⟩
        rw [List.drop_length] at P2
        exact PZ.tr (fd.tr D) hs P2
end
end L2
namespace L2
open PySem PySem.Spec PyProof.Rows
section
variable {K : PySem.W.Frag} {Er : Exc -> Hp -> Prop} {S : SC} {OO : List (List Xz)} {σ : St} {α β : Type}
end
end L2
namespace L2
open PySem PySem.Spec PyProof.Rows
noncomputable def ltG {α : Type} [DecidableEq α] (lt : α -> α -> Bool) : List α -> List α -> Bool
  | _, []=>false
  | [], _ :: _=>true
  | a :: as, b :: bs=>if a = b then ltG lt as bs else lt a b
noncomputable def L5 (A : Around) (s : Shared) (v u : Value) (b : Bool) : Prop:=
  ∀ (prog : Program) (w : World) (E : Value -> Shared -> Prop) (Q : Value -> Shared -> Prop), Q (.bool b) s -> wpAny (model prog w) A (richCompare .Lt v u) Q E s
structure LtOk {α : Type} (r : Enc α) (lt : α -> α -> Bool) (d : Nat) : Prop where
  at' : ∀ {X : Cx} {pins : List (Addr × Obj)} {σ : St} {H : Hp} {s : Shared} {x y : V} {v u : Value} {a b : α} {A : Around}, Inv X pins σ H s -> X7 x v -> X7 y u -> r X.K H x a -> r X.K H y b -> A.units + d < cLine -> L5 A s v u (lt a b)
noncomputable def ltI (a b : Int) : Bool:=decide (a < b)
theorem lt_int : LtOk Xb ltI 0:=⟨fun {X pins σ H s x y v u a b A} I rx ry h1 h2 _ prog w E Q q=>by
  have e1 : x = V.int a:=h1
  have e2 : y = V.int b:=h2
  subst e1 e2
  obtain ⟨t, rfl⟩:=rx
  obtain ⟨t', rfl⟩:=ry
  exact CmpOf.ints_lt (P:=fun j v=>∃ t, v = .int (if j = 0 then a else b) t) (fun j=>if j = 0 then a else b) (fun _ _ h=>h) 0 1 _ _ _ _ _ ⟨t, rfl⟩ ⟨t', rfl⟩ q⟩
section
variable {α : Type} [DecidableEq α] {r : Enc α} {lt : α -> α -> Bool} {d : Nat}
theorem Uo {as : List α} : ltG lt as [] = false:=by cases as <;> rfl
theorem Md (E : EqOk r d) (L : LtOk r lt d) {X : Cx} {pins : List (Addr × Obj)} {σ : St} {H : Hp} {s : Shared} (I : Inv X pins σ H s) {prog : Program} {w : World} {A : Around} {R : Result -> Shared -> Prop} {l b : Addr} {i1 i2 : List Value} {n m : Nat} {o1 o2 : Obj} (d1 : o1.data = .seq i1.toArray n) (d2 : o2.data = .seq i2.toArray m)
    {xs ys : List V} {as bs : List α} (v1 : X3 xs i1) (v2 : X3 ys i2) (p1 : Paired (r X.K H) xs as) (p2 : Paired (r X.K H) ys bs) (g1 : s.heap.get? l = some o1) (g2 : s.heap.get? b = some o2) (hu : A.units + (d + 1) < cLine) :
    ∀ (k i : Nat), as.length - i = k -> i <= as.length -> i <= bs.length -> R (.ok (.ret (.bool (ltG lt (as.drop i) (bs.drop i))))) s ->
    codeAny (model prog w) A (.builtin "list.__eq__.loop" ⟨[.ref l, .ref b, rawInt i, rawInt 0], []⟩) R s:=by
  have n1 : as.length = i1.length:=by rw [← Paired.len p1]; exact v1.length
  have n2 : bs.length = i2.length:=by rw [← Paired.len p2]; exact v2.length
  intro k
  induction k with
  | zero=>
    intro i hk hi1 hi2 q
    refine codeAny_builtin Vc ?_
    rw [Around.under_plainId ZT _]
    show wpAny _ A.in1 (Builtin.List.listItems (.ref l) >>= _) _ _ s
    refine wpAny_bind (wpAny_listItems g1 d1 (wpAny_bind (wpAny_listItems g2 d2 ?_)))
    rw [show ((i : Nat) : Int).toNat = i from rfl, show i1.toArray[i]? = none by simp; omega]
    refine wpAny_bind (wpAny_listItems g1 d1 (wpAny_bind (wpAny_listItems g2 d2 (wpAny_pure ?_))))
    have e : ltG lt (as.drop i) (bs.drop i) = decide (i1.toArray.size < i2.toArray.size):=by
      rw [List.drop_eq_nil_of_le (show as.length <= i by omega)]
      cases hd : bs.drop i with
      | nil=>
        have:=congrArg List.length hd
        simp at this
        rw [Uo, decide_eq_false (by simp; omega)]
      | cons x t=>
        have:=congrArg List.length hd
        simp at this
        exact (decide_eq_true (show i1.toArray.size < i2.toArray.size by simp; omega)).symm
    rw [e] at q
    exact q
  | succ k ih=>
    intro i hk hi1 hi2 q
    have lt1 : i < as.length:=by omega
    refine codeAny_builtin Vc ?_
    rw [Around.under_plainId ZT _]
    show wpAny _ A.in1 (Builtin.List.listItems (.ref l) >>= _) _ _ s
    refine wpAny_bind (wpAny_listItems g1 d1 (wpAny_bind (wpAny_listItems g2 d2 ?_)))
    rw [show ((i : Nat) : Int).toNat = i from rfl]
    have f1 : i1.toArray[i]? = some i1[i]:=by simp
    obtain ⟨x, ex, rx⟩:=Paired.getR (i:=i) (b:=i1[i]) v1 (by simp)
    obtain ⟨a, ea, ra⟩:=Paired.getL p1 ex
    have dx : as.drop i = a :: as.drop (i + 1):=by rw [List.drop_eq_getElem_cons lt1, ← (List.getElem?_eq_some_iff.mp ea).2]
    rw [f1]
    by_cases lt2 : i < bs.length
    . have f2 : i2.toArray[i]? = some i2[i] := by simp
      obtain ⟨y, ey, ry⟩:=Paired.getR (i:=i) (b:=i2[i]) v2 (by simp)
      obtain ⟨c, ec, rc⟩:=Paired.getL p2 ey
      have dy : bs.drop i = c :: bs.drop (i + 1):=by rw [List.drop_eq_getElem_cons lt2, ← (List.getElem?_eq_some_iff.mp ec).2]
      rw [dx, dy, ltG] at q
      rw [f2]
      show wpAny _ _ (eqBool i1[i] i2[i] >>= _) _ _ _
      refine wpAny_bind (E.eq (A:=A.in1) I rx ry ra rc (by rw [ZN]; omega) _ _ _ _ ?_)
      by_cases hac : a = c
      . rw [if_pos hac] at q
        rw [if_pos (by simpa using hac)]
        exact wpAny_pure ⟨plainId_quiet ZT _, ih (i + 1) (by omega) (by omega) (by omega) q⟩
      . rw [if_neg hac] at q
        rw [if_neg (by simpa using hac)]
        refine wpAny_bind (wpAny_listItems g1 d1 (wpAny_bind (wpAny_listItems g2 d2 ?_)))
        rw [f1, f2]
        show wpAny _ _ (richCompare .Lt i1[i] i2[i] >>= _) _ _ _
        exact wpAny_bind (L.at' (A:=A.in1) I rx ry ra rc (by rw [ZN]; omega) _ _ _ _ (wpAny_pure q))
    . rw [show i2.toArray[i]? = none by simp; omega]
      refine wpAny_bind (wpAny_listItems g1 d1 (wpAny_bind (wpAny_listItems g2 d2 (wpAny_pure ?_))))
      rw [List.drop_eq_nil_of_le (show bs.length <= i by omega), Uo, ← decide_eq_false (show ¬ i1.toArray.size < i2.toArray.size by simp; omega)] at q
      exact q
theorem Dq (E : EqOk r d) (L : LtOk r lt d) {X : Cx} {pins : List (Addr × Obj)} {σ : St} {H : Hp} {s : Shared} (I : Inv X pins σ H s) {prog : Program} {w : World} {A : Around} {Er : Value -> Shared -> Prop} {x y : V} {v u : Value} {as bs : List α} (rx : X7 x v) (ry : X7 y u) (h1 : rL r X.K H x as) (h2 : rL r X.K H y bs) (hu : A.units + (d + 1) < cLine) {Q : Value -> Shared -> Prop} (q : Q (.bool (ltG lt as bs)) s) :
    ∃ l b o1 o2, v = .ref l /\ u = .ref b /\ s.heap.get? l = some o1 /\ o1.cls = .type "list" /\ s.heap.get? b = some o2 /\ o2.cls = .type "list" /\ wpAny (model prog w) A (call (.builtin "list.__lt__") [.ref l, .ref b]) Q Er s:=by
  obtain ⟨l, xs, rfl, q1, p1⟩:=h1
  obtain ⟨b, ys, rfl, q2, p2⟩:=h2
  cases rx
  cases ry
  obtain ⟨i1, v1, ⟨o1, n1, g1, c1, _, d1⟩, _⟩:=I.list q1
  obtain ⟨i2, v2, ⟨o2, n2, g2, c2, _, d2⟩, _⟩:=I.list q2
  have me : Meets (Builtin.«list.__lt__» ⟨[.ref l, .ref b], []⟩) fun A' R s'=>s' = s /\ A'.units + (d + 1) < cLine /\ R (.ok (.ret (.bool (ltG lt as bs)))) s':=by
    rintro prog w A' R s' ⟨rfl, hu', q'⟩
    show wpAny _ _ (slotArgs "__lt__" 1 ⟨[.ref l, .ref b], []⟩ >>= _) _ _ _
    refine wpAny_bind (wpAny_pure (wpAny_bind (wpAny_isInstance ⟨_, g2, c2⟩ (by first | rfl | kernel_rfl) ?_)))
    rw [if_neg (by decide)]
    show wpAny _ _ (if (CmpOp.Lt == CmpOp.Eq || CmpOp.Lt == CmpOp.NotEq) = true then _ else _) _ _ _
    rw [if_neg (by decide)]
    exact wpAny_pure ⟨plainId_quiet ZT _, Md E L I d1 d2 v1 v2 p1 p2 g1 g2 hu' as.length 0 rfl (Nat.zero_le _) (Nat.zero_le _) (by simpa using q')⟩
  exact ⟨l, b, o1, o2, rfl, rfl, g1, c1, g2, c2, call_meets F.slot_list_lt ⟨_, g1, c1⟩ F.entry_list_lt (F.args_list_lt_2 _ _) me ⟨rfl, hu, q⟩⟩
theorem Gv (E : EqOk r d) (L : LtOk r lt d) : LtOk (rL r) (ltG lt) (d + 1):=⟨fun {X pins σ H s x y v u as bs A} I rx ry h1 h2 hu prog w Er Q q=>by
  obtain ⟨l, b, o1, o2, rfl, rfl, g1, c1, g2, c2, h⟩:=Dq E L I (prog:=prog) (w:=w) (A:=A) (Er:=Er) rx ry h1 h2 hu (Q:=fun v s'=>(∃ k, v = .bool k) /\ Q v s') ⟨⟨_, rfl⟩, q⟩
  exact B9 g1 c1 g2 c2 (by omega) h⟩
theorem LtOk.imp {q : Enc α} (L : LtOk r lt d) (h : ∀ {K : PySem.W.Frag} {H : Hp} {v : V} {a : α}, q K H v a -> r K H v a) : LtOk q lt d:=⟨fun I rx ry h1 h2 hu=>L.at' I rx ry (h h1) (h h2) hu⟩
theorem BV {q : Enc α} {K : PySem.W.Frag} {H : Hp} {v : V} {as : List α} (h : rV q K H v as) : rL q K H v as:=by
  obtain ⟨a, xs, e, q, p⟩:=h
  exact ⟨a, xs, e, SqL.of q, p⟩
end
end L2
namespace L2
open PySem PySem.Spec PyProof.Rows
section
variable {α : Type}
noncomputable def kp (kf : Value -> α) (d : α) (xs : Array Keyed) (i : Nat) : α:=(xs[i]?.map fun p=>kf p.1).getD d
theorem Bm {kf : Value -> α} {d : α} {xs ys : Array Keyed} {i j : Nat} (h : xs[i]? = ys[j]?) : kp kf d xs i = kp kf d ys j:=by unfold kp; rw [h]
structure Ord (lt : α -> α -> Bool) : Prop where
  irr : ∀ a, lt a a = false
  tr : ∀ {a b c}, lt a b = true -> lt b c = true -> lt a c = true
structure Asks (prog : Program) (w : World) (A : Around) (E : Value -> Shared -> Prop) (s : Shared) (lt : α -> α -> Bool) (kf : Value -> α) (d : α) (a0 : Array Keyed) : Prop extends Ord lt where
  ask : ∀ {st : SortSt} {i j : Nat} {Q : Option Bool -> SortSt -> Prop}, SBase a0 st -> i < a0.size -> j < a0.size -> Q (some (lt (kp kf d (arrOf st) i) (kp kf d (arrOf st) j))) st -> wpS (model prog w) A E s (ltAt' i j) Q st
  two : ∀ {st : SortSt} {i j : Nat}, SBase a0 st -> i < a0.size -> j < a0.size -> i ≠ j -> lt (kp kf d (arrOf st) i) (kp kf d (arrOf st) j) = true ∨ lt (kp kf d (arrOf st) j) (kp kf d (arrOf st) i) = true
variable {prog : Program} {w : World} {A : Around} {E : Value -> Shared -> Prop} {s : Shared} {lt : α -> α -> Bool} {kf : Value -> α} {d : α} {a0 : Array Keyed}
noncomputable def Ris (lt : α -> α -> Bool) (k : Nat -> α) (n : Nat) : Prop:=∀ i j, i < j -> j < n -> lt (k i) (k j) = true
noncomputable def Fal (lt : α -> α -> Bool) (k : Nat -> α) (n : Nat) : Prop:=∀ i j, i < j -> j < n -> lt (k j) (k i) = true
theorem Ris.more (O : Ord lt) {k : Nat -> α} {n : Nat} (h : Ris lt k n) (q : 0 < n -> lt (k (n - 1)) (k n) = true) : Ris lt k (n + 1):=fun i j hij hj=>by
  rcases Nat.lt_or_ge j n with z | z
  . exact h i j hij z
  . have e : j = n := by omega
    subst e
    rcases Nat.lt_or_ge i (j - 1) with y | y
    . exact O.tr (h i (j - 1) y (by omega)) (q (by omega))
    . rw [show i = j - 1 by omega]; exact q (by omega)
theorem Fal.more (O : Ord lt) {k : Nat -> α} {n : Nat} (h : Fal lt k n) (q : 0 < n -> lt (k n) (k (n - 1)) = true) : Fal lt k (n + 1):=fun i j hij hj=>by
  rcases Nat.lt_or_ge j n with z | z
  . exact h i j hij z
  . have e : j = n := by omega
    subst e
    rcases Nat.lt_or_ge i (j - 1) with y | y
    . exact O.tr (q (by omega)) (h i (j - 1) y (by omega))
    . rw [show i = j - 1 by omega]; exact q (by omega)
theorem Asks.other (L : Asks prog w A E s lt kf d a0) {st : SortSt} {i j : Nat} (B : SBase a0 st) (hi : i < a0.size) (hj : j < a0.size) (n : i ≠ j) (h : lt (kp kf d (arrOf st) i) (kp kf d (arrOf st) j) = false) : lt (kp kf d (arrOf st) j) (kp kf d (arrOf st) i) = true:=(L.two B hi hj n).resolve_left (by rw [h]; decide)
theorem BA (L : Asks prog w A E s lt kf d a0) {st : SortSt} {a m : Nat} {Q : AscSt -> SortSt -> Prop} (B : SBase a0 st) (hm : m <= a0.size) (h1 : 1 <= a) (ham : a <= m) (R : Ris lt (kp kf d (arrOf st)) a)
    (q : ∀ n, a <= n -> n <= m -> Ris lt (kp kf d (arrOf st)) n -> (n ≠ m -> lt (kp kf d (arrOf st) n) (kp kf d (arrOf st) (n - 1)) = true) -> Q (none, n) st) : wpS (model prog w) A E s (ascLoop a m) Q st:=by
  unfold ascLoop
  refine wpS_forRange (I:=fun x c t=>t = st /\ c = (none, x) /\ Ris lt (kp kf d (arrOf st)) x) ?_ ?_ ⟨rfl, rfl, R⟩
  . intro x c t hx hxm hI
    obtain ⟨rfl, rfl, R'⟩:=hI
    refine wpS_bind (L.ask B (by omega) (by omega) ?_)
    cases e : lt (kp kf d (arrOf t) x) (kp kf d (arrOf t) (x - 1)) with
    | true=>exact wpS_pure (q x hx (by omega) R' fun _=>e)
    | false=>exact wpS_pure ⟨rfl, rfl, R'.more L.toOrd fun _=>L.other B (by omega) (by omega) (by omega) e⟩
  . intro c t hI
    obtain ⟨rfl, rfl, R'⟩:=hI
    have e : max a m = m:=by omega
    rw [e] at R' ⊢
    exact q m ham (Nat.le_refl _) R' fun z=>absurd rfl z
theorem Ck (L : Asks prog w A E s lt kf d a0) {st : SortSt} {a m : Nat} {Q : DescSt -> SortSt -> Prop} (B : SBase a0 st) (hm : m <= a0.size) (h1 : 1 <= a) (ham : a <= m) (R : Fal lt (kp kf d (arrOf st)) a)
    (q : ∀ n, a <= n -> n <= m -> Fal lt (kp kf d (arrOf st)) n -> Q (none, n, 0) st) : wpS (model prog w) A E s (descLoop a m) Q st:=by
  unfold descLoop
  refine wpS_forRange (I:=fun x c t=>t = st /\ c = (none, x, 0) /\ Fal lt (kp kf d (arrOf st)) x) ?_ ?_ ⟨rfl, rfl, R⟩
  . intro x c t hx hxm hI
    obtain ⟨rfl, rfl, R'⟩:=hI
    show wpS _ _ _ _ (ltAt' x (x - 1) >>= _) _ _
    refine wpS_bind (L.ask B (by omega) (by omega) ?_)
    cases e : lt (kp kf d (arrOf t) x) (kp kf d (arrOf t) (x - 1)) with
    | true=>exact wpS_pure ⟨rfl, rfl, R'.more L.toOrd fun _=>e⟩
    | false=>
      show wpS _ _ _ _ (ltAt' (x - 1) x >>= _) _ _
      refine wpS_bind (L.ask B (by omega) (by omega) ?_)
      rw [L.other B (by omega) (by omega) (by omega) e]
      exact wpS_pure (q x hx (by omega) R')
  . intro c t hI
    obtain ⟨rfl, rfl, R'⟩:=hI
    have e : max a m = m:=by omega
    rw [e] at R' ⊢
    exact q m ham (Nat.le_refl _) R'
theorem FW {xs : Array Keyed} {n i : Nat} (hn : n <= xs.size) (hi : i < n) : kp kf d (mirror xs 0 n ((n - 0) / 2)) i = kp kf d xs (n - 1 - i):=by
  have e:=getElem?_mirror_all (i:=0) hn i
  rw [if_pos ⟨Nat.zero_le _, hi⟩, Nat.zero_add] at e
  exact Bm e
theorem HU (L : Asks prog w A E s lt kf d a0) {st : SortSt} {m : Nat} {Q : Option Nat -> SortSt -> Prop} (B : SBase a0 st) (hm : m <= a0.size) (h1 : 1 <= m)
    (q : ∀ n t, SBase a0 t -> n <= m -> Ris lt (kp kf d (arrOf t)) n -> Q (some n) t) : wpS (model prog w) A E s (countRun' 0 m) Q st:=by
  rw [countRun0_eq]
  refine wpS_bind (BA L B hm (Nat.le_refl 1) h1 (fun i j hij hj=>by omega) fun n hn hnm R z=>?_)
  show wpS _ _ _ _ (if (n == m) = true then _ else _) _ _
  by_cases e : n = m
  . subst e
    rw [if_pos (beq_self_eq_true n)]
    exact wpS_pure (q n st B (Nat.le_refl _) R)
  . rw [if_neg (by rw [beq_eq_false_iff_ne.mpr e]; decide)]
    have z:=z e
    by_cases g : n > 1
    . show wpS _ _ _ _ (if n > 1 then _ else _) _ _
      rw [if_pos g]
      show wpS _ _ _ _ (ltAt' 0 (n - 1) >>= _) _ _
      refine wpS_bind (L.ask B (by omega) (by omega) ?_)
      rw [show lt (kp kf d (arrOf st) 0) (kp kf d (arrOf st) (n - 1)) = true from R 0 (n - 1) (by omega) (by omega)]
      exact wpS_pure (q n st B hnm R)
    . have e1 : n = 1 := by omega
      subst e1
      show wpS _ _ _ _ (descPart 1 m) _ _
      unfold descPart
      refine wpS_bind (wpS_lift (wpAny_rule ⟨rfl, ?_⟩))
      have F2 : Fal lt (kp kf d (arrOf st)) 2:=Fal.more L.toOrd (n:=1) (fun i j hij hj=>by omega) fun _=>z
      refine wpS_bind (Ck L B hm (by omega) (by omega) F2 fun n hn2 hnm2 F=>?_)
      show wpS _ _ _ _ (tail3 n m) _ _
      unfold tail3
      refine wpS_bind (wpS_reverse ?_)
      have B2 : SBase a0 (setArr st (mirror (arrOf st) 0 n ((n - 0) / 2))):=B.setArr (mirror_perm _ _ _ _)
      have hsz : n <= (arrOf st).size:=by rw [B.size]; omega
      refine wpS_bind (BA L B2 hm (by omega) hnm2 (fun i j hij hj=>?_) fun k _ hk R2 _=>wpS_pure (q k _ B2 hk R2))
      show lt (kp kf d (mirror (arrOf st) 0 n ((n - 0) / 2)) i) (kp kf d (mirror (arrOf st) 0 n ((n - 0) / 2)) j) = true
      rw [FW hsz (by omega), FW hsz hj]
      exact F (n - 1 - j) (n - 1 - i) (by omega) (by omega)
theorem IL (O : Ord lt) {xs : Array Keyed} {k l : Nat} (hk : k < xs.size) (hl : l <= k) (R : Ris lt (kp kf d xs) k) (lo : ∀ i, i < l -> lt (kp kf d xs i) (kp kf d xs k) = true) (hi : ∀ i, l <= i -> i < k -> lt (kp kf d xs k) (kp kf d xs i) = true) : Ris lt (kp kf d (bubble xs k (k - l))) (k + 1):=by
  have g : ∀ p, kp kf d (bubble xs k (k - l)) p = if p = l then kp kf d xs k else if l < p /\ p <= k then kp kf d xs (p - 1) else kp kf d xs p:=fun p=>by
    have e:=getElem?_bubble hk (k - l) (by omega) p
    rw [show k - (k - l) = l by omega] at e
    by_cases h1 : p = l
    . rw [if_pos h1] at e ⊢; exact Bm e
    . rw [if_neg h1] at e ⊢
      by_cases h2 : l < p /\ p <= k
      . rw [if_pos h2] at e ⊢; exact Bm e
      . rw [if_neg h2] at e ⊢; exact Bm e
  intro i j hij hj
  rw [g, g]
  rcases Nat.lt_trichotomy i l with hi' | hi' | hi'
  . rw [if_neg (by omega), if_neg (by omega)]
    rcases Nat.lt_trichotomy j l with hj' | hj' | hj'
    . rw [if_neg (by omega), if_neg (by omega)]; exact R i j hij (by omega)
    . rw [if_pos hj']; exact lo i hi'
    . rw [if_neg (by omega), if_pos (by omega)]; exact R i (j - 1) (by omega) (by omega)
  . rw [if_pos hi', if_neg (by omega), if_pos (by omega)]; exact hi (j - 1) (by omega) (by omega)
  . rw [if_neg (by omega), if_pos (by omega), if_neg (by omega), if_pos (by omega)]; exact R (i - 1) (j - 1) (by omega) (by omega)
theorem II (L : Asks prog w A E s lt kf d a0) {st : SortSt} {n ok : Nat} {Q : Bool -> SortSt -> Prop} (B : SBase a0 st) (hn : n <= a0.size) (hok : ok <= n) (R : Ris lt (kp kf d (arrOf st)) ok)
    (q : ∀ t, SBase a0 t -> Ris lt (kp kf d (arrOf t)) n -> Q true t) : wpS (model prog w) A E s (binarySort' 0 n ok) Q st:=by
  rw [binarySort'_eq]
  simp only [Nat.zero_add]
  refine wpS_bind (wpS_mono (wpS_forRange (I:=fun k c t=>c = (none, ()) /\ SBase a0 t /\ Ris lt (kp kf d (arrOf t)) (if k <= n then k else n)) (Q:=fun c t=>c = (none, ()) /\ SBase a0 t /\ Ris lt (kp kf d (arrOf t)) n) ?_ ?_ ?_) ?_)
  . intro k c t hk hkn hI
    obtain ⟨rfl, Bt, Rt⟩:=hI
    rw [if_pos (Nat.le_of_lt hkn)] at Rt
    refine wpS_bind (wpS_mono (wpS_forRange (I:=fun x c u=>u = t /\ ∃ l r, c = (none, l, r) /\ l <= r /\ r <= k /\ r + x <= k + l /\ (∀ i, i < l -> lt (kp kf d (arrOf t) i) (kp kf d (arrOf t) k) = true) /\ (∀ i, r <= i -> i < k -> lt (kp kf d (arrOf t) k) (kp kf d (arrOf t) i) = true))
      (Q:=fun c u=>u = t /\ ∃ l, c = (none, l, l) /\ l <= k /\ (∀ i, i < l -> lt (kp kf d (arrOf t) i) (kp kf d (arrOf t) k) = true) /\ (∀ i, l <= i -> i < k -> lt (kp kf d (arrOf t) k) (kp kf d (arrOf t) i) = true)) ?_ ?_ ?_) ?_)
    . intro x c u _ hx hI
      obtain ⟨rfl, l, r, rfl, hlr, hrk, hm, lo, hi⟩:=hI
      by_cases hge : l ≥ r
      . have e : r = l := by omega
        subst e
        show wpS _ _ _ _ (if r ≥ r then _ else _) _ _
        rw [if_pos (Nat.le_refl _)]
        exact wpS_pure ⟨rfl, r, rfl, hrk, lo, hi⟩
      . show wpS _ _ _ _ (if l ≥ r then _ else _) _ _
        rw [if_neg hge]
        show wpS _ _ _ _ (ltAt' k ((l + r) / 2) >>= _) _ _
        refine wpS_bind (L.ask Bt (by omega) (by omega) ?_)
        cases e : lt (kp kf d (arrOf u) k) (kp kf d (arrOf u) ((l + r) / 2)) with
        | true=>
          refine wpS_pure ⟨rfl, l, (l + r) / 2, rfl, by omega, by omega, by omega, lo, fun i h1 h2=>?_⟩
          rcases Nat.eq_or_lt_of_le h1 with y | y
          . rw [← y]; exact e
          . exact L.tr e (Rt _ _ y h2)
        | false=>
          have e':=L.other Bt (by omega) (by omega) (by omega) e
          refine wpS_pure ⟨rfl, (l + r) / 2 + 1, r, rfl, by omega, by omega, by omega, fun i h1=>?_, hi⟩
          rcases Nat.eq_or_lt_of_le (Nat.le_of_lt_succ h1) with y | y
          . rw [y]; exact e'
          . exact L.tr (Rt _ _ y (by omega)) e'
    . intro c u hI
      obtain ⟨rfl, l, r, rfl, hlr, hrk, hm, lo, hi⟩:=hI
      have e : r = l:=by omega
      subst e
      exact ⟨rfl, r, rfl, hrk, lo, hi⟩
    . exact ⟨rfl, 0, k, rfl, by omega, by omega, by omega, fun i hi=>by omega, fun i h1 h2=>by omega⟩
    . intro c u hI
      obtain ⟨rfl, l, rfl, hlk, lo, hi⟩:=hI
      show wpS _ _ _ _ (moveDown' k l >>= _) _ _
      rw [moveDown'_eq]
      refine wpS_bind (wpS_modify (wpS_pure ⟨rfl, Bt.setArr (bubble_perm _ _ _), ?_⟩))
      rw [if_pos (show k + 1 <= n from hkn)]
      exact IL L.toOrd (by rw [Bt.size]; omega) hlk Rt lo hi
  . intro c t hI
    obtain ⟨hc, Bt, Rt⟩:=hI
    refine ⟨hc, Bt, ?_⟩
    have e : (if max (max ok 1) n <= n then max (max ok 1) n else n) = n:=by split <;> omega
    rwa [e] at Rt
  . refine ⟨rfl, B, fun i j hij hj => ?_⟩
    refine R i j hij ?_
    split at hj <;> omega
  . intro c t hI
    obtain ⟨rfl, Bt, Rt⟩:=hI
    exact wpS_pure (q t Bt Rt)
theorem Eg (L : Asks prog w A E s lt kf d a0) {st : SortSt} {Q : Unit -> SortSt -> Prop} (B : SBase a0 st) (h2 : 2 <= a0.size) (h64 : a0.size < 64)
    (q : ∀ t, (arrOf t).Perm a0 -> failedOf t = none -> Ris lt (kp kf d (arrOf t)) a0.size -> Q () t) : wpS (model prog w) A E s sortRuns' Q st:=by
  rw [sortRuns'_eq]
  refine wpS_bind (wpS_get ?_)
  have hmr : minRun' a0.size a0.size 0 = a0.size:=by
    cases e : a0.size with
    | zero=>omega
    | succ f=>rw [minRun'_succ, if_pos (by omega)]
  have hs:=B.size
  show wpS _ _ _ _ (forIn [0:(arrOf st).size] _ _ >>= _) _ _
  rw [hs, hmr]
  let Dn : SortSt -> Prop:=fun t=>(arrOf t).Perm a0 /\ failedOf t = none /\ pendingOf t = #[(0, a0.size, 0)] /\ Ris lt (kp kf d (arrOf t)) a0.size
  have fin : ∀ t, SBase a0 t -> Ris lt (kp kf d (arrOf t)) a0.size -> Dn (setPending t ((pendingOf t).push (0, a0.size, 0))):=fun t Bt Rt=>⟨Bt.perm, Bt.failed, by show (pendingOf t).push _ = _; rw [Bt.pend]; rfl, Rt⟩
  refine wpS_bind (wpS_mono (wpS_forRange (I:=fun x c t=>if x = 0 then c = (none, 0) /\ SBase a0 t else c = (none, a0.size) /\ Dn t) (Q:=fun c t=>c = (none, a0.size) /\ Dn t) ?_ ?_ ?_) ?_)
  . intro x c t _ hx hI
    by_cases hx0 : x = 0
    . rw [if_pos hx0] at hI
      obtain ⟨rfl, Bt⟩:=hI
      show wpS _ _ _ _ (if 0 ≥ a0.size then _ else _) _ _
      rw [if_neg (by omega)]
      refine wpS_bind (HU L Bt (by omega) (by omega) fun m u Bu hm Ru=>?_)
      have hb : ∀ v, SBase a0 v -> (pendingOf v).back? = none:=fun v Bv=>by rw [Bv.pend]; rfl
      by_cases hlt : m < a0.size
      . show wpS _ _ _ _ (if m < a0.size then _ else _) _ _
        rw [if_pos hlt]
        refine wpS_bind (wpS_lift (wpAny_rule ⟨rfl, ?_⟩))
        rw [Nat.sub_zero, Nat.min_self]
        refine wpS_bind (II L Bu (Nat.le_refl _) hm Ru fun v Bv Rv=>?_)
        show wpS _ _ _ _ (get >>= _) _ _
        refine wpS_bind (wpS_get ?_)
        rw [hb v Bv]
        refine wpS_bind (wpS_modify (wpS_pure ?_))
        show if x + 1 = 0 then _ else _
        rw [if_neg (by omega)]
        exact ⟨by rw [Nat.zero_add], fin v Bv Rv⟩
      . have e : m = a0.size := by omega
        subst e
        show wpS _ _ _ _ (if a0.size < a0.size then _ else _) _ _
        rw [if_neg hlt]
        refine wpS_bind (wpS_get ?_)
        rw [hb u Bu]
        refine wpS_bind (wpS_modify (wpS_pure ?_))
        show if x + 1 = 0 then _ else _
        rw [if_neg (by omega)]
        exact ⟨by rw [Nat.zero_add], fin u Bu Ru⟩
    . rw [if_neg hx0] at hI
      obtain ⟨rfl, D⟩:=hI
      show wpS _ _ _ _ (if a0.size ≥ a0.size then _ else _) _ _
      rw [if_pos (Nat.le_refl _)]
      exact wpS_pure ⟨rfl, D⟩
  . intro c t hI
    rw [if_neg (by omega)] at hI
    exact hI
  . rw [if_pos rfl]; exact ⟨rfl, B⟩
  . intro c t hI
    obtain ⟨rfl, D1, D2, D3, D4⟩:=hI
    refine wpS_bind (wpS_mono (wpS_forRange (I:=fun _ c u=>u = t /\ c = (none, ())) (Q:=fun c u=>u = t /\ c = (none, ())) ?_ (fun _ _ h=>h) ⟨rfl, rfl⟩) ?_)
    . intro x c u _ _ hI
      obtain ⟨rfl, rfl⟩:=hI
      refine wpS_bind (wpS_get ?_)
      rw [if_pos (by rw [D3]; exact Nat.le_refl 1)]
      exact wpS_pure ⟨rfl, rfl⟩
    . intro c u hI
      obtain ⟨rfl, rfl⟩:=hI
      exact wpS_pure (q _ D1 D2 D4)
end
end L2
namespace L2
open PySem PySem.Spec PyProof.Rows
section
variable {α β γ : Type}
theorem UJ {f : α -> β} {l' k : List β} (h : l'.Perm k) : ∀ {l : List α}, k = l.map f -> ∃ m : List α, m.Perm l /\ m.map f = l':=by
  induction h with
  | nil=>intro l e; cases l with
    | nil=>exact ⟨[], .nil, rfl⟩
    | cons a l=>cases e
  | cons x _ ih=>intro l e; cases l with
    | nil=>cases e
    | cons a l=>
      injection e with e1 e2
      obtain ⟨m, hm, em⟩:=ih e2
      exact ⟨a :: m, hm.cons a, by rw [List.map_cons, em, e1]⟩
  | swap x y t=>intro l e; cases l with
    | nil=>cases e
    | cons a l=>cases l with
      | nil=>cases e
      | cons b l=>
        injection e with e1 e2
        injection e2 with e2 e3
        exact ⟨b :: a :: l, .swap .., by rw [List.map_cons, List.map_cons, e1, e2, e3]⟩
  | trans _ _ ih1 ih2=>
    intro l e
    obtain ⟨m2, h2, e2⟩:=ih2 e
    obtain ⟨m1, h1, e1⟩:=ih1 e2.symm
    exact ⟨m1, h1.trans h2, e1⟩
structure OrdT (lt : α -> α -> Bool) : Prop extends Ord lt where
  tot : ∀ {a b}, a ≠ b -> lt a b = true ∨ lt b a = true
theorem Cp : OrdT ltI:=⟨⟨fun a=>by simp [ltI], fun h1 h2=>by simp only [ltI, decide_eq_true_eq] at *; omega⟩, fun h=>by simp only [ltI, decide_eq_true_eq]; omega⟩
section
variable [DecidableEq α] {lt : α -> α -> Bool}
theorem BB (O : OrdT lt) : ∀ {a b c : List α}, ltG lt a b = true -> ltG lt b c = true -> ltG lt a c = true
  | _, [], _, h, _=>by rw [Uo] at h; cases h
  | _, _ :: _, [], _, h=>by rw [Uo] at h; cases h
  | [], _ :: _, _ :: _, _, _=>rfl
  | a :: as, b :: bs, c :: cs, h1, h2=>by
    rw [ltG] at h1 h2 ⊢
    by_cases e1 : a = b
    . rw [if_pos e1] at h1
      by_cases e2 : b = c
      . rw [if_pos e2] at h2
        rw [if_pos (e1.trans e2)]
        exact BB O h1 h2
      . rw [if_neg e2] at h2
        rw [if_neg (by rw [e1]; exact e2), e1]; exact h2
    . rw [if_neg e1] at h1
      by_cases e2 : b = c
      . rw [if_neg (by rw [← e2]; exact e1), ← e2]; exact h1
      . rw [if_neg e2] at h2
        have h3:=O.tr h1 h2
        rw [if_neg (fun e=>by rw [e, O.irr] at h3; cases h3)]
        exact h3
theorem Dw : ∀ (a : List α), ltG lt a a = false
  | []=>rfl
  | a :: as=>by rw [ltG, if_pos rfl]; exact Dw as
theorem Fq (O : OrdT lt) : ∀ {a b : List α}, a ≠ b -> ltG lt a b = true ∨ ltG lt b a = true
  | [], [], h=>absurd rfl h
  | [], _ :: _, _=>.inl rfl
  | _ :: _, [], _=>.inr rfl
  | a :: as, b :: bs, h=>by
    rw [ltG, ltG]
    by_cases e : a = b
    . subst e
      rw [if_pos rfl, if_pos rfl]
      exact Fq O fun z=>h (by rw [z])
    . rw [if_neg e, if_neg (Ne.symm e)]; exact O.tot e
theorem UR (O : OrdT lt) : OrdT (ltG lt):=⟨⟨Dw, BB O⟩, Fq O⟩
end
noncomputable def Hg (lt : α -> α -> Bool) (a : α) : List α -> List α
  | []=>[a]
  | b :: l=>if lt a b = true then a :: b :: l else b :: Hg lt a l
noncomputable def UA (lt : α -> α -> Bool) (l : List α) : List α:=l.foldr (Hg lt) []
theorem J8 (lt : α -> α -> Bool) (a : α) : ∀ l, (Hg lt a l).Perm (a :: l)
  | []=>.refl _
  | b :: l=>by
    rw [Hg]
    split
    . exact .refl _
    . exact ((J8 lt a l).cons b).trans (.swap ..)
theorem Qw (lt : α -> α -> Bool) : ∀ l : List α, (UA lt l).Perm l
  | []=>.refl _
  | a :: l=>(J8 lt a _).trans ((Qw lt l).cons a)
theorem UQ {lt : α -> α -> Bool} (O : OrdT lt) {a : α} : ∀ {l : List α}, (∀ b ∈ l, a ≠ b) -> l.Pairwise (fun x y=>lt x y = true) -> (Hg lt a l).Pairwise fun x y=>lt x y = true
  | [], _, _=>List.pairwise_singleton ..
  | b :: l, hn, h=>by
    rw [List.pairwise_cons] at h
    rw [Hg]
    split
    . rename_i hab
      refine List.pairwise_cons.mpr ⟨fun c hc=>?_, List.pairwise_cons.mpr h⟩
      rcases List.mem_cons.mp hc with z | z
      . rw [z]; exact hab
      . exact O.tr hab (h.1 c z)
    . rename_i hab
      refine List.pairwise_cons.mpr ⟨fun c hc=>?_, UQ O (fun c hc=>hn c (List.mem_cons_of_mem _ hc)) h.2⟩
      rcases List.mem_cons.mp ((J8 lt a l).mem_iff.mp hc) with z | z
      . rw [z]; exact (O.tot (hn b List.mem_cons_self)).resolve_left hab
      . exact h.1 c z
theorem VJ {lt : α -> α -> Bool} (O : OrdT lt) : ∀ {l : List α}, l.Nodup -> (UA lt l).Pairwise fun x y=>lt x y = true
  | [], _=>.nil
  | a :: l, h=>by
    rw [List.nodup_cons] at h
    exact UQ O (fun b hb e=>h.1 ((Qw lt l).mem_iff.mp (e ▸ hb))) (VJ O h.2)
theorem Cj {lt : α -> α -> Bool} (O : OrdT lt) {a b : List α} (hn : b.Nodup) (h : a.Perm b) (r : a.Pairwise fun x y=>lt x y = true) : a = UA lt b:=
  List.Perm.eq_of_pairwise (le:=fun x y=>lt x y = true) (fun x y _ _ h1 h2=>by have:=O.tr h1 h2; rw [O.irr] at this; cases this) r (VJ O hn) (h.trans (Qw lt b).symm)
end
section
variable {prog : Program} {w : World} {A : Around} {E : Value -> Shared -> Prop} {s : Shared} {α : Type}
theorem J6 {β : Type} {f : Value -> Sem β} {c : β} : ∀ {vs : List Value} {Q : List β -> Shared -> Prop}, (∀ v ∈ vs, ∀ Q : β -> Shared -> Prop, Q c s -> wpAny (model prog w) A (f v) Q E s) -> Q (vs.map fun _=>c) s -> wpAny (model prog w) A (vs.mapM f) Q E s
  | [], Q, _, q=>by rw [List.mapM_nil]; exact wpAny_pure q
  | v :: vs, Q, h, q=>by
    rw [List.mapM_cons]
    refine wpAny_bind (h v List.mem_cons_self _ (wpAny_bind (J6 (fun u hu=>h u (List.mem_cons_of_mem _ hu)) (wpAny_pure q))))
theorem G3 {vs : List Value} {Q : SortKind -> Shared -> Prop} (hT : ∀ v ∈ vs, s.TypeIs v "list") (hne : vs ≠ []) (q : Q oneType' s) : wpAny (model prog w) A (keyKind' vs.toArray) Q E s:=by
  obtain ⟨v0, vr, rfl⟩:=List.exists_cons_of_ne_nil hne
  rw [keyKind'_eq, List.mapM_toArray]
  refine wpAny_bind (wpAny_map (J6 (c:=(none : Option Value)) (fun v hv Q q=>?_) ?_))
  . show wpAny _ _ (typeOf v >>= fun t => if (t != .type "tuple") = true then pure none else _) _ _ _
    refine wpAny_bind (wpAny_typeOf (hT v hv) ?_)
    rw [if_pos (by decide)]
    exact wpAny_pure q
  . rw [if_neg (by simp), if_neg (by simp), oneTypeOnly'_eq, List.mapM_toArray]
    refine wpAny_bind (wpAny_bind (wpAny_map (J6 (c:=Value.type "list") (fun v hv Q q=>wpAny_typeOf (hT v hv) q) ?_)))
    rw [show ((List.map (fun _=>Value.type "list") (v0 :: vr)).toArray)[0]? = some (Value.type "list") by simp]
    have hall : ((List.map (fun _=>Value.type "list") (v0 :: vr)).toArray.all fun x=>x == Value.type "list") = true:=by
      simp only [List.all_toArray, List.all_map, List.all_eq_true]
      intro _ _
      rfl
    simp only [hall, if_true]
    exact wpAny_pure (wpAny_pure q)
noncomputable def mid (h : Heap) (a : Addr) (vs : List Value) : Heap:=((h.update a (Obj.mapSeq fun _=>#[])).push (seqObj "tuple" vs.toArray 0)).push (seqObj "list" #[] 0)
theorem EM {h : Heap} {a b : Addr} {vs : List Value} {o : Obj} (hne : b ≠ a) (hb : h.get? b = some o) : (mid h a vs).get? b = some o:=by
  have hlt:=Heap.lt_size hb
  unfold mid
  rw [Heap.get?_push_ne _ _ _ (by rw [size_push', Heap.size_update]; exact Nat.ne_of_lt (Nat.lt_succ_of_lt hlt)), Heap.get?_push_ne _ _ _ (by rw [Heap.size_update]; exact Nat.ne_of_lt hlt), Heap.get?_update_ne _ _ _ _ hne]
  exact hb
theorem El {lt : α -> α -> Bool} {kf : Value -> α} {d : α} {a : Addr} {vs : List Value} {n : Nat} {Q : Fin -> Shared -> Prop} (ho : s.heap.get? a = some (seqObj "list" vs.toArray n)) (h64 : vs.length < 64)
    (hT : ∀ v ∈ vs, ({ s with heap:=mid s.heap a vs } : Shared).TypeIs v "list") (L : Asks prog w A E { s with heap:=mid s.heap a vs } lt kf d (pairsOf vs))
    (q : ∀ out : Array Keyed, out.Perm (pairsOf vs) -> Ris lt (kp kf d out) vs.length -> Q (.done (.ret .none)) { s with heap:=sortedHeap s.heap a vs (out.map (·.2)) }) :
    wpAny (model prog w) A (Builtin.«list.sort» ⟨[.ref a], []⟩) Q E s:=by
  rw [list_sort_plain]
  have hlt:=Heap.lt_size ho
  obtain ⟨e1, ho1⟩ : ∃ e, (s.heap.update a (Obj.mapSeq fun _=>#[])).get? a = some (seqObj "list" #[] e):=⟨_, get?_update_seq ho fun _=>#[]⟩
  have ho2 : (mid s.heap a vs).get? a = some (seqObj "list" #[] e1):=by
    unfold mid
    rw [Heap.get?_push_ne _ _ _ (by rw [size_push', Heap.size_update]; exact Nat.ne_of_lt (Nat.lt_succ_of_lt hlt)), Heap.get?_push_ne _ _ _ (by rw [Heap.size_update]; exact Nat.ne_of_lt hlt)]
    exact ho1
  refine wpAny_bind (listItems_at ho rfl (wpAny_bind (listUpdate_at ho rfl (wpAny_bind (seqEpoch_at ho1 rfl (wpAny_bind (wpAny_newTuple (wpAny_bind (wpAny_newList (wpAny_holding ?_))))))))))
  show wpAny (model prog w) A _ Q E { s with heap:=mid s.heap a vs }
  have tail : ∀ (st : SortSt), (arrOf st).Perm (pairsOf vs) -> failedOf st = none -> Ris lt (kp kf d (arrOf st)) vs.length -> wpAny (model prog w) A (do
      let touched:=(← seqEpoch a) != e1
      Builtin.List.listUpdate (.ref a) fun _=>(arrOf st).map (·.2)
      if let some e:=failedOf st then rule "list.sort.comparison-raised"; throw e
      if touched then rule "list.sort.modified"; raiseError "ValueError" "list modified during sort"
      ret .none) Q E { s with heap:=mid s.heap a vs }:=fun st hp hf hr=>by
    refine wpAny_bind (seqEpoch_at ho2 rfl (wpAny_bind (listUpdate_at ho2 rfl ?_ (hsz2:=?_))))
    . rw [hf]
      simp only [bne_self_eq_false, Bool.false_eq_true, if_false]
      exact wpAny_pure (q (arrOf st) hp hr)
    . have := hp.size_eq
      rw [pairsOf_size] at this
      rw [Array.size_map, this, sizeLine_eq]; omega
  have hsz : vs.toArray.size = vs.length:=List.size_toArray
  by_cases h2 : vs.toArray.size < 2
  . rw [if_pos h2, if_pos h2]
    refine wpAny_bind (wpAny_pure ?_)
    show wpAny _ _ ((pure () : StateT SortSt Sem Unit).run (SortSt.mk' general' (vs.toArray.zip vs.toArray) #[] 7 none) >>= _) _ _ _
    rw [StateT.run_pure]
    exact wpAny_bind (wpAny_pure (tail (SortSt.mk' general' (vs.toArray.zip vs.toArray) #[] 7 none) (Array.Perm.refl _) rfl fun i j hij hj=>by omega))
  . rw [if_neg h2, if_neg h2]
    refine wpAny_bind (G3 hT (fun e=>h2 (by rw [e]; decide)) ?_)
    refine wpAny_bind (wpAny_mono (Eg L (st:=SortSt.mk' oneType' (vs.toArray.zip vs.toArray) #[] 7 none) (Q:=fun _ st=>(arrOf st).Perm (pairsOf vs) /\ failedOf st = none /\ Ris lt (kp kf d (arrOf st)) vs.length) ⟨Array.Perm.refl _, rfl, rfl, rfl⟩ (by rw [pairsOf_size]; omega) (by rw [pairsOf_size]; exact h64) fun t a1 a2 a3=>⟨a1, a2, by rw [pairsOf_size] at a3; exact a3⟩) ?_ fun _ _ e=>e)
    intro p s' hh
    obtain ⟨⟨⟩, st⟩:=p
    obtain ⟨rfl, hp, hf, hr⟩:=hh
    exact tail st hp hf hr
end
section
variable {X : Cx} {β : Type} [DecidableEq β] {r : Enc β} {lt : β -> β -> Bool} {d : Nat}
noncomputable def BP (K : PySem.W.Frag) (r : Enc β) (lt : β -> β -> Bool) : List V -> Hp -> VK -> Prop:=fun xs H Q=>∃ l ys as, xs = [.ref l] /\ SqL K H l ys /\ Paired (rL r K H) ys as /\ as.Nodup /\ as.length < 64 /\
  ∀ p zs, H p = none -> (zs.zip (UA (ltG lt) as)).Perm (ys.zip as) -> zs.length = as.length -> Q (.ref p) (upd H p (.lst zs))
open Classical in
noncomputable def kfo (T : List (Value × V × List β)) (v : Value) : List β:=if h : ∃ t, t ∈ T /\ t.1 = v then (Classical.choose h).2.2 else []
theorem DY {T : List (Value × V × List β)} (hu : ∀ t u, t ∈ T -> u ∈ T -> t.1 = u.1 -> t.2.2 = u.2.2) {t : Value × V × List β} (ht : t ∈ T) : kfo T t.1 = t.2.2:=by
  have h : ∃ u, u ∈ T /\ u.1 = t.1:=⟨t, ht, rfl⟩
  unfold kfo
  rw [dif_pos h]
  exact hu _ _ (Classical.choose_spec h).1 ht (Classical.choose_spec h).2
theorem HN {F : Value -> V -> List β -> Prop} : ∀ {its : List Value} {ys : List V} {as : List (List β)} {G : V -> List β -> Prop}, Paired X7 ys its -> Paired G ys as -> (∀ v y a, X7 y v -> G y a -> F v y a) -> ∃ T : List (Value × V × List β), T.map (·.1) = its /\ T.map (fun t=>(t.2.1, t.2.2)) = ys.zip as /\ T.map (·.2.2) = as /\ ∀ t ∈ T, F t.1 t.2.1 t.2.2
  | _, _, _, _, .nil, .nil, _=>⟨[], rfl, rfl, rfl, fun t h=>nomatch h⟩
  | _, _, _, _, .cons r1 p1, .cons r2 p2, h=>by
    obtain ⟨T, e1, e2, e3, hT⟩:=HN p1 p2 h
    exact ⟨(_, _, _) :: T, by rw [List.map_cons, e1], by rw [List.map_cons, e2]; rfl, by rw [List.map_cons, e3], fun t ht=>(List.mem_cons.mp ht).elim (fun z=>z ▸ h _ _ _ r1 r2) (hT t)⟩
theorem Vl (E : EqOk r d) (L : LtOk r lt d) (O : OrdT lt) (K : PySem.W.Frag) (hK : X.K = K) (hu : X.A.units + (d + 3) < cLine) : Qc X (.builtin "sorted") (BP K r lt):=by
  subst hK
  intro pins s σ H xs us Q I rr h
  obtain ⟨l, ys, as, rfl, hq, hp, hnd, h64, q⟩:=h
  obtain ⟨u, rfl, ru⟩:=KH rr
  cases ru
  obtain ⟨its, rv, pl, hz⟩:=I.list hq
  obtain ⟨T, e1, e2, e3, hT⟩:=HN (F:=fun v y a=>X7 y v /\ rL r X.K H y a) rv hp fun v y a h1 h2=>⟨h1, h2⟩
  have hlen : its.length = as.length:=by rw [← e1, ← e3, List.length_map, List.length_map]
  have huq : ∀ t u, t ∈ T -> u ∈ T -> t.1 = u.1 -> t.2.2 = u.2.2:=fun t u ht hu' e=>by
    obtain ⟨r1, l1⟩:=hT t ht
    obtain ⟨r2, l2⟩:=hT u hu'
    obtain ⟨b1, z1, w1, m1⟩:=id l1
    obtain ⟨b2, z2, w2, m2⟩:=id l2
    rw [w1] at r1 l1
    rw [w2] at r2 l2
    have r1' : t.1 = .ref b1:=r1
    have r2' : u.1 = .ref b2:=r2
    rw [r1', r2'] at e
    cases e
    exact (DX E).uniq I l1 l2
  refine Calls.call_function_entry kind_sorted plain_sorted entry_sorted (args_sorted1 _) ?_
  unfold Builtin.«sorted»
  refine wpAny_bind (m:=checkCount "sorted" 1 1 _) (wpAny_pure (wpAny_bind (collect_list pl.isList (wpAny_bind (wpAny_newList ?_)) (by rw [hlen, sizeLine_eq]; omega))))
  let g0:=((s.heap.push (seqObj "list" #[] 0)).update s.heap.objs.size (Obj.mapSeq (· ++ its.toArray))).push (seqObj "list" its.toArray 0)
  have hsz : ((s.heap.push (seqObj "list" #[] 0)).update s.heap.objs.size (Obj.mapSeq (· ++ its.toArray))).objs.size = s.heap.objs.size + 1:=by rw [Heap.size_update, size_push']
  have hoL : g0.get? (s.heap.objs.size + 1) = some (seqObj "list" its.toArray 0):=by
    show (Heap.push _ _).get? _ = _
    rw [← hsz]; exact Heap.get?_push_size _ rfl
  have hold : ∀ b o, s.heap.get? b = some o -> g0.get? b = some o:=fun b o hb=>by
    have hlt:=Heap.lt_size hb
    show (Heap.push _ _).get? _ = _
    rw [Heap.get?_push_ne _ _ _ (by rw [hsz]; exact Nat.ne_of_lt (Nat.lt_succ_of_lt hlt)), Heap.get?_update_ne _ _ _ _ (Nat.ne_of_lt hlt), Heap.get?_push_ne _ _ _ (Nat.ne_of_lt hlt)]
    exact hb
  show wpAny _ _ _ _ _ { s with heap:=g0 }
  rw [hsz]
  have hne : ∀ {b o}, s.heap.get? b = some o -> b ≠ s.heap.objs.size + 1:=fun hb=>Nat.ne_of_lt (Nat.lt_succ_of_lt (Heap.lt_size hb))
  have I2 : Inv X pins σ H { s with heap:=mid g0 (s.heap.objs.size + 1) its, toks:=s.toks }:=I.kept fun b o hb=>EM (hne hb) (hold b o hb)
  have hitm : ∀ v, v ∈ its -> ∃ t, t ∈ T /\ t.1 = v:=fun v hv=>by rw [← e1] at hv; exact List.mem_map.mp hv
  have htyp : ∀ v ∈ its, ({ s with heap:=mid g0 (s.heap.objs.size + 1) its } : Shared).TypeIs v "list":=fun v hv=>by
    obtain ⟨t, ht, rfl⟩:=hitm v hv
    obtain ⟨r1, a, zs, w1, m1, _⟩:=hT t ht
    rw [w1] at r1
    have r1' : t.1 = .ref a:=r1
    obtain ⟨its', _, ⟨o, n, g1, c1, _, _⟩, _⟩:=I2.list m1
    rw [r1']
    exact ⟨o, g1, c1⟩
  have key : ∀ {st : SortSt} {i : Nat}, SBase (pairsOf its) st -> i < (pairsOf its).size -> ∃ t p, t ∈ T /\ (arrOf st)[i]? = some (t.1, p) /\ kp (kfo T) [] (arrOf st) i = t.2.2:=fun {st i} B hi=>by
    have hi' : i < (arrOf st).size:=by rw [B.size]; exact hi
    have hm : (arrOf st)[i] ∈ (pairsOf its).toList:=(Array.perm_iff_toList_perm.mp B.perm).mem_iff.mp (by simp)
    rw [pairsOf_toList] at hm
    obtain ⟨t, ht, e⟩:=hitm _ (mem_zip_self hm).2
    have eg : (arrOf st)[i]? = some (arrOf st)[i]:=getElem?_pos _ i hi'
    refine ⟨t, (arrOf st)[i].2, ht, by rw [eg, e], ?_⟩
    unfold kp
    rw [eg, Option.map_some, Option.getD_some, ← e]
    exact DY huq ht
  have keys : ∀ {st : SortSt}, SBase (pairsOf its) st -> ((arrOf st).toList.map fun p=>kfo T p.1).Perm as:=fun {st} B=>by
    have h1 : (arrOf st).toList.Perm (its.zip its):=by rw [← pairsOf_toList]; exact Array.perm_iff_toList_perm.mp B.perm
    have h2:=h1.map fun p=>kfo T p.1
    have h3 : (its.zip its).map (fun p=>kfo T p.1) = as:=by
      have : (its.zip its).map (fun p=>kfo T p.1) = ((its.zip its).map Prod.fst).map (kfo T):=by rw [List.map_map]; rfl
      rw [this, List.map_fst_zip (Nat.le_refl _), ← e1, ← e3, List.map_map]
      exact List.map_congr_left fun t ht=>DY huq ht
    rwa [h3] at h2
  have kat : ∀ {st : SortSt} {i : Nat} (hi : i < (arrOf st).size), kp (kfo T) [] (arrOf st) i = ((arrOf st).toList.map fun p=>kfo T p.1)[i]'(by simpa using hi):=fun {st i} hi=>by
    unfold kp
    rw [getElem?_pos (arrOf st) i hi]
    simp
  have OL:=UR O
  have LK : ∀ (A : Around) (Er : Value -> Shared -> Prop), A.units + (d + 1) < cLine -> Asks X.prog X.w A Er { s with heap:=mid g0 (s.heap.objs.size + 1) its } (ltG lt) (kfo T) [] (pairsOf its):=fun A Er hA=>{
    irr:=OL.irr
    tr:=OL.tr
    ask:=fun {st i j Q} B hi hj qq=>by
      obtain ⟨t, p, ht, et, kt⟩:=key B hi
      obtain ⟨t', p', ht', et', kt'⟩:=key B hj
      rw [kt, kt'] at qq
      rw [ltAt'_eq]
      refine wpS_bind (wpS_get ?_)
      show wpS _ _ _ _ (elem' (arrOf st) i >>= fun x=>elem' (arrOf st) j >>= fun y=>lt' x y) Q st
      rw [elem'_eq, elem'_eq, et, et']
      refine wpS_bind (wpS_pure (wpS_bind (wpS_pure ?_)))
      rw [lt'_eq]
      refine wpS_bind (wpS_get ?_)
      rw [B.kind, keyLt'_oneType]
      refine wpS_bind (wpS_lift (wpAny_attempt ?_))
      rw [oneLt'_eq]
      simp only [if_true]
      obtain ⟨r1, l1⟩:=hT t ht
      obtain ⟨r2, l2⟩:=hT t' ht'
      obtain ⟨b1, b2, o1, o2, v1, v2, g1, c1, g2, c2, hcall⟩:=Dq E L I2 (prog:=X.prog) (w:=X.w) (A:=A) (Er:=fun e s'=>s' = ({ s with heap:=mid g0 (s.heap.objs.size + 1) its } : Shared) /\ wpS (model X.prog X.w) A Er { s with heap:=mid g0 (s.heap.objs.size + 1) its } _ Q st) r1 r2 l1 l2 hA (Q:=fun v s'=>v = .bool (ltG lt t.2.2 t'.2.2) /\ s' = _) ⟨rfl, rfl⟩
      rw [v1, v2]
      refine wpAny_bind (wpAny_cRoomFor (by omega) (wpAny_bind (wpAny_callSpecialIfBound?_slot ⟨_, g1, c1⟩ F.slot_list_lt (thn hcall fun v s' ⟨ev, es⟩=>?_))))
      subst ev es
      exact wpAny_truthy_bool ⟨rfl, wpS_pure qq⟩
    two:=fun {st i j} B hi hj hne=>by
      have hi' : i < (arrOf st).size:=by rw [B.size]; exact hi
      have hj' : j < (arrOf st).size:=by rw [B.size]; exact hj
      rw [kat hi', kat hj']
      refine OL.tot fun e=>hne ?_
      have hN:=(keys B).nodup_iff.mpr hnd
      have hP:=List.pairwise_iff_getElem.mp hN
      rcases Nat.lt_trichotomy i j with z | z | z
      . exact absurd e (hP i j (by simpa using hi') (by simpa using hj') z)
      . exact z
      . exact absurd e.symm (hP j i (by simpa using hj') (by simpa using hi') z) }
  refine wpAny_bind (wpAny_holding (wpAny_call_entry slot_list_sort ⟨_, hoL, rfl⟩ entry_list_sort (El hoL (by omega) htyp (LK _ _ (by rw [ZN, ZN]; omega)) fun out hp hr=>⟨_, rfl, wpAny_pure ⟨_, rfl, ?_⟩⟩) (args_list_sort _)))
  have hpl : out.toList.Perm (its.zip its):=by rw [← pairsOf_toList]; exact Array.perm_iff_toList_perm.mp hp
  have hself : ∀ p ∈ out.toList, p.1 = p.2:=fun p hp'=>(mem_zip_self (hpl.mem_iff.mp hp')).1
  have hfst : out.toList.map (·.1) = (out.map (·.2)).toList:=by
    rw [Array.toList_map]; exact List.map_congr_left fun p hp'=>hself p hp'
  have hperm : ((out.map (·.2)).toList).Perm its:=by
    have:=hpl.map Prod.fst
    rw [List.map_fst_zip (Nat.le_refl _)] at this
    rw [← hfst]; exact this
  obtain ⟨T', hT', eT'⟩:=UJ hperm (l:=T) (f:=(·.1)) e1.symm
  have hk2 : T'.map (·.2.2) = out.toList.map fun p=>kfo T p.1:=by
    have h1 : T'.map (·.2.2) = (T'.map (·.1)).map (kfo T):=by
      rw [List.map_map]; exact List.map_congr_left fun t ht=>(DY huq (hT'.mem_iff.mp ht)).symm
    rw [h1, eT', ← hfst, List.map_map]; rfl
  have hol : out.size = its.length:=by have:=hp.size_eq; rwa [pairsOf_size] at this
  have hsort : T'.map (·.2.2) = UA (ltG lt) as:=by
    refine Cj OL hnd (by rw [← e3]; exact hT'.map _) ?_
    rw [hk2, List.pairwise_iff_getElem]
    intro i j hi hj hij
    have hi' : i < out.size:=by simpa using hi
    have hj' : j < out.size:=by simpa using hj
    have:=hr i j hij (by omega)
    unfold kp at this
    rw [getElem?_pos out i hi', getElem?_pos out j hj'] at this
    simpa using this
  have vv : ∀ {U : List (Value × V × List β)}, (∀ t ∈ U, X7 t.2.1 t.1) -> X3 (U.map (·.2.1)) (U.map (·.1)):=fun {U}=>by
    induction U with
    | nil=>intro _; exact .nil
    | cons t U ih=>intro h; exact .cons (h t List.mem_cons_self) (ih fun u hu'=>h u (List.mem_cons_of_mem _ hu'))
  obtain ⟨e, he⟩:=sortedAll_at s.heap its (out.map (·.2))
  have hfr : H (s.heap.objs.size + 1) = none:=I.hok.fresh (Nat.le_succ _)
  have hvv : X3 (T'.map (·.2.1)) (out.map (·.2)).toList:=by rw [← eT']; exact vv fun t ht=>(hT t (hT'.mem_iff.mp ht)).1
  have hzl : (T'.map (·.2.1)).length = as.length:=by rw [List.length_map, hT'.length_eq, ← e3, List.length_map]
  refine ⟨.ref (s.heap.objs.size + 1), _, I.laid (t':=s.toks) (fun b o e=>sortedAll_old e) (Nat.le_succ _) (show Zb X.prog X.w _ _ _ (.lst (T'.map (·.2.1))) from ⟨?_, (Array.map (fun p : Keyed=>p.2) out).toList, e, hvv, he⟩), rfl, q _ _ hfr ?_ hzl⟩
  . rw [hzl, sizeLine_eq]; omega
  . rw [← hsort, ← e2]
    have : (T'.map (·.2.1)).zip (T'.map (·.2.2)) = T'.map fun t=>(t.2.1, t.2.2):=by
      rw [List.zip_map']
    rw [this]
    exact hT'.map _
end
end L2
namespace L2
open PySem PySem.Spec PyProof.Rows
section
variable {X : Cx} {α : Type}
noncomputable def LE (K : PySem.W.Frag) (r : Enc α) (lt : α -> α -> Bool) : R2:=fun x y H Q=>∃ a b, r K H x a /\ r K H y b /\ Q (.bl (lt a b)) H
theorem Ii {r : Enc α} {lt : α -> α -> Bool} {d : Nat} (L : LtOk r lt d) (K : PySem.W.Frag) (hK : X.K = K) (hu : X.A.units + d < cLine) : OpR X (compareOp .Lt) (LE K r lt):=by
  subst hK
  intro pins s σ H x y v u Q I rx ry h
  obtain ⟨a, b, ha, hb, q⟩:=h
  exact L.at' I rx ry ha hb hu X.prog X.w _ _ ⟨.bl (lt a b), H, I, rfl, q⟩
end
section
variable {K : PySem.W.Frag} {Er : Exc -> Hp -> Prop} {S : SC} {OO OO' : List (List Xz)} {σ : St} {α β γ δ : Type}
theorem EB {ta tb : TE} {r : Enc α} [z : MonoE r] {lt : α -> α -> Bool} {ma mb : Res α} (ha : EvB K Er S OO σ ta r ma) (hb : EvB K Er S OO σ tb r mb) : EvB K Er S OO σ (tOp (LE K r lt) ta tb) XO (ma.bind fun a=>mb.bind fun b=>.ok (lt a b)):=fun H Q w s P=>
  ha.run w s FB.tr P fun a x H1 s1 w1 q1 r1 P1=>hb.run w1 q1 FB.tr P1 fun b y H2 s2 w2 q2 r2 P2=>⟨a, b, z.mono s2 r1, r2, P2 _ H2 (Xr.refl _) rfl⟩
theorem P3.tri {F : α -> β -> γ -> Prop} : ∀ {l m n}, P3 F l m n -> ∃ T : List (α × β × γ), T.map (·.1) = l /\ T.map (·.2.1) = m /\ T.map (·.2.2) = n /\ ∀ t ∈ T, F t.1 t.2.1 t.2.2:=fun p=>by
  induction p with
  | nil=>exact ⟨[], rfl, rfl, rfl, fun t h=>nomatch h⟩
  | cons r _ ih=>
    obtain ⟨T, e1, e2, e3, h⟩:=ih
    exact ⟨(_, _, _) :: T, by rw [List.map_cons, e1], by rw [List.map_cons, e2], by rw [List.map_cons, e3], fun t ht=>(List.mem_cons.mp ht).elim (fun z=>z ▸ r) (h t)⟩
theorem P3.oft {F : α -> β -> γ -> Prop} : ∀ {T : List (α × β × γ)}, (∀ t ∈ T, F t.1 t.2.1 t.2.2) -> P3 F (T.map (·.1)) (T.map (·.2.1)) (T.map (·.2.2)):=fun {T}=>by
  induction T with
  | nil=>intro _; exact .nil
  | cons t T ih=>intro h; exact .cons (h t List.mem_cons_self) (ih fun u hu=>h u (List.mem_cons_of_mem _ hu))
theorem E7 {a a' : List α} {b b' : List β} (h : a.zip b = a'.zip b') (h1 : a.length = b.length) (h2 : a'.length = b'.length) : a = a' /\ b = b':=by
  have e1:=congrArg (List.map Prod.fst) h
  have e2:=congrArg (List.map Prod.snd) h
  rw [List.map_fst_zip (by omega), List.map_fst_zip (by omega)] at e1
  rw [List.map_snd_zip (by omega), List.map_snd_zip (by omega)] at e2
  exact ⟨e1, e2⟩
theorem P3.perm {F : α -> β -> γ -> Prop} {l zs : List α} {m bs : List β} {n : List γ} (p : P3 F l m n) (h : (zs.zip bs).Perm (l.zip m)) (hl : zs.length = bs.length) : ∃ n', P3 F zs bs n' /\ n'.Perm n:=by
  obtain ⟨T, e1, e2, e3, hT⟩:=p.tri
  have ez : T.map (fun t=>(t.1, t.2.1)) = l.zip m:=by rw [← e1, ← e2, List.zip_map']
  obtain ⟨T', hp, e⟩:=UJ h ez.symm
  have : (T'.map (·.1)).zip (T'.map (·.2.1)) = zs.zip bs:=by rw [List.zip_map']; exact e
  obtain ⟨f1, f2⟩:=E7 this (by simp) hl
  refine ⟨T'.map (·.2.2), ?_, by rw [← e3]; exact hp.map _⟩
  rw [← f1, ← f2]
  exact P3.oft fun t ht=>hT t (hp.mem_iff.mp ht)
theorem CB [DecidableEq β] {r : Enc β} {lt : β -> β -> Bool} {o : OE (List β)} [z : MonoO o] [zf : FrzC o (rV r)] {te : TE} {m : Res (List (List β))} (he : Ev K Er S OO OO' σ te (oL o) m) :
    Ev K Er S OO OO' σ (tCB (BP K r lt) (XB te Zx)) (oL o) (m.bind fun as=>chk (as.length < 64 /\ as.Nodup) (.ok (UA (ltG lt) as))):=fun H Q w s P=>by
  refine he H _ w s ?_
  cases m with
  | bad=>exact P
  | err x=>exact P
  | ok as=>
    intro v C H1 s1 w1 m1 ⟨p, xs, Cs, e, q, c⟩
    subst c
    obtain ⟨⟨h64, hnd⟩, P⟩:=PZ.chk (show PZ Er (FO K OO OO' (oL o) Q) H (chk (as.length < 64 /\ as.Nodup) (.ok (UA (ltG lt) as))) from P)
    have hH : H1 p = some (.lst xs):=w1.cell (p, .lst xs) List.mem_cons_self
    refine ⟨p, xs, as, by rw [e], SqL.of hH, ?_, hnd, h64, fun p2 zs hp2 hpm hlen=>?_⟩
    . refine q.pair fun a b c hc ho=>BV (zf.frz ho XG fun x hx=>w1.cell x (List.mem_cons_of_mem _ (List.mem_flatten.mpr ⟨c, hc, hx⟩)))
    . have hsl : (UA (ltG lt) as).length = as.length := (Qw _ as).length_eq
      obtain ⟨Cs', q', hCs⟩:=q.perm hpm (by rw [hsl]; exact hlen)
      have w2 : W (Cs'.flatten :: OO') H1:=w1.sub (OO':=Cs.flatten :: OO') (by simp) |>.of (by simp only [List.flatten_cons]; exact hCs.flatten.append_right _)
      have w3:=w2.new hp2 (o:=.lst zs) rfl
      have w4 : W (((p2, .lst zs) :: Cs'.flatten) :: OO') (upd H1 p2 (.lst zs)):=w3.of (by simp)
      have mm : Xr (hid H1 (((p, HO.lst xs) :: Cs.flatten) :: OO')) (hid (upd H1 p2 (.lst zs)) (((p2, HO.lst zs) :: Cs'.flatten) :: OO')):=fun b ob hb=>by
        obtain ⟨b1, b2⟩:=X0 hb
        have hne : b ≠ p2:=XR b1 hp2
        refine YG (by rw [XJ hne]; exact b1) fun hz=>b2 ?_
        rw [XE, List.map_cons] at hz ⊢
        rcases List.mem_cons.mp hz with y | y
        . exact absurd y hne
        . refine List.mem_cons_of_mem _ ?_
          rcases List.mem_append.mp y with y | y
          . exact List.mem_append_left _ ((hCs.flatten.map _).mem_iff.mp y)
          . exact List.mem_append_right _ y
      exact P (.ref p2) _ _ (s1.trans (XL hp2 _)) w4 (m1.trans mm) ⟨p2, zs, Cs', rfl, q'.imp fun _ _ _ h=>z.mono mm h, rfl⟩
theorem B7 {o : OE α} {r : Enc α} [z : MonoO o] [zf : FrzC o r] [zr : MonoE r] {tt : TT} {c : α -> Res Bool} {v : V} {as : List α} {C : List Xz} {n : Nat} {caps : List (Nat × Str)} (i k : Nat) (hn : 0 < n) (hσ : σ[i]? = some (some v)) (hk : OO[k]? = some C) (h : ∀ x, S.p x -> oL o K x v as C)
    (hc : ∀ (D : List Xz) a u, EvT Er (S.add K r u a) (D :: OO.set k []) ((YH n caps σ).set 0 (some u)) tt (c a)) :
    Ev K Er S OO (OO.set k []) σ (Ke n caps (Vy K (JR i)) (Z7 0) tt (JR 0)) (oL o) ((Res.ok as).bind fun as=>Bx as c fun a=>.ok a):=fun H Q w s P=>by
  obtain ⟨p, xs, Cs, e, q, cc⟩:=h _ s
  subst cc e
  obtain ⟨hsz, P⟩:=PZ.chk (show PZ Er (FO K OO (OO.set k []) (oL o) Q) H (chk (as.length <= sizeLine) (Vw as c fun a=>.ok a)) from P)
  have pm:=XF hk
  have hH : H p = some (.lst xs):=w.tr (p, .lst xs) (List.mem_flatten.mpr ⟨_, List.mem_of_getElem? hk, List.mem_cons_self⟩)
  have hxl:=q.len.1
  have w1 : W (((p, .lst xs) :: Cs.flatten) :: OO.set k []) H:=w.of pm
  have nd1:=w1.nd
  rw [XE] at nd1
  have hm0 : ∀ {H2}, Xr H H2 -> Xr (hid H OO) (hid H2 ([] :: OO.set k [])):=fun {H2} s2=>by
    rw [Yk, ← XD pm]
    exact YB s2 fun b hb=>by rw [XE]; exact List.mem_append_right _ hb
  refine ⟨.ref p, hσ, p, rfl, ⟨xs, SqL.of hH⟩, ?_⟩
  refine Dy (xs:=xs) (fun i ys H2=>∃ bs Ds, Xr H H2 /\ P3 (o K (hid H OO)) ys bs Ds /\ Ds.flatten.Sublist (Cs.take i).flatten /\ bs.length <= i /\ i <= as.length /\ PZ Er (FO K OO (OO.set k []) (oL o) Q) H ((Vw (as.drop i) c fun a=>.ok a).bind fun Zc=>.ok (bs ++ Zc))) ?_ ?_ ?_ ?_
  . refine ⟨[], [], Xr.refl _, .nil, by simp, Nat.le_refl _, Nat.zero_le _, ?_⟩
    rw [List.drop_zero]
    revert P
    cases Vw as c (fun a=>Res.ok a) <;> exact fun z=>z
  . rintro i ys H2 hi ⟨bs, Ds, s2, q2, _, hb, hi2, _⟩
    exact ⟨SqL.of (s2 _ _ hH), by rw [q2.len.1]; omega⟩
  . rintro i x ys H2 hx ⟨bs, Ds, s2, q2, sb, hb, hi2, P2⟩
    have hlt : i < as.length:=by rw [← hxl]; exact (List.getElem?_eq_some_iff.mp hx).1
    obtain ⟨x', c0, hx', hc0, ho⟩:=P3.get q (show as[i]? = some as[i] by simp [hlt])
    rw [hx] at hx'
    cases hx'
    have hcl:=(List.getElem?_eq_some_iff.mp hc0)
    have hin : ∀ y ∈ c0, y ∈ Cs.flatten:=fun y hy=>List.mem_flatten.mpr ⟨c0, List.mem_of_getElem? hc0, hy⟩
    have rx : r K (hid H2 ([] :: OO.set k [])) x as[i]:=zf.frz ho (hm0 s2) fun y hy=>by
      have hy1:=w1.cell y (List.mem_cons_of_mem _ (hin y hy))
      rw [Yk]
      refine YG (s2 _ _ hy1) fun hz=>?_
      exact (List.nodup_append.mp nd1).2.2 y.1 (List.mem_map.mpr ⟨y, List.mem_cons_of_mem _ (hin y hy), rfl⟩) y.1 hz rfl
    rw [List.drop_eq_getElem_cons hlt] at P2
    have P3' : PZ Er (FO K OO (OO.set k []) (oL o) Q) H ((c as[i]).bind fun b=>(if b = true then (Res.ok as[i]).bind fun b=>(Vw (as.drop (i + 1)) c fun a=>.ok a).bind fun bs=>.ok (b :: bs) else Vw (as.drop (i + 1)) c fun a=>.ok a).bind fun Zc=>.ok (bs ++ Zc)):=by
      rw [← XN]; exact P2
    refine hc [] as[i] x H2 _ ((w1.tail.keep s2).nil) ⟨S.mono _ _ (hm0 s2) s, rx⟩ ?_
    cases ec : c as[i] with
    | bad=>rw [ec] at P3'; exact P3'
    | err ex=>rw [ec] at P3'; exact fun H4 s4=>P3' H4 (s2.trans s4)
    | ok b=>
      rw [ec] at P3'
      intro H4 s4
      have tk : (Cs.take (i + 1)).flatten = (Cs.take i).flatten ++ c0:=by
        rw [List.take_succ_eq_append_getElem hcl.1, List.flatten_append, hcl.2]; simp
      cases b with
      | false=>
        refine ⟨bs, Ds, s2.trans s4, q2, sb.trans ?_, Nat.le_succ_of_le hb, hlt, P3'⟩
        rw [tk]; exact List.sublist_append_left _ _
      | true=>
        rw [if_pos rfl]
        refine ⟨x, ?_, bs ++ [as[i]], Ds ++ [c0], s2.trans s4, q2.snoc ho, ?_, by simp; omega, hlt, ?_⟩
        . unfold YH
          rw [List.getElem?_set_self (by simp; omega)]
        . rw [tk, List.flatten_append]
          exact sb.append (by simp)
        . have : ((Vw (as.drop (i + 1)) c fun a=>Res.ok a).bind fun Zc=>Res.ok ((bs ++ [as[i]]) ++ Zc)) = ((Res.ok as[i]).bind fun b=>(Vw (as.drop (i + 1)) c fun a=>.ok a).bind fun bs=>.ok (b :: bs)).bind fun Zc=>.ok (bs ++ Zc):=by
            rw [XN, Res.ok_bind, XN]; congr 1; funext Zc; rw [Res.ok_bind, List.append_assoc]; rfl
          rw [this]; exact P3'
  . rintro ys H2 p2 ⟨bs, Ds, s2, q2, sb, hb, hi2, P2⟩ hp2
    rw [hxl, List.drop_length] at P2
    have P2 : FO K OO (OO.set k []) (oL o) Q bs H:=by
      have e : ((Vw ([] : List α) c fun a=>Res.ok a).bind fun Zc=>Res.ok (bs ++ Zc)) = .ok bs:=by show Res.ok (bs ++ []) = _; rw [List.append_nil]
      rw [e] at P2; exact P2
    have sb2 : Ds.flatten.Sublist Cs.flatten:=sb.trans (by
      rw [List.take_of_length_le (by rw [hxl, ← q.len.2]; exact Nat.le_refl _)]
      exact List.Sublist.refl _)
    have w2 : W (Ds.flatten :: OO.set k []) H2:=(w1.keep s2).sub (by
      simp only [List.flatten_cons, List.cons_append]
      exact (sb2.append_right _).trans (List.sublist_cons_self ..))
    have w3:=w2.new hp2 (o:=.lst ys) rfl
    have w4 : W (((p2, .lst ys) :: Ds.flatten) :: OO.set k []) (upd H2 p2 (.lst ys)):=w3.of (by simp)
    have mm : Xr (hid H OO) (hid (upd H2 p2 (.lst ys)) (((p2, HO.lst ys) :: Ds.flatten) :: OO.set k [])):=fun b ob hb=>by
      rw [← XD pm] at hb
      obtain ⟨b1, b2⟩:=X0 hb
      have b3:=s2 _ _ b1
      have hne : b ≠ p2:=XR b3 hp2
      refine YG (by rw [XJ hne]; exact b3) fun hz=>b2 ?_
      rw [XE, List.map_cons] at hz ⊢
      rcases List.mem_cons.mp hz with y | y
      . exact absurd y hne
      . refine List.mem_cons_of_mem _ ?_
        rcases List.mem_append.mp y with y | y
        . exact List.mem_append_left _ ((sb2.map _).mem y)
        . exact List.mem_append_right _ y
    exact P2 (.ref p2) _ _ (s2.trans (XL hp2 _)) w4 mm ⟨p2, ys, Ds, rfl, q2.imp fun _ _ _ hh=>z.mono mm hh, rfl⟩
end
section
variable {K : PySem.W.Frag} {Er : Exc -> Hp -> Prop} {S : SC} {OO OO' : List (List Xz)} {σ : St} {α β : Type} {u : TS} {Fd : Ends -> β -> Hp -> Prop} [fd : FdOk Fd]
theorem BQ : LtOk (rV Xb) (ltG ltI) 1:=LtOk.imp (Gv eq_int lt_int) BV
theorem DU : LtOk (rV (rV Xb)) (ltG (ltG ltI)) 2:=LtOk.imp (Gv (Hf eq_int) BQ) BV
end
end L2
namespace L2
open PySem PySem.Spec PyProof.Rows
section
variable {K : PySem.W.Frag} {Er : Exc -> Hp -> Prop} {S : SC} {OO OO' : List (List Xz)} {σ : St} {α1 α2 β ρ : Type} {u : TS}
noncomputable def IS (K : PySem.W.Frag) (o : OE ρ) (Cf : List Xz) (Q : VK) (b : ρ) (h : Hp) : Prop:=∀ v C H', W [C ++ Cf] H' -> Xr h (hid H' [C ++ Cf]) -> o K (hid H' [C ++ Cf]) v b C -> Q v H'
noncomputable def Le (K : PySem.W.Frag) (o : OE ρ) (k : Nat) (Cf : List Xz) (D : Ends) (b : ρ) (h : Hp) : Prop:=∀ v C OO' H', OO'[k]? = some Cf -> W (C :: OO') H' -> Xr h (hid H' (C :: OO')) -> o K (hid H' (C :: OO')) v b C -> D.rt v H'
instance {o : OE ρ} {k : Nat} {Cf : List Xz} : FdOk (Le K o k Cf):=⟨fun D b h h' s q v C O H' e w m x=>q v C O H' e w (s.trans m) x⟩
noncomputable def Lw (r1 : Enc α1) (o : OE ρ) (f : α1 -> Res ρ) (K : PySem.W.Frag) : Sp:=fun vs H Q _=>∃ v1 a1 b, vs = [v1] /\ ∃ Cf, W [Cf] H /\ r1 K (hid H [Cf]) v1 a1 /\ f a1 = .ok b /\ IS K o Cf Q b (hid H [Cf])
noncomputable def Ln (r1 : Enc α1) (r2 : Enc α2) (o : OE ρ) (f : α1 -> α2 -> Res ρ) (K : PySem.W.Frag) : Sp:=fun vs H Q _=>∃ v1 v2 a1 a2 b, vs = [v1, v2] /\ ∃ Cf, W [Cf] H /\ r1 K (hid H [Cf]) v1 a1 /\ r2 K (hid H [Cf]) v2 a2 /\ f a1 a2 = .ok b /\ IS K o Cf Q b (hid H [Cf])
theorem Go {te : TE} {o : OE ρ} {m : Res ρ} {Cf : List Xz} (k : Nat) (hk : OO'[k]? = some Cf) (he : Ev K Er S OO OO' σ te o m) : Sv Er S OO σ (ZX (Hm te) u) (Le K o k Cf) m:=fun H D w s P=>
  he H _ w s (by
    cases m with
    | bad=>exact P
    | err x=>exact fun H' s'=>P H' (XG.trans s')
    | ok a=>exact fun v C H' s' w' m' ho=>P v C OO' H' hk w' m' ho)
theorem BM {o : OE ρ} [zo : MonoO o] {t : TS} {m : Res ρ} {Q : VK} {b : ρ} {H : Hp} {D : Ends} {Cf : List Xz} (n : Nat) (h : Sv (fun _ _=>False) S (List.replicate n [] ++ [Cf]) σ t (Le K o n Cf) m) (w : W [Cf] H) (hs : S.p (hid H [Cf])) (hm : m = .ok b) (qf : IS K o Cf Q b (hid H [Cf])) (hD : D.rt = Q) : t D σ H:=by
  have pe : (List.replicate n ([] : List Xz) ++ [Cf]).flatten.Perm [Cf].flatten:=by
    rw [List.flatten_append, X9, List.nil_append]
  refine h H D (w.of pe) (by rw [XD pe]; exact hs) ?_
  subst hm
  rw [XD pe]
  intro v C OO' H' hk w' m' ho
  rw [hD]
  have hp:=XF hk
  have wk : W (C :: Cf :: OO'.set n []) H':=w'.of (by rw [List.flatten_cons, List.flatten_cons (l:=C)]; exact hp.append_left C)
  have eh : hid H' (C :: OO') = hid H' (C :: Cf :: OO'.set n []):=(XD (by rw [List.flatten_cons, List.flatten_cons (l:=C)]; exact hp.append_left C)).symm
  have hsub : Xr (hid H' (C :: OO')) (hid H' [C ++ Cf]):=by
    rw [eh]
    exact YB (Xr.refl _) fun b hb=>by
      rw [XE, XE, ← List.append_assoc]
      refine List.mem_append_left _ ?_
      simpa [fl] using hb
  exact qf v C H' (wk.sub (by simp)) (m'.trans hsub) (zo.mono hsub ho)
theorem HZ {o : OE ρ} {Q : VK} {b : ρ} {H : Hp} (w : W OO H) (P : FO K OO OO o Q b H) : IS K o OO.flatten Q b (hid H OO):=fun v C H' w' m' ho=>by
  have e1 : ([C ++ OO.flatten] : List (List Xz)).flatten = (C :: OO).flatten:=by simp
  have e2 : hid H' [C ++ OO.flatten] = hid H' (C :: OO):=by unfold hid fl; rw [e1]
  rw [e2] at m' ho
  have w2 : W (C :: OO) H':=w'.of (by rw [e1])
  refine P v C H' (fun x ob hx=>?_) w2 m' ho
  by_cases hb : x ∈ fl OO
  . obtain ⟨oo, hoo⟩ := GT hb
    have h1:=w.tr _ hoo
    rw [hx] at h1
    cases h1
    exact w2.tail.tr _ hoo
  . exact (X0 (m' _ _ (YG hx hb))).1
theorem Dz {H : Hp} : hid H [OO.flatten] = hid H OO:=by unfold hid fl; rw [show ([OO.flatten] : List (List Xz)).flatten = OO.flatten by simp]
theorem W.one {H : Hp} (w : W OO H) : W [OO.flatten] H:=w.of (by simp)
theorem Dl {ta : TE} {r1 : Enc α1} [MonoE r1] {o : OE ρ} {f : α1 -> Res ρ} {ma : Res α1} (ha : EvS K Er S OO σ ta r1 ma) : Ev K Er S OO OO σ (V8 (Lw r1 o f K) [] E0 (XB ta Zx)) o (ma.bind fun a=>noE (f a)):=fun H Q w s P=>
  ha.run w s FO.tr P fun a x H1 s1 w1 q1 r1 P1=>by
    obtain ⟨b, hb, P2⟩:=P1.okOf fun x=>VO
    exact ⟨x, a, b, rfl, OO.flatten, w1.one, by rw [Dz]; exact r1, VM hb, by rw [Dz]; exact HZ w1 P2⟩
theorem Fy {ta tb : TE} {r1 : Enc α1} {r2 : Enc α2} [z1 : MonoE r1] [MonoE r2] {o : OE ρ} {f : α1 -> α2 -> Res ρ} {ma : Res α1} {mb : Res α2} (ha : EvS K Er S OO σ ta r1 ma) (hb : EvS K Er S OO σ tb r2 mb) :
    Ev K Er S OO OO σ (V8 (Ln r1 r2 o f K) [] E0 (XB ta (XB tb Zx))) o (ma.bind fun a=>mb.bind fun b=>noE (f a b)):=fun H Q w s P=>
  ha.run w s FO.tr P fun a x H1 s1 w1 q1 r1 P1=>hb.run w1 q1 FO.tr P1 fun b y H2 s2 w2 q2 r2 P2=>by
    obtain ⟨c, hc, P3⟩:=P2.okOf fun x=>VO
    exact ⟨x, y, a, b, c, rfl, OO.flatten, w2.one, by rw [Dz]; exact z1.mono (Xk s2) r1, by rw [Dz]; exact r2, VM hc, by rw [Dz]; exact HZ w2 P3⟩
end
end L2
namespace L2
open PySem PySem.Spec PyProof.Rows
section
variable {K : PySem.W.Frag} {Er : Exc -> Hp -> Prop} {S : SC} {OO OO' : List (List Xz)} {σ : St} {α α2 β γ ρ : Type}
variable {Fd : Ends -> β -> Hp -> Prop} [fd : FdOk Fd] {u : TS}
theorem Dp {f : List (List (List Int)) -> Res β} {v : V} {as : List (List (List Int))} {C : List Xz} (i j l k : Nat) (n : Int) (hσ : σ[i]? = some (some v)) (hjl : j ≠ l) (hj : j < σ.length) (hl : l < σ.length) (hk : OO[k]? = some C) (h : ∀ x, S.p x -> oL (oL (oL (oF Xb))) K x v as C)
    (hr : ∀ C' w1 w2, Sv Er (S.addO K (oL (oL (oL (oF Xb)))) v (as.map fun t=>t.map (· ++ [n])) C') (OO.set k C') ((σ.set j w1).set l w2) u Fd (f (as.map fun t=>t.map (· ++ [n])))) :
    Sv Er S OO σ (ZX (Cd (Vy K (JR i)) (Z7 j) (ZX (Cd (Vy K (JR j)) (Z7 l) (ZX (Ko (tBM K "list" Vt (JR l) (XB (tC (.int n)) Zx))) QE)) QE)) u) Fd (chk (∀ t ∈ as, ∀ row ∈ t, row.length < sizeLine) (f (as.map fun t=>t.map (· ++ [n])))):=fun H D w s P=>by
  obtain ⟨hsz, P⟩:=PZ.chk P
  obtain ⟨p, xs, Cs0, e, q, c⟩:=h _ s
  subst c e
  have hkl : k < OO.length:=(List.getElem?_eq_some_iff.mp hk).1
  have hin : ∀ {Cs : List (List Xz)}, (p, HO.lst xs) ∈ (OO.set k ((p, .lst xs) :: Cs.flatten)).flatten:=fun {Cs}=>List.mem_flatten.mpr ⟨_, List.mem_set hkl _, List.mem_cons_self⟩
  have hOO : OO.set k ((p, .lst xs) :: Cs0.flatten) = OO:=by
    apply List.ext_getElem?
    intro m
    by_cases hm : m = k
    . subst hm; rw [List.getElem?_set_self hkl, hk]
    . rw [List.getElem?_set_ne (fun e=>hm e.symm)]
  have hH : H p = some (.lst xs):=w.tr (p, .lst xs) (by rw [← hOO]; exact hin)
  have hlen:=q.len.1
  refine ⟨.ref p, hσ, p, rfl, ⟨xs, SqL.of hH⟩, ?_⟩
  refine JO (K:=K) (a:=p) (xs:=xs) (fun t σ' H'=>∃ Cs w1 w2, σ' = (σ.set j w1).set l w2 /\ W (OO.set k ((p, .lst xs) :: Cs.flatten)) H' /\ Xr (hid H OO) (hid H' (OO.set k ((p, .lst xs) :: Cs.flatten))) /\ P3 (oL (oL (oF Xb)) K (hid H' (OO.set k ((p, .lst xs) :: Cs.flatten)))) xs ((as.take t).map (fun t=>t.map (· ++ [n])) ++ as.drop t) Cs)
    ⟨Cs0, σ[j], σ[l], by rw [List.set_getElem_self, List.set_getElem_self], by rw [hOO]; exact w, by rw [hOO]; exact Xr.refl _, by rw [hOO]; simpa using q⟩
    (fun t σ' H' ht ⟨Cs, w1, w2, _, w', _, _⟩=>SqL.of (w'.tr (p, .lst xs) hin)) ?_ ?_
  . rintro t x σ' H' hx ⟨Cs, w1, w2, rfl, w', m', q'⟩
    have htl : t < as.length:=by rw [← hlen]; exact (List.getElem?_eq_some_iff.mp hx).1
    have hrow : ((as.take t).map (fun t=>t.map (· ++ [n])) ++ as.drop t)[t]? = some as[t]:=by
      rw [List.getElem?_append_right (by simp; omega)]
      simp [Nat.min_eq_left (Nat.le_of_lt htl)]
    obtain ⟨x', c0, g1, g2, g3⟩:=P3.get q' hrow
    rw [hx] at g1
    cases g1
    have htc : t < Cs.length:=(List.getElem?_eq_some_iff.mp g2).1
    have hct : Cs[t] = c0:=(List.getElem?_eq_some_iff.mp g2).2
    -- the item's cells apart
    have pm : ∀ (D' : List Xz), (D' :: OO.set k ((p, HO.lst xs) :: (Cs.set t []).flatten)).flatten.Perm (OO.set k ((p, HO.lst xs) :: (Cs.set t D').flatten)).flatten:=fun D'=>by
      have h1:=XF (OO:=OO.set k ((p, HO.lst xs) :: (Cs.set t D').flatten)) (k:=k) (C:=(p, HO.lst xs) :: (Cs.set t D').flatten) (by simp [hkl])
      have h2:=XF (OO:=OO.set k ((p, HO.lst xs) :: (Cs.set t []).flatten)) (k:=k) (C:=(p, HO.lst xs) :: (Cs.set t []).flatten) (by simp [hkl])
      rw [List.set_set] at h1 h2
      have h3:=XF (OO:=Cs.set t D') (k:=t) (C:=D') (by simp [htc])
      rw [List.set_set] at h3
      refine List.Perm.trans ?_ h1
      rw [List.flatten_cons]
      refine (h2.symm.append_left D').trans ?_
      simp only [List.flatten_cons, List.cons_append] at h3 ⊢
      refine List.perm_middle.trans (List.Perm.cons _ ?_)
      rw [← List.append_assoc]
      exact h3.append_right _
    have e0 : Cs.set t c0 = Cs:=by rw [← hct, List.set_getElem_self]
    have p0:=pm c0
    rw [e0] at p0
    have w0 : W (c0 :: OO.set k ((p, HO.lst xs) :: (Cs.set t []).flatten)) H':=w'.of p0
    have eh:=XD (H:=H') p0
    show ZX _ _ _ (((σ.set j w1).set l w2).set j (some x)) H'
    have eσ : ((σ.set j w1).set l w2).set j (some x) = (σ.set j (some x)).set l w2:=by
      rw [List.set_comm w2 (some x) (Ne.symm hjl), List.set_set]
    rw [eσ]
    let J : Jn Unit (List Xz × Option V):={ oo:=fun y=>y.1 :: OO.set k ((p, HO.lst xs) :: (Cs.set t []).flatten), ss:=fun y=>(σ.set j (some x)).set l y.2, sc:=fun _ y=>SC.oneO K (oL (oL (oF Xb))) x (as[t].map (· ++ [n])) y.1 }
    have inner:=CY (K:=K) (Er:=Er) (S:=SC.nil.addO K (oL (oL (oF Xb))) x as[t] c0) (OO:=c0 :: OO.set k ((p, HO.lst xs) :: (Cs.set t []).flatten)) (σ:=(σ.set j (some x)).set l w2) (u:=QE) (Fd:=FNd J) (f:=fun _=>Res.ok ()) (v:=x) (as:=as[t]) (C:=c0) j l 0 n
      (by rw [List.getElem?_set_ne (Ne.symm hjl), List.getElem?_set_self hj]) hjl (by simpa using hl) rfl (fun _ z=>z.2)
      (fun C' w' H3 D3 w3 s3 P3=>by
        rw [List.set_set]
        have P3 : FNd J D3 () (hid H3 _):=P3
        exact P3 (C', w') H3 w3 (Xr.refl _) s3.2)
    refine inner H' _ w0 ⟨trivial, by rw [eh]; exact g3⟩ ?_
    rw [Yp (hsz _ (List.getElem_mem htl))]
    intro y H3 w3 m3 s3
    rw [eh] at m3
    have p1:=pm y.1
    have eh3:=XD (H:=H3) p1
    have w4:=w3.of (OO':=OO.set k ((p, HO.lst xs) :: (Cs.set t y.1).flatten)) p1.symm
    have m4 : Xr (hid H' (OO.set k ((p, HO.lst xs) :: Cs.flatten))) (hid H3 (OO.set k ((p, HO.lst xs) :: (Cs.set t y.1).flatten))):=by rw [← eh3]; exact m3
    have s4 : oL (oL (oF Xb)) K (hid H3 (OO.set k ((p, HO.lst xs) :: (Cs.set t y.1).flatten))) x (as[t].map (· ++ [n])) y.1:=by rw [← eh3]; exact s3
    show ∃ Cs w1 w2, _
    refine ⟨Cs.set t y.1, some x, y.2, rfl, w4, m'.trans m4, ?_⟩
    have e6 : ((as.take t).map (fun t=>t.map (· ++ [n])) ++ as.drop t).set t (as[t].map (· ++ [n])) = (as.take (t + 1)).map (fun t=>t.map (· ++ [n])) ++ as.drop (t + 1):=by
      rw [List.set_append_right _ _ (by simp; omega)]
      simp only [List.length_map, List.length_take, Nat.min_eq_left (Nat.le_of_lt htl), Nat.sub_self]
      rw [List.drop_eq_getElem_cons htl, List.set_cons_zero, List.take_succ_eq_append_getElem htl, List.map_append, List.append_assoc]
      rfl
    have q5:=P3.set (F:=oL (oL (oF Xb)) K (hid H3 (OO.set k ((p, HO.lst xs) :: (Cs.set t y.1).flatten)))) s4 t (q'.imp fun _ _ _ z=>MonoO.mono m4 z)
    rw [e6] at q5
    have ex : xs.set t x = xs:=by
      have:=List.getElem?_eq_some_iff.mp hx
      rw [← this.2, List.set_getElem_self]
    rw [ex] at q5
    exact q5
  . rintro σ' H' ⟨Cs, w1, w2, rfl, w', m', q'⟩
    rw [hlen, List.take_length, List.drop_length, List.append_nil] at q'
    exact hr _ w1 w2 H' D w' ⟨S.mono _ _ m' s, ⟨p, xs, Cs, rfl, q', rfl⟩⟩ (PZ.tr (fd.tr D) m' P)
noncomputable def Cg (c : α -> Res Bool) : List α -> Res Bool
  | []=>.ok true
  | r :: l=>(c r).bind fun b=>if b = true then .ok false else Cg c l
theorem EK {tt : TT} {c : List Int -> Res Bool} {v : V} {as : List (List (List Int))} {C : List Xz} (i j l k : Nat) (hσ : σ[i]? = some (some v)) (hjl : j ≠ l) (hj : j < σ.length) (hl : l < σ.length) (hk : OO[k]? = some C) (h : ∀ x, S.p x -> oL (oL (oL (oF Xb))) K x v as C)
    (hc : ∀ w1 y row, EvT Er (S.add K (rV Xb) y row) (OO.set k []) ((σ.set j w1).set l (some y)) tt (c row)) :
    Sv Er S OO σ (ZX (Cd (Vy K (JR i)) (Z7 j) (ZX (Cd (Vy K (JR j)) (Z7 l) (ZX (E3 tt (ZX (Hm (tC (.bl false))) QE) QE) QE)) QE)) (ZX (Hm (tC (.bl true))) QE)) (BC K (oF XO) (oL (oL (oL (oF Xb)))) v) ((Cg c as.flatten).bind fun b=>.ok (b, as)):=fun H D w s P=>by
  obtain ⟨p, xs, Cs, e, q, cc⟩:=h _ s
  subst cc e
  have pm:=XF hk
  have hH : H p = some (.lst xs):=w.tr (p, .lst xs) (List.mem_flatten.mpr ⟨_, List.mem_of_getElem? hk, List.mem_cons_self⟩)
  have hlen:=q.len.1
  have w1 : W (((p, .lst xs) :: Cs.flatten) :: OO.set k []) H:=w.of pm
  have nd1:=w1.nd
  rw [XE] at nd1
  have hm0 : ∀ {H2}, Xr H H2 -> Xr (hid H OO) (hid H2 (OO.set k [])):=fun {H2} s2=>by
    rw [← XD pm]
    exact YB s2 fun b hb=>by rw [XE]; exact List.mem_append_right _ hb
  -- the end, both ways
  have fin : ∀ (b : Bool) H2, Xr H H2 -> PZ Er (BC K (oF XO) (oL (oL (oL (oF Xb)))) (.ref p) D) (hid H OO) (Res.ok (b, as)) -> D.rt (.bl b) H2:=fun b H2 s2 PP=>by
    have PP : BC K (oF XO) (oL (oL (oL (oF Xb)))) (.ref p) D (b, as) (hid H OO):=PP
    have wk : W ([] :: ((p, .lst xs) :: Cs.flatten) :: OO.set k []) H2:=(w1.keep s2).nil
    have eh : hid H2 ([] :: ((p, .lst xs) :: Cs.flatten) :: OO.set k []) = hid H2 OO:=by rw [Yk, XD pm]
    refine PP (.bl b) [] _ (OO.set k []) H2 wk (by rw [eh]; exact Xk s2) ⟨rfl, rfl⟩ ?_
    rw [eh]
    exact ⟨p, xs, Cs, rfl, q.imp fun _ _ _ z=>MonoO.mono (Xk s2) z, rfl⟩
  refine ⟨.ref p, hσ, p, rfl, ⟨xs, SqL.of hH⟩, ?_⟩
  refine JO (K:=K) (a:=p) (xs:=xs) (fun t σ' H'=>∃ w1 w2, σ' = (σ.set j w1).set l w2 /\ Xr H H' /\ PZ Er (BC K (oF XO) (oL (oL (oL (oF Xb)))) (.ref p) D) (hid H OO) ((Cg c (as.drop t).flatten).bind fun b=>.ok (b, as)))
    ⟨σ[j], σ[l], by rw [List.set_getElem_self, List.set_getElem_self], Xr.refl _, by rw [List.drop_zero]; exact P⟩ (fun t σ' H' ht ⟨_, _, _, s', _⟩=>SqL.of (s' _ _ hH)) ?_ ?_
  . rintro t x σ' H' hx ⟨a1, a2, rfl, s', P'⟩
    have htl : t < as.length:=by rw [← hlen]; exact (List.getElem?_eq_some_iff.mp hx).1
    obtain ⟨x', c0, g1, g2, g3⟩:=P3.get q (show as[t]? = some as[t] by simp [htl])
    rw [hx] at g1
    cases g1
    obtain ⟨p0, ys, Ds, rfl, q0, rfl⟩:=g3
    have hin0 : ∀ y ∈ (p0, HO.lst ys) :: Ds.flatten, y ∈ Cs.flatten:=fun y hy=>List.mem_flatten.mpr ⟨_, List.mem_of_getElem? g2, hy⟩
    have hp0 : H p0 = some (.lst ys):=w1.cell (p0, .lst ys) (List.mem_cons_of_mem _ (hin0 _ List.mem_cons_self))
    have hlen0:=q0.len.1
    show ZX _ _ _ (((σ.set j a1).set l a2).set j (some (.ref p0))) H'
    have eσ : ((σ.set j a1).set l a2).set j (some (V.ref p0)) = (σ.set j (some (.ref p0))).set l a2:=by
      rw [List.set_comm a2 (some (V.ref p0)) (Ne.symm hjl), List.set_set]
    rw [eσ]
    refine ⟨.ref p0, by rw [List.getElem?_set_ne (Ne.symm hjl), List.getElem?_set_self hj], p0, rfl, ⟨ys, SqL.of (s' _ _ hp0)⟩, ?_⟩
    rw [List.drop_eq_getElem_cons htl, List.flatten_cons] at P'
    refine JO (K:=K) (a:=p0) (xs:=ys) (fun r σ' H'=>∃ w2, σ' = (σ.set j (some (.ref p0))).set l w2 /\ Xr H H' /\ PZ Er (BC K (oF XO) (oL (oL (oL (oF Xb)))) (.ref p) D) (hid H OO) ((Cg c (as[t].drop r ++ (as.drop (t + 1)).flatten)).bind fun b=>.ok (b, as)))
      ⟨a2, rfl, s', by rw [List.drop_zero]; exact P'⟩ (fun r σ' H' hr ⟨_, _, s', _⟩=>SqL.of (s' _ _ hp0)) ?_ ?_
    . rintro r y σ' H2 hy ⟨b2, rfl, s2, P2⟩
      have hrl : r < as[t].length:=by rw [← hlen0]; exact (List.getElem?_eq_some_iff.mp hy).1
      obtain ⟨y', d0, k1, k2, k3⟩:=P3.get q0 (show (as[t])[r]? = some (as[t])[r] by simp [hrl])
      rw [hy] at k1
      cases k1
      have ry : rV Xb K (hid H2 (OO.set k [])) y (as[t])[r]:=FrzC.frz (o:=oL (oF Xb)) k3 (hm0 s2) fun z hz=>by
        have hz1 : z ∈ Cs.flatten:=hin0 z (List.mem_cons_of_mem _ (List.mem_flatten.mpr ⟨_, List.mem_of_getElem? k2, hz⟩))
        have hz2:=w1.cell z (List.mem_cons_of_mem _ hz1)
        refine YG (s2 _ _ hz2) fun hf=>?_
        exact (List.nodup_append.mp nd1).2.2 z.1 (List.mem_map.mpr ⟨z, List.mem_cons_of_mem _ hz1, rfl⟩) z.1 hf rfl
      rw [List.drop_eq_getElem_cons hrl, List.cons_append, Cg] at P2
      show ZX _ _ _ (((σ.set j (some (.ref p0))).set l b2).set l (some y)) H2
      rw [List.set_set]
      refine hc (some (.ref p0)) y (as[t])[r] H2 _ (w1.tail.keep s2) ⟨S.mono _ _ (hm0 s2) s, ry⟩ ?_
      have P2' : PZ Er (BC K (oF XO) (oL (oL (oL (oF Xb)))) (.ref p) D) (hid H OO) ((c (as[t])[r]).bind fun b=>(if b = true then Res.ok false else Cg c (as[t].drop (r + 1) ++ (as.drop (t + 1)).flatten)).bind fun b=>.ok (b, as)):=by rw [← XN]; exact P2
      cases ec : c (as[t])[r] with
      | bad=>rw [ec] at P2'; exact P2'
      | err ex=>rw [ec] at P2'; exact fun H4 s4=>P2' H4 (XG.trans (s2.trans s4))
      | ok b=>
        rw [ec] at P2'
        intro H4 s4
        cases b with
        | true=>exact fin false H4 (s2.trans s4) P2'
        | false=>exact ⟨some y, rfl, s2.trans s4, P2'⟩
    . rintro σ' H2 ⟨b2, rfl, s2, P2⟩
      rw [hlen0, List.drop_length, List.nil_append] at P2
      exact ⟨some (.ref p0), b2, rfl, s2, P2⟩
  . rintro σ' H2 ⟨a1, a2, rfl, s2, P2⟩
    rw [hlen, List.drop_length] at P2
    exact fin true H2 s2 P2
noncomputable def Lr (q : OE γ) (r2 : Enc α2) (o : OE ρ) (f : γ -> α2 -> Res (ρ × γ)) (K : PySem.W.Frag) : Sp:=fun vs H Q _=>∃ v1 v2 a1 a2 b, vs = [v1, v2] /\ ∃ C, W [C] H /\ q K (hid H [C]) v1 a1 C /\ r2 K (hid H [C]) v2 a2 /\ f a1 a2 = .ok b /\ L0 K o q v1 Q b (hid H [C])
theorem GI {t2 : TE} {r2 : Enc α2} [z2 : MonoE r2] {q : OE γ} [zq : FlatO q] [mq : MonoO q] {f : γ -> α2 -> Res (Bool × γ)} {m2 : Res α2} {g : γ -> Res Bool} {vy : V} {ay : γ} {Cy : List Xz} (i k : Nat) (hσ : σ[i]? = some (some vy)) (hk : OO[k]? = some Cy) (h : ∀ x, S.p x -> q K x vy ay Cy)
    (h2 : EvS K Er S OO σ t2 r2 m2)
    (hr : ∀ b C', Sv Er (S.addO K q vy b C') (OO.set k C') σ u (FTd K (oF XO)) (g b)) :
    Sv Er S OO σ (ZX (E3 (Lh (tB (V8 (Lr q r2 (oF XO) f K) [] E0 (XB (JR i) (XB t2 Zx))))) (ZX (Hm (tC (.bl false))) QE) QE) u) (FTd K (oF XO)) (m2.bind fun a=>(noE (f ay a)).bind fun b=>if b.1 = true then g b.2 else .ok false):=fun H D w s P=>
  ⟨vy, hσ, h2.st (Fd:=FTd K (oF XO)) w s P fun d y H3 s3 w3 q3 e3 P3=>by
    cases en : f ay d with
    | bad=>rw [en] at P3; exact P3.elim
    | err ex=>rw [en] at P3; exact P3.elim
    | ok b=>
      rw [en] at P3
      have P3 : PZ Er (FTd K (oF XO) D) (hid H3 OO) (if b.1 = true then g b.2 else .ok false):=P3
      have hp:=XF hk
      have wk : W (Cy :: OO.set k []) H3:=w3.of hp
      have hkl : k < OO.length:=(List.getElem?_eq_some_iff.mp hk).1
      have m0 : Xr (hid H3 OO) (hid H3 [Cy]):=by
        rw [← XD hp]
        exact YB (Xr.refl _) fun b hb=>by
          rw [XE]
          refine List.mem_append_left _ ?_
          simpa [fl] using hb
      have wo : W (OO.set k []) (hid H3 [Cy]):=⟨fun cc hc=>YG (wk.tail.tr cc hc) (fun z=>by
          have nd:=wk.nd
          rw [XE] at nd
          exact (List.nodup_append.mp nd).2.2 cc.1 (by simpa [fl] using z) cc.1 (Vj hc) rfl), wk.tail.nd, wk.tail.mu⟩
      refine ⟨vy, y, ay, d, b, rfl, Cy, wk.sub (by simp), mq.mono m0 (h _ q3), z2.mono m0 e3, en, fun v C C' H' w' m' ho hq=>?_⟩
      obtain ⟨hC, hv⟩:=ho
      subst hC
      have hv : v = .bl b.1:=hv
      subst hv
      obtain ⟨w4, n4, i4⟩:=IE wo w' m'
      rw [List.nil_append] at w4 n4
      have nn : Xr (hid H3 OO) (hid H' (C' :: OO.set k [])):=by
        refine Xr.trans (fun bb uu hb=>?_) n4
        obtain ⟨b1, b2⟩:=X0 hb
        refine YG (m0 _ _ hb) fun z=>b2 ?_
        rw [← Jk hp, XE]
        exact List.mem_append_right _ z
      have hq':=zq.flat i4 hq
      rw [List.nil_append] at hq'
      obtain ⟨w6, m6⟩:=LY (k:=k) w4 (by rw [List.length_set]; exact hkl)
      rw [List.set_set] at w6 m6
      refine ⟨b.1, rfl, ?_⟩
      cases hb1 : b.1 with
      | false=>
        rw [hb1] at P3
        have P3 : FTd K (oF XO) D false (hid H3 OO):=P3
        show D.rt (.bl false) H'
        refine P3 (.bl false) [] (OO.set k C') H' w6.nil ?_ ⟨rfl, rfl⟩
        rw [Yk]; exact nn.trans m6
      | true=>
        rw [hb1] at P3
        have P3 : PZ Er (FTd K (oF XO) D) (hid H3 OO) (g b.2):=P3
        exact hr b.2 C' H' D w6 ⟨S.mono _ _ (nn.trans m6) q3, mq.mono m6 hq'⟩ (PZ.tr (FdOk.tr D) (nn.trans m6) P3)⟩
end
end L2
namespace L2
open PySem PySem.Spec PyProof.Rows
section
variable {prog : Program} {w : World} {A : Around} {E : Value -> Shared -> Prop} {s : Shared}
end
section
variable {X : Cx}
end
end L2
namespace L2
open PySem PySem.Spec PyProof.Rows
section
variable {K : PySem.W.Frag} {Er : Exc -> Hp -> Prop} {S : SC} {OO OO' : List (List Xz)} {σ : St} {α β γ : Type}
end
end L2
namespace L2
open PySem PySem.Spec PyProof.Rows
theorem YX : plainId "min.loop" = true:=by decide +kernel
theorem Vf : entryFor table "min.loop" = some Builtin.«min.loop»:=entryFor_of_fast (by kernel_rfl)
noncomputable def VF {α : Type} (lt : α -> α -> Bool) (a : α) : List α -> α
  | []=>a
  | b :: l=>if lt b a = true then VF lt b l else VF lt a l
theorem J5 {α : Type} {lt : α -> α -> Bool} : ∀ (l : List α) (a b : α), VF lt a (l ++ [b]) = if lt b (VF lt a l) = true then b else VF lt a l
  | [], a, b=>by show (if lt b a = true then VF lt b [] else VF lt a []) = _; rfl
  | c :: l, a, b=>by
    show (if lt c a = true then VF lt c (l ++ [b]) else VF lt a (l ++ [b])) = if lt b (if lt c a = true then VF lt c l else VF lt a l) = true then b else (if lt c a = true then VF lt c l else VF lt a l)
    split
    . exact J5 l c b
    . exact J5 l a b
section
variable {X : Cx} {α : Type} {r : Enc α} {lt : α -> α -> Bool} {d : Nat}
theorem Lp (L : LtOk r lt d) {pins : List (Addr × Obj)} {σ : St} {H : Hp} {s0 : Shared} (I0 : Inv X pins σ H s0) {A : Around} {R : Result -> Shared -> Prop} (hh : A.in1.handled = none) (hu : A.in1.units + d < cLine) {I l S : Addr} (hlI : l ≠ I) (hSI : S ≠ I) (hSl : S ≠ l) {its : List Value} {ys : List V} {a0 : α} {as : List α} (rv : X3 ys its) (pr : Paired (r X.K H) ys (a0 :: as)) (hl0 : s0.heap.IsList l its.toArray) (hI0 : s0.heap.objs.size <= I) (hS0 : s0.heap.objs.size <= S) :
    ∀ (k i : Nat) (g : Heap) (tk : Nat) (acc : Array Value) (c : Nat), its.length - i = k -> i <= its.length -> g.IsListIter I l i -> (∀ b o, s0.heap.get? b = some o -> g.get? b = some o) -> g.get? S = some { cls:=.type "list", data:=.seq acc c } ->
    ((i = 0 /\ acc = #[]) ∨ (0 < i /\ ∃ (j : Nat) (v : Value), its[j]? = some v /\ (a0 :: as)[j]? = some (VF lt a0 (as.take (i - 1))) /\ acc = #[v, v])) ->
    (∀ g tk (j : Nat) (v : Value), its[j]? = some v -> (a0 :: as)[j]? = some (VF lt a0 as) -> (∀ b o, s0.heap.get? b = some o -> g.get? b = some o) -> R (.ok (.ret v)) { s0 with heap:=g, toks:=tk }) ->
    codeAny (model X.prog X.w) A (.builtin "min.loop" ⟨[.ref I, .none, .ref S], []⟩) R { s0 with heap:=g, toks:=tk }:=by
  have hlen : (a0 :: as).length = its.length:=by rw [← Paired.len pr]; exact rv.length
  have hlen' : as.length + 1 = its.length:=hlen
  have at_ : ∀ {j : Nat} {v : Value} {a : α}, its[j]? = some v -> (a0 :: as)[j]? = some a -> ∃ y, X7 y v /\ r X.K H y a:=fun {j v a} h1 h2=>by
    obtain ⟨y, ey, ry⟩:=Paired.getR rv h1
    obtain ⟨a', ea, ra⟩:=Paired.getL pr ey
    rw [h2] at ea
    cases ea
    exact ⟨y, ry, ra⟩
  intro k
  induction k with
  | zero=>
    intro i g tk acc c hk hle it kp hS hacc q
    have hie : i = its.length:=by omega
    refine codeAny_builtin Vf ?_
    rw [Around.under_plainId YX _]
    show wpAny _ A.in1 (seqItems? (.ref S) >>= _) _ _ _
    refine wpAny_bind (wpAny_seqItems (s:={ s0 with heap:=g, toks:=tk }) hS rfl ?_)
    dsimp only
    refine wpAny_bind (wpAny_tryCatch ?_)
    refine wpAny_pyNext_list_end (s:={ s0 with heap:=g, toks:=tk }) hh it (hl0.at fun o e=>kp _ _ e) (by simp; omega) fun g2 hx=>?_
    dsimp only
    rcases hacc with ⟨h0, rfl⟩ | ⟨h0, j, v, hj, ha, rfl⟩
    . omega
    . have hS' : g2.get? S = some { cls := .type "list", data := .seq #[v, v] c } := hx S _ hSI hS
      show wpAny _ _ (updateSeq S _ >>= fun _=>letGo _ _ >>= fun _=>ret v) _ _ _
      refine wpAny_bind (wpAny_updateSeq (s:={ s0 with heap:=g2, toks:=tk }) hS' rfl ?_ (Nat.le_of_ble_eq_true rfl) (Nat.le_of_ble_eq_true rfl))
      refine wpAny_bind (wpAny_letGo (wpAny_pure ?_))
      rw [List.take_of_length_le (by omega)] at ha
      refine q _ tk j v hj ha fun b o e=>?_
      have lb:=Heap.lt_size e
      exact Heap.get?_update_of_ne _ (Nat.ne_of_gt (Nat.lt_of_lt_of_le lb hS0)) (hx b o (Nat.ne_of_lt (Nat.lt_of_lt_of_le lb hI0)) (kp b o e))
  | succ k ih=>
    intro i g tk acc c hk hle it kp hS hacc q
    have hlt : i < its.length:=by omega
    refine codeAny_builtin Vf ?_
    rw [Around.under_plainId YX _]
    show wpAny _ A.in1 (seqItems? (.ref S) >>= _) _ _ _
    refine wpAny_bind (wpAny_seqItems (s:={ s0 with heap:=g, toks:=tk }) hS rfl ?_)
    dsimp only
    refine wpAny_bind (wpAny_tryCatch ?_)
    refine wpAny_pyNext_list_item (s:={ s0 with heap:=g, toks:=tk }) it (hl0.at fun o e=>kp _ _ e) (x:=its[i]) (by simp [hlt]) fun g2 it' hx=>?_
    dsimp only
    refine wpAny_bind (wpAny_pure ?_)
    have hS' : g2.get? S = some { cls:=.type "list", data:=.seq acc c }:=hx.extBut S _ hSI hS
    have kp2 : ∀ b o, s0.heap.get? b = some o -> g2.get? b = some o:=fun b o e=>hx.extBut b o (Nat.ne_of_lt (Nat.lt_of_lt_of_le (Heap.lt_size e) hI0)) (kp b o e)
    have hi1 : its[i]? = some its[i]:=by simp [hlt]
    have hia : i < (a0 :: as).length:=by omega
    have hi2 : (a0 :: as)[i]? = some (a0 :: as)[i]:=by simp [hia]
    have go : ∀ (h2 : Heap) (acc2 : Array Value) (c2 t2 : Nat), (∀ b o, b ≠ S -> g2.get? b = some o -> h2.get? b = some o) -> h2.get? S = some { cls:=.type "list", data:=.seq acc2 c2 } -> (∃ (j : Nat) (v : Value), its[j]? = some v /\ (a0 :: as)[j]? = some (VF lt a0 (as.take i)) /\ acc2 = #[v, v]) -> codeAny (model X.prog X.w) A (.builtin "min.loop" ⟨[.ref I, .none, .ref S], []⟩) R { s0 with heap:=h2, toks:=t2 }:=fun h2 acc2 c2 t2 kk h2S ha=>by
      refine ih (i + 1) h2 t2 acc2 c2 (by omega) (by omega) (it'.at fun o e=>kk _ _ (Ne.symm hSI) e) (fun b o e=>kk b o (Nat.ne_of_lt (Nat.lt_of_lt_of_le (Heap.lt_size e) hS0)) (kp2 b o e)) h2S (.inr ⟨by omega, ?_⟩) q
      rw [Nat.add_sub_cancel]; exact ha
    rcases hacc with ⟨h0, rfl⟩ | ⟨h0, j, v, hj, ha, rfl⟩
    . subst h0
      show wpAny _ _ (updateSeq S _ >>= fun _=>again _) _ _ _
      refine wpAny_bind (wpAny_updateSeq (s:={ s0 with heap:=g2, toks:=tk }) hS' rfl ?_ (Nat.le_of_ble_eq_true rfl) (Nat.le_of_ble_eq_true rfl))
      refine wpAny_pure ⟨plainId_quiet YX _, ?_⟩
      exact go _ #[its[0], its[0]] _ _ (fun b o hb e=>Heap.get?_update_of_ne _ hb.symm e) (Heap.get?_update_self (h:=g2) _ hS' rfl) ⟨0, its[0], hi1, rfl, rfl⟩
    . show wpAny _ _ (Sem.tryCatch _ _ >>= _) _ _ _
      refine wpAny_bind (wpAny_tryCatch (wpAny_holding ?_))
      obtain ⟨y1, ry1, ra1⟩:=at_ hi1 hi2
      obtain ⟨y2, ry2, ra2⟩:=at_ hj ha
      have I1 : Inv X pins σ H { s0 with heap:=g2, toks:=tk }:=I0.kept kp2
      refine wpAny_bind (L.at' (A:=A.in1) I1 ry1 ry2 ra1 ra2 hu _ _ _ _ ?_)
      refine wpAny_bind (wpAny_holding (wpAny_truthy_bool ?_))
      refine wpAny_bind (wpAny_letGo (wpAny_pure ?_))
      obtain ⟨i', rfl⟩ : ∃ i', i = i' + 1:=⟨i - 1, by omega⟩
      have hi' : i' < as.length:=by omega
      have tk1 : as.take (i' + 1) = as.take i' ++ [as[i']]:=by rw [List.take_add_one]; simp [hi']
      have eb : (a0 :: as)[i' + 1] = as[i']:=rfl
      rw [Nat.add_sub_cancel] at ha
      have em:=J5 (lt:=lt) (as.take i') a0 as[i']
      rw [← tk1] at em
      rw [Nat.add_sub_cancel, eb]
      by_cases cc : lt as[i'] (VF lt a0 (as.take i')) = true
      . rw [if_pos cc]
        rw [if_pos cc] at em
        refine wpAny_bind (wpAny_updateSeq (s:={ s0 with heap:=g2, toks:=tk }) hS' rfl ?_ (Nat.le_of_ble_eq_true rfl) (Nat.le_of_ble_eq_true rfl))
        refine wpAny_bind (wpAny_letGo ?_)
        refine wpAny_pure ⟨plainId_quiet YX _, ?_⟩
        exact go _ #[its[i' + 1], its[i' + 1]] _ _ (fun b o hb e=>Heap.get?_update_of_ne _ hb.symm e) (Heap.get?_update_self (h:=g2) _ hS' rfl) ⟨i' + 1, its[i' + 1], hi1, by rw [em, hi2, eb], rfl⟩
      . rw [if_neg cc]
        rw [if_neg cc] at em
        refine wpAny_bind (wpAny_letGo ?_)
        refine wpAny_pure ⟨plainId_quiet YX _, ?_⟩
        exact go g2 _ c _ (fun b o hb e=>e) hS' ⟨j, v, hj, by rw [em]; exact ha, rfl⟩
noncomputable def HD (K : PySem.W.Frag) (r : Enc α) (lt : α -> α -> Bool) : List V -> Hp -> VK -> Prop:=fun xs H Q=>∃ l ys a0 as, xs = [.ref l] /\ SqL K H l ys /\ Paired (r K H) ys (a0 :: as) /\ ∀ (j : Nat) (y : V), ys[j]? = some y -> (a0 :: as)[j]? = some (VF lt a0 as) -> Q y H
theorem Df (L : LtOk r lt d) (K : PySem.W.Frag) (hK : X.K = K) (hc : X.calm = true) (hu : X.A.units + (d + 2) < cLine) : Qc X (.builtin "min") (HD K r lt):=by
  subst hK
  intro pins s σ H xs us Q I rr h
  obtain ⟨l, ys, a0, as, rfl, hq, hp, q⟩:=h
  obtain ⟨u, rfl, ru⟩:=KH rr
  cases ru
  obtain ⟨its, rv, pl, hz⟩:=I.list hq
  have hlt : l < s.heap.objs.size:=by obtain ⟨o, n, ho, _⟩:=pl; exact Heap.lt_size ho
  have hck : checkBuiltinCall "min" ⟨[.ref l], []⟩ = pure ():=by kernel_rfl
  have hbp : Builtin.Builtins.bindParams "min" ["key", "default"] 0 ⟨[], []⟩ = pure [none, none]:=by kernel_rfl
  refine wpAny_runValue (codeAny_call_builtin (id:="min") (b:=Builtin.min) (by decide +kernel) (entryFor_of_fast (by kernel_rfl)) ?_)
  rw [hck]
  refine wpAny_pure ?_
  show wpAny _ _ (Builtin.Builtins.bindParams "min" ["key", "default"] 0 ⟨[], []⟩ >>= _) _ _ _
  rw [hbp]
  refine wpAny_bind (wpAny_pure ?_)
  show wpAny _ _ (pure (Value.ref l) >>= _) _ _ _
  refine wpAny_bind (wpAny_pure ?_)
  refine wpAny_bind (wpAny_pyIter_list pl.isList ?_)
  refine wpAny_bind (wpAny_newList ?_ (by decide))
  refine wpAny_pure ⟨plainId_quiet YX _, ?_⟩
  have hsz : (s.heap.push { cls:=Value.type "list_iterator", data:=Data.fields #[Value.ref l, Value.int 0 0] }).objs.size = s.heap.objs.size + 1:=Heap.size_push ..
  refine Lp L I (I.ok.hd hc) (by rw [ZN]; omega) (l:=l) (Nat.ne_of_lt hlt) (by show Array.size _ ≠ _; rw [hsz]; exact Nat.succ_ne_self _) (by show Array.size _ ≠ _; rw [hsz]; exact Nat.ne_of_gt (Nat.lt_succ_of_lt hlt)) rv hp pl.isList (Nat.le_refl _) (by show _ <= Array.size _; rw [hsz]; exact Nat.le_succ _) its.length 0 _ s.toks #[] 0 rfl (Nat.zero_le _) ?_ ?_ (Heap.get?_push_size _ rfl) (.inl ⟨rfl, rfl⟩) fun g tk j v hj ha kp=>?_
  . exact ⟨_, Heap.get?_push_of_some _ (Heap.get?_push_size _ rfl), rfl, rfl⟩
  . exact fun b o e=>Heap.get?_push_of_some _ (Heap.get?_push_of_some _ e)
  . obtain ⟨y, ey, ry⟩ := Paired.getR rv hj
    exact ⟨y, H, I.kept (t':=tk) kp, ry, q j y ey ha⟩
end
section
variable {K : PySem.W.Frag} {Er : Exc -> Hp -> Prop} {S : SC} {OO OO' : List (List Xz)} {σ : St} {α : Type}
noncomputable def EV (lt : α -> α -> Bool) : List α -> Res α
  | []=>.bad
  | a :: l=>.ok (VF lt a l)
theorem EG {r : Enc α} {lt : α -> α -> Bool} {o : OE α} [z : MonoO o] [zf : FrzC o r] {te : TE} {m : Res (List α)} (he : Ev K Er S OO OO' σ te (oL o) m) :
    Ev K Er S OO OO' σ (tCB (HD K r lt) (XB te Zx)) o (m.bind (EV lt)):=fun H Q w s P=>by
  refine he H _ w s ?_
  cases m with
  | bad=>exact P
  | err x=>exact P
  | ok as=>
    intro v C H1 s1 w1 m1 ⟨p, xs, Cs, e, q, c⟩
    subst c
    cases as with
    | nil=>exact (show False from P).elim
    | cons a0 as=>
      have P : FO K OO OO' o Q (VF lt a0 as) H:=P
      have hH : H1 p = some (.lst xs):=w1.cell (p, .lst xs) List.mem_cons_self
      refine ⟨p, xs, a0, as, by rw [e], SqL.of hH, ?_, fun j y hy ha=>?_⟩
      . refine q.pair fun a b c hc ho=>zf.frz ho XG fun x hx=>w1.cell x (List.mem_cons_of_mem _ (List.mem_flatten.mpr ⟨c, hc, hx⟩))
      . obtain ⟨y', c0, hy', hc0, ho⟩ := P3.get q ha
        rw [hy] at hy'
        cases hy'
        have hsub : ∀ x ∈ c0, x ∈ Cs.flatten:=fun x hx=>List.mem_flatten.mpr ⟨c0, List.mem_of_getElem? hc0, hx⟩
        have hs : Xr (hid H1 (((p, HO.lst xs) :: Cs.flatten) :: OO')) (hid H1 (c0 :: OO')):=YB (Xr.refl _) fun b hb=>by
          rw [XE] at hb ⊢
          rcases List.mem_append.mp hb with y | y
          . obtain ⟨x, hx, rfl⟩ := List.mem_map.mp y
            exact List.mem_append_left _ (List.mem_map.mpr ⟨x, List.mem_cons_of_mem _ (hsub x hx), rfl⟩)
          . exact List.mem_append_right _ y
        have hsl : c0.Sublist Cs.flatten:=List.sublist_flatten_of_mem (List.mem_of_getElem? hc0)
        refine P y c0 H1 s1 (w1.sub ?_) (m1.trans hs) (z.mono hs ho)
        simp only [List.flatten_cons, List.cons_append]
        exact (hsl.append_right _).trans (List.sublist_cons_self ..)
end
end L2
namespace L2
open PySem PySem.Spec PyProof.Rows
section
variable {X : Cx} {pins : List (Addr × Obj)} {σ : St} {H : Hp} {s0 : Shared}
noncomputable def B1 (X : Cx) (g : Heap) (d : Addr) (xs : List (List Key × Addr × Value)) : Prop:=∃ o es ep, g.get? d = some o /\ o.ExactDict /\ o.data = .dict es ep /\ es.toList = xs.map (entryOfKey (tupleKind (Zq X.prog X.w))) /\ (xs.map (·.1)).Nodup
theorem B1.h {g : Heap} {tk : Nat} {d : Addr} {acc : List (List Key × V)} {xs : List (List Key × Addr × Value)} (D : B1 X g d xs) (I : Inv X pins σ H { s0 with heap:=g, toks:=tk }) (r : KT H acc xs) : g.DictOfH (tupleKind (Zq X.prog X.w)) d xs:=by
  obtain ⟨o, es, ep, h1, h2, h3, h4, h5⟩:=D
  refine ⟨o, es, ep, h1, h2, h3, h4, fun x hx=>?_, h5⟩
  have all : ∀ {l : List (List Key × V)} {m : List (List Key × Addr × Value)}, KT H l m -> ∀ x ∈ m, (tupleKind (Zq X.prog X.w)).is g x.1 x.2.1:=by
    intro l m q
    induction q with
    | nil=>intro x hx; exact nomatch hx
    | @cons p q ps qs hq t ih=>
      intro x hx
      rcases List.mem_cons.mp hx with e | hx
      . subst e
        exact HY I.hok (by rw [← hq.1]; exact hq.2.1)
      . exact ih x hx
  exact all r x hx
theorem B1.of {g : Heap} {d : Addr} {xs : List (List Key × Addr × Value)} (D : g.DictOfH (tupleKind (Zq X.prog X.w)) d xs) : B1 X g d xs:=by
  obtain ⟨o, es, ep, h1, h2, h3, h4, _, h5⟩:=D
  exact ⟨o, es, ep, h1, h2, h3, h4, h5⟩
theorem B1.at {g g' : Heap} {d : Addr} {xs : List (List Key × Addr × Value)} (D : B1 X g d xs) (k : ∀ o, g.get? d = some o -> g'.get? d = some o) : B1 X g' d xs:=by
  obtain ⟨o, es, ep, h1, r⟩:=D
  exact ⟨o, es, ep, k o h1, r⟩
end
end L2
namespace L2
open PySem PySem.Spec PyProof.Rows
section
variable {K : PySem.W.Frag} {Er : Exc -> Hp -> Prop} {S : SC} {OO OO' : List (List Xz)} {σ : St} {α β γ : Type}
end
end L2
namespace L2
open PySem PySem.Spec PyProof.Rows
section
variable {K : PySem.W.Frag} {Er : Exc -> Hp -> Prop} {S : SC} {OO : List (List Xz)} {σ : St} {α1 α2 α3 α4 α5 ρ : Type} {mg : Str -> Option Value} {E : XK}
end
end L2
namespace My
open PySem L2
noncomputable def Yj (a_0 : Int) (a_1 : Int) : Res Unit:=(Res.bind (Res.bind (Res.ok a_1) fun x5=>(Res.bind (Res.ok a_0) fun x6=>(Res.ok (decide (x6 < x5))))) fun x7=>(if x7 = true then Res.bad else (Res.ok ())))
noncomputable def YJ (a_0 : (List (List Int))) (a_1 : Int) : Res (List (List Int)):=(Res.bind (Res.ok []) fun a1=>(Res.bind (Res.ok a_0) fun x37=>(Res.bind (forN x37 (a1) (fun g6 a8=>(Res.bind (Res.bind (Res.ok a_1) fun x10=>(QM 0 x10)) fun x34=>(Res.bind (forN x34 (g6) (fun g13 a15=>(Res.bind (Res.bind (Res.bind (Res.ok a15) fun x17=>(Res.bind (Res.ok a8) fun x18=>(Res.ok (!(decide (x17 ∈ x18)))))) fun x19=>(if x19 = true then (Res.bind (Res.bind (Res.ok a8) fun x22=>(Res.bind (Res.bind (Res.bind (Res.ok a15) fun x25=>(Res.bind (Res.ok []) fun x26=>(Res.ok (x25 :: x26)))) fun x24=>(chk (x24.length <= sizeLine) (Res.ok x24))) fun x23=>(Hl x22 x23))) fun a27=>(chk (g13.length < sizeLine) ((fun a29=>(Res.ok (a29))) (g13 ++ [a27])))) else (Res.ok (g13)))) fun g31=>(Res.ok (g31))))) fun g32=>(Res.ok (g32)))))) fun g35=>(Res.ok g35))))
noncomputable def ZW (a_0 : Int) : Res (List (List Int)):=(Res.bind (Res.bind (Res.bind (Res.ok []) fun x5=>(Res.bind (Res.ok []) fun x6=>(Res.ok (x5 :: x6)))) fun x4=>(chk (x4.length <= sizeLine) (Res.ok x4))) fun a1=>(Res.bind (Res.bind (Res.ok a_0) fun x7=>(QM 0 x7)) fun x22=>(Res.bind (forN x22 (a1) (fun g10 a12=>(Res.bind (Res.bind (Res.ok g10) fun x18=>(Res.bind (Res.ok a_0) fun x19=>(noE (YJ x18 x19)))) fun a14=>(Res.ok (a14))))) fun g20=>(Res.ok g20))))
noncomputable def YN (a_0 : (List (List Int))) : Res (Option (Int × Int)):=(Res.bind (Res.bind (Res.ok a_0) fun x1=>(Res.ok (V5 x1))) fun x20=>(Res.bind (forC x20 () (fun g4 a6=>(Res.bind (Res.bind (Res.bind (Res.ok a6.2) fun x8=>(Res.bind (Res.ok a6.1) fun x9=>(atR x8 x9))) fun x10=>(Res.bind (Res.ok a6.1) fun x11=>(Res.ok (!(decide (x10 = x11)))))) fun x12=>(if x12 = true then (Res.bind (Res.bind (Res.bind (Res.ok (1 : Int)) fun x13=>(Res.bind (Res.ok a6.1) fun x14=>(Res.ok (x13, x14)))) fun x15=>(Res.ok (some x15))) fun x17=>(Res.ok (Ctl.ret x17))) else (Res.bind (Res.ok ()) fun x16=>(Res.ok (Ctl.nx x16))))))) (Zu fun g18=>(Res.ok none))))
noncomputable def Zv (a_0 : (List Int)) : Res (Option (Int × Int)):=(Res.bind (Res.bind (Res.ok a_0) fun x1=>(Res.ok (V5 x1))) fun x29=>(Res.bind (forC x29 () (fun g4 a6=>(Res.bind (Res.bind (Res.ok a6.2) fun x14=>(Res.bind (Res.bind (Res.ok a_0) fun x11=>(Res.bind (Res.bind (Res.bind (Res.ok a6.1) fun x8=>(Res.bind (Res.ok (1 : Int)) fun x9=>(Res.ok (x8 + x9)))) fun x10=>(Res.ok (some x10))) fun x12=>(Res.bind (Res.ok none) fun x13=>(Res.ok (FM x11 x12 x13))))) fun x15=>(Res.ok (decide (x14 ∈ x15))))) fun x16=>(if x16 = true then (Res.bind (Res.bind (Res.bind (Res.ok a6.1) fun x22=>(Res.bind (Res.bind (Res.ok a_0) fun x19=>(Res.bind (Res.ok a6.2) fun x20=>(Res.bind (Res.bind (Res.ok a6.1) fun x17=>(Res.bind (Res.ok (1 : Int)) fun x18=>(Res.ok (x17 + x18)))) fun x21=>(Hw x19 x20 x21)))) fun x23=>(Res.ok (x22, x23)))) fun x24=>(Res.ok (some x24))) fun x26=>(Res.ok (Ctl.ret x26))) else (Res.bind (Res.ok ()) fun x25=>(Res.ok (Ctl.nx x25))))))) (Zu fun g27=>(Res.ok none))))
noncomputable def YO (a_0 : (List (List Int))) : Res (Option (Int × Int × Int × Int)):=(Res.bind (Res.bind (Res.bind (Res.ok a_0) fun x1=>(Res.ok (x1.length : Int))) fun x2=>(QM 0 x2)) fun x32=>(Res.bind (forC x32 () (fun g5 a7=>(Res.bind (Res.bind (Res.bind (Res.ok a_0) fun x15=>(UD x15 (fun a13=>(Res.bind (Res.ok a13) fun x16=>(Res.bind (Res.ok a7) fun x17=>(atR x16 x17)))))) fun x18=>(noE (Zv x18))) fun a9=>(Res.bind (Res.bind (Res.ok a9) fun x19=>(Res.ok x19.isSome)) fun x20=>(if x20 = true then (Res.bind (Res.bind (Res.bind (Res.ok (2 : Int)) fun x23=>(Res.bind (Res.ok a7) fun x24=>(Res.bind (Res.bind (Res.bind (Res.ok a9) Io) fun x21=>(Res.ok x21.1)) fun x25=>(Res.bind (Res.bind (Res.bind (Res.ok a9) Io) fun x22=>(Res.ok x22.2)) fun x26=>(Res.ok (x23, x24, x25, x26)))))) fun x27=>(Res.ok (some x27))) fun x29=>(Res.ok (Ctl.ret x29))) else (Res.bind (Res.ok ()) fun x28=>(Res.ok (Ctl.nx x28)))))))) (Zu fun g30=>(Res.ok none))))
noncomputable def Ys (a_0 : (List (List Int))) : Res (Option (Int × Int × Int × Int)):=(Res.bind (Res.bind (Res.ok a_0) fun x1=>(Res.ok (V5 x1))) fun x57=>(Res.bind (forC x57 () (fun g4 a6=>(Res.bind (Res.bind (Res.ok a6.2) fun x8=>(Res.ok (V5 x8))) fun x54=>(Res.bind (forC x54 () (fun g11 a13=>(Res.bind (Res.bind (Res.bind (Res.ok a_0) fun x15=>(Res.ok (x15.length : Int))) fun x16=>(QM 0 x16)) fun x50=>(Res.bind (forC x50 () (fun g19 a21=>(Res.bind (Res.bind (Res.bind (Res.bind (Res.ok a_0) fun x23=>(Res.bind (Res.ok a13.2) fun x24=>(atR x23 x24))) fun x25=>(Res.bind (Res.ok a21) fun x26=>(atR x25 x26))) fun x37=>(Res.bind (Res.bind (Res.bind (Res.ok a_0) fun x29=>(Res.bind (Res.bind (Res.ok a6.2) fun x27=>(Res.bind (Res.ok a21) fun x28=>(atR x27 x28))) fun x30=>(atR x29 x30))) fun x35=>(Res.bind (Res.bind (Res.bind (Res.ok a_0) fun x31=>(Res.bind (Res.ok a13.1) fun x32=>(atR x31 x32))) fun x33=>(Res.bind (Res.ok a21) fun x34=>(atR x33 x34))) fun x36=>(atR x35 x36))) fun x38=>(Res.ok (!(decide (x37 = x38)))))) fun x39=>(if x39 = true then (Res.bind (Res.bind (Res.bind (Res.ok (3 : Int)) fun x40=>(Res.bind (Res.ok a6.1) fun x41=>(Res.bind (Res.ok a13.1) fun x42=>(Res.bind (Res.ok a21) fun x43=>(Res.ok (x40, x41, x42, x43)))))) fun x44=>(Res.ok (some x44))) fun x46=>(Res.ok (Ctl.ret x46))) else (Res.bind (Res.ok ()) fun x45=>(Res.ok (Ctl.nx x45))))))) (Zd fun g47=>(Res.bind (Res.ok ()) fun x49=>(Res.ok (Ctl.nx x49)))))))) (Zd fun g51=>(Res.bind (Res.ok ()) fun x53=>(Res.ok (Ctl.nx x53)))))))) (Zu fun g55=>(Res.ok none))))
noncomputable def JP (a_0 : (List (List Int))) : Res (Option (List Int)):=(Res.bind (Res.bind (Res.bind (Res.ok a_0) fun x4=>(noE (YN x4))) fun x5=>(Res.ok (x5.map fun p=>[p.1, p.2]))) fun a1=>(Res.bind (Res.bind (Res.bind (Res.ok a1) fun x6=>(Res.ok x6.isNone)) fun x7=>(if x7 = true then (Res.bind (Res.bind (Res.bind (Res.ok a_0) fun x13=>(noE (YO x13))) fun x14=>(Res.ok (x14.map fun p=>[p.1, p.2.1, p.2.2.1, p.2.2.2]))) fun a10=>(Res.ok (a10))) else (Res.ok (a1)))) fun g16=>(Res.bind (Res.bind (Res.bind (Res.ok g16) fun x17=>(Res.ok x17.isNone)) fun x18=>(if x18 = true then (Res.bind (Res.bind (Res.bind (Res.ok a_0) fun x24=>(noE (Ys x24))) fun x25=>(Res.ok (x25.map fun p=>[p.1, p.2.1, p.2.2.1, p.2.2.2]))) fun a21=>(Res.ok (a21))) else (Res.ok (g16)))) fun g27=>(Res.ok g27))))
noncomputable def Yn (a_0 : (List (List Int))) : Res (List (List Int)):=(Res.bind (Res.bind (Res.bind (Res.ok a_0) fun x1=>(Res.ok (x1.length : Int))) fun x2=>(QM 0 x2)) fun x6=>(UD x6 (fun a4=>(Res.bind (Res.ok a_0) fun x10=>(UD x10 (fun a8=>(Res.bind (Res.ok a8) fun x11=>(Res.bind (Res.ok a4) fun x12=>(atR x11 x12)))))))))
noncomputable def Yf (a_0 : (List (List (List Int)))) (a_1 : (List (List Int))) : Res (List (List (List Int))):=(Res.bind (Res.ok []) fun a1=>(Res.bind (Res.ok a_0) fun x24=>(Res.bind (forN x24 (a1) (fun g6 a8=>(Res.bind (Res.bind (Res.ok a_1) fun x13=>(UD x13 (fun a11=>(Res.bind (Res.ok a8) fun x14=>(Res.bind (Res.bind (Res.bind (Res.ok a11) fun x17=>(Res.bind (Res.ok []) fun x18=>(Res.ok (x17 :: x18)))) fun x16=>(chk (x16.length <= sizeLine) (Res.ok x16))) fun x15=>(Hl x14 x15)))))) fun a19=>(chk (g6.length + a19.length <= sizeLine) ((fun a21=>(Res.ok (a21))) (g6 ++ a19)))))) fun g22=>(Res.ok g22))))
noncomputable def Ze (a_0 : Int) : Res (List (List (List Int))):=(Res.bind (Res.bind (Res.ok a_0) fun x4=>(noE (ZW x4))) fun a1=>(Res.bind (Res.bind (Res.bind (Res.ok []) fun x9=>(Res.bind (Res.ok []) fun x10=>(Res.ok (x9 :: x10)))) fun x8=>(chk (x8.length <= sizeLine) (Res.ok x8))) fun a5=>(Res.bind (Res.bind (Res.ok a_0) fun x11=>(QM 0 x11)) fun x34=>(Res.bind (forN x34 (a5) (fun g14 a16=>(Res.bind (Res.bind (Res.ok g14) fun x30=>(Res.bind (Res.bind (Res.ok a1) fun x25=>(Bx x25 (fun a23=>(Res.bind (Res.bind (Res.ok a23) fun x26=>(Res.bind (Res.ok a16) fun x27=>(atR x26 x27))) fun x28=>(Res.bind (Res.ok a16) fun x29=>(Res.ok (decide (x28 = x29)))))) (fun a23=>(Res.ok a23)))) fun x31=>(noE (Yf x30 x31)))) fun a18=>(Res.ok (a18))))) fun g32=>(Res.ok g32)))))
noncomputable def YI (a_0 : Int) : Res (List (List (List Int))):=(Res.bind (Res.bind (Res.ok (4 : Int)) fun x2=>(Res.bind (Res.ok a_0) fun x3=>(noE (Yj x2 x3)))) fun x4=>(Res.bind (Res.bind (Res.bind (Res.ok a_0) fun x9=>(noE (Ze x9))) fun x13=>(UD x13 (fun a11=>(Res.bind (Res.ok a11) fun x15=>(noE (Yn x15)))))) fun a5=>(Res.bind (Res.bind (Res.ok a5) fun x20=>(Bx x20 (fun a18=>(Res.bind (Res.bind (Res.ok a18) fun x22=>(noE (JP x22))) fun x23=>(Res.ok x23.isNone))) (fun a18=>(Res.ok a18)))) fun x16=>(chk (x16.length < 64 /\ x16.Nodup) (Res.ok (UA (ltG (ltG ltI)) x16))))))
noncomputable def Zy (a_0 : (List (List Int))) (a_1 : (List (List Int))) : Res Unit:=(Res.bind (Res.bind (Res.ok (6 : Int)) fun x10=>(Res.bind (Res.bind (Res.bind (Res.ok a_0) fun x6=>(Res.ok (x6.length : Int))) fun x8=>(Res.bind (Res.bind (Res.ok a_1) fun x7=>(Res.ok (x7.length : Int))) fun x9=>(Res.ok (max x8 x9)))) fun x11=>(noE (Yj x10 x11)))) fun x12=>(Res.ok ()))
noncomputable def Yt (a_0 : (List (List Int))) (a_1 : (List (List Int))) (a_2 : (List Int)) (a_3 : Int) (a_4 : Int) : Res Bool:=(Res.bind (Res.bind (Res.bind (Res.ok a_0) fun x3=>(Res.bind (Res.ok a_3) fun x4=>(atR x3 x4))) fun x5=>(Res.bind (Res.ok a_4) fun x6=>(atR x5 x6))) fun a1=>(Jc (Res.bind (Res.ok a1) fun x8=>(Res.bind (Res.bind (Res.ok a_2) fun x7=>(Res.ok (x7.length : Int))) fun x9=>(Res.ok (decide (x8 < x9))))) (Res.bind (Res.bind (Res.bind (Res.ok a_1) fun x12=>(Res.bind (Res.bind (Res.ok a_2) fun x10=>(Res.bind (Res.ok a_3) fun x11=>(atR x10 x11))) fun x13=>(atR x12 x13))) fun x16=>(Res.bind (Res.bind (Res.ok a_2) fun x14=>(Res.bind (Res.ok a_4) fun x15=>(atR x14 x15))) fun x17=>(atR x16 x17))) fun x20=>(Res.bind (Res.bind (Res.ok a_2) fun x18=>(Res.bind (Res.ok a1) fun x19=>(atR x18 x19))) fun x21=>(Res.ok (!(decide (x20 = x21))))))))
noncomputable def Y0 (a_0 : (List (List Int))) (a_1 : (List (List Int))) (a_2 : (List Int)) : Res (Option (Int × Int)):=(Res.bind (Res.bind (Res.bind (Res.ok a_2) fun x1=>(Res.ok (x1.length : Int))) fun x2=>(QM 0 x2)) fun x35=>(Res.bind (forC x35 () (fun g5 a7=>(Res.bind (Res.bind (Res.bind (Res.ok a_2) fun x9=>(Res.ok (x9.length : Int))) fun x10=>(QM 0 x10)) fun x32=>(Res.bind (forC x32 () (fun g13 a15=>(Res.bind (Res.bind (Res.ok a_0) fun x18=>(Res.bind (Res.ok a_1) fun x19=>(Res.bind (Res.ok a_2) fun x20=>(Res.bind (Res.ok a7) fun x21=>(Res.bind (Res.ok a15) fun x22=>(noE (Yt x18 x19 x20 x21 x22))))))) fun x23=>(if x23 = true then (Res.bind (Res.bind (Res.bind (Res.ok a7) fun x24=>(Res.bind (Res.ok a15) fun x25=>(Res.ok (x24, x25)))) fun x26=>(Res.ok (some x26))) fun x28=>(Res.ok (Ctl.ret x28))) else (Res.bind (Res.ok ()) fun x27=>(Res.ok (Ctl.nx x27))))))) (Zd fun g29=>(Res.bind (Res.ok ()) fun x31=>(Res.ok (Ctl.nx x31)))))))) (Zu fun g33=>(Res.ok none))))
noncomputable def YQ (a_0 : (List Int)) (a_1 : Int) : Res (List (List Int)):=(Res.bind (Res.bind (Res.bind (Res.ok a_1) fun x1=>(Res.bind (Res.ok (1 : Int)) fun x2=>(Res.ok (x1 - x2)))) fun x5=>(Res.bind (Res.bind (Res.ok (1 : Int)) fun x3=>(Res.ok (-x3))) fun x6=>(Res.bind (Res.bind (Res.ok (1 : Int)) fun x4=>(Res.ok (-x4))) fun x7=>(LS x5 x6 x7)))) fun x11=>(Bx x11 (fun a9=>(Res.bind (Res.ok a9) fun x17=>(Res.bind (Res.ok a_0) fun x18=>(Res.ok (!(decide (x17 ∈ x18))))))) (fun a9=>(Res.bind (Res.ok a_0) fun x15=>(Res.bind (Res.bind (Res.bind (Res.ok a9) fun x12=>(Res.bind (Res.ok []) fun x13=>(Res.ok (x12 :: x13)))) fun x14=>(chk (x14.length <= sizeLine) (Res.ok x14))) fun x16=>(chk (0 < x16.length /\ x15.length + x16.length <= sizeLine) (Res.ok (x15 ++ x16))))))))
noncomputable def Qx (a_0 : (List (List Int))) (a_1 : (List (List Int))) : Res ((Option (List Int)) × (List ((List Int) × Int × Int))):=(Res.bind (Res.ok []) fun a1=>(Res.bind (Res.bind (Res.bind (Res.bind (Res.ok a_0) fun x7=>(Res.ok (x7.length : Int))) fun x9=>(Res.bind (Res.bind (Res.ok a_1) fun x8=>(Res.ok (x8.length : Int))) fun x10=>(Res.ok (decide (x9 = x10))))) fun x15=>(if x15 = true then (Res.bind (Res.bind (Res.bind (Res.ok []) fun x12=>(chk (x12.length <= sizeLine) (Res.ok x12))) fun x13=>(Res.bind (Res.ok []) fun x14=>(Res.ok (x13 :: x14)))) fun x11=>(chk (x11.length <= sizeLine) (Res.ok x11))) else (Res.ok []))) fun a4=>(Res.bind (VL (a_0.length + 100000) (a4, a1) (fun g18=>(Res.bind (Res.bind (Res.ok g18.1) fun x20=>(Res.ok (x20.length : Int))) fun x21=>(Res.bind (Res.ok (0 : Int)) fun x22=>(Res.ok (decide (x22 < x21)))))) (fun g18=>(Res.bind (Eu g18.1) (fun p27=>(fun a23 a24=>(Res.bind (Res.bind (Res.ok a_0) fun x31=>(Res.bind (Res.ok a_1) fun x32=>(Res.bind (Res.ok a23) fun x33=>(noE (Y0 x31 x32 x33))))) fun a28=>(Res.bind (Res.bind (Res.bind (Res.ok a28) fun x34=>(Res.ok x34.isSome)) fun x35=>(if x35 = true then (Res.bind (Res.bind (Res.ok a23) fun x40=>(Res.bind (Res.bind (Res.bind (Res.ok a28) Io) fun x38=>(Res.ok x38.1)) fun x41=>(Res.bind (Res.bind (Res.bind (Res.ok a28) Io) fun x39=>(Res.ok x39.2)) fun x42=>(Res.ok (x40, x41, x42))))) fun a43=>(chk (g18.2.length < sizeLine) ((fun a45=>(Res.bind (Res.ok (a45, a24)) fun x46=>(Res.ok (Ctl.nx x46)))) (g18.2 ++ [a43])))) else (Res.bind (Res.bind (Res.bind (Res.bind (Res.ok a23) fun x47=>(Res.ok (x47.length : Int))) fun x49=>(Res.bind (Res.bind (Res.ok a_0) fun x48=>(Res.ok (x48.length : Int))) fun x50=>(Res.ok (decide (x49 = x50))))) fun x51=>(if x51 = true then (Res.bind (Res.bind (Res.bind (Res.bind (Res.ok a23) fun x54=>(Res.ok x54)) fun x55=>(Res.ok (some x55))) fun x56=>(Res.bind (Res.ok g18.2) fun x57=>(Res.ok (x56, x57)))) fun x58=>(Res.ok (Ctl.ret x58))) else (Res.bind (Res.bind (Res.ok a23) fun x61=>(Res.bind (Res.bind (Res.ok a_1) fun x60=>(Res.ok (x60.length : Int))) fun x62=>(noE (YQ x61 x62)))) fun a63=>(chk (a24.length + a63.length <= sizeLine) ((fun a65=>(Res.bind (Res.ok (a65)) fun x66=>(Res.ok (Ctl.nx x66)))) (a24 ++ a63)))))) (Zd fun g68=>(Res.bind (Res.ok (g18.2, g68)) fun x69=>(Res.ok (Ctl.nx x69))))))) (Zd fun g71=>(Res.bind (Res.ok (g71.2, g71.1)) fun x72=>(Res.ok (Ctl.nx x72))))))) p27.1 p27.2)))) (Zu fun g73=>(Res.bind (Res.ok none) fun x75=>(Res.bind (Res.ok g73.2) fun x76=>(Res.ok (x75, x76))))))))
noncomputable def U9 (a_0 : (List (List Int))) (a_1 : (List (List Int))) : Res (Option (List Int)):=(Res.bind (Res.bind (Res.ok a_0) fun x2=>(Res.bind (Res.ok a_1) fun x3=>(noE (Zy x2 x3)))) fun x4=>(Res.bind (Res.bind (Res.ok a_0) fun x6=>(Res.bind (Res.ok a_1) fun x7=>(noE (Qx x6 x7)))) fun x8=>(Res.ok x8.1)))
noncomputable def ZF (a_0 : Int) : Res (List (List (List Int))):=(Res.bind (Res.ok []) fun a1=>(Res.bind (Res.bind (Res.ok a_0) fun x5=>(noE (YI x5))) fun x33=>(Res.bind (forN x33 (a1) (fun g8 a10=>(Res.bind (Res.bind (Res.bind (Res.bind (Res.ok g8) fun x17=>(UD x17 (fun a15=>(Res.bind (Res.bind (Res.ok a15) fun x19=>(Res.bind (Res.ok a10) fun x20=>(noE (U9 x19 x20)))) fun x21=>(Res.ok x21.isNone))))) fun x22=>(Res.ok (x22.all id))) fun x23=>(if x23 = true then (Res.bind (Res.ok a10) fun a26=>(chk (g8.length < sizeLine) ((fun a28=>(Res.ok (a28))) (g8 ++ [a26])))) else (Res.ok (g8)))) fun g30=>(Res.ok (g30))))) fun g31=>(Res.ok g31))))
noncomputable def JZ (a_0 : (List Int)) (a_1 : Int) : Res Int:=(Res.bind (Res.bind (Res.ok a_1) fun x2=>(Res.bind (Res.bind (Res.ok a_0) fun x1=>(Res.ok (x1.length : Int))) fun x3=>(Res.ok (decide (x2 < x3))))) fun x4=>(if x4 = true then (Res.bind (Res.ok a_0) fun x5=>(Res.bind (Res.ok a_1) fun x6=>(atR x5 x6))) else (Res.bind (Res.ok (5 : Int)) fun a7=>(Res.bind (Res.bind (Res.ok a_0) fun x10=>(Res.bind (Res.ok none) fun x11=>(Res.bind (Res.bind (Res.ok (63 : Int)) fun x9=>(Res.ok (some x9))) fun x12=>(Res.ok (FM x10 x11 x12))))) fun x39=>(Res.bind (forN x39 (a7) (fun g15 a17=>(Res.bind (Res.bind (Res.bind (Res.bind (Res.bind (Res.ok g15) fun x21=>(Res.bind (Res.ok (48271 : Int)) fun x22=>(Kg x21 x22))) fun x25=>(Res.bind (Res.bind (Res.ok a17) fun x23=>(Res.bind (Res.ok (1000003 : Int)) fun x24=>(Jy x23 x24))) fun x26=>(Res.ok (x25 + x26)))) fun x27=>(Res.bind (Res.ok (1 : Int)) fun x28=>(Res.ok (x27 + x28)))) fun x29=>(Res.bind (Res.ok (2147483647 : Int)) fun x30=>(Jy x29 x30))) fun a19=>(Res.ok (a19))))) fun g31=>(Res.bind (Res.bind (Res.ok g31) fun x35=>(Res.bind (Res.bind (Res.ok (7919 : Int)) fun x33=>(Res.bind (Res.ok a_1) fun x34=>(Kg x33 x34))) fun x36=>(Res.ok (x35 + x36)))) fun x37=>(Res.bind (Res.ok (1000003 : Int)) fun x38=>(Jy x37 x38))))))))
noncomputable def Kw (a_0 : Int) (a_1 : Int) : Res Int:=(Res.bind (Res.bind (Res.bind (Res.bind (Res.bind (Res.bind (Res.ok a_0) fun x3=>(Res.bind (Res.ok (2147483629 : Int)) fun x4=>(Jy x3 x4))) fun x7=>(Res.bind (Res.bind (Res.ok (1013 : Int)) fun x5=>(Res.bind (Res.ok a_1) fun x6=>(Kg x5 x6))) fun x8=>(Res.ok (x7 + x8)))) fun x9=>(Res.bind (Res.ok (7919 : Int)) fun x10=>(Res.ok (x9 + x10)))) fun x11=>(Res.bind (Res.ok (3 : Int)) fun x12=>(IW x11 x12))) fun x13=>(Res.bind (Res.ok (2147483647 : Int)) fun x14=>(Jy x13 x14))) fun a1=>(Res.bind (Res.bind (Res.bind (Res.bind (Res.bind (Res.ok a1) fun x17=>(Res.bind (Res.ok (40699 : Int)) fun x18=>(Kg x17 x18))) fun x23=>(Res.bind (Res.bind (Res.bind (Res.ok (3793 : Int)) fun x19=>(Res.bind (Res.ok a_1) fun x20=>(Kg x19 x20))) fun x21=>(Res.bind (Res.ok a_1) fun x22=>(Kg x21 x22))) fun x24=>(Res.ok (x23 + x24)))) fun x25=>(Res.bind (Res.ok (11 : Int)) fun x26=>(Res.ok (x25 + x26)))) fun x27=>(Res.bind (Res.ok (2147483399 : Int)) fun x28=>(Jy x27 x28))) fun a15=>(Res.bind (Res.ok a15) fun x29=>(Res.bind (Res.ok (101 : Int)) fun x30=>(Hd x29 x30)))))
noncomputable def GR (a_0 : (List Int)) (a_1 : Int) (a_2 : (List Int)) : Res (List Int):=(Res.bind (Res.bind (Res.ok a_0) fun x4=>(Res.bind (Res.ok a_1) fun x5=>(noE (JZ x4 x5)))) fun a1=>(Res.bind (Res.ok a1) fun a6=>(Res.bind (Res.ok []) fun a8=>(Res.bind (Res.bind (Res.bind (Res.ok a_2) fun x11=>(Res.ok (x11.length : Int))) fun x12=>(QM 0 x12)) fun x81=>(Res.bind (forN x81 (a8, a6) (fun g15 a17=>(Res.bind (Res.bind (Res.bind (Res.ok a1) fun x21=>(Res.bind (Res.bind (Res.ok (10 : Int)) fun x19=>(Res.bind (Res.ok (18 : Int)) fun x20=>(IW x19 x20))) fun x22=>(Res.ok (decide (x21 < x22))))) fun x23=>(if x23 = true then (Res.bind (Res.bind (Res.bind (Res.ok a1) fun x27=>(Res.bind (Res.ok a17) fun x28=>(noE (Kw x27 x28)))) fun x31=>(Res.bind (Res.bind (Res.ok a_2) fun x29=>(Res.bind (Res.ok a17) fun x30=>(atR x29 x30))) fun x32=>(Jy x31 x32))) fun a33=>(chk (g15.1.length < sizeLine) ((fun a35=>(Res.ok (a35, g15.2))) (g15.1 ++ [a33])))) else (Res.bind (Res.bind (Res.bind (Res.ok g15.2) fun x36=>(Res.bind (Res.ok (0 : Int)) fun x37=>(Res.ok (decide (x37 < x36))))) fun x38=>(if x38 = true then (Res.bind (Res.bind (Res.ok g15.2) fun x43=>(Res.bind (Res.bind (Res.ok a_2) fun x41=>(Res.bind (Res.ok a17) fun x42=>(atR x41 x42))) fun x44=>(Jy x43 x44))) fun a45=>(chk (g15.1.length < sizeLine) ((fun a47=>(Res.bind (Res.bind (Res.ok g15.2) fun x52=>(Res.bind (Res.bind (Res.ok a_2) fun x50=>(Res.bind (Res.ok a17) fun x51=>(atR x50 x51))) fun x53=>(Hd x52 x53))) fun a48=>(Res.ok (a48, a47)))) (g15.1 ++ [a45])))) else (Res.bind (Res.bind (Res.ok a_0) fun x63=>(Res.bind (Res.bind (Res.bind (Res.bind (Res.ok a_1) fun x57=>(Res.bind (Res.ok (1 : Int)) fun x58=>(Res.ok (x57 + x58)))) fun x59=>(Res.bind (Res.ok a17) fun x60=>(Res.ok (x59 + x60)))) fun x61=>(Res.bind (Res.ok (63 : Int)) fun x62=>(Jy x61 x62))) fun x64=>(noE (JZ x63 x64)))) fun a54=>(Res.bind (Res.bind (Res.bind (Res.ok a54) fun x66=>(Res.bind (Res.ok a17) fun x67=>(noE (Kw x66 x67)))) fun x70=>(Res.bind (Res.bind (Res.ok a_2) fun x68=>(Res.bind (Res.ok a17) fun x69=>(atR x68 x69))) fun x71=>(Jy x70 x71))) fun a72=>(chk (g15.1.length < sizeLine) ((fun a74=>(Res.ok (g15.2, a74))) (g15.1 ++ [a72]))))))) fun g76=>(Res.ok (g76.2, g76.1))))) fun g78=>(Res.ok (g78.1, g78.2))))) fun g79=>(Res.ok g79.1))))))
noncomputable def Zj (a_0 : Int) (a_1 : Int) (a_2 : Int) (a_3 : Int) (a_4 : Int) : Res Int:=(Res.bind (Res.bind (Res.ok a_1) fun x3=>(Res.bind (Res.ok (2 : Int)) fun x4=>(Hd x3 x4))) fun a1=>(Res.bind (Res.bind (Res.ok a_0) fun x5=>(Res.bind (Res.ok (1 : Int)) fun x6=>(Res.ok (decide (x5 = x6))))) fun x7=>(if x7 = true then (Res.bind (Res.bind (Res.bind (Res.ok (2 : Int)) fun x8=>(Res.bind (Res.ok a_4) fun x9=>(Kg x8 x9))) fun x10=>(Res.bind (Res.ok a_3) fun x11=>(Res.ok (x10 - x11)))) fun x12=>(Res.bind (Res.ok a_1) fun x13=>(Jy x12 x13))) else (Res.bind (Res.bind (Res.ok a_0) fun x14=>(Res.bind (Res.ok (2 : Int)) fun x15=>(Res.ok (decide (x14 = x15))))) fun x16=>(if x16 = true then (Res.bind (Res.bind (Res.bind (Res.ok a_2) fun x17=>(Res.bind (Res.ok a_3) fun x18=>(Kg x17 x18))) fun x23=>(Res.bind (Res.bind (Res.bind (Res.ok (1 : Int)) fun x19=>(Res.bind (Res.ok a_2) fun x20=>(Res.ok (x19 - x20)))) fun x21=>(Res.bind (Res.ok a_4) fun x22=>(Kg x21 x22))) fun x24=>(Res.ok (x23 + x24)))) fun x25=>(Res.bind (Res.ok a_1) fun x26=>(Jy x25 x26))) else (Res.bind (Jc (Res.bind (Res.ok a_0) fun x27=>(Res.bind (Res.ok (3 : Int)) fun x28=>(Res.ok (decide (x27 = x28))))) (Jc (Res.bind (Res.ok a_1) fun x29=>(Res.bind (Res.ok (2 : Int)) fun x30=>(Res.ok (decide (x30 < x29))))) (Jc (Res.bind (Res.ok a_3) fun x31=>(Res.bind (Res.ok (2 : Int)) fun x32=>(Res.ok (decide (x31 < x32))))) (Res.bind (Res.ok a_4) fun x35=>(Res.bind (Res.bind (Res.ok a_1) fun x33=>(Res.bind (Res.ok (1 : Int)) fun x34=>(Res.ok (x33 - x34)))) fun x36=>(Res.ok (decide (x35 = x36)))))))) fun x37=>(if x37 = true then (Res.bind (Res.ok (1 : Int)) fun x38=>(Res.bind (Res.ok a_3) fun x39=>(Res.ok (x38 - x39)))) else (Res.bind (Jc (Res.bind (Res.ok a_0) fun x40=>(Res.bind (Res.ok (6 : Int)) fun x41=>(Res.ok (decide (x40 = x41))))) (Jc (Res.bind (Res.ok a_3) fun x44=>(Res.bind (Res.bind (Res.ok a_1) fun x42=>(Res.bind (Res.ok (1 : Int)) fun x43=>(Res.ok (x42 - x43)))) fun x45=>(Res.ok (decide (x44 < x45))))) (Res.bind (Res.ok a_4) fun x48=>(Res.bind (Res.bind (Res.ok a_1) fun x46=>(Res.bind (Res.ok (1 : Int)) fun x47=>(Res.ok (x46 - x47)))) fun x49=>(Res.ok (decide (x48 = x49))))))) fun x50=>(if x50 = true then (Res.bind (Res.bind (Res.ok a_3) fun x51=>(Res.bind (Res.ok (1 : Int)) fun x52=>(Res.ok (x51 + x52)))) fun x55=>(Res.bind (Res.bind (Res.ok a_1) fun x53=>(Res.bind (Res.ok (1 : Int)) fun x54=>(Res.ok (x53 - x54)))) fun x56=>(Jy x55 x56))) else (Res.bind (Jc (Res.bind (Res.ok a_0) fun x57=>(Res.bind (Res.ok (4 : Int)) fun x58=>(Res.ok (decide (x57 = x58))))) (Jc (Res.bind (Res.ok a_3) fun x59=>(Res.bind (Res.ok a1) fun x60=>(Res.ok (decide (x59 < x60))))) (Res.bind (Res.ok a_4) fun x61=>(Res.bind (Res.ok a1) fun x62=>(Res.ok (decide (x61 < x62))))))) fun x63=>(if x63 = true then (Res.bind (Res.bind (Res.bind (Res.ok (2 : Int)) fun x64=>(Res.bind (Res.ok a_4) fun x65=>(Kg x64 x65))) fun x66=>(Res.bind (Res.ok a_3) fun x67=>(Res.ok (x66 - x67)))) fun x68=>(Res.bind (Res.ok a1) fun x69=>(Jy x68 x69))) else (Res.bind (Jc (Res.bind (Res.ok a_0) fun x70=>(Res.bind (Res.ok (4 : Int)) fun x71=>(Res.ok (decide (x70 = x71))))) (Jc (Res.bind (Res.ok a_3) fun x72=>(Res.bind (Res.ok a1) fun x73=>(Res.ok (decide (x73 <= x72))))) (Res.bind (Res.ok a_4) fun x74=>(Res.bind (Res.ok a1) fun x75=>(Res.ok (decide (x75 <= x74))))))) fun x76=>(if x76 = true then (Res.bind (Res.ok a1) fun x87=>(Res.bind (Res.bind (Res.bind (Res.bind (Res.bind (Res.ok (2 : Int)) fun x77=>(Res.bind (Res.ok a_4) fun x78=>(Kg x77 x78))) fun x79=>(Res.bind (Res.ok a_3) fun x80=>(Res.ok (x79 - x80)))) fun x81=>(Res.bind (Res.ok a1) fun x82=>(Res.ok (x81 - x82)))) fun x85=>(Res.bind (Res.bind (Res.ok a_1) fun x83=>(Res.bind (Res.ok a1) fun x84=>(Res.ok (x83 - x84)))) fun x86=>(Jy x85 x86))) fun x88=>(Res.ok (x87 + x88)))) else (Res.ok a_3))))))))))))))
noncomputable def Qz (a_0 : Int) (a_1 : Int) : Res Int:=(Res.bind (Res.bind (Res.ok a_0) fun x1=>(Res.ok (x1.natAbs : Int))) fun a3=>(Res.bind (Res.bind (Res.ok a_1) fun x2=>(Res.ok (x2.natAbs : Int))) fun a4=>(Res.bind (Jq (a3.natAbs + a4.natAbs + 2) (a3, a4) (fun g9=>(Res.bind (Res.ok g9.2) fun x11=>(Res.bind (Res.ok (0 : Int)) fun x12=>(Res.ok (decide (x12 < x11)))))) (fun g9=>(Res.bind (Res.ok g9.2) fun a15=>(Res.bind (Res.bind (Res.ok g9.1) fun x13=>(Res.bind (Res.ok g9.2) fun x14=>(Jy x13 x14))) fun a16=>(Res.ok (a15, a16)))))) fun g19=>(Res.ok g19.1))))
noncomputable def VN (a_0 : Int) (a_1 : Int) (a_2 : Int) : Res (List (List Int)):=(Res.bind (Jc (Res.bind (Res.ok a_0) fun x1=>(Res.bind (Res.ok (5 : Int)) fun x2=>(Res.ok (decide (x1 = x2))))) (Res.bind (Res.ok a_1) fun x3=>(Res.bind (Res.ok (4 : Int)) fun x4=>(Res.ok (decide (x3 = x4)))))) fun x5=>(if x5 = true then (Res.bind (Res.bind (Res.bind (Res.bind (Res.ok (0 : Int)) fun x14=>(Res.bind (Res.bind (Res.ok (3 : Int)) fun x12=>(Res.bind (Res.bind (Res.ok (1 : Int)) fun x10=>(Res.bind (Res.bind (Res.ok (2 : Int)) fun x8=>(Res.bind (Res.ok []) fun x9=>(Res.ok (x8 :: x9)))) fun x11=>(Res.ok (x10 :: x11)))) fun x13=>(Res.ok (x12 :: x13)))) fun x15=>(Res.ok (x14 :: x15)))) fun x7=>(chk (x7.length <= sizeLine) (Res.ok x7))) fun x49=>(Res.bind (Res.bind (Res.bind (Res.bind (Res.ok (2 : Int)) fun x23=>(Res.bind (Res.bind (Res.ok (1 : Int)) fun x21=>(Res.bind (Res.bind (Res.ok (3 : Int)) fun x19=>(Res.bind (Res.bind (Res.ok (0 : Int)) fun x17=>(Res.bind (Res.ok []) fun x18=>(Res.ok (x17 :: x18)))) fun x20=>(Res.ok (x19 :: x20)))) fun x22=>(Res.ok (x21 :: x22)))) fun x24=>(Res.ok (x23 :: x24)))) fun x16=>(chk (x16.length <= sizeLine) (Res.ok x16))) fun x47=>(Res.bind (Res.bind (Res.bind (Res.bind (Res.ok (3 : Int)) fun x32=>(Res.bind (Res.bind (Res.ok (0 : Int)) fun x30=>(Res.bind (Res.bind (Res.ok (2 : Int)) fun x28=>(Res.bind (Res.bind (Res.ok (1 : Int)) fun x26=>(Res.bind (Res.ok []) fun x27=>(Res.ok (x26 :: x27)))) fun x29=>(Res.ok (x28 :: x29)))) fun x31=>(Res.ok (x30 :: x31)))) fun x33=>(Res.ok (x32 :: x33)))) fun x25=>(chk (x25.length <= sizeLine) (Res.ok x25))) fun x45=>(Res.bind (Res.bind (Res.bind (Res.bind (Res.ok (1 : Int)) fun x41=>(Res.bind (Res.bind (Res.ok (2 : Int)) fun x39=>(Res.bind (Res.bind (Res.ok (0 : Int)) fun x37=>(Res.bind (Res.bind (Res.ok (3 : Int)) fun x35=>(Res.bind (Res.ok []) fun x36=>(Res.ok (x35 :: x36)))) fun x38=>(Res.ok (x37 :: x38)))) fun x40=>(Res.ok (x39 :: x40)))) fun x42=>(Res.ok (x41 :: x42)))) fun x34=>(chk (x34.length <= sizeLine) (Res.ok x34))) fun x43=>(Res.bind (Res.ok []) fun x44=>(Res.ok (x43 :: x44)))) fun x46=>(Res.ok (x45 :: x46)))) fun x48=>(Res.ok (x47 :: x48)))) fun x50=>(Res.ok (x49 :: x50)))) fun x6=>(chk (x6.length <= sizeLine) (Res.ok x6))) else (Res.bind (Jq (a_1.natAbs + 2) (a_2) (fun g53=>(Res.bind (Res.bind (Res.ok g53) fun x56=>(Res.bind (Res.ok a_1) fun x57=>(noE (Qz x56 x57)))) fun x58=>(Res.bind (Res.ok (1 : Int)) fun x59=>(Res.ok (!(decide (x58 = x59))))))) (fun g53=>(Res.bind (Res.bind (Res.ok g53) fun x62=>(Res.bind (Res.ok (1 : Int)) fun x63=>(Res.ok (x62 + x63)))) fun a60=>(Res.ok (a60))))) fun g64=>(Res.bind (Res.ok []) fun a66=>(Res.bind (Res.bind (Res.ok a_1) fun x69=>(QM 0 x69)) fun x92=>(Res.bind (forN x92 (a66) (fun g72 a74=>(Res.bind (Res.bind (Res.bind (Res.ok a_1) fun x76=>(QM 0 x76)) fun x80=>(UD x80 (fun a78=>(Res.bind (Res.ok a_0) fun x82=>(Res.bind (Res.ok a_1) fun x83=>(Res.bind (Res.ok g64) fun x84=>(Res.bind (Res.ok a74) fun x85=>(Res.bind (Res.ok a78) fun x86=>(noE (Zj x82 x83 x84 x85 x86)))))))))) fun a87=>(chk (g72.length < sizeLine) ((fun a89=>(Res.ok (a89))) (g72 ++ [a87])))))) fun g90=>(Res.ok g90)))))))
noncomputable def ZK (a_0 : (List Int)) (a_1 : Int) : Res (List Int):=(Res.bind (Res.bind (Res.ok a_1) fun x4=>(chk (0 <= x4 /\ x4 <= 1000) (Res.ok (ZC 0 x4)))) fun a1=>(Res.bind (Res.ok []) fun a5=>(Res.bind (Res.bind (Res.ok a_1) fun x8=>(QM 0 x8)) fun x29=>(Res.bind (forN x29 (a5, a1) (fun g11 a13=>(Res.bind (Res.bind (Res.bind (Res.ok a_0) fun x15=>(Res.bind (Res.ok a13) fun x16=>(atR x15 x16))) fun x18=>(Res.bind (Res.bind (Res.ok g11.2) fun x17=>(Res.ok (x17.length : Int))) fun x19=>(Jy x18 x19))) fun x25=>(Res.bind (CA g11.2 x25) fun p26=>(chk (g11.1.length < sizeLine) ((fun a21 a22=>(Res.ok (a22, a21))) p26.2 (g11.1 ++ [p26.1]))))))) fun g27=>(Res.ok g27.1)))))
noncomputable def Zg (a_0 : (List (List Int))) (a_1 : (List Int)) : Res (List (List Int)):=(Res.bind (Res.bind (Res.ok a_0) fun x7=>(UD x7 (fun a5=>(Res.bind (Res.ok a5) fun x8=>(Res.ok x8))))) fun a1=>(Res.bind (Res.bind (Res.bind (Res.ok a_0) fun x9=>(Res.ok (x9.length : Int))) fun x10=>(QM 0 x10)) fun x47=>(Res.bind (forN x47 (a1) (fun g13 a15=>(Res.bind (Res.bind (Res.bind (Res.ok a_0) fun x17=>(Res.ok (x17.length : Int))) fun x18=>(QM 0 x18)) fun x44=>(Res.bind (forN x44 (g13) (fun g21 a23=>(Res.bind (Res.bind (Res.ok a_1) fun x29=>(Res.bind (Res.bind (Res.bind (Res.ok a_0) fun x25=>(Res.bind (Res.ok a15) fun x26=>(atR x25 x26))) fun x27=>(Res.bind (Res.ok a23) fun x28=>(atR x27 x28))) fun x30=>(atR x29 x30))) fun x35=>(Res.bind (Res.bind (Res.ok a_1) fun x31=>(Res.bind (Res.ok a15) fun x32=>(atR x31 x32))) fun x36=>(Res.bind (atR g21 x36) fun x40=>(Res.bind (Res.bind (Res.ok a_1) fun x33=>(Res.bind (Res.ok a23) fun x34=>(atR x33 x34))) fun x37=>(Res.bind (Kh x40 x37 x35) fun x41=>(Res.bind (Kh g21 x36 x41) fun a38=>(Res.ok (a38)))))))))) fun g42=>(Res.ok (g42)))))) fun g45=>(Res.ok g45))))
noncomputable def QA (a_0 : Int) : Res Bool:=(Jc (Res.bind (Res.ok a_0) fun x1=>(Res.ok true)) (Res.bind (Res.bind (Res.ok a_0) fun x2=>(Res.ok false)) fun x3=>(Res.ok (!x3))))
noncomputable def Zh (a_0 : (List (List Int))) (a_1 : Int) : Res Bool:=(Res.bind (orR (Res.bind (Res.bind (Res.ok a_0) fun x1=>(Res.ok true)) fun x2=>(Res.ok (!x2))) (Res.bind (Res.bind (Res.ok a_0) fun x3=>(Res.ok (x3.length : Int))) fun x4=>(Res.bind (Res.ok a_1) fun x5=>(Res.ok (!(decide (x4 = x5))))))) fun x6=>(if x6 = true then (Res.ok false) else (Res.bind (Res.ok a_0) fun x38=>(Res.bind (forC x38 () (fun g9 a11=>(Res.bind (orR (Res.bind (Res.bind (Res.ok a11) fun x13=>(Res.ok true)) fun x14=>(Res.ok (!x14))) (Res.bind (Res.bind (Res.ok a11) fun x15=>(Res.ok (x15.length : Int))) fun x16=>(Res.bind (Res.ok a_1) fun x17=>(Res.ok (!(decide (x16 = x17))))))) fun x18=>(if x18 = true then (Res.bind (Res.ok false) fun x35=>(Res.ok (Ctl.ret x35))) else (Res.bind (Res.ok a11) fun x34=>(Res.bind (forC x34 () (fun g21 a23=>(Res.bind (Res.bind (Res.bind (Res.ok a23) fun x26=>(noE (QA x26))) fun x27=>(Res.ok (!x27))) fun x28=>(if x28 = true then (Res.bind (Res.ok false) fun x30=>(Res.ok (Ctl.ret x30))) else (Res.bind (Res.ok ()) fun x29=>(Res.ok (Ctl.nx x29))))))) (Zd fun g31=>(Res.bind (Res.ok ()) fun x33=>(Res.ok (Ctl.nx x33)))))))))) (Zu fun g36=>(Res.ok true))))))
noncomputable def VG (a_0 : (List (List Int))) : Res Bool:=(Res.bind (Res.bind (Res.ok a_0) fun x3=>(Res.ok (x3.length : Int))) fun a1=>(Res.bind (Res.bind (Res.ok a1) fun x4=>(QM 0 x4)) fun x104=>(Res.bind (forC x104 () (fun g7 a9=>(Res.bind (Res.bind (Res.bind (Res.bind (Res.ok a_0) fun x11=>(Res.bind (Res.ok a9) fun x12=>(atR x11 x12))) fun x13=>(Res.bind (Res.ok a9) fun x14=>(atR x13 x14))) fun x15=>(Res.bind (Res.ok a9) fun x16=>(Res.ok (!(decide (x15 = x16)))))) fun x17=>(if x17 = true then (Res.bind (Res.ok false) fun x19=>(Res.ok (Ctl.ret x19))) else (Res.bind (Res.ok ()) fun x18=>(Res.ok (Ctl.nx x18))))))) (Zu fun g20=>(Res.bind (Res.bind (Res.ok a1) fun x22=>(QM 0 x22)) fun x103=>(Res.bind (forC x103 () (fun g25 a27=>(Res.bind (Res.bind (Res.bind (Res.bind (Res.ok a_0) fun x33=>(UD x33 (fun a31=>(Res.bind (Res.ok a31) fun x34=>(Res.bind (Res.ok a27) fun x35=>(atR x34 x35)))))) fun x29=>(chk (x29.length < 64) (Res.ok (Vx x29)))) fun x37=>(Res.bind (Res.bind (Res.ok a1) fun x36=>(chk (0 <= x36 /\ x36 <= 1000) (Res.ok (ZC 0 x36)))) fun x38=>(Res.ok (!(decide (x37 = x38)))))) fun x39=>(if x39 = true then (Res.bind (Res.ok false) fun x41=>(Res.ok (Ctl.ret x41))) else (Res.bind (Res.ok ()) fun x40=>(Res.ok (Ctl.nx x40))))))) (Zu fun g42=>(Res.bind (Res.bind (Res.ok a1) fun x44=>(QM 0 x44)) fun x102=>(Res.bind (forC x102 () (fun g47 a49=>(Res.bind (Res.bind (Res.ok a1) fun x51=>(QM 0 x51)) fun x99=>(Res.bind (forC x99 () (fun g54 a56=>(Res.bind (Res.bind (Res.ok a1) fun x58=>(QM 0 x58)) fun x95=>(Res.bind (forC x95 () (fun g61 a63=>(Res.bind (Res.bind (Res.bind (Res.ok a_0) fun x71=>(Res.bind (Res.bind (Res.bind (Res.ok a_0) fun x67=>(Res.bind (Res.ok a49) fun x68=>(atR x67 x68))) fun x69=>(Res.bind (Res.ok a56) fun x70=>(atR x69 x70))) fun x72=>(atR x71 x72))) fun x73=>(Res.bind (Res.ok a63) fun x74=>(atR x73 x74))) fun a65=>(Res.bind (Res.bind (Res.ok a65) fun x87=>(Res.bind (Res.bind (Res.bind (Res.ok a_0) fun x79=>(Res.bind (Res.bind (Res.bind (Res.ok a_0) fun x75=>(Res.bind (Res.ok a49) fun x76=>(atR x75 x76))) fun x77=>(Res.bind (Res.ok a63) fun x78=>(atR x77 x78))) fun x80=>(atR x79 x80))) fun x85=>(Res.bind (Res.bind (Res.bind (Res.ok a_0) fun x81=>(Res.bind (Res.ok a56) fun x82=>(atR x81 x82))) fun x83=>(Res.bind (Res.ok a63) fun x84=>(atR x83 x84))) fun x86=>(atR x85 x86))) fun x88=>(Res.ok (!(decide (x87 = x88)))))) fun x89=>(if x89 = true then (Res.bind (Res.ok false) fun x91=>(Res.ok (Ctl.ret x91))) else (Res.bind (Res.ok ()) fun x90=>(Res.ok (Ctl.nx x90)))))))) (Zd fun g92=>(Res.bind (Res.ok ()) fun x94=>(Res.ok (Ctl.nx x94)))))))) (Zd fun g96=>(Res.bind (Res.ok ()) fun x98=>(Res.ok (Ctl.nx x98)))))))) (Zu fun g100=>(Res.ok true)))))))))))
noncomputable def JG (a_0 : (List (List Int))) (a_1 : (List (List Int))) (a_2 : (List Int)) : Res Bool:=(Res.bind (Res.bind (Res.ok a_2) fun x3=>(Res.ok (x3.length : Int))) fun a1=>(Res.bind (Res.bind (Res.ok a1) fun x4=>(QM 0 x4)) fun x47=>(Res.bind (forC x47 () (fun g7 a9=>(Res.bind (Res.bind (Res.ok a1) fun x11=>(QM 0 x11)) fun x44=>(Res.bind (forC x44 () (fun g14 a16=>(Res.bind (Res.bind (Res.bind (Res.ok a_0) fun x20=>(Res.bind (Res.ok a9) fun x21=>(atR x20 x21))) fun x22=>(Res.bind (Res.ok a16) fun x23=>(atR x22 x23))) fun a18=>(Res.bind (Jc (Res.bind (Res.ok a18) fun x24=>(Res.bind (Res.ok a1) fun x25=>(Res.ok (decide (x24 < x25))))) (Res.bind (Res.bind (Res.bind (Res.ok a_1) fun x28=>(Res.bind (Res.bind (Res.ok a_2) fun x26=>(Res.bind (Res.ok a9) fun x27=>(atR x26 x27))) fun x29=>(atR x28 x29))) fun x32=>(Res.bind (Res.bind (Res.ok a_2) fun x30=>(Res.bind (Res.ok a16) fun x31=>(atR x30 x31))) fun x33=>(atR x32 x33))) fun x36=>(Res.bind (Res.bind (Res.ok a_2) fun x34=>(Res.bind (Res.ok a18) fun x35=>(atR x34 x35))) fun x37=>(Res.ok (!(decide (x36 = x37))))))) fun x38=>(if x38 = true then (Res.bind (Res.ok false) fun x40=>(Res.ok (Ctl.ret x40))) else (Res.bind (Res.ok ()) fun x39=>(Res.ok (Ctl.nx x39)))))))) (Zd fun g41=>(Res.bind (Res.ok ()) fun x43=>(Res.ok (Ctl.nx x43)))))))) (Zu fun g45=>(Res.ok true)))))
noncomputable def Qu (a_0 : (List Int)) (a_1 : Int) : Res (List (List Int)):=(Res.bind (Res.bind (Res.ok a_1) fun x1=>(QM 0 x1)) fun x5=>(Bx x5 (fun a3=>(Res.bind (Res.ok a3) fun x11=>(Res.bind (Res.ok a_0) fun x12=>(Res.ok (!(decide (x11 ∈ x12))))))) (fun a3=>(Res.bind (Res.ok a_0) fun x6=>(Res.bind (Res.bind (Res.bind (Res.ok a3) fun x9=>(Res.bind (Res.ok []) fun x10=>(Res.ok (x9 :: x10)))) fun x8=>(chk (x8.length <= sizeLine) (Res.ok x8))) fun x7=>(Hl x6 x7))))))
noncomputable def YW (a_0 : (List (List Int))) (a_1 : (List (List Int))) : Res (List (List Int)):=(Res.bind (Res.bind (Res.bind (Res.ok a_0) fun x1=>(Res.ok (x1.length : Int))) fun x3=>(Res.bind (Res.bind (Res.ok a_1) fun x2=>(Res.ok (x2.length : Int))) fun x4=>(Res.ok (!(decide (x3 = x4)))))) fun x5=>(if x5 = true then (Res.ok []) else (Res.bind (Res.bind (Res.bind (Res.ok []) fun x10=>(Res.bind (Res.ok []) fun x11=>(Res.ok (x10 :: x11)))) fun x9=>(chk (x9.length <= sizeLine) (Res.ok x9))) fun a6=>(Res.bind (Res.bind (Res.bind (Res.ok a_0) fun x12=>(Res.ok (x12.length : Int))) fun x13=>(QM 0 x13)) fun x64=>(Res.bind (forN x64 (a6) (fun g16 a18=>(Res.bind (Res.ok []) fun a20=>(Res.bind (Res.ok g16) fun x61=>(Res.bind (forN x61 (a20) (fun g25 a27=>(Res.bind (Res.bind (Res.ok a27) fun x31=>(Res.bind (Res.bind (Res.ok a_0) fun x30=>(Res.ok (x30.length : Int))) fun x32=>(noE (Qu x31 x32)))) fun x55=>(Res.bind (forN x55 (g25) (fun g35 a37=>(Res.bind (Res.bind (Res.bind (Res.ok a_0) fun x42=>(Res.bind (Res.ok a_1) fun x43=>(Res.bind (Res.ok a37) fun x44=>(noE (JG x42 x43 x44))))) fun x45=>(if x45 = true then (Res.bind (Res.ok a37) fun a48=>(chk (g35.length < sizeLine) ((fun a50=>(Res.ok (a50))) (g35 ++ [a48])))) else (Res.ok (g35)))) fun g52=>(Res.ok (g52))))) fun g53=>(Res.ok (g53)))))) fun g56=>(Res.bind (Res.ok g56) fun a58=>(Res.ok (a58)))))))) fun g62=>(Res.ok g62))))))
noncomputable def Ju (a_0 : Int) (a_1 : Int) : Res (List (List Int)):=(Res.bind (Res.ok []) fun a1=>(Res.bind (Res.bind (Res.ok a_1) fun x4=>(QM 0 x4)) fun x70=>(Res.bind (forN x70 (a1) (fun g7 a9=>(Res.bind (Res.ok []) fun a11=>(Res.bind (Res.bind (Res.ok a_1) fun x14=>(QM 0 x14)) fun x67=>(Res.bind (forN x67 (a11) (fun g17 a19=>(Res.bind (Res.ok a9) fun a21=>(Res.bind (Res.bind (Jc (Res.bind (Res.ok a_0) fun x23=>(Res.bind (Res.ok (0 : Int)) fun x24=>(Res.ok (decide (x23 = x24))))) (Jc (Res.bind (Res.ok a9) fun x25=>(Res.bind (Res.ok (2 : Int)) fun x26=>(Res.ok (decide (x25 < x26))))) (Res.bind (Res.ok a19) fun x29=>(Res.bind (Res.bind (Res.ok a_1) fun x27=>(Res.bind (Res.ok (2 : Int)) fun x28=>(Res.ok (x27 - x28)))) fun x30=>(Res.ok (decide (x30 <= x29))))))) fun x31=>(if x31 = true then (Res.bind (Res.bind (Res.ok (1 : Int)) fun x36=>(Res.bind (Res.ok a9) fun x37=>(Res.ok (x36 - x37)))) fun a34=>(Res.ok (a34))) else (Res.ok (a21)))) fun g39=>(Res.bind (Res.bind (Jc (Res.bind (Res.ok a_0) fun x40=>(Res.bind (Res.ok (1 : Int)) fun x41=>(Res.ok (decide (x40 = x41))))) (Jc (Res.bind (Res.ok a9) fun x42=>(Res.bind (Res.ok (3 : Int)) fun x43=>(Res.ok (decide (x42 < x43))))) (Res.bind (Res.ok a19) fun x44=>(Res.bind (Res.ok (3 : Int)) fun x45=>(Res.ok (decide (x44 < x45))))))) fun x46=>(if x46 = true then (Res.bind (Res.bind (Res.bind (Res.bind (Res.ok (2 : Int)) fun x51=>(Res.bind (Res.ok a19) fun x52=>(Kg x51 x52))) fun x53=>(Res.bind (Res.ok a9) fun x54=>(Res.ok (x53 - x54)))) fun x55=>(Res.bind (Res.ok (3 : Int)) fun x56=>(Jy x55 x56))) fun a49=>(Res.ok (a49))) else (Res.ok (g39)))) fun g58=>(Res.bind (Res.ok g58) fun a59=>(chk (g17.length < sizeLine) ((fun a61=>(Res.ok (a61))) (g17 ++ [a59]))))))))) fun g62=>(Res.bind (Res.ok g62) fun a64=>(chk (g7.length < sizeLine) ((fun a66=>(Res.ok (a66))) (g7 ++ [a64]))))))))) fun g68=>(Res.ok g68))))
noncomputable def Vu (a_0 : Int) : Res (List (List Int)):=(Res.bind (Res.bind (Res.bind (Res.ok []) fun x5=>(Res.bind (Res.ok []) fun x6=>(Res.ok (x5 :: x6)))) fun x4=>(chk (x4.length <= sizeLine) (Res.ok x4))) fun a1=>(Res.bind (Res.bind (Res.ok a_0) fun x7=>(QM 0 x7)) fun x37=>(Res.bind (forN x37 (a1) (fun g10 a12=>(Res.bind (Res.ok []) fun a14=>(Res.bind (Res.ok g10) fun x34=>(Res.bind (forN x34 (a14) (fun g19 a21=>(Res.bind (Res.bind (Res.ok a21) fun x24=>(Res.bind (Res.ok a_0) fun x25=>(noE (Qu x24 x25)))) fun a26=>(chk (g19.length + a26.length <= sizeLine) ((fun a28=>(Res.ok (a28))) (g19 ++ a26)))))) fun g29=>(Res.bind (Res.ok g29) fun a31=>(Res.ok (a31)))))))) fun g35=>(Res.ok g35))))
noncomputable def ZZ (a_0 : (List (List (List Int)))) (a_1 : Int) (a_2 : (List (List Int))) : Res Bool:=(Res.bind (Res.bind (Res.bind (Res.ok a_0) fun x1=>(Res.ok true)) fun x2=>(Res.ok (!x2))) fun x3=>(if x3 = true then (Res.ok false) else (Res.bind (Res.bind (Res.bind (Res.ok a_0) fun x4=>(Res.ok (x4.length : Int))) fun x5=>(QM 0 x5)) fun x91=>(Res.bind (forC x91 () (fun g8 a10=>(Res.bind (orR (Res.bind (Res.bind (Res.bind (Res.ok a_0) fun x13=>(Res.bind (Res.ok a10) fun x14=>(atR x13 x14))) fun x15=>(Res.bind (Res.ok a_1) fun x16=>(noE (Zh x15 x16)))) fun x17=>(Res.ok (!x17))) (Res.bind (Res.bind (Res.bind (Res.ok a_0) fun x19=>(Res.bind (Res.ok a10) fun x20=>(atR x19 x20))) fun x21=>(noE (VG x21))) fun x22=>(Res.ok (!x22)))) fun x23=>(if x23 = true then (Res.bind (Res.ok false) fun x61=>(Res.ok (Ctl.ret x61))) else (Res.bind (Jc (Res.bind (Res.ok a10) fun x24=>(Res.bind (Res.ok (0 : Int)) fun x25=>(Res.ok (decide (x25 < x24))))) (Res.bind (Res.bind (Res.bind (Res.ok a_0) fun x28=>(Res.bind (Res.bind (Res.ok a10) fun x26=>(Res.bind (Res.ok (1 : Int)) fun x27=>(Res.ok (x26 - x27)))) fun x29=>(atR x28 x29))) fun x32=>(Res.bind (Res.bind (Res.ok a_0) fun x30=>(Res.bind (Res.ok a10) fun x31=>(atR x30 x31))) fun x33=>(Res.ok (ltG (ltG ltI) x32 x33)))) fun x34=>(Res.ok (!x34)))) fun x35=>(if x35 = true then (Res.bind (Res.ok false) fun x60=>(Res.ok (Ctl.ret x60))) else (Res.bind (Res.bind (Res.ok a10) fun x36=>(QM 0 x36)) fun x59=>(Res.bind (forC x59 () (fun g39 a41=>(Res.bind (Res.bind (Res.bind (Res.bind (Res.bind (Res.ok a_0) fun x44=>(Res.bind (Res.ok a41) fun x45=>(atR x44 x45))) fun x48=>(Res.bind (Res.bind (Res.ok a_0) fun x46=>(Res.bind (Res.ok a10) fun x47=>(atR x46 x47))) fun x49=>(noE (YW x48 x49)))) fun x50=>(Res.ok (x50.length : Int))) fun x51=>(Res.bind (Res.ok (0 : Int)) fun x52=>(Res.ok (decide (x52 < x51))))) fun x53=>(if x53 = true then (Res.bind (Res.ok false) fun x55=>(Res.ok (Ctl.ret x55))) else (Res.bind (Res.ok ()) fun x54=>(Res.ok (Ctl.nx x54))))))) (Zd fun g56=>(Res.bind (Res.ok ()) fun x58=>(Res.ok (Ctl.nx x58)))))))))))) (Zu fun g62=>(Res.bind (Res.bind (Res.ok a_0) fun x69=>(Bx x69 (fun a67=>(Res.bind (Res.bind (Res.bind (Res.ok a_2) fun x71=>(Res.bind (Res.ok a67) fun x72=>(noE (YW x71 x72)))) fun x73=>(Res.ok (x73.length : Int))) fun x74=>(Res.bind (Res.ok (0 : Int)) fun x75=>(Res.ok (decide (x75 < x74)))))) (fun a67=>(Res.ok a67)))) fun a64=>(Res.bind (Res.ok a64) fun x89=>(Res.bind (Res.bind (Res.bind (Res.bind (Res.bind (Res.bind (Res.ok a_1) fun x79=>(noE (Vu x79))) fun x83=>(UD x83 (fun a81=>(Res.bind (Res.ok a_2) fun x85=>(Res.bind (Res.ok a81) fun x86=>(noE (Zg x85 x86))))))) (EV (ltG (ltG ltI)))) fun x87=>(Res.bind (Res.ok []) fun x88=>(Res.ok (x87 :: x88)))) fun x76=>(chk (x76.length <= sizeLine) (Res.ok x76))) fun x90=>(Res.ok (decide (x89 = x90)))))))))))
noncomputable def Ji (a_0 : (List (List (List Int)))) (a_1 : Int) : Res (Bool × (List (List (List Int)))):=(chk (∀ t ∈ a_0, ∀ row ∈ t, row.length < sizeLine) ((fun (a4 : List (List (List Int)))=>(Res.bind (Cg (fun a7=>(Res.bind (Res.bind (Res.ok a7) fun x9=>(Res.ok (x9.length : Int))) fun x12=>(Res.bind (Res.bind (Res.ok a_1) fun x10=>(Res.bind (Res.ok (1 : Int)) fun x11=>(Res.ok (x10 + x11)))) fun x13=>(Res.ok (!(decide (x12 = x13))))))) (List.flatten a4)) fun x8=>(Res.ok (x8, a4)))) (a_0.map (fun t=>t.map (· ++ [9])))))
noncomputable def KB (a_0 : (List Int)) : Res Bool:=(Res.bind (Res.bind (Res.ok a_0) fun x20=>(Res.bind (Res.ok (1 : Int)) fun x21=>(Res.bind (Res.bind (Res.bind (Res.bind (Res.ok (4 : Int)) fun x13=>(Res.bind (Res.bind (Res.ok (9 : Int)) fun x11=>(Res.bind (Res.bind (Res.ok (2 : Int)) fun x9=>(Res.bind (Res.bind (Res.ok (3 : Int)) fun x7=>(Res.bind (Res.ok []) fun x8=>(Res.ok (x7 :: x8)))) fun x10=>(Res.ok (x9 :: x10)))) fun x12=>(Res.ok (x11 :: x12)))) fun x14=>(Res.ok (x13 :: x14)))) fun x6=>(chk (x6.length <= sizeLine) (Res.ok x6))) fun x4=>(Res.bind (Res.bind (Res.bind (Res.bind (Res.ok (24 : Int)) fun x18=>(Res.bind (Res.ok []) fun x19=>(Res.ok (x18 :: x19)))) fun x17=>(chk (x17.length <= sizeLine) (Res.ok x17))) fun x15=>(Res.bind (Res.ok (4 : Int)) fun x16=>(Lg x15 x16))) fun x5=>(Hl x4 x5))) fun x22=>(noE (GR x20 x21 x22))))) fun a1=>(Res.bind (Res.ok (4 : Int)) fun a23=>(Res.bind (Res.bind (Res.bind (Res.bind (Res.ok a1) fun x25=>(Res.bind (Res.ok (3 : Int)) fun x26=>(atR x25 x26))) fun x27=>(Res.bind (Res.ok (0 : Int)) fun x28=>(Res.ok (decide (x28 < x27))))) fun x29=>(if x29 = true then (Res.bind (Res.bind (Res.ok (1 : Int)) fun x38=>(Res.bind (Res.bind (Res.bind (Res.ok a1) fun x34=>(Res.bind (Res.ok (0 : Int)) fun x35=>(atR x34 x35))) fun x36=>(Res.bind (Res.ok (3 : Int)) fun x37=>(Jy x36 x37))) fun x39=>(Res.ok (x38 + x39)))) fun a32=>(Res.ok (a32))) else (Res.ok (a23)))) fun g41=>(Res.bind (Res.bind (Res.bind (Res.bind (Res.ok a1) fun x45=>(Res.bind (Res.ok (1 : Int)) fun x46=>(atR x45 x46))) fun x47=>(Res.bind (Res.ok (7 : Int)) fun x48=>(Jy x47 x48))) fun x53=>(Res.bind (Res.ok g41) fun x54=>(Res.bind (Res.bind (Res.ok (1 : Int)) fun x51=>(Res.bind (Res.bind (Res.ok a1) fun x49=>(Res.bind (Res.ok (2 : Int)) fun x50=>(atR x49 x50))) fun x52=>(Res.ok (x51 + x52)))) fun x55=>(noE (VN x53 x54 x55))))) fun a42=>(Res.bind (Res.bind (Jc (Res.bind (Res.ok g41) fun x56=>(Res.bind (Res.ok (4 : Int)) fun x57=>(Res.ok (decide (x56 = x57))))) (Res.bind (Res.bind (Res.ok a1) fun x58=>(Res.bind (Res.ok (1 : Int)) fun x59=>(atR x58 x59))) fun x60=>(Res.bind (Res.ok (6 : Int)) fun x61=>(Res.ok (decide (x61 < x60)))))) fun x62=>(if x62 = true then (Res.bind (Res.bind (Res.bind (Res.bind (Res.ok a1) fun x68=>(Res.bind (Res.ok (1 : Int)) fun x69=>(atR x68 x69))) fun x70=>(Res.bind (Res.ok (7 : Int)) fun x71=>(Res.ok (x70 - x71)))) fun x72=>(Res.bind (Res.ok (4 : Int)) fun x73=>(noE (Ju x72 x73)))) fun a65=>(Res.ok (a65))) else (Res.ok (a42)))) fun g75=>(Res.bind (Res.bind (Res.ok g75) fun x86=>(Res.bind (Res.bind (Res.bind (Res.ok a1) fun x81=>(Res.bind (Res.bind (Res.ok (4 : Int)) fun x80=>(Res.ok (some x80))) fun x82=>(Res.bind (Res.ok none) fun x83=>(Res.ok (FM x81 x82 x83))))) fun x84=>(Res.bind (Res.ok g41) fun x85=>(noE (ZK x84 x85)))) fun x87=>(noE (Zg x86 x87)))) fun a76=>(Res.bind (Res.bind (Res.ok g41) fun x92=>(noE (ZF x92))) fun a88=>(Res.bind (Res.bind (Res.bind (Res.ok a88) fun x94=>(Res.bind (Res.ok g41) fun x95=>(Res.bind (Res.ok a76) fun x96=>(noE (ZZ x94 x95 x96))))) fun x97=>(Res.ok (!x97))) fun x98=>(if x98 = true then (Res.ok false) else (Res.bind (Res.bind (Res.ok a88) fun x101=>(Res.ok (x101.length : Int))) fun a99=>(Res.bind (Res.ok g41) fun x102=>(Res.bind (noE (Ji a88 x102)) fun b103=>(if b103.1 = true then ((fun (a104 : (List (List (List Int))))=>(Res.bind (Res.ok []) fun a106=>(chk (a104.length < sizeLine) ((fun a108=>(Res.bind (Res.bind (Res.ok g41) fun x112=>(noE (ZF x112))) fun a109=>(Jc (Res.bind (Res.bind (Res.ok a109) fun x113=>(Res.ok (x113.length : Int))) fun x114=>(Res.bind (Res.ok a99) fun x115=>(Res.ok (decide (x114 = x115))))) (orR (Res.bind (Res.ok g41) fun x116=>(Res.bind (Res.ok (3 : Int)) fun x117=>(Res.ok (decide (x117 < x116))))) (Res.bind (Res.ok a109) fun x119=>(Res.bind (Res.ok g41) fun x120=>(Res.bind (Res.ok a76) fun x121=>(noE (ZZ x119 x120 x121))))))))) (a104 ++ [a106]))))) b103.2) else Res.ok false)))))))))))))
end My
namespace L2
open PySem
section
variable {α β γ ρ : Type}
theorem Res.okb (a : α) (f : α -> Res β) : (Res.ok a).bind f = f a:=(Eq.refl (f a)).symm.symm
theorem DH {f : α -> Res β} {h : α -> β} : ∀ {as : List α}, (∀ a ∈ as, f a = .ok (h a)) -> GL as f = .ok (as.map h)
  | [], _=>rfl
  | a :: as, hf=>by
    show (f a).bind _ = _
    rw [hf a (by simp), Res.ok_bind, DH fun b hb=>hf b (by simp [hb])]; rfl
theorem DT {f : α -> Res β} {h : α -> β} {as : List α} (hl : as.length <= sizeLine) (hf : ∀ a ∈ as, f a = .ok (h a)) : UD as f = .ok (as.map h):=by
  unfold UD; rw [Yp hl]; exact DH hf
theorem UG {f : γ -> α -> Res γ} (P : Nat -> γ -> Prop) : ∀ (as : List α) (k : Nat) (g : γ), P k g -> (∀ i a g, as[i]? = some a -> P (k + i) g -> ∃ g', f g a = .ok g' /\ P (k + i + 1) g') -> ∃ g', forN as g f = .ok g' /\ P (k + as.length) g'
  | [], k, g, h0, _=>⟨g, rfl, h0⟩
  | a :: as, k, g, h0, hs=>by
    obtain ⟨g1, e1, p1⟩:=hs 0 a g rfl h0
    obtain ⟨g2, e2, p2⟩:=UG P as (k + 1) g1 p1 fun i b g hb hp=>by
      obtain ⟨g', e', p'⟩:=hs (i + 1) b g (by simpa using hb) (by rw [show k + (i + 1) = k + 1 + i by omega]; exact hp)
      exact ⟨g', e', by rw [show k + 1 + i + 1 = k + (i + 1) + 1 by omega]; exact p'⟩
    refine ⟨g2, ?_, by rw [List.length_cons, show k + (as.length + 1) = k + 1 + as.length by omega]; exact p2⟩
    show (f g a).bind _ = _
    rw [e1, Res.ok_bind]; exact e2
theorem KS {f : γ -> α -> Res γ} (P : Nat -> γ -> Prop) {as : List α} {g : γ} (h0 : P 0 g) (hs : ∀ i a g, as[i]? = some a -> P i g -> ∃ g', f g a = .ok g' /\ P (i + 1) g') : ∃ g', forN as g f = .ok g' /\ P as.length g':=by
  have:=UG P as 0 g h0 (by simpa using hs)
  simpa using this
theorem UO {f : List β -> α -> Res (List β)} {h : α -> β} : ∀ {as : List α} {g : List β}, g.length + as.length <= sizeLine -> (∀ g : List β, g.length < sizeLine -> ∀ a ∈ as, f g a = .ok (g ++ [h a])) -> forN as g f = .ok (g ++ as.map h)
  | [], g, _, _=>by simp [forN]
  | a :: as, g, hl, hf=>by
    show (f g a).bind _ = _
    rw [List.length_cons] at hl
    rw [hf g (by omega) a (by simp), Res.ok_bind, UO (by simp; omega) fun g hg b hb=>hf g hg b (by simp [hb])]
    simp
theorem QV {f : γ -> α -> Res (Ctl ρ γ)} : ∀ {as : List α} {g : γ}, (∀ a ∈ as, f g a = .ok (.nx g)) -> forC as g f = .ok (.nx g)
  | [], _, _=>rfl
  | a :: as, g, hf=>by
    show (f g a).bind _ = _
    rw [hf a (by simp), Res.ok_bind]
    exact QV fun b hb=>hf b (by simp [hb])
theorem U8 {f : γ -> α -> Res (Ctl ρ γ)} (P : Nat -> γ -> Prop) : ∀ (as : List α) (k : Nat) (g : γ), P k g -> (∀ i a g, as[i]? = some a -> P (k + i) g -> ∃ g', f g a = .ok (.nx g') /\ P (k + i + 1) g') -> ∃ g', forC as g f = .ok (.nx g') /\ P (k + as.length) g'
  | [], k, g, h0, _=>⟨g, rfl, h0⟩
  | a :: as, k, g, h0, hs=>by
    obtain ⟨g1, e1, p1⟩:=hs 0 a g rfl h0
    obtain ⟨g2, e2, p2⟩:=U8 P as (k + 1) g1 p1 fun i b g hb hp=>by
      obtain ⟨g', e', p'⟩:=hs (i + 1) b g (by simpa using hb) (by rw [show k + (i + 1) = k + 1 + i by omega]; exact hp)
      exact ⟨g', e', by rw [show k + 1 + i + 1 = k + (i + 1) + 1 by omega]; exact p'⟩
    refine ⟨g2, ?_, by rw [List.length_cons, show k + (as.length + 1) = k + 1 + as.length by omega]; exact p2⟩
    show (f g a).bind _ = _
    rw [e1, Res.ok_bind]; exact e2
theorem Bj {f : γ -> α -> Res (Ctl ρ γ)} (P : Nat -> γ -> Prop) {as : List α} {g : γ} (h0 : P 0 g) (hs : ∀ i a g, as[i]? = some a -> P i g -> ∃ g', f g a = .ok (.nx g') /\ P (i + 1) g') : ∃ g', forC as g f = .ok (.nx g') /\ P as.length g':=by
  have:=U8 P as 0 g h0 (by simpa using hs)
  simpa using this
theorem YS {a b : Int} (h : 0 < b) : Jy a b = .ok (a % b):=Yp h
theorem V2 {a b : Int} (h1 : -(2 ^ 64) < a) (h2 : a < 2 ^ 64) : Kg a b = .ok (a * b):=Yp (.inl ⟨h1, h2⟩)
theorem Vh {a b : Int} (h1 : -(2 ^ 64) < b) (h2 : b < 2 ^ 64) : Kg a b = .ok (a * b):=Yp (.inr ⟨h1, h2⟩)
theorem FG {a b : Int} (h : 0 < b) (h2 : b < 2 ^ 250) : Hd a b = .ok (a / b):=Yp ⟨h, by
  have h3 : b.natAbs < 2 ^ 250:=by omega
  rcases Nat.eq_zero_or_pos b.natAbs with h0 | h0
  . omega
  . have := (Nat.log2_lt (by omega)).mpr h3
    omega⟩
theorem BD {a b : Int} (h0 : 0 <= b) (h1 : b <= 1000000) (h2 : -(2 ^ 64) < a) (h3 : a < 2 ^ 64) : IW a b = .ok (a ^ b.toNat):=Yp ⟨h0, h1, by omega⟩
theorem Z2 {as : List α} {i : Nat} {a : α} (h : as[i]? = some a) : atR as (i : Int) = .ok a:=by
  have hlt:=(List.getElem?_eq_some_iff.mp h).1
  unfold atR atI ixN
  rw [if_pos (by omega), if_pos (by omega)]
  simp [h]
theorem Iv {as : List α} {i : Int} {a : α} (h0 : 0 <= i) (h : as[i.toNat]? = some a) : atR as i = .ok a:=by
  have : i = (i.toNat : Int):=by omega
  rw [this]; exact Z2 h
theorem Vk {n : Nat} (h : n < 2 ^ 62) : QM 0 (n : Int) = .ok ((List.range n).map fun (i : Nat)=>(i : Int)):=by
  unfold QM
  rw [Yp (by omega)]
  unfold ZC
  congr 1
  rw [Int.sub_zero, Int.toNat_natCast]
  exact List.map_congr_left fun i _=>by omega
theorem QZ {n i : Nat} {a : Int} (h : ((List.range n).map fun (i : Nat)=>(i : Int))[i]? = some a) : a = (i : Int) /\ i < n:=by
  have hlt:=(List.getElem?_eq_some_iff.mp h).1
  simp only [List.length_map, List.length_range] at hlt
  rw [List.getElem?_map, List.getElem?_range hlt] at h
  exact ⟨(Option.some.inj h).symm, hlt⟩
theorem XX {n : Nat} {a : Int} (h : a ∈ (List.range n).map fun (i : Nat)=>(i : Int)) : ∃ i : Nat, i < n /\ a = (i : Int):=by
  obtain ⟨i, hi, rfl⟩:=List.mem_map.mp h
  exact ⟨i, List.mem_range.mp hi, rfl⟩
theorem Q6 {n : Nat} : ((List.range n).map fun (i : Nat)=>(i : Int)).length = n:=by simp
theorem Bz {a : Bool} {b : Res Bool} {c : Bool} (h : a = true -> b = .ok c) : Jc (.ok a) b = .ok (a && c):=by
  cases a with
  | false=>rfl
  | true=>
    show (if true = true then b else Res.ok false) = _
    rw [if_pos rfl, h rfl]; rfl
theorem sz {n : Nat} (h : n <= 100000) : n <= sizeLine:=Nat.le_trans h (by decide)
theorem IU {n : Nat} (h : n <= 100000) : n < sizeLine:=Nat.lt_of_le_of_lt h (by decide)
noncomputable def Ok (m : Res β) (R : β -> Prop) : Prop:=∃ r, m = .ok r /\ R r
theorem Ok.pure {R : β -> Prop} {a : β} (h : R a) : Ok (.ok a) R:=⟨a, rfl, h⟩
theorem Ok.bind {m : Res α} {f : α -> Res β} {R : α -> Prop} {T : β -> Prop} (h : Ok m R) (hf : ∀ a, R a -> Ok (f a) T) : Ok (m.bind f) T:=by
  obtain ⟨a, e, ha⟩:=h
  rw [e]; exact hf a ha
theorem Ok.imp {m : Res α} {R T : α -> Prop} (h : Ok m R) (hf : ∀ a, R a -> T a) : Ok m T:=by
  obtain ⟨a, e, ha⟩:=h
  exact ⟨a, e, hf a ha⟩
theorem Ok.noE {m : Res α} {R : α -> Prop} (h : Ok m R) : Ok (noE m) R:=by
  obtain ⟨a, e, ha⟩:=h
  rw [e]; exact ⟨a, rfl, ha⟩
theorem Ok.chk {c : Prop} [Decidable c] {m : Res α} {R : α -> Prop} (hc : c) (h : Ok m R) : Ok (chk c m) R:=by rw [Yp hc]; exact h
theorem Ok.forN {f : γ -> α -> Res γ} (P : Nat -> γ -> Prop) {as : List α} {g : γ} (h0 : P 0 g) (hs : ∀ i a g, as[i]? = some a -> P i g -> Ok (f g a) (P (i + 1))) : Ok (forN as g f) (P as.length):=KS P h0 hs
theorem Ok.forC {f : γ -> α -> Res (Ctl ρ γ)} (P : Nat -> γ -> Prop) {as : List α} {g : γ} (h0 : P 0 g) (hs : ∀ i a g, as[i]? = some a -> P i g -> ∃ g', f g a = .ok (.nx g') /\ P (i + 1) g') : Ok (forC as g f) (fun c=>∃ g', c = .nx g' /\ P as.length g'):=by
  obtain ⟨g', e, h⟩:=Bj P h0 hs
  exact ⟨_, e, g', rfl, h⟩
theorem Uz {f : γ -> Res ρ} (g : γ) : Zu f (.nx g) = f g:=(Eq.refl (f g)).symm.symm
theorem YC (a : α) : noE (Res.ok a) = .ok a:=(Eq.refl (Res.ok a)).symm.symm
theorem Ok.of {m : Res α} {a : α} (h : m = .ok a) : Ok m (fun b=>b = a):=⟨a, h, rfl⟩
theorem Ok.eq {m : Res α} {a : α} (h : Ok m (fun b=>b = a)) : m = .ok a:=by
  obtain ⟨b, e, rfl⟩:=h
  exact e
end
end L2
namespace My
noncomputable def ZO (n : Nat) (f : Nat -> Nat -> Nat) (a : Nat) : List Int:=(List.range n).map fun b=>(f a b : Int)
noncomputable def Ya (n : Nat) (f : Nat -> Nat -> Nat) : List (List Int):=(List.range n).map (ZO n f)
theorem YF (n : Nat) (f : Nat -> Nat -> Nat) (a : Nat) : (ZO n f a).length = n:=by simp [ZO]
theorem X2 (n : Nat) (f : Nat -> Nat -> Nat) : (Ya n f).length = n:=by simp [Ya]
theorem Ql {n : Nat} {f : Nat -> Nat -> Nat} {a b : Nat} (h : b < n) : (ZO n f a)[b]? = some (f a b : Int):=by
  unfold ZO; rw [List.getElem?_map, List.getElem?_range h]; rfl
theorem Qe {n : Nat} {f : Nat -> Nat -> Nat} {a : Nat} (h : a < n) : (Ya n f)[a]? = some (ZO n f a):=by
  unfold Ya; rw [List.getElem?_map, List.getElem?_range h]; rfl
theorem JW {n : Nat} {f g : Nat -> Nat -> Nat} {a : Nat} (h : ∀ b, b < n -> f a b = g a b) : ZO n f a = ZO n g a:=by
  unfold ZO
  exact List.map_congr_left fun b hb=>by rw [h b (List.mem_range.mp hb)]
theorem Zr {n : Nat} {f g : Nat -> Nat -> Nat} (h : ∀ a b, a < n -> b < n -> f a b = g a b) : Ya n f = Ya n g:=by
  unfold Ya
  exact List.map_congr_left fun a ha=>JW fun b hb=>h a b (List.mem_range.mp ha) hb
theorem Fs {n : Nat} {f : Nat -> Nat -> Nat} {r : List Int} (h : r ∈ Ya n f) : r.length = n:=by
  unfold Ya at h
  obtain ⟨a, _, rfl⟩:=List.mem_map.mp h
  exact YF n f a
structure Col (n : Nat) (f : Nat -> Nat -> Nat) : Prop where
  lt : ∀ a b, a < n -> b < n -> f a b < n
  r2 : ∀ x y b, x < n -> y < n -> b < n -> f x b = f y b -> x = y
structure GoodF (n : Nat) (f : Nat -> Nat -> Nat) : Prop extends Col n f where
  r1 : ∀ a, a < n -> f a a = a
  r3 : ∀ a b c, a < n -> b < n -> c < n -> f (f a b) c = f (f a c) (f b c)
theorem GoodF.congr {n : Nat} {f g : Nat -> Nat -> Nat} (h : GoodF n f) (e : ∀ a b, a < n -> b < n -> g a b = f a b) : GoodF n g where
  lt a b ha hb:=by rw [e a b ha hb]; exact h.lt a b ha hb
  r2 x y b hx hy hb q:=by rw [e x b hx hb, e y b hy hb] at q; exact h.r2 x y b hx hy hb q
  r1 a ha:=by rw [e a a ha ha]; exact h.r1 a ha
  r3 a b c ha hb hc:=by
    rw [e a b ha hb, e a c ha hc, e b c hb hc, e _ c (h.lt a b ha hb) hc, e _ _ (h.lt a c ha hc) (h.lt b c hb hc)]
    exact h.r3 a b c ha hb hc
theorem JV : ∀ (n : Nat) (p : Nat -> Nat), (∀ a, a < n -> p a < n) -> (∀ a b, a < n -> b < n -> p a = p b -> a = b) -> ∀ y, y < n -> ∃ x, x < n /\ p x = y
  | 0, _, _, _, y, hy=>absurd hy (Nat.not_lt_zero _)
  | n + 1, p, hl, hi, y, hy=>by
    by_cases hh : ∃ x, x < n + 1 /\ p x = y
    . exact hh
    . exfalso
      -- send n to y, and y's place away
      have hne : ∀ x, x < n + 1 -> p x ≠ y:=fun x hx e=>hh ⟨x, hx, e⟩
      -- among the first n: p', which skips y
      let s : Nat -> Nat:=fun v=>if v < y then v else v - 1
      have hs : ∀ a, a < n + 1 -> s (p a) < n:=fun a ha=>by
        have h1:=hl a ha; have h2:=hne a ha
        show (if p a < y then p a else p a - 1) < n
        split <;> omega
      have hsi : ∀ a b, a < n + 1 -> b < n + 1 -> s (p a) = s (p b) -> a = b:=fun a b ha hb e=>by
        have h1:=hne a ha; have h2:=hne b hb
        refine hi a b ha hb ?_
        have e' : (if p a < y then p a else p a - 1) = (if p b < y then p b else p b - 1):=e
        split at e' <;> split at e' <;> omega
      obtain ⟨x, hx, ex⟩:=JV n (fun a=>s (p a)) (fun a ha=>hs a (by omega)) (fun a b ha hb e=>hsi a b (by omega) (by omega) e) (s (p n)) (hs n (by omega))
      have:=hsi x n (by omega) (by omega) ex
      omega
structure PermN (n : Nat) (p q : Nat -> Nat) : Prop where
  lt : ∀ a, a < n -> p a < n
  qlt : ∀ a, a < n -> q a < n
  pq : ∀ a, a < n -> p (q a) = a
  qp : ∀ a, a < n -> q (p a) = a
theorem PermN.good {n : Nat} {p q : Nat -> Nat} {f : Nat -> Nat -> Nat} (h : PermN n p q) (g : GoodF n f) : GoodF n (fun x y=>p (f (q x) (q y))) where
  lt a b ha hb:=h.lt _ (g.lt _ _ (h.qlt a ha) (h.qlt b hb))
  r2 x y b hx hy hb e:=by
    have e1 : q (p (f (q x) (q b))) = q (p (f (q y) (q b))):=congrArg q e
    rw [h.qp _ (g.lt _ _ (h.qlt x hx) (h.qlt b hb)), h.qp _ (g.lt _ _ (h.qlt y hy) (h.qlt b hb))] at e1
    have:=g.r2 _ _ _ (h.qlt x hx) (h.qlt y hy) (h.qlt b hb) e1
    rw [← h.pq x hx, ← h.pq y hy, this]
  r1 a ha:=by
    show p (f (q a) (q a)) = a
    rw [g.r1 _ (h.qlt a ha), h.pq a ha]
  r3 a b c ha hb hc:=by
    have l1:=g.lt _ _ (h.qlt a ha) (h.qlt b hb)
    have l2:=g.lt _ _ (h.qlt a ha) (h.qlt c hc)
    have l3:=g.lt _ _ (h.qlt b hb) (h.qlt c hc)
    show p (f (q (p (f (q a) (q b)))) (q c)) = p (f (q (p (f (q a) (q c)))) (q (p (f (q b) (q c)))))
    rw [h.qp _ l1, h.qp _ l2, h.qp _ l3, g.r3 _ _ _ (h.qlt a ha) (h.qlt b hb) (h.qlt c hc)]
theorem Et {n : Nat} {p : Nat -> Nat} (hl : ∀ a, a < n -> p a < n) (hi : ∀ a b, a < n -> b < n -> p a = p b -> a = b) : ∃ q, PermN n p q:=by
  have ho:=JV n p hl hi
  refine ⟨fun y=>if h : y < n then Classical.choose (ho y h) else 0, hl, fun a ha=>?_, fun a ha=>?_, fun a ha=>?_⟩
  . simp only [dif_pos ha]; exact (Classical.choose_spec (ho a ha)).1
  . simp only [dif_pos ha]; exact (Classical.choose_spec (ho a ha)).2
  . simp only [dif_pos (hl a ha)]
    have:=Classical.choose_spec (ho (p a) (hl a ha))
    exact hi _ _ this.1 ha this.2
theorem Kl {A B n z : Int} (h : A - B = n * z) : A % n = B % n:=by
  have : A = B + n * z:=by omega
  rw [this, Int.add_mul_emod_self_left]
noncomputable def DQ (k n a b : Int) : Int:=(k * a + (1 - k) * b) % n
noncomputable def Cb (k : Int) (n : Nat) (a b : Nat) : Nat:=(DQ k n a b).toNat
theorem Yc {k : Int} {n : Nat} (hn : 0 < n) (a b : Nat) : ((Cb k n a b : Nat) : Int) = DQ k n a b:=by
  unfold Cb
  have:=Int.emod_nonneg (k * a + (1 - k) * b) (show (n : Int) ≠ 0 by omega)
  unfold DQ
  omega
theorem UB {k : Int} {n : Nat} (hn : 0 < n) (hk : ∀ x : Int, (n : Int) ∣ k * x -> (n : Int) ∣ x) : GoodF n (Cb k n) where
  lt a b _ _:=by
    have h:=Yc (k:=k) hn a b
    have:=Int.emod_lt_of_pos (k * a + (1 - k) * b) (show 0 < (n : Int) by omega)
    unfold DQ at h
    omega
  r1 a ha:=by
    have h:=Yc (k:=k) hn a a
    have e : k * (a : Int) + (1 - k) * a = a:=by grind
    unfold DQ at h
    rw [e, Int.emod_eq_of_lt (by omega) (by omega)] at h
    omega
  r2 x y b hx hy hb e:=by
    have h1:=Yc (k:=k) hn x b
    have h2:=Yc (k:=k) hn y b
    rw [e, h2] at h1
    unfold DQ at h1
    have:=Int.emod_eq_emod_iff_emod_sub_eq_zero.mp h1
    have hd : (n : Int) ∣ k * ((y : Int) - x):=by
      have:=Int.dvd_of_emod_eq_zero this
      have e2 : (k * (y : Int) + (1 - k) * b) - (k * x + (1 - k) * b) = k * ((y : Int) - x):=by grind
      rwa [e2] at this
    obtain ⟨z, hz⟩:=hk _ hd
    have hz1 : z < 1:=by
      apply Int.lt_of_mul_lt_mul_left (a:=(n : Int)) _ (by omega)
      omega
    have hz2 : -1 < z:=by
      apply Int.lt_of_mul_lt_mul_left (a:=(n : Int)) _ (by omega)
      omega
    have : z = 0:=by omega
    subst this
    omega
  r3 a b c _ _ _:=by
    have e1:=Yc (k:=k) hn a b
    have e2:=Yc (k:=k) hn a c
    have e3:=Yc (k:=k) hn b c
    have e4:=Yc (k:=k) hn (Cb k n a b) c
    have e5:=Yc (k:=k) hn (Cb k n a c) (Cb k n b c)
    have hh : DQ k n (Cb k n a b : Nat) c = DQ k n (Cb k n a c : Nat) (Cb k n b c : Nat):=by
      rw [e1, e2, e3]
      unfold DQ
      have q1:=Int.emod_add_mul_ediv (k * (a : Int) + (1 - k) * b) n
      have q2:=Int.emod_add_mul_ediv (k * (a : Int) + (1 - k) * c) n
      have q3:=Int.emod_add_mul_ediv (k * (b : Int) + (1 - k) * c) n
      generalize (k * (a : Int) + (1 - k) * b) / n = d1 at q1
      generalize (k * (a : Int) + (1 - k) * c) / n = d2 at q2
      generalize (k * (b : Int) + (1 - k) * c) / n = d3 at q3
      generalize (k * (a : Int) + (1 - k) * b) % n = m1 at *
      generalize (k * (a : Int) + (1 - k) * c) % n = m2 at *
      generalize (k * (b : Int) + (1 - k) * c) % n = m3 at *
      refine Kl (z:=-k * d1 + k * d2 + (1 - k) * d3) ?_
      grind
    omega
theorem G5 {k : Int} {n : Nat} (h : Int.gcd k n = 1) (x : Int) (hd : (n : Int) ∣ k * x) : (n : Int) ∣ x:=by
  have h1:=Int.natAbs_dvd_natAbs.mpr hd
  rw [Int.natAbs_mul, Int.natAbs_natCast] at h1
  have h2 : Nat.Coprime n k.natAbs:=by
    have : Nat.gcd k.natAbs n = 1:=h
    rw [Nat.gcd_comm] at this
    exact this
  exact Int.natAbs_dvd_natAbs.mp (by rw [Int.natAbs_natCast]; exact h2.dvd_of_dvd_mul_left h1)
theorem Gd {n : Nat} (x : Int) (hd : (n : Int) ∣ (-1) * x) : (n : Int) ∣ x:=by
  have : (-1) * x = -x:=by omega
  rw [this] at hd
  exact Int.dvd_neg.mp hd
theorem Je (n : Nat) : GoodF n (fun a _=>a):=⟨⟨fun _ _ h _=>h, fun _ _ _ _ _ _ e=>e⟩, fun _ _=>rfl, fun _ _ _ _ _ _=>rfl⟩
theorem UP {n : Nat} {p : Nat -> Nat} (h1 : ∀ a, a < n -> p a < n) (h2 : ∀ a, a + 1 = n -> p a = a) (h3 : ∀ x y, x < n -> y < n -> p x = p y -> x = y) : GoodF n (fun a b=>if b + 1 = n then p a else a) where
  lt a b ha hb:=by
    show (if b + 1 = n then p a else a) < n
    split
    . exact h1 a ha
    . exact ha
  r1 a ha:=by
    show (if a + 1 = n then p a else a) = a
    split
    . next h=>exact h2 a h
    . rfl
  r2 x y b hx hy hb e:=by
    have e : (if b + 1 = n then p x else x) = if b + 1 = n then p y else y:=e
    by_cases h : b + 1 = n
    . rw [if_pos h, if_pos h] at e; exact h3 x y hx hy e
    . rw [if_neg h, if_neg h] at e; exact e
  r3 a b c ha hb hc:=by
    show (if c + 1 = n then p (if b + 1 = n then p a else a) else if b + 1 = n then p a else a) = if (if c + 1 = n then p b else b) + 1 = n then p (if c + 1 = n then p a else a) else if c + 1 = n then p a else a
    by_cases h : c + 1 = n
    . rw [if_pos h, if_pos h, if_pos h]
      by_cases g : b + 1 = n
      . rw [if_pos g, h2 b g, if_pos g]
      . rw [if_neg g, if_neg fun z => g ?_]
        have hp : p b = b:=by
          refine h3 _ _ (h1 b hb) hb (h2 _ z)
        rw [hp] at z
        exact z
    . rw [if_neg h, if_neg h, if_neg h]
theorem Do (n : Nat) : GoodF n (fun a b=>if 2 < n /\ a < 2 /\ b + 1 = n then 1 - a else a):=by
  by_cases hn : 2 < n
  . refine (UP (n := n) (p := fun a => if a < 2 then 1 - a else a) (fun a ha => ?_) (fun a ha => if_neg (by omega)) fun x y _ _ e => ?_).congr fun a b _ _ => ?_
    . show (if a < 2 then 1 - a else a) < n
      split
      . omega
      . exact ha
    . have e : (if x < 2 then 1 - x else x) = if y < 2 then 1 - y else y := e
      by_cases h : x < 2
      . by_cases g : y < 2
        . rw [if_pos h, if_pos g] at e; clear hn; omega
        . rw [if_pos h, if_neg g] at e; clear hn; omega
      . by_cases g : y < 2
        . rw [if_neg h, if_pos g] at e; clear hn; omega
        . rw [if_neg h, if_neg g] at e; exact e
    . show (if 2 < n /\ a < 2 /\ b + 1 = n then 1 - a else a) = if b + 1 = n then (if a < 2 then 1 - a else a) else a
      by_cases g : b + 1 = n
      . rw [if_pos g]
        by_cases h : a < 2
        . rw [if_pos h, if_pos ⟨hn, h, g⟩]
        . rw [if_neg h, if_neg fun z=>h z.2.1]
      . rw [if_neg g, if_neg fun z=>g z.2.2]
  . exact (Je n).congr fun a b _ _=>if_neg fun z=>hn z.1
theorem G1 (n : Nat) : GoodF n (fun a b=>if a + 1 < n /\ b + 1 = n then (if a + 2 < n then a + 1 else 0) else a):=by
  refine (UP (n:=n) (p:=fun a=>if a + 1 < n then (if a + 2 < n then a + 1 else 0) else a) (fun a ha=>?_) (fun a ha=>if_neg (by omega)) fun x y hx hy e=>?_).congr fun a b _ _=>?_
  . show (if a + 1 < n then (if a + 2 < n then a + 1 else 0) else a) < n
    split
    . split
      . assumption
      . exact Nat.lt_of_le_of_lt (Nat.zero_le _) ha
    . exact ha
  . have e : (if x + 1 < n then (if x + 2 < n then x + 1 else 0) else x) = if y + 1 < n then (if y + 2 < n then y + 1 else 0) else y := e
    by_cases h : x + 1 < n
    . rw [if_pos h] at e
      by_cases g : y + 1 < n
      . rw [if_pos g] at e
        by_cases h' : x + 2 < n
        . rw [if_pos h'] at e
          by_cases g' : y + 2 < n
          . rw [if_pos g'] at e; exact Nat.succ.inj e
          . rw [if_neg g'] at e; exact nomatch e
        . rw [if_neg h'] at e
          by_cases g' : y + 2 < n
          . rw [if_pos g'] at e; exact nomatch e
          . clear e hx hy; omega
      . rw [if_neg g] at e
        by_cases h' : x + 2 < n
        . rw [if_pos h'] at e; clear hx hy h; omega
        . rw [if_neg h'] at e; clear hx hy h'; omega
    . rw [if_neg h] at e
      by_cases g : y + 1 < n
      . rw [if_pos g] at e
        by_cases h' : y + 2 < n
        . rw [if_pos h'] at e; clear hx hy g; omega
        . rw [if_neg h'] at e; clear hx hy h'; omega
      . rw [if_neg g] at e; exact e
  . show (if a + 1 < n /\ b + 1 = n then (if a + 2 < n then a + 1 else 0) else a) = if b + 1 = n then (if a + 1 < n then (if a + 2 < n then a + 1 else 0) else a) else a
    by_cases g : b + 1 = n
    . rw [if_pos g]
      by_cases h : a + 1 < n
      . rw [if_pos h, if_pos ⟨h, g⟩]
      . rw [if_neg h, if_neg fun z=>h z.1]
    . rw [if_neg g, if_neg fun z=>g z.2]
noncomputable def VA (h : Nat) (f g : Nat -> Nat -> Nat) (a b : Nat) : Nat:=if a < h /\ b < h then f a b else if h <= a /\ h <= b then h + g (a - h) (b - h) else a
theorem DL {h m : Nat} {f g : Nat -> Nat -> Nat} (F : GoodF h f) (G : GoodF m g) : GoodF (h + m) (VA h f g):=by
  have s1 : ∀ a b, a < h -> b < h -> VA h f g a b = f a b:=fun a b ha hb=>by unfold VA; rw [if_pos ⟨ha, hb⟩]
  have s2 : ∀ a b, VA h f g (h + a) (h + b) = h + g a b:=fun a b=>by unfold VA; rw [if_neg (by omega), if_pos (by omega), Nat.add_sub_cancel_left, Nat.add_sub_cancel_left]
  have s3 : ∀ a b, a < h -> VA h f g a (h + b) = a:=fun a b ha=>by unfold VA; rw [if_neg (by omega), if_neg (by omega)]
  have s4 : ∀ a b, b < h -> VA h f g (h + a) b = h + a:=fun a b ha=>by unfold VA; rw [if_neg (by omega), if_neg (by omega)]
  have up : ∀ a, h <= a -> ∃ a', a = h + a':=fun a ha=>⟨a - h, by omega⟩
  refine ⟨⟨fun a b ha hb=>?_, fun x y b hx hy hb e=>?_⟩, fun a ha=>?_, fun a b c ha hb hc=>?_⟩
  . by_cases h1 : a < h <;> by_cases h2 : b < h
    . rw [s1 a b h1 h2]; have:=F.lt a b h1 h2; omega
    . obtain ⟨b, rfl⟩:=up b (by omega); rw [s3 a b h1]; omega
    . obtain ⟨a, rfl⟩:=up a (by omega); rw [s4 a b h2]; omega
    . obtain ⟨a, rfl⟩ := up a (by omega); obtain ⟨b, rfl⟩ := up b (by omega)
      rw [s2]; have:=G.lt a b (by omega) (by omega); omega
  . by_cases h1 : x < h <;> by_cases h2 : y < h <;> by_cases h3 : b < h
    . rw [s1 _ _ h1 h3, s1 _ _ h2 h3] at e; exact F.r2 x y b h1 h2 h3 e
    . obtain ⟨b, rfl⟩:=up b (by omega); rw [s3 _ _ h1, s3 _ _ h2] at e; exact e
    . obtain ⟨y, rfl⟩:=up y (by omega); rw [s1 _ _ h1 h3, s4 _ _ h3] at e; have:=F.lt x b h1 h3; omega
    . obtain ⟨y, rfl⟩:=up y (by omega); obtain ⟨b, rfl⟩:=up b (by omega); rw [s3 _ _ h1, s2] at e; omega
    . obtain ⟨x, rfl⟩:=up x (by omega); rw [s4 _ _ h3, s1 _ _ h2 h3] at e; have:=F.lt y b h2 h3; omega
    . obtain ⟨x, rfl⟩:=up x (by omega); obtain ⟨b, rfl⟩:=up b (by omega); rw [s2, s3 _ _ h2] at e; omega
    . obtain ⟨x, rfl⟩:=up x (by omega); obtain ⟨y, rfl⟩:=up y (by omega); rw [s4 _ _ h3, s4 _ _ h3] at e; exact e
    . obtain ⟨x, rfl⟩ := up x (by omega); obtain ⟨y, rfl⟩ := up y (by omega); obtain ⟨b, rfl⟩ := up b (by omega)
      rw [s2, s2] at e
      rw [G.r2 x y b (by omega) (by omega) (by omega) (by omega)]
  . by_cases h1 : a < h
    . rw [s1 _ _ h1 h1, F.r1 a h1]
    . obtain ⟨a, rfl⟩:=up a (by omega); rw [s2, G.r1 a (by omega)]
  . by_cases h1 : a < h <;> by_cases h2 : b < h <;> by_cases h3 : c < h
    . rw [s1 a b h1 h2, s1 a c h1 h3, s1 b c h2 h3, s1 _ _ (F.lt a b h1 h2) h3, s1 _ _ (F.lt a c h1 h3) (F.lt b c h2 h3)]; exact F.r3 a b c h1 h2 h3
    . obtain ⟨c, rfl⟩ := up c (by omega)
      rw [s1 a b h1 h2, s3 a c h1, s3 b c h2, s3 _ c (F.lt a b h1 h2), s1 a b h1 h2]
    . obtain ⟨b, rfl⟩ := up b (by omega)
      rw [s3 a b h1, s4 b c h3, s1 a c h1 h3, s3 _ b (F.lt a c h1 h3)]
    . obtain ⟨b, rfl⟩ := up b (by omega); obtain ⟨c, rfl⟩ := up c (by omega)
      rw [s3 a b h1, s3 a c h1, s2 b c, s3 _ _ h1]
    . obtain ⟨a, rfl⟩ := up a (by omega)
      rw [s4 a b h2, s4 a c h3, s1 b c h2 h3, s4 _ _ (F.lt b c h2 h3)]
    . obtain ⟨a, rfl⟩ := up a (by omega); obtain ⟨c, rfl⟩ := up c (by omega)
      rw [s4 a b h2, s2 a c, s3 b c h2, s4 _ _ h2]
    . obtain ⟨a, rfl⟩ := up a (by omega); obtain ⟨b, rfl⟩ := up b (by omega)
      rw [s2 a b, s4 _ c h3, s4 a c h3, s4 b c h3, s2 a b]
    . obtain ⟨a, rfl⟩ := up a (by omega); obtain ⟨b, rfl⟩ := up b (by omega); obtain ⟨c, rfl⟩ := up c (by omega)
      rw [s2 a b, s2 a c, s2 b c, s2, s2, G.r3 a b c (by omega) (by omega) (by omega)]
noncomputable def G0 (way n k a b : Int) : Int:=
  if way = 1 then (2 * b - a) % n else if way = 2 then (k * a + (1 - k) * b) % n else if way = 3 /\ n > 2 /\ a < 2 /\ b = n - 1 then 1 - a else
  if way = 6 /\ a < n - 1 /\ b = n - 1 then (a + 1) % (n - 1) else if way = 4 /\ a < n / 2 /\ b < n / 2 then (2 * b - a) % (n / 2) else
  if way = 4 /\ a ≥ n / 2 /\ b ≥ n / 2 then n / 2 + (2 * b - a - n / 2) % (n - n / 2) else a
noncomputable def U7 (way k : Int) (n a b : Nat) : Nat:=(G0 way n k a b).toNat
theorem V7 (n : Int) (a b : Int) : (2 * b - a) % n = DQ (-1) n a b:=by
  unfold DQ
  congr 1
  omega
theorem FU {way k : Int} {n : Nat} (hn : 0 < n) (hk : Int.gcd k n = 1) : GoodF n (U7 way k n) /\ ∀ a b, a < n -> b < n -> ((U7 way k n a b : Nat) : Int) = G0 way n k a b:=by
  suffices h : ∃ f, GoodF n f /\ ∀ a b, a < n -> b < n -> ((f a b : Nat) : Int) = G0 way n k a b by
    obtain ⟨f, g, e⟩:=h
    have e2 : ∀ a b, a < n -> b < n -> U7 way k n a b = f a b:=fun a b ha hb=>by unfold U7; rw [← e a b ha hb]; omega
    exact ⟨g.congr e2, fun a b ha hb=>by rw [e2 a b ha hb]; exact e a b ha hb⟩
  unfold G0
  by_cases w1 : way = 1
  . refine ⟨_, UB (k := -1) hn Gd, fun a b ha hb => ?_⟩
    rw [if_pos w1, Yc hn, V7]
  by_cases w2 : way = 2
  . refine ⟨_, UB (k := k) hn (G5 hk), fun a b ha hb => ?_⟩
    rw [if_neg w1, if_pos w2, Yc hn]; rfl
  by_cases w3 : way = 3
  . refine ⟨_, Do n, fun a b ha hb => ?_⟩
    rw [if_neg w1, if_neg w2]
    by_cases c : 2 < n /\ a < 2 /\ b + 1 = n
    . rw [if_pos c, if_pos ⟨w3, by omega, by omega, by omega⟩]; omega
    . rw [if_neg c, if_neg (fun z=>c ⟨by omega, by omega, by omega⟩), if_neg (fun z=>by omega), if_neg (fun z=>by omega), if_neg (fun z=>by omega)]
  by_cases w6 : way = 6
  . refine ⟨_, G1 n, fun a b ha hb => ?_⟩
    have n3 : ¬ (way = 3 /\ (n : Int) > 2 /\ (a : Int) < 2 /\ (b : Int) = n - 1):=fun z=>w3 z.1
    by_cases c : a + 1 < n /\ b + 1 = n
    . have y6 : way = 6 /\ (a : Int) < n - 1 /\ (b : Int) = n - 1 := ⟨w6, by omega, by omega⟩
      rw [if_pos c, if_neg w1, if_neg w2, if_neg n3, if_pos y6]
      by_cases c2 : a + 2 < n
      . rw [if_pos c2, Int.emod_eq_of_lt (by omega) (by omega)]; omega
      . rw [if_neg c2]
        have : (a : Int) + 1 = (n : Int) - 1:=by omega
        rw [this, Int.emod_self]; rfl
    . rw [if_neg c, if_neg w1, if_neg w2, if_neg n3, if_neg (fun z=>c ⟨by omega, by omega⟩), if_neg (fun z=>by omega), if_neg (fun z=>by omega)]
  by_cases w4 : way = 4
  . have hh : ∀ m : Nat, 0 < m -> GoodF m (Cb (-1) m) := fun m hm => UB hm Gd
    by_cases h0 : n / 2 = 0
    . have hn1 : n = 1 := by omega
      subst hn1
      refine ⟨_, Je 1, fun a b ha hb=>?_⟩
      have : a = 0:=by omega
      have : b = 0:=by omega
      subst a b
      rw [if_neg w1, if_neg w2, if_neg (fun z=>w3 z.1), if_neg (fun z=>w6 z.1), if_neg (fun z=>by omega), if_pos ⟨w4, by omega, by omega⟩]
      decide
    . have g := DL (hh (n / 2) (by omega)) (hh (n - n / 2) (by omega))
      rw [show n / 2 + (n - n / 2) = n by omega] at g
      refine ⟨_, g, fun a b ha hb=>?_⟩
      have hc : ((n / 2 : Nat) : Int) = (n : Int) / 2:=by omega
      rw [if_neg w1, if_neg w2, if_neg (fun z=>w3 z.1), if_neg (fun z=>w6 z.1)]
      unfold VA
      by_cases c1 : a < n / 2 /\ b < n / 2
      . rw [if_pos c1, if_pos ⟨w4, by omega, by omega⟩, Yc (by omega), ← V7, hc]
      . have m4 : ¬ (way = 4 /\ (a : Int) < (n : Int) / 2 /\ (b : Int) < (n : Int) / 2) := fun z => c1 ⟨by omega, by omega⟩
        rw [if_neg c1, if_neg m4]
        by_cases c2 : n / 2 <= a /\ n / 2 <= b
        . have y4 : way = 4 /\ (a : Int) ≥ (n : Int) / 2 /\ (b : Int) ≥ (n : Int) / 2 := ⟨w4, by omega, by omega⟩
          rw [if_pos c2, if_pos y4]
          have hm : (((n - n / 2 : Nat)) : Int) = (n : Int) - (n : Int) / 2:=by omega
          have:=Yc (k:=-1) (n:=n - n / 2) (by omega) (a - n / 2) (b - n / 2)
          rw [← V7, hm] at this
          rw [show 2 * (b : Int) - a - (n : Int) / 2 = 2 * ((b - n / 2 : Nat) : Int) - ((a - n / 2 : Nat) : Int) by omega, ← this]
          omega
        . rw [if_neg c2, if_neg (fun z=>c2 ⟨by omega, by omega⟩)]
  refine ⟨_, Je n, fun a b ha hb=>?_⟩
  rw [if_neg w1, if_neg w2, if_neg (fun z=>w3 z.1), if_neg (fun z=>w6 z.1), if_neg (fun z=>w4 z.1), if_neg (fun z=>w4 z.1)]
noncomputable def Jz (a b : Nat) : Nat:=(([[0, 3, 1, 2], [2, 1, 3, 0], [3, 0, 2, 1], [1, 2, 0, 3]] : List (List Nat)).getD a []).getD b 0
theorem Fa : GoodF 4 Jz:=by
  have h1 : ∀ a, a < 4 -> ∀ b, b < 4 -> Jz a b < 4:=by decide +kernel
  have h2 : ∀ b, b < 4 -> ∀ x, x < 4 -> ∀ y, y < 4 -> Jz x b = Jz y b -> x = y:=by decide +kernel
  have h3 : ∀ a, a < 4 -> Jz a a = a:=by decide +kernel
  have h4 : ∀ a, a < 4 -> ∀ b, b < 4 -> ∀ c, c < 4 -> Jz (Jz a b) c = Jz (Jz a c) (Jz b c):=by decide +kernel
  exact ⟨⟨fun a b ha hb=>h1 a ha b hb, fun x y b hx hy hb=>h2 b hb x hx y hy⟩, h3, fun a b c ha hb hc=>h4 a ha b hb c hc⟩
theorem CW : Ya 4 Jz = [[0, 3, 1, 2], [2, 1, 3, 0], [3, 0, 2, 1], [1, 2, 0, 3]]:=by decide +kernel
end My
namespace My
open PySem L2
theorem JT {n : Nat} {f : Nat -> Nat -> Nat} {a : Nat} (h : a < n) : atR (Ya n f) (a : Int) = .ok (ZO n f a):=Z2 (Qe h)
theorem VU {n : Nat} {f : Nat -> Nat -> Nat} {a b : Nat} (h : b < n) : atR (ZO n f a) (b : Int) = .ok (f a b : Int):=Z2 (Ql h)
theorem Fh {α : Type} {as : List α} {i : Nat} {a : α} (h : i < as.length) : Kh as (i : Int) a = .ok (as.set i a):=by
  unfold Kh ixN
  rw [if_pos (by omega), if_pos (by omega)]
  simp
theorem E2 {n : Nat} {f : Nat -> Nat -> Nat} {a b v : Nat} : (ZO n f a).set b (v : Int) = ZO n (fun x y=>if x = a /\ y = b then v else f x y) a:=by
  apply List.ext_getElem?
  intro j
  by_cases hj : j < n
  . rw [Ql hj]
    by_cases e : j = b
    . subst e; rw [List.getElem?_set_self (by rw [YF]; exact hj)]; simp
    . rw [List.getElem?_set_ne (fun z=>e z.symm), Ql hj]; simp [e]
  . rw [List.getElem?_eq_none (by rw [List.length_set, YF]; omega), List.getElem?_eq_none (by rw [YF]; omega)]
theorem E8 {n : Nat} {f : Nat -> Nat -> Nat} {a b v : Nat} (ha : a < n) : (Ya n f).set a ((ZO n f a).set b (v : Int)) = Ya n (fun x y=>if x = a /\ y = b then v else f x y):=by
  apply List.ext_getElem?
  intro j
  by_cases hj : j < n
  . rw [Qe hj]
    by_cases e : j = a
    . subst e; rw [List.getElem?_set_self (by rw [X2]; exact hj), E2]
    . rw [List.getElem?_set_ne (fun z => e z.symm), Qe hj]
      congr 1
      exact JW fun y _=>by simp [e]
  . rw [List.getElem?_eq_none (by rw [List.length_set, X2]; omega), List.getElem?_eq_none (by rw [X2]; omega)]
noncomputable def UE (n : Nat) (sp : List Int) (p q : Nat -> Nat) : Prop:=PermN n p q /\ sp = (List.range n).map fun i=>((p i : Nat) : Int)
theorem UE.get {n : Nat} {sp : List Int} {p q : Nat -> Nat} (h : UE n sp p q) {i : Nat} (hi : i < n) : atR sp (i : Int) = .ok ((p i : Nat) : Int):=Z2 (by rw [h.2, List.getElem?_map, List.getElem?_range hi]; rfl)
theorem Ip {as : List Int} {i : Nat} (h : i < as.length) (hl : as.length <= 100000) : CA as (i : Int) = .ok (as[i], as.eraseIdx i):=by
  unfold CA
  rw [Yp (by omega)]
  have e : seqIndex? (i : Int) as.length = some i:=by
    unfold seqIndex?
    have h0 : ¬ ((i : Int) < 0):=by omega
    simp [h0, h]
  rw [e]
  simp [h]
theorem CO {n : Nat} {sp : List Int} (h : sp.Perm ((List.range n).map fun (i : Nat)=>(i : Int))) : ∃ p q, UE n sp p q:=by
  have hl : sp.length = n:=by have:=h.length_eq; simpa using this
  have hlt : ∀ i, i < n -> ∃ k : Nat, k < n /\ sp[i]? = some (k : Int):=fun i hi=>by
    have hm : sp[i]'(by omega) ∈ (List.range n).map fun (i : Nat)=>(i : Int):=h.mem_iff.mp (List.getElem_mem _)
    obtain ⟨k, hk, e⟩:=XX hm
    exact ⟨k, hk, by rw [List.getElem?_eq_getElem (by omega), e]⟩
  let p : Nat -> Nat:=fun i=>(sp[i]?.getD 0).toNat
  have hp : ∀ i, i < n -> p i < n /\ sp[i]? = some (p i : Int):=fun i hi=>by
    obtain ⟨k, hk, e⟩:=hlt i hi
    have : p i = k:=by simp [p, e]
    rw [this]; exact ⟨hk, e⟩
  have nd : sp.Nodup:=h.nodup_iff.mpr (by
    rw [List.nodup_iff_pairwise_ne, List.pairwise_map]
    exact List.nodup_range.imp fun {a b} h e=>h (by omega))
  obtain ⟨q, hq⟩:=Et (n:=n) (p:=p) (fun a ha=>(hp a ha).1) fun a b ha hb e=>by
    have h1:=(hp a ha).2
    have h2:=(hp b hb).2
    rw [← e] at h2
    exact (List.getElem?_inj (by omega) nd).mp (h1.trans h2.symm)
  refine ⟨p, q, hq, ?_⟩
  apply List.ext_getElem?
  intro i
  by_cases hi : i < n
  . rw [(hp i hi).2, List.getElem?_map, List.getElem?_range hi]; rfl
  . rw [List.getElem?_eq_none (by omega), List.getElem?_eq_none (by simp; omega)]
theorem VR : ∀ {as : List Int} {i : Nat} (h : i < as.length), (as[i] :: as.eraseIdx i).Perm as
  | a :: as, 0, _=>by simp
  | a :: as, i + 1, h=>by
    have:=VR (as:=as) (i:=i) (by simpa using h)
    simp only [List.getElem_cons_succ, List.eraseIdx_cons_succ]
    exact (List.Perm.swap _ _ _).trans (this.cons a)
theorem Cr {α : Type} (as : List α) {k : Nat} (h : k <= as.length) : FM as (some (k : Int)) none = as.drop k:=by
  unfold FM
  rw [HT.sIx_nat, HT.sIx_none, Nat.min_eq_left h, List.take_of_length_le (by rw [List.length_drop]; omega)]
end My
namespace My
theorem mem_set {α : Type} : ∀ {l : List α} {j : Nat} {v x : α}, x ∈ l.set j v -> x ∈ l ∨ x = v
  | [], _, _, _, h=>by simp at h
  | a :: r, 0, v, x, h=>by
    rw [List.set_cons_zero] at h
    rcases List.mem_cons.mp h with h | h
    . exact .inr h
    . exact .inl (List.mem_cons_of_mem _ h)
  | a :: r, j + 1, v, x, h=>by
    rw [List.set_cons_succ] at h
    rcases List.mem_cons.mp h with h | h
    . exact .inl (by rw [h]; exact List.mem_cons_self)
    . rcases mem_set h with h | h
      . exact .inl (List.mem_cons_of_mem _ h)
      . exact .inr h
end My
namespace My
noncomputable def IM (S : Nat) : List Int:=(List.range S).map fun (k : Nat)=>(k : Int)
theorem Bg {S : Nat} {x : Int} : x ∈ IM S ↔ 0 <= x /\ x < (S : Int):=by
  unfold IM
  rw [List.mem_map]
  constructor
  . rintro ⟨k, hk, rfl⟩
    have:=List.mem_range.mp hk
    omega
  . rintro ⟨h0, h1⟩
    exact ⟨x.toNat, List.mem_range.mpr (by omega), by omega⟩
theorem Q2 {α β : Type} {f : α -> β} : ∀ {l : List α}, (∀ a b, a ∈ l -> b ∈ l -> f a = f b -> a = b) -> l.Nodup -> (l.map f).Nodup
  | [], _, _=>List.nodup_nil
  | a :: r, h, nd=>by
    rw [List.map_cons, List.nodup_cons]
    refine ⟨fun m=>?_, Q2 (fun x y hx hy=>h x y (List.mem_cons_of_mem _ hx) (List.mem_cons_of_mem _ hy)) (List.nodup_cons.mp nd).2⟩
    obtain ⟨b, hb, e⟩:=List.mem_map.mp m
    have:=h b a (List.mem_cons_of_mem _ hb) List.mem_cons_self e
    exact (List.nodup_cons.mp nd).1 (by rw [← this]; exact hb)
theorem GS (S : Nat) : (IM S).Nodup:=Q2 (fun a b _ _ e=>by omega) List.nodup_range
theorem VV {α : Type} [DecidableEq α] : ∀ {l m : List α}, l.Nodup -> m.Nodup -> (∀ x, x ∈ l ↔ x ∈ m) -> l.Perm m
  | [], m, _, _, h=>by
    cases m with
    | nil=>exact List.Perm.refl _
    | cons a r=>exact absurd ((h a).mpr List.mem_cons_self) (by simp)
  | a :: r, m, nl, nm, h=>by
    have ha : a ∈ m:=(h a).mp List.mem_cons_self
    have hp : m.Perm (a :: m.erase a):=List.perm_cons_erase ha
    refine List.Perm.trans (List.Perm.cons a ?_) hp.symm
    have nd2 : (a :: m.erase a).Nodup:=hp.nodup_iff.mp nm
    refine VV (List.nodup_cons.mp nl).2 (List.nodup_cons.mp nd2).2 fun x=>?_
    constructor
    . intro hx
      have hxa : x ≠ a:=fun e=>(List.nodup_cons.mp nl).1 (by rw [← e]; exact hx)
      have : x ∈ a :: m.erase a:=hp.mem_iff.mp ((h x).mp (List.mem_cons_of_mem _ hx))
      exact (List.mem_cons.mp this).resolve_left hxa
    . intro hx
      have hxa : x ≠ a:=fun e=>(List.nodup_cons.mp nd2).1 (e ▸ hx)
      have : x ∈ a :: r:=(h x).mpr (hp.mem_iff.mpr (List.mem_cons_of_mem _ hx))
      exact (List.mem_cons.mp this).resolve_left hxa
end My
namespace My
structure Done (S : Int) (seen : List Bool) (ps : List Int) : Prop where
  nd : ps.Nodup
  at' : ∀ p ∈ ps, 0 <= p /\ p < S /\ seen[p.toNat]? = some true
  of : ∀ q : Nat, seen[q]? = some true -> (q : Int) ∈ ps
theorem Done.none (S : Int) (n : Nat) : Done S (List.replicate n false) []:=
  ⟨List.nodup_nil, fun p h=>by simp at h, fun q h=>by
    rw [List.getElem?_replicate] at h
    split at h <;> cases h⟩
theorem CC {l : List Bool} {j q : Nat} (h : l[q]? = some true) : (l.set j true)[q]? = some true:=by
  by_cases e : j = q
  . subst e
    rw [List.getElem?_set_self (List.getElem?_eq_some_iff.mp h).1]
  . rw [List.getElem?_set_ne e]; exact h
theorem Done.snoc {S : Int} {seen : List Bool} {ps : List Int} {a : Int} (h : Done S seen ps) (a0 : 0 <= a) (a1 : a < S) (e : seen[a.toNat]? = some false) : Done S (seen.set a.toNat true) (ps ++ [a]):=by
  have hl : a.toNat < seen.length:=(List.getElem?_eq_some_iff.mp e).1
  have hn : a ∉ ps:=fun m=>by
    have:=(h.at' a m).2.2
    rw [e] at this; cases this
  refine ⟨?_, fun p hp=>?_, fun q hq=>?_⟩
  . rw [List.nodup_append]
    refine ⟨h.nd, by simp, fun x hx y hy=>?_⟩
    rw [List.mem_singleton.mp hy]
    exact fun e=>hn (e ▸ hx)
  . rcases List.mem_append.mp hp with hp | hp
    . obtain ⟨h1, h2, h3⟩ := h.at' p hp
      exact ⟨h1, h2, CC h3⟩
    . rw [List.mem_singleton.mp hp]
      exact ⟨a0, a1, by rw [List.getElem?_set_self hl]⟩
  . by_cases hqa : a.toNat = q
    . exact List.mem_append_right _ (List.mem_singleton.mpr (by omega))
    . rw [List.getElem?_set_ne hqa] at hq
      exact List.mem_append_left _ (h.of q hq)
theorem Done.all {S : Int} {seen : List Bool} {ps : List Int} (h : Done S seen ps) (hl : seen.length = S.toNat) (h0 : 0 <= S) (ha : ∀ q : Nat, q < S.toNat -> seen[q]? = some true) : ps.Perm (IM S.toNat):=by
  refine VV h.nd (GS _) fun x=>?_
  rw [Bg]
  constructor
  . intro hx
    obtain ⟨h1, h2, _⟩:=h.at' x hx
    omega
  . rintro ⟨x0, x1⟩
    have:=h.of x.toNat (ha x.toNat (by omega))
    rw [show ((x.toNat : Nat) : Int) = x by omega] at this
    exact this
end My
namespace My
open PySem L2
theorem DM (ns : List Int) {p : Int} (hp : 0 <= p) : ∃ c, JZ ns p = .ok c:=by
  unfold JZ
  simp only [Res.okb]
  by_cases h : p < (ns.length : Int)
  . rw [decide_eq_true h, if_pos rfl]
    have hl : p.toNat < ns.length:=by omega
    exact ⟨ns[p.toNat], Iv hp (by simp [hl])⟩
  . rw [decide_eq_false h, if_neg Bool.false_ne_true]
    obtain ⟨g, e, _⟩:=KS (as:=FM ns none (some 63)) (g:=(5 : Int)) (f:=fun g15 a17=>(Res.bind (Res.bind (Res.bind (Res.bind (Kg g15 48271) fun x25=>(Res.bind (Jy a17 1000003) fun x26=>(Res.ok (x25 + x26)))) fun x27=>Res.ok (x27 + 1)) fun x29=>Jy x29 2147483647) fun a19=>(Res.ok (a19)))) (fun _ _=>True) True.intro fun i a g _ _=>by
      rw [Vh (by decide) (by decide), Res.ok_bind, YS (by decide), Res.ok_bind, Res.ok_bind, Res.ok_bind, YS (by decide), Res.ok_bind]
      exact ⟨_, rfl, True.intro⟩
    rw [e, Res.ok_bind, V2 (by decide) (by decide), Res.ok_bind, Res.ok_bind, YS (by decide)]
    exact ⟨_, rfl⟩
theorem BK (c : Int) {k : Int} (h0 : 0 <= k) (h1 : k <= 100000) : ∃ y, Kw c k = .ok y /\ 0 <= y:=by
  unfold Kw
  simp only [Res.okb]
  have hm : 0 <= c % 2147483629 /\ c % 2147483629 < 2147483629:=⟨Int.emod_nonneg _ (by decide), Int.emod_lt_of_pos _ (by decide)⟩
  rw [YS (by decide), Res.ok_bind, V2 (by decide) (by decide), Res.ok_bind, Res.ok_bind, Res.ok_bind, BD (by decide) (by decide) (by omega) (by omega), Res.ok_bind, YS (by decide), Res.ok_bind]
  rw [Vh (by decide) (by decide), Res.ok_bind, V2 (by decide) (by decide), Res.ok_bind, Vh (by omega) (by omega), Res.ok_bind, Res.ok_bind, Res.ok_bind, YS (by decide), Res.ok_bind, FG (by decide) (by decide)]
  exact ⟨_, rfl, Int.ediv_nonneg (Int.emod_nonneg _ (by decide)) (by decide)⟩
theorem HW (ns : List Int) {p : Int} (hp : 0 <= p) (sizes : List Int) (hl : sizes.length <= 100000) (hs : ∀ x ∈ sizes, 0 < x /\ x < 2 ^ 250) :
    Ok (GR ns p sizes) fun r=>r.length = sizes.length /\ ∀ (i : Nat) x s, r[i]? = some x -> sizes[i]? = some s -> 0 <= x /\ x < s:=by
  obtain ⟨c, ec⟩:=DM ns hp
  unfold GR
  simp only [Res.okb]
  rw [ec, show noE (Res.ok c) = .ok c from rfl, Res.ok_bind, Vk (by omega), Res.ok_bind, BD (by decide) (by decide) (by decide) (by decide)]
  simp only [Res.okb]
  have key : ∀ (i : Nat) (a : Int) (g : List Int × Int), ((List.range sizes.length).map fun (i : Nat)=>(i : Int))[i]? = some a -> (g.1.length = i /\ ∀ (j : Nat) x s, g.1[j]? = some x -> sizes[j]? = some s -> 0 <= x /\ x < s) -> ∀ y z : Int, ∀ s, sizes[i]? = some s -> 0 <= y /\ y < s -> ((g.1 ++ [y], z).1.length = i + 1 /\ ∀ (j : Nat) x s, (g.1 ++ [y], z).1[j]? = some x -> sizes[j]? = some s -> 0 <= x /\ x < s):=by
    intro i a g ha ⟨hg, hq⟩ y z s hs1 hy
    refine ⟨by simp [hg], fun j x s' hx hs'=>?_⟩
    have hx : (g.1 ++ [y])[j]? = some x:=hx
    rcases Nat.lt_trichotomy j i with hj | hj | hj
    . rw [List.getElem?_append_left (by omega)] at hx; exact hq j x s' hx hs'
    . subst hj
      rw [List.getElem?_append_right (by omega), hg, Nat.sub_self] at hx
      have : y = x:=by simpa using hx
      rw [hs1] at hs'
      cases hs'
      rw [← this]; exact hy
    . rw [List.getElem?_eq_none (by simp; omega)] at hx; cases hx
  refine Ok.bind (Ok.forN (fun i (g : List Int × Int)=>g.1.length = i /\ ∀ (j : Nat) x s, g.1[j]? = some x -> sizes[j]? = some s -> 0 <= x /\ x < s) ⟨rfl, fun j x s h _=>by simp at h⟩ fun i a g ha hg=>?_) (T:=fun (r : List Int)=>r.length = sizes.length /\ ∀ (i : Nat) x s, r[i]? = some x -> sizes[i]? = some s -> 0 <= x /\ x < s) fun g ⟨hg, hq⟩=>?_
  . obtain ⟨rfl, hi⟩ := QZ ha
    have hsz : sizes[i]? = some sizes[i]:=by simp [hi]
    have hsp:=hs _ (List.getElem_mem hi)
    have hgl : g.1.length < sizeLine:=IU (by have:=hg.1; omega)
    by_cases hc : c < 10 ^ (18 : Int).toNat
    . rw [decide_eq_true hc, if_pos rfl]
      obtain ⟨y, ey, hy⟩:=BK c (k:=(i : Int)) (by omega) (by omega)
      rw [ey, show noE (Res.ok y) = .ok y from rfl, Res.ok_bind, Z2 hsz, Res.ok_bind, YS hsp.1, Res.ok_bind, Yp hgl]
      exact ⟨_, rfl, key i _ g ha hg _ _ _ hsz ⟨Int.emod_nonneg _ (by omega), Int.emod_lt_of_pos _ hsp.1⟩⟩
    . rw [decide_eq_false hc, if_neg Bool.false_ne_true]
      by_cases hq : 0 < g.2
      . rw [decide_eq_true hq, if_pos rfl, Z2 hsz, Res.ok_bind, YS hsp.1, Res.ok_bind, Yp hgl]
        simp only [Res.okb]
        rw [FG hsp.1 hsp.2]
        exact ⟨_, rfl, key i _ g ha hg _ _ _ hsz ⟨Int.emod_nonneg _ (by omega), Int.emod_lt_of_pos _ hsp.1⟩⟩
      . rw [decide_eq_false hq, if_neg Bool.false_ne_true, YS (by decide), Res.ok_bind]
        obtain ⟨c2, ec2⟩:=DM ns (p:=(p + 1 + (i : Int)) % 63) (Int.emod_nonneg _ (by decide))
        obtain ⟨y, ey, hy⟩:=BK c2 (k:=(i : Int)) (by omega) (by omega)
        rw [ec2, show noE (Res.ok c2) = .ok c2 from rfl, Res.ok_bind, ey, show noE (Res.ok y) = .ok y from rfl, Res.ok_bind, Z2 hsz, Res.ok_bind, YS hsp.1, Res.ok_bind, Yp hgl]
        exact ⟨_, rfl, key i _ g ha hg _ _ _ hsz ⟨Int.emod_nonneg _ (by omega), Int.emod_lt_of_pos _ hsp.1⟩⟩
  . rw [Q6] at hg
    exact ⟨g.1, rfl, hg, hq⟩
end My
namespace My
open PySem L2
theorem Gq {α : Type} {r : List α} {k : Int} {n : Nat} (e : k = (n : Int)) (h : n < r.length) : atR r k = .ok r[n]:=by
  subst e; exact Z2 (by simp [h])
theorem Uj {γ : Type} {c : γ -> Res Bool} {f : γ -> Res γ} (P : γ -> Prop) (μ : γ -> Nat) (hs : ∀ g, P g -> ∃ b, c g = .ok b /\ (b = true -> Ok (f g) fun g'=>P g' /\ μ g' < μ g)) : ∀ (n : Nat) (g : γ), P g -> μ g < n -> Ok (Jq n g c f) fun g'=>P g' /\ c g' = .ok false
  | 0, _, _, h=>by omega
  | n + 1, g, hp, hm=>by
    obtain ⟨b, hb, h⟩:=hs g hp
    show Ok ((c g).bind _) _
    rw [hb, Res.okb]
    cases b with
    | false=>rw [if_neg Bool.false_ne_true]; exact ⟨g, rfl, hp, hb⟩
    | true=>
      rw [if_pos rfl]
      exact Ok.bind (h rfl) fun g' h'=>Uj P μ hs n g' h'.1 (by omega)
end My
namespace My
open PySem L2
theorem GG {r : List Int} {n : Nat} (hn : n <= 1000) (hr : n <= r.length) : Ok (ZK r (n : Int)) fun sp=>∃ p q, UE n sp p q:=by
  unfold ZK
  simp only [Res.okb]
  rw [Yp (by omega)]
  simp only [Res.okb]
  rw [Vk (by omega)]
  simp only [Res.okb]
  have e0 : ZC 0 (n : Int) = (List.range n).map fun (i : Nat)=>(i : Int):=by
    unfold ZC
    rw [Int.sub_zero, Int.toNat_natCast]
    exact List.map_congr_left fun i _=>by omega
  refine Ok.bind (Ok.forN (fun i (g : List Int × List Int)=>g.1.length = i /\ (g.1 ++ g.2).Perm ((List.range n).map fun (i : Nat)=>(i : Int))) ⟨rfl, by rw [e0]; exact List.Perm.refl _⟩ fun i a g ha hg=>?_) fun g hg=>?_
  . obtain ⟨rfl, hi⟩ := QZ ha
    obtain ⟨h1, h2⟩:=hg
    have hl:=h2.length_eq
    simp only [List.length_append, List.length_map, List.length_range] at hl
    have hri : r[i]? = some r[i]:=by simp [show i < r.length by omega]
    have hpos : (0 : Int) < (g.2.length : Int):=by omega
    have hm1:=Int.emod_nonneg r[i] (show (g.2.length : Int) ≠ 0 by omega)
    have hm2:=Int.emod_lt_of_pos r[i] hpos
    rw [Z2 hri, Res.okb, YS hpos, Res.okb]
    generalize hk : r[i] % (g.2.length : Int) = k at hm1 hm2
    obtain ⟨j, rfl⟩ : ∃ j : Nat, k = j:=⟨k.toNat, by omega⟩
    have hj : j < g.2.length:=by omega
    rw [Ip hj (by omega), Res.okb, Yp (IU (by omega))]
    refine ⟨_, rfl, by simp [h1], ?_⟩
    refine List.Perm.trans ?_ h2
    show ((g.1 ++ [g.2[j]]) ++ g.2.eraseIdx j).Perm (g.1 ++ g.2)
    rw [List.append_assoc]
    exact (VR hj).append_left _
  . obtain ⟨h1, h2⟩ := hg
    rw [Q6] at h1
    have hl:=h2.length_eq
    simp only [List.length_append, List.length_map, List.length_range] at hl
    have : g.2 = []:=List.length_eq_zero_iff.mp (by omega)
    rw [this, List.append_nil] at h2
    exact ⟨_, rfl, CO h2⟩
theorem Dm {n : Nat} {f : Nat -> Nat -> Nat} {sp : List Int} {p q : Nat -> Nat} (hn : n <= 1000) (hf : ∀ a b, a < n -> b < n -> f a b < n) (hp : UE n sp p q) : Zg (Ya n f) sp = .ok (Ya n fun x y=>p (f (q x) (q y))):=by
  have P:=hp.1
  unfold Zg
  simp only [Res.okb]
  rw [DT (h:=fun a=>a) (sz (by rw [X2]; omega)) fun a _=>rfl, Res.okb]
  simp only [List.map_id', X2]
  rw [Vk (by omega), Res.okb]
  apply Ok.eq
  refine Ok.bind (Ok.forN (fun i g=>g = Ya n fun x y=>if q x < i then p (f (q x) (q y)) else f x y) (Zr fun x y _ _=>by simp) fun i a g ha hg=>?_) fun g hg=>⟨g, rfl, ?_⟩
  . obtain ⟨rfl, hi⟩ := QZ ha
    subst hg
    simp only [Res.okb]
    refine Ok.bind (Ok.forN (fun j g=>g = Ya n fun x y=>if q x < i ∨ (q x = i /\ q y < j) then p (f (q x) (q y)) else f x y) (Zr fun x y _ _=>by simp) fun j b g hb hg=>?_) fun g hg=>⟨g, rfl, ?_⟩
    . obtain ⟨rfl, hj⟩ := QZ hb
      subst hg
      have hv:=hf i j hi hj
      rw [JT hi, Res.okb, VU hj, Res.okb, hp.get hv, Res.okb, hp.get hi, Res.okb, JT (P.lt i hi), Res.okb, hp.get hj, Res.okb, Fh (by rw [YF]; exact P.lt j hj), Res.okb, Fh (by rw [X2]; exact P.lt i hi), Res.okb]
      refine ⟨_, rfl, ?_⟩
      rw [E8 (P.lt i hi)]
      refine Zr fun x y hx hy=>?_
      by_cases e : x = p i /\ y = p j
      . rw [if_pos e, e.1, e.2, P.qp i hi, P.qp j hj, if_pos (by omega)]
      . rw [if_neg e]
        have : ¬ (q x = i /\ q y = j):=fun ⟨e1, e2⟩=>e ⟨by rw [← e1, P.pq x hx], by rw [← e2, P.pq y hy]⟩
        by_cases c : q x < i ∨ (q x = i /\ q y < j)
        . rw [if_pos c, if_pos (by omega)]
        . rw [if_neg c, if_neg (by omega)]
    . subst hg
      rw [Q6]
      refine Zr fun x y hx hy=>?_
      have:=P.qlt y hy
      by_cases c : q x < i + 1
      . rw [if_pos c, if_pos (by omega)]
      . rw [if_neg c, if_neg (by omega)]
  . subst hg
    rw [Q6]
    exact Zr fun x y hx hy=>by rw [if_pos (P.qlt x hx)]
end My
namespace My
open PySem L2
theorem Ug (a b : Bool) : Jc (.ok a) (.ok b) = .ok (a && b):=Bz fun _=>rfl
theorem G6 {way k : Int} {n a b : Nat} (hn : 0 < n) (h1 : n <= 1000) (ha : a < n) (hb : b < n) : Zj way (n : Int) k (a : Int) (b : Int) = .ok (G0 way n k a b):=by
  unfold Zj G0
  simp only [Res.okb, Ug, Bool.and_eq_true, decide_eq_true_eq, gt_iff_lt, ge_iff_le]
  rw [FG (by decide) (by decide)]
  simp only [Res.okb, Ug, Bool.and_eq_true, decide_eq_true_eq]
  rw [V2 (a:=2) (by decide) (by decide), Vh (a:=k) (by omega) (by omega), Vh (a:=1 - k) (by omega) (by omega)]
  simp only [Res.okb]
  by_cases c1 : way = 1
  . rw [if_pos c1, if_pos c1]; exact YS (by omega)
  rw [if_neg c1, if_neg c1]
  by_cases c2 : way = 2
  . rw [if_pos c2, if_pos c2]; exact YS (by omega)
  rw [if_neg c2, if_neg c2]
  by_cases c3 : way = 3 /\ 2 < (n : Int) /\ (a : Int) < 2 /\ (b : Int) = (n : Int) - 1
  . rw [if_pos c3, if_pos c3]
  rw [if_neg c3, if_neg c3]
  by_cases c4 : way = 6 /\ (a : Int) < (n : Int) - 1 /\ (b : Int) = (n : Int) - 1
  . rw [if_pos c4, if_pos c4]; exact YS (by omega)
  rw [if_neg c4, if_neg c4]
  by_cases c5 : way = 4 /\ (a : Int) < (n : Int) / 2 /\ (b : Int) < (n : Int) / 2
  . rw [if_pos c5, if_pos c5]; exact YS (by omega)
  rw [if_neg c5, if_neg c5]
  by_cases c6 : way = 4 /\ (n : Int) / 2 <= (a : Int) /\ (n : Int) / 2 <= (b : Int)
  . rw [if_pos c6, if_pos c6, YS (by omega), Res.okb]
  rw [if_neg c6, if_neg c6]
theorem U5 (x y : Int) : Qz x y = .ok (Int.gcd x y : Int):=by
  unfold Qz
  simp only [Res.okb]
  apply Ok.eq
  refine Ok.bind (Uj (fun g : Int × Int=>∃ u v : Nat, g = ((u : Int), (v : Int)) /\ Nat.gcd u v = Int.gcd x y) (fun g=>g.2.toNat) (fun g hg=>?_) _ ((x.natAbs : Int), (y.natAbs : Int)) ⟨x.natAbs, y.natAbs, rfl, rfl⟩ ?_) fun g hg=>?_
  . obtain ⟨u, v, rfl, h⟩ := hg
    refine ⟨_, rfl, fun c=>?_⟩
    have c' : (0 : Int) < (v : Int):=of_decide_eq_true c
    show Ok ((Jy (u : Int) (v : Int)).bind _) _
    rw [YS c', Res.okb]
    refine ⟨_, rfl, ⟨v, u % v, by rw [Int.natCast_emod], ?_⟩, ?_⟩
    . rw [← h, Nat.gcd_comm u v, Nat.gcd_rec v u, Nat.gcd_comm]
    . show ((u : Int) % (v : Int)).toNat < ((v : Int)).toNat
      have:=Int.emod_lt_of_pos (u : Int) c'
      have:=Int.emod_nonneg (u : Int) (show (v : Int) ≠ 0 by omega)
      omega
  . show ((y.natAbs : Int)).toNat < _
    omega
  . obtain ⟨⟨u, v, rfl, h⟩, hc⟩ := hg
    have hc' : ¬ (0 : Int) < (v : Int):=by
      have:=Res.ok.inj hc
      simpa using this
    have : v = 0:=by omega
    subst this
    rw [Nat.gcd_zero_right] at h
    exact ⟨_, rfl, by show (u : Int) = _; rw [h]⟩
theorem BZ {n : Nat} {t z : Int} (h : t = 1 + (n : Int) * z) : Int.gcd t n = 1:=by
  have h1 : ((Int.gcd t n : Nat) : Int) ∣ t:=Int.gcd_dvd_left ..
  have h2 : ((Int.gcd t n : Nat) : Int) ∣ (n : Int):=Int.gcd_dvd_right ..
  have h3 : ((Int.gcd t n : Nat) : Int) ∣ 1:=by
    have : (1 : Int) = t - (n : Int) * z:=by omega
    rw [this]
    exact Int.dvd_sub h1 (Int.dvd_trans h2 (Int.dvd_mul_right ..))
  have h4:=Int.eq_one_of_dvd_one (by omega) h3
  omega
theorem En {way k : Int} {n : Nat} (hn : 0 < n) (h1 : n <= 1000) : Ok (VN way (n : Int) k) fun t=>∃ f, GoodF n f /\ t = Ya n f:=by
  unfold VN
  simp only [Res.okb, Ug, Bool.and_eq_true, decide_eq_true_eq]
  by_cases c5 : way = 5 /\ (n : Int) = 4
  . rw [if_pos c5]
    have hn : n = 4:=by omega
    subst hn
    exact ⟨[[0, 3, 1, 2], [2, 1, 3, 0], [3, 0, 2, 1], [1, 2, 0, 3]], rfl, Jz, Fa, CW.symm⟩
  rw [if_neg c5]
  have ht:=Int.emod_add_mul_ediv (1 - k) (n : Int)
  have ht0:=Int.emod_nonneg (1 - k) (show (n : Int) ≠ 0 by omega)
  have ht1:=Int.emod_lt_of_pos (1 - k) (show (0 : Int) < (n : Int) by omega)
  generalize hq : (1 - k) % (n : Int) = m at ht ht0 ht1
  have hcop : Int.gcd (k + m) n = 1:=BZ (z:=-((1 - k) / (n : Int))) (by rw [Int.mul_neg]; omega)
  refine Ok.bind (Uj (fun g : Int=>k <= g /\ g <= k + m) (fun g=>(k + m - g).toNat) (fun g hg=>?_) _ k ⟨Int.le_refl _, by omega⟩ ?_) fun g hg=>?_
  . rw [U5, YC, Res.okb]
    refine ⟨_, rfl, fun c=>?_⟩
    have hne : g ≠ k + m:=fun e=>by
      rw [e, hcop] at c
      exact absurd c (by decide)
    refine ⟨_, rfl, ⟨by omega, by omega⟩, ?_⟩
    show (k + m - (g + 1)).toNat < (k + m - g).toNat
    omega
  . show (k + m - k).toNat < _
    omega
  . obtain ⟨_, hc⟩ := hg
    rw [U5, YC, Res.okb] at hc
    have hg1 : Int.gcd g n = 1:=by
      have:=Res.ok.inj hc
      simp at this
      omega
    obtain ⟨gd, hce⟩:=FU (way:=way) (k:=g) (n:=n) hn hg1
    refine ⟨Ya n (U7 way g n), ?_, _, gd, rfl⟩
    rw [Vk (by omega), Res.okb]
    have hrow : ∀ a : Nat, a < n -> UD ((List.range n).map fun (i : Nat)=>(i : Int)) (fun b=>noE (Zj way (n : Int) g (a : Int) b)) = .ok (ZO n (U7 way g n) a):=fun a ha=>by
      rw [DT (h:=fun x=>((U7 way g n a x.toNat : Nat) : Int)) (sz (by simp; omega)) fun x hx=>?_]
      . rw [List.map_map]; rfl
      . obtain ⟨b, hb, rfl⟩ := XX hx
        rw [G6 hn h1 ha hb, YC, Int.toNat_natCast, hce a b ha hb]
    rw [UO (h:=fun x=>ZO n (U7 way g n) x.toNat) (sz (by simp; omega)) fun l hl x hx=>?_]
    . rw [Res.okb, List.nil_append, List.map_map]; rfl
    . obtain ⟨a, ha, rfl⟩ := XX hx
      rw [Res.okb, hrow a ha, Res.okb, Yp hl, Int.toNat_natCast]
end My
namespace My
open PySem L2
section
variable {n : Nat}
theorem Ut {α β : Type} {f : α -> β} : ∀ {l : List α}, (∀ a b, a ∈ l -> b ∈ l -> f a = f b -> a = b) -> l.Nodup -> (l.map f).Nodup
  | [], _, _=>List.nodup_nil
  | x :: l, h, hn=>by
    have h2:=List.nodup_cons.mp hn
    refine List.nodup_cons.mpr ⟨fun hm=>?_, Ut (fun a b ha hb=>h a b (.tail _ ha) (.tail _ hb)) h2.2⟩
    obtain ⟨y, hy, e⟩:=List.mem_map.mp hm
    exact h2.1 ((h y x (.tail _ hy) (.head _) e) ▸ hy)
theorem F5 {α : Type} [DecidableEq α] : ∀ {l m : List α}, l.Nodup -> (∀ x ∈ l, x ∈ m) -> l.length <= m.length
  | [], m, _, _=>Nat.zero_le _
  | x :: l, m, h, hs=>by
    have hx:=hs x (.head _)
    have h2:=List.nodup_cons.mp h
    have:=F5 (l:=l) (m:=m.erase x) h2.2 fun y hy=>(List.mem_erase_of_ne fun e=>h2.1 (by rw [← e]; exact hy)).mpr (hs y (.tail _ hy))
    rw [List.length_erase_of_mem hx] at this
    have:=List.length_pos_of_mem hx
    rw [List.length_cons]
    omega
theorem KN {l : List Int} (h : l.Nodup) (hl : l.length = n) (hr : ∀ x ∈ l, ∃ i : Nat, i < n /\ x = i) : l.Perm ((List.range n).map fun (i : Nat)=>(i : Int)):=by
  have hnd : ((List.range n).map fun (i : Nat)=>(i : Int)).Nodup:=List.Pairwise.map _ (fun a b h e=>h (Int.ofNat.inj e)) List.nodup_range
  have hs : ∀ x ∈ l, x ∈ (List.range n).map fun (i : Nat)=>(i : Int):=fun x hx=>by
    obtain ⟨i, hi, rfl⟩:=hr x hx
    exact List.mem_map.mpr ⟨i, List.mem_range.mpr hi, rfl⟩
  refine (List.perm_ext_iff_of_nodup h hnd).mpr fun x=>⟨hs x, fun hx=>?_⟩
  by_cases hm : x ∈ l
  . exact hm
  . have:=F5 (l:=x :: l) (m:=(List.range n).map fun (i : Nat)=>(i : Int)) (List.nodup_cons.mpr ⟨hm, h⟩) fun y hy=>by
      rcases List.mem_cons.mp hy with z | z
      . rw [z]; exact hx
      . exact hs y z
    rw [List.length_cons, hl, List.length_map, List.length_range] at this
    exact absurd this (Nat.not_succ_le_self n)
theorem GU (n : Nat) : ((List.range n).map fun (i : Nat)=>(i : Int)).Pairwise (· <= ·):=List.Pairwise.map _ (fun a b h=>Int.ofNat_le.mpr (Nat.le_of_lt h)) List.pairwise_lt_range
end
end My
namespace My
open PySem L2
noncomputable def rl (n : Nat) : List Int:=(List.range n).map fun (i : Nat)=>(i : Int)
theorem DJ (n : Nat) : ZC 0 (n : Int) = rl n:=by
  unfold ZC rl
  simp
theorem Q3 {α : Type} {g : Unit -> α -> Res (Ctl Bool Unit)} {Q : α -> Prop} : ∀ {as : List α}, (∀ a ∈ as, (Q a -> g () a = .ok (.nx ())) /\ (¬ Q a -> g () a = .ok (.ret false))) -> ((∀ a ∈ as, Q a) -> forC as () g = .ok (.nx ())) /\ (¬ (∀ a ∈ as, Q a) -> forC as () g = .ok (.ret false))
  | [], _=>⟨fun _=>rfl, fun h=>absurd (fun a ha=>nomatch ha) h⟩
  | a :: as, h=>by
    have ih:=Q3 (as:=as) fun b hb=>h b (List.mem_cons_of_mem _ hb)
    obtain ⟨h1, h2⟩:=h a List.mem_cons_self
    by_cases c : Q a
    . refine ⟨fun q => ?_, fun q => ?_⟩
      . show (g () a).bind _ = _
        rw [h1 c, Res.okb]; exact ih.1 fun b hb=>q b (List.mem_cons_of_mem _ hb)
      . show (g () a).bind _ = _
        rw [h1 c, Res.okb]; exact ih.2 fun z=>q fun b hb=>(List.mem_cons.mp hb).elim (fun e=>e ▸ c) (z b)
    . refine ⟨fun q => absurd (q a List.mem_cons_self) c, fun _ => ?_⟩
      show (g () a).bind _ = _
      rw [h2 c, Res.okb]
theorem bs {α : Type} {as : List α} {g : Unit -> α -> Res (Ctl Bool Unit)} {k : Ctl Bool Unit -> Res Bool} {C : Prop} (P : α -> Prop) (h1 : ∀ a ∈ as, (P a -> g () a = .ok (.nx ())) /\ (¬ P a -> g () a = .ok (.ret false))) (h2 : (∀ a ∈ as, P a) -> ∃ b, k (.nx ()) = .ok b /\ (b = true ↔ C)) (h3 : C -> ∀ a ∈ as, P a) (h4 : k (.ret false) = .ok false) : ∃ b, (forC as () g).bind k = .ok b /\ (b = true ↔ C):=by
  by_cases c : ∀ a ∈ as, P a
  . rw [(Q3 h1).1 c, Res.okb]; exact h2 c
  . rw [(Q3 h1).2 c, Res.okb]; exact ⟨false, h4, ⟨fun z=>(by cases z), fun z=>absurd (h3 z) c⟩⟩
theorem bsC {α : Type} {as : List α} {g : Unit -> α -> Res (Ctl Bool Unit)} {k : Ctl Bool Unit -> Res (Ctl Bool Unit)} {P : Prop} (Q : α -> Prop) (h1 : ∀ a ∈ as, (Q a -> g () a = .ok (.nx ())) /\ (¬ Q a -> g () a = .ok (.ret false))) (hP : P ↔ ∀ a ∈ as, Q a) (h3 : k (.nx ()) = .ok (.nx ())) (h4 : k (.ret false) = .ok (.ret false)) :
    (P -> (forC as () g).bind k = .ok (.nx ())) /\ (¬ P -> (forC as () g).bind k = .ok (.ret false)):=
  ⟨fun p=>by rw [(Q3 h1).1 (hP.mp p), Res.okb, h3], fun p=>by rw [(Q3 h1).2 fun z=>p (hP.mpr z), Res.okb, h4]⟩
theorem IZ {a : Nat} {P : Nat -> Prop} : (∀ i : Nat, (a : Int) = i -> P i) ↔ P a:=⟨fun h=>h a rfl, fun h i e=>by
  obtain rfl : a = i:=by omega
  exact h⟩
theorem ifD {c : Prop} [Decidable c] : (c -> (if (!(decide c)) = true then Res.ok (Ctl.ret false : Ctl Bool Unit) else Res.ok (Ctl.nx ())) = .ok (.nx ())) /\ (¬ c -> (if (!(decide c)) = true then Res.ok (Ctl.ret false : Ctl Bool Unit) else Res.ok (Ctl.nx ())) = .ok (.ret false)):=
  ⟨fun h=>by rw [decide_eq_true h]; rfl, fun h=>by rw [decide_eq_false h]; rfl⟩
section
variable {n : Nat} {f : Nat -> Nat -> Nat}
theorem Kd {P : Int -> Prop} : (∀ x ∈ rl n, P x) ↔ ∀ i : Nat, i < n -> P i:=⟨fun h i hi=>h i (List.mem_map.mpr ⟨i, List.mem_range.mpr hi, rfl⟩), fun h x hx=>by
  obtain ⟨i, hi, rfl⟩:=XX hx
  exact h i hi⟩
noncomputable def VT (n : Nat) (f : Nat -> Nat -> Nat) (b : Nat) : List Int:=(List.range n).map fun x=>((f x b : Nat) : Int)
theorem Ia (hn : n <= 1000) {b : Nat} (hb : b < n) : UD (Ya n f) (fun r=>atR r (b : Int)) = .ok (VT n f b):=by
  unfold UD
  rw [Yp (sz (by rw [X2]; omega))]
  unfold Ya VT
  have : ∀ l : List Nat, GL (l.map (ZO n f)) (fun r=>atR r (b : Int)) = .ok (l.map fun x=>((f x b : Nat) : Int)):=by
    intro l
    induction l with
    | nil=>rfl
    | cons x l ih=>
      show (atR (ZO n f x) (b : Int)).bind _ = _
      rw [VU hb, Res.okb, ih]
      rfl
  exact this _
theorem KE {b : Nat} : (VT n f b).Nodup ↔ ∀ x y, x < n -> y < n -> f x b = f y b -> x = y:=by
  unfold VT
  constructor
  . intro h x y hx hy e
    have:=List.pairwise_iff_getElem.mp h
    rcases Nat.lt_trichotomy x y with z | z | z
    . exact absurd (by rw [List.getElem_map, List.getElem_map, List.getElem_range, List.getElem_range, e]) (this x y (by simpa using hx) (by simpa using hy) z)
    . exact z
    . exact absurd (by rw [List.getElem_map, List.getElem_map, List.getElem_range, List.getElem_range, e]) (this y x (by simpa using hy) (by simpa using hx) z)
  . intro h
    exact Ut (fun x y hx hy e=>h x y (List.mem_range.mp hx) (List.mem_range.mp hy) (Int.ofNat.inj e)) List.nodup_range
theorem Br (lt : ∀ a b, a < n -> b < n -> f a b < n) {b : Nat} (hb : b < n) : Vx (VT n f b) = rl n ↔ (VT n f b).Nodup:=by
  have hr : (rl n).Pairwise (· <= ·):=GU n
  have hnd : (rl n).Nodup:=Ut (fun x y _ _ e=>Int.ofNat.inj e) List.nodup_range
  constructor
  . intro e
    have:=Jb (VT n f b)
    rw [e] at this
    exact this.nodup_iff.mp hnd
  . intro h
    refine (K9 (List.Perm.symm (KN h (by simp [VT]) fun x hx=>?_)) hr).symm
    obtain ⟨y, hy, rfl⟩:=List.mem_map.mp hx
    exact ⟨_, lt y b (List.mem_range.mp hy) hb, rfl⟩
theorem CJ (lt : ∀ a b, a < n -> b < n -> f a b < n) (hn : n <= 24) : ∃ b, VG (Ya n f) = .ok b /\ (b = true ↔ GoodF n f):=by
  unfold VG
  simp only [Res.okb]
  rw [X2, Vk (by omega), Res.okb]
  refine bs (fun x : Int=>∀ i : Nat, x = i -> f i i = i) (fun x hx=>?_) (fun c1=>?_) (fun F x hx i e=>?_) rfl
  . obtain ⟨a, ha, rfl⟩ := XX hx
    rw [JT ha, Res.okb, VU ha, Res.okb, Res.okb]
    have e : (∀ i : Nat, (a : Int) = i -> f i i = i) ↔ ((f a a : Nat) : Int) = a:=by rw [IZ (P:=fun i=>f i i = i)]; omega
    rw [e]
    exact ifD
  . rw [Uz, Res.okb]
    refine bs (fun x : Int=>∀ i : Nat, x = i -> (VT n f i).Nodup) (fun x hx=>?_) (fun c2=>?_) (fun F x hx i e=>?_) rfl
    . obtain ⟨b, hb, rfl⟩ := XX hx
      rw [Ia (by omega) hb, Res.okb, Yp (by unfold VT; simp; omega), Res.okb, Yp (by omega), Res.okb, DJ, Res.okb]
      have e : (∀ i : Nat, (b : Int) = i -> (VT n f i).Nodup) ↔ Vx (VT n f b) = rl n:=by rw [Br lt hb, IZ (P:=fun i=>(VT n f i).Nodup)]
      rw [e]
      exact ifD
    . rw [Uz, Res.okb]
      refine bs (fun x : Int=>∀ i : Nat, x = i -> ∀ b c, b < n -> c < n -> f (f i b) c = f (f i c) (f b c)) (fun x hx=>?_) (fun c3=>?_) (fun F x hx i e=>?_) rfl
      . obtain ⟨a, ha, rfl⟩ := XX hx
        rw [Res.okb]
        refine bsC (fun x : Int=>∀ i : Nat, x = i -> ∀ c, c < n -> f (f a i) c = f (f a c) (f i c)) (fun x hx=>?_) ?_ rfl rfl
        . obtain ⟨b, hb, rfl⟩ := XX hx
          rw [Res.okb]
          refine bsC (fun x : Int=>∀ i : Nat, x = i -> f (f a b) i = f (f a i) (f b i)) (fun x hx=>?_) ?_ rfl rfl
          . obtain ⟨c, hc, rfl⟩ := XX hx
            simp only [Res.okb, JT ha, VU hb, JT (lt a b ha hb), VU hc, JT (lt a c ha hc), JT hb, VU (lt b c hb hc)]
            have e : (∀ i : Nat, (c : Int) = i -> f (f a b) i = f (f a i) (f b i)) ↔ ((f (f a b) c : Nat) : Int) = (f (f a c) (f b c) : Nat):=by rw [IZ (P:=fun i=>f (f a b) i = f (f a i) (f b i))]; omega
            rw [e]
            exact ifD
          . constructor
            . intro h x hx i e
              obtain ⟨c, hc, rfl⟩:=XX hx
              have : c = i:=by omega
              subst this
              exact h b rfl c hc
            . intro h i e c hc
              have : b = i:=by omega
              subst this
              exact Kd.mp h c hc c rfl
        . constructor
          . intro h x hx i e c hc
            obtain ⟨b, hb, rfl⟩:=XX hx
            have : b = i:=by omega
            subst this
            exact h a rfl b c hb hc
          . intro h i e b c hb hc
            have : a = i:=by omega
            subst this
            exact Kd.mp h b hb b rfl c hc
      . refine ⟨true, rfl, fun _ => ⟨⟨lt, fun x y b hx hy hb e => ?_⟩, fun a ha => Kd.mp c1 a ha a rfl, fun a b c ha hb hc => Kd.mp c3 a ha a rfl b c hb hc⟩, fun _ => rfl⟩
        exact KE.mp (Kd.mp c2 b hb b rfl) x y hx hy e
      . obtain ⟨a, ha, rfl⟩ := XX hx
        have : a = i:=by omega
        subst this
        exact fun b c hb hc=>F.r3 a b c ha hb hc
    . obtain ⟨b, hb, rfl⟩ := XX hx
      have : b = i:=by omega
      subst this
      exact KE.mpr fun x y hx hy e=>F.r2 x y b hx hy hb e
  . obtain ⟨a, ha, rfl⟩ := XX hx
    have : a = i:=by omega
    subst this
    exact F.r1 a ha
end
end My
namespace My
open PySem L2
noncomputable def tat (t : List (List Int)) (a b : Nat) : Int:=(t.getD a []).getD b 0
noncomputable def IX (n : Nat) (p : Nat -> Nat -> Nat -> Bool) : Bool:=(List.range n).all fun a=>(List.range n).all fun b=>(List.range n).all fun c=>p a b c
noncomputable def g3B (n : Nat) (t : List (List Int)) : Bool:=IX n fun a b c=>decide (tat t (tat t a b).toNat c = tat t (tat t a c).toNat (tat t b c).toNat)
noncomputable def inB (n : Nat) (t : List (List Int)) : Bool:=decide (t.length = n) && t.all fun r=>decide (r.length = n) && r.all fun x=>decide (0 <= x) && decide (x < (n : Int))
noncomputable def g1B (n : Nat) (t : List (List Int)) : Bool:=(List.range n).all fun a=>decide (tat t a a = (a : Int))
noncomputable def g2B (n : Nat) (t : List (List Int)) : Bool:=IX n fun x y b=>decide (tat t x b = tat t y b -> x = y)
noncomputable def gdB (n : Nat) (t : List (List Int)) : Bool:=inB n t && g1B n t && g2B n t && g3B n t
noncomputable def nds : List Int -> Bool
  | []=>true
  | a :: l=>!(l.contains a) && nds l
noncomputable def Ll (n : Nat) : Nat -> List (List Int)
  | 0=>[[]]
  | m + 1=>(List.range n).flatMap fun (a : Nat)=>(Ll n m).map fun l=>(a : Int) :: l
noncomputable def EF (n b : Nat) : List (List Int):=(Ll n n).filter fun c=>nds c && decide (c.getD b 0 = (b : Int))
noncomputable def Hh (n : Nat) : Nat -> List (List (List Int))
  | 0=>[[]]
  | k + 1=>(Hh n k).flatMap fun cs=>(EF n k).map fun c=>cs ++ [c]
noncomputable def Ce (n : Nat) (cs : List (List Int)) : List (List Int):=(List.range n).map fun a=>cs.map fun c=>c.getD a 0
noncomputable def G7 : List (List (List Int)) -> Bool
  | a :: b :: l=>ltG (ltG ltI) a b && G7 (b :: l)
  | _=>true
noncomputable def BE (n : Int) : Bool:=match YI n with
  | .ok l=>decide (0 < l.length /\ l.length < 64) && l.all (gdB n.toNat) && G7 l && (Hh n.toNat n.toNat).all fun cs=>!(g3B n.toNat (Ce n.toNat cs)) || l.contains (Ce n.toNat cs)
  | _=>false
theorem Gi {n : Nat} {p : Nat -> Nat -> Nat -> Bool} : IX n p = true ↔ ∀ a b c, a < n -> b < n -> c < n -> p a b c = true:=by
  unfold IX
  simp only [List.all_eq_true, List.mem_range]
  exact ⟨fun h a b c ha hb hc=>h a ha b hb c hc, fun h a ha b hb c hc=>h a b c ha hb hc⟩
section
variable {n : Nat} {f : Nat -> Nat -> Nat}
theorem J3 {a b : Nat} (ha : a < n) (hb : b < n) : tat (Ya n f) a b = (f a b : Int):=by
  have e1 : (Ya n f).getD a [] = ZO n f a:=by rw [List.getD_eq_getElem?_getD, Qe ha, Option.getD_some]
  unfold tat
  rw [e1, List.getD_eq_getElem?_getD, Ql hb, Option.getD_some]
theorem HK {t : List (List Int)} (hl : t.length = n) (hr : ∀ r ∈ t, r.length = n /\ ∀ x ∈ r, 0 <= x /\ x < (n : Int)) : t = Ya n (fun a b=>(tat t a b).toNat) /\ ∀ a b, a < n -> b < n -> 0 <= tat t a b /\ tat t a b < n:=by
  have ge : ∀ a b, a < n -> b < n -> 0 <= tat t a b /\ tat t a b < n:=fun a b ha hb=>by
    unfold tat
    have hge : ∀ {α : Type} {l : List α} {i : Nat} {d : α}, i < l.length -> l.getD i d ∈ l:=fun {α l i d} hi=>by rw [List.getD_eq_getElem?_getD, List.getElem?_eq_getElem hi]; exact List.getElem_mem _
    have hrow:=hr (t.getD a []) (hge (by omega))
    exact hrow.2 ((t.getD a []).getD b 0) (hge (by omega))
  refine ⟨?_, ge⟩
  refine List.ext_getElem (by rw [X2]; exact hl) fun a h1 h2=>?_
  have ha : a < n:=by omega
  have e:=Qe (f:=fun a b=>(tat t a b).toNat) ha
  rw [List.getElem?_eq_getElem h2] at e
  rw [Option.some.inj e]
  have hrow:=(hr t[a] (List.getElem_mem _)).1
  refine List.ext_getElem (by rw [YF]; exact hrow) fun b h3 h4=>?_
  have hb : b < n:=by omega
  have e2:=Ql (f:=fun a b=>(tat t a b).toNat) (a:=a) hb
  rw [List.getElem?_eq_getElem h4] at e2
  rw [Option.some.inj e2]
  have hg:=ge a b ha hb
  have e3 : tat t a b = t[a][b]:=by
    have e4 : t.getD a [] = t[a]:=by rw [List.getD_eq_getElem?_getD, List.getElem?_eq_getElem h1, Option.getD_some]
    unfold tat
    rw [e4, List.getD_eq_getElem?_getD, List.getElem?_eq_getElem h3, Option.getD_some]
  show t[a][b] = ((tat t a b).toNat : Int)
  omega
theorem VW {t : List (List Int)} (h : gdB n t = true) : ∃ f, t = Ya n f /\ GoodF n f:=by
  unfold gdB inB g1B g2B g3B at h
  simp only [Bool.and_eq_true, decide_eq_true_eq, List.all_eq_true, Gi, List.mem_range] at h
  obtain ⟨⟨⟨⟨hl, hr⟩, h1⟩, h2⟩, h3⟩:=h
  obtain ⟨et, ge⟩:=HK hl hr
  refine ⟨fun a b=>(tat t a b).toNat, et, ⟨⟨fun a b ha hb=>?_, fun x y b hx hy hb e=>?_⟩, fun a ha=>?_, fun a b c ha hb hc=>?_⟩⟩
  . have := ge a b ha hb
    show (tat t a b).toNat < n
    omega
  . have := ge x b hx hb
    have:=ge y b hy hb
    have e : (tat t x b).toNat = (tat t y b).toNat:=e
    exact h2 x y b hx hy hb (by omega)
  . have := h1 a ha
    show (tat t a a).toNat = a
    omega
  . have := h3 a b c ha hb hc
    show (tat t (tat t a b).toNat c).toNat = (tat t (tat t a c).toNat (tat t b c).toNat).toNat
    rw [this]
theorem Gm : ∀ {m : Nat} {l : List Int}, l.length = m -> (∀ x ∈ l, 0 <= x /\ x < (n : Int)) -> l ∈ Ll n m
  | 0, l, h, _=>by rw [List.length_eq_zero_iff.mp h]; exact List.mem_singleton.mpr rfl
  | m + 1, [], h, _=>nomatch h
  | m + 1, a :: l, h, hx=>by
    have ha:=hx a List.mem_cons_self
    refine List.mem_flatMap.mpr ⟨a.toNat, List.mem_range.mpr (by omega), List.mem_map.mpr ⟨l, Gm (by simpa using h) fun x hx'=>hx x (List.mem_cons_of_mem _ hx'), ?_⟩⟩
    rw [show ((a.toNat : Nat) : Int) = a by omega]
theorem BF : ∀ {l : List Int}, l.Nodup -> nds l = true
  | [], _=>rfl
  | a :: l, h=>by
    rw [List.nodup_cons] at h
    rw [nds, BF h.2, Bool.and_true, Bool.not_eq_true', List.contains_eq_mem, decide_eq_false_iff_not]
    exact h.1
theorem Cz (F : GoodF n f) {b : Nat} (hb : b < n) : VT n f b ∈ EF n b:=by
  unfold EF
  rw [List.mem_filter, Bool.and_eq_true, decide_eq_true_eq]
  refine ⟨Gm (by simp [VT]) fun x hx=>?_, BF (KE.mpr fun x y hx hy e=>F.r2 x y b hx hy hb e), ?_⟩
  . obtain ⟨y, hy, rfl⟩ := List.mem_map.mp hx
    have:=F.lt y b (List.mem_range.mp hy) hb
    omega
  . unfold VT
    rw [List.getD_eq_getElem?_getD, List.getElem?_map, List.getElem?_range hb, Option.map_some, Option.getD_some, F.r1 b hb]
theorem KZ (F : GoodF n f) : ∀ {k : Nat}, k <= n -> (List.range k).map (VT n f) ∈ Hh n k
  | 0, _=>List.mem_singleton.mpr rfl
  | k + 1, hk=>by
    rw [List.range_succ, List.map_append]
    exact List.mem_flatMap.mpr ⟨_, KZ F (by omega), List.mem_map.mpr ⟨_, Cz F (by omega), rfl⟩⟩
theorem ES : Ce n ((List.range n).map (VT n f)) = Ya n f:=by
  unfold Ce Ya
  refine List.map_congr_left fun a ha=>?_
  unfold ZO
  rw [List.map_map]
  refine List.map_congr_left fun b hb=>?_
  show (VT n f b).getD a 0 = _
  unfold VT
  rw [List.getD_eq_getElem?_getD, List.getElem?_map, List.getElem?_range (List.mem_range.mp ha), Option.map_some, Option.getD_some]
theorem KL : ∀ {l : List (List (List Int))}, G7 l = true -> ∀ k x y, l[k]? = some x -> l[k + 1]? = some y -> ltG (ltG ltI) x y = true
  | [], _, k, x, y, h, _=>by simp at h
  | [a], _, k, x, y, _, h=>by simp at h
  | a :: b :: l, h, k, x, y, h1, h2=>by
    rw [G7, Bool.and_eq_true] at h
    cases k with
    | zero=>simp at h1 h2; rw [← h1, ← h2]; exact h.1
    | succ k=>exact KL h.2 k x y (by simpa using h1) (by simpa using h2)
structure TabsOk (n : Nat) (l : List (List (List Int))) : Prop where
  some' : 0 < l.length
  len : l.length < 64
  good : ∀ t ∈ l, ∃ f, t = Ya n f /\ GoodF n f
  rise : ∀ k x y, l[k]? = some x -> l[k + 1]? = some y -> ltG (ltG ltI) x y = true
  all : ∀ f, GoodF n f -> Ya n f ∈ l
theorem BY (h : BE (n : Int) = true) : ∃ l, YI (n : Int) = .ok l /\ TabsOk n l:=by
  unfold BE at h
  cases e : YI (n : Int) with
  | bad=>rw [e] at h; cases h
  | err x=>rw [e] at h; cases h
  | ok l=>
    rw [e] at h
    have h : (decide (0 < l.length /\ l.length < 64) && l.all (gdB n) && G7 l && (Hh n n).all fun cs=>!(g3B n (Ce n cs)) || l.contains (Ce n cs)) = true:=h
    simp only [Bool.and_eq_true, List.all_eq_true, decide_eq_true_eq] at h
    obtain ⟨⟨⟨h0, h1⟩, h2⟩, h3⟩:=h
    refine ⟨l, rfl, h0.1, h0.2, fun t ht=>VW (h1 t ht), KL h2, fun f F=>?_⟩
    have:=h3 _ (KZ F (Nat.le_refl n))
    rw [ES, Bool.or_eq_true, Bool.not_eq_true'] at this
    rcases this with z | z
    . have g : g3B n (Ya n f) = true:=Gi.mpr fun a b c ha hb hc=>by
        rw [J3 ha hb, J3 ha hc, J3 hb hc, Int.toNat_natCast, Int.toNat_natCast, Int.toNat_natCast, J3 (F.lt a b ha hb) hc, J3 (F.lt a c ha hc) (F.lt b c hb hc), F.r3 a b c ha hb hc]
        exact decide_eq_true rfl
      rw [g] at z; cases z
    . simpa using z
end
end My
namespace My
open PySem L2
theorem UH {L : List (List Int)} {k : Nat} (h1 : L.length = k) (h2 : ∀ r ∈ L, r.length = k) : Zh L (k : Int) = .ok true:=by
  unfold Zh
  simp only [Res.okb]
  rw [h1, decide_eq_true rfl, show orR (Res.ok (!true)) (Res.ok (!true)) = .ok false from rfl, Res.okb, if_neg Bool.false_ne_true]
  rw [QV]
  . rfl
  intro row hrow
  rw [h2 row hrow, decide_eq_true rfl, show orR (Res.ok (!true)) (Res.ok (!true)) = .ok false from rfl, Res.okb, if_neg Bool.false_ne_true]
  rw [QV]
  . rfl
  intro x _
  rfl
end My
namespace My
open PySem L2
noncomputable def QF (g8 : List (List (List Int))) (a10 : List (List Int)) : Res (List (List (List Int))):=
  Res.bind (Res.bind (UD g8 fun a15=>Res.bind (noE (U9 a15 a10)) fun x21=>Res.ok x21.isNone) fun x22=>Res.ok (x22.all id)) fun x23=>if x23 = true then chk (g8.length < sizeLine) (Res.ok (g8 ++ [a10])) else Res.ok g8
noncomputable def UW (ks : List (List (List Int))) (n : Int) (d : List (List Int)) : Res Bool:=
  Res.bind (Bx ks (fun a67=>Res.bind (noE (YW d a67)) fun x73=>Res.ok (decide ((0 : Int) < (x73.length : Int)))) fun a67=>Res.ok a67) fun a64=>Res.bind (Res.bind (Res.bind (noE (Vu n)) fun x83=>UD x83 fun a81=>noE (Zg d a81)) (EV (ltG (ltG ltI)))) fun x87=>Res.ok (decide (a64 = [x87]))
noncomputable def isT : Res Bool -> Bool
  | .ok true=>true
  | _=>false
noncomputable def LD (a b : List (List Int)) : Bool:=match YW a b with
  | .ok []=>true
  | _=>false
noncomputable def GY (ks : List (List (List Int))) : Bool:=(List.range ks.length).all fun k=>(List.range k).all fun j=>LD (ks.getD j []) (ks.getD k [])
noncomputable def Bs (n : Int) : Bool:=match YI n with
  | .ok l=>match forN l [] QF with
    | .ok ks=>decide (ks.length < 64) && ks.all (gdB n.toNat) && G7 ks && GY ks && l.all fun d=>isT (UW ks n d)
    | _=>false
  | _=>false
end My
namespace My
open PySem L2
theorem ck1 : Bs 1 = true:=by decide +kernel
theorem ck2 : Bs 2 = true:=by decide +kernel
theorem ck3 : Bs 3 = true:=by decide +kernel
end My
namespace My
open PySem L2
theorem Mj : BE 1 = true:=by decide +kernel
theorem Mg : BE 2 = true:=by decide +kernel
theorem Me : BE 3 = true:=by decide +kernel
end My
namespace My
open PySem L2
noncomputable def lc0 : List (List (List Int)):=[[[0, 0, 0, 0], [1, 1, 1, 1], [2, 2, 2, 2], [3, 3, 3, 3]], [[0, 0, 0, 0], [1, 1, 1, 1], [2, 3, 2, 2], [3, 2, 3, 3]], [[0, 0, 0, 0], [1, 1, 1, 1], [3, 2, 2, 2], [2, 3, 3, 3]], [[0, 0, 0, 0], [1, 1, 1, 1], [3, 3, 2, 2], [2, 2, 3, 3]], [[0, 0, 0, 0], [1, 1, 1, 2], [2, 2, 2, 1], [3, 3, 3, 3]], [[0, 0, 0, 0], [1, 1, 3, 1], [2, 2, 2, 2], [3, 3, 1, 3]]]
noncomputable def lc1 : List (List (List Int)):=[[[0, 0, 0, 0], [1, 1, 3, 2], [2, 3, 2, 1], [3, 2, 1, 3]], [[0, 0, 0, 0], [2, 1, 1, 1], [1, 2, 2, 2], [3, 3, 3, 3]], [[0, 0, 0, 0], [2, 1, 1, 1], [3, 2, 2, 2], [1, 3, 3, 3]], [[0, 0, 0, 0], [2, 1, 1, 2], [1, 2, 2, 1], [3, 3, 3, 3]], [[0, 0, 0, 0], [3, 1, 1, 1], [1, 2, 2, 2], [2, 3, 3, 3]], [[0, 0, 0, 0], [3, 1, 1, 1], [2, 2, 2, 2], [1, 3, 3, 3]]]
noncomputable def lc2 : List (List (List Int)):=[[[0, 0, 0, 0], [3, 1, 3, 1], [2, 2, 2, 2], [1, 3, 1, 3]], [[0, 0, 0, 1], [1, 1, 1, 0], [2, 2, 2, 2], [3, 3, 3, 3]], [[0, 0, 0, 1], [1, 1, 1, 2], [2, 2, 2, 0], [3, 3, 3, 3]], [[0, 0, 0, 2], [1, 1, 1, 0], [2, 2, 2, 1], [3, 3, 3, 3]], [[0, 0, 0, 2], [1, 1, 1, 1], [2, 2, 2, 0], [3, 3, 3, 3]], [[0, 0, 1, 0], [1, 1, 0, 1], [2, 2, 2, 2], [3, 3, 3, 3]]]
noncomputable def lc3 : List (List (List Int)):=[[[0, 0, 1, 0], [1, 1, 3, 1], [2, 2, 2, 2], [3, 3, 0, 3]], [[0, 0, 1, 1], [1, 1, 0, 0], [2, 2, 2, 2], [3, 3, 3, 3]], [[0, 0, 1, 1], [1, 1, 0, 0], [3, 3, 2, 2], [2, 2, 3, 3]], [[0, 0, 3, 0], [1, 1, 0, 1], [2, 2, 2, 2], [3, 3, 1, 3]], [[0, 0, 3, 0], [1, 1, 1, 1], [2, 2, 2, 2], [3, 3, 0, 3]], [[0, 0, 3, 2], [1, 1, 1, 1], [3, 2, 2, 0], [2, 3, 0, 3]]]
noncomputable def lc4 : List (List (List Int)):=[[[0, 2, 0, 0], [1, 1, 1, 1], [2, 0, 2, 2], [3, 3, 3, 3]], [[0, 2, 0, 0], [1, 1, 1, 1], [2, 3, 2, 2], [3, 0, 3, 3]], [[0, 2, 0, 2], [1, 1, 1, 1], [2, 0, 2, 0], [3, 3, 3, 3]], [[0, 2, 0, 2], [3, 1, 3, 1], [2, 0, 2, 0], [1, 3, 1, 3]], [[0, 2, 1, 0], [2, 1, 0, 1], [1, 0, 2, 2], [3, 3, 3, 3]], [[0, 2, 3, 1], [3, 1, 0, 2], [1, 3, 2, 0], [2, 0, 1, 3]]]
noncomputable def lc5 : List (List (List Int)):=[[[0, 3, 0, 0], [1, 1, 1, 1], [2, 0, 2, 2], [3, 2, 3, 3]], [[0, 3, 0, 0], [1, 1, 1, 1], [2, 2, 2, 2], [3, 0, 3, 3]], [[0, 3, 0, 1], [3, 1, 1, 0], [2, 2, 2, 2], [1, 0, 3, 3]], [[0, 3, 1, 2], [2, 1, 3, 0], [3, 0, 2, 1], [1, 2, 0, 3]], [[0, 3, 3, 0], [1, 1, 1, 1], [2, 2, 2, 2], [3, 0, 0, 3]], [[0, 3, 3, 0], [2, 1, 1, 2], [1, 2, 2, 1], [3, 0, 0, 3]]]
noncomputable def kc0 : List (List (List Int)):=[]
noncomputable def kc1 : List (List (List Int)):=kc0 ++ [[[0, 0, 0, 0], [1, 1, 1, 1], [2, 2, 2, 2], [3, 3, 3, 3]], [[0, 0, 0, 0], [1, 1, 1, 1], [2, 3, 2, 2], [3, 2, 3, 3]], [[0, 0, 0, 0], [1, 1, 1, 1], [3, 3, 2, 2], [2, 2, 3, 3]]]
noncomputable def kc2 : List (List (List Int)):=kc1 ++ [[[0, 0, 0, 0], [1, 1, 3, 2], [2, 3, 2, 1], [3, 2, 1, 3]], [[0, 0, 0, 0], [2, 1, 1, 1], [3, 2, 2, 2], [1, 3, 3, 3]]]
noncomputable def kc3 : List (List (List Int)):=kc2
noncomputable def kc4 : List (List (List Int)):=kc3 ++ [[[0, 0, 1, 1], [1, 1, 0, 0], [3, 3, 2, 2], [2, 2, 3, 3]]]
noncomputable def kc5 : List (List (List Int)):=kc4 ++ [[[0, 2, 3, 1], [3, 1, 0, 2], [1, 3, 2, 0], [2, 0, 1, 3]]]
noncomputable def kc6 : List (List (List Int)):=kc5
noncomputable def l4 : List (List (List Int)):=lc0 ++ (lc1 ++ (lc2 ++ (lc3 ++ (lc4 ++ lc5))))
noncomputable def eqR (m : Res (List (List (List Int)))) (l : List (List (List Int))) : Bool:=match m with
  | .ok x=>decide (x = l)
  | _=>false
theorem Jr {m : Res (List (List (List Int)))} {l : List (List (List Int))} (h : eqR m l = true) : m = .ok l:=by
  cases m with
  | bad=>cases h
  | err x=>cases h
  | ok x=>rw [of_decide_eq_true (show decide (x = l) = true from h)]
noncomputable def LF (n : Nat) (l : List (List (List Int))) : Bool:=decide (0 < l.length /\ l.length < 64) && l.all (gdB n) && G7 l
noncomputable def LR (n : Nat) (l : List (List (List Int))) : Bool:=(Hh n n).all fun cs=>!(g3B n (Ce n cs)) || l.contains (Ce n cs)
theorem t4a : eqR (YI 4) l4 = true:=by decide +kernel
theorem t4b : LF 4 l4 = true:=by decide +kernel
theorem t4c : LR 4 l4 = true:=by decide +kernel
theorem L6 : BE 4 = true:=by
  have e : YI 4 = .ok l4:=Jr t4a
  unfold BE
  rw [e]
  have h1:=t4b
  have h2:=t4c
  unfold LF at h1
  unfold LR at h2
  show (decide (0 < l4.length /\ l4.length < 64) && l4.all (gdB 4) && G7 l4 && (Hh 4 4).all fun cs=>!(g3B 4 (Ce 4 cs)) || l4.contains (Ce 4 cs)) = true
  rw [h1, h2]
  rfl
theorem k4a : eqR (forN lc0 kc0 QF) kc1 = true:=by decide +kernel
theorem k4b : eqR (forN lc1 kc1 QF) kc2 = true:=by decide +kernel
theorem k4c : eqR (forN lc2 kc2 QF) kc3 = true:=by decide +kernel
theorem k4d : eqR (forN lc3 kc3 QF) kc4 = true:=by decide +kernel
theorem k4e : eqR (forN lc4 kc4 QF) kc5 = true:=by decide +kernel
theorem k4f : eqR (forN lc5 kc5 QF) kc6 = true:=by decide +kernel
noncomputable def drB (l : List (List (List Int))) : Bool:=l.all fun d=>isT (UW kc6 4 d)
theorem d4a : drB lc0 = true:=by decide +kernel
theorem d4b : drB lc1 = true:=by decide +kernel
theorem d4c : drB lc2 = true:=by decide +kernel
theorem d4d : drB lc3 = true:=by decide +kernel
theorem d4e : drB lc4 = true:=by decide +kernel
theorem d4f : drB lc5 = true:=by decide +kernel
theorem p4 : GY kc6 = true:=by decide +kernel
theorem q4 : (decide (kc6.length < 64) && kc6.all (gdB 4) && G7 kc6) = true:=by decide +kernel
end My
namespace My
open PySem L2
theorem Qt {α γ : Type} {F : γ -> α -> Res γ} : ∀ (a b : List α) (g : γ), forN (a ++ b) g F = (forN a g F).bind fun g'=>forN b g' F
  | [], b, g=>rfl
  | x :: a, b, g=>by
    show (F g x).bind _ = ((F g x).bind _).bind _
    cases F g x with
    | bad=>rfl
    | err e=>rfl
    | ok g'=>exact Qt a b g'
theorem k4 : forN l4 [] QF = .ok kc6:=by
  have e0 : ([] : List (List (List Int))) = kc0:=rfl
  have a:=Jr k4a
  have b:=Jr k4b
  have c:=Jr k4c
  have d:=Jr k4d
  have e:=Jr k4e
  have f:=Jr k4f
  unfold l4
  rw [e0]
  generalize QF = F at *
  generalize lc0 = x0 at *
  generalize lc1 = x1 at *
  generalize lc2 = x2 at *
  generalize lc3 = x3 at *
  generalize lc4 = x4 at *
  generalize lc5 = x5 at *
  generalize kc6 = y6 at *
  generalize kc5 = y5 at *
  generalize kc4 = y4 at *
  generalize kc3 = y3 at *
  generalize kc2 = y2 at *
  generalize kc1 = y1 at *
  generalize kc0 = y0 at *
  rw [Qt, a, Res.okb, Qt, b, Res.okb, Qt, c, Res.okb, Qt, d, Res.okb, Qt, e, Res.okb, f]
theorem E4 {n : Int} {l ks : List (List (List Int))} (e : YI n = .ok l) (k : forN l [] QF = .ok ks) : Bs n = (decide (ks.length < 64) && ks.all (gdB n.toNat) && G7 ks && GY ks && l.all fun d=>isT (UW ks n d)):=by
  unfold Bs
  rw [e]
  simp only []
  rw [k]
theorem Mf {p : List (List Int) -> Bool} (a : lc0.all p = true) (b : lc1.all p = true) (c : lc2.all p = true) (d : lc3.all p = true) (e : lc4.all p = true) (f : lc5.all p = true) : l4.all p = true:=by
  unfold l4
  rw [List.all_append, List.all_append, List.all_append, List.all_append, List.all_append, a, b, c, d, e, f]
  rfl
theorem ck4 : Bs 4 = true:=by
  have h:=E4 (Jr t4a) k4
  have e4 : (4 : Int).toNat = 4:=rfl
  rw [e4] at h
  have e:=Mf (p:=fun d=>isT (UW kc6 4 d)) d4a d4b d4c d4d d4e d4f
  rw [h, q4, p4, e]
  rfl
end My
namespace My
open PySem L2
section
variable {n : Nat} {l ks : List (List (List Int))}
structure KindsOk (n : Nat) (ks : List (List (List Int))) : Prop where
  len : ks.length < 64
  good : ∀ t ∈ ks, ∃ f, t = Ya n f /\ GoodF n f
  rise : ∀ k x y, ks[k]? = some x -> ks[k + 1]? = some y -> ltG (ltG ltI) x y = true
  two : ∀ j k, j < k -> k < ks.length -> YW (ks.getD j []) (ks.getD k []) = .ok []
  draw : ∀ f, GoodF n f -> UW ks (n : Int) (Ya n f) = .ok true
theorem B6 {a b : List (List Int)} (h : LD a b = true) : YW a b = .ok []:=by
  unfold LD at h
  cases e : YW a b with
  | bad=>rw [e] at h; cases h
  | err x=>rw [e] at h; cases h
  | ok l=>cases l with
    | nil=>rfl
    | cons x y=>rw [e] at h; cases h
theorem HE {m : Res Bool} (h : isT m = true) : m = .ok true:=by
  cases m with
  | bad=>cases h
  | err x=>cases h
  | ok b=>cases b with
    | true=>rfl
    | false=>cases h
theorem JJ (h1 : BE (n : Int) = true) (h2 : Bs (n : Int) = true) : ∃ ks, ZF (n : Int) = .ok ks /\ KindsOk n ks:=by
  obtain ⟨l, el, TT⟩:=BY h1
  unfold Bs at h2
  rw [el] at h2
  have h2 : (match forN l [] QF with
    | .ok ks=>decide (ks.length < 64) && ks.all (gdB n) && G7 ks && GY ks && l.all fun d=>isT (UW ks (n : Int) d)
    | _=>false) = true:=h2
  cases ek : forN l [] QF with
  | bad=>rw [ek] at h2; cases h2
  | err x=>rw [ek] at h2; cases h2
  | ok ks=>
    rw [ek] at h2
    have h2 : (decide (ks.length < 64) && ks.all (gdB n) && G7 ks && GY ks && l.all fun d=>isT (UW ks (n : Int) d)) = true:=h2
    simp only [Bool.and_eq_true, List.all_eq_true, decide_eq_true_eq] at h2
    obtain ⟨⟨⟨⟨a0, a1⟩, a2⟩, a3⟩, a4⟩:=h2
    refine ⟨ks, ?_, a0, fun t ht=>VW (a1 t ht), KL a2, fun j k hj hk=>?_, fun f F=>HE (a4 _ (TT.all f F))⟩
    . unfold ZF
      simp only [Res.okb]
      rw [el, YC, Res.okb]
      show Res.bind (forN l [] fun g8 a10=>Res.bind (QF g8 a10) fun g30=>Res.ok g30) _ = _
      have e : (fun g8 a10=>Res.bind (QF g8 a10) fun g30=>Res.ok g30) = QF:=by
        funext g a
        cases QF g a <;> rfl
      rw [e, ek, Res.okb]
    . unfold GY at a3
      simp only [List.all_eq_true, List.mem_range] at a3
      exact B6 (a3 k hk j hj)
theorem K4 {f : Nat -> Nat -> Nat} (F : GoodF n f) (hn : n <= 24) (KK : KindsOk n ks) : ZZ ks (n : Int) (Ya n f) = .ok true:=by
  unfold ZZ
  simp only [Res.okb]
  have hlen:=KK.len
  rw [if_neg (by decide), Vk (n:=ks.length) (by omega), Res.okb, QV fun a ha=>?_]
  . rw [Res.okb, Uz]
    have hd:=KK.draw f F
    unfold UW at hd
    have sh : ∀ {m : Res (List (List Int))} {a : List (List (List Int))} , (Res.bind (Res.bind (m.bind fun x87=>Res.ok (x87 :: [])) fun x76=>chk (x76.length <= sizeLine) (Res.ok x76)) fun x90=>Res.ok (decide (a = x90))) = m.bind fun x87=>Res.ok (decide (a = [x87])):=fun {m a}=>by
      cases m with
      | bad=>rfl
      | err x=>rfl
      | ok x=>
        show (chk ([x].length <= sizeLine) (Res.ok [x])).bind _ = _
        rw [Yp (sz (by simp))]; rfl
    have e2 : ∀ a67 : List (List Int), (Res.bind (Res.bind (noE (YW (Ya n f) a67)) fun x50=>Res.ok (x50.length : Int)) fun x24=>Res.ok (decide ((0 : Int) < x24))) = Res.bind (noE (YW (Ya n f) a67)) fun x73=>Res.ok (decide ((0 : Int) < (x73.length : Int))):=fun a67=>by
      cases noE (YW (Ya n f) a67) <;> rfl
    simp only [sh, e2]
    exact hd
  . obtain ⟨i, hi, rfl⟩ := XX ha
    obtain ⟨g, eg, G⟩:=KK.good ks[i] (List.getElem_mem hi)
    have ei : atR ks (i : Int) = .ok ks[i]:=Z2 (by simp [hi])
    have ea : atR ks (i : Int) = .ok (Ya n g):=by rw [← eg]; exact ei
    rw [ea]
    simp only [Res.okb]
    rw [UH (k:=n) (X2 n g) fun r hr=>Fs hr, YC, Res.okb]
    obtain ⟨b, eb, hb⟩:=CJ G.lt hn
    rw [hb.mpr G] at eb
    rw [eb, YC, Res.okb]
    rw [show orR (Res.ok (!true)) (Res.ok (!true)) = .ok false from rfl, Res.okb, if_neg (by decide)]
    rw [Bz (c:=false) fun h=>?_, Bool.and_false, Res.okb, if_neg (by decide)]
    . rw [Vk (n := i) (by omega), Res.okb, QV fun b hb => ?_]
      . rfl
      . obtain ⟨j, hj, rfl⟩ := XX hb
        have ej : atR ks (j : Int) = .ok ks[j]:=Z2 (by simp)
        have h2:=KK.two j i hj hi
        rw [List.getD_eq_getElem?_getD, List.getElem?_eq_getElem (by omega), Option.getD_some, List.getD_eq_getElem?_getD, List.getElem?_eq_getElem hi, Option.getD_some] at h2
        rw [ej, Res.okb, ← eg, h2, YC]
        rfl
    . have h0 : (0 : Int) < i := of_decide_eq_true h
      obtain ⟨k, rfl⟩ : ∃ k, i = k + 1:=⟨i - 1, by omega⟩
      have ek : atR ks (((k + 1 : Nat) : Int) - 1) = .ok ks[k]:=by
        rw [show ((k + 1 : Nat) : Int) - 1 = (k : Int) by omega]
        exact Z2 (by simp)
      rw [ek]
      simp only [Res.okb]
      rw [← eg, KK.rise k ks[k] ks[k + 1] (by simp) (by simp)]
      rfl
theorem Dx {α : Type} {c : α -> Res Bool} : ∀ {l : List α}, (∀ r ∈ l, c r = .ok false) -> Cg c l = .ok true
  | [], _=>rfl
  | r :: l, h=>by
    rw [Cg, h r List.mem_cons_self, Res.okb, if_neg (by decide)]
    exact Dx fun x hx=>h x (List.mem_cons_of_mem _ hx)
theorem Ba (hn : n <= 24) (KK : KindsOk n ks) : ∃ l', Ji ks (n : Int) = .ok (true, l') /\ l'.length < 64:=by
  unfold Ji
  simp only [Res.okb]
  have hrow : ∀ t ∈ ks, ∀ row ∈ t, row.length = n:=fun t ht row hr=>by
    obtain ⟨g, rfl, G⟩:=KK.good t ht
    exact Fs hr
  rw [Yp fun t ht row hr=>IU (by rw [hrow t ht row hr]; omega)]
  rw [Dx fun r hr=>?_]
  . exact ⟨_, rfl, by rw [List.length_map]; exact KK.len⟩
  . obtain ⟨t', ht', hr'⟩ := List.mem_flatten.mp hr
    obtain ⟨t, ht, rfl⟩:=List.mem_map.mp ht'
    obtain ⟨row, hrow', rfl⟩:=List.mem_map.mp hr'
    rw [List.length_append, hrow t ht row hrow', decide_eq_true (by simp)]
    rfl
end
theorem IB {n : Nat} (h0 : 0 < n) (h4 : n <= 4) : ∃ ks, ZF (n : Int) = .ok ks /\ KindsOk n ks:=by
  rcases (show n = 1 ∨ n = 2 ∨ n = 3 ∨ n = 4 by omega) with rfl | rfl | rfl | rfl
  . exact JJ Mj ck1
  . exact JJ Mg ck2
  . exact JJ Me ck3
  . exact JJ L6 ck4
noncomputable def Bq (w : Int) : Bool:=match Ju w 4 with
  | .ok t=>gdB 4 t
  | _=>false
theorem Lc : Bq 0 = true:=by decide +kernel
theorem Lm : Bq 1 = true:=by decide +kernel
theorem Ge {w : Int} (h : Bq w = true) : ∃ f, Ju w 4 = .ok (Ya 4 f) /\ GoodF 4 f:=by
  unfold Bq at h
  cases e : Ju w 4 with
  | bad=>rw [e] at h; cases h
  | err x=>rw [e] at h; cases h
  | ok t=>
    rw [e] at h
    obtain ⟨f, rfl, F⟩:=VW (show gdB 4 t = true from h)
    exact ⟨f, rfl, F⟩
theorem Cn (ns : List Int) (_ : ns.length <= 63) : KB ns = .ok true:=by
  unfold KB
  simp only [Res.okb]
  have s1 : (Res.bind (chk ((((4 : Int) :: ((9 : Int) :: ((2 : Int) :: ((3 : Int) :: [])))).length) <= sizeLine) (Res.ok ((4 : Int) :: ((9 : Int) :: ((2 : Int) :: ((3 : Int) :: [])))))) fun x4=>(Res.bind (Res.bind (chk ((((24 : Int) :: []).length) <= sizeLine) (Res.ok ((24 : Int) :: []))) fun x15=>(Lg x15 (4 : Int))) fun x5=>(Hl x4 x5))) = .ok (4 :: 9 :: 2 :: 3 :: List.replicate 4 24):=rfl
  rw [s1, Res.okb]
  obtain ⟨r, er, hl, hv⟩:=HW ns (p:=1) (by decide) (4 :: 9 :: 2 :: 3 :: List.replicate 4 24) (by decide) (by decide)
  have hl : r.length = 8:=hl
  rw [er, YC, Res.okb, Gq (r:=r) (k:=0) (n:=0) rfl (by omega), Gq (r:=r) (k:=1) (n:=1) rfl (by omega), Gq (r:=r) (k:=2) (n:=2) rfl (by omega), Gq (r:=r) (k:=3) (n:=3) rfl (by omega)]
  simp only [Res.okb]
  rw [YS (by decide), YS (by decide)]
  simp only [Res.okb]
  have h1:=hv 1 r[1] 9 (by simp) rfl
  rw [show FM r (some 4) none = r.drop 4 from Cr r (k:=4) (by omega)]
  -- the size
  have hsz : ∃ n : Nat, 0 < n /\ n <= 4 /\ (if decide ((0 : Int) < r[3]) = true then Res.ok ((1 : Int) + r[0] % 3) else Res.ok (4 : Int)) = .ok (n : Int):=by
    split
    . have := Int.emod_nonneg r[0] (show (3 : Int) ≠ 0 by decide)
      have:=Int.emod_lt_of_pos r[0] (show (0 : Int) < 3 by decide)
      exact ⟨((1 : Int) + r[0] % 3).toNat, by omega, by omega, by rw [show ((((1 : Int) + r[0] % 3).toNat : Nat) : Int) = (1 : Int) + r[0] % 3 by omega]⟩
    . exact ⟨4, by decide, by decide, rfl⟩
  obtain ⟨n, hn0, hn4, en⟩:=hsz
  rw [en, Res.okb]
  obtain ⟨t, et, f, gf, rfl⟩:=En (way:=r[1] % 7) (k:=(1 : Int) + r[2]) hn0 (show n <= 1000 by omega)
  rw [et, YC, Res.okb]
  have hdr : ∃ g, GoodF n g /\ (Res.bind (Jc (Res.ok (decide ((n : Int) = (4 : Int)))) (Res.ok (decide ((6 : Int) < r[1])))) fun x62=>if x62 = true then Res.bind (noE (Ju (r[1] - 7) (4 : Int))) fun a65=>Res.ok a65 else Res.ok (Ya n f)) = .ok (Ya n g):=by
    rw [Ug, Res.okb]
    by_cases c : (decide ((n : Int) = (4 : Int)) && decide ((6 : Int) < r[1])) = true
    . rw [if_pos c]
      rw [Bool.and_eq_true, decide_eq_true_eq, decide_eq_true_eq] at c
      obtain rfl : n = 4:=by omega
      rcases (show r[1] - 7 = 0 ∨ r[1] - 7 = 1 by omega) with e | e
      . obtain ⟨g, eg, G⟩ := Ge Lc
        exact ⟨g, G, by rw [e, eg]; rfl⟩
      . obtain ⟨g, eg, G⟩ := Ge Lm
        exact ⟨g, G, by rw [e, eg]; rfl⟩
    . rw [if_neg c]
      exact ⟨f, gf, rfl⟩
  obtain ⟨g, G, eg⟩:=hdr
  rw [eg, Res.okb]
  obtain ⟨sp, esp, p, q, hp⟩:=GG (r:=r.drop 4) (n:=n) (by omega) (by rw [List.length_drop]; omega)
  rw [esp, YC, Res.okb, Dm (by omega) G.lt hp, YC, Res.okb]
  have G2 : GoodF n fun x y=>p (g (q x) (q y)):=hp.1.good G
  obtain ⟨ks, ek, KK⟩:=IB hn0 hn4
  obtain ⟨l', el', hl'⟩:=Ba (by omega) KK
  rw [ek, YC, Res.okb, K4 G2 (by omega) KK, YC, Res.okb, Res.okb, if_neg (by decide), el', YC]
  simp only [Res.okb]
  rw [if_pos trivial, Yp (IU (by omega)), K4 G2 (by omega) KK, YC]
  rw [show ∀ b : Bool, orR (Res.ok b) (Res.ok true) = .ok true from fun b=>by cases b <;> rfl]
  simp only [decide_true]
  rfl
end My
namespace My
open PySem L2
noncomputable def top (i : Nat) : Stmt:=PySem.Challenge.pw_plait_k46_kinds.main.body.getD i (.Pass ⟨0, 0, 0, 0⟩)
noncomputable abbrev ZE : Stmt:=top 4
noncomputable abbrev QO : Stmt:=top 5
noncomputable abbrev Zk : Stmt:=top 6
noncomputable abbrev Ui : Stmt:=top 8
noncomputable abbrev Zi : Stmt:=top 9
noncomputable abbrev YR : Stmt:=top 10
noncomputable abbrev Qp : Stmt:=top 11
noncomputable abbrev YY : Stmt:=top 12
noncomputable abbrev Q1 : Stmt:=top 15
noncomputable abbrev Zf : Stmt:=top 16
noncomputable abbrev Yd : Stmt:=top 17
noncomputable abbrev X5 : Stmt:=top 18
noncomputable abbrev Ca : Stmt:=top 21
noncomputable abbrev Qg : Stmt:=top 22
noncomputable abbrev Jm : Stmt:=top 23
noncomputable abbrev YK : Stmt:=top 24
noncomputable abbrev ZG : Stmt:=top 25
noncomputable abbrev YZ : Stmt:=top 26
noncomputable abbrev Uf : Stmt:=top 27
noncomputable abbrev F8 : Stmt:=top 29
noncomputable abbrev Ex : Stmt:=top 30
noncomputable abbrev EW : Stmt:=top 31
noncomputable abbrev Vq : Stmt:=top 32
noncomputable abbrev Us : Stmt:=top 33
noncomputable abbrev K0 : Stmt:=top 34
noncomputable abbrev Vv : Stmt:=top 35
noncomputable abbrev JM : Stmt:=top 36
noncomputable abbrev Jj : Stmt:=top 37
noncomputable abbrev Jh : Stmt:=top 38
noncomputable abbrev Gn : Stmt:=top 39
noncomputable abbrev UC : Stmt:=top 40
noncomputable abbrev JF : Stmt:=top 41
noncomputable abbrev KD : Stmt:=top 42
noncomputable abbrev F4 : Stmt:=top 43
noncomputable abbrev Ku : Stmt:=top 44
noncomputable abbrev Vo : Stmt:=top 45
noncomputable abbrev KI : Stmt:=top 46
noncomputable abbrev Uh : Stmt:=top 47
theorem Kb {X : Cx} : PE X (.List [.List [.Constant (.int 0) 0 ⟨157, 17, 157, 18⟩, .Constant (.int 3) 0 ⟨157, 20, 157, 21⟩, .Constant (.int 1) 0 ⟨157, 23, 157, 24⟩, .Constant (.int 2) 0 ⟨157, 26, 157, 27⟩] ⟨157, 16, 157, 28⟩, .List [.Constant (.int 2) 0 ⟨157, 31, 157, 32⟩, .Constant (.int 1) 0 ⟨157, 34, 157, 35⟩, .Constant (.int 3) 0 ⟨157, 37, 157, 38⟩, .Constant (.int 0) 0 ⟨157, 40, 157, 41⟩] ⟨157, 30, 157, 42⟩, .List [.Constant (.int 3) 0 ⟨157, 45, 157, 46⟩, .Constant (.int 0) 0 ⟨157, 48, 157, 49⟩, .Constant (.int 2) 0 ⟨157, 51, 157, 52⟩, .Constant (.int 1) 0 ⟨157, 54, 157, 55⟩] ⟨157, 44, 157, 56⟩, .List [.Constant (.int 1) 0 ⟨157, 59, 157, 60⟩, .Constant (.int 2) 0 ⟨157, 62, 157, 63⟩, .Constant (.int 0) 0 ⟨157, 65, 157, 66⟩, .Constant (.int 3) 0 ⟨157, 68, 157, 69⟩] ⟨157, 58, 157, 70⟩] ⟨157, 15, 157, 71⟩) (CV (XB (CV (XB (tC (.int 0)) (XB (tC (.int 3)) (XB (tC (.int 1)) (XB (tC (.int 2)) Zx))))) (XB (CV (XB (tC (.int 2)) (XB (tC (.int 1)) (XB (tC (.int 3)) (XB (tC (.int 0)) Zx))))) (XB (CV (XB (tC (.int 3)) (XB (tC (.int 0)) (XB (tC (.int 2)) (XB (tC (.int 1)) Zx))))) (XB (CV (XB (tC (.int 1)) (XB (tC (.int 2)) (XB (tC (.int 0)) (XB (tC (.int 3)) Zx))))) Zx))))):=by
  refine XW ?_
  refine Uu ?_ ?_
  . exact XW (Xd Xi (Xd Xi (Xd Xi (Xd Xi Xf))))
  refine Uu ?_ ?_
  . exact XW (Xd Xi (Xd Xi (Xd Xi (Xd Xi Xf))))
  refine Uu ?_ ?_
  . exact XW (Xd Xi (Xd Xi (Xd Xi (Xd Xi Xf))))
  refine Uu ?_ ?_
  . exact XW (Xd Xi (Xd Xi (Xd Xi (Xd Xi Xf))))
  exact Xf
noncomputable def C9 : Scope:={ kind:=PySem.ScopeKind.function, names:=[ (PySem.Str.ofString ".0", PySem.NameKind.local), (PySem.Str.ofString "a", PySem.NameKind.cell), (PySem.Str.ofString "columns", PySem.NameKind.free)], isGenerator:=false, isCoroutine:=false, more:=[] : PySem.Scope }
structure Blt (mg : Str -> Option Value) : Prop where
  b_abs : mg "abs" = none
  b_all : mg "all" = none
  b_bool : mg "bool" = none
  b_enumerate : mg "enumerate" = none
  b_int : mg "int" = none
  b_isinstance : mg "isinstance" = none
  b_len : mg "len" = none
  b_list : mg "list" = none
  b_max : mg "max" = none
  b_min : mg "min" = none
  b_range : mg "range" = none
  b_sorted : mg "sorted" = none
  c_MOST_OF_ALL : ∃ u, mg "MOST_OF_ALL" = some u /\ X7 (.int 4) u
  c_MOST_TO_COMPARE : ∃ u, mg "MOST_TO_COMPARE" = some u /\ X7 (.int 6) u
section
variable {P : Program} {w : World} {K : PySem.W.Frag} {mg : Str -> Option Value} {base : Heap}
theorem Vi : FnScope ["most", "size"] ["most", "size"] (Xh ZE):=⟨rfl, rfl, rfl, by decide +kernel, rfl, by decide +kernel, by decide +kernel⟩
set_option maxHeartbeats 4000000 in
theorem J4 (D : Def K mg "refuse_above" ZE ["most", "size"])  (Z : Blt mg) : Fn P w K mg base 1 "refuse_above" ["most", "size"] (sp2 Xb Xb oU Yj K):=by
  refine Ym D Vi (fun vs H Q E h=>?_) (fun f cdv A outer s H vs Q E hr h=>?_)
  . obtain ⟨v_0, v_1, a_0, a_1, b, rfl, _⟩:=h; rfl
  obtain ⟨v_0, v_1, a_0, a_1, b, rfl, h_0, h_1, hm, q⟩:=h
  have hu:=hu8 hr
  have hu1:=Yi hr
  refine ⟨_, (Xc (X6 (Xo Vg (pv 1) (pv 0) (Xv _))
      (Xc CF
      Xe)
      Xe)
    Xe), ?_⟩
  refine Iu (J:=({ oo:=fun x3=>[], ss:=fun x3=>[some v_0, some v_1], sc:=fun g4 x3=>(SC.add (SC.add SC.nil K Xb v_0 a_0) K Xb v_1 a_1) } : Jn (Unit) (Unit))) (K:=K) (S:=(SC.add (SC.add SC.nil K Xb v_0 a_0) K Xb v_1 a_1)) (σ:=[some v_0, some v_1]) 0 ?_ (SC.i (SC.i SC.t h_0) h_1) hm q (fun _ _=>rfl)
  unfold Yj
  exact (HB (Xl (K:=K) (Qo (Xa (r:=Xb) 1 rfl (fun _ s=>(SC.r s))) (Xa (r:=Xb) 0 rfl (fun _ s=>(SC.r (SC.l s)))))) (Xs (J:=_) () () rfl rfl (fun _ s=>(SC.i (SC.i SC.t (SC.r (SC.l s))) (SC.r s)))))
theorem Yz : FnScope ["lists", "count", "longer", "ahead", "number"] ["lists", "count"] (Xh Zk):=⟨rfl, rfl, rfl, by decide +kernel, rfl, by decide +kernel, by decide +kernel⟩
set_option maxHeartbeats 4000000 in
theorem JD (D : Def K mg "longer_by_one" Zk ["lists", "count"])  (Z : Blt mg) : Fn P w K mg base 1 "longer_by_one" ["lists", "count"] (sp2 (rV (rV Xb)) Xb (oL (oL (oF Xb))) YJ K):=by
  refine Ym D Yz (fun vs H Q E h=>?_) (fun f cdv A outer s H vs Q E hr h=>?_)
  . obtain ⟨v_0, v_1, a_0, a_1, b, rfl, _⟩:=h; rfl
  obtain ⟨v_0, v_1, a_0, a_1, b, rfl, h_0, h_1, hm, q⟩:=h
  have hu:=hu8 hr
  have hu1:=Yi hr
  refine ⟨_, (Xc (XA (i:=2) Yz.nd rfl (Or.inl rfl) (XW Xf))
    (Xc (XM PassesOwn.never rfl (XQ (K:=K) rfl (pv 0)) (Xn (i:=3) Yz.nd rfl (Or.inl rfl))
      (Xc (XM PassesOwn.never rfl (Xy rfl Z.b_range (Xd (pv 1) Xf)) (Xn (i:=4) Yz.nd rfl (Or.inl rfl))
        (Xc (X6 (Xo Jt (pv 4) (pv 3) rfl)
          (Xc (Yg (Z6 PySem.F.plainAttrs_list PySem.F.slot_list_append PySem.F.type_list_append X8 (pv 2) (Xd (XC Gf (pv 3) (XW (Xd (pv 4) Xf))) Xf)))
          Xe)
          Xe)
        Xe))
      Xe))
    (Xc (Xu (pv 2))
    Xe))), ?_⟩
  refine Yv (S:=(SC.add (SC.add SC.nil K (rV (rV Xb)) v_0 a_0) K Xb v_1 a_1)) (σ:=[some v_0, some v_1, none, none, none]) 1 ?_ (SC.i (SC.i SC.t h_0) h_1) hm q rfl
  unfold YJ
  exact (XZ (K:=K) (o:=(oL (oL (oF Xb)))) 2 0 (Z5 (o:=(oL (oF Xb)))) (Nat.le_of_ble_eq_true rfl) fun a1 v2 C3=>(Y5 (K:=K) (J:=({ oo:=fun x4=>[x4.2.2.2], ss:=fun x4=>[some v_0, some v_1, some x4.2.2.1, x4.1, x4.2.1], sc:=fun g5 x4=>(SC.addO (SC.add (SC.add SC.nil K (rV (rV Xb)) v_0 a_0) K Xb v_1 a_1) K (oL (oL (oF Xb))) x4.2.2.1 g5 x4.2.2.2) } : Jn ((List (List Int))) (Option V × Option V × V × List Xz))) (fun _=>tg1 3) ((none), (none), v2, C3) (a1) (XU (Xt (r:=(rV (rV Xb))) 0 rfl (fun _ s=>(SC.r (SC.l (SC.l s)))))) rfl rfl (fun _ s=>(SC.i (SC.i (SC.i SC.t (SC.r (SC.l (SC.l s)))) (SC.r (SC.l s))) (SC.r s))) (fun g6 x7 a8 v9=>(Y5 (K:=K) (J:=({ oo:=fun x11=>[x11.2.2], ss:=fun x11=>[some v_0, some v_1, some x11.2.1, some v9, x11.1], sc:=fun g12 x11=>(SC.addO (SC.add (SC.add (SC.add SC.nil K (rV (rV Xb)) v_0 a_0) K Xb v_1 a_1) K (rV Xb) v9 a8) K (oL (oL (oF Xb))) x11.2.1 g12 x11.2.2) } : Jn ((List (List Int))) (Option V × V × List Xz))) (fun _=>tg1 4) ((x7.2.1), x7.2.2.1, x7.2.2.2) (g6) (Xp (Xa (r:=Xb) 1 rfl (fun _ s=>(SC.r (SC.l (SC.l s)))))) rfl rfl (fun _ s=>(SC.i (SC.i (SC.i (SC.i SC.t (SC.r (SC.l (SC.l (SC.l s))))) (SC.r (SC.l (SC.l s)))) (SC.r s)) (SC.r (SC.l s)))) (fun g13 x14 a15 v16=>(Zs (J:=({ oo:=fun x20=>[x20.2], ss:=fun x20=>[some v_0, some v_1, some x20.1, some v9, some v16], sc:=fun g21 x20=>(SC.addO (SC.add (SC.add (SC.add (SC.add SC.nil K (rV (rV Xb)) v_0 a_0) K Xb v_1 a_1) K (rV Xb) v9 a8) K Xb v16 a15) K (oL (oL (oF Xb))) x20.1 g21 x20.2) } : Jn ((List (List Int))) (V × List Xz))) (ZQ (Fd:=FNd ({ oo:=fun x20=>[x20.2], ss:=fun x20=>[some v_0, some v_1, some x20.1, some v9, some v16], sc:=fun g21 x20=>(SC.addO (SC.add (SC.add (SC.add (SC.add SC.nil K (rV (rV Xb)) v_0 a_0) K Xb v_1 a_1) K (rV Xb) v9 a8) K Xb v16 a15) K (oL (oL (oF Xb))) x20.1 g21 x20.2) } : Jn ((List (List Int))) (V × List Xz))) (Xl (K:=K) (F3 (Xa (r:=Xb) 4 rfl (fun _ s=>(SC.r s))) (Xa (r:=(rV Xb)) 3 rfl (fun _ s=>(SC.r (SC.l (SC.l s))))))) (Qd (K:=K) (o:=(oL (oF Xb))) (f:=fun a29=>(Res.ok (a29))) 2 0 rfl rfl rfl (fun _ s=>(SC.r (SC.l s))) (K8 (EvS.ls (Xt (r:=(rV Xb)) 3 rfl (fun _ s=>(SC.r (SC.l (SC.l s)))))) (Ev.ls (QK (XI (Xt (r:=Xb) 4 rfl (fun _ s=>(SC.r s))) Y6)))) fun a27 C28=>(Xs (J:=_) (x14.2.1, C28) ((g13 ++ [a27])) rfl rfl (fun _ s=>(SC.i (SC.i (SC.i (SC.i (SC.i SC.t (SC.r (SC.l (SC.l (SC.l (SC.l (SC.l s))))))) (SC.r (SC.l (SC.l (SC.l (SC.l s)))))) (SC.r (SC.l (SC.l (SC.l s))))) (SC.r (SC.l s))) (SC.r s))))) (Xs (J:=_) (x14.2.1, x14.2.2) (g13) rfl rfl (fun _ s=>(SC.i (SC.i (SC.i (SC.i (SC.i SC.t (SC.r (SC.l (SC.l (SC.l (SC.l s)))))) (SC.r (SC.l (SC.l (SC.l s))))) (SC.r (SC.l (SC.l s)))) (SC.r s)) (SC.r (SC.l s)))))) fun g31 x30=>(Xs (J:=_) ((some v16), x30.1, x30.2) (g31) rfl rfl (fun _ s=>(SC.i (SC.i (SC.i (SC.i SC.t (SC.r (SC.l (SC.l (SC.l (SC.l s)))))) (SC.r (SC.l (SC.l (SC.l s))))) (SC.r (SC.l (SC.l s)))) (SC.r s)))))) fun g32 x33=>(Xs (J:=_) ((some v9), (x33.1), x33.2.1, x33.2.2) (g32) rfl rfl (fun _ s=>(SC.i (SC.i (SC.i SC.t (SC.r (SC.l (SC.l (SC.l s))))) (SC.r (SC.l (SC.l s)))) (SC.r s)))))) fun g35 x36=>(Xw (Ye (o:=(oL (oL (oF Xb)))) 2 0 rfl rfl (fun _ s=>(SC.r s))))))
theorem Zz : FnScope ["count", "told", "place"] ["count"] (Xh QO):=⟨rfl, rfl, rfl, by decide +kernel, rfl, by decide +kernel, by decide +kernel⟩
set_option maxHeartbeats 4000000 in
theorem US (D : Def K mg "each_once" QO ["count"]) (g_longer_by_one : Fn P w K mg base 1 "longer_by_one" ["lists", "count"] (sp2 (rV (rV Xb)) Xb (oL (oL (oF Xb))) YJ K)) (Z : Blt mg) : Fn P w K mg base 2 "each_once" ["count"] (sp1 Xb (oL (oL (oF Xb))) ZW K):=by
  refine Ym D Zz (fun vs H Q E h=>?_) (fun f cdv A outer s H vs Q E hr h=>?_)
  . obtain ⟨v_0, a_0, b, rfl, _⟩:=h; rfl
  obtain ⟨v_0, a_0, b, rfl, h_0, hm, q⟩:=h
  have hu:=hu8 hr
  have hu1:=Yi hr
  refine ⟨_, (Xc (XA (i:=1) Zz.nd rfl (Or.inl rfl) (XW (Xd (XW Xf) Xf ZL)))
    (Xc (XM PassesOwn.never rfl (Xy rfl Z.b_range (Xd (pv 0) Xf)) (Xn (i:=2) Zz.nd rfl (Or.inl rfl))
      (Xc (XA (i:=1) Zz.nd rfl (Or.inl rfl) (X4 g_longer_by_one hr (by decide) (Xd (pv 1) (Xd (pv 0) Xf))))
      Xe))
    (Xc (Xu (pv 1))
    Xe))), ?_⟩
  refine Yv (S:=(SC.add SC.nil K Xb v_0 a_0)) (σ:=[some v_0, none, none]) 1 ?_ (SC.i SC.t h_0) hm q rfl
  unfold ZW
  exact (XZ (K:=K) (o:=(oL (oL (oF Xb)))) 1 0 (Jd (YU (Z5 (o:=(oF Xb))) fun _=>QB)) (Nat.le_of_ble_eq_true rfl) fun a1 v2 C3=>(Y5 (K:=K) (J:=({ oo:=fun x8=>[x8.2.2], ss:=fun x8=>[some v_0, some x8.2.1, x8.1], sc:=fun g9 x8=>(SC.addO (SC.add SC.nil K Xb v_0 a_0) K (oL (oL (oF Xb))) x8.2.1 g9 x8.2.2) } : Jn ((List (List Int))) (Option V × V × List Xz))) (fun _=>tg1 2) ((none), v2, C3) (a1) (Xp (Xa (r:=Xb) 0 rfl (fun _ s=>(SC.r (SC.l s))))) rfl rfl (fun _ s=>(SC.i (SC.i SC.t (SC.r (SC.l s))) (SC.r s))) (fun g10 x11 a12 v13=>(XZ (K:=K) (o:=(oL (oL (oF Xb)))) 1 0 (XT (QS (o:=(oL (oL (oF Xb)))) 1 0 rfl rfl (fun _ s=>(SC.r (SC.l s)))) (Xa (r:=Xb) 0 rfl (fun _ s=>(SC.r (SC.l (SC.l s)))))) (Nat.le_of_ble_eq_true rfl) fun a14 v15 C16=>(Xs (J:=_) ((some v13), v15, C16) (a14) rfl rfl (fun _ s=>(SC.i (SC.i SC.t (SC.r (SC.l (SC.l (SC.l s))))) (SC.r s)))))) fun g20 x21=>(Xw (Ye (o:=(oL (oL (oF Xb)))) 1 0 rfl rfl (fun _ s=>(SC.r s))))))
theorem Y7 : FnScope ["table", "a", "row"] ["table"] (Xh Zi):=⟨rfl, rfl, rfl, by decide +kernel, rfl, by decide +kernel, by decide +kernel⟩
set_option maxHeartbeats 4000000 in
theorem Jw (D : Def K mg "breach_of_one" Zi ["table"])  (Z : Blt mg) : Fn P w K mg base 1 "breach_of_one" ["table"] (sp1 (rV (rV Xb)) (oF (Zt (rP2 Xb Xb))) YN K):=by
  refine Ym D Y7 (fun vs H Q E h=>?_) (fun f cdv A outer s H vs Q E hr h=>?_)
  . obtain ⟨v_0, a_0, b, rfl, _⟩:=h; rfl
  obtain ⟨v_0, a_0, b, rfl, h_0, hm, q⟩:=h
  have hu:=hu8 hr
  have hu1:=Yi hr
  refine ⟨_, (Xc (XM PassesOwn.never rfl (Ue rfl Z.b_enumerate (pv 0)) (GA rfl (ZA (Xn (i:=1) Y7.nd rfl (Or.inl rfl)) (ZA (Xn (i:=2) Y7.nd rfl (Or.inl rfl)) Uy)))
      (Xc (X6 (Xo JY (XH (Xm K rfl) (pv 2) (pv 1) (fun _ _=>rfl)) (pv 1) (Xv _))
        (Xc (Xu (QJ (Xd Xi (Xd (pv 1) Xf))))
        Xe)
        Xe)
      Xe))
    (Xc (Xu Z3)
    Xe)), ?_⟩
  refine Yv (S:=(SC.add SC.nil K (rV (rV Xb)) v_0 a_0)) (σ:=[some v_0, none, none]) 0 ?_ (SC.i SC.t h_0) hm q rfl
  unfold YN
  exact (Zn (K:=K) (J:=({ oo:=fun x2=>[], ss:=fun x2=>[some v_0, x2.1, x2.2], sc:=fun g3 x2=>(SC.add SC.nil K (rV (rV Xb)) v_0 a_0) } : Jn (Unit) (Option V × Option V))) (fun _=>tg2 1 2) ((none), (none)) () (QY (Xt (r:=(rV (rV Xb))) 0 rfl (fun _ s=>(SC.r s)))) rfl rfl (fun _ s=>(SC.i SC.t (SC.r s))) (fun g4 x5 a6 v7=>(YT (Xl (K:=K) (Qq (Xx (Xa (r:=(rV Xb)) 2 rfl (fun _ s=>(SC.r s))) (Xa (r:=Xb) 1 rfl (fun _ s=>(SC.r (SC.l s))))) (Xa (r:=Xb) 1 rfl (fun _ s=>(SC.r (SC.l s)))))) (Xw (QW EN (EvS.ev (Uq (EvB.sh (Xg 1)) (Xt (r:=Xb) 1 rfl (fun _ s=>(SC.r (SC.l s)))))))) (Yq (Xs (J:=_) ((some v7.1), (some v7.2)) () rfl rfl (fun _ s=>(SC.i SC.t (SC.r (SC.l (SC.l s))))))))) fun g18 x19=>(Xw Vd))
theorem ZY : FnScope ["column", "x", "colour"] ["column"] (Xh Qp):=⟨rfl, rfl, rfl, by decide +kernel, rfl, by decide +kernel, by decide +kernel⟩
set_option maxHeartbeats 4000000 in
theorem Uk (D : Def K mg "first_same" Qp ["column"])  (Z : Blt mg) : Fn P w K mg base 1 "first_same" ["column"] (sp1 (rV Xb) (oF (Zt (rP2 Xb Xb))) Zv K):=by
  refine Ym D ZY (fun vs H Q E h=>?_) (fun f cdv A outer s H vs Q E hr h=>?_)
  . obtain ⟨v_0, a_0, b, rfl, _⟩:=h; rfl
  obtain ⟨v_0, a_0, b, rfl, h_0, hm, q⟩:=h
  have hu:=hu8 hr
  have hu1:=Yi hr
  refine ⟨_, (Xc (XM PassesOwn.never rfl (Ue rfl Z.b_enumerate (pv 0)) (GA rfl (ZA (Xn (i:=1) ZY.nd rfl (Or.inl rfl)) (ZA (Xn (i:=2) ZY.nd rfl (Or.inl rfl)) Uy)))
      (Xc (X6 (Xo Fb (pv 2) (Ua (Ur K rfl) (pv 0) (KP (XC YV (pv 1) Xi)) KJ) rfl)
        (Xc (Xu (QJ (Xd (pv 1) (Xd (Z6 PySem.F.plainAttrs_list PySem.F.slot_list_index PySem.F.type_list_index FH (pv 0) (Xd (pv 2) (Xd (XC YV (pv 1) Xi) Xf))) Xf))))
        Xe)
        Xe)
      Xe))
    (Xc (Xu Z3)
    Xe)), ?_⟩
  refine Yv (S:=(SC.add SC.nil K (rV Xb) v_0 a_0)) (σ:=[some v_0, none, none]) 0 ?_ (SC.i SC.t h_0) hm q rfl
  unfold Zv
  exact (Zn (K:=K) (J:=({ oo:=fun x2=>[], ss:=fun x2=>[some v_0, x2.1, x2.2], sc:=fun g3 x2=>(SC.add SC.nil K (rV Xb) v_0 a_0) } : Jn (Unit) (Option V × Option V))) (fun _=>tg2 1 2) ((none), (none)) () (QY (Xt (r:=(rV Xb)) 0 rfl (fun _ s=>(SC.r s)))) rfl rfl (fun _ s=>(SC.i SC.t (SC.r s))) (fun g4 x5 a6 v7=>(YT (Xl (K:=K) (HA (Xa (r:=Xb) 2 rfl (fun _ s=>(SC.r s))) (Ev.toB (Gh (EvS.ls (Xt (r:=(rV Xb)) 0 rfl (fun _ s=>(SC.r (SC.l (SC.l s)))))) (Uc (K:=K) (Yl (Xa (r:=Xb) 1 rfl (fun _ s=>(SC.r (SC.l s)))) (Xg 1))) V6)))) (Xw (QW EN (EvS.ev (Uq (Xt (r:=Xb) 1 rfl (fun _ s=>(SC.r (SC.l s)))) (EvB.sh (GK (Xa (r:=(rV Xb)) 0 rfl (fun _ s=>(SC.r (SC.l (SC.l s))))) (Xa (r:=Xb) 2 rfl (fun _ s=>(SC.r s))) (Yl (Xa (r:=Xb) 1 rfl (fun _ s=>(SC.r (SC.l s)))) (Xg 1)))))))) (Yq (Xs (J:=_) ((some v7.1), (some v7.2)) () rfl rfl (fun _ s=>(SC.i SC.t (SC.r (SC.l (SC.l s))))))))) fun g27 x28=>(Xw Vd))
theorem Y9 : FnScope ["table", "b", "pair"] ["table"] (Xh YR):=⟨rfl, rfl, rfl, by decide +kernel, rfl, by decide +kernel, by decide +kernel⟩
set_option maxHeartbeats 4000000 in
theorem JA (D : Def K mg "breach_of_two" YR ["table"]) (g_first_same : Fn P w K mg base 1 "first_same" ["column"] (sp1 (rV Xb) (oF (Zt (rP2 Xb Xb))) Zv K)) (Z : Blt mg) : Fn P w K mg base 2 "breach_of_two" ["table"] (sp1 (rV (rV Xb)) (oF (Zt (rP4 Xb Xb Xb Xb))) YO K):=by
  refine Ym D Y9 (fun vs H Q E h=>?_) (fun f cdv A outer s H vs Q E hr h=>?_)
  . obtain ⟨v_0, a_0, b, rfl, _⟩:=h; rfl
  obtain ⟨v_0, a_0, b, rfl, h_0, hm, q⟩:=h
  have hu:=hu8 hr
  have hu1:=Yi hr
  refine ⟨_, (Xc (XM PassesOwn.never rfl (Xy rfl Z.b_range (Xd (Xq (Xj K rfl) rfl Z.b_len PySem.boot_len (Xd (pv 0) Xf)) Xf)) (Xn (i:=1) Y9.nd rfl (Or.inr rfl))
      (Xc (XA (i:=2) Y9.nd rfl (Or.inl rfl) (X4 g_first_same hr (by decide) (Xd (Y1 (sc:=(Xh YR)) (N0:=["table", "b", "pair"]) (tns:=["row"]) (caps:=[(1, "b")]) rfl (XQ (K:=K) rfl (pv 0)) (YD (by decide)) (fun cl C s H ex E=>⟨Xn (i:=0) (show List.Nodup (["row", "b"] : List Str) by decide +kernel) rfl (Or.inl rfl), ZD, (XH (Xm K rfl) (pv 0) (pv 1) (fun _ _=>rfl))⟩)) Xf)))
      (Xc (X6 (Xo FY (pv 2) Z3 (Xv _))
        (Xc (Xu (QJ (Xd Xi (Xd (pv 1) (Xd (XH (Qj K rfl) (pv 2) Xi (fun _ _=>rfl)) (Xd (XH (Qj K rfl) (pv 2) Xi (fun _ _=>rfl)) Xf))))))
        Xe)
        Xe)
      Xe)))
    (Xc (Xu Z3)
    Xe)), ?_⟩
  refine Yv (S:=(SC.add SC.nil K (rV (rV Xb)) v_0 a_0)) (σ:=[some v_0, none, none]) 0 ?_ (SC.i SC.t h_0) hm q rfl
  unfold YO
  exact (Zn (K:=K) (J:=({ oo:=fun x3=>[], ss:=fun x3=>[some v_0, x3.1, x3.2], sc:=fun g4 x3=>(SC.add SC.nil K (rV (rV Xb)) v_0 a_0) } : Jn (Unit) (Option V × Option V))) (fun _=>tg1 1) ((none), (none)) () (Xp (XS (Xa (r:=(rV (rV Xb))) 0 rfl (fun _ s=>(SC.r s))))) rfl rfl (fun _ s=>(SC.i SC.t (SC.r s))) (fun g5 x6 a7 v8=>(XY (K:=K) (r:=(Zt (rP2 Xb Xb))) 2 (EvB.sh (Ev.toB (Yu (Ev.toB (ZJ (fun _=>tg1 0) (XU (Xt (r:=(rV (rV Xb))) 0 rfl (fun _ s=>(SC.r (SC.l s))))) (fun C12 a13 v14=>(EvS.ev (EvB.sh (Xx (Xa (r:=(rV Xb)) 0 rfl (fun _ s=>(SC.r s))) (Xa (r:=Xb) 1 rfl (fun _ s=>(SC.r (SC.l s))))))))))))) fun a9 v10=>(YT (Xl (K:=K) (Gy (tb:=tC .non) (Xa (r:=(Zt (rP2 Xb Xb))) 2 rfl (fun _ s=>(SC.r s))))) (Xw (QW IJ (EvS.ev (K3 (EvB.sh (Xg 2)) (Xt (r:=Xb) 1 rfl (fun _ s=>(SC.r (SC.l s)))) (EvB.sh (Fx (Gg (Xa (r:=(Zt (rP2 Xb Xb))) 2 rfl (fun _ s=>(SC.r s)))))) (EvB.sh (F7 (Gg (Xa (r:=(Zt (rP2 Xb Xb))) 2 rfl (fun _ s=>(SC.r s)))))))))) (Yq (Xs (J:=_) ((some v8), (some v10)) () rfl rfl (fun _ s=>(SC.i SC.t (SC.r (SC.l (SC.l s)))))))))) fun g30 x31=>(Xw Vd))
theorem XV : FnScope ["table", "a", "row", "b", "colour", "c"] ["table"] (Xh YY):=⟨rfl, rfl, rfl, by decide +kernel, rfl, by decide +kernel, by decide +kernel⟩
set_option maxHeartbeats 4000000 in
theorem Ja (D : Def K mg "breach_of_three" YY ["table"])  (Z : Blt mg) : Fn P w K mg base 1 "breach_of_three" ["table"] (sp1 (rV (rV Xb)) (oF (Zt (rP4 Xb Xb Xb Xb))) Ys K):=by
  refine Ym D XV (fun vs H Q E h=>?_) (fun f cdv A outer s H vs Q E hr h=>?_)
  . obtain ⟨v_0, a_0, b, rfl, _⟩:=h; rfl
  obtain ⟨v_0, a_0, b, rfl, h_0, hm, q⟩:=h
  have hu:=hu8 hr
  have hu1:=Yi hr
  refine ⟨_, (Xc (XM PassesOwn.never rfl (Ue rfl Z.b_enumerate (pv 0)) (GA rfl (ZA (Xn (i:=1) XV.nd rfl (Or.inl rfl)) (ZA (Xn (i:=2) XV.nd rfl (Or.inl rfl)) Uy)))
      (Xc (XM PassesOwn.never rfl (Ue rfl Z.b_enumerate (pv 2)) (GA rfl (ZA (Xn (i:=3) XV.nd rfl (Or.inl rfl)) (ZA (Xn (i:=4) XV.nd rfl (Or.inl rfl)) Uy)))
        (Xc (XM PassesOwn.never rfl (Xy rfl Z.b_range (Xd (Xq (Xj K rfl) rfl Z.b_len PySem.boot_len (Xd (pv 0) Xf)) Xf)) (Xn (i:=5) XV.nd rfl (Or.inl rfl))
          (Xc (X6 (Xo JY (XH (Xm K rfl) (XH (Xm K rfl) (pv 0) (pv 4) (fun _ _=>rfl)) (pv 5) (fun _ _=>rfl)) (XH (Xm K rfl) (XH (Xm K rfl) (pv 0) (XH (Xm K rfl) (pv 2) (pv 5) (fun _ _=>rfl)) (fun _ _=>rfl)) (XH (Xm K rfl) (XH (Xm K rfl) (pv 0) (pv 3) (fun _ _=>rfl)) (pv 5) (fun _ _=>rfl)) (fun _ _=>rfl)) (Xv _))
            (Xc (Xu (QJ (Xd Xi (Xd (pv 1) (Xd (pv 3) (Xd (pv 5) Xf))))))
            Xe)
            Xe)
          Xe))
        Xe))
      Xe))
    (Xc (Xu Z3)
    Xe)), ?_⟩
  refine Yv (S:=(SC.add SC.nil K (rV (rV Xb)) v_0 a_0)) (σ:=[some v_0, none, none, none, none, none]) 0 ?_ (SC.i SC.t h_0) hm q rfl
  unfold Ys
  exact (Zn (K:=K) (J:=({ oo:=fun x2=>[], ss:=fun x2=>[some v_0, x2.1, x2.2.1, x2.2.2.1, x2.2.2.2.1, x2.2.2.2.2], sc:=fun g3 x2=>(SC.add SC.nil K (rV (rV Xb)) v_0 a_0) } : Jn (Unit) (Option V × Option V × Option V × Option V × Option V))) (fun _=>tg2 1 2) ((none), (none), (none), (none), (none)) () (QY (Xt (r:=(rV (rV Xb))) 0 rfl (fun _ s=>(SC.r s)))) rfl rfl (fun _ s=>(SC.i SC.t (SC.r s))) (fun g4 x5 a6 v7=>(ZB (K:=K) (J:=({ oo:=fun x9=>[], ss:=fun x9=>[some v_0, some v7.1, some v7.2, x9.1, x9.2.1, x9.2.2], sc:=fun g10 x9=>(SC.add (SC.add (SC.add SC.nil K (rV (rV Xb)) v_0 a_0) K Xb v7.1 a6.1) K (rV Xb) v7.2 a6.2) } : Jn (Unit) (Option V × Option V × Option V))) (fun _=>tg2 3 4) ((x5.2.2.1), (x5.2.2.2.1), (x5.2.2.2.2)) () (QY (Xt (r:=(rV Xb)) 2 rfl (fun _ s=>(SC.r s)))) rfl rfl (fun _ s=>(SC.i (SC.i (SC.i SC.t (SC.r (SC.l (SC.l s)))) (SC.r (SC.l s))) (SC.r s))) (fun g11 x12 a13 v14=>(ZB (K:=K) (J:=({ oo:=fun x17=>[], ss:=fun x17=>[some v_0, some v7.1, some v7.2, some v14.1, some v14.2, x17], sc:=fun g18 x17=>(SC.add (SC.add (SC.add (SC.add (SC.add SC.nil K (rV (rV Xb)) v_0 a_0) K Xb v7.1 a6.1) K (rV Xb) v7.2 a6.2) K Xb v14.1 a13.1) K Xb v14.2 a13.2) } : Jn (Unit) (Option V))) (fun _=>tg1 5) ((x12.2.2)) () (Xp (XS (Xa (r:=(rV (rV Xb))) 0 rfl (fun _ s=>(SC.r (SC.l (SC.l (SC.l (SC.l s))))))))) rfl rfl (fun _ s=>(SC.i (SC.i (SC.i (SC.i (SC.i SC.t (SC.r (SC.l (SC.l (SC.l (SC.l s)))))) (SC.r (SC.l (SC.l (SC.l s))))) (SC.r (SC.l (SC.l s)))) (SC.r (SC.l s))) (SC.r s))) (fun g19 x20 a21 v22=>(YT (Xl (K:=K) (Qq (Xx (Xx (Xa (r:=(rV (rV Xb))) 0 rfl (fun _ s=>(SC.r (SC.l (SC.l (SC.l (SC.l (SC.l s)))))))) (Xa (r:=Xb) 4 rfl (fun _ s=>(SC.r (SC.l s))))) (Xa (r:=Xb) 5 rfl (fun _ s=>(SC.r s)))) (Xx (Xx (Xa (r:=(rV (rV Xb))) 0 rfl (fun _ s=>(SC.r (SC.l (SC.l (SC.l (SC.l (SC.l s)))))))) (Xx (Xa (r:=(rV Xb)) 2 rfl (fun _ s=>(SC.r (SC.l (SC.l (SC.l s)))))) (Xa (r:=Xb) 5 rfl (fun _ s=>(SC.r s))))) (Xx (Xx (Xa (r:=(rV (rV Xb))) 0 rfl (fun _ s=>(SC.r (SC.l (SC.l (SC.l (SC.l (SC.l s)))))))) (Xa (r:=Xb) 3 rfl (fun _ s=>(SC.r (SC.l (SC.l s)))))) (Xa (r:=Xb) 5 rfl (fun _ s=>(SC.r s))))))) (Xw (QW IJ (EvS.ev (K3 (EvB.sh (Xg 3)) (Xt (r:=Xb) 1 rfl (fun _ s=>(SC.r (SC.l (SC.l (SC.l (SC.l s))))))) (Xt (r:=Xb) 3 rfl (fun _ s=>(SC.r (SC.l (SC.l s))))) (Xt (r:=Xb) 5 rfl (fun _ s=>(SC.r s))))))) (Yq (Xs (J:=_) ((some v22)) () rfl rfl (fun _ s=>(SC.i (SC.i (SC.i (SC.i (SC.i SC.t (SC.r (SC.l (SC.l (SC.l (SC.l (SC.l s))))))) (SC.r (SC.l (SC.l (SC.l (SC.l s)))))) (SC.r (SC.l (SC.l (SC.l s))))) (SC.r (SC.l (SC.l s)))) (SC.r (SC.l s)))))))) fun g47 x48=>(Yq (Xs (J:=_) ((some v14.1), (some v14.2), (x48)) () rfl rfl (fun _ s=>(SC.i (SC.i (SC.i SC.t (SC.r (SC.l (SC.l (SC.l (SC.l s)))))) (SC.r (SC.l (SC.l (SC.l s))))) (SC.r (SC.l (SC.l s))))))))) fun g51 x52=>(Yq (Xs (J:=_) ((some v7.1), (some v7.2), (x52.1), (x52.2.1), (x52.2.2)) () rfl rfl (fun _ s=>(SC.i SC.t (SC.r (SC.l (SC.l s))))))))) fun g55 x56=>(Xw Vd))
theorem Q8 : FnScope ["table", "wrong"] ["table"] (Xh Ui):=⟨rfl, rfl, rfl, by decide +kernel, rfl, by decide +kernel, by decide +kernel⟩
set_option maxHeartbeats 4000000 in
theorem Dt (D : Def K mg "broken" Ui ["table"]) (g_breach_of_one : Fn P w K mg base 1 "breach_of_one" ["table"] (sp1 (rV (rV Xb)) (oF (Zt (rP2 Xb Xb))) YN K)) (g_breach_of_two : Fn P w K mg base 2 "breach_of_two" ["table"] (sp1 (rV (rV Xb)) (oF (Zt (rP4 Xb Xb Xb Xb))) YO K)) (g_breach_of_three : Fn P w K mg base 1 "breach_of_three" ["table"] (sp1 (rV (rV Xb)) (oF (Zt (rP4 Xb Xb Xb Xb))) Ys K)) (Z : Blt mg) : Fn P w K mg base 3 "broken" ["table"] (sp1 (rV (rV Xb)) (oF (Zt (rPL Xb))) JP K):=by
  refine Ym D Q8 (fun vs H Q E h=>?_) (fun f cdv A outer s H vs Q E hr h=>?_)
  . obtain ⟨v_0, a_0, b, rfl, _⟩:=h; rfl
  obtain ⟨v_0, a_0, b, rfl, h_0, hm, q⟩:=h
  have hu:=hu8 hr
  have hu1:=Yi hr
  refine ⟨_, (Xc (XA (i:=1) Q8.nd rfl (Or.inl rfl) (X4 g_breach_of_one hr (by decide) (Xd (pv 0) Xf)))
    (Xc (X6 (Xo KW (pv 1) Z3 (Xv _))
      (Xc (XA (i:=1) Q8.nd rfl (Or.inl rfl) (X4 g_breach_of_two hr (by decide) (Xd (pv 0) Xf)))
      Xe)
      Xe)
    (Xc (X6 (Xo KW (pv 1) Z3 (Xv _))
      (Xc (XA (i:=1) Q8.nd rfl (Or.inl rfl) (X4 g_breach_of_three hr (by decide) (Xd (pv 0) Xf)))
      Xe)
      Xe)
    (Xc (Xu (pv 1))
    Xe)))), ?_⟩
  refine Yv (S:=(SC.add SC.nil K (rV (rV Xb)) v_0 a_0)) (σ:=[some v_0, none]) 0 ?_ (SC.i SC.t h_0) hm q rfl
  unfold JP
  exact (XY (K:=K) (r:=(Zt (rPL Xb))) 1 (Ev.sh (Cu (Yu (Xa (r:=(rV (rV Xb))) 0 rfl (fun _ s=>(SC.r s)))))) fun a1 v2=>(Zs (J:=({ oo:=fun x8=>[], ss:=fun x8=>[some v_0, some x8], sc:=fun g9 x8=>(SC.add (SC.add SC.nil K (rV (rV Xb)) v_0 a_0) K (Zt (rPL Xb)) x8 g9) } : Jn ((Option (List Int))) (V))) (ZQ (Fd:=FNd ({ oo:=fun x8=>[], ss:=fun x8=>[some v_0, some x8], sc:=fun g9 x8=>(SC.add (SC.add SC.nil K (rV (rV Xb)) v_0 a_0) K (Zt (rPL Xb)) x8 g9) } : Jn ((Option (List Int))) (V))) (Xl (K:=K) (Uw (tb:=tC .non) (Xa (r:=(Zt (rPL Xb))) 1 rfl (fun _ s=>(SC.r s))))) (XY (K:=K) (r:=(Zt (rPL Xb))) 1 (Ev.sh (Gw (Yu (Xa (r:=(rV (rV Xb))) 0 rfl (fun _ s=>(SC.r (SC.l s))))))) fun a10 v11=>(Xs (J:=_) (v11) (a10) rfl rfl (fun _ s=>(SC.i (SC.i SC.t (SC.r (SC.l (SC.l s)))) (SC.r s))))) (Xs (J:=_) (v2) (a1) rfl rfl (fun _ s=>(SC.i (SC.i SC.t (SC.r (SC.l s))) (SC.r s))))) fun g16 x15=>(Zs (J:=({ oo:=fun x19=>[], ss:=fun x19=>[some v_0, some x19], sc:=fun g20 x19=>(SC.add (SC.add SC.nil K (rV (rV Xb)) v_0 a_0) K (Zt (rPL Xb)) x19 g20) } : Jn ((Option (List Int))) (V))) (ZQ (Fd:=FNd ({ oo:=fun x19=>[], ss:=fun x19=>[some v_0, some x19], sc:=fun g20 x19=>(SC.add (SC.add SC.nil K (rV (rV Xb)) v_0 a_0) K (Zt (rPL Xb)) x19 g20) } : Jn ((Option (List Int))) (V))) (Xl (K:=K) (Uw (tb:=tC .non) (Xa (r:=(Zt (rPL Xb))) 1 rfl (fun _ s=>(SC.r s))))) (XY (K:=K) (r:=(Zt (rPL Xb))) 1 (Ev.sh (Gw (Yu (Xa (r:=(rV (rV Xb))) 0 rfl (fun _ s=>(SC.r (SC.l s))))))) fun a21 v22=>(Xs (J:=_) (v22) (a21) rfl rfl (fun _ s=>(SC.i (SC.i SC.t (SC.r (SC.l (SC.l s)))) (SC.r s))))) (Xs (J:=_) (x15) (g16) rfl rfl (fun _ s=>(SC.i (SC.i SC.t (SC.r (SC.l s))) (SC.r s))))) fun g27 x26=>(Xw (EvS.ev (Xt (r:=(Zt (rPL Xb))) 1 rfl (fun _ s=>(SC.r s))))))))
theorem QN : FnScope ["columns"] ["columns"] (Xh X5):=⟨rfl, rfl, rfl, by decide +kernel, rfl, by decide +kernel, by decide +kernel⟩
set_option maxHeartbeats 4000000 in
theorem QQ (D : Def K mg "table_of_columns" X5 ["columns"])  (Z : Blt mg) : Fn P w K mg base 1 "table_of_columns" ["columns"] (sp1 (rV (rV Xb)) (oL (oL (oF Xb))) Yn K):=by
  refine Ym D QN (fun vs H Q E h=>?_) (fun f cdv A outer s H vs Q E hr h=>?_)
  . obtain ⟨v_0, a_0, b, rfl, _⟩:=h; rfl
  obtain ⟨v_0, a_0, b, rfl, h_0, hm, q⟩:=h
  have hu:=hu8 hr
  have hu1:=Yi hr
  refine ⟨_, (Xc (Xu (K6 (sc:=(Xh X5)) (N0:=["columns"]) (tns:=["a"]) (caps:=[(0, "columns")]) rfl (Xy rfl Z.b_range (Xd (Xq (Xj K rfl) rfl Z.b_len PySem.boot_len (Xd (pv 0) Xf)) Xf)) (YD (by decide)) (fun cl C s H ex E=>⟨Xn (i:=0) (show List.Nodup (["a", "columns"] : List Str) by decide +kernel) rfl (Or.inr rfl) (hf:=Or.inl rfl), ZD, (K6 (sc:=(Lz C9 (Xh X5))) (N0:=["a", "columns"]) (tns:=["column"]) (caps:=[(0, "a")]) rfl (XQ (K:=K) rfl (pv 1)) (YD (by decide)) (fun cl C s H ex E=>⟨Xn (i:=0) (show List.Nodup (["column", "a"] : List Str) by decide +kernel) rfl (Or.inl rfl), ZD, (XH (Xm K rfl) (pv 0) (pv 1) (fun _ _=>rfl))⟩))⟩)))
    Xe), ?_⟩
  refine Yv (S:=(SC.add SC.nil K (rV (rV Xb)) v_0 a_0)) (σ:=[some v_0]) 0 ?_ (SC.i SC.t h_0) hm q rfl
  unfold Yn
  exact (Xw (ZJ (fun _=>tg1 0) (Xp (XS (Xa (r:=(rV (rV Xb))) 0 rfl (fun _ s=>(SC.r s))))) (fun C3 a4 v5=>(ZJ (fun _=>tg1 0) (XU (Xt (r:=(rV (rV Xb))) 1 rfl (fun _ s=>(SC.r (SC.l s))))) (fun C7 a8 v9=>(EvS.ev (EvB.sh (Xx (Xa (r:=(rV Xb)) 0 rfl (fun _ s=>(SC.r s))) (Xa (r:=Xb) 1 rfl (fun _ s=>(SC.r (SC.l s))))))))))))
theorem Yw : FnScope ["choices", "columns", "longer", "ahead"] ["choices", "columns"] (Xh Yd):=⟨rfl, rfl, rfl, by decide +kernel, rfl, by decide +kernel, by decide +kernel⟩
set_option maxHeartbeats 4000000 in
theorem QG (D : Def K mg "longer_by_columns" Yd ["choices", "columns"])  (Z : Blt mg) : Fn P w K mg base 1 "longer_by_columns" ["choices", "columns"] (Ln (rV (rV (rV Xb))) (rV (rV Xb)) (oL (oL (oF (rV Xb)))) Yf K):=by
  refine Ym D Yw (fun vs H Q E h=>?_) (fun f cdv A outer s H vs Q E hr h=>?_)
  . obtain ⟨v_0, v_1, a_0, a_1, b, rfl, _⟩:=h; rfl
  obtain ⟨v_0, v_1, a_0, a_1, b, rfl, Cf, hw, h_0, h_1, hm, q⟩:=h
  have hu:=hu8 hr
  have hu1:=Yi hr
  refine ⟨_, (Xc (XA (i:=2) Yw.nd rfl (Or.inl rfl) (XW Xf))
    (Xc (XM PassesOwn.never rfl (XQ (K:=K) rfl (pv 0)) (Xn (i:=3) Yw.nd rfl (Or.inr rfl))
      (Xc (Yg (Z6 PySem.F.plainAttrs_list PySem.F.slot_list_extend PySem.F.type_list_extend Va (pv 2) (Xd (Y1 (sc:=(Xh Yd)) (N0:=["choices", "columns", "longer", "ahead"]) (tns:=["column"]) (caps:=[(3, "ahead")]) rfl (XQ (K:=K) rfl (pv 1)) (YD (by decide)) (fun cl C s H ex E=>⟨Xn (i:=0) (show List.Nodup (["column", "ahead"] : List Str) by decide +kernel) rfl (Or.inl rfl), ZD, (XC Gf (pv 1) (XW (Xd (pv 0) Xf)))⟩)) Xf)))
      Xe))
    (Xc (Xu (pv 2))
    Xe))), ?_⟩
  refine BM (S:=(SC.add (SC.add SC.nil K (rV (rV (rV Xb))) v_0 a_0) K (rV (rV Xb)) v_1 a_1)) (σ:=[some v_0, some v_1, none, none]) 1 ?_ hw (SC.i (SC.i SC.t h_0) h_1) hm q rfl
  unfold Yf
  exact (XZ (K:=K) (o:=(oL (oL (oF (rV Xb))))) 2 0 (Z5 (o:=(oL (oF (rV Xb))))) (Nat.le_of_ble_eq_true rfl) fun a1 v2 C3=>(Y5 (K:=K) (J:=({ oo:=fun x4=>[x4.2.2, Cf], ss:=fun x4=>[some v_0, some v_1, some x4.2.1, x4.1], sc:=fun g5 x4=>(SC.addO (SC.add (SC.add SC.nil K (rV (rV (rV Xb))) v_0 a_0) K (rV (rV Xb)) v_1 a_1) K (oL (oL (oF (rV Xb)))) x4.2.1 g5 x4.2.2) } : Jn ((List (List (List Int)))) (Option V × V × List Xz))) (fun _=>tg1 3) ((none), v2, C3) (a1) (XU (Xt (r:=(rV (rV (rV Xb)))) 0 rfl (fun _ s=>(SC.r (SC.l (SC.l s)))))) rfl rfl (fun _ s=>(SC.i (SC.i (SC.i SC.t (SC.r (SC.l (SC.l s)))) (SC.r (SC.l s))) (SC.r s))) (fun g6 x7 a8 v9=>(Fc (K:=K) (o:=(oL (oF (rV Xb)))) (f:=fun a21=>(Res.ok (a21))) 2 0 rfl rfl rfl (fun _ s=>(SC.r (SC.l s))) (ZJ (fun _=>tg1 0) (XU (Xt (r:=(rV (rV Xb))) 1 rfl (fun _ s=>(SC.r (SC.l (SC.l s)))))) (fun C10 a11 v12=>(K8 (EvS.ls (Xt (r:=(rV (rV Xb))) 1 rfl (fun _ s=>(SC.r (SC.l s))))) (Ev.ls (QK (XI (Xt (r:=(rV Xb)) 0 rfl (fun _ s=>(SC.r s))) Y6)))))) fun a19 C20=>(Xs (J:=_) ((some v9), x7.2.1, C20) ((g6 ++ a19)) rfl rfl (fun _ s=>(SC.i (SC.i (SC.i SC.t (SC.r (SC.l (SC.l (SC.l (SC.l s)))))) (SC.r (SC.l (SC.l (SC.l s))))) (SC.r s)))))) fun g22 x23=>(Go (K:=K) 1 rfl (Ye (o:=(oL (oL (oF (rV Xb))))) 2 0 rfl rfl (fun _ s=>(SC.r s))))))
theorem Yy : FnScope ["size", "lists", "told", "b"] ["size"] (Xh Zf):=⟨rfl, rfl, rfl, by decide +kernel, rfl, by decide +kernel, by decide +kernel⟩
set_option maxHeartbeats 4000000 in
theorem VC (D : Def K mg "all_columns" Zf ["size"]) (g_each_once : Fn P w K mg base 2 "each_once" ["count"] (sp1 Xb (oL (oL (oF Xb))) ZW K)) (g_longer_by_columns : Fn P w K mg base 1 "longer_by_columns" ["choices", "columns"] (Ln (rV (rV (rV Xb))) (rV (rV Xb)) (oL (oL (oF (rV Xb)))) Yf K)) (Z : Blt mg) : Fn P w K mg base 3 "all_columns" ["size"] (Lw Xb (oL (oL (oF (rV Xb)))) Ze K):=by
  refine Ym D Yy (fun vs H Q E h=>?_) (fun f cdv A outer s H vs Q E hr h=>?_)
  . obtain ⟨v_0, a_0, b, rfl, _⟩:=h; rfl
  obtain ⟨v_0, a_0, b, rfl, Cf, hw, h_0, hm, q⟩:=h
  have hu:=hu8 hr
  have hu1:=Yi hr
  refine ⟨_, (Xc (XA (i:=1) Yy.nd rfl (Or.inl rfl) (X4 g_each_once hr (by decide) (Xd (pv 0) Xf)))
    (Xc (XA (i:=2) Yy.nd rfl (Or.inl rfl) (XW (Xd (XW Xf) Xf ZL)))
    (Xc (XM PassesOwn.never rfl (Xy rfl Z.b_range (Xd (pv 0) Xf)) (Xn (i:=3) Yy.nd rfl (Or.inr rfl))
      (Xc (XA (i:=2) Yy.nd rfl (Or.inl rfl) (X4 g_longer_by_columns hr (by decide) (Xd (pv 2) (Xd (Y1 (sc:=(Xh Zf)) (N0:=["size", "lists", "told", "b"]) (tns:=["order"]) (caps:=[(3, "b")]) rfl (XQ (K:=K) rfl (pv 1)) (YD (by decide)) (fun cl C s H ex E=>⟨Xn (i:=0) (show List.Nodup (["order", "b"] : List Str) by decide +kernel) rfl (Or.inl rfl), (JU (Xo Qf (XH (Xm K rfl) (pv 0) (pv 1) (fun _ _=>rfl)) (pv 1) (Xv _))), (pv 0)⟩)) Xf))))
      Xe))
    (Xc (Xu (pv 2))
    Xe)))), ?_⟩
  refine BM (S:=(SC.add SC.nil K Xb v_0 a_0)) (σ:=[some v_0, none, none, none]) 1 ?_ hw (SC.i SC.t h_0) hm q rfl
  unfold Ze
  exact (XY (K:=K) (r:=(rV (rV Xb))) 1 (Ev.sh (Yu (Xa (r:=Xb) 0 rfl (fun _ s=>(SC.r s))))) fun a1 v2=>(XZ (K:=K) (o:=(oL (oL (oF (rV Xb))))) 2 0 (Jd (YU (Z5 (o:=(oF (rV Xb)))) fun _=>QB)) (Nat.le_of_ble_eq_true rfl) fun a5 v6 C7=>(Y5 (K:=K) (J:=({ oo:=fun x12=>[x12.2.2, Cf], ss:=fun x12=>[some v_0, some v2, some x12.2.1, x12.1], sc:=fun g13 x12=>(SC.addO (SC.add (SC.add SC.nil K Xb v_0 a_0) K (rV (rV Xb)) v2 a1) K (oL (oL (oF (rV Xb)))) x12.2.1 g13 x12.2.2) } : Jn ((List (List (List Int)))) (Option V × V × List Xz))) (fun _=>tg1 3) ((none), v6, C7) (a5) (Xp (Xa (r:=Xb) 0 rfl (fun _ s=>(SC.r (SC.l (SC.l s)))))) rfl rfl (fun _ s=>(SC.i (SC.i (SC.i SC.t (SC.r (SC.l (SC.l s)))) (SC.r (SC.l s))) (SC.r s))) (fun g14 x15 a16 v17=>(Du (K:=K) (o:=(oL (oL (oF (rV Xb))))) 0 rfl (fun _ s=>(SC.r (SC.l s))) (XZ (K:=K) (o:=(oL (oL (oF (rV Xb))))) 2 0 (Fy (Xt (r:=(rV (rV (rV Xb)))) 2 rfl (fun _ s=>(SC.r s))) (Ev.sh (JN (fun _=>tg1 0) (XU (Xt (r:=(rV (rV Xb))) 1 rfl (fun _ s=>(SC.r (SC.l (SC.l (SC.l s))))))) (fun C22 a23 v24=>(Xl (K:=K) (Y2 (Xx (Xa (r:=(rV Xb)) 0 rfl (fun _ s=>(SC.r s))) (Xa (r:=Xb) 1 rfl (fun _ s=>(SC.r (SC.l (SC.l s)))))) (Xa (r:=Xb) 1 rfl (fun _ s=>(SC.r (SC.l (SC.l s)))))))) (fun C22 a23 v24=>(EvS.ev (Xt (r:=(rV Xb)) 0 rfl (fun _ s=>(SC.r s)))))))) (Nat.le_of_ble_eq_true rfl) fun a18 v19 C20=>(Xs (J:=_) ((some v17), v19, C20) (a18) rfl rfl (fun _ s=>(SC.i (SC.i (SC.i SC.t (SC.r (SC.l (SC.l (SC.l (SC.l (SC.l s))))))) (SC.r (SC.l (SC.l (SC.l (SC.l s)))))) (SC.r s))))))) fun g32 x33=>(Go (K:=K) 1 rfl (Ye (o:=(oL (oL (oF (rV Xb))))) 2 0 rfl rfl (fun _ s=>(SC.r s)))))))
theorem U3 : FnScope ["size", "tried"] ["size"] (Xh Q1):=⟨rfl, rfl, rfl, by decide +kernel, rfl, by decide +kernel, by decide +kernel⟩
set_option maxHeartbeats 4000000 in
theorem F9 (D : Def K mg "tables" Q1 ["size"]) (g_refuse_above : Fn P w K mg base 1 "refuse_above" ["most", "size"] (sp2 Xb Xb oU Yj K)) (g_table_of_columns : Fn P w K mg base 1 "table_of_columns" ["columns"] (sp1 (rV (rV Xb)) (oL (oL (oF Xb))) Yn K)) (g_all_columns : Fn P w K mg base 3 "all_columns" ["size"] (Lw Xb (oL (oL (oF (rV Xb)))) Ze K)) (g_broken : Fn P w K mg base 3 "broken" ["table"] (sp1 (rV (rV Xb)) (oF (Zt (rPL Xb))) JP K)) (Z : Blt mg) : Fn P w K mg base 4 "tables" ["size"] (sp1 Xb (oL (oL (oL (oF Xb)))) YI K):=by
  refine Ym D U3 (fun vs H Q E h=>?_) (fun f cdv A outer s H vs Q E hr h=>?_)
  . obtain ⟨v_0, a_0, b, rfl, _⟩:=h; rfl
  obtain ⟨v_0, a_0, b, rfl, h_0, hm, q⟩:=h
  have hu:=hu8 hr
  have hu1:=Yi hr
  refine ⟨_, (Xc (Yg (X4 g_refuse_above hr (by decide) (Xd (Bw Z.c_MOST_OF_ALL rfl) (Xd (pv 0) Xf))))
    (Xc (KC 1 (Xh Q1) ["size", "tried"] ["columns"] [] rfl U3.nd rfl rfl (XQ (K:=K) rfl (X4 g_all_columns hr (by decide) (Xd (pv 0) Xf))) (YD (by decide)) (fun cl C s H ex E=>⟨Xn (i:=0) (show List.Nodup (["columns"] : List Str) by decide +kernel) rfl (Or.inl rfl), ZD, (X4 g_table_of_columns hr (by decide) (Xd (pv 0) Xf))⟩))
    (Xc (Xu (Xq (Vl (Hf eq_int) BQ (UR Cp) K rfl (Dj (by decide) hu)) rfl Z.b_sorted PyProof.Rows.boot_sorted (Xd (Y1 (sc:=(Xh Q1)) (N0:=["size", "tried"]) (tns:=["table"]) (caps:=[]) rfl (XQ (K:=K) rfl (pv 1)) (YD (by decide)) (fun cl C s H ex E=>⟨Xn (i:=0) (show List.Nodup (["table"] : List Str) by decide +kernel) rfl (Or.inl rfl), (JU (Xo KW (X4 g_broken hr (by decide) (Xd (pv 0) Xf)) Z3 (Xv _))), (pv 0)⟩)) Xf)))
    Xe))), ?_⟩
  refine Yv (S:=(SC.add SC.nil K Xb v_0 a_0)) (σ:=[some v_0, none]) 1 ?_ (SC.i SC.t h_0) hm q rfl
  unfold YI
  exact (Ky (Ev.toB (XT (Xg 4) (Xa (r:=Xb) 0 rfl (fun _ s=>(SC.r s))))) (XZ (K:=K) (o:=(oL (oL (oL (oF Xb))))) 1 0 (ZJ (fun _=>tg1 0) (XU (Ev.sh (Dl (Xt (r:=Xb) 0 rfl (fun _ s=>(SC.r s)))))) (fun C10 a11 v12=>(Yu (Xa (r:=(rV (rV Xb))) 0 rfl (fun _ s=>(SC.r s)))))) (Nat.le_of_ble_eq_true rfl) fun a5 v6 C7=>(Xw (CB (r:=rV Xb) (lt:=ltG ltI) (B7 (K:=K) (o:=(oL (oL (oF Xb)))) (r:=(rV (rV Xb))) 1 0 (by decide) rfl rfl (fun _ s=>(SC.r s)) (fun C17 a18 v19=>(Xl (K:=K) (Uw (tb:=tC .non) (Ev.toB (Yu (Xa (r:=(rV (rV Xb))) 0 rfl (fun _ s=>(SC.r s)))))))))))))
theorem Uv : FnScope ["one", "other"] ["one", "other"] (Xh Qg):=⟨rfl, rfl, rfl, by decide +kernel, rfl, by decide +kernel, by decide +kernel⟩
set_option maxHeartbeats 4000000 in
theorem V1 (D : Def K mg "refuse_big" Qg ["one", "other"]) (g_refuse_above : Fn P w K mg base 1 "refuse_above" ["most", "size"] (sp2 Xb Xb oU Yj K)) (Z : Blt mg) : Fn P w K mg base 2 "refuse_big" ["one", "other"] (sp2 (rV (rV Xb)) (rV (rV Xb)) oU Zy K):=by
  refine Ym D Uv (fun vs H Q E h=>?_) (fun f cdv A outer s H vs Q E hr h=>?_)
  . obtain ⟨v_0, v_1, a_0, a_1, b, rfl, _⟩:=h; rfl
  obtain ⟨v_0, v_1, a_0, a_1, b, rfl, h_0, h_1, hm, q⟩:=h
  have hu:=hu8 hr
  have hu1:=Yi hr
  refine ⟨_, (Xc (Yg (X4 g_refuse_above hr (by decide) (Xd (Bw Z.c_MOST_TO_COMPARE rfl) (Xd (Xq (FQ rfl) rfl Z.b_max PyProof.Rows.boot_max (Xd (Xq (Xj K rfl) rfl Z.b_len PySem.boot_len (Xd (pv 0) Xf)) (Xd (Xq (Xj K rfl) rfl Z.b_len PySem.boot_len (Xd (pv 1) Xf)) Xf))) Xf))))
    Xe), ?_⟩
  refine Iu (J:=({ oo:=fun x3=>[], ss:=fun x3=>[some v_0, some v_1], sc:=fun g4 x3=>(SC.add (SC.add SC.nil K (rV (rV Xb)) v_0 a_0) K (rV (rV Xb)) v_1 a_1) } : Jn (Unit) (Unit))) (K:=K) (S:=(SC.add (SC.add SC.nil K (rV (rV Xb)) v_0 a_0) K (rV (rV Xb)) v_1 a_1)) (σ:=[some v_0, some v_1]) 0 ?_ (SC.i (SC.i SC.t h_0) h_1) hm q (fun _ _=>rfl)
  unfold Zy
  exact (Ky (Ev.toB (XT (Xg 6) (Ey (XS (Xa (r:=(rV (rV Xb))) 0 rfl (fun _ s=>(SC.r (SC.l s))))) (XS (Xa (r:=(rV (rV Xb))) 1 rfl (fun _ s=>(SC.r s))))))) (Xs (J:=_) () () rfl rfl (fun _ s=>(SC.i (SC.i SC.t (SC.r (SC.l s))) (SC.r s)))))
theorem Zw : FnScope ["one", "other", "images", "a", "b", "result"] ["one", "other", "images", "a", "b"] (Xh YZ):=⟨rfl, rfl, rfl, by decide +kernel, rfl, by decide +kernel, by decide +kernel⟩
set_option maxHeartbeats 4000000 in
theorem Q9 (D : Def K mg "equation_broken" YZ ["one", "other", "images", "a", "b"])  (Z : Blt mg) : Fn P w K mg base 1 "equation_broken" ["one", "other", "images", "a", "b"] (sp5 (rV (rV Xb)) (rV (rV Xb)) (rPL Xb) Xb Xb (oF XO) Yt K):=by
  refine Ym D Zw (fun vs H Q E h=>?_) (fun f cdv A outer s H vs Q E hr h=>?_)
  . obtain ⟨v_0, v_1, v_2, v_3, v_4, a_0, a_1, a_2, a_3, a_4, b, rfl, _⟩:=h; rfl
  obtain ⟨v_0, v_1, v_2, v_3, v_4, a_0, a_1, a_2, a_3, a_4, b, rfl, h_0, h_1, h_2, h_3, h_4, hm, q⟩:=h
  have hu:=hu8 hr
  have hu1:=Yi hr
  refine ⟨_, (Xc (XA (i:=5) Zw.nd rfl (Or.inl rfl) (XH (Xm K rfl) (XH (Xm K rfl) (pv 0) (pv 3) (fun _ _=>rfl)) (pv 4) (fun _ _=>rfl)))
    (Xc (Xu (DS (Jl Ve (pv 5) (Xq (Xj K rfl) rfl Z.b_len PySem.boot_len (Xd (pv 2) Xf)) (Xv _)) (Gc (Jl JY (XH (Xm K rfl) (XH (Xm K rfl) (pv 1) (XH (Qj K rfl) (pv 2) (pv 3) (fun _ _=>rfl)) (fun _ _=>rfl)) (XH (Qj K rfl) (pv 2) (pv 4) (fun _ _=>rfl)) (fun _ _=>rfl)) (XH (Qj K rfl) (pv 2) (pv 5) (fun _ _=>rfl)) (Xv _)))))
    Xe)), ?_⟩
  refine Yv (S:=(SC.add (SC.add (SC.add (SC.add (SC.add SC.nil K (rV (rV Xb)) v_0 a_0) K (rV (rV Xb)) v_1 a_1) K (rPL Xb) v_2 a_2) K Xb v_3 a_3) K Xb v_4 a_4)) (σ:=[some v_0, some v_1, some v_2, some v_3, some v_4, none]) 0 ?_ (SC.i (SC.i (SC.i (SC.i (SC.i SC.t h_0) h_1) h_2) h_3) h_4) hm q rfl
  unfold Yt
  exact (XY (K:=K) (r:=Xb) 5 (EvB.sh (Xx (Xx (Xa (r:=(rV (rV Xb))) 0 rfl (fun _ s=>(SC.r (SC.l (SC.l (SC.l (SC.l s))))))) (Xa (r:=Xb) 3 rfl (fun _ s=>(SC.r (SC.l s))))) (Xa (r:=Xb) 4 rfl (fun _ s=>(SC.r s))))) fun a1 v2=>(Xw (EvS.ev (EvB.sh (VX (Qh (Xa (r:=Xb) 5 rfl (fun _ s=>(SC.r s))) (JH (Xa (r:=(rPL Xb)) 2 rfl (fun _ s=>(SC.r (SC.l (SC.l (SC.l s)))))))) (Qq (Xx (Xx (Xa (r:=(rV (rV Xb))) 1 rfl (fun _ s=>(SC.r (SC.l (SC.l (SC.l (SC.l s))))))) (Kt (Xa (r:=(rPL Xb)) 2 rfl (fun _ s=>(SC.r (SC.l (SC.l (SC.l s)))))) (Xa (r:=Xb) 3 rfl (fun _ s=>(SC.r (SC.l (SC.l s))))))) (Kt (Xa (r:=(rPL Xb)) 2 rfl (fun _ s=>(SC.r (SC.l (SC.l (SC.l s)))))) (Xa (r:=Xb) 4 rfl (fun _ s=>(SC.r (SC.l s)))))) (Kt (Xa (r:=(rPL Xb)) 2 rfl (fun _ s=>(SC.r (SC.l (SC.l (SC.l s)))))) (Xa (r:=Xb) 5 rfl (fun _ s=>(SC.r s))))))))))
theorem Zo : FnScope ["one", "other", "images", "a", "b"] ["one", "other", "images"] (Xh ZG):=⟨rfl, rfl, rfl, by decide +kernel, rfl, by decide +kernel, by decide +kernel⟩
set_option maxHeartbeats 4000000 in
theorem J0 (D : Def K mg "first_breach" ZG ["one", "other", "images"]) (g_equation_broken : Fn P w K mg base 1 "equation_broken" ["one", "other", "images", "a", "b"] (sp5 (rV (rV Xb)) (rV (rV Xb)) (rPL Xb) Xb Xb (oF XO) Yt K)) (Z : Blt mg) : Fn P w K mg base 2 "first_breach" ["one", "other", "images"] (sp3 (rV (rV Xb)) (rV (rV Xb)) (rPL Xb) (oF (Zt (rP2 Xb Xb))) Y0 K):=by
  refine Ym D Zo (fun vs H Q E h=>?_) (fun f cdv A outer s H vs Q E hr h=>?_)
  . obtain ⟨v_0, v_1, v_2, a_0, a_1, a_2, b, rfl, _⟩:=h; rfl
  obtain ⟨v_0, v_1, v_2, a_0, a_1, a_2, b, rfl, h_0, h_1, h_2, hm, q⟩:=h
  have hu:=hu8 hr
  have hu1:=Yi hr
  refine ⟨_, (Xc (XM PassesOwn.never rfl (Xy rfl Z.b_range (Xd (Xq (Xj K rfl) rfl Z.b_len PySem.boot_len (Xd (pv 2) Xf)) Xf)) (Xn (i:=3) Zo.nd rfl (Or.inl rfl))
      (Xc (XM PassesOwn.never rfl (Xy rfl Z.b_range (Xd (Xq (Xj K rfl) rfl Z.b_len PySem.boot_len (Xd (pv 2) Xf)) Xf)) (Xn (i:=4) Zo.nd rfl (Or.inl rfl))
        (Xc (X6 (Qk (X4 g_equation_broken hr (by decide) (Xd (pv 0) (Xd (pv 1) (Xd (pv 2) (Xd (pv 3) (Xd (pv 4) Xf)))))))
          (Xc (Xu (QJ (Xd (pv 3) (Xd (pv 4) Xf))))
          Xe)
          Xe)
        Xe))
      Xe))
    (Xc (Xu Z3)
    Xe)), ?_⟩
  refine Yv (S:=(SC.add (SC.add (SC.add SC.nil K (rV (rV Xb)) v_0 a_0) K (rV (rV Xb)) v_1 a_1) K (rPL Xb) v_2 a_2)) (σ:=[some v_0, some v_1, some v_2, none, none]) 0 ?_ (SC.i (SC.i (SC.i SC.t h_0) h_1) h_2) hm q rfl
  unfold Y0
  exact (Zn (K:=K) (J:=({ oo:=fun x3=>[], ss:=fun x3=>[some v_0, some v_1, some v_2, x3.1, x3.2], sc:=fun g4 x3=>(SC.add (SC.add (SC.add SC.nil K (rV (rV Xb)) v_0 a_0) K (rV (rV Xb)) v_1 a_1) K (rPL Xb) v_2 a_2) } : Jn (Unit) (Option V × Option V))) (fun _=>tg1 3) ((none), (none)) () (Xp (JH (Xa (r:=(rPL Xb)) 2 rfl (fun _ s=>(SC.r s))))) rfl rfl (fun _ s=>(SC.i (SC.i (SC.i SC.t (SC.r (SC.l (SC.l s)))) (SC.r (SC.l s))) (SC.r s))) (fun g5 x6 a7 v8=>(ZB (K:=K) (J:=({ oo:=fun x11=>[], ss:=fun x11=>[some v_0, some v_1, some v_2, some v8, x11], sc:=fun g12 x11=>(SC.add (SC.add (SC.add (SC.add SC.nil K (rV (rV Xb)) v_0 a_0) K (rV (rV Xb)) v_1 a_1) K (rPL Xb) v_2 a_2) K Xb v8 a7) } : Jn (Unit) (Option V))) (fun _=>tg1 4) ((x6.2)) () (Xp (JH (Xa (r:=(rPL Xb)) 2 rfl (fun _ s=>(SC.r (SC.l s)))))) rfl rfl (fun _ s=>(SC.i (SC.i (SC.i (SC.i SC.t (SC.r (SC.l (SC.l (SC.l s))))) (SC.r (SC.l (SC.l s)))) (SC.r (SC.l s))) (SC.r s))) (fun g13 x14 a15 v16=>(YT (Vp (K:=K) (Ev.toB (Gs (Xa (r:=(rV (rV Xb))) 0 rfl (fun _ s=>(SC.r (SC.l (SC.l (SC.l (SC.l s))))))) (Xa (r:=(rV (rV Xb))) 1 rfl (fun _ s=>(SC.r (SC.l (SC.l (SC.l s)))))) (Xa (r:=(rPL Xb)) 2 rfl (fun _ s=>(SC.r (SC.l (SC.l s))))) (Xa (r:=Xb) 3 rfl (fun _ s=>(SC.r (SC.l s)))) (Xa (r:=Xb) 4 rfl (fun _ s=>(SC.r s)))))) (Xw (QW EN (EvS.ev (Uq (Xt (r:=Xb) 3 rfl (fun _ s=>(SC.r (SC.l s)))) (Xt (r:=Xb) 4 rfl (fun _ s=>(SC.r s))))))) (Yq (Xs (J:=_) ((some v16)) () rfl rfl (fun _ s=>(SC.i (SC.i (SC.i (SC.i SC.t (SC.r (SC.l (SC.l (SC.l (SC.l s)))))) (SC.r (SC.l (SC.l (SC.l s))))) (SC.r (SC.l (SC.l s)))) (SC.r (SC.l s)))))))) fun g29 x30=>(Yq (Xs (J:=_) ((some v8), (x30)) () rfl rfl (fun _ s=>(SC.i (SC.i (SC.i SC.t (SC.r (SC.l (SC.l (SC.l s))))) (SC.r (SC.l (SC.l s)))) (SC.r (SC.l s)))))))) fun g33 x34=>(Xw Vd))
theorem Jx : FnScope ["images", "size"] ["images", "size"] (Xh YK):=⟨rfl, rfl, rfl, by decide +kernel, rfl, by decide +kernel, by decide +kernel⟩
set_option maxHeartbeats 4000000 in
theorem JC (D : Def K mg "longer_images" YK ["images", "size"])  (Z : Blt mg) : Fn P w K mg base 1 "longer_images" ["images", "size"] (sp2 (rPL Xb) Xb (oL (oF (rPL Xb))) YQ K):=by
  refine Ym D Jx (fun vs H Q E h=>?_) (fun f cdv A outer s H vs Q E hr h=>?_)
  . obtain ⟨v_0, v_1, a_0, a_1, b, rfl, _⟩:=h; rfl
  obtain ⟨v_0, v_1, a_0, a_1, b, rfl, h_0, h_1, hm, q⟩:=h
  have hu:=hu8 hr
  have hu1:=Yi hr
  refine ⟨_, (Xc (Xu (Y1 (sc:=(Xh YK)) (N0:=["images", "size"]) (tns:=["colour"]) (caps:=[(0, "images")]) rfl (DP rfl Z.b_range (Xd (XC Y4 (pv 1) Xi) (Xd (Hz BN Xi) (Xd (Hz BN Xi) Xf)))) (YD (by decide)) (fun cl C s H ex E=>⟨Xn (i:=0) (show List.Nodup (["colour", "images"] : List Str) by decide +kernel) rfl (Or.inl rfl), (JU (Xo (QX K rfl) (pv 0) (pv 1) rfl)), (XC (CL K rfl) (pv 1) (QJ (Xd (pv 0) Xf)))⟩)))
    Xe), ?_⟩
  refine Yv (S:=(SC.add (SC.add SC.nil K (rPL Xb) v_0 a_0) K Xb v_1 a_1)) (σ:=[some v_0, some v_1]) 0 ?_ (SC.i (SC.i SC.t h_0) h_1) hm q rfl
  unfold YQ
  exact (Xw (JN (fun _=>tg1 0) (KM (Yr (Xa (r:=Xb) 1 rfl (fun _ s=>(SC.r s))) (Xg 1)) (Fg (Xg 1)) (Fg (Xg 1))) (fun C8 a9 v10=>(Xl (K:=K) (Bn (Xa (r:=Xb) 0 rfl (fun _ s=>(SC.r s))) (Xa (r:=(rPL Xb)) 1 rfl (fun _ s=>(SC.r (SC.l (SC.l s)))))))) (fun C8 a9 v10=>(EvS.ev (EvB.sh (CQ (Xa (r:=(rPL Xb)) 1 rfl (fun _ s=>(SC.r (SC.l (SC.l s))))) (Ev.toB (EvS.ev (Gp (XI (Xt (r:=Xb) 0 rfl (fun _ s=>(SC.r s))) Y6))))))))))
theorem Zm : FnScope ["one", "other", "paper", "waiting", "images", "breach"] ["one", "other"] (Xh Jm):=⟨rfl, rfl, rfl, by decide +kernel, rfl, by decide +kernel, by decide +kernel⟩
set_option maxHeartbeats 4000000 in
theorem KF (D : Def K mg "searched" Jm ["one", "other"]) (g_first_breach : Fn P w K mg base 2 "first_breach" ["one", "other", "images"] (sp3 (rV (rV Xb)) (rV (rV Xb)) (rPL Xb) (oF (Zt (rP2 Xb Xb))) Y0 K)) (g_longer_images : Fn P w K mg base 1 "longer_images" ["images", "size"] (sp2 (rPL Xb) Xb (oL (oF (rPL Xb))) YQ K)) (Z : Blt mg) : Fn P w K mg base 3 "searched" ["one", "other"] (sp2 (rV (rV Xb)) (rV (rV Xb)) (oT2 (DE (oL (oF Xb))) (oL (oF (rP3 (rPL Xb) Xb Xb)))) Qx K):=by
  refine Ym D Zm (fun vs H Q E h=>?_) (fun f cdv A outer s H vs Q E hr h=>?_)
  . obtain ⟨v_0, v_1, a_0, a_1, b, rfl, _⟩:=h; rfl
  obtain ⟨v_0, v_1, a_0, a_1, b, rfl, h_0, h_1, hm, q⟩:=h
  have hu:=hu8 hr
  have hu1:=Yi hr
  refine ⟨_, (Xc (XA (i:=2) Zm.nd rfl (Or.inl rfl) (XW Xf))
    (Xc (XA (i:=3) Zm.nd rfl (Or.inl rfl) (Be (Xo Qf (Xq (Xj K rfl) rfl Z.b_len PySem.boot_len (Xd (pv 0) Xf)) (Xq (Xj K rfl) rfl Z.b_len PySem.boot_len (Xd (pv 1) Xf)) (Xv _)) (XW (Xd (QJ Xf) Xf)) (XW Xf)))
    (Xc (VZ PassesOwn.never (Xo Vg (Xq (Xj K rfl) rfl Z.b_len PySem.boot_len (Xd (pv 3) Xf)) Xi (Xv _))
      (Xc (XA (i:=4) Zm.nd rfl (Or.inl rfl) (IA PySem.F.plainAttrs_list PySem.F.slot_list_pop PySem.F.type_list_pop HI (pv 3)))
      (Xc (XA (i:=5) Zm.nd rfl (Or.inl rfl) (X4 g_first_breach hr (by decide) (Xd (pv 0) (Xd (pv 1) (Xd (pv 4) Xf)))))
      (Xc (X6 (Xo FY (pv 5) Z3 (Xv _))
        (Xc (Yg (Z6 PySem.F.plainAttrs_list PySem.F.slot_list_append PySem.F.type_list_append X8 (pv 2) (Xd (QJ (Xd (pv 4) (Xd (XH (Qj K rfl) (pv 5) Xi (fun _ _=>rfl)) (Xd (XH (Qj K rfl) (pv 5) Xi (fun _ _=>rfl)) Xf)))) Xf)))
        Xe)
        (Xc (X6 (Xo Qf (Xq (Xj K rfl) rfl Z.b_len PySem.boot_len (Xd (pv 4) Xf)) (Xq (Xj K rfl) rfl Z.b_len PySem.boot_len (Xd (pv 0) Xf)) (Xv _))
          (Xc (Xu (QJ (Xd (U4 (Q4 K rfl) rfl Z.b_list PyProof.Rows.boot_list (Xd (pv 4) Xf)) (Xd (pv 2) Xf))))
          Xe)
          (Xc (Yg (Z6 PySem.F.plainAttrs_list PySem.F.slot_list_extend PySem.F.type_list_extend Va (pv 3) (Xd (X4 g_longer_images hr (by decide) (Xd (pv 4) (Xd (Xq (Xj K rfl) rfl Z.b_len PySem.boot_len (Xd (pv 1) Xf)) Xf))) Xf)))
          Xe))
        Xe))
      Xe))))
    (Xc (Xu (QJ (Xd Z3 (Xd (pv 2) Xf))))
    Xe)))), ?_⟩
  refine Yv (S:=(SC.add (SC.add SC.nil K (rV (rV Xb)) v_0 a_0) K (rV (rV Xb)) v_1 a_1)) (σ:=[some v_0, some v_1, none, none, none, none]) 2 ?_ (SC.i (SC.i SC.t h_0) h_1) hm q rfl
  unfold Qx
  exact (XZ (K:=K) (o:=(oL (oF (rP3 (rPL Xb) Xb Xb)))) 2 0 (Z5 (o:=(oF (rP3 (rPL Xb) Xb Xb)))) (Nat.le_of_ble_eq_true rfl) fun a1 v2 C3=>(XZ (K:=K) (o:=(oL (oF (rPL Xb)))) 3 1 (Ly (Xl (K:=K) (Y2 (XS (Xa (r:=(rV (rV Xb))) 0 rfl (fun _ s=>(SC.r (SC.l (SC.l s)))))) (XS (Xa (r:=(rV (rV Xb))) 1 rfl (fun _ s=>(SC.r (SC.l s))))))) (QK (XI (Gp Y6) Y6)) (Z5 (o:=(oF (rPL Xb))))) (Nat.le_of_ble_eq_true rfl) fun a4 v5 C6=>(Fu (K:=K) (J:=({ oo:=fun x16=>[x16.2.2.2.2.2, x16.2.2.2.2.1], ss:=fun x16=>[some v_0, some v_1, some x16.2.2.2.1, some x16.2.2.1, x16.1, x16.2.1], sc:=fun g17 x16=>(SC.addO (SC.addO (SC.add (SC.add SC.nil K (rV (rV Xb)) v_0 a_0) K (rV (rV Xb)) v_1 a_1) K (oL (oF (rPL Xb))) x16.2.2.1 g17.1 x16.2.2.2.2.1) K (oL (oF (rP3 (rPL Xb) Xb Xb))) x16.2.2.2.1 g17.2 x16.2.2.2.2.2) } : Jn ((List (List Int)) × (List ((List Int) × Int × Int))) (Option V × Option V × V × V × List Xz × List Xz))) (a_0.length + 100000) ((none), (none), v5, v2, C6, C3) (a4, a1) rfl rfl (fun _ s=>(SC.i (SC.i (SC.i (SC.i SC.t (SC.r (SC.l (SC.l (SC.l s))))) (SC.r (SC.l (SC.l s)))) (SC.r s)) (SC.r (SC.l s)))) (fun g18 x19=>(Xl (K:=K) (Qo (XS (QS (o:=(oL (oF (rPL Xb)))) 3 1 rfl rfl (fun _ s=>(SC.r (SC.l s))))) (Xg 0)))) (fun g18 x19=>(Ei (K:=K) (r:=(rPL Xb)) 4 3 1 rfl rfl (fun _ s=>(SC.r (SC.l s))) fun a23 a24 v25 C26=>(XY (K:=K) (r:=(Zt (rP2 Xb Xb))) 5 (EvB.sh (Ev.toB (Qy (Xa (r:=(rV (rV Xb))) 0 rfl (fun _ s=>(SC.r (SC.l (SC.l (SC.l (SC.l (SC.l s)))))))) (Xa (r:=(rV (rV Xb))) 1 rfl (fun _ s=>(SC.r (SC.l (SC.l (SC.l (SC.l s))))))) (Xa (r:=(rPL Xb)) 4 rfl (fun _ s=>(SC.r (SC.l s))))))) fun a28 v29=>(KY (J:=({ oo:=fun x36=>[x36.2.2.1, x36.2.2.2], ss:=fun x36=>[some v_0, some v_1, some x36.1, some x36.2.1, some v25, some v29], sc:=fun g37 x36=>(SC.addO (SC.addO (SC.add (SC.add (SC.add (SC.add SC.nil K (rV (rV Xb)) v_0 a_0) K (rV (rV Xb)) v_1 a_1) K (rPL Xb) v25 a23) K (Zt (rP2 Xb Xb)) v29 a28) K (oL (oF (rP3 (rPL Xb) Xb Xb))) x36.1 g37.1 x36.2.2.1) K (oL (oF (rPL Xb))) x36.2.1 g37.2 x36.2.2.2) } : Jn ((List ((List Int) × Int × Int)) × (List (List Int))) (V × V × List Xz × List Xz))) (ZQ (Fd:=FCd K (oT2 (DE (oL (oF Xb))) (oL (oF (rP3 (rPL Xb) Xb Xb)))) ({ oo:=fun x36=>[x36.2.2.1, x36.2.2.2], ss:=fun x36=>[some v_0, some v_1, some x36.1, some x36.2.1, some v25, some v29], sc:=fun g37 x36=>(SC.addO (SC.addO (SC.add (SC.add (SC.add (SC.add SC.nil K (rV (rV Xb)) v_0 a_0) K (rV (rV Xb)) v_1 a_1) K (rPL Xb) v25 a23) K (Zt (rP2 Xb Xb)) v29 a28) K (oL (oF (rP3 (rPL Xb) Xb Xb))) x36.1 g37.1 x36.2.2.1) K (oL (oF (rPL Xb))) x36.2.1 g37.2 x36.2.2.2) } : Jn ((List ((List Int) × Int × Int)) × (List (List Int))) (V × V × List Xz × List Xz))) (Xl (K:=K) (Gy (tb:=tC .non) (Xa (r:=(Zt (rP2 Xb Xb))) 5 rfl (fun _ s=>(SC.r s))))) (Qd (K:=K) (o:=(oF (rP3 (rPL Xb) Xb Xb))) (f:=fun a45=>(Res.bind (Res.ok (a45, a24)) fun x46=>(Res.ok (Ctl.nx x46)))) 2 0 rfl rfl rfl (fun _ s=>(SC.r (SC.l (SC.l (SC.l s))))) (EvS.ev (Cq (Xt (r:=(rPL Xb)) 4 rfl (fun _ s=>(SC.r (SC.l (SC.l s))))) (EvB.sh (Fx (Gg (Xa (r:=(Zt (rP2 Xb Xb))) 5 rfl (fun _ s=>(SC.r s)))))) (EvB.sh (F7 (Gg (Xa (r:=(Zt (rP2 Xb Xb))) 5 rfl (fun _ s=>(SC.r s)))))))) fun a43 C44=>(Yq (Xs (J:=_) (x19.2.2.2.1, x19.2.2.1, C44, C26) ((g18.2 ++ [a43]), a24) rfl rfl (fun _ s=>(SC.i (SC.i (SC.i (SC.i (SC.i (SC.i SC.t (SC.r (SC.l (SC.l (SC.l (SC.l (SC.l (SC.l (SC.l s))))))))) (SC.r (SC.l (SC.l (SC.l (SC.l (SC.l (SC.l s)))))))) (SC.r (SC.l (SC.l (SC.l s))))) (SC.r (SC.l s))) (SC.r s)) (SC.r (SC.l (SC.l s)))))))) (KY (J:=({ oo:=fun x52=>[x19.2.2.2.2.2, x52.2], ss:=fun x52=>[some v_0, some v_1, some x19.2.2.2.1, some x52.1, some v25, some v29], sc:=fun g53 x52=>(SC.addO (SC.add (SC.add (SC.addO (SC.add (SC.add SC.nil K (rV (rV Xb)) v_0 a_0) K (rV (rV Xb)) v_1 a_1) K (oL (oF (rP3 (rPL Xb) Xb Xb))) x19.2.2.2.1 g18.2 x19.2.2.2.2.2) K (rPL Xb) v25 a23) K (Zt (rP2 Xb Xb)) v29 a28) K (oL (oF (rPL Xb))) x52.1 g53 x52.2) } : Jn ((List (List Int))) (V × List Xz))) (ZQ (Fd:=FCd K (oT2 (DE (oL (oF Xb))) (oL (oF (rP3 (rPL Xb) Xb Xb)))) ({ oo:=fun x52=>[x19.2.2.2.2.2, x52.2], ss:=fun x52=>[some v_0, some v_1, some x19.2.2.2.1, some x52.1, some v25, some v29], sc:=fun g53 x52=>(SC.addO (SC.add (SC.add (SC.addO (SC.add (SC.add SC.nil K (rV (rV Xb)) v_0 a_0) K (rV (rV Xb)) v_1 a_1) K (oL (oF (rP3 (rPL Xb) Xb Xb))) x19.2.2.2.1 g18.2 x19.2.2.2.2.2) K (rPL Xb) v25 a23) K (Zt (rP2 Xb Xb)) v29 a28) K (oL (oF (rPL Xb))) x52.1 g53 x52.2) } : Jn ((List (List Int))) (V × List Xz))) (Xl (K:=K) (Y2 (JH (Xa (r:=(rPL Xb)) 4 rfl (fun _ s=>(SC.r (SC.l (SC.l s)))))) (XS (Xa (r:=(rV (rV Xb))) 0 rfl (fun _ s=>(SC.r (SC.l (SC.l (SC.l (SC.l (SC.l (SC.l s)))))))))))) (B5 (Xw (Gr (Ec Mi (Bp (Xa (r:=(rPL Xb)) 4 rfl (fun _ s=>(SC.r (SC.l (SC.l s))))))) fun _=>(Ye (o:=(oL (oF (rP3 (rPL Xb) Xb Xb)))) 2 1 rfl rfl (fun _ s=>(SC.r (SC.l (SC.l (SC.l s))))))))) (Fc (K:=K) (o:=(oF (rPL Xb))) (f:=fun a65=>(Res.bind (Res.ok (a65)) fun x66=>(Res.ok (Ctl.nx x66)))) 3 1 rfl rfl rfl (fun _ s=>(SC.r (SC.l s))) (XT (Xa (r:=(rPL Xb)) 4 rfl (fun _ s=>(SC.r (SC.l (SC.l s))))) (XS (Xa (r:=(rV (rV Xb))) 1 rfl (fun _ s=>(SC.r (SC.l (SC.l (SC.l (SC.l (SC.l s)))))))))) fun a63 C64=>(Yq (Xs (J:=_) (x19.2.2.1, C64) ((a24 ++ a63)) rfl rfl (fun _ s=>(SC.i (SC.i (SC.i (SC.i (SC.i (SC.i SC.t (SC.r (SC.l (SC.l (SC.l (SC.l (SC.l (SC.l (SC.l s))))))))) (SC.r (SC.l (SC.l (SC.l (SC.l (SC.l (SC.l s)))))))) (SC.r (SC.l (SC.l (SC.l (SC.l s)))))) (SC.r (SC.l (SC.l (SC.l s))))) (SC.r (SC.l s))) (SC.r s))))))) fun g68 x67=>(Yq (Xs (J:=_) (x19.2.2.2.1, x67.1, x19.2.2.2.2.2, x67.2) (g18.2, g68) rfl rfl (fun _ s=>(SC.i (SC.i (SC.i (SC.i (SC.i (SC.i SC.t (SC.r (SC.l (SC.l (SC.l (SC.l (SC.l s))))))) (SC.r (SC.l (SC.l (SC.l (SC.l s)))))) (SC.r (SC.l (SC.l s)))) (SC.r (SC.l s))) (SC.r (SC.l (SC.l (SC.l s))))) (SC.r s))))))) fun g71 x70=>(Yq (Xs (J:=_) ((some v25), (some v29), x70.2.1, x70.1, x70.2.2.2, x70.2.2.1) (g71.2, g71.1) rfl rfl (fun _ s=>(SC.i (SC.i (SC.i (SC.i SC.t (SC.r (SC.l (SC.l (SC.l (SC.l (SC.l s))))))) (SC.r (SC.l (SC.l (SC.l (SC.l s)))))) (SC.r s)) (SC.r (SC.l s)))))))))) fun g73 x74=>(Xw (Gr IK fun _=>(Ye (o:=(oL (oF (rP3 (rPL Xb) Xb Xb)))) 2 1 rfl rfl (fun _ s=>(SC.r s))))))))
theorem Ej : FnScope ["one", "other"] ["one", "other"] (Xh Ca):=⟨rfl, rfl, rfl, by decide +kernel, rfl, by decide +kernel, by decide +kernel⟩
set_option maxHeartbeats 4000000 in
theorem Eb (D : Def K mg "like" Ca ["one", "other"]) (g_refuse_big : Fn P w K mg base 2 "refuse_big" ["one", "other"] (sp2 (rV (rV Xb)) (rV (rV Xb)) oU Zy K)) (g_searched : Fn P w K mg base 3 "searched" ["one", "other"] (sp2 (rV (rV Xb)) (rV (rV Xb)) (oT2 (DE (oL (oF Xb))) (oL (oF (rP3 (rPL Xb) Xb Xb)))) Qx K)) (Z : Blt mg) : Fn P w K mg base 4 "like" ["one", "other"] (sp2 (rV (rV Xb)) (rV (rV Xb)) (DE (oL (oF Xb))) U9 K):=by
  refine Ym D Ej (fun vs H Q E h=>?_) (fun f cdv A outer s H vs Q E hr h=>?_)
  . obtain ⟨v_0, v_1, a_0, a_1, b, rfl, _⟩:=h; rfl
  obtain ⟨v_0, v_1, a_0, a_1, b, rfl, h_0, h_1, hm, q⟩:=h
  have hu:=hu8 hr
  have hu1:=Yi hr
  refine ⟨_, (Xc (Yg (X4 g_refuse_big hr (by decide) (Xd (pv 0) (Xd (pv 1) Xf))))
    (Xc (Xu (XH (Qj K rfl) (X4 g_searched hr (by decide) (Xd (pv 0) (Xd (pv 1) Xf))) Xi (fun _ _=>rfl)))
    Xe)), ?_⟩
  refine Yv (S:=(SC.add (SC.add SC.nil K (rV (rV Xb)) v_0 a_0) K (rV (rV Xb)) v_1 a_1)) (σ:=[some v_0, some v_1]) 0 ?_ (SC.i (SC.i SC.t h_0) h_1) hm q rfl
  unfold U9
  exact (Ky (Ev.toB (XT (Xa (r:=(rV (rV Xb))) 0 rfl (fun _ s=>(SC.r (SC.l s)))) (Xa (r:=(rV (rV Xb))) 1 rfl (fun _ s=>(SC.r s))))) (Xw (Ef (XT (Xa (r:=(rV (rV Xb))) 0 rfl (fun _ s=>(SC.r (SC.l s)))) (Xa (r:=(rV (rV Xb))) 1 rfl (fun _ s=>(SC.r s)))))))
theorem Ub : FnScope ["size", "told", "table"] ["size"] (Xh Uf):=⟨rfl, rfl, rfl, by decide +kernel, rfl, by decide +kernel, by decide +kernel⟩
set_option maxHeartbeats 4000000 in
theorem CT (D : Def K mg "kinds" Uf ["size"]) (g_tables : Fn P w K mg base 4 "tables" ["size"] (sp1 Xb (oL (oL (oL (oF Xb)))) YI K)) (g_like : Fn P w K mg base 4 "like" ["one", "other"] (sp2 (rV (rV Xb)) (rV (rV Xb)) (DE (oL (oF Xb))) U9 K)) (Z : Blt mg) : Fn P w K mg base 5 "kinds" ["size"] (sp1 Xb (oL (oL (oL (oF Xb)))) ZF K):=by
  refine Ym D Ub (fun vs H Q E h=>?_) (fun f cdv A outer s H vs Q E hr h=>?_)
  . obtain ⟨v_0, a_0, b, rfl, _⟩:=h; rfl
  obtain ⟨v_0, a_0, b, rfl, h_0, hm, q⟩:=h
  have hu:=hu8 hr
  have hu1:=Yi hr
  refine ⟨_, (Xc (XA (i:=1) Ub.nd rfl (Or.inl rfl) (XW Xf))
    (Xc (XM PassesOwn.never rfl (XQ (K:=K) rfl (X4 g_tables hr (by decide) (Xd (pv 0) Xf))) (Xn (i:=2) Ub.nd rfl (Or.inr rfl))
      (Xc (X6 (Qk (Xq (DI rfl) rfl Z.b_all PyProof.Rows.boot_all (Xd (Y1 (sc:=(Xh Uf)) (N0:=["size", "told", "table"]) (tns:=["kind"]) (caps:=[(2, "table")]) rfl (XQ (K:=K) rfl (pv 1)) (YD (by decide)) (fun cl C s H ex E=>⟨Xn (i:=0) (show List.Nodup (["kind", "table"] : List Str) by decide +kernel) rfl (Or.inl rfl), ZD, (Jl KW (X4 g_like hr (by decide) (Xd (pv 0) (Xd (pv 1) Xf))) Z3 (Xv _))⟩)) Xf)))
        (Xc (Yg (Z6 PySem.F.plainAttrs_list PySem.F.slot_list_append PySem.F.type_list_append X8 (pv 1) (Xd (pv 2) Xf)))
        Xe)
        Xe)
      Xe))
    (Xc (Xu (pv 1))
    Xe))), ?_⟩
  refine Yv (S:=(SC.add SC.nil K Xb v_0 a_0)) (σ:=[some v_0, none, none]) 3 ?_ (SC.i SC.t h_0) hm q rfl
  unfold ZF
  exact (XZ (K:=K) (o:=(oL (oL (oL (oF Xb))))) 1 0 (Z5 (o:=(oL (oL (oF Xb))))) (Nat.le_of_ble_eq_true rfl) fun a1 v2 C3=>(Dc (K:=K) (o:=(oL (oL (oF Xb)))) (J:=({ oo:=fun x6=>[x6.2.2, [], []], ss:=fun x6=>[some v_0, some x6.2.1, x6.1], sc:=fun g7 x6=>(SC.addO (SC.add SC.nil K Xb v_0 a_0) K (oL (oL (oL (oF Xb)))) x6.2.1 g7 x6.2.2) } : Jn ((List (List (List Int)))) (Option V × V × List Xz))) 1 2 2 ((none), v2, C3) (a1) (Yu (Xa (r:=Xb) 0 rfl (fun _ s=>(SC.r (SC.l s))))) rfl rfl (fun _ s=>(SC.i (SC.i SC.t (SC.r (SC.l s))) (SC.r s))) (fun _=>rfl) (fun _=>rfl) (by decide) (fun R13 g8 x9 a10 v11 C12=>(Zs (J:=({ oo:=fun x24=>[x24.2.2, [], R13], ss:=fun x24=>[some v_0, some x24.1, x24.2.1], sc:=fun g25 x24=>(SC.addO (SC.add SC.nil K Xb v_0 a_0) K (oL (oL (oL (oF Xb)))) x24.1 g25 x24.2.2) } : Jn ((List (List (List Int)))) (V × Option V × List Xz))) (ZQ (Fd:=FNd ({ oo:=fun x24=>[x24.2.2, [], R13], ss:=fun x24=>[some v_0, some x24.1, x24.2.1], sc:=fun g25 x24=>(SC.addO (SC.add SC.nil K Xb v_0 a_0) K (oL (oL (oL (oF Xb)))) x24.1 g25 x24.2.2) } : Jn ((List (List (List Int)))) (V × Option V × List Xz))) (Vp (K:=K) (ED (Ev.toB (Em (K:=K) (o1:=(oL (oL (oL (oF Xb))))) 0 rfl (fun _ s=>(SC.r (SC.l s))) (ZJ (fun _=>tg1 0) (XU (Xt (r:=(rV (rV (rV Xb)))) 1 rfl (fun _ s=>(SC.r s)))) (fun C14 a15 v16=>(EvS.ev (EvB.sh (Uw (tb:=tC .non) (Ev.toB (XT (Xa (r:=(rV (rV Xb))) 0 rfl (fun _ s=>(SC.r s))) (QS (o:=(oL (oL (oF Xb)))) 1 2 rfl rfl (fun _ s=>(SC.r (SC.l (SC.l s)))))))))))))))) (Qd (K:=K) (o:=(oL (oL (oF Xb)))) (f:=fun a28=>(Res.ok (a28))) 1 0 rfl rfl rfl (fun _ s=>(SC.r (SC.l s))) (Ye (o:=(oL (oL (oF Xb)))) 2 1 rfl rfl (fun _ s=>(SC.r s))) fun a26 C27=>(Xs (J:=_) (x9.2.1, (some v11), C27) ((g8 ++ [a26])) rfl rfl (fun _ s=>(SC.i (SC.i SC.t (SC.r (SC.l (SC.l (SC.l s))))) (SC.r s))))) (F1 1 (Xs (J:=_) (x9.2.1, (some v11), x9.2.2) (g8) rfl rfl (fun _ s=>(SC.i (SC.i SC.t (SC.r (SC.l (SC.l s)))) (SC.r (SC.l s))))))) fun g30 x29=>(Xs (J:=_) ((x29.2.1), x29.1, x29.2.2) (g30) rfl rfl (fun _ s=>(SC.i (SC.i SC.t (SC.r (SC.l s))) (SC.r s)))))) fun g31 x32=>(Xw (Ye (o:=(oL (oL (oL (oF Xb))))) 1 0 rfl rfl (fun _ s=>(SC.r s))))))
theorem Up : FnScope ["_law_script", "_law_place", "_law_seed", "_law_cell_here"] ["_law_script", "_law_place"] (Xh F8):=⟨rfl, rfl, rfl, by decide +kernel, rfl, by decide +kernel, by decide +kernel⟩
set_option maxHeartbeats 4000000 in
theorem EA (D : Def K mg "_law_cell" F8 ["_law_script", "_law_place"])  (Z : Blt mg) : Fn P w K mg base 1 "_law_cell" ["_law_script", "_law_place"] (sp2 (rL Xb) Xb (oF Xb) JZ K):=by
  refine Ym D Up (fun vs H Q E h=>?_) (fun f cdv A outer s H vs Q E hr h=>?_)
  . obtain ⟨v_0, v_1, a_0, a_1, b, rfl, _⟩:=h; rfl
  obtain ⟨v_0, v_1, a_0, a_1, b, rfl, h_0, h_1, hm, q⟩:=h
  have hu:=hu8 hr
  have hu1:=Yi hr
  refine ⟨_, (Xc (X6 (Xo Ve (pv 1) (Xq (Xj K rfl) rfl Z.b_len PySem.boot_len (Xd (pv 0) Xf)) (Xv _))
      (Xc (Xu (XH (Xm K rfl) (pv 0) (pv 1) (fun _ _=>rfl)))
      Xe)
      Xe)
    (Xc (XA (i:=2) Up.nd rfl (Or.inl rfl) Xi)
    (Xc (XM PassesOwn.never rfl (XQ (K:=K) rfl (Ua (Ur K rfl) (pv 0) KJ (KP Xi))) (Xn (i:=3) Up.nd rfl (Or.inl rfl))
      (Xc (XA (i:=2) Up.nd rfl (Or.inl rfl) (XC YE (XC YV (XC YV (XC Z0 (pv 2) Xi) (XC YE (pv 3) Xi)) Xi) Xi))
      Xe))
    (Xc (Xu (XC YE (XC YV (pv 2) (XC Z0 Xi (pv 1))) Xi))
    Xe)))), ?_⟩
  refine Yv (S:=(SC.add (SC.add SC.nil K (rL Xb) v_0 a_0) K Xb v_1 a_1)) (σ:=[some v_0, some v_1, none, none]) 0 ?_ (SC.i (SC.i SC.t h_0) h_1) hm q rfl
  unfold JZ
  exact (Z1 (Xl (K:=K) (Qh (Xa (r:=Xb) 1 rfl (fun _ s=>(SC.r s))) (CP (Xa (r:=(rL Xb)) 0 rfl (fun _ s=>(SC.r (SC.l s))))))) (Xw (EvS.ev (EvB.sh (Ep (Xa (r:=(rL Xb)) 0 rfl (fun _ s=>(SC.r (SC.l s)))) (Xa (r:=Xb) 1 rfl (fun _ s=>(SC.r s))))))) (XY (K:=K) (r:=Xb) 2 (EvB.sh (Xg 5)) fun a7 v8=>(Y5 (K:=K) (J:=({ oo:=fun x13=>[], ss:=fun x13=>[some v_0, some v_1, some x13.2, x13.1], sc:=fun g14 x13=>(SC.add (SC.add (SC.add SC.nil K (rL Xb) v_0 a_0) K Xb v_1 a_1) K Xb x13.2 g14) } : Jn (Int) (Option V × V))) (fun _=>tg1 3) ((none), v8) (a7) (XU (Ev.sh (Fm (Xa (r:=(rL Xb)) 0 rfl (fun _ s=>(SC.r (SC.l (SC.l s))))) V6 (Uc (K:=K) (Xg 63))))) rfl rfl (fun _ s=>(SC.i (SC.i (SC.i SC.t (SC.r (SC.l (SC.l s)))) (SC.r (SC.l s))) (SC.r s))) (fun g15 x16 a17 v18=>(XY (K:=K) (r:=Xb) 2 (EvB.sh (Yb (Yl (Yl (Za (Xa (r:=Xb) 2 rfl (fun _ s=>(SC.r (SC.l s)))) (Xg 48271)) (Yb (Xa (r:=Xb) 3 rfl (fun _ s=>(SC.r s))) (Xg 1000003))) (Xg 1)) (Xg 2147483647))) fun a19 v20=>(Xs (J:=_) ((some v18), v20) (a19) rfl rfl (fun _ s=>(SC.i (SC.i (SC.i SC.t (SC.r (SC.l (SC.l (SC.l (SC.l s)))))) (SC.r (SC.l (SC.l (SC.l s))))) (SC.r s)))))) fun g31 x32=>(Xw (EvS.ev (EvB.sh (Yb (Yl (Xa (r:=Xb) 2 rfl (fun _ s=>(SC.r s))) (Za (Xg 7919) (Xa (r:=Xb) 1 rfl (fun _ s=>(SC.r (SC.l s)))))) (Xg 1000003))))))))
theorem Fo : FnScope ["_law_cell_here", "_law_k", "_law_one", "_law_two"] ["_law_cell_here", "_law_k"] (Xh Ex):=⟨rfl, rfl, rfl, by decide +kernel, rfl, by decide +kernel, by decide +kernel⟩
set_option maxHeartbeats 4000000 in
theorem HR (D : Def K mg "_law_mix" Ex ["_law_cell_here", "_law_k"])  (Z : Blt mg) : Fn P w K mg base 1 "_law_mix" ["_law_cell_here", "_law_k"] (sp2 Xb Xb (oF Xb) Kw K):=by
  refine Ym D Fo (fun vs H Q E h=>?_) (fun f cdv A outer s H vs Q E hr h=>?_)
  . obtain ⟨v_0, v_1, a_0, a_1, b, rfl, _⟩:=h; rfl
  obtain ⟨v_0, v_1, a_0, a_1, b, rfl, h_0, h_1, hm, q⟩:=h
  have hu:=hu8 hr
  have hu1:=Yi hr
  refine ⟨_, (Xc (XA (i:=2) Fo.nd rfl (Or.inl rfl) (XC YE (XC BH (XC YV (XC YV (XC YE (pv 0) Xi) (XC Z0 Xi (pv 1))) Xi) Xi) Xi))
    (Xc (XA (i:=3) Fo.nd rfl (Or.inl rfl) (XC YE (XC YV (XC YV (XC Z0 (pv 2) Xi) (XC Z0 (XC Z0 Xi (pv 1)) (pv 1))) Xi) Xi))
    (Xc (Xu (XC V0 (pv 3) Xi))
    Xe))), ?_⟩
  refine Yv (S:=(SC.add (SC.add SC.nil K Xb v_0 a_0) K Xb v_1 a_1)) (σ:=[some v_0, some v_1, none, none]) 0 ?_ (SC.i (SC.i SC.t h_0) h_1) hm q rfl
  unfold Kw
  exact (XY (K:=K) (r:=Xb) 2 (EvB.sh (Yb (Fk (Yl (Yl (Yb (Xa (r:=Xb) 0 rfl (fun _ s=>(SC.r (SC.l s)))) (Xg 2147483629)) (Za (Xg 1013) (Xa (r:=Xb) 1 rfl (fun _ s=>(SC.r s))))) (Xg 7919)) (Xg 3)) (Xg 2147483647))) fun a1 v2=>(XY (K:=K) (r:=Xb) 3 (EvB.sh (Yb (Yl (Yl (Za (Xa (r:=Xb) 2 rfl (fun _ s=>(SC.r s))) (Xg 40699)) (Za (Za (Xg 3793) (Xa (r:=Xb) 1 rfl (fun _ s=>(SC.r (SC.l s))))) (Xa (r:=Xb) 1 rfl (fun _ s=>(SC.r (SC.l s)))))) (Xg 11)) (Xg 2147483399))) fun a15 v16=>(Xw (EvS.ev (EvB.sh (KG (Xa (r:=Xb) 3 rfl (fun _ s=>(SC.r s))) (Xg 101)))))))
theorem Vn : FnScope ["_law_script", "_law_place", "_law_sizes", "_law_cell_here", "_law_left", "_law_some", "_law_k", "_law_other"] ["_law_script", "_law_place", "_law_sizes"] (Xh EW):=⟨rfl, rfl, rfl, by decide +kernel, rfl, by decide +kernel, by decide +kernel⟩
set_option maxHeartbeats 4000000 in
theorem HF (D : Def K mg "_law_row" EW ["_law_script", "_law_place", "_law_sizes"]) (g_cell : Fn P w K mg base 1 "_law_cell" ["_law_script", "_law_place"] (sp2 (rL Xb) Xb (oF Xb) JZ K)) (g_mix : Fn P w K mg base 1 "_law_mix" ["_law_cell_here", "_law_k"] (sp2 Xb Xb (oF Xb) Kw K)) (Z : Blt mg) : Fn P w K mg base 2 "_law_row" ["_law_script", "_law_place", "_law_sizes"] (sp3 (rL Xb) Xb (rV Xb) (oL (oF Xb)) GR K):=by
  refine Ym D Vn (fun vs H Q E h=>?_) (fun f cdv A outer s H vs Q E hr h=>?_)
  . obtain ⟨v_0, v_1, v_2, a_0, a_1, a_2, b, rfl, _⟩:=h; rfl
  obtain ⟨v_0, v_1, v_2, a_0, a_1, a_2, b, rfl, h_0, h_1, h_2, hm, q⟩:=h
  have hu:=hu8 hr
  have hu1:=Yi hr
  refine ⟨_, (Xc (XA (i:=3) Vn.nd rfl (Or.inl rfl) (X4 g_cell hr (by decide) (Xd (pv 0) (Xd (pv 1) Xf))))
    (Xc (XA (i:=4) Vn.nd rfl (Or.inl rfl) (pv 3))
    (Xc (XA (i:=5) Vn.nd rfl (Or.inl rfl) (XW Xf))
    (Xc (XM PassesOwn.never rfl (Xy rfl Z.b_range (Xd (Xq (Xj K rfl) rfl Z.b_len PySem.boot_len (Xd (pv 2) Xf)) Xf)) (Xn (i:=6) Vn.nd rfl (Or.inl rfl))
      (Xc (X6 (Xo Ve (pv 3) (XC BH Xi Xi) (Xv _))
        (Xc (Yg (Z6 PySem.F.plainAttrs_list PySem.F.slot_list_append PySem.F.type_list_append X8 (pv 5) (Xd (XC YE (X4 g_mix hr (by decide) (Xd (pv 3) (Xd (pv 6) Xf))) (XH (Xm K rfl) (pv 2) (pv 6) (fun _ _=>rfl))) Xf)))
        Xe)
        (Xc (X6 (Xo Vg (pv 4) Xi (Xv _))
          (Xc (Yg (Z6 PySem.F.plainAttrs_list PySem.F.slot_list_append PySem.F.type_list_append X8 (pv 5) (Xd (XC YE (pv 4) (XH (Xm K rfl) (pv 2) (pv 6) (fun _ _=>rfl))) Xf)))
          (Xc (XA (i:=4) Vn.nd rfl (Or.inl rfl) (XC V0 (pv 4) (XH (Xm K rfl) (pv 2) (pv 6) (fun _ _=>rfl))))
          Xe))
          (Xc (XA (i:=7) Vn.nd rfl (Or.inl rfl) (X4 g_cell hr (by decide) (Xd (pv 0) (Xd (XC YE (XC YV (XC YV (pv 1) Xi) (pv 6)) Xi) Xf))))
          (Xc (Yg (Z6 PySem.F.plainAttrs_list PySem.F.slot_list_append PySem.F.type_list_append X8 (pv 5) (Xd (XC YE (X4 g_mix hr (by decide) (Xd (pv 7) (Xd (pv 6) Xf))) (XH (Xm K rfl) (pv 2) (pv 6) (fun _ _=>rfl))) Xf)))
          Xe)))
        Xe))
      Xe))
    (Xc (Xu (pv 5))
    Xe))))), ?_⟩
  refine Yv (S:=(SC.add (SC.add (SC.add SC.nil K (rL Xb) v_0 a_0) K Xb v_1 a_1) K (rV Xb) v_2 a_2)) (σ:=[some v_0, some v_1, some v_2, none, none, none, none, none]) 1 ?_ (SC.i (SC.i (SC.i SC.t h_0) h_1) h_2) hm q rfl
  unfold GR
  exact (XY (K:=K) (r:=Xb) 3 (EvB.sh (Ev.toB (XT (Xa (r:=(rL Xb)) 0 rfl (fun _ s=>(SC.r (SC.l (SC.l s))))) (Xa (r:=Xb) 1 rfl (fun _ s=>(SC.r (SC.l s))))))) fun a1 v2=>(XY (K:=K) (r:=Xb) 4 (Xt (r:=Xb) 3 rfl (fun _ s=>(SC.r s))) fun a6 v7=>(XZ (K:=K) (o:=(oL (oF Xb))) 5 0 (Z5 (o:=(oF Xb))) (Nat.le_of_ble_eq_true rfl) fun a8 v9 C10=>(Y5 (K:=K) (J:=({ oo:=fun x13=>[x13.2.2.2.2], ss:=fun x13=>[some v_0, some v_1, some v_2, some v2, some x13.2.2.1, some x13.2.1, x13.1, x13.2.2.2.1], sc:=fun g14 x13=>(SC.add (SC.addO (SC.add (SC.add (SC.add (SC.add SC.nil K (rL Xb) v_0 a_0) K Xb v_1 a_1) K (rV Xb) v_2 a_2) K Xb v2 a1) K (oL (oF Xb)) x13.2.1 g14.1 x13.2.2.2.2) K Xb x13.2.2.1 g14.2) } : Jn ((List Int) × Int) (Option V × V × V × Option V × List Xz))) (fun _=>tg1 6) ((none), v9, v7, (none), C10) (a8, a6) (Xp (XS (Xa (r:=(rV Xb)) 2 rfl (fun _ s=>(SC.r (SC.l (SC.l (SC.l s)))))))) rfl rfl (fun _ s=>(SC.i (SC.i (SC.i (SC.i (SC.i (SC.i SC.t (SC.r (SC.l (SC.l (SC.l (SC.l (SC.l s))))))) (SC.r (SC.l (SC.l (SC.l (SC.l s)))))) (SC.r (SC.l (SC.l (SC.l s))))) (SC.r (SC.l (SC.l s)))) (SC.r s)) (SC.r (SC.l s)))) (fun g15 x16 a17 v18=>(Zs (J:=({ oo:=fun x24=>[x24.2.2.2], ss:=fun x24=>[some v_0, some v_1, some v_2, some v2, some x24.2.1, some x24.1, some v18, x24.2.2.1], sc:=fun g25 x24=>(SC.add (SC.addO (SC.add (SC.add (SC.add (SC.add (SC.add SC.nil K (rL Xb) v_0 a_0) K Xb v_1 a_1) K (rV Xb) v_2 a_2) K Xb v2 a1) K Xb v18 a17) K (oL (oF Xb)) x24.1 g25.1 x24.2.2.2) K Xb x24.2.1 g25.2) } : Jn ((List Int) × Int) (V × V × Option V × List Xz))) (ZQ (Fd:=FNd ({ oo:=fun x24=>[x24.2.2.2], ss:=fun x24=>[some v_0, some v_1, some v_2, some v2, some x24.2.1, some x24.1, some v18, x24.2.2.1], sc:=fun g25 x24=>(SC.add (SC.addO (SC.add (SC.add (SC.add (SC.add (SC.add SC.nil K (rL Xb) v_0 a_0) K Xb v_1 a_1) K (rV Xb) v_2 a_2) K Xb v2 a1) K Xb v18 a17) K (oL (oF Xb)) x24.1 g25.1 x24.2.2.2) K Xb x24.2.1 g25.2) } : Jn ((List Int) × Int) (V × V × Option V × List Xz))) (Xl (K:=K) (Qh (Xa (r:=Xb) 3 rfl (fun _ s=>(SC.r (SC.l (SC.l (SC.l s)))))) (Fk (Xg 10) (Xg 18)))) (Qd (K:=K) (o:=(oF Xb)) (f:=fun a35=>(Res.ok (a35, g15.2))) 5 0 rfl rfl rfl (fun _ s=>(SC.r (SC.l (SC.l s)))) (EvS.ev (EvB.sh (Yb (Ev.toB (XT (Xa (r:=Xb) 3 rfl (fun _ s=>(SC.r (SC.l (SC.l (SC.l s)))))) (Xa (r:=Xb) 6 rfl (fun _ s=>(SC.r s))))) (Xx (Xa (r:=(rV Xb)) 2 rfl (fun _ s=>(SC.r (SC.l (SC.l (SC.l (SC.l s))))))) (Xa (r:=Xb) 6 rfl (fun _ s=>(SC.r s))))))) fun a33 C34=>(Xs (J:=_) (x16.2.1, x16.2.2.1, (x16.2.2.2.1), C34) ((g15.1 ++ [a33]), g15.2) rfl rfl (fun _ s=>(SC.i (SC.i (SC.i (SC.i (SC.i (SC.i (SC.i SC.t (SC.r (SC.l (SC.l (SC.l (SC.l (SC.l (SC.l (SC.l s))))))))) (SC.r (SC.l (SC.l (SC.l (SC.l (SC.l (SC.l s)))))))) (SC.r (SC.l (SC.l (SC.l (SC.l (SC.l s))))))) (SC.r (SC.l (SC.l (SC.l (SC.l s)))))) (SC.r (SC.l s))) (SC.r s)) (SC.r (SC.l (SC.l s))))))) (Zs (J:=({ oo:=fun x39=>[x39.2.2.2], ss:=fun x39=>[some v_0, some v_1, some v_2, some v2, some x39.1, some x39.2.2.1, some v18, x39.2.1], sc:=fun g40 x39=>(SC.addO (SC.add (SC.add (SC.add (SC.add (SC.add (SC.add SC.nil K (rL Xb) v_0 a_0) K Xb v_1 a_1) K (rV Xb) v_2 a_2) K Xb v2 a1) K Xb v18 a17) K Xb x39.1 g40.1) K (oL (oF Xb)) x39.2.2.1 g40.2 x39.2.2.2) } : Jn (Int × (List Int)) (V × Option V × V × List Xz))) (ZQ (Fd:=FNd ({ oo:=fun x39=>[x39.2.2.2], ss:=fun x39=>[some v_0, some v_1, some v_2, some v2, some x39.1, some x39.2.2.1, some v18, x39.2.1], sc:=fun g40 x39=>(SC.addO (SC.add (SC.add (SC.add (SC.add (SC.add (SC.add SC.nil K (rL Xb) v_0 a_0) K Xb v_1 a_1) K (rV Xb) v_2 a_2) K Xb v2 a1) K Xb v18 a17) K Xb x39.1 g40.1) K (oL (oF Xb)) x39.2.2.1 g40.2 x39.2.2.2) } : Jn (Int × (List Int)) (V × Option V × V × List Xz))) (Xl (K:=K) (Qo (Xa (r:=Xb) 4 rfl (fun _ s=>(SC.r (SC.l s)))) (Xg 0))) (Qd (K:=K) (o:=(oF Xb)) (f:=fun a47=>(Res.bind (Res.bind (Res.ok g15.2) fun x52=>(Res.bind (Res.bind (Res.ok a_2) fun x50=>(Res.bind (Res.ok a17) fun x51=>(atR x50 x51))) fun x53=>(Hd x52 x53))) fun a48=>(Res.ok (a48, a47)))) 5 0 rfl rfl rfl (fun _ s=>(SC.r (SC.l (SC.l s)))) (EvS.ev (EvB.sh (Yb (Xa (r:=Xb) 4 rfl (fun _ s=>(SC.r (SC.l s)))) (Xx (Xa (r:=(rV Xb)) 2 rfl (fun _ s=>(SC.r (SC.l (SC.l (SC.l (SC.l s))))))) (Xa (r:=Xb) 6 rfl (fun _ s=>(SC.r s))))))) fun a45 C46=>(XY (K:=K) (r:=Xb) 4 (EvB.sh (KG (Xa (r:=Xb) 4 rfl (fun _ s=>(SC.r (SC.l (SC.l s))))) (Xx (Xa (r:=(rV Xb)) 2 rfl (fun _ s=>(SC.r (SC.l (SC.l (SC.l (SC.l (SC.l s)))))))) (Xa (r:=Xb) 6 rfl (fun _ s=>(SC.r (SC.l s))))))) fun a48 v49=>(Xs (J:=_) (v49, (x16.2.2.2.1), x16.2.1, C46) (a48, (g15.1 ++ [a45])) rfl rfl (fun _ s=>(SC.i (SC.i (SC.i (SC.i (SC.i (SC.i (SC.i SC.t (SC.r (SC.l (SC.l (SC.l (SC.l (SC.l (SC.l (SC.l (SC.l s)))))))))) (SC.r (SC.l (SC.l (SC.l (SC.l (SC.l (SC.l (SC.l s))))))))) (SC.r (SC.l (SC.l (SC.l (SC.l (SC.l (SC.l s)))))))) (SC.r (SC.l (SC.l (SC.l (SC.l (SC.l s))))))) (SC.r (SC.l (SC.l s)))) (SC.r s)) (SC.r (SC.l s))))))) (XY (K:=K) (r:=Xb) 7 (EvB.sh (Ev.toB (XT (Xa (r:=(rL Xb)) 0 rfl (fun _ s=>(SC.r (SC.l (SC.l (SC.l (SC.l (SC.l (SC.l s))))))))) (Yb (Yl (Yl (Xa (r:=Xb) 1 rfl (fun _ s=>(SC.r (SC.l (SC.l (SC.l (SC.l (SC.l s)))))))) (Xg 1)) (Xa (r:=Xb) 6 rfl (fun _ s=>(SC.r s)))) (Xg 63))))) fun a54 v55=>(Qd (K:=K) (o:=(oF Xb)) (f:=fun a74=>(Res.ok (g15.2, a74))) 5 0 rfl rfl rfl (fun _ s=>(SC.r (SC.l (SC.l (SC.l s))))) (EvS.ev (EvB.sh (Yb (Ev.toB (XT (Xa (r:=Xb) 7 rfl (fun _ s=>(SC.r s))) (Xa (r:=Xb) 6 rfl (fun _ s=>(SC.r (SC.l s)))))) (Xx (Xa (r:=(rV Xb)) 2 rfl (fun _ s=>(SC.r (SC.l (SC.l (SC.l (SC.l (SC.l s)))))))) (Xa (r:=Xb) 6 rfl (fun _ s=>(SC.r (SC.l s)))))))) fun a72 C73=>(Xs (J:=_) (x16.2.2.1, (some v55), x16.2.1, C73) (g15.2, (g15.1 ++ [a72])) rfl rfl (fun _ s=>(SC.i (SC.i (SC.i (SC.i (SC.i (SC.i (SC.i SC.t (SC.r (SC.l (SC.l (SC.l (SC.l (SC.l (SC.l (SC.l (SC.l s)))))))))) (SC.r (SC.l (SC.l (SC.l (SC.l (SC.l (SC.l (SC.l s))))))))) (SC.r (SC.l (SC.l (SC.l (SC.l (SC.l (SC.l s)))))))) (SC.r (SC.l (SC.l (SC.l (SC.l (SC.l s))))))) (SC.r (SC.l (SC.l s)))) (SC.r (SC.l (SC.l (SC.l s))))) (SC.r s))))))) fun g76 x75=>(Xs (J:=_) (x75.2.2.1, x75.1, (x75.2.1), x75.2.2.2) (g76.2, g76.1) rfl rfl (fun _ s=>(SC.i (SC.i (SC.i (SC.i (SC.i (SC.i (SC.i SC.t (SC.r (SC.l (SC.l (SC.l (SC.l (SC.l (SC.l s)))))))) (SC.r (SC.l (SC.l (SC.l (SC.l (SC.l s))))))) (SC.r (SC.l (SC.l (SC.l (SC.l s)))))) (SC.r (SC.l (SC.l (SC.l s))))) (SC.r (SC.l (SC.l s)))) (SC.r s)) (SC.r (SC.l s))))))) fun g78 x77=>(Xs (J:=_) ((some v18), x77.1, x77.2.1, (x77.2.2.1), x77.2.2.2) (g78.1, g78.2) rfl rfl (fun _ s=>(SC.i (SC.i (SC.i (SC.i (SC.i (SC.i SC.t (SC.r (SC.l (SC.l (SC.l (SC.l (SC.l (SC.l s)))))))) (SC.r (SC.l (SC.l (SC.l (SC.l (SC.l s))))))) (SC.r (SC.l (SC.l (SC.l (SC.l s)))))) (SC.r (SC.l (SC.l (SC.l s))))) (SC.r (SC.l s))) (SC.r s)))))) fun g79 x80=>(Xw (Ye (o:=(oL (oF Xb))) 5 0 rfl rfl (fun _ s=>(SC.r (SC.l s)))))))))
theorem VP : FnScope ["_law_way", "_law_size", "_law_factor", "_law_a", "_law_b", "_law_half"] ["_law_way", "_law_size", "_law_factor", "_law_a", "_law_b"] (Xh Vq):=⟨rfl, rfl, rfl, by decide +kernel, rfl, by decide +kernel, by decide +kernel⟩
set_option maxHeartbeats 4000000 in
theorem GN (D : Def K mg "_law_cell_of" Vq ["_law_way", "_law_size", "_law_factor", "_law_a", "_law_b"])  (Z : Blt mg) : Fn P w K mg base 1 "_law_cell_of" ["_law_way", "_law_size", "_law_factor", "_law_a", "_law_b"] (sp5 Xb Xb Xb Xb Xb (oF Xb) Zj K):=by
  refine Ym D VP (fun vs H Q E h=>?_) (fun f cdv A outer s H vs Q E hr h=>?_)
  . obtain ⟨v_0, v_1, v_2, v_3, v_4, a_0, a_1, a_2, a_3, a_4, b, rfl, _⟩:=h; rfl
  obtain ⟨v_0, v_1, v_2, v_3, v_4, a_0, a_1, a_2, a_3, a_4, b, rfl, h_0, h_1, h_2, h_3, h_4, hm, q⟩:=h
  have hu:=hu8 hr
  have hu1:=Yi hr
  refine ⟨_, (Xc (XA (i:=5) VP.nd rfl (Or.inl rfl) (XC V0 (pv 1) Xi))
    (Xc (X6 (Xo Qf (pv 0) Xi (Xv _))
      (Xc (Xu (XC YE (XC Y4 (XC Z0 Xi (pv 4)) (pv 3)) (pv 1)))
      Xe)
      Xe)
    (Xc (X6 (Xo Qf (pv 0) Xi (Xv _))
      (Xc (Xu (XC YE (XC YV (XC Z0 (pv 2) (pv 3)) (XC Z0 (XC Y4 Xi (pv 2)) (pv 4))) (pv 1)))
      Xe)
      Xe)
    (Xc (X6 (PW.pt (Y3 (Xo Qf (pv 0) Xi (Xv _)) (Y3 (Xo Vg (pv 1) Xi (Xv _)) (Y3 (Xo Ve (pv 3) Xi (Xv _)) (ZI (Xo Qf (pv 4) (XC Y4 (pv 1) Xi) (Xv _)))))))
      (Xc (Xu (XC Y4 Xi (pv 3)))
      Xe)
      Xe)
    (Xc (X6 (PW.pt (Y3 (Xo Qf (pv 0) Xi (Xv _)) (Y3 (Xo Ve (pv 3) (XC Y4 (pv 1) Xi) (Xv _)) (ZI (Xo Qf (pv 4) (XC Y4 (pv 1) Xi) (Xv _))))))
      (Xc (Xu (XC YE (XC YV (pv 3) Xi) (XC Y4 (pv 1) Xi)))
      Xe)
      Xe)
    (Xc (X6 (PW.pt (Y3 (Xo Qf (pv 0) Xi (Xv _)) (Y3 (Xo Ve (pv 3) (pv 5) (Xv _)) (ZI (Xo Ve (pv 4) (pv 5) (Xv _))))))
      (Xc (Xu (XC YE (XC Y4 (XC Z0 Xi (pv 4)) (pv 3)) (pv 5)))
      Xe)
      Xe)
    (Xc (X6 (PW.pt (Y3 (Xo Qf (pv 0) Xi (Xv _)) (Y3 (Xo Ee (pv 3) (pv 5) (Xv _)) (ZI (Xo Ee (pv 4) (pv 5) (Xv _))))))
      (Xc (Xu (XC YV (pv 5) (XC YE (XC Y4 (XC Y4 (XC Z0 Xi (pv 4)) (pv 3)) (pv 5)) (XC Y4 (pv 1) (pv 5)))))
      Xe)
      Xe)
    (Xc (Xu (pv 3))
    Xe)))))))), ?_⟩
  refine Yv (S:=(SC.add (SC.add (SC.add (SC.add (SC.add SC.nil K Xb v_0 a_0) K Xb v_1 a_1) K Xb v_2 a_2) K Xb v_3 a_3) K Xb v_4 a_4)) (σ:=[some v_0, some v_1, some v_2, some v_3, some v_4, none]) 0 ?_ (SC.i (SC.i (SC.i (SC.i (SC.i SC.t h_0) h_1) h_2) h_3) h_4) hm q rfl
  unfold Zj
  exact (XY (K:=K) (r:=Xb) 5 (EvB.sh (KG (Xa (r:=Xb) 1 rfl (fun _ s=>(SC.r (SC.l (SC.l (SC.l s)))))) (Xg 2))) fun a1 v2=>(Z1 (Xl (K:=K) (Y2 (Xa (r:=Xb) 0 rfl (fun _ s=>(SC.r (SC.l (SC.l (SC.l (SC.l (SC.l s)))))))) (Xg 1))) (Xw (EvS.ev (EvB.sh (Yb (Yr (Za (Xg 2) (Xa (r:=Xb) 4 rfl (fun _ s=>(SC.r (SC.l s))))) (Xa (r:=Xb) 3 rfl (fun _ s=>(SC.r (SC.l (SC.l s)))))) (Xa (r:=Xb) 1 rfl (fun _ s=>(SC.r (SC.l (SC.l (SC.l (SC.l s))))))))))) (Z1 (Xl (K:=K) (Y2 (Xa (r:=Xb) 0 rfl (fun _ s=>(SC.r (SC.l (SC.l (SC.l (SC.l (SC.l s)))))))) (Xg 2))) (Xw (EvS.ev (EvB.sh (Yb (Yl (Za (Xa (r:=Xb) 2 rfl (fun _ s=>(SC.r (SC.l (SC.l (SC.l s)))))) (Xa (r:=Xb) 3 rfl (fun _ s=>(SC.r (SC.l (SC.l s)))))) (Za (Yr (Xg 1) (Xa (r:=Xb) 2 rfl (fun _ s=>(SC.r (SC.l (SC.l (SC.l s))))))) (Xa (r:=Xb) 4 rfl (fun _ s=>(SC.r (SC.l s)))))) (Xa (r:=Xb) 1 rfl (fun _ s=>(SC.r (SC.l (SC.l (SC.l (SC.l s))))))))))) (Z1 (Yo (Xl (K:=K) (Y2 (Xa (r:=Xb) 0 rfl (fun _ s=>(SC.r (SC.l (SC.l (SC.l (SC.l (SC.l s)))))))) (Xg 3))) (Yo (Xl (K:=K) (Qo (Xa (r:=Xb) 1 rfl (fun _ s=>(SC.r (SC.l (SC.l (SC.l (SC.l s))))))) (Xg 2))) (Yo (Xl (K:=K) (Qh (Xa (r:=Xb) 3 rfl (fun _ s=>(SC.r (SC.l (SC.l s))))) (Xg 2))) (Xl (K:=K) (Y2 (Xa (r:=Xb) 4 rfl (fun _ s=>(SC.r (SC.l s)))) (Yr (Xa (r:=Xb) 1 rfl (fun _ s=>(SC.r (SC.l (SC.l (SC.l (SC.l s))))))) (Xg 1))))))) (Xw (EvS.ev (EvB.sh (Yr (Xg 1) (Xa (r:=Xb) 3 rfl (fun _ s=>(SC.r (SC.l (SC.l s))))))))) (Z1 (Yo (Xl (K:=K) (Y2 (Xa (r:=Xb) 0 rfl (fun _ s=>(SC.r (SC.l (SC.l (SC.l (SC.l (SC.l s)))))))) (Xg 6))) (Yo (Xl (K:=K) (Qh (Xa (r:=Xb) 3 rfl (fun _ s=>(SC.r (SC.l (SC.l s))))) (Yr (Xa (r:=Xb) 1 rfl (fun _ s=>(SC.r (SC.l (SC.l (SC.l (SC.l s))))))) (Xg 1)))) (Xl (K:=K) (Y2 (Xa (r:=Xb) 4 rfl (fun _ s=>(SC.r (SC.l s)))) (Yr (Xa (r:=Xb) 1 rfl (fun _ s=>(SC.r (SC.l (SC.l (SC.l (SC.l s))))))) (Xg 1)))))) (Xw (EvS.ev (EvB.sh (Yb (Yl (Xa (r:=Xb) 3 rfl (fun _ s=>(SC.r (SC.l (SC.l s))))) (Xg 1)) (Yr (Xa (r:=Xb) 1 rfl (fun _ s=>(SC.r (SC.l (SC.l (SC.l (SC.l s))))))) (Xg 1)))))) (Z1 (Yo (Xl (K:=K) (Y2 (Xa (r:=Xb) 0 rfl (fun _ s=>(SC.r (SC.l (SC.l (SC.l (SC.l (SC.l s)))))))) (Xg 4))) (Yo (Xl (K:=K) (Qh (Xa (r:=Xb) 3 rfl (fun _ s=>(SC.r (SC.l (SC.l s))))) (Xa (r:=Xb) 5 rfl (fun _ s=>(SC.r s))))) (Xl (K:=K) (Qh (Xa (r:=Xb) 4 rfl (fun _ s=>(SC.r (SC.l s)))) (Xa (r:=Xb) 5 rfl (fun _ s=>(SC.r s))))))) (Xw (EvS.ev (EvB.sh (Yb (Yr (Za (Xg 2) (Xa (r:=Xb) 4 rfl (fun _ s=>(SC.r (SC.l s))))) (Xa (r:=Xb) 3 rfl (fun _ s=>(SC.r (SC.l (SC.l s)))))) (Xa (r:=Xb) 5 rfl (fun _ s=>(SC.r s))))))) (Z1 (Yo (Xl (K:=K) (Y2 (Xa (r:=Xb) 0 rfl (fun _ s=>(SC.r (SC.l (SC.l (SC.l (SC.l (SC.l s)))))))) (Xg 4))) (Yo (Xl (K:=K) (DO (Xa (r:=Xb) 3 rfl (fun _ s=>(SC.r (SC.l (SC.l s))))) (Xa (r:=Xb) 5 rfl (fun _ s=>(SC.r s))))) (Xl (K:=K) (DO (Xa (r:=Xb) 4 rfl (fun _ s=>(SC.r (SC.l s)))) (Xa (r:=Xb) 5 rfl (fun _ s=>(SC.r s))))))) (Xw (EvS.ev (EvB.sh (Yl (Xa (r:=Xb) 5 rfl (fun _ s=>(SC.r s))) (Yb (Yr (Yr (Za (Xg 2) (Xa (r:=Xb) 4 rfl (fun _ s=>(SC.r (SC.l s))))) (Xa (r:=Xb) 3 rfl (fun _ s=>(SC.r (SC.l (SC.l s)))))) (Xa (r:=Xb) 5 rfl (fun _ s=>(SC.r s)))) (Yr (Xa (r:=Xb) 1 rfl (fun _ s=>(SC.r (SC.l (SC.l (SC.l (SC.l s))))))) (Xa (r:=Xb) 5 rfl (fun _ s=>(SC.r s))))))))) (Xw (EvS.ev (Xt (r:=Xb) 3 rfl (fun _ s=>(SC.r (SC.l (SC.l s))))))))))))))
theorem Vr : FnScope ["_law_one", "_law_other"] ["_law_one", "_law_other"] (Xh Us):=⟨rfl, rfl, rfl, by decide +kernel, rfl, by decide +kernel, by decide +kernel⟩
set_option maxHeartbeats 4000000 in
theorem Fz (D : Def K mg "_law_common" Us ["_law_one", "_law_other"])  (Z : Blt mg) : Fn P w K mg base 1 "_law_common" ["_law_one", "_law_other"] (sp2 Xb Xb (oF Xb) Qz K):=by
  refine Ym D Vr (fun vs H Q E h=>?_) (fun f cdv A outer s H vs Q E hr h=>?_)
  . obtain ⟨v_0, v_1, a_0, a_1, b, rfl, _⟩:=h; rfl
  obtain ⟨v_0, v_1, a_0, a_1, b, rfl, h_0, h_1, hm, q⟩:=h
  have hu:=hu8 hr
  have hu1:=Yi hr
  refine ⟨_, (Xc (BO (i:=0) (j:=1) rfl Vr.nd rfl rfl (by decide) rfl rfl (Xd (Xq Gu rfl Z.b_abs PyProof.Rows.boot_abs (Xd (pv 0) Xf)) (Xd (Xq Gu rfl Z.b_abs PyProof.Rows.boot_abs (Xd (pv 1) Xf)) Xf)) rfl)
    (Xc (VZ PassesOwn.never (Xo Vg (pv 1) Xi (Xv _))
      (Xc (BO (i:=0) (j:=1) rfl Vr.nd rfl rfl (by decide) rfl rfl (Xd (pv 1) (Xd (XC YE (pv 0) (pv 1)) Xf)) rfl)
      Xe))
    (Xc (Xu (pv 0))
    Xe))), ?_⟩
  refine Yv (S:=(SC.add (SC.add SC.nil K Xb v_0 a_0) K Xb v_1 a_1)) (σ:=[some v_0, some v_1]) 0 ?_ (SC.i (SC.i SC.t h_0) h_1) hm q rfl
  unfold Qz
  exact (By (K:=K) 0 1 (EvB.sh (F0 (Xa (r:=Xb) 0 rfl (fun _ s=>(SC.r (SC.l s)))))) (EvB.sh (F0 (Xa (r:=Xb) 1 rfl (fun _ s=>(SC.r s))))) fun a3 a4 v5 v6=>(Ga (J:=({ oo:=fun x7=>[], ss:=fun x7=>[some x7.1, some x7.2], sc:=fun g8 x7=>(SC.add (SC.add SC.nil K Xb x7.1 g8.1) K Xb x7.2 g8.2) } : Jn (Int × Int) (V × V))) (a3.natAbs + a4.natAbs + 2) (v5, v6) (a3, a4) rfl rfl (fun _ s=>(SC.i (SC.i SC.t (SC.r (SC.l s))) (SC.r s))) (fun g9 x10=>(Xl (K:=K) (Qo (Xa (r:=Xb) 1 rfl (fun _ s=>(SC.r s))) (Xg 0)))) (fun g9 x10=>(By (K:=K) 0 1 (Xt (r:=Xb) 1 rfl (fun _ s=>(SC.r s))) (EvB.sh (Yb (Xa (r:=Xb) 0 rfl (fun _ s=>(SC.r (SC.l s)))) (Xa (r:=Xb) 1 rfl (fun _ s=>(SC.r s))))) fun a15 a16 v17 v18=>(Xs (J:=_) (v17, v18) (a15, a16) rfl rfl (fun _ s=>(SC.i (SC.i SC.t (SC.r (SC.l s))) (SC.r s)))))) fun g19 x20=>(Xw (EvS.ev (Xt (r:=Xb) 0 rfl (fun _ s=>(SC.r (SC.l s))))))))
theorem V3 : FnScope ["_law_way", "_law_size", "_law_factor", "_law_some", "_law_a"] ["_law_way", "_law_size", "_law_factor"] (Xh K0):=⟨rfl, rfl, rfl, by decide +kernel, rfl, by decide +kernel, by decide +kernel⟩
set_option maxHeartbeats 4000000 in
theorem ER (D : Def K mg "_law_made" K0 ["_law_way", "_law_size", "_law_factor"]) (g_common : Fn P w K mg base 1 "_law_common" ["_law_one", "_law_other"] (sp2 Xb Xb (oF Xb) Qz K)) (g_cell_of : Fn P w K mg base 1 "_law_cell_of" ["_law_way", "_law_size", "_law_factor", "_law_a", "_law_b"] (sp5 Xb Xb Xb Xb Xb (oF Xb) Zj K)) (Z : Blt mg) : Fn P w K mg base 2 "_law_made" ["_law_way", "_law_size", "_law_factor"] (sp3 Xb Xb Xb (oL (oL (oF Xb))) VN K):=by
  refine Ym D V3 (fun vs H Q E h=>?_) (fun f cdv A outer s H vs Q E hr h=>?_)
  . obtain ⟨v_0, v_1, v_2, a_0, a_1, a_2, b, rfl, _⟩:=h; rfl
  obtain ⟨v_0, v_1, v_2, a_0, a_1, a_2, b, rfl, h_0, h_1, h_2, hm, q⟩:=h
  have hu:=hu8 hr
  have hu1:=Yi hr
  refine ⟨_, (Xc (X6 (PW.pt (Y3 (Xo Qf (pv 0) Xi (Xv _)) (ZI (Xo Qf (pv 1) Xi (Xv _)))))
      (@Xc _ _ _ _ _ (@Xu _ _ _ _ (@Kb _))
      Xe)
      Xe)
    (Xc (VZ PassesOwn.never (Xo JY (X4 g_common hr (by decide) (Xd (pv 2) (Xd (pv 1) Xf))) Xi (Xv _))
      (Xc (XA (i:=2) V3.nd rfl (Or.inr rfl) (XC YV (pv 2) Xi))
      Xe))
    (Xc (XA (i:=3) V3.nd rfl (Or.inl rfl) (XW Xf))
    (Xc (XM PassesOwn.never rfl (Xy rfl Z.b_range (Xd (pv 1) Xf)) (Xn (i:=4) V3.nd rfl (Or.inr rfl))
      (Xc (Yg (Z6 PySem.F.plainAttrs_list PySem.F.slot_list_append PySem.F.type_list_append X8 (pv 3) (Xd (Y1 (sc:=(Xh K0)) (N0:=["_law_way", "_law_size", "_law_factor", "_law_some", "_law_a"]) (tns:=["_law_b"]) (caps:=[(0, "_law_way"), (1, "_law_size"), (2, "_law_factor"), (4, "_law_a")]) rfl (Xy rfl Z.b_range (Xd (pv 1) Xf)) (YD (by decide)) (fun cl C s H ex E=>⟨Xn (i:=0) (show List.Nodup (["_law_b", "_law_way", "_law_size", "_law_factor", "_law_a"] : List Str) by decide +kernel) rfl (Or.inl rfl), ZD, (X4 g_cell_of hr (by decide) (Xd (pv 1) (Xd (pv 2) (Xd (pv 3) (Xd (pv 4) (Xd (pv 0) Xf))))))⟩)) Xf)))
      Xe))
    (Xc (Xu (pv 3))
    Xe))))), ?_⟩
  refine Yv (S:=(SC.add (SC.add (SC.add SC.nil K Xb v_0 a_0) K Xb v_1 a_1) K Xb v_2 a_2)) (σ:=[some v_0, some v_1, some v_2, none, none]) 1 ?_ (SC.i (SC.i (SC.i SC.t h_0) h_1) h_2) hm q rfl
  unfold VN
  exact (Z1 (Yo (Xl (K:=K) (Y2 (Xa (r:=Xb) 0 rfl (fun _ s=>(SC.r (SC.l (SC.l s))))) (Xg 5))) (Xl (K:=K) (Y2 (Xa (r:=Xb) 1 rfl (fun _ s=>(SC.r (SC.l s)))) (Xg 4)))) (Xw (Jd (YU (QK (XI (EvB.sh (Xg 0)) (XI (EvB.sh (Xg 3)) (XI (EvB.sh (Xg 1)) (XI (EvB.sh (Xg 2)) Y6))))) fun _=>(YU (QK (XI (EvB.sh (Xg 2)) (XI (EvB.sh (Xg 1)) (XI (EvB.sh (Xg 3)) (XI (EvB.sh (Xg 0)) Y6))))) fun _=>(YU (QK (XI (EvB.sh (Xg 3)) (XI (EvB.sh (Xg 0)) (XI (EvB.sh (Xg 2)) (XI (EvB.sh (Xg 1)) Y6))))) fun _=>(YU (QK (XI (EvB.sh (Xg 1)) (XI (EvB.sh (Xg 2)) (XI (EvB.sh (Xg 0)) (XI (EvB.sh (Xg 3)) Y6))))) fun _=>QB)))))) (Ga (J:=({ oo:=fun x51=>[[]], ss:=fun x51=>[some v_0, some v_1, some x51, none, none], sc:=fun g52 x51=>(SC.add (SC.add (SC.add SC.nil K Xb v_0 a_0) K Xb v_1 a_1) K Xb x51 g52) } : Jn (Int) (V))) (a_1.natAbs + 2) (v_2) (a_2) rfl rfl (fun _ s=>(SC.i (SC.i (SC.i SC.t (SC.r (SC.l (SC.l s)))) (SC.r (SC.l s))) (SC.r s))) (fun g53 x54=>(Xl (K:=K) (Qq (Ev.toB (XT (Xa (r:=Xb) 2 rfl (fun _ s=>(SC.r s))) (Xa (r:=Xb) 1 rfl (fun _ s=>(SC.r (SC.l s)))))) (Xg 1)))) (fun g53 x54=>(XY (K:=K) (r:=Xb) 2 (EvB.sh (Yl (Xa (r:=Xb) 2 rfl (fun _ s=>(SC.r s))) (Xg 1))) fun a60 v61=>(Xs (J:=_) (v61) (a60) rfl rfl (fun _ s=>(SC.i (SC.i (SC.i SC.t (SC.r (SC.l (SC.l (SC.l s))))) (SC.r (SC.l (SC.l s)))) (SC.r s)))))) fun g64 x65=>(XZ (K:=K) (o:=(oL (oL (oF Xb)))) 3 0 (Z5 (o:=(oL (oF Xb)))) (Nat.le_of_ble_eq_true rfl) fun a66 v67 C68=>(Y5 (K:=K) (J:=({ oo:=fun x70=>[x70.2.2], ss:=fun x70=>[some v_0, some v_1, some x65, some x70.2.1, x70.1], sc:=fun g71 x70=>(SC.addO (SC.add (SC.add (SC.add SC.nil K Xb v_0 a_0) K Xb v_1 a_1) K Xb x65 g64) K (oL (oL (oF Xb))) x70.2.1 g71 x70.2.2) } : Jn ((List (List Int))) (Option V × V × List Xz))) (fun _=>tg1 4) ((none), v67, C68) (a66) (Xp (Xa (r:=Xb) 1 rfl (fun _ s=>(SC.r (SC.l (SC.l s)))))) rfl rfl (fun _ s=>(SC.i (SC.i (SC.i (SC.i SC.t (SC.r (SC.l (SC.l (SC.l s))))) (SC.r (SC.l (SC.l s)))) (SC.r (SC.l s))) (SC.r s))) (fun g72 x73 a74 v75=>(Qd (K:=K) (o:=(oL (oF Xb))) (f:=fun a89=>(Res.ok (a89))) 3 0 rfl rfl rfl (fun _ s=>(SC.r (SC.l s))) (ZJ (fun _=>tg1 0) (Xp (Xa (r:=Xb) 1 rfl (fun _ s=>(SC.r (SC.l (SC.l (SC.l s))))))) (fun C77 a78 v79=>(Gs (Xa (r:=Xb) 1 rfl (fun _ s=>(SC.r (SC.l (SC.l (SC.l (SC.l (SC.l s)))))))) (Xa (r:=Xb) 2 rfl (fun _ s=>(SC.r (SC.l (SC.l (SC.l (SC.l s))))))) (Xa (r:=Xb) 3 rfl (fun _ s=>(SC.r (SC.l (SC.l (SC.l s)))))) (Xa (r:=Xb) 4 rfl (fun _ s=>(SC.r (SC.l s)))) (Xa (r:=Xb) 0 rfl (fun _ s=>(SC.r s)))))) fun a87 C88=>(Xs (J:=_) ((some v75), x73.2.1, C88) ((g72 ++ [a87])) rfl rfl (fun _ s=>(SC.i (SC.i (SC.i (SC.i SC.t (SC.r (SC.l (SC.l (SC.l (SC.l (SC.l s))))))) (SC.r (SC.l (SC.l (SC.l (SC.l s)))))) (SC.r (SC.l (SC.l (SC.l s))))) (SC.r s)))))) fun g90 x91=>(Xw (Ye (o:=(oL (oL (oF Xb)))) 3 0 rfl rfl (fun _ s=>(SC.r s))))))))
theorem QD : FnScope ["_law_some", "_law_count", "_law_left", "_law_found", "_law_k"] ["_law_some", "_law_count"] (Xh Vv):=⟨rfl, rfl, rfl, by decide +kernel, rfl, by decide +kernel, by decide +kernel⟩
set_option maxHeartbeats 4000000 in
theorem GQ (D : Def K mg "_law_ordered" Vv ["_law_some", "_law_count"])  (Z : Blt mg) : Fn P w K mg base 1 "_law_ordered" ["_law_some", "_law_count"] (sp2 (rV Xb) Xb (oL (oF Xb)) ZK K):=by
  refine Ym D QD (fun vs H Q E h=>?_) (fun f cdv A outer s H vs Q E hr h=>?_)
  . obtain ⟨v_0, v_1, a_0, a_1, b, rfl, _⟩:=h; rfl
  obtain ⟨v_0, v_1, a_0, a_1, b, rfl, h_0, h_1, hm, q⟩:=h
  have hu:=hu8 hr
  have hu1:=Yi hr
  refine ⟨_, (Xc (XA (i:=2) QD.nd rfl (Or.inl rfl) (Jp rfl rfl rfl Z.b_list Z.b_range (Xd (pv 1) Xf)))
    (Xc (XA (i:=3) QD.nd rfl (Or.inl rfl) (XW Xf))
    (Xc (XM PassesOwn.never rfl (Xy rfl Z.b_range (Xd (pv 1) Xf)) (Xn (i:=4) QD.nd rfl (Or.inl rfl))
      (Xc (Yg (Z6 PySem.F.plainAttrs_list PySem.F.slot_list_append PySem.F.type_list_append X8 (pv 3) (Xd (Z6 PySem.F.plainAttrs_list PySem.F.slot_list_pop PySem.F.type_list_pop Bi (pv 2) (Xd (XC YE (XH (Xm K rfl) (pv 0) (pv 4) (fun _ _=>rfl)) (Xq (Xj K rfl) rfl Z.b_len PySem.boot_len (Xd (pv 2) Xf))) Xf)) Xf)))
      Xe))
    (Xc (Xu (pv 3))
    Xe)))), ?_⟩
  refine Yv (S:=(SC.add (SC.add SC.nil K (rV Xb) v_0 a_0) K Xb v_1 a_1)) (σ:=[some v_0, some v_1, none, none, none]) 2 ?_ (SC.i (SC.i SC.t h_0) h_1) hm q rfl
  unfold ZK
  exact (XZ (K:=K) (o:=(oL (oF Xb))) 2 1 (Js (Xa (r:=Xb) 1 rfl (fun _ s=>(SC.r s)))) (Nat.le_of_ble_eq_true rfl) fun a1 v2 C3=>(XZ (K:=K) (o:=(oL (oF Xb))) 3 0 (Z5 (o:=(oF Xb))) (Nat.le_of_ble_eq_true rfl) fun a5 v6 C7=>(Y5 (K:=K) (J:=({ oo:=fun x9=>[x9.2.2.2.1, x9.2.2.2.2], ss:=fun x9=>[some v_0, some v_1, some x9.2.2.1, some x9.2.1, x9.1], sc:=fun g10 x9=>(SC.addO (SC.addO (SC.add (SC.add SC.nil K (rV Xb) v_0 a_0) K Xb v_1 a_1) K (oL (oF Xb)) x9.2.1 g10.1 x9.2.2.2.1) K (oL (oF Xb)) x9.2.2.1 g10.2 x9.2.2.2.2) } : Jn ((List Int) × (List Int)) (Option V × V × V × List Xz × List Xz))) (fun _=>tg1 4) ((none), v6, v2, C7, C3) (a5, a1) (Xp (Xa (r:=Xb) 1 rfl (fun _ s=>(SC.r (SC.l (SC.l s)))))) rfl rfl (fun _ s=>(SC.i (SC.i (SC.i (SC.i SC.t (SC.r (SC.l (SC.l (SC.l s))))) (SC.r (SC.l (SC.l s)))) (SC.r s)) (SC.r (SC.l s)))) (fun g11 x12 a13 v14=>(Co (K:=K) (r:=Xb) (f:=fun a21 a22=>(Res.ok (a22, a21))) 2 1 3 0 (by decide) rfl rfl (fun _ s=>(SC.r (SC.l s))) rfl rfl (fun _ s=>(SC.r (SC.l (SC.l s)))) (Yb (Xx (Xa (r:=(rV Xb)) 0 rfl (fun _ s=>(SC.r (SC.l (SC.l (SC.l (SC.l s))))))) (Xa (r:=Xb) 4 rfl (fun _ s=>(SC.r s)))) (XS (QS (o:=(oL (oF Xb))) 2 1 rfl rfl (fun _ s=>(SC.r (SC.l s)))))) fun a20 a21 C23 C24=>(Xs (J:=_) ((some v14), x12.2.1, x12.2.2.1, C24, C23) ((g11.1 ++ [a20]), a21) rfl rfl (fun _ s=>(SC.i (SC.i (SC.i (SC.i SC.t (SC.r (SC.l (SC.l (SC.l (SC.l (SC.l (SC.l s)))))))) (SC.r (SC.l (SC.l (SC.l (SC.l (SC.l s))))))) (SC.r s)) (SC.r (SC.l s))))))) fun g27 x28=>(Xw (Ye (o:=(oL (oF Xb))) 3 0 rfl rfl (fun _ s=>(SC.r (SC.l s))))))))
theorem QU : FnScope ["_law_some", "_law_spots", "_law_found", "_law_a", "_law_b"] ["_law_some", "_law_spots"] (Xh JM):=⟨rfl, rfl, rfl, by decide +kernel, rfl, by decide +kernel, by decide +kernel⟩
set_option maxHeartbeats 4000000 in
theorem Fv (D : Def K mg "_law_relaid" JM ["_law_some", "_law_spots"])  (Z : Blt mg) : Fn P w K mg base 1 "_law_relaid" ["_law_some", "_law_spots"] (sp2 (rV (rV Xb)) (rV Xb) (oL (oL (oF Xb))) Zg K):=by
  refine Ym D QU (fun vs H Q E h=>?_) (fun f cdv A outer s H vs Q E hr h=>?_)
  . obtain ⟨v_0, v_1, a_0, a_1, b, rfl, _⟩:=h; rfl
  obtain ⟨v_0, v_1, a_0, a_1, b, rfl, h_0, h_1, hm, q⟩:=h
  have hu:=hu8 hr
  have hu1:=Yi hr
  refine ⟨_, (Xc (KC 2 (Xh JM) ["_law_some", "_law_spots", "_law_found", "_law_a", "_law_b"] ["_law_line"] [] rfl QU.nd rfl rfl (XQ (K:=K) rfl (pv 0)) (YD (by decide)) (fun cl C s H ex E=>⟨Xn (i:=0) (show List.Nodup (["_law_line"] : List Str) by decide +kernel) rfl (Or.inl rfl), ZD, (U4 (Q4 K rfl) rfl Z.b_list PyProof.Rows.boot_list (Xd (pv 0) Xf))⟩))
    (Xc (XM PassesOwn.never rfl (Xy rfl Z.b_range (Xd (Xq (Xj K rfl) rfl Z.b_len PySem.boot_len (Xd (pv 0) Xf)) Xf)) (Xn (i:=3) QU.nd rfl (Or.inl rfl))
      (Xc (XM PassesOwn.never rfl (Xy rfl Z.b_range (Xd (Xq (Xj K rfl) rfl Z.b_len PySem.boot_len (Xd (pv 0) Xf)) Xf)) (Xn (i:=4) QU.nd rfl (Or.inl rfl))
        (Xc (HC (XH (Xm K rfl) (pv 1) (XH (Xm K rfl) (XH (Xm K rfl) (pv 0) (pv 3) (fun _ _=>rfl)) (pv 4) (fun _ _=>rfl)) (fun _ _=>rfl)) (HV (XH (Xm K rfl) (pv 2) (XH (Xm K rfl) (pv 1) (pv 3) (fun _ _=>rfl)) (fun _ _=>rfl)) (XH (Xm K rfl) (pv 1) (pv 4) (fun _ _=>rfl)) Cl))
        Xe))
      Xe))
    (Xc (Xu (pv 2))
    Xe))), ?_⟩
  refine Yv (S:=(SC.add (SC.add SC.nil K (rV (rV Xb)) v_0 a_0) K (rV Xb) v_1 a_1)) (σ:=[some v_0, some v_1, none, none, none]) 1 ?_ (SC.i (SC.i SC.t h_0) h_1) hm q rfl
  unfold Zg
  exact (XZ (K:=K) (o:=(oL (oL (oF Xb)))) 2 0 (ZJ (fun _=>tg1 0) (XU (Xt (r:=(rV (rV Xb))) 0 rfl (fun _ s=>(SC.r (SC.l s))))) (fun C4 a5 v6=>(BX (EvS.ls (Xt (r:=(rV Xb)) 0 rfl (fun _ s=>(SC.r s))))))) (Nat.le_of_ble_eq_true rfl) fun a1 v2 C3=>(Y5 (K:=K) (J:=({ oo:=fun x11=>[x11.2.2.2], ss:=fun x11=>[some v_0, some v_1, some x11.2.2.1, x11.1, x11.2.1], sc:=fun g12 x11=>(SC.addO (SC.add (SC.add SC.nil K (rV (rV Xb)) v_0 a_0) K (rV Xb) v_1 a_1) K (oL (oL (oF Xb))) x11.2.2.1 g12 x11.2.2.2) } : Jn ((List (List Int))) (Option V × Option V × V × List Xz))) (fun _=>tg1 3) ((none), (none), v2, C3) (a1) (Xp (XS (Xa (r:=(rV (rV Xb))) 0 rfl (fun _ s=>(SC.r (SC.l (SC.l s))))))) rfl rfl (fun _ s=>(SC.i (SC.i (SC.i SC.t (SC.r (SC.l (SC.l s)))) (SC.r (SC.l s))) (SC.r s))) (fun g13 x14 a15 v16=>(Y5 (K:=K) (J:=({ oo:=fun x19=>[x19.2.2], ss:=fun x19=>[some v_0, some v_1, some x19.2.1, some v16, x19.1], sc:=fun g20 x19=>(SC.addO (SC.add (SC.add (SC.add SC.nil K (rV (rV Xb)) v_0 a_0) K (rV Xb) v_1 a_1) K Xb v16 a15) K (oL (oL (oF Xb))) x19.2.1 g20 x19.2.2) } : Jn ((List (List Int))) (Option V × V × List Xz))) (fun _=>tg1 4) ((x14.2.1), x14.2.2.1, x14.2.2.2) (g13) (Xp (XS (Xa (r:=(rV (rV Xb))) 0 rfl (fun _ s=>(SC.r (SC.l (SC.l (SC.l s)))))))) rfl rfl (fun _ s=>(SC.i (SC.i (SC.i (SC.i SC.t (SC.r (SC.l (SC.l (SC.l s))))) (SC.r (SC.l (SC.l s)))) (SC.r s)) (SC.r (SC.l s)))) (fun g21 x22 a23 v24=>(Ft (K:=K) (r:=Xb) 2 0 rfl rfl (fun _ s=>(SC.r (SC.l s))) (EvB.sh (Xx (Xa (r:=(rV Xb)) 1 rfl (fun _ s=>(SC.r (SC.l (SC.l (SC.l s)))))) (Xx (Xx (Xa (r:=(rV (rV Xb))) 0 rfl (fun _ s=>(SC.r (SC.l (SC.l (SC.l (SC.l s))))))) (Xa (r:=Xb) 3 rfl (fun _ s=>(SC.r (SC.l (SC.l s)))))) (Xa (r:=Xb) 4 rfl (fun _ s=>(SC.r s)))))) (Xx (Xa (r:=(rV Xb)) 1 rfl (fun _ s=>(SC.r (SC.l (SC.l (SC.l s)))))) (Xa (r:=Xb) 3 rfl (fun _ s=>(SC.r (SC.l (SC.l s)))))) (Xx (Xa (r:=(rV Xb)) 1 rfl (fun _ s=>(SC.r (SC.l (SC.l (SC.l s)))))) (Xa (r:=Xb) 4 rfl (fun _ s=>(SC.r s)))) fun a38 C39=>(Xs (J:=_) ((some v24), x22.2.1, C39) (a38) rfl rfl (fun _ s=>(SC.i (SC.i (SC.i (SC.i SC.t (SC.r (SC.l (SC.l (SC.l (SC.l (SC.l s))))))) (SC.r (SC.l (SC.l (SC.l (SC.l s)))))) (SC.r (SC.l (SC.l (SC.l s))))) (SC.r s)))))) fun g42 x43=>(Xs (J:=_) ((some v16), (x43.1), x43.2.1, x43.2.2) (g42) rfl rfl (fun _ s=>(SC.i (SC.i (SC.i SC.t (SC.r (SC.l (SC.l (SC.l s))))) (SC.r (SC.l (SC.l s)))) (SC.r s)))))) fun g45 x46=>(Xw (Ye (o:=(oL (oL (oF Xb)))) 2 0 rfl rfl (fun _ s=>(SC.r s))))))
theorem Kv : FnScope ["_law_one"] ["_law_one"] (Xh Jj):=⟨rfl, rfl, rfl, by decide +kernel, rfl, by decide +kernel, by decide +kernel⟩
set_option maxHeartbeats 4000000 in
theorem Ki (D : Def K mg "_law_is_whole" Jj ["_law_one"])  (Z : Blt mg) : Fn P w K mg base 1 "_law_is_whole" ["_law_one"] (sp1 Xb (oF XO) QA K):=by
  refine Ym D Kv (fun vs H Q E h=>?_) (fun f cdv A outer s H vs Q E hr h=>?_)
  . obtain ⟨v_0, a_0, b, rfl, _⟩:=h; rfl
  obtain ⟨v_0, a_0, b, rfl, h_0, hm, q⟩:=h
  have hu:=hu8 hr
  have hu1:=Yi hr
  refine ⟨_, (Xc (Xu (DS (Xq Zp rfl Z.b_isinstance PyProof.Rows.boot_isinstance (Xd (pv 0) (Xd (JQ (v:=V.ty "int") rfl Z.b_int PyProof.Rows.boot_int rfl) Xf))) (Gc (HS (Xq Zp rfl Z.b_isinstance PyProof.Rows.boot_isinstance (Xd (pv 0) (Xd (JQ (v:=V.ty "bool") rfl Z.b_bool PyProof.Rows.boot_bool rfl) Xf)))))))
    Xe), ?_⟩
  refine Yv (S:=(SC.add SC.nil K Xb v_0 a_0)) (σ:=[some v_0]) 0 ?_ (SC.i SC.t h_0) hm q rfl
  unfold QA
  exact (Xw (EvS.ev (EvB.sh (VX (ZM "int" true (JK K "int") (Xa (r:=Xb) 0 rfl (fun _ s=>(SC.r s)))) (Ct (ZM "bool" false (UU K) (Xa (r:=Xb) 0 rfl (fun _ s=>(SC.r s)))))))))
theorem QL : FnScope ["_law_found", "_law_size", "_law_line", "_law_one"] ["_law_found", "_law_size"] (Xh Jh):=⟨rfl, rfl, rfl, by decide +kernel, rfl, by decide +kernel, by decide +kernel⟩
set_option maxHeartbeats 4000000 in
theorem Ks (D : Def K mg "_law_is_table" Jh ["_law_found", "_law_size"]) (g_is_whole : Fn P w K mg base 1 "_law_is_whole" ["_law_one"] (sp1 Xb (oF XO) QA K)) (Z : Blt mg) : Fn P w K mg base 2 "_law_is_table" ["_law_found", "_law_size"] (sp2 (rV (rV Xb)) Xb (oF XO) Zh K):=by
  refine Ym D QL (fun vs H Q E h=>?_) (fun f cdv A outer s H vs Q E hr h=>?_)
  . obtain ⟨v_0, v_1, a_0, a_1, b, rfl, _⟩:=h; rfl
  obtain ⟨v_0, v_1, a_0, a_1, b, rfl, h_0, h_1, hm, q⟩:=h
  have hu:=hu8 hr
  have hu1:=Yi hr
  refine ⟨_, (Xc (X6 (PW.pt (EJ (Q7 (Qk (Xq Zp rfl Z.b_isinstance PyProof.Rows.boot_isinstance (Xd (pv 0) (Xd (JQ (v:=V.ty "list") rfl Z.b_list PyProof.Rows.boot_list rfl) Xf))))) (Fw (Xo JY (Xq (Xj K rfl) rfl Z.b_len PySem.boot_len (Xd (pv 0) Xf)) (pv 1) (Xv _)))))
      (Xc (Xu Z4)
      Xe)
      Xe)
    (Xc (XM PassesOwn.never rfl (XQ (K:=K) rfl (pv 0)) (Xn (i:=2) QL.nd rfl (Or.inl rfl))
      (Xc (X6 (PW.pt (EJ (Q7 (Qk (Xq Zp rfl Z.b_isinstance PyProof.Rows.boot_isinstance (Xd (pv 2) (Xd (JQ (v:=V.ty "list") rfl Z.b_list PyProof.Rows.boot_list rfl) Xf))))) (Fw (Xo JY (Xq (Xj K rfl) rfl Z.b_len PySem.boot_len (Xd (pv 2) Xf)) (pv 1) (Xv _)))))
        (Xc (Xu Z4)
        Xe)
        Xe)
      (Xc (XM PassesOwn.never rfl (XQ (K:=K) rfl (pv 2)) (Xn (i:=3) QL.nd rfl (Or.inl rfl))
        (Xc (X6 (Q7 (Qk (X4 g_is_whole hr (by decide) (Xd (pv 3) Xf))))
          (Xc (Xu Z4)
          Xe)
          Xe)
        Xe))
      Xe)))
    (Xc (Xu Z4)
    Xe))), ?_⟩
  refine Yv (S:=(SC.add (SC.add SC.nil K (rV (rV Xb)) v_0 a_0) K Xb v_1 a_1)) (σ:=[some v_0, some v_1, none, none]) 0 ?_ (SC.i (SC.i SC.t h_0) h_1) hm q rfl
  unfold Zh
  exact (Z1 (DF (Qb (Vp (K:=K) (ZM "list" true (JK K "list") (Xa (r:=(rV (rV Xb))) 0 rfl (fun _ s=>(SC.r (SC.l s))))))) (Xl (K:=K) (Qq (XS (Xa (r:=(rV (rV Xb))) 0 rfl (fun _ s=>(SC.r (SC.l s))))) (Xa (r:=Xb) 1 rfl (fun _ s=>(SC.r s)))))) (Xw (EvS.ev (EvB.sh (Zl false)))) (Zn (K:=K) (J:=({ oo:=fun x7=>[], ss:=fun x7=>[some v_0, some v_1, x7.1, x7.2], sc:=fun g8 x7=>(SC.add (SC.add SC.nil K (rV (rV Xb)) v_0 a_0) K Xb v_1 a_1) } : Jn (Unit) (Option V × Option V))) (fun _=>tg1 2) ((none), (none)) () (XU (Xt (r:=(rV (rV Xb))) 0 rfl (fun _ s=>(SC.r (SC.l s))))) rfl rfl (fun _ s=>(SC.i (SC.i SC.t (SC.r (SC.l s))) (SC.r s))) (fun g9 x10 a11 v12=>(YT (DF (Qb (Vp (K:=K) (ZM "list" true (JK K "list") (Xa (r:=(rV Xb)) 2 rfl (fun _ s=>(SC.r s)))))) (Xl (K:=K) (Qq (XS (Xa (r:=(rV Xb)) 2 rfl (fun _ s=>(SC.r s)))) (Xa (r:=Xb) 1 rfl (fun _ s=>(SC.r (SC.l s))))))) (Xw (EvS.ev (EvB.sh (Zl false)))) (ZB (K:=K) (J:=({ oo:=fun x19=>[], ss:=fun x19=>[some v_0, some v_1, some v12, x19], sc:=fun g20 x19=>(SC.add (SC.add (SC.add SC.nil K (rV (rV Xb)) v_0 a_0) K Xb v_1 a_1) K (rV Xb) v12 a11) } : Jn (Unit) (Option V))) (fun _=>tg1 3) ((x10.2)) () (XU (Xt (r:=(rV Xb)) 2 rfl (fun _ s=>(SC.r s)))) rfl rfl (fun _ s=>(SC.i (SC.i (SC.i SC.t (SC.r (SC.l (SC.l s)))) (SC.r (SC.l s))) (SC.r s))) (fun g21 x22 a23 v24=>(YT (Qb (Vp (K:=K) (Ev.toB (Yu (Xa (r:=Xb) 3 rfl (fun _ s=>(SC.r s))))))) (Xw (EvS.ev (EvB.sh (Zl false)))) (Yq (Xs (J:=_) ((some v24)) () rfl rfl (fun _ s=>(SC.i (SC.i (SC.i SC.t (SC.r (SC.l (SC.l (SC.l s))))) (SC.r (SC.l (SC.l s)))) (SC.r (SC.l s)))))))) fun g31 x32=>(Yq (Xs (J:=_) ((some v12), (x32)) () rfl rfl (fun _ s=>(SC.i (SC.i SC.t (SC.r (SC.l (SC.l s)))) (SC.r (SC.l s))))))))) fun g36 x37=>(Xw (EvS.ev (EvB.sh (Zl true))))))
theorem Qn : FnScope ["_law_some", "_law_size", "_law_a", "_law_b", "_law_c", "_law_left"] ["_law_some"] (Xh Gn):=⟨rfl, rfl, rfl, by decide +kernel, rfl, by decide +kernel, by decide +kernel⟩
set_option maxHeartbeats 4000000 in
theorem BU (D : Def K mg "_law_good" Gn ["_law_some"])  (Z : Blt mg) : Fn P w K mg base 1 "_law_good" ["_law_some"] (sp1 (rV (rV Xb)) (oF XO) VG K):=by
  refine Ym D Qn (fun vs H Q E h=>?_) (fun f cdv A outer s H vs Q E hr h=>?_)
  . obtain ⟨v_0, a_0, b, rfl, _⟩:=h; rfl
  obtain ⟨v_0, a_0, b, rfl, h_0, hm, q⟩:=h
  have hu:=hu8 hr
  have hu1:=Yi hr
  refine ⟨_, (Xc (XA (i:=1) Qn.nd rfl (Or.inl rfl) (Xq (Xj K rfl) rfl Z.b_len PySem.boot_len (Xd (pv 0) Xf)))
    (Xc (XM PassesOwn.never rfl (Xy rfl Z.b_range (Xd (pv 1) Xf)) (Xn (i:=2) Qn.nd rfl (Or.inl rfl))
      (Xc (X6 (Xo JY (XH (Xm K rfl) (XH (Xm K rfl) (pv 0) (pv 2) (fun _ _=>rfl)) (pv 2) (fun _ _=>rfl)) (pv 2) (Xv _))
        (Xc (Xu Z4)
        Xe)
        Xe)
      Xe))
    (Xc (XM PassesOwn.never rfl (Xy rfl Z.b_range (Xd (pv 1) Xf)) (Xn (i:=3) Qn.nd rfl (Or.inr rfl))
      (Xc (X6 (Xo (Il (Hf eq_int) (Dj (by decide) hu)) (Xq (Vz K rfl) rfl Z.b_sorted PyProof.Rows.boot_sorted (Xd (Y1 (sc:=(Xh Gn)) (N0:=["_law_some", "_law_size", "_law_a", "_law_b", "_law_c", "_law_left"]) (tns:=["_law_line"]) (caps:=[(3, "_law_b")]) rfl (XQ (K:=K) rfl (pv 0)) (YD (by decide)) (fun cl C s H ex E=>⟨Xn (i:=0) (show List.Nodup (["_law_line", "_law_b"] : List Str) by decide +kernel) rfl (Or.inl rfl), ZD, (XH (Xm K rfl) (pv 0) (pv 1) (fun _ _=>rfl))⟩)) Xf)) (Jp rfl rfl rfl Z.b_list Z.b_range (Xd (pv 1) Xf)) (Xv _))
        (Xc (Xu Z4)
        Xe)
        Xe)
      Xe))
    (Xc (XM PassesOwn.never rfl (Xy rfl Z.b_range (Xd (pv 1) Xf)) (Xn (i:=2) Qn.nd rfl (Or.inl rfl))
      (Xc (XM PassesOwn.never rfl (Xy rfl Z.b_range (Xd (pv 1) Xf)) (Xn (i:=3) Qn.nd rfl (Or.inr rfl))
        (Xc (XM PassesOwn.never rfl (Xy rfl Z.b_range (Xd (pv 1) Xf)) (Xn (i:=4) Qn.nd rfl (Or.inl rfl))
          (Xc (XA (i:=5) Qn.nd rfl (Or.inl rfl) (XH (Xm K rfl) (XH (Xm K rfl) (pv 0) (XH (Xm K rfl) (XH (Xm K rfl) (pv 0) (pv 2) (fun _ _=>rfl)) (pv 3) (fun _ _=>rfl)) (fun _ _=>rfl)) (pv 4) (fun _ _=>rfl)))
          (Xc (X6 (Xo JY (pv 5) (XH (Xm K rfl) (XH (Xm K rfl) (pv 0) (XH (Xm K rfl) (XH (Xm K rfl) (pv 0) (pv 2) (fun _ _=>rfl)) (pv 4) (fun _ _=>rfl)) (fun _ _=>rfl)) (XH (Xm K rfl) (XH (Xm K rfl) (pv 0) (pv 3) (fun _ _=>rfl)) (pv 4) (fun _ _=>rfl)) (fun _ _=>rfl)) (Xv _))
            (Xc (Xu Z4)
            Xe)
            Xe)
          Xe)))
        Xe))
      Xe))
    (Xc (Xu Z4)
    Xe))))), ?_⟩
  refine Yv (S:=(SC.add SC.nil K (rV (rV Xb)) v_0 a_0)) (σ:=[some v_0, none, none, none, none, none]) 0 ?_ (SC.i SC.t h_0) hm q rfl
  unfold VG
  exact (XY (K:=K) (r:=Xb) 1 (EvB.sh (XS (Xa (r:=(rV (rV Xb))) 0 rfl (fun _ s=>(SC.r s))))) fun a1 v2=>(Zn (K:=K) (J:=({ oo:=fun x5=>[], ss:=fun x5=>[some v_0, some v2, x5, none, none, none], sc:=fun g6 x5=>(SC.add (SC.add SC.nil K (rV (rV Xb)) v_0 a_0) K Xb v2 a1) } : Jn (Unit) (Option V))) (fun _=>tg1 2) ((none)) () (Xp (Xa (r:=Xb) 1 rfl (fun _ s=>(SC.r s)))) rfl rfl (fun _ s=>(SC.i (SC.i SC.t (SC.r (SC.l s))) (SC.r s))) (fun g7 x8 a9 v10=>(YT (Xl (K:=K) (Qq (Xx (Xx (Xa (r:=(rV (rV Xb))) 0 rfl (fun _ s=>(SC.r (SC.l (SC.l s))))) (Xa (r:=Xb) 2 rfl (fun _ s=>(SC.r s)))) (Xa (r:=Xb) 2 rfl (fun _ s=>(SC.r s)))) (Xa (r:=Xb) 2 rfl (fun _ s=>(SC.r s))))) (Xw (EvS.ev (EvB.sh (Zl false)))) (Yq (Xs (J:=_) ((some v10)) () rfl rfl (fun _ s=>(SC.i (SC.i SC.t (SC.r (SC.l (SC.l s)))) (SC.r (SC.l s)))))))) fun g20 x21=>(Zn (K:=K) (J:=({ oo:=fun x23=>[], ss:=fun x23=>[some v_0, some v2, x21, x23, none, none], sc:=fun g24 x23=>(SC.add (SC.add SC.nil K (rV (rV Xb)) v_0 a_0) K Xb v2 a1) } : Jn (Unit) (Option V))) (fun _=>tg1 3) ((none)) () (Xp (Xa (r:=Xb) 1 rfl (fun _ s=>(SC.r s)))) rfl rfl (fun _ s=>(SC.i (SC.i SC.t (SC.r (SC.l s))) (SC.r s))) (fun g25 x26 a27 v28=>(YT (Xl (K:=K) (B8 (Ev.toB (CU (Ev.ls (ZJ (fun _=>tg1 0) (XU (Xt (r:=(rV (rV Xb))) 0 rfl (fun _ s=>(SC.r (SC.l (SC.l s)))))) (fun C30 a31 v32=>(EvS.ev (EvB.sh (Xx (Xa (r:=(rV Xb)) 0 rfl (fun _ s=>(SC.r s))) (Xa (r:=Xb) 1 rfl (fun _ s=>(SC.r (SC.l s)))))))))))) (Ev.toB (Js (Xa (r:=Xb) 1 rfl (fun _ s=>(SC.r (SC.l s)))))))) (Xw (EvS.ev (EvB.sh (Zl false)))) (Yq (Xs (J:=_) ((some v28)) () rfl rfl (fun _ s=>(SC.i (SC.i SC.t (SC.r (SC.l (SC.l s)))) (SC.r (SC.l s)))))))) fun g42 x43=>(Zn (K:=K) (J:=({ oo:=fun x45=>[], ss:=fun x45=>[some v_0, some v2, x45.1, x45.2.1, x45.2.2.1, x45.2.2.2], sc:=fun g46 x45=>(SC.add (SC.add SC.nil K (rV (rV Xb)) v_0 a_0) K Xb v2 a1) } : Jn (Unit) (Option V × Option V × Option V × Option V))) (fun _=>tg1 2) ((x21), (x43), (none), (none)) () (Xp (Xa (r:=Xb) 1 rfl (fun _ s=>(SC.r s)))) rfl rfl (fun _ s=>(SC.i (SC.i SC.t (SC.r (SC.l s))) (SC.r s))) (fun g47 x48 a49 v50=>(ZB (K:=K) (J:=({ oo:=fun x52=>[], ss:=fun x52=>[some v_0, some v2, some v50, x52.1, x52.2.1, x52.2.2], sc:=fun g53 x52=>(SC.add (SC.add (SC.add SC.nil K (rV (rV Xb)) v_0 a_0) K Xb v2 a1) K Xb v50 a49) } : Jn (Unit) (Option V × Option V × Option V))) (fun _=>tg1 3) ((x48.2.1), (x48.2.2.1), (x48.2.2.2)) () (Xp (Xa (r:=Xb) 1 rfl (fun _ s=>(SC.r (SC.l s))))) rfl rfl (fun _ s=>(SC.i (SC.i (SC.i SC.t (SC.r (SC.l (SC.l s)))) (SC.r (SC.l s))) (SC.r s))) (fun g54 x55 a56 v57=>(ZB (K:=K) (J:=({ oo:=fun x59=>[], ss:=fun x59=>[some v_0, some v2, some v50, some v57, x59.1, x59.2], sc:=fun g60 x59=>(SC.add (SC.add (SC.add (SC.add SC.nil K (rV (rV Xb)) v_0 a_0) K Xb v2 a1) K Xb v50 a49) K Xb v57 a56) } : Jn (Unit) (Option V × Option V))) (fun _=>tg1 4) ((x55.2.1), (x55.2.2)) () (Xp (Xa (r:=Xb) 1 rfl (fun _ s=>(SC.r (SC.l (SC.l s)))))) rfl rfl (fun _ s=>(SC.i (SC.i (SC.i (SC.i SC.t (SC.r (SC.l (SC.l (SC.l s))))) (SC.r (SC.l (SC.l s)))) (SC.r (SC.l s))) (SC.r s))) (fun g61 x62 a63 v64=>(XY (K:=K) (r:=Xb) 5 (EvB.sh (Xx (Xx (Xa (r:=(rV (rV Xb))) 0 rfl (fun _ s=>(SC.r (SC.l (SC.l (SC.l (SC.l s))))))) (Xx (Xx (Xa (r:=(rV (rV Xb))) 0 rfl (fun _ s=>(SC.r (SC.l (SC.l (SC.l (SC.l s))))))) (Xa (r:=Xb) 2 rfl (fun _ s=>(SC.r (SC.l (SC.l s)))))) (Xa (r:=Xb) 3 rfl (fun _ s=>(SC.r (SC.l s)))))) (Xa (r:=Xb) 4 rfl (fun _ s=>(SC.r s))))) fun a65 v66=>(YT (Xl (K:=K) (Qq (Xa (r:=Xb) 5 rfl (fun _ s=>(SC.r s))) (Xx (Xx (Xa (r:=(rV (rV Xb))) 0 rfl (fun _ s=>(SC.r (SC.l (SC.l (SC.l (SC.l (SC.l s)))))))) (Xx (Xx (Xa (r:=(rV (rV Xb))) 0 rfl (fun _ s=>(SC.r (SC.l (SC.l (SC.l (SC.l (SC.l s)))))))) (Xa (r:=Xb) 2 rfl (fun _ s=>(SC.r (SC.l (SC.l (SC.l s))))))) (Xa (r:=Xb) 4 rfl (fun _ s=>(SC.r (SC.l s)))))) (Xx (Xx (Xa (r:=(rV (rV Xb))) 0 rfl (fun _ s=>(SC.r (SC.l (SC.l (SC.l (SC.l (SC.l s)))))))) (Xa (r:=Xb) 3 rfl (fun _ s=>(SC.r (SC.l (SC.l s)))))) (Xa (r:=Xb) 4 rfl (fun _ s=>(SC.r (SC.l s)))))))) (Xw (EvS.ev (EvB.sh (Zl false)))) (Yq (Xs (J:=_) ((some v64), (some v66)) () rfl rfl (fun _ s=>(SC.i (SC.i (SC.i (SC.i SC.t (SC.r (SC.l (SC.l (SC.l (SC.l (SC.l s))))))) (SC.r (SC.l (SC.l (SC.l (SC.l s)))))) (SC.r (SC.l (SC.l (SC.l s))))) (SC.r (SC.l (SC.l s)))))))))) fun g92 x93=>(Yq (Xs (J:=_) ((some v57), (x93.1), (x93.2)) () rfl rfl (fun _ s=>(SC.i (SC.i (SC.i SC.t (SC.r (SC.l (SC.l (SC.l s))))) (SC.r (SC.l (SC.l s)))) (SC.r (SC.l s)))))))) fun g96 x97=>(Yq (Xs (J:=_) ((some v50), (x97.1), (x97.2.1), (x97.2.2)) () rfl rfl (fun _ s=>(SC.i (SC.i SC.t (SC.r (SC.l (SC.l s)))) (SC.r (SC.l s)))))))) fun g100 x101=>(Xw (EvS.ev (EvB.sh (Zl true))))))))
theorem Qm : FnScope ["_law_one", "_law_other", "_law_images", "_law_count", "_law_a", "_law_b", "_law_met"] ["_law_one", "_law_other", "_law_images"] (Xh UC):=⟨rfl, rfl, rfl, by decide +kernel, rfl, by decide +kernel, by decide +kernel⟩
set_option maxHeartbeats 4000000 in
theorem De (D : Def K mg "_law_stands" UC ["_law_one", "_law_other", "_law_images"])  (Z : Blt mg) : Fn P w K mg base 1 "_law_stands" ["_law_one", "_law_other", "_law_images"] (sp3 (rV (rV Xb)) (rV (rV Xb)) (rV Xb) (oF XO) JG K):=by
  refine Ym D Qm (fun vs H Q E h=>?_) (fun f cdv A outer s H vs Q E hr h=>?_)
  . obtain ⟨v_0, v_1, v_2, a_0, a_1, a_2, b, rfl, _⟩:=h; rfl
  obtain ⟨v_0, v_1, v_2, a_0, a_1, a_2, b, rfl, h_0, h_1, h_2, hm, q⟩:=h
  have hu:=hu8 hr
  have hu1:=Yi hr
  refine ⟨_, (Xc (XA (i:=3) Qm.nd rfl (Or.inl rfl) (Xq (Xj K rfl) rfl Z.b_len PySem.boot_len (Xd (pv 2) Xf)))
    (Xc (XM PassesOwn.never rfl (Xy rfl Z.b_range (Xd (pv 3) Xf)) (Xn (i:=4) Qm.nd rfl (Or.inl rfl))
      (Xc (XM PassesOwn.never rfl (Xy rfl Z.b_range (Xd (pv 3) Xf)) (Xn (i:=5) Qm.nd rfl (Or.inl rfl))
        (Xc (XA (i:=6) Qm.nd rfl (Or.inl rfl) (XH (Xm K rfl) (XH (Xm K rfl) (pv 0) (pv 4) (fun _ _=>rfl)) (pv 5) (fun _ _=>rfl)))
        (Xc (X6 (PW.pt (Y3 (Xo Ve (pv 6) (pv 3) (Xv _)) (ZI (Xo JY (XH (Xm K rfl) (XH (Xm K rfl) (pv 1) (XH (Xm K rfl) (pv 2) (pv 4) (fun _ _=>rfl)) (fun _ _=>rfl)) (XH (Xm K rfl) (pv 2) (pv 5) (fun _ _=>rfl)) (fun _ _=>rfl)) (XH (Xm K rfl) (pv 2) (pv 6) (fun _ _=>rfl)) (Xv _)))))
          (Xc (Xu Z4)
          Xe)
          Xe)
        Xe)))
      Xe))
    (Xc (Xu Z4)
    Xe))), ?_⟩
  refine Yv (S:=(SC.add (SC.add (SC.add SC.nil K (rV (rV Xb)) v_0 a_0) K (rV (rV Xb)) v_1 a_1) K (rV Xb) v_2 a_2)) (σ:=[some v_0, some v_1, some v_2, none, none, none, none]) 0 ?_ (SC.i (SC.i (SC.i SC.t h_0) h_1) h_2) hm q rfl
  unfold JG
  exact (XY (K:=K) (r:=Xb) 3 (EvB.sh (XS (Xa (r:=(rV Xb)) 2 rfl (fun _ s=>(SC.r s))))) fun a1 v2=>(Zn (K:=K) (J:=({ oo:=fun x5=>[], ss:=fun x5=>[some v_0, some v_1, some v_2, some v2, x5.1, x5.2.1, x5.2.2], sc:=fun g6 x5=>(SC.add (SC.add (SC.add (SC.add SC.nil K (rV (rV Xb)) v_0 a_0) K (rV (rV Xb)) v_1 a_1) K (rV Xb) v_2 a_2) K Xb v2 a1) } : Jn (Unit) (Option V × Option V × Option V))) (fun _=>tg1 4) ((none), (none), (none)) () (Xp (Xa (r:=Xb) 3 rfl (fun _ s=>(SC.r s)))) rfl rfl (fun _ s=>(SC.i (SC.i (SC.i (SC.i SC.t (SC.r (SC.l (SC.l (SC.l s))))) (SC.r (SC.l (SC.l s)))) (SC.r (SC.l s))) (SC.r s))) (fun g7 x8 a9 v10=>(ZB (K:=K) (J:=({ oo:=fun x12=>[], ss:=fun x12=>[some v_0, some v_1, some v_2, some v2, some v10, x12.1, x12.2], sc:=fun g13 x12=>(SC.add (SC.add (SC.add (SC.add (SC.add SC.nil K (rV (rV Xb)) v_0 a_0) K (rV (rV Xb)) v_1 a_1) K (rV Xb) v_2 a_2) K Xb v2 a1) K Xb v10 a9) } : Jn (Unit) (Option V × Option V))) (fun _=>tg1 5) ((x8.2.1), (x8.2.2)) () (Xp (Xa (r:=Xb) 3 rfl (fun _ s=>(SC.r (SC.l s))))) rfl rfl (fun _ s=>(SC.i (SC.i (SC.i (SC.i (SC.i SC.t (SC.r (SC.l (SC.l (SC.l (SC.l s)))))) (SC.r (SC.l (SC.l (SC.l s))))) (SC.r (SC.l (SC.l s)))) (SC.r (SC.l s))) (SC.r s))) (fun g14 x15 a16 v17=>(XY (K:=K) (r:=Xb) 6 (EvB.sh (Xx (Xx (Xa (r:=(rV (rV Xb))) 0 rfl (fun _ s=>(SC.r (SC.l (SC.l (SC.l (SC.l (SC.l s)))))))) (Xa (r:=Xb) 4 rfl (fun _ s=>(SC.r (SC.l s))))) (Xa (r:=Xb) 5 rfl (fun _ s=>(SC.r s))))) fun a18 v19=>(YT (Yo (Xl (K:=K) (Qh (Xa (r:=Xb) 6 rfl (fun _ s=>(SC.r s))) (Xa (r:=Xb) 3 rfl (fun _ s=>(SC.r (SC.l (SC.l (SC.l s)))))))) (Xl (K:=K) (Qq (Xx (Xx (Xa (r:=(rV (rV Xb))) 1 rfl (fun _ s=>(SC.r (SC.l (SC.l (SC.l (SC.l (SC.l s)))))))) (Xx (Xa (r:=(rV Xb)) 2 rfl (fun _ s=>(SC.r (SC.l (SC.l (SC.l (SC.l s))))))) (Xa (r:=Xb) 4 rfl (fun _ s=>(SC.r (SC.l (SC.l s))))))) (Xx (Xa (r:=(rV Xb)) 2 rfl (fun _ s=>(SC.r (SC.l (SC.l (SC.l (SC.l s))))))) (Xa (r:=Xb) 5 rfl (fun _ s=>(SC.r (SC.l s)))))) (Xx (Xa (r:=(rV Xb)) 2 rfl (fun _ s=>(SC.r (SC.l (SC.l (SC.l (SC.l s))))))) (Xa (r:=Xb) 6 rfl (fun _ s=>(SC.r s))))))) (Xw (EvS.ev (EvB.sh (Zl false)))) (Yq (Xs (J:=_) ((some v17), (some v19)) () rfl rfl (fun _ s=>(SC.i (SC.i (SC.i (SC.i (SC.i SC.t (SC.r (SC.l (SC.l (SC.l (SC.l (SC.l (SC.l s)))))))) (SC.r (SC.l (SC.l (SC.l (SC.l (SC.l s))))))) (SC.r (SC.l (SC.l (SC.l (SC.l s)))))) (SC.r (SC.l (SC.l (SC.l s))))) (SC.r (SC.l (SC.l s)))))))))) fun g41 x42=>(Yq (Xs (J:=_) ((some v10), (x42.1), (x42.2)) () rfl rfl (fun _ s=>(SC.i (SC.i (SC.i (SC.i SC.t (SC.r (SC.l (SC.l (SC.l (SC.l s)))))) (SC.r (SC.l (SC.l (SC.l s))))) (SC.r (SC.l (SC.l s)))) (SC.r (SC.l s)))))))) fun g45 x46=>(Xw (EvS.ev (EvB.sh (Zl true))))))
theorem G9 : FnScope ["_law_images", "_law_size"] ["_law_images", "_law_size"] (Xh JF):=⟨rfl, rfl, rfl, by decide +kernel, rfl, by decide +kernel, by decide +kernel⟩
set_option maxHeartbeats 4000000 in
theorem FZ (D : Def K mg "_law_longer" JF ["_law_images", "_law_size"])  (Z : Blt mg) : Fn P w K mg base 1 "_law_longer" ["_law_images", "_law_size"] (sp2 (rV Xb) Xb (oL (oL (oF Xb))) Qu K):=by
  refine Ym D G9 (fun vs H Q E h=>?_) (fun f cdv A outer s H vs Q E hr h=>?_)
  . obtain ⟨v_0, v_1, a_0, a_1, b, rfl, _⟩:=h; rfl
  obtain ⟨v_0, v_1, a_0, a_1, b, rfl, h_0, h_1, hm, q⟩:=h
  have hu:=hu8 hr
  have hu1:=Yi hr
  refine ⟨_, (Xc (Xu (Y1 (sc:=(Xh JF)) (N0:=["_law_images", "_law_size"]) (tns:=["_law_colour"]) (caps:=[(0, "_law_images")]) rfl (Xy rfl Z.b_range (Xd (pv 1) Xf)) (YD (by decide)) (fun cl C s H ex E=>⟨Xn (i:=0) (show List.Nodup (["_law_colour", "_law_images"] : List Str) by decide +kernel) rfl (Or.inl rfl), (JU (Xo (QX K rfl) (pv 0) (pv 1) rfl)), (XC Gf (pv 1) (XW (Xd (pv 0) Xf)))⟩)))
    Xe), ?_⟩
  refine Yv (S:=(SC.add (SC.add SC.nil K (rV Xb) v_0 a_0) K Xb v_1 a_1)) (σ:=[some v_0, some v_1]) 0 ?_ (SC.i (SC.i SC.t h_0) h_1) hm q rfl
  unfold Qu
  exact (Xw (JN (fun _=>tg1 0) (Xp (Xa (r:=Xb) 1 rfl (fun _ s=>(SC.r s)))) (fun C2 a3 v4=>(Xl (K:=K) (F3 (Xa (r:=Xb) 0 rfl (fun _ s=>(SC.r s))) (Xa (r:=(rV Xb)) 1 rfl (fun _ s=>(SC.r (SC.l (SC.l s)))))))) (fun C2 a3 v4=>(K8 (EvS.ls (Xt (r:=(rV Xb)) 1 rfl (fun _ s=>(SC.r (SC.l (SC.l s)))))) (Ev.ls (QK (XI (Xt (r:=Xb) 0 rfl (fun _ s=>(SC.r s))) Y6)))))))
theorem ZS : FnScope ["_law_one", "_law_other", "_law_found", "_law_k", "_law_standing", "_law_images", "_law_longer_here"] ["_law_one", "_law_other"] (Xh KD):=⟨rfl, rfl, rfl, by decide +kernel, rfl, by decide +kernel, by decide +kernel⟩
set_option maxHeartbeats 4000000 in
theorem Bk (D : Def K mg "_law_every" KD ["_law_one", "_law_other"]) (g_longer : Fn P w K mg base 1 "_law_longer" ["_law_images", "_law_size"] (sp2 (rV Xb) Xb (oL (oL (oF Xb))) Qu K)) (g_stands : Fn P w K mg base 1 "_law_stands" ["_law_one", "_law_other", "_law_images"] (sp3 (rV (rV Xb)) (rV (rV Xb)) (rV Xb) (oF XO) JG K)) (Z : Blt mg) : Fn P w K mg base 2 "_law_every" ["_law_one", "_law_other"] (sp2 (rV (rV Xb)) (rV (rV Xb)) (oL (oL (oF Xb))) YW K):=by
  refine Ym D ZS (fun vs H Q E h=>?_) (fun f cdv A outer s H vs Q E hr h=>?_)
  . obtain ⟨v_0, v_1, a_0, a_1, b, rfl, _⟩:=h; rfl
  obtain ⟨v_0, v_1, a_0, a_1, b, rfl, h_0, h_1, hm, q⟩:=h
  have hu:=hu8 hr
  have hu1:=Yi hr
  refine ⟨_, (Xc (X6 (Xo JY (Xq (Xj K rfl) rfl Z.b_len PySem.boot_len (Xd (pv 0) Xf)) (Xq (Xj K rfl) rfl Z.b_len PySem.boot_len (Xd (pv 1) Xf)) (Xv _))
      (Xc (Xu (XW Xf))
      Xe)
      Xe)
    (Xc (XA (i:=2) ZS.nd rfl (Or.inl rfl) (XW (Xd (XW Xf) Xf ZL)))
    (Xc (XM PassesOwn.never rfl (Xy rfl Z.b_range (Xd (Xq (Xj K rfl) rfl Z.b_len PySem.boot_len (Xd (pv 0) Xf)) Xf)) (Xn (i:=3) ZS.nd rfl (Or.inl rfl))
      (Xc (XA (i:=4) ZS.nd rfl (Or.inl rfl) (XW Xf))
      (Xc (XM PassesOwn.never rfl (XQ (K:=K) rfl (pv 2)) (Xn (i:=5) ZS.nd rfl (Or.inl rfl))
        (Xc (XM PassesOwn.never rfl (XQ (K:=K) rfl (X4 g_longer hr (by decide) (Xd (pv 5) (Xd (Xq (Xj K rfl) rfl Z.b_len PySem.boot_len (Xd (pv 0) Xf)) Xf)))) (Xn (i:=6) ZS.nd rfl (Or.inl rfl))
          (Xc (X6 (Qk (X4 g_stands hr (by decide) (Xd (pv 0) (Xd (pv 1) (Xd (pv 6) Xf)))))
            (Xc (Yg (Z6 PySem.F.plainAttrs_list PySem.F.slot_list_append PySem.F.type_list_append X8 (pv 4) (Xd (pv 6) Xf)))
            Xe)
            Xe)
          Xe))
        Xe))
      (Xc (XA (i:=2) ZS.nd rfl (Or.inl rfl) (pv 4))
      Xe))))
    (Xc (Xu (pv 2))
    Xe)))), ?_⟩
  refine Yv (S:=(SC.add (SC.add SC.nil K (rV (rV Xb)) v_0 a_0) K (rV (rV Xb)) v_1 a_1)) (σ:=[some v_0, some v_1, none, none, none, none, none]) 4 ?_ (SC.i (SC.i SC.t h_0) h_1) hm q rfl
  unfold YW
  exact (Z1 (Xl (K:=K) (Qq (XS (Xa (r:=(rV (rV Xb))) 0 rfl (fun _ s=>(SC.r (SC.l s))))) (XS (Xa (r:=(rV (rV Xb))) 1 rfl (fun _ s=>(SC.r s)))))) (Xw (Z5 (o:=(oL (oF Xb))))) (XZ (K:=K) (o:=(oL (oL (oF Xb)))) 2 0 (Jd (YU (Z5 (o:=(oF Xb))) fun _=>QB)) (Nat.le_of_ble_eq_true rfl) fun a6 v7 C8=>(Y5 (K:=K) (J:=({ oo:=fun x14=>[x14.2.2.2.2.2, [], [], []], ss:=fun x14=>[some v_0, some v_1, some x14.2.2.2.1, x14.1, x14.2.1, x14.2.2.1, x14.2.2.2.2.1], sc:=fun g15 x14=>(SC.addO (SC.add (SC.add SC.nil K (rV (rV Xb)) v_0 a_0) K (rV (rV Xb)) v_1 a_1) K (oL (oL (oF Xb))) x14.2.2.2.1 g15 x14.2.2.2.2.2) } : Jn ((List (List Int))) (Option V × Option V × Option V × V × Option V × List Xz))) (fun _=>tg1 3) ((none), (none), (none), v7, (none), C8) (a6) (Xp (XS (Xa (r:=(rV (rV Xb))) 0 rfl (fun _ s=>(SC.r (SC.l (SC.l s))))))) rfl rfl (fun _ s=>(SC.i (SC.i (SC.i SC.t (SC.r (SC.l (SC.l s)))) (SC.r (SC.l s))) (SC.r s))) (fun g16 x17 a18 v19=>(XZ (K:=K) (o:=(oL (oL (oF Xb)))) 4 1 (Z5 (o:=(oL (oF Xb)))) (Nat.le_of_ble_eq_true rfl) fun a20 v21 C22=>(Du (K:=K) (o:=(oL (oL (oF Xb)))) 0 rfl (fun _ s=>(SC.r (SC.l (SC.l s)))) (Y5 (K:=K) (J:=({ oo:=fun x23=>[[], x23.2.2.2, [], []], ss:=fun x23=>[some v_0, some v_1, some x17.2.2.2.1, some v19, some x23.2.2.1, x23.1, x23.2.1], sc:=fun g24 x23=>(SC.addO (SC.add (SC.add (SC.add (SC.add SC.nil K (rV (rV Xb)) v_0 a_0) K (rV (rV Xb)) v_1 a_1) K (rV (rV Xb)) x17.2.2.2.1 g16) K Xb v19 a18) K (oL (oL (oF Xb))) x23.2.2.1 g24 x23.2.2.2) } : Jn ((List (List Int))) (Option V × Option V × V × List Xz))) (fun _=>tg1 5) ((x17.2.2.1), (x17.2.2.2.2.1), v21, C22) (a20) (XU (Xt (r:=(rV (rV Xb))) 2 rfl (fun _ s=>(SC.r s)))) rfl rfl (fun _ s=>(SC.i (SC.i (SC.i (SC.i (SC.i SC.t (SC.r (SC.l (SC.l (SC.l (SC.l (SC.l s))))))) (SC.r (SC.l (SC.l (SC.l (SC.l s)))))) (SC.r s)) (SC.r (SC.l (SC.l s)))) (SC.r (SC.l s)))) (fun g25 x26 a27 v28=>(Dc (K:=K) (o:=(oL (oF Xb))) (J:=({ oo:=fun x33=>[[], x33.2.2, [], []], ss:=fun x33=>[some v_0, some v_1, some x17.2.2.2.1, some v19, some x33.2.1, some v28, x33.1], sc:=fun g34 x33=>(SC.addO (SC.add (SC.add (SC.add (SC.add (SC.add SC.nil K (rV (rV Xb)) v_0 a_0) K (rV (rV Xb)) v_1 a_1) K (rV (rV Xb)) x17.2.2.2.1 g16) K Xb v19 a18) K (rV Xb) v28 a27) K (oL (oL (oF Xb))) x33.2.1 g34 x33.2.2) } : Jn ((List (List Int))) (Option V × V × List Xz))) 2 3 6 ((x26.2.1), x26.2.2.1, x26.2.2.2) (g25) (XT (Xa (r:=(rV Xb)) 5 rfl (fun _ s=>(SC.r s))) (XS (Xa (r:=(rV (rV Xb))) 0 rfl (fun _ s=>(SC.r (SC.l (SC.l (SC.l (SC.l (SC.l s)))))))))) rfl rfl (fun _ s=>(SC.i (SC.i (SC.i (SC.i (SC.i (SC.i SC.t (SC.r (SC.l (SC.l (SC.l (SC.l (SC.l s))))))) (SC.r (SC.l (SC.l (SC.l (SC.l s)))))) (SC.r (SC.l (SC.l (SC.l s))))) (SC.r (SC.l (SC.l s)))) (SC.r s)) (SC.r (SC.l s)))) (fun _=>rfl) (fun _=>rfl) (by decide) (fun R40 g35 x36 a37 v38 C39=>(Zs (J:=({ oo:=fun x46=>[[], x46.2.2, [], R40], ss:=fun x46=>[some v_0, some v_1, some x17.2.2.2.1, some v19, some x46.1, some v28, x46.2.1], sc:=fun g47 x46=>(SC.addO (SC.add (SC.add (SC.add (SC.add (SC.add SC.nil K (rV (rV Xb)) v_0 a_0) K (rV (rV Xb)) v_1 a_1) K (rV (rV Xb)) x17.2.2.2.1 g16) K Xb v19 a18) K (rV Xb) v28 a27) K (oL (oL (oF Xb))) x46.1 g47 x46.2.2) } : Jn ((List (List Int))) (V × Option V × List Xz))) (ZQ (Fd:=FNd ({ oo:=fun x46=>[[], x46.2.2, [], R40], ss:=fun x46=>[some v_0, some v_1, some x17.2.2.2.1, some v19, some x46.1, some v28, x46.2.1], sc:=fun g47 x46=>(SC.addO (SC.add (SC.add (SC.add (SC.add (SC.add SC.nil K (rV (rV Xb)) v_0 a_0) K (rV (rV Xb)) v_1 a_1) K (rV (rV Xb)) x17.2.2.2.1 g16) K Xb v19 a18) K (rV Xb) v28 a27) K (oL (oL (oF Xb))) x46.1 g47 x46.2.2) } : Jn ((List (List Int))) (V × Option V × List Xz))) (Vp (K:=K) (Ev.toB (Qy (Xa (r:=(rV (rV Xb))) 0 rfl (fun _ s=>(SC.r (SC.l (SC.l (SC.l (SC.l (SC.l (SC.l s))))))))) (Xa (r:=(rV (rV Xb))) 1 rfl (fun _ s=>(SC.r (SC.l (SC.l (SC.l (SC.l (SC.l s)))))))) (QS (o:=(oL (oF Xb))) 6 2 rfl rfl (fun _ s=>(SC.r s)))))) (Qd (K:=K) (o:=(oL (oF Xb))) (f:=fun a50=>(Res.ok (a50))) 4 1 rfl rfl rfl (fun _ s=>(SC.r (SC.l s))) (Ye (o:=(oL (oF Xb))) 6 2 rfl rfl (fun _ s=>(SC.r s))) fun a48 C49=>(Xs (J:=_) (x36.2.1, (some v38), C49) ((g35 ++ [a48])) rfl rfl (fun _ s=>(SC.i (SC.i (SC.i (SC.i (SC.i (SC.i SC.t (SC.r (SC.l (SC.l (SC.l (SC.l (SC.l (SC.l (SC.l s))))))))) (SC.r (SC.l (SC.l (SC.l (SC.l (SC.l (SC.l s)))))))) (SC.r (SC.l (SC.l (SC.l (SC.l (SC.l s))))))) (SC.r (SC.l (SC.l (SC.l (SC.l s)))))) (SC.r (SC.l (SC.l (SC.l s))))) (SC.r s))))) (F1 2 (Xs (J:=_) (x36.2.1, (some v38), x36.2.2) (g35) rfl rfl (fun _ s=>(SC.i (SC.i (SC.i (SC.i (SC.i (SC.i SC.t (SC.r (SC.l (SC.l (SC.l (SC.l (SC.l (SC.l s)))))))) (SC.r (SC.l (SC.l (SC.l (SC.l (SC.l s))))))) (SC.r (SC.l (SC.l (SC.l (SC.l s)))))) (SC.r (SC.l (SC.l (SC.l s))))) (SC.r (SC.l (SC.l s)))) (SC.r (SC.l s))))))) fun g52 x51=>(Xs (J:=_) ((x51.2.1), x51.1, x51.2.2) (g52) rfl rfl (fun _ s=>(SC.i (SC.i (SC.i (SC.i (SC.i (SC.i SC.t (SC.r (SC.l (SC.l (SC.l (SC.l (SC.l s))))))) (SC.r (SC.l (SC.l (SC.l (SC.l s)))))) (SC.r (SC.l (SC.l (SC.l s))))) (SC.r (SC.l (SC.l s)))) (SC.r (SC.l s))) (SC.r s)))))) fun g53 x54=>(Xs (J:=_) ((some v28), (x54.1), x54.2.1, x54.2.2) (g53) rfl rfl (fun _ s=>(SC.i (SC.i (SC.i (SC.i (SC.i SC.t (SC.r (SC.l (SC.l (SC.l (SC.l (SC.l s))))))) (SC.r (SC.l (SC.l (SC.l (SC.l s)))))) (SC.r (SC.l (SC.l (SC.l s))))) (SC.r (SC.l (SC.l s)))) (SC.r s)))))) fun g56 x57=>(XZ (K:=K) (o:=(oL (oL (oF Xb)))) 2 0 (Ye (o:=(oL (oL (oF Xb)))) 4 1 rfl rfl (fun _ s=>(SC.r s))) (Nat.le_of_ble_eq_true rfl) fun a58 v59 C60=>(Xs (J:=_) ((some v19), (some x57.2.2.1), (x57.1), v59, (x57.2.1), C60) (a58) rfl rfl (fun _ s=>(SC.i (SC.i (SC.i SC.t (SC.r (SC.l (SC.l (SC.l (SC.l (SC.l s))))))) (SC.r (SC.l (SC.l (SC.l (SC.l s)))))) (SC.r s))))))))) fun g62 x63=>(Xw (Ye (o:=(oL (oL (oF Xb)))) 2 0 rfl rfl (fun _ s=>(SC.r s)))))))
theorem Z8 : FnScope ["_law_way", "_law_size", "_law_found", "_law_a", "_law_line", "_law_b", "_law_one"] ["_law_way", "_law_size"] (Xh F4):=⟨rfl, rfl, rfl, by decide +kernel, rfl, by decide +kernel, by decide +kernel⟩
set_option maxHeartbeats 4000000 in
theorem B3 (D : Def K mg "_law_rare" F4 ["_law_way", "_law_size"])  (Z : Blt mg) : Fn P w K mg base 1 "_law_rare" ["_law_way", "_law_size"] (sp2 Xb Xb (oL (oL (oF Xb))) Ju K):=by
  refine Ym D Z8 (fun vs H Q E h=>?_) (fun f cdv A outer s H vs Q E hr h=>?_)
  . obtain ⟨v_0, v_1, a_0, a_1, b, rfl, _⟩:=h; rfl
  obtain ⟨v_0, v_1, a_0, a_1, b, rfl, h_0, h_1, hm, q⟩:=h
  have hu:=hu8 hr
  have hu1:=Yi hr
  refine ⟨_, (Xc (XA (i:=2) Z8.nd rfl (Or.inl rfl) (XW Xf))
    (Xc (XM PassesOwn.never rfl (Xy rfl Z.b_range (Xd (pv 1) Xf)) (Xn (i:=3) Z8.nd rfl (Or.inl rfl))
      (Xc (XA (i:=4) Z8.nd rfl (Or.inl rfl) (XW Xf))
      (Xc (XM PassesOwn.never rfl (Xy rfl Z.b_range (Xd (pv 1) Xf)) (Xn (i:=5) Z8.nd rfl (Or.inl rfl))
        (Xc (XA (i:=6) Z8.nd rfl (Or.inl rfl) (pv 3))
        (Xc (X6 (PW.pt (Y3 (Xo Qf (pv 0) Xi (Xv _)) (Y3 (Xo Ve (pv 3) Xi (Xv _)) (ZI (Xo Ee (pv 5) (XC Y4 (pv 1) Xi) (Xv _))))))
          (Xc (XA (i:=6) Z8.nd rfl (Or.inl rfl) (XC Y4 Xi (pv 3)))
          Xe)
          Xe)
        (Xc (X6 (PW.pt (Y3 (Xo Qf (pv 0) Xi (Xv _)) (Y3 (Xo Ve (pv 3) Xi (Xv _)) (ZI (Xo Ve (pv 5) Xi (Xv _))))))
          (Xc (XA (i:=6) Z8.nd rfl (Or.inl rfl) (XC YE (XC Y4 (XC Z0 Xi (pv 5)) (pv 3)) Xi))
          Xe)
          Xe)
        (Xc (Yg (Z6 PySem.F.plainAttrs_list PySem.F.slot_list_append PySem.F.type_list_append X8 (pv 4) (Xd (pv 6) Xf)))
        Xe)))))
      (Xc (Yg (Z6 PySem.F.plainAttrs_list PySem.F.slot_list_append PySem.F.type_list_append X8 (pv 2) (Xd (pv 4) Xf)))
      Xe))))
    (Xc (Xu (pv 2))
    Xe))), ?_⟩
  refine Yv (S:=(SC.add (SC.add SC.nil K Xb v_0 a_0) K Xb v_1 a_1)) (σ:=[some v_0, some v_1, none, none, none, none, none]) 2 ?_ (SC.i (SC.i SC.t h_0) h_1) hm q rfl
  unfold Ju
  exact (XZ (K:=K) (o:=(oL (oL (oF Xb)))) 2 0 (Z5 (o:=(oL (oF Xb)))) (Nat.le_of_ble_eq_true rfl) fun a1 v2 C3=>(Y5 (K:=K) (J:=({ oo:=fun x5=>[x5.2.2.2.2.2, []], ss:=fun x5=>[some v_0, some v_1, some x5.2.2.2.2.1, x5.1, x5.2.1, x5.2.2.1, x5.2.2.2.1], sc:=fun g6 x5=>(SC.addO (SC.add (SC.add SC.nil K Xb v_0 a_0) K Xb v_1 a_1) K (oL (oL (oF Xb))) x5.2.2.2.2.1 g6 x5.2.2.2.2.2) } : Jn ((List (List Int))) (Option V × Option V × Option V × Option V × V × List Xz))) (fun _=>tg1 3) ((none), (none), (none), (none), v2, C3) (a1) (Xp (Xa (r:=Xb) 1 rfl (fun _ s=>(SC.r (SC.l s))))) rfl rfl (fun _ s=>(SC.i (SC.i (SC.i SC.t (SC.r (SC.l (SC.l s)))) (SC.r (SC.l s))) (SC.r s))) (fun g7 x8 a9 v10=>(XZ (K:=K) (o:=(oL (oF Xb))) 4 1 (Z5 (o:=(oF Xb))) (Nat.le_of_ble_eq_true rfl) fun a11 v12 C13=>(Y5 (K:=K) (J:=({ oo:=fun x15=>[x8.2.2.2.2.2, x15.2.2.2], ss:=fun x15=>[some v_0, some v_1, some x8.2.2.2.2.1, some v10, some x15.2.2.1, x15.1, x15.2.1], sc:=fun g16 x15=>(SC.addO (SC.add (SC.addO (SC.add (SC.add SC.nil K Xb v_0 a_0) K Xb v_1 a_1) K (oL (oL (oF Xb))) x8.2.2.2.2.1 g7 x8.2.2.2.2.2) K Xb v10 a9) K (oL (oF Xb)) x15.2.2.1 g16 x15.2.2.2) } : Jn ((List Int)) (Option V × Option V × V × List Xz))) (fun _=>tg1 5) ((x8.2.2.1), (x8.2.2.2.1), v12, C13) (a11) (Xp (Xa (r:=Xb) 1 rfl (fun _ s=>(SC.r (SC.l (SC.l (SC.l s))))))) rfl rfl (fun _ s=>(SC.i (SC.i (SC.i (SC.i (SC.i SC.t (SC.r (SC.l (SC.l (SC.l (SC.l s)))))) (SC.r (SC.l (SC.l (SC.l s))))) (SC.r (SC.l (SC.l s)))) (SC.r (SC.l s))) (SC.r s))) (fun g17 x18 a19 v20=>(XY (K:=K) (r:=Xb) 6 (Xt (r:=Xb) 3 rfl (fun _ s=>(SC.r (SC.l (SC.l s))))) fun a21 v22=>(Zs (J:=({ oo:=fun x32=>[x8.2.2.2.2.2, x18.2.2.2], ss:=fun x32=>[some v_0, some v_1, some x8.2.2.2.2.1, some v10, some x18.2.2.1, some v20, some x32], sc:=fun g33 x32=>(SC.add (SC.add (SC.addO (SC.add (SC.addO (SC.add (SC.add SC.nil K Xb v_0 a_0) K Xb v_1 a_1) K (oL (oL (oF Xb))) x8.2.2.2.2.1 g7 x8.2.2.2.2.2) K Xb v10 a9) K (oL (oF Xb)) x18.2.2.1 g17 x18.2.2.2) K Xb v20 a19) K Xb x32 g33) } : Jn (Int) (V))) (ZQ (Fd:=FNd ({ oo:=fun x32=>[x8.2.2.2.2.2, x18.2.2.2], ss:=fun x32=>[some v_0, some v_1, some x8.2.2.2.2.1, some v10, some x18.2.2.1, some v20, some x32], sc:=fun g33 x32=>(SC.add (SC.add (SC.addO (SC.add (SC.addO (SC.add (SC.add SC.nil K Xb v_0 a_0) K Xb v_1 a_1) K (oL (oL (oF Xb))) x8.2.2.2.2.1 g7 x8.2.2.2.2.2) K Xb v10 a9) K (oL (oF Xb)) x18.2.2.1 g17 x18.2.2.2) K Xb v20 a19) K Xb x32 g33) } : Jn (Int) (V))) (Yo (Xl (K:=K) (Y2 (Xa (r:=Xb) 0 rfl (fun _ s=>(SC.r (SC.l (SC.l (SC.l (SC.l (SC.l (SC.l s))))))))) (Xg 0))) (Yo (Xl (K:=K) (Qh (Xa (r:=Xb) 3 rfl (fun _ s=>(SC.r (SC.l (SC.l (SC.l s)))))) (Xg 2))) (Xl (K:=K) (DO (Xa (r:=Xb) 5 rfl (fun _ s=>(SC.r (SC.l s)))) (Yr (Xa (r:=Xb) 1 rfl (fun _ s=>(SC.r (SC.l (SC.l (SC.l (SC.l (SC.l s)))))))) (Xg 2)))))) (XY (K:=K) (r:=Xb) 6 (EvB.sh (Yr (Xg 1) (Xa (r:=Xb) 3 rfl (fun _ s=>(SC.r (SC.l (SC.l (SC.l s)))))))) fun a34 v35=>(Xs (J:=_) (v35) (a34) rfl rfl (fun _ s=>(SC.i (SC.i (SC.i (SC.i (SC.i (SC.i (SC.i SC.t (SC.r (SC.l (SC.l (SC.l (SC.l (SC.l (SC.l (SC.l s))))))))) (SC.r (SC.l (SC.l (SC.l (SC.l (SC.l (SC.l s)))))))) (SC.r (SC.l (SC.l (SC.l (SC.l (SC.l s))))))) (SC.r (SC.l (SC.l (SC.l (SC.l s)))))) (SC.r (SC.l (SC.l (SC.l s))))) (SC.r (SC.l (SC.l s)))) (SC.r s))))) (Xs (J:=_) (v22) (a21) rfl rfl (fun _ s=>(SC.i (SC.i (SC.i (SC.i (SC.i (SC.i (SC.i SC.t (SC.r (SC.l (SC.l (SC.l (SC.l (SC.l (SC.l s)))))))) (SC.r (SC.l (SC.l (SC.l (SC.l (SC.l s))))))) (SC.r (SC.l (SC.l (SC.l (SC.l s)))))) (SC.r (SC.l (SC.l (SC.l s))))) (SC.r (SC.l (SC.l s)))) (SC.r (SC.l s))) (SC.r s))))) fun g39 x38=>(Zs (J:=({ oo:=fun x47=>[x8.2.2.2.2.2, x18.2.2.2], ss:=fun x47=>[some v_0, some v_1, some x8.2.2.2.2.1, some v10, some x18.2.2.1, some v20, some x47], sc:=fun g48 x47=>(SC.add (SC.add (SC.addO (SC.add (SC.addO (SC.add (SC.add SC.nil K Xb v_0 a_0) K Xb v_1 a_1) K (oL (oL (oF Xb))) x8.2.2.2.2.1 g7 x8.2.2.2.2.2) K Xb v10 a9) K (oL (oF Xb)) x18.2.2.1 g17 x18.2.2.2) K Xb v20 a19) K Xb x47 g48) } : Jn (Int) (V))) (ZQ (Fd:=FNd ({ oo:=fun x47=>[x8.2.2.2.2.2, x18.2.2.2], ss:=fun x47=>[some v_0, some v_1, some x8.2.2.2.2.1, some v10, some x18.2.2.1, some v20, some x47], sc:=fun g48 x47=>(SC.add (SC.add (SC.addO (SC.add (SC.addO (SC.add (SC.add SC.nil K Xb v_0 a_0) K Xb v_1 a_1) K (oL (oL (oF Xb))) x8.2.2.2.2.1 g7 x8.2.2.2.2.2) K Xb v10 a9) K (oL (oF Xb)) x18.2.2.1 g17 x18.2.2.2) K Xb v20 a19) K Xb x47 g48) } : Jn (Int) (V))) (Yo (Xl (K:=K) (Y2 (Xa (r:=Xb) 0 rfl (fun _ s=>(SC.r (SC.l (SC.l (SC.l (SC.l (SC.l (SC.l s))))))))) (Xg 1))) (Yo (Xl (K:=K) (Qh (Xa (r:=Xb) 3 rfl (fun _ s=>(SC.r (SC.l (SC.l (SC.l s)))))) (Xg 3))) (Xl (K:=K) (Qh (Xa (r:=Xb) 5 rfl (fun _ s=>(SC.r (SC.l s)))) (Xg 3))))) (XY (K:=K) (r:=Xb) 6 (EvB.sh (Yb (Yr (Za (Xg 2) (Xa (r:=Xb) 5 rfl (fun _ s=>(SC.r (SC.l s))))) (Xa (r:=Xb) 3 rfl (fun _ s=>(SC.r (SC.l (SC.l (SC.l s))))))) (Xg 3))) fun a49 v50=>(Xs (J:=_) (v50) (a49) rfl rfl (fun _ s=>(SC.i (SC.i (SC.i (SC.i (SC.i (SC.i (SC.i SC.t (SC.r (SC.l (SC.l (SC.l (SC.l (SC.l (SC.l (SC.l s))))))))) (SC.r (SC.l (SC.l (SC.l (SC.l (SC.l (SC.l s)))))))) (SC.r (SC.l (SC.l (SC.l (SC.l (SC.l s))))))) (SC.r (SC.l (SC.l (SC.l (SC.l s)))))) (SC.r (SC.l (SC.l (SC.l s))))) (SC.r (SC.l (SC.l s)))) (SC.r s))))) (Xs (J:=_) (x38) (g39) rfl rfl (fun _ s=>(SC.i (SC.i (SC.i (SC.i (SC.i (SC.i (SC.i SC.t (SC.r (SC.l (SC.l (SC.l (SC.l (SC.l (SC.l s)))))))) (SC.r (SC.l (SC.l (SC.l (SC.l (SC.l s))))))) (SC.r (SC.l (SC.l (SC.l (SC.l s)))))) (SC.r (SC.l (SC.l (SC.l s))))) (SC.r (SC.l (SC.l s)))) (SC.r (SC.l s))) (SC.r s))))) fun g58 x57=>(Qd (K:=K) (o:=(oF Xb)) (f:=fun a61=>(Res.ok (a61))) 4 1 rfl rfl rfl (fun _ s=>(SC.r (SC.l (SC.l s)))) (EvS.ev (Xt (r:=Xb) 6 rfl (fun _ s=>(SC.r s)))) fun a59 C60=>(Xs (J:=_) ((some v20), (some x57), x18.2.2.1, C60) ((g17 ++ [a59])) rfl rfl (fun _ s=>(SC.i (SC.i (SC.i (SC.i (SC.i SC.t (SC.r (SC.l (SC.l (SC.l (SC.l (SC.l (SC.l (SC.l s))))))))) (SC.r (SC.l (SC.l (SC.l (SC.l (SC.l (SC.l s)))))))) (SC.r (SC.l (SC.l (SC.l (SC.l (SC.l s))))))) (SC.r (SC.l (SC.l (SC.l (SC.l s)))))) (SC.r s))))))))) fun g62 x63=>(Qd (K:=K) (o:=(oL (oF Xb))) (f:=fun a66=>(Res.ok (a66))) 2 0 rfl rfl rfl (fun _ s=>(SC.r (SC.l (SC.l s)))) (Ye (o:=(oL (oF Xb))) 4 1 rfl rfl (fun _ s=>(SC.r s))) fun a64 C65=>(Xs (J:=_) ((some v10), (some x63.2.2.1), (x63.1), (x63.2.1), x8.2.2.2.2.1, C65) ((g7 ++ [a64])) rfl rfl (fun _ s=>(SC.i (SC.i (SC.i SC.t (SC.r (SC.l (SC.l (SC.l (SC.l (SC.l s))))))) (SC.r (SC.l (SC.l (SC.l (SC.l s)))))) (SC.r s)))))))) fun g68 x69=>(Xw (Ye (o:=(oL (oL (oF Xb)))) 2 0 rfl rfl (fun _ s=>(SC.r s))))))
theorem QC : FnScope ["_law_count", "_law_found", "_law_k", "_law_longer_here", "_law_one"] ["_law_count"] (Xh Ku):=⟨rfl, rfl, rfl, by decide +kernel, rfl, by decide +kernel, by decide +kernel⟩
set_option maxHeartbeats 4000000 in
theorem Cv (D : Def K mg "_law_lists" Ku ["_law_count"]) (g_longer : Fn P w K mg base 1 "_law_longer" ["_law_images", "_law_size"] (sp2 (rV Xb) Xb (oL (oL (oF Xb))) Qu K)) (Z : Blt mg) : Fn P w K mg base 2 "_law_lists" ["_law_count"] (sp1 Xb (oL (oL (oF Xb))) Vu K):=by
  refine Ym D QC (fun vs H Q E h=>?_) (fun f cdv A outer s H vs Q E hr h=>?_)
  . obtain ⟨v_0, a_0, b, rfl, _⟩:=h; rfl
  obtain ⟨v_0, a_0, b, rfl, h_0, hm, q⟩:=h
  have hu:=hu8 hr
  have hu1:=Yi hr
  refine ⟨_, (Xc (XA (i:=1) QC.nd rfl (Or.inl rfl) (XW (Xd (XW Xf) Xf ZL)))
    (Xc (XM PassesOwn.never rfl (Xy rfl Z.b_range (Xd (pv 0) Xf)) (Xn (i:=2) QC.nd rfl (Or.inl rfl))
      (Xc (XA (i:=3) QC.nd rfl (Or.inl rfl) (XW Xf))
      (Xc (XM PassesOwn.never rfl (XQ (K:=K) rfl (pv 1)) (Xn (i:=4) QC.nd rfl (Or.inl rfl))
        (Xc (Yg (Z6 PySem.F.plainAttrs_list PySem.F.slot_list_extend PySem.F.type_list_extend Va (pv 3) (Xd (X4 g_longer hr (by decide) (Xd (pv 4) (Xd (pv 0) Xf))) Xf)))
        Xe))
      (Xc (XA (i:=1) QC.nd rfl (Or.inl rfl) (pv 3))
      Xe))))
    (Xc (Xu (pv 1))
    Xe))), ?_⟩
  refine Yv (S:=(SC.add SC.nil K Xb v_0 a_0)) (σ:=[some v_0, none, none, none, none]) 2 ?_ (SC.i SC.t h_0) hm q rfl
  unfold Vu
  exact (XZ (K:=K) (o:=(oL (oL (oF Xb)))) 1 0 (Jd (YU (Z5 (o:=(oF Xb))) fun _=>QB)) (Nat.le_of_ble_eq_true rfl) fun a1 v2 C3=>(Y5 (K:=K) (J:=({ oo:=fun x8=>[x8.2.2.2.2, []], ss:=fun x8=>[some v_0, some x8.2.2.2.1, x8.1, x8.2.1, x8.2.2.1], sc:=fun g9 x8=>(SC.addO (SC.add SC.nil K Xb v_0 a_0) K (oL (oL (oF Xb))) x8.2.2.2.1 g9 x8.2.2.2.2) } : Jn ((List (List Int))) (Option V × Option V × Option V × V × List Xz))) (fun _=>tg1 2) ((none), (none), (none), v2, C3) (a1) (Xp (Xa (r:=Xb) 0 rfl (fun _ s=>(SC.r (SC.l s))))) rfl rfl (fun _ s=>(SC.i (SC.i SC.t (SC.r (SC.l s))) (SC.r s))) (fun g10 x11 a12 v13=>(XZ (K:=K) (o:=(oL (oL (oF Xb)))) 3 1 (Z5 (o:=(oL (oF Xb)))) (Nat.le_of_ble_eq_true rfl) fun a14 v15 C16=>(Du (K:=K) (o:=(oL (oL (oF Xb)))) 0 rfl (fun _ s=>(SC.r (SC.l (SC.l s)))) (Y5 (K:=K) (J:=({ oo:=fun x17=>[[], x17.2.2], ss:=fun x17=>[some v_0, some x11.2.2.2.1, some v13, some x17.2.1, x17.1], sc:=fun g18 x17=>(SC.addO (SC.add (SC.add (SC.add SC.nil K Xb v_0 a_0) K (rV (rV Xb)) x11.2.2.2.1 g10) K Xb v13 a12) K (oL (oL (oF Xb))) x17.2.1 g18 x17.2.2) } : Jn ((List (List Int))) (Option V × V × List Xz))) (fun _=>tg1 4) ((x11.2.2.1), v15, C16) (a14) (XU (Xt (r:=(rV (rV Xb))) 1 rfl (fun _ s=>(SC.r s)))) rfl rfl (fun _ s=>(SC.i (SC.i (SC.i (SC.i SC.t (SC.r (SC.l (SC.l (SC.l (SC.l s)))))) (SC.r s)) (SC.r (SC.l (SC.l s)))) (SC.r (SC.l s)))) (fun g19 x20 a21 v22=>(Fc (K:=K) (o:=(oL (oF Xb))) (f:=fun a28=>(Res.ok (a28))) 3 1 rfl rfl rfl (fun _ s=>(SC.r (SC.l s))) (XT (Xa (r:=(rV Xb)) 4 rfl (fun _ s=>(SC.r s))) (Xa (r:=Xb) 0 rfl (fun _ s=>(SC.r (SC.l (SC.l (SC.l (SC.l s)))))))) fun a26 C27=>(Xs (J:=_) ((some v22), x20.2.1, C27) ((g19 ++ a26)) rfl rfl (fun _ s=>(SC.i (SC.i (SC.i (SC.i SC.t (SC.r (SC.l (SC.l (SC.l (SC.l (SC.l s))))))) (SC.r (SC.l (SC.l (SC.l (SC.l s)))))) (SC.r (SC.l (SC.l (SC.l s))))) (SC.r s)))))) fun g29 x30=>(XZ (K:=K) (o:=(oL (oL (oF Xb)))) 1 0 (Ye (o:=(oL (oL (oF Xb)))) 3 1 rfl rfl (fun _ s=>(SC.r s))) (Nat.le_of_ble_eq_true rfl) fun a31 v32 C33=>(Xs (J:=_) ((some v13), (some x30.2.1), (x30.1), v32, C33) (a31) rfl rfl (fun _ s=>(SC.i (SC.i SC.t (SC.r (SC.l (SC.l (SC.l (SC.l s)))))) (SC.r s))))))))) fun g35 x36=>(Xw (Ye (o:=(oL (oL (oF Xb)))) 1 0 rfl rfl (fun _ s=>(SC.r s))))))
theorem JI : FnScope ["_law_found", "_law_size", "_law_drawn", "_law_k", "_law_j", "_law_alike"] ["_law_found", "_law_size", "_law_drawn"] (Xh Vo):=⟨rfl, rfl, rfl, by decide +kernel, rfl, by decide +kernel, by decide +kernel⟩
set_option maxHeartbeats 4000000 in
theorem Bb (D : Def K mg "_law_right" Vo ["_law_found", "_law_size", "_law_drawn"]) (g_is_table : Fn P w K mg base 2 "_law_is_table" ["_law_found", "_law_size"] (sp2 (rV (rV Xb)) Xb (oF XO) Zh K)) (g_good : Fn P w K mg base 1 "_law_good" ["_law_some"] (sp1 (rV (rV Xb)) (oF XO) VG K)) (g_every : Fn P w K mg base 2 "_law_every" ["_law_one", "_law_other"] (sp2 (rV (rV Xb)) (rV (rV Xb)) (oL (oL (oF Xb))) YW K)) (g_relaid : Fn P w K mg base 1 "_law_relaid" ["_law_some", "_law_spots"] (sp2 (rV (rV Xb)) (rV Xb) (oL (oL (oF Xb))) Zg K)) (g_lists : Fn P w K mg base 2 "_law_lists" ["_law_count"] (sp1 Xb (oL (oL (oF Xb))) Vu K)) (Z : Blt mg) : Fn P w K mg base 3 "_law_right" ["_law_found", "_law_size", "_law_drawn"] (sp3 (rV (rV (rV Xb))) Xb (rV (rV Xb)) (oF XO) ZZ K):=by
  refine Ym D JI (fun vs H Q E h=>?_) (fun f cdv A outer s H vs Q E hr h=>?_)
  . obtain ⟨v_0, v_1, v_2, a_0, a_1, a_2, b, rfl, _⟩:=h; rfl
  obtain ⟨v_0, v_1, v_2, a_0, a_1, a_2, b, rfl, h_0, h_1, h_2, hm, q⟩:=h
  have hu:=hu8 hr
  have hu1:=Yi hr
  refine ⟨_, (Xc (X6 (Q7 (Qk (Xq Zp rfl Z.b_isinstance PyProof.Rows.boot_isinstance (Xd (pv 0) (Xd (JQ (v:=V.ty "list") rfl Z.b_list PyProof.Rows.boot_list rfl) Xf)))))
      (Xc (Xu Z4)
      Xe)
      Xe)
    (Xc (XM PassesOwn.never rfl (Xy rfl Z.b_range (Xd (Xq (Xj K rfl) rfl Z.b_len PySem.boot_len (Xd (pv 0) Xf)) Xf)) (Xn (i:=3) JI.nd rfl (Or.inl rfl))
      (Xc (X6 (PW.pt (EJ (Q7 (Qk (X4 g_is_table hr (by decide) (Xd (XH (Xm K rfl) (pv 0) (pv 3) (fun _ _=>rfl)) (Xd (pv 1) Xf))))) (Fw (Q7 (Qk (X4 g_good hr (by decide) (Xd (XH (Xm K rfl) (pv 0) (pv 3) (fun _ _=>rfl)) Xf)))))))
        (Xc (Xu Z4)
        Xe)
        Xe)
      (Xc (X6 (PW.pt (Y3 (Xo Vg (pv 3) Xi (Xv _)) (ZI (Q7 (Xo (Ii DU K rfl (Dj (by decide) hu)) (XH (Xm K rfl) (pv 0) (XC Y4 (pv 3) Xi) (fun _ _=>rfl)) (XH (Xm K rfl) (pv 0) (pv 3) (fun _ _=>rfl)) (Xv _))))))
        (Xc (Xu Z4)
        Xe)
        Xe)
      (Xc (XM PassesOwn.never rfl (Xy rfl Z.b_range (Xd (pv 3) Xf)) (Xn (i:=4) JI.nd rfl (Or.inl rfl))
        (Xc (X6 (Xo Vg (Xq (Xj K rfl) rfl Z.b_len PySem.boot_len (Xd (X4 g_every hr (by decide) (Xd (XH (Xm K rfl) (pv 0) (pv 4) (fun _ _=>rfl)) (Xd (XH (Xm K rfl) (pv 0) (pv 3) (fun _ _=>rfl)) Xf))) Xf)) Xi (Xv _))
          (Xc (Xu Z4)
          Xe)
          Xe)
        Xe))
      Xe))))
    (Xc (KC 5 (Xh Vo) ["_law_found", "_law_size", "_law_drawn", "_law_k", "_law_j", "_law_alike"] ["_law_one"] [(2, "_law_drawn")] rfl JI.nd rfl rfl (XQ (K:=K) rfl (pv 0)) (YD (by decide)) (fun cl C s H ex E=>⟨Xn (i:=0) (show List.Nodup (["_law_one", "_law_drawn"] : List Str) by decide +kernel) rfl (Or.inl rfl), (JU (Xo Vg (Xq (Xj K rfl) rfl Z.b_len PySem.boot_len (Xd (X4 g_every hr (by decide) (Xd (pv 1) (Xd (pv 0) Xf))) Xf)) Xi (Xv _))), (pv 0)⟩))
    (Xc (Xu (Jl (Ik (Hf (Hf (Hf eq_int))) (Dj (by decide) hu)) (pv 5) (XW (Xd (Xq (Df DU K rfl rfl (Dj (by decide) hu)) rfl Z.b_min PyProof.Rows.boot_min (Xd (Y1 (sc:=(Xh Vo)) (N0:=["_law_found", "_law_size", "_law_drawn", "_law_k", "_law_j", "_law_alike"]) (tns:=["_law_spots"]) (caps:=[(2, "_law_drawn")]) rfl (XQ (K:=K) rfl (X4 g_lists hr (by decide) (Xd (pv 1) Xf))) (YD (by decide)) (fun cl C s H ex E=>⟨Xn (i:=0) (show List.Nodup (["_law_spots", "_law_drawn"] : List Str) by decide +kernel) rfl (Or.inl rfl), ZD, (X4 g_relaid hr (by decide) (Xd (pv 1) (Xd (pv 0) Xf)))⟩)) Xf)) Xf)) (Xv _)))
    Xe)))), ?_⟩
  refine Yv (S:=(SC.add (SC.add (SC.add SC.nil K (rV (rV (rV Xb))) v_0 a_0) K Xb v_1 a_1) K (rV (rV Xb)) v_2 a_2)) (σ:=[some v_0, some v_1, some v_2, none, none, none]) 0 ?_ (SC.i (SC.i (SC.i SC.t h_0) h_1) h_2) hm q rfl
  unfold ZZ
  exact (Z1 (Qb (Vp (K:=K) (ZM "list" true (JK K "list") (Xa (r:=(rV (rV (rV Xb)))) 0 rfl (fun _ s=>(SC.r (SC.l (SC.l s)))))))) (Xw (EvS.ev (EvB.sh (Zl false)))) (Zn (K:=K) (J:=({ oo:=fun x6=>[], ss:=fun x6=>[some v_0, some v_1, some v_2, x6.1, x6.2, none], sc:=fun g7 x6=>(SC.add (SC.add (SC.add SC.nil K (rV (rV (rV Xb))) v_0 a_0) K Xb v_1 a_1) K (rV (rV Xb)) v_2 a_2) } : Jn (Unit) (Option V × Option V))) (fun _=>tg1 3) ((none), (none)) () (Xp (XS (Xa (r:=(rV (rV (rV Xb)))) 0 rfl (fun _ s=>(SC.r (SC.l (SC.l s))))))) rfl rfl (fun _ s=>(SC.i (SC.i (SC.i SC.t (SC.r (SC.l (SC.l s)))) (SC.r (SC.l s))) (SC.r s))) (fun g8 x9 a10 v11=>(YT (DF (Qb (Vp (K:=K) (Ev.toB (XT (Xx (Xa (r:=(rV (rV (rV Xb)))) 0 rfl (fun _ s=>(SC.r (SC.l (SC.l (SC.l s)))))) (Xa (r:=Xb) 3 rfl (fun _ s=>(SC.r s)))) (Xa (r:=Xb) 1 rfl (fun _ s=>(SC.r (SC.l (SC.l s))))))))) (Qb (Vp (K:=K) (Ev.toB (Yu (Xx (Xa (r:=(rV (rV (rV Xb)))) 0 rfl (fun _ s=>(SC.r (SC.l (SC.l (SC.l s)))))) (Xa (r:=Xb) 3 rfl (fun _ s=>(SC.r s))))))))) (Xw (EvS.ev (EvB.sh (Zl false)))) (YT (Yo (Xl (K:=K) (Qo (Xa (r:=Xb) 3 rfl (fun _ s=>(SC.r s))) (Xg 0))) (Qb (Xl (K:=K) (EB (lt:=ltG (ltG ltI)) (Xx (Xa (r:=(rV (rV (rV Xb)))) 0 rfl (fun _ s=>(SC.r (SC.l (SC.l (SC.l s)))))) (Yr (Xa (r:=Xb) 3 rfl (fun _ s=>(SC.r s))) (Xg 1))) (Xx (Xa (r:=(rV (rV (rV Xb)))) 0 rfl (fun _ s=>(SC.r (SC.l (SC.l (SC.l s)))))) (Xa (r:=Xb) 3 rfl (fun _ s=>(SC.r s)))))))) (Xw (EvS.ev (EvB.sh (Zl false)))) (ZB (K:=K) (J:=({ oo:=fun x37=>[], ss:=fun x37=>[some v_0, some v_1, some v_2, some v11, x37, none], sc:=fun g38 x37=>(SC.add (SC.add (SC.add (SC.add SC.nil K (rV (rV (rV Xb))) v_0 a_0) K Xb v_1 a_1) K (rV (rV Xb)) v_2 a_2) K Xb v11 a10) } : Jn (Unit) (Option V))) (fun _=>tg1 4) ((x9.2)) () (Xp (Xa (r:=Xb) 3 rfl (fun _ s=>(SC.r s)))) rfl rfl (fun _ s=>(SC.i (SC.i (SC.i (SC.i SC.t (SC.r (SC.l (SC.l (SC.l s))))) (SC.r (SC.l (SC.l s)))) (SC.r (SC.l s))) (SC.r s))) (fun g39 x40 a41 v42=>(YT (Xl (K:=K) (Qo (XS (Ev.toB (XT (Xx (Xa (r:=(rV (rV (rV Xb)))) 0 rfl (fun _ s=>(SC.r (SC.l (SC.l (SC.l (SC.l s))))))) (Xa (r:=Xb) 4 rfl (fun _ s=>(SC.r s)))) (Xx (Xa (r:=(rV (rV (rV Xb)))) 0 rfl (fun _ s=>(SC.r (SC.l (SC.l (SC.l (SC.l s))))))) (Xa (r:=Xb) 3 rfl (fun _ s=>(SC.r (SC.l s)))))))) (Xg 0))) (Xw (EvS.ev (EvB.sh (Zl false)))) (Yq (Xs (J:=_) ((some v42)) () rfl rfl (fun _ s=>(SC.i (SC.i (SC.i (SC.i SC.t (SC.r (SC.l (SC.l (SC.l (SC.l s)))))) (SC.r (SC.l (SC.l (SC.l s))))) (SC.r (SC.l (SC.l s)))) (SC.r (SC.l s)))))))) fun g56 x57=>(Yq (Xs (J:=_) ((some v11), (x57)) () rfl rfl (fun _ s=>(SC.i (SC.i (SC.i SC.t (SC.r (SC.l (SC.l (SC.l s))))) (SC.r (SC.l (SC.l s)))) (SC.r (SC.l s)))))))))) fun g62 x63=>(XY (K:=K) (r:=(rV (rV (rV Xb)))) 5 (Ev.sh (JN (fun _=>tg1 0) (XU (Xt (r:=(rV (rV (rV Xb)))) 0 rfl (fun _ s=>(SC.r (SC.l (SC.l s)))))) (fun C66 a67 v68=>(Xl (K:=K) (Qo (XS (Ev.toB (XT (Xa (r:=(rV (rV Xb))) 1 rfl (fun _ s=>(SC.r (SC.l s)))) (Xa (r:=(rV (rV Xb))) 0 rfl (fun _ s=>(SC.r s)))))) (Xg 0)))) (fun C66 a67 v68=>(EvS.ev (Xt (r:=(rV (rV Xb))) 0 rfl (fun _ s=>(SC.r s))))))) fun a64 v65=>(Xw (EvS.ev (EvB.sh (EY (Xa (r:=(rV (rV (rV Xb)))) 5 rfl (fun _ s=>(SC.r s))) (Ev.toB (Jd (YU (EG (r:=rV (rV Xb)) (lt:=ltG (ltG ltI)) (ZJ (fun _=>tg1 0) (XU (Ev.sh (Yu (Xa (r:=Xb) 1 rfl (fun _ s=>(SC.r (SC.l (SC.l s)))))))) (fun C80 a81 v82=>(XT (Xa (r:=(rV (rV Xb))) 1 rfl (fun _ s=>(SC.r (SC.l (SC.l s))))) (Xa (r:=(rV Xb)) 0 rfl (fun _ s=>(SC.r s))))))) fun _=>QB))))))))))
theorem QT : FnScope ["_law_found", "_law_size", "_law_some", "_law_line"] ["_law_found", "_law_size"] (Xh KI):=⟨rfl, rfl, rfl, by decide +kernel, rfl, by decide +kernel, by decide +kernel⟩
set_option maxHeartbeats 4000000 in
theorem C0 (D : Def K mg "_law_apart" KI ["_law_found", "_law_size"])  (Z : Blt mg) : Fn P w K mg base 1 "_law_apart" ["_law_found", "_law_size"] (Lr (oL (oL (oL (oF Xb)))) Xb (oF XO) Ji K):=by
  refine Ym D QT (fun vs H Q E h=>?_) (fun f cdv A outer s H vs Q E hr h=>?_)
  . obtain ⟨v_0, v_1, a_0, a_1, b, rfl, _⟩:=h; rfl
  obtain ⟨v_0, v_1, a_0, a_1, b, rfl, C_0, hw, h_0, h_1, hm, q⟩:=h
  have hu:=hu8 hr
  have hu1:=Yi hr
  refine ⟨_, (Xc (XM PassesOwn.never rfl (XQ (K:=K) rfl (pv 0)) (Xn (i:=2) QT.nd rfl (Or.inl rfl))
      (Xc (XM PassesOwn.never rfl (XQ (K:=K) rfl (pv 2)) (Xn (i:=3) QT.nd rfl (Or.inl rfl))
        (Xc (Yg (Z6 PySem.F.plainAttrs_list PySem.F.slot_list_append PySem.F.type_list_append X8 (pv 3) (Xd Xi Xf)))
        Xe))
      Xe))
    (Xc (XM PassesOwn.never rfl (XQ (K:=K) rfl (pv 0)) (Xn (i:=2) QT.nd rfl (Or.inl rfl))
      (Xc (XM PassesOwn.never rfl (XQ (K:=K) rfl (pv 2)) (Xn (i:=3) QT.nd rfl (Or.inl rfl))
        (Xc (X6 (Xo JY (Xq (Xj K rfl) rfl Z.b_len PySem.boot_len (Xd (pv 3) Xf)) (XC YV (pv 1) Xi) (Xv _))
          (Xc (Xu Z4)
          Xe)
          Xe)
        Xe))
      Xe))
    (Xc (Xu Z4)
    Xe))), ?_⟩
  refine Ht (S:=(SC.add (SC.addO SC.nil K (oL (oL (oL (oF Xb)))) v_0 a_0 C_0) K Xb v_1 a_1)) (σ:=[some v_0, some v_1, none, none]) 1 0 (by decide) ?_ hw (SC.i (SC.i SC.t h_0) h_1) hm q rfl
  unfold Ji
  exact (Dp (K:=K) (f:=fun a4=>(Res.bind (Cg (fun a7=>(Res.bind (Res.bind (Res.ok a7) fun x9=>(Res.ok (x9.length : Int))) fun x12=>(Res.bind (Res.bind (Res.ok a_1) fun x10=>(Res.bind (Res.ok (1 : Int)) fun x11=>(Res.ok (x10 + x11)))) fun x13=>(Res.ok (!(decide (x12 = x13))))))) (List.flatten a4)) fun x8=>(Res.ok (x8, a4)))) 0 2 3 0 9 rfl (by decide) (Nat.le_of_ble_eq_true rfl) (Nat.le_of_ble_eq_true rfl) rfl (fun _ s=>(SC.r (SC.l s))) fun C1 w2 w3=>(EK (K:=K) (as:=(a_0.map (fun t=>t.map (· ++ [9])))) (c:=fun a7=>(Res.bind (Res.bind (Res.ok a7) fun x9=>(Res.ok (x9.length : Int))) fun x12=>(Res.bind (Res.bind (Res.ok a_1) fun x10=>(Res.bind (Res.ok (1 : Int)) fun x11=>(Res.ok (x10 + x11)))) fun x13=>(Res.ok (!(decide (x12 = x13))))))) 0 2 3 0 rfl (by decide) (Nat.le_of_ble_eq_true rfl) (Nat.le_of_ble_eq_true rfl) rfl (fun _ s=>(SC.r s)) fun w5 v6 a7=>(Xl (K:=K) (Qq (XS (Xa (r:=(rV Xb)) 3 rfl (fun _ s=>(SC.r s)))) (Yl (Xa (r:=Xb) 1 rfl (fun _ s=>(SC.r (SC.l (SC.l s))))) (Xg 1))))))
theorem QH : FnScope ["_law_script", "_law_some", "_law_size", "_law_drawn", "_law_found", "_law_count", "_law_again"] ["_law_script"] (Xh Uh):=⟨rfl, rfl, rfl, by decide +kernel, rfl, by decide +kernel, by decide +kernel⟩
set_option maxHeartbeats 4000000 in
theorem HH {f : Addr} {fd : FuncData} (F : Fun K "law" "law" Uh f fd) (g_row : Fn P w K mg base 2 "_law_row" ["_law_script", "_law_place", "_law_sizes"] (sp3 (rL Xb) Xb (rV Xb) (oL (oF Xb)) GR K)) (g_made : Fn P w K mg base 2 "_law_made" ["_law_way", "_law_size", "_law_factor"] (sp3 Xb Xb Xb (oL (oL (oF Xb))) VN K)) (g_relaid : Fn P w K mg base 1 "_law_relaid" ["_law_some", "_law_spots"] (sp2 (rV (rV Xb)) (rV Xb) (oL (oL (oF Xb))) Zg K)) (g_kinds : Fn P w K mg base 5 "kinds" ["size"] (sp1 Xb (oL (oL (oL (oF Xb)))) ZF K)) (g_rare : Fn P w K mg base 1 "_law_rare" ["_law_way", "_law_size"] (sp2 Xb Xb (oL (oL (oF Xb))) Ju K)) (g_ordered : Fn P w K mg base 1 "_law_ordered" ["_law_some", "_law_count"] (sp2 (rV Xb) Xb (oL (oF Xb)) ZK K)) (g_right : Fn P w K mg base 3 "_law_right" ["_law_found", "_law_size", "_law_drawn"] (sp3 (rV (rV (rV Xb))) Xb (rV (rV Xb)) (oF XO) ZZ K)) (g_apart : Fn P w K mg base 1 "_law_apart" ["_law_found", "_law_size"] (Lr (oL (oL (oL (oF Xb)))) Xb (oF XO) Ji K)) (Z : Blt mg) : FnOk P w K mg base CX0 6 f fd ["_law_script"] (sp1 (rL Xb) (oF XO) KB K):=by
  refine F.ok QH (fun vs H Q E h=>?_) (fun cdv A outer s H vs Q E hr h=>?_)
  . obtain ⟨v_0, a_0, b, rfl, _⟩:=h; rfl
  obtain ⟨v_0, a_0, b, rfl, h_0, hm, q⟩:=h
  have hu:=hu8 hr
  have hu1:=Yi hr
  refine ⟨_, (Xc (XA (i:=1) QH.nd rfl (Or.inl rfl) (X4 g_row hr (by decide) (Xd (pv 0) (Xd Xi (Xd (XC Gf (XW (Xd Xi (Xd Xi (Xd Xi (Xd Xi Xf))))) (XC IG (XW (Xd Xi Xf)) Xi)) Xf)))))
    (Xc (XA (i:=2) QH.nd rfl (Or.inl rfl) Xi)
    (Xc (X6 (Xo Vg (XH (Xm K rfl) (pv 1) Xi (fun _ _=>rfl)) Xi (Xv _))
      (Xc (XA (i:=2) QH.nd rfl (Or.inl rfl) (XC YV Xi (XC YE (XH (Xm K rfl) (pv 1) Xi (fun _ _=>rfl)) Xi)))
      Xe)
      Xe)
    (Xc (XA (i:=3) QH.nd rfl (Or.inl rfl) (X4 g_made hr (by decide) (Xd (XC YE (XH (Xm K rfl) (pv 1) Xi (fun _ _=>rfl)) Xi) (Xd (pv 2) (Xd (XC YV Xi (XH (Xm K rfl) (pv 1) Xi (fun _ _=>rfl))) Xf)))))
    (Xc (X6 (PW.pt (Y3 (Xo Qf (pv 2) Xi (Xv _)) (ZI (Xo Vg (XH (Xm K rfl) (pv 1) Xi (fun _ _=>rfl)) Xi (Xv _)))))
      (Xc (XA (i:=3) QH.nd rfl (Or.inl rfl) (X4 g_rare hr (by decide) (Xd (XC Y4 (XH (Xm K rfl) (pv 1) Xi (fun _ _=>rfl)) Xi) (Xd Xi Xf))))
      Xe)
      Xe)
    (Xc (XA (i:=3) QH.nd rfl (Or.inl rfl) (X4 g_relaid hr (by decide) (Xd (pv 3) (Xd (X4 g_ordered hr (by decide) (Xd (Ua (Ur K rfl) (pv 1) (KP Xi) KJ) (Xd (pv 2) Xf))) Xf))))
    (Xc (XA (i:=4) QH.nd rfl (Or.inl rfl) (X4 g_kinds hr (by decide) (Xd (pv 2) Xf)))
    (Xc (X6 (Q7 (Qk (X4 g_right hr (by decide) (Xd (pv 4) (Xd (pv 2) (Xd (pv 3) Xf))))))
      (Xc (Xu Z4)
      Xe)
      Xe)
    (Xc (XA (i:=5) QH.nd rfl (Or.inl rfl) (Xq (Xj K rfl) rfl Z.b_len PySem.boot_len (Xd (pv 4) Xf)))
    (Xc (X6 (Q7 (Qk (X4 g_apart hr (by decide) (Xd (pv 4) (Xd (pv 2) Xf)))))
      (Xc (Xu Z4)
      Xe)
      Xe)
    (Xc (Yg (Z6 PySem.F.plainAttrs_list PySem.F.slot_list_append PySem.F.type_list_append X8 (pv 4) (Xd (XW Xf) Xf ZL)))
    (Xc (XA (i:=6) QH.nd rfl (Or.inl rfl) (X4 g_kinds hr (by decide) (Xd (pv 2) Xf)))
    (Xc (Xu (DS (Jl Qf (Xq (Xj K rfl) rfl Z.b_len PySem.boot_len (Xd (pv 6) Xf)) (pv 5) (Xv _)) (Gc (LC (Jl Vg (pv 2) Xi (Xv _)) (Gc (X4 g_right hr (by decide) (Xd (pv 6) (Xd (pv 2) (Xd (pv 3) Xf)))))))))
    Xe))))))))))))), ?_⟩
  refine Yv (S:=(SC.add SC.nil K (rL Xb) v_0 a_0)) (σ:=[some v_0, none, none, none, none, none, none]) 1 ?_ (SC.i SC.t h_0) hm q rfl
  unfold KB
  exact (XY (K:=K) (r:=(rV Xb)) 1 (Ev.sh (Qy (Xa (r:=(rL Xb)) 0 rfl (fun _ s=>(SC.r s))) (Xg 1) (Ev.toB (K8 (Ev.ls (QK (XI (EvB.sh (Xg 4)) (XI (EvB.sh (Xg 9)) (XI (EvB.sh (Xg 2)) (XI (EvB.sh (Xg 3)) Y6)))))) (Ev.ls (HJ (Ev.ls (QK (XI (EvB.sh (Xg 24)) Y6))) (Xg 4))))))) fun a1 v2=>(XY (K:=K) (r:=Xb) 2 (EvB.sh (Xg 4)) fun a23 v24=>(Zs (J:=({ oo:=fun x30=>[[]], ss:=fun x30=>[some v_0, some v2, some x30, none, none, none, none], sc:=fun g31 x30=>(SC.add (SC.add (SC.add SC.nil K (rL Xb) v_0 a_0) K (rV Xb) v2 a1) K Xb x30 g31) } : Jn (Int) (V))) (ZQ (Fd:=FNd ({ oo:=fun x30=>[[]], ss:=fun x30=>[some v_0, some v2, some x30, none, none, none, none], sc:=fun g31 x30=>(SC.add (SC.add (SC.add SC.nil K (rL Xb) v_0 a_0) K (rV Xb) v2 a1) K Xb x30 g31) } : Jn (Int) (V))) (Xl (K:=K) (Qo (Xx (Xa (r:=(rV Xb)) 1 rfl (fun _ s=>(SC.r (SC.l s)))) (Xg 3)) (Xg 0))) (XY (K:=K) (r:=Xb) 2 (EvB.sh (Yl (Xg 1) (Yb (Xx (Xa (r:=(rV Xb)) 1 rfl (fun _ s=>(SC.r (SC.l s)))) (Xg 0)) (Xg 3)))) fun a32 v33=>(Xs (J:=_) (v33) (a32) rfl rfl (fun _ s=>(SC.i (SC.i (SC.i SC.t (SC.r (SC.l (SC.l (SC.l s))))) (SC.r (SC.l (SC.l s)))) (SC.r s))))) (Xs (J:=_) (v24) (a23) rfl rfl (fun _ s=>(SC.i (SC.i (SC.i SC.t (SC.r (SC.l (SC.l s)))) (SC.r (SC.l s))) (SC.r s))))) fun g41 x40=>(XY (K:=K) (r:=(rV (rV Xb))) 3 (Ev.sh (Qy (Yb (Xx (Xa (r:=(rV Xb)) 1 rfl (fun _ s=>(SC.r (SC.l s)))) (Xg 1)) (Xg 7)) (Xa (r:=Xb) 2 rfl (fun _ s=>(SC.r s))) (Yl (Xg 1) (Xx (Xa (r:=(rV Xb)) 1 rfl (fun _ s=>(SC.r (SC.l s)))) (Xg 2))))) fun a42 v43=>(Zs (J:=({ oo:=fun x63=>[[]], ss:=fun x63=>[some v_0, some v2, some x40, some x63, none, none, none], sc:=fun g64 x63=>(SC.add (SC.add (SC.add (SC.add SC.nil K (rL Xb) v_0 a_0) K (rV Xb) v2 a1) K Xb x40 g41) K (rV (rV Xb)) x63 g64) } : Jn ((List (List Int))) (V))) (ZQ (Fd:=FNd ({ oo:=fun x63=>[[]], ss:=fun x63=>[some v_0, some v2, some x40, some x63, none, none, none], sc:=fun g64 x63=>(SC.add (SC.add (SC.add (SC.add SC.nil K (rL Xb) v_0 a_0) K (rV Xb) v2 a1) K Xb x40 g41) K (rV (rV Xb)) x63 g64) } : Jn ((List (List Int))) (V))) (Yo (Xl (K:=K) (Y2 (Xa (r:=Xb) 2 rfl (fun _ s=>(SC.r (SC.l s)))) (Xg 4))) (Xl (K:=K) (Qo (Xx (Xa (r:=(rV Xb)) 1 rfl (fun _ s=>(SC.r (SC.l (SC.l s))))) (Xg 1)) (Xg 6)))) (XY (K:=K) (r:=(rV (rV Xb))) 3 (Ev.sh (XT (Yr (Xx (Xa (r:=(rV Xb)) 1 rfl (fun _ s=>(SC.r (SC.l (SC.l s))))) (Xg 1)) (Xg 7)) (Xg 4))) fun a65 v66=>(Xs (J:=_) (v66) (a65) rfl rfl (fun _ s=>(SC.i (SC.i (SC.i (SC.i SC.t (SC.r (SC.l (SC.l (SC.l (SC.l s)))))) (SC.r (SC.l (SC.l (SC.l s))))) (SC.r (SC.l (SC.l s)))) (SC.r s))))) (Xs (J:=_) (v43) (a42) rfl rfl (fun _ s=>(SC.i (SC.i (SC.i (SC.i SC.t (SC.r (SC.l (SC.l (SC.l s))))) (SC.r (SC.l (SC.l s)))) (SC.r (SC.l s))) (SC.r s))))) fun g75 x74=>(XY (K:=K) (r:=(rV (rV Xb))) 3 (Ev.sh (XT (Xa (r:=(rV (rV Xb))) 3 rfl (fun _ s=>(SC.r s))) (Ev.toB (XT (Ev.toB (Gh (EvS.ls (Xt (r:=(rV Xb)) 1 rfl (fun _ s=>(SC.r (SC.l (SC.l s)))))) (Uc (K:=K) (Xg 4)) V6)) (Xa (r:=Xb) 2 rfl (fun _ s=>(SC.r (SC.l s)))))))) fun a76 v77=>(XZ (K:=K) (o:=(oL (oL (oL (oF Xb))))) 4 0 (Yu (Xa (r:=Xb) 2 rfl (fun _ s=>(SC.r (SC.l (SC.l s)))))) (Nat.le_of_ble_eq_true rfl) fun a88 v89 C90=>(Z1 (Qb (Vp (K:=K) (Ev.toB (Qy (QS (o:=(oL (oL (oL (oF Xb))))) 4 0 rfl rfl (fun _ s=>(SC.r s))) (Xa (r:=Xb) 2 rfl (fun _ s=>(SC.r (SC.l (SC.l (SC.l s)))))) (Xa (r:=(rV (rV Xb))) 3 rfl (fun _ s=>(SC.r (SC.l s)))))))) (Xw (EvS.ev (EvB.sh (Zl false)))) (XY (K:=K) (r:=Xb) 5 (EvB.sh (XS (QS (o:=(oL (oL (oL (oF Xb))))) 4 0 rfl rfl (fun _ s=>(SC.r s))))) fun a99 v100=>(GI (K:=K) (g:=fun (a104 : (List (List (List Int))))=>(Res.bind (Res.ok []) fun a106=>(chk (a104.length < sizeLine) ((fun a108=>(Res.bind (Res.bind (Res.ok g41) fun x112=>(noE (ZF x112))) fun a109=>(Jc (Res.bind (Res.bind (Res.ok a109) fun x113=>(Res.ok (x113.length : Int))) fun x114=>(Res.bind (Res.ok a99) fun x115=>(Res.ok (decide (x114 = x115))))) (orR (Res.bind (Res.ok g41) fun x116=>(Res.bind (Res.ok (3 : Int)) fun x117=>(Res.ok (decide (x117 < x116))))) (Res.bind (Res.ok a109) fun x119=>(Res.bind (Res.ok g41) fun x120=>(Res.bind (Res.ok a76) fun x121=>(noE (ZZ x119 x120 x121))))))))) (a104 ++ [a106]))))) 4 0 rfl rfl (fun _ s=>(SC.r (SC.l s))) (Xt (r:=Xb) 2 rfl (fun _ s=>(SC.r (SC.l (SC.l (SC.l (SC.l s))))))) fun a104 C105=>(Qd (K:=K) (o:=(oL (oL (oF Xb)))) (f:=fun a108=>(Res.bind (Res.bind (Res.ok g41) fun x112=>(noE (ZF x112))) fun a109=>(Jc (Res.bind (Res.bind (Res.ok a109) fun x113=>(Res.ok (x113.length : Int))) fun x114=>(Res.bind (Res.ok a99) fun x115=>(Res.ok (decide (x114 = x115))))) (orR (Res.bind (Res.ok g41) fun x116=>(Res.bind (Res.ok (3 : Int)) fun x117=>(Res.ok (decide (x117 < x116))))) (Res.bind (Res.ok a109) fun x119=>(Res.bind (Res.ok g41) fun x120=>(Res.bind (Res.ok a76) fun x121=>(noE (ZZ x119 x120 x121))))))))) 4 0 rfl rfl rfl (fun _ s=>(SC.r s)) (Z5 (o:=(oL (oF Xb)))) fun a106 C107=>(XY (K:=K) (r:=(rV (rV (rV Xb)))) 6 (Ev.sh (Yu (Xa (r:=Xb) 2 rfl (fun _ s=>(SC.r (SC.l (SC.l (SC.l (SC.l (SC.l (SC.l s))))))))))) fun a109 v110=>(Xw (EvS.ev (EvB.sh (VX (Y2 (XS (Xa (r:=(rV (rV (rV Xb)))) 6 rfl (fun _ s=>(SC.r s)))) (Xa (r:=Xb) 5 rfl (fun _ s=>(SC.r (SC.l (SC.l (SC.l s))))))) (EZ (Qo (Xa (r:=Xb) 2 rfl (fun _ s=>(SC.r (SC.l (SC.l (SC.l (SC.l (SC.l (SC.l (SC.l s)))))))))) (Xg 3)) (Ev.toB (Qy (Xa (r:=(rV (rV (rV Xb)))) 6 rfl (fun _ s=>(SC.r s))) (Xa (r:=Xb) 2 rfl (fun _ s=>(SC.r (SC.l (SC.l (SC.l (SC.l (SC.l (SC.l (SC.l s)))))))))) (Xa (r:=(rV (rV Xb))) 3 rfl (fun _ s=>(SC.r (SC.l (SC.l (SC.l (SC.l (SC.l s)))))))))))))))))))))))))))
end
theorem GH {K : PySem.W.Frag} {mg : Str -> Option Value} {h : Heap} (X : K.In h) (G : h.Ns mainGlobals mg) {x p0 : Str} {st : Stmt} {f : Addr} {oc : Value} {od an : Option Addr} {osl : Array (Option Value)} {kV doc pm cdv ct : Value} (hb : ∀ (kV doc pm : Value) (an : Option Addr) (cdv ct u0 : Value), bindArgs (PySem.W.fnOf x x (YM st) (Yx st) (Xh st) .none kV doc pm an cdv ct) ⟨[u0], []⟩ = pure ([p0].zip [u0])) (a : PySem.W.nsIn K mainGlobals x = some (some (.ref f))) (l : K.lookup f = some ⟨oc, od, .func (PySem.W.fnOf x x (YM st) (Yx st) (Xh st) .none kV doc pm an cdv ct), osl⟩) (c : PySem.W.codeIn K cdv x = true) (k : PySem.W.keepIn K (.ref f) = true) : Def K mg x st [p0]:=⟨f, _, Q0 l c k, (Q0 l c k).binds fun _ _ _ _ _ _ us hl=>(by obtain ⟨_, rfl⟩:=Iz hl; exact hb ..), PySem.W.mg_of X G a⟩
theorem UI {K : PySem.W.Frag} {mg : Str -> Option Value} {h : Heap} (X : K.In h) (G : h.Ns mainGlobals mg) {x p0 p1 : Str} {st : Stmt} {f : Addr} {oc : Value} {od an : Option Addr} {osl : Array (Option Value)} {kV doc pm cdv ct : Value} (hb : ∀ (kV doc pm : Value) (an : Option Addr) (cdv ct u0 u1 : Value), bindArgs (PySem.W.fnOf x x (YM st) (Yx st) (Xh st) .none kV doc pm an cdv ct) ⟨[u0, u1], []⟩ = pure ([p0, p1].zip [u0, u1])) (a : PySem.W.nsIn K mainGlobals x = some (some (.ref f))) (l : K.lookup f = some ⟨oc, od, .func (PySem.W.fnOf x x (YM st) (Yx st) (Xh st) .none kV doc pm an cdv ct), osl⟩) (c : PySem.W.codeIn K cdv x = true) (k : PySem.W.keepIn K (.ref f) = true) : Def K mg x st [p0, p1]:=⟨f, _, Q0 l c k, (Q0 l c k).binds fun _ _ _ _ _ _ us hl=>(by obtain ⟨_, _, rfl⟩:=Ic hl; exact hb ..), PySem.W.mg_of X G a⟩
theorem Hv {K : PySem.W.Frag} {mg : Str -> Option Value} {h : Heap} (X : K.In h) (G : h.Ns mainGlobals mg) {x p0 p1 p2 : Str} {st : Stmt} {f : Addr} {oc : Value} {od an : Option Addr} {osl : Array (Option Value)} {kV doc pm cdv ct : Value} (hb : ∀ (kV doc pm : Value) (an : Option Addr) (cdv ct u0 u1 u2 : Value), bindArgs (PySem.W.fnOf x x (YM st) (Yx st) (Xh st) .none kV doc pm an cdv ct) ⟨[u0, u1, u2], []⟩ = pure ([p0, p1, p2].zip [u0, u1, u2])) (a : PySem.W.nsIn K mainGlobals x = some (some (.ref f))) (l : K.lookup f = some ⟨oc, od, .func (PySem.W.fnOf x x (YM st) (Yx st) (Xh st) .none kV doc pm an cdv ct), osl⟩) (c : PySem.W.codeIn K cdv x = true) (k : PySem.W.keepIn K (.ref f) = true) : Def K mg x st [p0, p1, p2]:=⟨f, _, Q0 l c k, (Q0 l c k).binds fun _ _ _ _ _ _ us hl=>(by obtain ⟨_, _, _, rfl⟩:=Hy hl; exact hb ..), PySem.W.mg_of X G a⟩
theorem LJ {K : PySem.W.Frag} {mg : Str -> Option Value} {h : Heap} (X : K.In h) (G : h.Ns mainGlobals mg) {x p0 p1 p2 p3 p4 : Str} {st : Stmt} {f : Addr} {oc : Value} {od an : Option Addr} {osl : Array (Option Value)} {kV doc pm cdv ct : Value} (hb : ∀ (kV doc pm : Value) (an : Option Addr) (cdv ct u0 u1 u2 u3 u4 : Value), bindArgs (PySem.W.fnOf x x (YM st) (Yx st) (Xh st) .none kV doc pm an cdv ct) ⟨[u0, u1, u2, u3, u4], []⟩ = pure ([p0, p1, p2, p3, p4].zip [u0, u1, u2, u3, u4])) (a : PySem.W.nsIn K mainGlobals x = some (some (.ref f))) (l : K.lookup f = some ⟨oc, od, .func (PySem.W.fnOf x x (YM st) (Yx st) (Xh st) .none kV doc pm an cdv ct), osl⟩) (c : PySem.W.codeIn K cdv x = true) (k : PySem.W.keepIn K (.ref f) = true) : Def K mg x st [p0, p1, p2, p3, p4]:=⟨f, _, Q0 l c k, (Q0 l c k).binds fun _ _ _ _ _ _ us hl=>(by obtain ⟨_, _, _, _, _, rfl⟩:=Ld hl; exact hb ..), PySem.W.mg_of X G a⟩
theorem Hq {l : PySem.W.OpenLaw} {w : World} {K : PySem.W.Frag} {h : Heap} {mg : Str -> Option Value} {fa f : Addr} {tk0 : Tok} {tk1 : Tok} (X : K.In h) (G : h.Ns mainGlobals mg) (hfa : mg "law" = some (.ref fa)) {od an : Option Addr} {sl : Array (Option Value)} {oc kV dc pm cd ct : Value}
    (D1 : Def K mg "refuse_above" ZE ["most", "size"])
    (D2 : Def K mg "each_once" QO ["count"])
    (D3 : Def K mg "longer_by_one" Zk ["lists", "count"])
    (D4 : Def K mg "broken" Ui ["table"])
    (D5 : Def K mg "breach_of_one" Zi ["table"])
    (D6 : Def K mg "breach_of_two" YR ["table"])
    (D7 : Def K mg "first_same" Qp ["column"])
    (D8 : Def K mg "breach_of_three" YY ["table"])
    (D9 : Def K mg "tables" Q1 ["size"])
    (D10 : Def K mg "all_columns" Zf ["size"])
    (D11 : Def K mg "longer_by_columns" Yd ["choices", "columns"])
    (D12 : Def K mg "table_of_columns" X5 ["columns"])
    (D13 : Def K mg "like" Ca ["one", "other"])
    (D14 : Def K mg "refuse_big" Qg ["one", "other"])
    (D15 : Def K mg "searched" Jm ["one", "other"])
    (D16 : Def K mg "longer_images" YK ["images", "size"])
    (D17 : Def K mg "first_breach" ZG ["one", "other", "images"])
    (D18 : Def K mg "equation_broken" YZ ["one", "other", "images", "a", "b"])
    (D19 : Def K mg "kinds" Uf ["size"])
    (D20 : Def K mg "_law_cell" F8 ["_law_script", "_law_place"])
    (D21 : Def K mg "_law_mix" Ex ["_law_cell_here", "_law_k"])
    (D22 : Def K mg "_law_row" EW ["_law_script", "_law_place", "_law_sizes"])
    (D23 : Def K mg "_law_cell_of" Vq ["_law_way", "_law_size", "_law_factor", "_law_a", "_law_b"])
    (D24 : Def K mg "_law_common" Us ["_law_one", "_law_other"])
    (D25 : Def K mg "_law_made" K0 ["_law_way", "_law_size", "_law_factor"])
    (D26 : Def K mg "_law_ordered" Vv ["_law_some", "_law_count"])
    (D27 : Def K mg "_law_relaid" JM ["_law_some", "_law_spots"])
    (D28 : Def K mg "_law_is_whole" Jj ["_law_one"])
    (D29 : Def K mg "_law_is_table" Jh ["_law_found", "_law_size"])
    (D30 : Def K mg "_law_good" Gn ["_law_some"])
    (D31 : Def K mg "_law_stands" UC ["_law_one", "_law_other", "_law_images"])
    (D32 : Def K mg "_law_longer" JF ["_law_images", "_law_size"])
    (D33 : Def K mg "_law_every" KD ["_law_one", "_law_other"])
    (D34 : Def K mg "_law_rare" F4 ["_law_way", "_law_size"])
    (D35 : Def K mg "_law_lists" Ku ["_law_count"])
    (D36 : Def K mg "_law_right" Vo ["_law_found", "_law_size", "_law_drawn"])
    (D37 : Def K mg "_law_apart" KI ["_law_found", "_law_size"])
    (a : PySem.W.nsIn K mainGlobals "law" = some (some (.ref f))) (l0 : K.lookup f = some ⟨oc, od, .func (PySem.W.fnOf "law" "law" (YM Uh) (Yx Uh) (Xh Uh) .none kV dc pm an cd ct), sl⟩) (c : PySem.W.codeIn K cd "law" = true) (k : PySem.W.keepIn K (.ref f) = true)
    (z1 : PySem.W.nsIn K mainGlobals "abs" = some none)
    (z2 : PySem.W.nsIn K mainGlobals "all" = some none)
    (z3 : PySem.W.nsIn K mainGlobals "bool" = some none)
    (z4 : PySem.W.nsIn K mainGlobals "enumerate" = some none)
    (z5 : PySem.W.nsIn K mainGlobals "int" = some none)
    (z6 : PySem.W.nsIn K mainGlobals "isinstance" = some none)
    (z7 : PySem.W.nsIn K mainGlobals "len" = some none)
    (z8 : PySem.W.nsIn K mainGlobals "list" = some none)
    (z9 : PySem.W.nsIn K mainGlobals "max" = some none)
    (z10 : PySem.W.nsIn K mainGlobals "min" = some none)
    (z11 : PySem.W.nsIn K mainGlobals "range" = some none)
    (z12 : PySem.W.nsIn K mainGlobals "sorted" = some none)
    (w0 : PySem.W.nsIn K mainGlobals "MOST_OF_ALL" = some (some (.int 4 tk0)))
    (w1 : PySem.W.nsIn K mainGlobals "MOST_TO_COMPARE" = some (some (.int 6 tk1)))
    : ∃ fd : FuncData, (∀ (s : Shared) (v : Value), BindsTo s fd ⟨[v], []⟩ [("_law_script", v)]) /\ ∀ base : Heap, K.In base -> base.Ns mainGlobals mg -> FnOk l.prog w K mg base CX0 6 fa fd ["_law_script"] (sp1 (rL Xb) (oF XO) KB K):=by
  have e:=hfa.symm.trans (PySem.W.mg_of X G a)
  cases e
  have N : ∀ {x : Str}, PySem.W.nsIn K mainGlobals x = some none -> mg x = none:=fun z=>PySem.W.mg_none_of X G z
  have Z : Blt mg:=⟨N z1, N z2, N z3, N z4, N z5, N z6, N z7, N z8, N z9, N z10, N z11, N z12, ⟨_, PySem.W.mg_of X G w0, _, rfl⟩, ⟨_, PySem.W.mg_of X G w1, _, rfl⟩⟩
  refine ⟨PySem.W.fnOf "law" "law" (YM Uh) (Yx Uh) (Xh Uh) .none kV dc pm an cd ct, fun s v=>.of_eq rfl, fun base _ _=>?_⟩
  have g_cell:=EA (P:=l.prog) (w:=w) (base:=base) D20  Z
  have g_mix:=HR (P:=l.prog) (w:=w) (base:=base) D21  Z
  have g_row:=HF (P:=l.prog) (w:=w) (base:=base) D22 g_cell g_mix Z
  have g_common:=Fz (P:=l.prog) (w:=w) (base:=base) D24  Z
  have g_cell_of:=GN (P:=l.prog) (w:=w) (base:=base) D23  Z
  have g_made:=ER (P:=l.prog) (w:=w) (base:=base) D25 g_common g_cell_of Z
  have g_relaid:=Fv (P:=l.prog) (w:=w) (base:=base) D27  Z
  have g_refuse_above:=J4 (P:=l.prog) (w:=w) (base:=base) D1  Z
  have g_table_of_columns:=QQ (P:=l.prog) (w:=w) (base:=base) D12  Z
  have g_longer_by_one:=JD (P:=l.prog) (w:=w) (base:=base) D3  Z
  have g_each_once:=US (P:=l.prog) (w:=w) (base:=base) D2 g_longer_by_one Z
  have g_longer_by_columns:=QG (P:=l.prog) (w:=w) (base:=base) D11  Z
  have g_all_columns:=VC (P:=l.prog) (w:=w) (base:=base) D10 g_each_once g_longer_by_columns Z
  have g_breach_of_one:=Jw (P:=l.prog) (w:=w) (base:=base) D5  Z
  have g_first_same:=Uk (P:=l.prog) (w:=w) (base:=base) D7  Z
  have g_breach_of_two:=JA (P:=l.prog) (w:=w) (base:=base) D6 g_first_same Z
  have g_breach_of_three:=Ja (P:=l.prog) (w:=w) (base:=base) D8  Z
  have g_broken:=Dt (P:=l.prog) (w:=w) (base:=base) D4 g_breach_of_one g_breach_of_two g_breach_of_three Z
  have g_tables:=F9 (P:=l.prog) (w:=w) (base:=base) D9 g_refuse_above g_table_of_columns g_all_columns g_broken Z
  have g_refuse_big:=V1 (P:=l.prog) (w:=w) (base:=base) D14 g_refuse_above Z
  have g_equation_broken:=Q9 (P:=l.prog) (w:=w) (base:=base) D18  Z
  have g_first_breach:=J0 (P:=l.prog) (w:=w) (base:=base) D17 g_equation_broken Z
  have g_longer_images:=JC (P:=l.prog) (w:=w) (base:=base) D16  Z
  have g_searched:=KF (P:=l.prog) (w:=w) (base:=base) D15 g_first_breach g_longer_images Z
  have g_like:=Eb (P:=l.prog) (w:=w) (base:=base) D13 g_refuse_big g_searched Z
  have g_kinds:=CT (P:=l.prog) (w:=w) (base:=base) D19 g_tables g_like Z
  have g_rare:=B3 (P:=l.prog) (w:=w) (base:=base) D34  Z
  have g_ordered:=GQ (P:=l.prog) (w:=w) (base:=base) D26  Z
  have g_is_whole:=Ki (P:=l.prog) (w:=w) (base:=base) D28  Z
  have g_is_table:=Ks (P:=l.prog) (w:=w) (base:=base) D29 g_is_whole Z
  have g_good:=BU (P:=l.prog) (w:=w) (base:=base) D30  Z
  have g_longer:=FZ (P:=l.prog) (w:=w) (base:=base) D32  Z
  have g_stands:=De (P:=l.prog) (w:=w) (base:=base) D31  Z
  have g_every:=Bk (P:=l.prog) (w:=w) (base:=base) D33 g_longer g_stands Z
  have g_lists:=Cv (P:=l.prog) (w:=w) (base:=base) D35 g_longer Z
  have g_right:=Bb (P:=l.prog) (w:=w) (base:=base) D36 g_is_table g_good g_every g_relaid g_lists Z
  have g_apart:=C0 (P:=l.prog) (w:=w) (base:=base) D37  Z
  exact HH (P:=l.prog) (w:=w) (base:=base) (Q0 (st:=Uh) l0 c k) g_row g_made g_relaid g_kinds g_rare g_ordered g_right g_apart Z
theorem Mb {l : PySem.W.OpenLaw} {q : Program} {loose : List Str} {XP : (Str -> Option Value) -> Heap -> Prop} {YP : World -> Heap -> Prop} {d : DefRec} {K : Params -> PySem.W.Frag} (hn : l.most = some 63) (hdf : d.params.defaults = [])
    (hY : ∀ (w : World) (h : Heap), YP w h -> (K w.params).In h)
    (F : ∀ (w : World) (mg : Str -> Option Value) (fa : Addr) (h : Heap), (K w.params).In h -> h.Ns mainGlobals mg -> mg d.name = some (.ref fa) ->
      ∃ fd : FuncData, (∀ (s : Shared) (u : Value), BindsTo s fd ⟨[u], []⟩ [("_law_script", u)]) /\ ∀ base : Heap, (K w.params).In base -> base.Ns mainGlobals mg -> FnOk l.prog w (K w.params) mg base CX0 6 fa fd ["_law_script"] (sp1 (rL Xb) (oF XO) KB (K w.params))) :
    PySem.W.WalkO q loose XP YP l.row.toRowW d [] (fun f vs=>PySem.call f vs):=
  L2.BT (n:=63) (k:=6) (x:="_law_script") (CX:=fun _=>CX0) (sp:=fun w=>sp1 (rL Xb) (oF XO) KB (K w.params)) hn (by decide) hdf ⟨rfl, by decide, by decide⟩ hY F (fun _ _ a ns hl _ hS=>⟨.ref a, ns, true, rfl, ⟨a, _, rfl, hS, Kr ns⟩, Cn ns hl, fun v C H' w m ho=>ho.2⟩) fun _ _ _ _ _ z=>z
end My
open PySem PySem.W PyProof.Rows
set_option maxRecDepth 100000 in
set_option maxHeartbeats 0 in
theorem PySem.Challenge.cw_plait_k46_kinds_holds : PySem.Challenge.rw_plait_k46_kinds.Holds := by
  w_on; o_law; k_head; (case hw => w_witness2)
  k_fill
  refine My.Mb (l := PySem.Challenge.rw_plait_k46_kinds) rfl rfl (fun w h Y => PySem.W.kIn_of Y) ?F
  case F =>
    intro w mg fa h KX G hmg
    refine' My.Hq KX G hmg (My.UI KX G (by intros; rfl) ?a1 ?l1 ?c1 ?k1) (My.GH KX G (by intros; rfl) ?a2 ?l2 ?c2 ?k2) (My.UI KX G (by intros; rfl) ?a3 ?l3 ?c3 ?k3) (My.GH KX G (by intros; rfl) ?a4 ?l4 ?c4 ?k4) (My.GH KX G (by intros; rfl) ?a5 ?l5 ?c5 ?k5) (My.GH KX G (by intros; rfl) ?a6 ?l6 ?c6 ?k6) (My.GH KX G (by intros; rfl) ?a7 ?l7 ?c7 ?k7) (My.GH KX G (by intros; rfl) ?a8 ?l8 ?c8 ?k8) (My.GH KX G (by intros; rfl) ?a9 ?l9 ?c9 ?k9) (My.GH KX G (by intros; rfl) ?a10 ?l10 ?c10 ?k10) (My.UI KX G (by intros; rfl) ?a11 ?l11 ?c11 ?k11) (My.GH KX G (by intros; rfl) ?a12 ?l12 ?c12 ?k12) (My.UI KX G (by intros; rfl) ?a13 ?l13 ?c13 ?k13) (My.UI KX G (by intros; rfl) ?a14 ?l14 ?c14 ?k14) (My.UI KX G (by intros; rfl) ?a15 ?l15 ?c15 ?k15) (My.UI KX G (by intros; rfl) ?a16 ?l16 ?c16 ?k16) (My.Hv KX G (by intros; rfl) ?a17 ?l17 ?c17 ?k17) (My.LJ KX G (by intros; rfl) ?a18 ?l18 ?c18 ?k18) (My.GH KX G (by intros; rfl) ?a19 ?l19 ?c19 ?k19) (My.UI KX G (by intros; rfl) ?a20 ?l20 ?c20 ?k20) (My.UI KX G (by intros; rfl) ?a21 ?l21 ?c21 ?k21) (My.Hv KX G (by intros; rfl) ?a22 ?l22 ?c22 ?k22) (My.LJ KX G (by intros; rfl) ?a23 ?l23 ?c23 ?k23) (My.UI KX G (by intros; rfl) ?a24 ?l24 ?c24 ?k24) (My.Hv KX G (by intros; rfl) ?a25 ?l25 ?c25 ?k25) (My.UI KX G (by intros; rfl) ?a26 ?l26 ?c26 ?k26) (My.UI KX G (by intros; rfl) ?a27 ?l27 ?c27 ?k27) (My.GH KX G (by intros; rfl) ?a28 ?l28 ?c28 ?k28) (My.UI KX G (by intros; rfl) ?a29 ?l29 ?c29 ?k29) (My.GH KX G (by intros; rfl) ?a30 ?l30 ?c30 ?k30) (My.Hv KX G (by intros; rfl) ?a31 ?l31 ?c31 ?k31) (My.UI KX G (by intros; rfl) ?a32 ?l32 ?c32 ?k32) (My.UI KX G (by intros; rfl) ?a33 ?l33 ?c33 ?k33) (My.UI KX G (by intros; rfl) ?a34 ?l34 ?c34 ?k34) (My.GH KX G (by intros; rfl) ?a35 ?l35 ?c35 ?k35) (My.Hv KX G (by intros; rfl) ?a36 ?l36 ?c36 ?k36) (My.UI KX G (by intros; rfl) ?a37 ?l37 ?c37 ?k37) ?a38 ?l38 ?c38 ?k38 ?z1 ?z2 ?z3 ?z4 ?z5 ?z6 ?z7 ?z8 ?z9 ?z10 ?z11 ?z12 ?w0 ?w1
    (case a1 => k_is); (case l1 => k_is); (case c1 => k_is); (case k1 => k_is); (case a2 => k_is); (case l2 => k_is); (case c2 => k_is); (case k2 => k_is); (case a3 => k_is); (case l3 => k_is); (case c3 => k_is); (case k3 => k_is); (case a4 => k_is); (case l4 => k_is); (case c4 => k_is); (case k4 => k_is); (case a5 => k_is); (case l5 => k_is); (case c5 => k_is); (case k5 => k_is); (case a6 => k_is); (case l6 => k_is); (case c6 => k_is); (case k6 => k_is); (case a7 => k_is); (case l7 => k_is); (case c7 => k_is); (case k7 => k_is); (case a8 => k_is); (case l8 => k_is); (case c8 => k_is); (case k8 => k_is); (case a9 => k_is); (case l9 => k_is); (case c9 => k_is); (case k9 => k_is); (case a10 => k_is); (case l10 => k_is); (case c10 => k_is); (case k10 => k_is); (case a11 => k_is); (case l11 => k_is); (case c11 => k_is); (case k11 => k_is); (case a12 => k_is); (case l12 => k_is); (case c12 => k_is); (case k12 => k_is); (case a13 => k_is); (case l13 => k_is); (case c13 => k_is); (case k13 => k_is); (case a14 => k_is); (case l14 => k_is); (case c14 => k_is); (case k14 => k_is); (case a15 => k_is); (case l15 => k_is); (case c15 => k_is); (case k15 => k_is); (case a16 => k_is); (case l16 => k_is); (case c16 => k_is); (case k16 => k_is); (case a17 => k_is); (case l17 => k_is); (case c17 => k_is); (case k17 => k_is); (case a18 => k_is); (case l18 => k_is); (case c18 => k_is); (case k18 => k_is); (case a19 => k_is); (case l19 => k_is); (case c19 => k_is); (case k19 => k_is); (case a20 => k_is); (case l20 => k_is); (case c20 => k_is); (case k20 => k_is); (case a21 => k_is); (case l21 => k_is); (case c21 => k_is); (case k21 => k_is); (case a22 => k_is); (case l22 => k_is); (case c22 => k_is); (case k22 => k_is); (case a23 => k_is); (case l23 => k_is); (case c23 => k_is); (case k23 => k_is); (case a24 => k_is); (case l24 => k_is); (case c24 => k_is); (case k24 => k_is); (case a25 => k_is); (case l25 => k_is); (case c25 => k_is); (case k25 => k_is); (case a26 => k_is); (case l26 => k_is); (case c26 => k_is); (case k26 => k_is); (case a27 => k_is); (case l27 => k_is); (case c27 => k_is); (case k27 => k_is); (case a28 => k_is); (case l28 => k_is); (case c28 => k_is); (case k28 => k_is); (case a29 => k_is); (case l29 => k_is); (case c29 => k_is); (case k29 => k_is); (case a30 => k_is); (case l30 => k_is); (case c30 => k_is); (case k30 => k_is); (case a31 => k_is); (case l31 => k_is); (case c31 => k_is); (case k31 => k_is); (case a32 => k_is); (case l32 => k_is); (case c32 => k_is); (case k32 => k_is); (case a33 => k_is); (case l33 => k_is); (case c33 => k_is); (case k33 => k_is); (case a34 => k_is); (case l34 => k_is); (case c34 => k_is); (case k34 => k_is); (case a35 => k_is); (case l35 => k_is); (case c35 => k_is); (case k35 => k_is); (case a36 => k_is); (case l36 => k_is); (case c36 => k_is); (case k36 => k_is); (case a37 => k_is); (case l37 => k_is); (case c37 => k_is); (case k37 => k_is); (case a38 => k_is); (case l38 => k_is); (case c38 => k_is); (case k38 => k_is); (case z1 => k_is); (case z2 => k_is); (case z3 => k_is); (case z4 => k_is); (case z5 => k_is); (case z6 => k_is); (case z7 => k_is); (case z8 => k_is); (case z9 => k_is); (case z10 => k_is); (case z11 => k_is); (case z12 => k_is); (case w0 => k_is); (case w1 => k_is)
