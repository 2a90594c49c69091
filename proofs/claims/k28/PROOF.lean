import PyProof.Rows.All
import Wide.All
import OpenK.AllK
import Wide.FinOn
import Lean
import PyProof.EqAt
import PyProof.EqKinds
import PyProof.TupleCall
import PySem.Challenge.RW_plait_k28_parts_and_orbits
set_option Elab.async false
set_option linter.all false
set_option maxRecDepth 100000
namespace L2
open PySem PySem.Spec PyProof.Rows
noncomputable abbrev Key:=Sum Int Str
noncomputable def V1 : Key -> Value -> Bool
  | .inl k, v=>Value.isInt k v
  | .inr x, v=>Value.isStrOf x v
noncomputable def LZ (w : World) : Key -> Int
  | .inl k=>hashInt k
  | .inr x=>hashStr w x
theorem Yc : ∀ {k : Key} {v : Value}, V1 k v = true -> (∃ i t, k = Sum.inl i /\ v = Value.int i t) ∨ (∃ x t, k = Sum.inr x /\ v = Value.str x t)
  | .inl i, v, h=>by
    obtain ⟨t, e⟩:=Value.isInt_shape (k:=i) (v:=v) h
    exact .inl ⟨i, t, rfl, e⟩
  | .inr x, v, h=>by
    obtain ⟨t, e⟩:=Value.isStrOf_shape (x:=x) (v:=v) h
    exact .inr ⟨x, t, rfl, e⟩
theorem Dt (i : Int) (t : Tok) : V1 (.inl i) (.int i t) = true:=by simp [V1, Value.isInt]
theorem Fy (x : Str) (t : Tok) : V1 (.inr x) (.str x t) = true:=by simp [V1, Value.isStrOf]
theorem Iw (a b : Int) : decide ((Sum.inl a : Key) = Sum.inl b) = (a == b):=by
  by_cases e : a = b
  . subst e; simp
  . have h : ¬ (Sum.inl a : Key) = Sum.inl b := fun q => e (Sum.inl.inj q)
    rw [decide_eq_false h]
    exact (beq_eq_false_iff_ne.mpr e).symm
theorem HI (a b : Str) : decide ((Sum.inr a : Key) = Sum.inr b) = decide (a = b):=by
  by_cases e : a = b
  . subst e; simp
  . have h : ¬ (Sum.inr a : Key) = Sum.inr b := fun q => e (Sum.inr.inj q)
    rw [decide_eq_false h, decide_eq_false e]
theorem Iz (a : Int) (b : Str) : decide ((Sum.inl a : Key) = Sum.inr b) = false:=decide_eq_false (fun q=>nomatch q)
theorem HE (a : Str) (b : Int) : decide ((Sum.inr a : Key) = Sum.inl b) = false:=decide_eq_false (fun q=>nomatch q)
noncomputable def Yz (prog : Program) (w : World) : PySem.KeyKind prog w Key where
  is:=V1
  hash:=LZ w
  inj:=fun v a b ha hb=>by
    rcases Yc ha with ⟨i, t, rfl, rfl⟩ | ⟨x, t, rfl, rfl⟩
    . rcases Yc hb with ⟨j, u, rfl, e⟩ | ⟨y, u, rfl, e⟩
      . injection e with e1 _; rw [e1]
      . exact nomatch e
    . rcases Yc hb with ⟨j, u, rfl, e⟩ | ⟨y, u, rfl, e⟩
      . exact nomatch e
      . injection e with e1 _; rw [e1]
  byValue := fun k v h => by
    rcases Yc h with ⟨i, t, rfl, rfl⟩ | ⟨x, t, rfl, rfl⟩ <;> rfl
  pyHash:=fun hv h=>by
    rcases Yc hv with ⟨i, t, rfl, rfl⟩ | ⟨x, t, rfl, rfl⟩
    . exact wpAny_pyHash_int h
    . exact wpAny_pyHash_str h
  eqBool:=fun hu hv h=>by
    rcases Yc hu with ⟨i, t, rfl, rfl⟩ | ⟨x, t, rfl, rfl⟩
    . rcases Yc hv with ⟨j, u, rfl, rfl⟩ | ⟨y, u, rfl, rfl⟩
      . rw [Iw] at h; exact wpAny_eqBool_int h
      . rw [Iz] at h; exact SeqAt.EqAt.int_str i t y u _ _ _ _ h
    . rcases Yc hv with ⟨j, u, rfl, rfl⟩ | ⟨y, u, rfl, rfl⟩
      . rw [HE] at h; exact SeqAt.EqAt.str_int x t j u _ _ _ _ h
      . rw [HI] at h; exact wpAny_eqBool_str h
  «strs»:=fun k x t v h=>by
    rcases Yc h with ⟨i, u, rfl, e⟩ | ⟨y, u, rfl, e⟩
    . exact nomatch e
    . injection e with e1 _
      subst e1
      cases v <;> rfl
theorem KP (prog : Program) (w : World) (i : Int) (t : Tok) : (Yz prog w).is (.inl i) (.int i t) = true:=Dt i t
theorem KS (prog : Program) (w : World) (x : Str) (t : Tok) : (Yz prog w).is (.inr x) (.str x t) = true:=Fy x t
end L2
namespace L2
open PySem PySem.Spec PyProof.Rows
inductive V where
  | non | bl (b : Bool) | int (i : Int) | str (x : Str) | byt (b : Array UInt8) | flt (b : UInt64) | ref (a : Addr) | ty (n : String)
  deriving DecidableEq
noncomputable def X9 : V -> Value -> Prop
  | .non, u=>u = Value.none
  | .bl b, u=>u = Value.bool b
  | .int i, u=>∃ t, u = Value.int i t
  | .str x, u=>∃ t, u = Value.str x t
  | .byt b, u=>∃ t, u = Value.bytes b t
  | .flt b, u=>∃ t, u = Value.float b t
  | .ref a, u=>u = Value.ref a
  | .ty n, u=>u = Value.type n
noncomputable abbrev XX : List V -> List Value -> Prop:=Paired X9
theorem XX.length {xs : List V} {us : List Value} (r : XX xs us) : xs.length = us.length:=Paired.length r
theorem XX.get : ∀ {xs : List V} {us : List Value} {i : Nat} {x : V}, XX xs us -> xs[i]? = some x -> ∃ u, us[i]? = some u /\ X9 x u
  | _, _, _, _, .nil, e=>by simp at e
  | _, _, 0, _, .cons r _, e=>by simp at e; subst e; exact ⟨_, rfl, r⟩
  | _, _, i + 1, x, .cons _ t, e=>by
    obtain ⟨u, h1, h2⟩:=XX.get (i:=i) (x:=x) t (by simpa using e)
    exact ⟨u, by simpa using h1, h2⟩
theorem XX.set {x : V} {u : Value} (r : X9 x u) : ∀ {xs : List V} {us : List Value} (i : Nat), XX xs us -> XX (xs.set i x) (us.set i u)
  | _, _, _, .nil=>.nil
  | _, _, 0, .cons _ t=>.cons r t
  | _, _, i + 1, .cons q t=>.cons q (XX.set r i t)
theorem XX.append : ∀ {xs ys : List V} {us ws : List Value}, XX xs us -> XX ys ws -> XX (xs ++ ys) (us ++ ws)
  | _, _, _, _, .nil, s=>s
  | _, _, _, _, .cons r t, s=>.cons r (XX.append t s)
theorem XX.take : ∀ {xs : List V} {us : List Value} (n : Nat), XX xs us -> XX (xs.take n) (us.take n)
  | _, _, 0, _=>.nil
  | _, _, _ + 1, .nil=>.nil
  | _, _, n + 1, .cons r t=>.cons r (XX.take n t)
theorem XX.drop : ∀ {xs : List V} {us : List Value} (n : Nat), XX xs us -> XX (xs.drop n) (us.drop n)
  | _, _, 0, r=>r
  | _, _, _ + 1, .nil=>.nil
  | _, _, n + 1, .cons _ t=>XX.drop n t
noncomputable def Fa : Option V -> Option Value -> Prop
  | some v, some u=>X9 v u
  | none, none=>True
  | _, _=>False
noncomputable def KV {κ : Type} : List (κ × V) -> List (κ × Value) -> Prop:=Paired fun (p : κ × V) (q : κ × Value)=>p.1 = q.1 /\ X9 p.2 q.2
noncomputable def kV : Key -> V
  | .inl i=>.int i
  | .inr x=>.str x
inductive HO where
  /-- a list -/
  | lst (xs : List V)
  /-- a tuple (never changes) -/
  | tup (xs : List V)
  /-- a dict whose keys are ints and texts; one whose keys are tuples of ints and texts (the empty one is both) -/
  | dK (kvs : List (Key × V)) | dT (kvs : List (List Key × V))
  /-- a set of ints: its members, its size -/
  | set (S : Int -> Bool) (n : Nat)
  /-- an instance of the class at C, its dict at dx, its attributes -/
  | ins (C dx : Addr) (fs : List (Str × V))
  /-- the dict of the instance at x -/
  | own (x : Addr)
  /-- the dict of an exception -/
  | xd (fs : List (Str × V))
  /-- a bound method, f of x -/
  | met (f x : Addr)
  /-- a range object lo, lo + 1, .. below hi -/
  | rng (lo hi : Int)
  /-- a thing that is known to the object (the script; a dict while a loop walks it): read, never written while it is so -/
  | frz (o : Obj) (u : HO)
  /-- a code object's table -/
  | tbl (ps : Array Value)
  /-- any other thing, by what is true of its one object (a def of one's own: SetO a S n:=HO.ext fun h=>..) -/
  | ext (φ : Heap -> Prop)
noncomputable abbrev Hp:=Addr -> Option HO
noncomputable def upd (H : Hp) (a : Addr) (o : HO) : Hp:=fun b=>if b = a then some o else H b
theorem X8 {H : Hp} {a : Addr} {o : HO} : upd H a o a = some o:=by unfold upd; rw [if_pos rfl]
theorem Xp {H : Hp} {a b : Addr} {o : HO} (h : b ≠ a) : upd H a o b = H b:=by unfold upd; rw [if_neg h]
theorem CB {H : Hp} {a b : Addr} {o u : HO} (h : H a = some o) (h' : H b = some u) (d : o ≠ u) : a ≠ b:=by
  intro e; subst e; rw [h] at h'; exact d (Option.some.inj h')
theorem XS {H : Hp} {a b : Addr} {o : HO} (h : H a = some o) (h' : H b = none) : a ≠ b:=by
  intro e; subst e; rw [h] at h'; cases h'
section
variable (P : Program) (w : World)
noncomputable def Yi (H : Hp) (h : Heap) (a : Addr) : HO -> Prop
  | .lst xs=>xs.length <= sizeLine /\ ∃ (its : List Value) (n : Nat), XX xs its /\ h.get? a = some { cls:=.type "list", data:=.seq its.toArray n }
  | .tup xs=>xs.length <= sizeLine /\ ∃ its : List Value, XX xs its /\ IsTup h a its.toArray
  | .dK kvs=>kvs.length <= sizeLine /\ (a == sysModules) = false /\ ∃ vs, KV kvs vs /\ h.DictOf (Yz P w) a vs
  | .dT kvs=>kvs.length <= sizeLine /\ (a == sysModules) = false /\ ∃ xs : List (List Key × Addr × Value),
      Paired (fun (p : List Key × V) (q : List Key × Addr × Value)=>p.1 = q.1 /\ H q.2.1 = some (.tup (p.1.map kV)) /\ X9 p.2 q.2.2) kvs xs /\
      ∃ o es ep, h.get? a = some o /\ o.ExactDict /\ o.data = .dict es ep /\ es.toList = xs.map (entryOfKey (tupleKind (Yz P w))) /\ (xs.map (·.1)).Nodup
  | .set S n=>h.SetOf (intKind P w) a S n
  | .ins C dx fs=>H dx = some (.own a) /\ fs.length <= 1000 /\ dx ≠ a /\ h.get? a = some (PySem.W.instObj C dx) /\
      ∃ mA, h.Ns1 dx mA /\ (∀ f, Fa (fs.lookup f) (mA f)) /\ PySem.Within mA (fs.map (·.1))
  | .own _=>∃ o, h.get? a = some o
  | .xd fs=>∃ mA, h.Ns1 a mA /\ ∀ f, Fa (fs.lookup f) (mA f)
  | .rng lo hi=>∃ t u v, h.get? a = some { cls:=.type "range", data:=.fields #[.int lo t, .int hi u, .int 1 v] }
  | .frz o u=>h.get? a = some o /\ Yi H h a u
  | .tbl ps=>h.get? a = some { cls:=.none, data:=.fields ps }
  | .met f x=>h.get? a = some (PySem.W.methodObj (.ref f) (.ref x))
  | .ext φ=>φ h /\ (∃ o, h.get? a = some o) /\ ∀ h1 h2 : Heap, φ h1 -> (∀ o, h1.get? a = some o -> h2.get? a = some o) -> φ h2
noncomputable def HOk (H : Hp) (h : Heap) : Prop:=∀ a o, H a = some o -> Yi P w H h a o
end
section
variable {P : Program} {w : World} {H H' : Hp} {h h' : Heap} {a : Addr} {o : HO}
theorem Yi.lt (x : Yi P w H h a o) : a < h.objs.size:=by
  cases o with
  | lst xs=>obtain ⟨_, _, _, _, e⟩:=x; exact Heap.lt_size e
  | tup xs=>obtain ⟨_, _, _, p⟩:=x; exact p.lt
  | dK kvs=>obtain ⟨_, _, _, _, o, _, _, e, _⟩:=x; exact Heap.lt_size e
  | dT kvs=>obtain ⟨_, _, _, _, o, _, _, e, _⟩:=x; exact Heap.lt_size e
  | set S n=>obtain ⟨o, _, _, _, e, _⟩:=x; exact Heap.lt_size e
  | ins C dx fs=>obtain ⟨_, _, _, e, _⟩:=x; exact Heap.lt_size e
  | own y=>obtain ⟨_, e⟩:=x; exact Heap.lt_size e
  | xd fs=>obtain ⟨_, ⟨_, _, _, e, _⟩, _⟩:=x; exact Heap.lt_size e
  | rng lo hi=>obtain ⟨_, _, _, e⟩:=x; exact Heap.lt_size e
  | frz ob u=>obtain ⟨e, _⟩:=x; exact Heap.lt_size e
  | tbl ps=>exact Heap.lt_size (show h.get? a = some _ from x)
  | met f y=>exact Heap.lt_size (show h.get? a = some _ from x)
  | ext φ=>obtain ⟨_, ⟨_, e⟩, _⟩:=x; exact Heap.lt_size e
theorem Paired.mapP {α β : Type} {F G : α -> β -> Prop} : ∀ {l₁ : List α} {l₂ : List β}, Paired F l₁ l₂ -> (∀ a b, F a b -> G a b) -> Paired G l₁ l₂
  | _, _, .nil, _=>.nil
  | _, _, .cons r t, f=>.cons (f _ _ r) (Paired.mapP t f)
theorem Yi.stay (x : Yi P w H h a o) (k : ∀ b u, (b = a ∨ H b = some (.own a)) -> h.get? b = some u -> h'.get? b = some u)
    (ho : ∀ b, H b = some (.own a) -> H' b = some (.own a)) (ht : ∀ b xs, H b = some (.tup xs) -> H' b = some (.tup xs)) : Yi P w H' h' a o:=by
  induction o with
  | lst xs=>obtain ⟨z, its, n, r, e⟩:=x; exact ⟨z, its, n, r, k _ _ (.inl rfl) e⟩
  | tup xs=>obtain ⟨z, its, r, ob, e, c⟩:=x; exact ⟨z, its, r, ob, k _ _ (.inl rfl) e, c⟩
  | dK kvs=>obtain ⟨z, y, vs, r, ob, es, ep, e, c⟩:=x; exact ⟨z, y, vs, r, ob, es, ep, k _ _ (.inl rfl) e, c⟩
  | dT kvs=>
    obtain ⟨z, y, xs, r, ob, es, ep, e, c⟩:=x
    exact ⟨z, y, xs, Paired.mapP r fun p q z=>⟨z.1, ht _ _ z.2.1, z.2.2⟩, ob, es, ep, k _ _ (.inl rfl) e, c⟩
  | set S n=>obtain ⟨ob, es, ep, t, e, c⟩:=x; exact ⟨ob, es, ep, t, k _ _ (.inl rfl) e, c⟩
  | ins C dx fs=>
    obtain ⟨d, z, ne, e, mA, ⟨od, es, ep, e2, c⟩, r⟩:=x
    exact ⟨ho _ d, z, ne, k _ _ (.inl rfl) e, mA, ⟨od, es, ep, k _ _ (.inr d) e2, c⟩, r⟩
  | own y=>obtain ⟨ob, e⟩:=x; exact ⟨ob, k _ _ (.inl rfl) e⟩
  | xd fs=>obtain ⟨mA, ⟨od, es, ep, e, c⟩, r⟩:=x; exact ⟨mA, ⟨od, es, ep, k _ _ (.inl rfl) e, c⟩, r⟩
  | rng lo hi=>obtain ⟨t, u, v, e⟩:=x; exact ⟨t, u, v, k _ _ (.inl rfl) e⟩
  | frz ob u ih=>obtain ⟨e, q⟩:=x; exact ⟨k _ _ (.inl rfl) e, ih q⟩
  | tbl ps=>
    have e : h.get? a = some { cls:=.none, data:=.fields ps }:=x
    show h'.get? a = some { cls:=.none, data:=.fields ps }
    exact k a _ (.inl rfl) e
  | met f y=>
    have e : h.get? a = some (PySem.W.methodObj (.ref f) (.ref y)):=x
    show h'.get? a = some (PySem.W.methodObj (.ref f) (.ref y))
    exact k a _ (.inl rfl) e
  | ext φ=>obtain ⟨p, ⟨o, e⟩, st⟩:=x; exact ⟨st _ _ p fun o q=>k _ _ (.inl rfl) q, ⟨o, k _ _ (.inl rfl) e⟩, st⟩
theorem HOk.lt (x : HOk P w H h) (e : H a = some o) : a < h.objs.size:=(x a o e).lt
theorem HOk.fresh (x : HOk P w H h) (e : h.objs.size <= a) : H a = none:=by
  cases q : H a with
  | none=>rfl
  | some u=>exact absurd (Nat.lt_of_lt_of_le (x.lt q) e) (Nat.lt_irrefl _)
theorem HOk.kept (x : HOk P w H h) (k : ∀ b u, h.get? b = some u -> h'.get? b = some u) : HOk P w H h':=fun a o e=>
  (x a o e).stay (fun b u _ q=>k b u q) (fun _ q=>q) fun _ _ q=>q
theorem HOk.laid (x : HOk P w H h) (k : ∀ b u, h.get? b = some u -> h'.get? b = some u) (hp : h.objs.size <= a) (new : Yi P w (upd H a o) h' a o) : HOk P w (upd H a o) h':=fun b u e=>by
  have hn:=x.fresh hp
  by_cases hb : b = a
  . subst hb; rw [X8] at e; cases e; exact new
  . rw [Xp hb] at e
    exact (x b u e).stay (fun c v _ q=>k c v q) (fun c q=>by rw [Xp (XS q hn)]; exact q) fun c xs q=>by rw [Xp (XS q hn)]; exact q
end
noncomputable def Rd (H : Hp) (a : Addr) (u : HO) : Prop:=H a = some u ∨ ∃ o, H a = some (.frz o u)
theorem Rd.of {H : Hp} {a : Addr} {u : HO} (h : H a = some u) : Rd H a u:=.inl h
theorem Rd.ok {P : Program} {w : World} {H : Hp} {h : Heap} {a : Addr} {u : HO} (r : Rd H a u) (x : HOk P w H h) : Yi P w H h a u:=by
  rcases r with r | ⟨o, r⟩
  . exact x a u r
  . obtain ⟨_, q⟩ := x a _ r
    exact q
noncomputable def Mut : Option HO -> Prop
  | some (.lst _)=>True
  | some (.dK _)=>True
  | some (.dT _)=>True
  | some (.set _ _)=>True
  | some (.ins _ _ _)=>True
  | some (.ext _)=>True
  | _=>False
section
variable {P : Program} {w : World} {H : Hp} {h h' : Heap} {x e : Addr} {o' : HO}
theorem HOk.write (ok : HOk P w H h) (mu : Mut (H x)) (he : e = x ∨ H e = some (.own x)) (k : ∀ b u, b ≠ e -> h.get? b = some u -> h'.get? b = some u) (heo : ∃ u, h'.get? e = some u)
    (new : Yi P w (upd H x o') h' x o') : HOk P w (upd H x o') h':=fun b u q=>by
  have nown : ∀ c y, H c = some (.own y) -> c ≠ x:=fun c y r z=>by subst z; rw [r] at mu; exact mu
  have ntup : ∀ c xs, H c = some (.tup xs) -> c ≠ x:=fun c xs r z=>by subst z; rw [r] at mu; exact mu
  by_cases hb : b = x
  . subst hb; rw [X8] at q; cases q; exact new
  . rw [Xp hb] at q
    by_cases hbe : b = e
    . have q' : H b = some (.own x):=by
        rcases he with z | z
        . exact absurd (hbe.trans z) hb
        . rw [hbe]; exact z
      rw [q] at q'; cases q'
      obtain ⟨v, hv⟩:=heo
      exact ⟨v, by rw [hbe]; exact hv⟩
    . refine (ok b u q).stay (fun c v hc r => k c v ?_ r) (fun c r => by rw [Xp (nown c b r)]; exact r) fun c xs r => by rw [Xp (ntup c xs r)]; exact r
      rcases hc with rfl | hc
      . exact hbe
      . rintro rfl
        rcases he with z | z
        . exact nown c b hc z
        . rw [hc] at z; cases z; exact hb rfl
end
structure Un (fs ex : List Addr) (H H' : Hp) (h h' : Heap) : Prop where
  keep : ∀ b o, h.get? b = some o -> H b = none -> b ∉ fs -> b ∉ ex -> h'.get? b = some o
  slot : ∀ b o, h.get? b = some o -> H b = none -> b ∈ fs -> b ∉ ex -> ∃ sl, h'.get? b = some { o with slots:=sl }
  free : ∀ b o, h.get? b = some o -> H b = none -> b ∉ ex -> H' b = none
  there : ∀ b o, h.get? b = some o -> b ∉ ex -> ∃ o', h'.get? b = some o'
  tups : ∀ b xs, H b = some (.tup xs) -> H' b = some (.tup xs)
  frzs : ∀ b o u, H b = some (.frz o u) -> H' b = some (.frz o u)
  tbls : ∀ b ps, H b = some (.tbl ps) -> ∃ more, H' b = some (.tbl (ps ++ more))
section
variable {fs fs' ex ex' : List Addr} {H H1 H2 : Hp} {h h1 h2 h' : Heap} {a x e : Addr} {o : HO}
theorem Un.any (u : Un fs ex H H1 h h1) {b : Addr} {ob : Obj} (q : h.get? b = some ob) (n : H b = none) (hx : b ∉ ex) : ∃ sl, h1.get? b = some { ob with slots:=sl }:=by
  by_cases hb : b ∈ fs
  . exact u.slot b ob q n hb hx
  . exact ⟨ob.slots, u.keep b ob q n hb hx⟩
theorem Un.trans (a : Un fs ex H H1 h h1) (b : Un fs ex H1 H2 h1 h2) : Un fs ex H H2 h h2 where
  keep:=fun c ob q n hc hx=>b.keep c ob (a.keep c ob q n hc hx) (a.free c ob q n hx) hc hx
  slot:=fun c ob q n hc hx=>by
    obtain ⟨sl, e1⟩:=a.slot c ob q n hc hx
    obtain ⟨sl', e2⟩:=b.slot c _ e1 (a.free c ob q n hx) hc hx
    exact ⟨sl', e2⟩
  free:=fun c ob q n hx=>by
    obtain ⟨o', e1⟩:=a.there c ob q hx
    exact b.free c o' e1 (a.free c ob q n hx) hx
  there:=fun c ob q hx=>by
    obtain ⟨o', e1⟩:=a.there c ob q hx
    exact b.there c o' e1 hx
  tups:=fun c xs q=>b.tups c xs (a.tups c xs q)
  frzs:=fun c ob xs q=>b.frzs c ob xs (a.frzs c ob xs q)
  tbls:=fun c ps q=>by
    obtain ⟨m1, e1⟩:=a.tbls c ps q
    obtain ⟨m2, e2⟩:=b.tbls c _ e1
    exact ⟨m1 ++ m2, by rw [e2, Array.append_assoc]⟩
theorem Un.kept (k : ∀ b u, h.get? b = some u -> h'.get? b = some u) : Un fs ex H H h h':=
  ⟨fun b ob q _ _ _=>k b ob q, fun b ob q _ _ _=>⟨ob.slots, k b ob q⟩, fun _ _ _ n _=>n, fun b ob q _=>⟨ob, k b ob q⟩, fun _ _ q=>q, fun _ _ _ q=>q, fun _ ps q=>⟨#[], by rw [q]; simp⟩⟩
theorem Un.refl : Un fs ex H H h h:=Un.kept fun _ _ q=>q
theorem Un.laid (k : ∀ b u, h.get? b = some u -> h'.get? b = some u) (hp : h.objs.size <= a) (hn : H a = none) : Un fs ex H (upd H a o) h h' where
  keep:=fun b u q _ _ _=>k b u q
  slot:=fun b u q _ _ _=>⟨u.slots, k b u q⟩
  free:=fun b u q n _=>by rw [Xp (Nat.ne_of_lt (Nat.lt_of_lt_of_le (Heap.lt_size q) hp))]; exact n
  there:=fun b u q _=>⟨u, k b u q⟩
  tups:=fun b xs q=>by rw [Xp (XS q hn)]; exact q
  frzs:=fun b u xs q=>by rw [Xp (XS q hn)]; exact q
  tbls:=fun b ps q=>⟨#[], by rw [Xp (XS q hn), q]; simp⟩
theorem Un.write (mu : Mut (H x)) (he : e = x ∨ H e = some (.own x)) (k : ∀ b u, b ≠ e -> h.get? b = some u -> h'.get? b = some u) (heo : ∃ u, h'.get? e = some u) : Un fs ex H (upd H x o) h h':=by
  have hx : ∀ b, H b = none -> b ≠ x:=fun b n z=>by subst z; rw [n] at mu; exact mu
  have hb : ∀ b, H b = none -> b ≠ e:=fun b n z=>by
    subst z
    rcases he with r | r
    . exact hx b n r
    . rw [n] at r; cases r
  have hm : ∀ b u, H b = some u -> ¬ Mut (some u) -> b ≠ x:=fun b u q nm z=>by subst z; rw [q] at mu; exact nm mu
  refine ⟨fun b u q n _ _=>k b u (hb b n) q, fun b u q n _ _=>⟨u.slots, k b u (hb b n) q⟩, fun b u q n _=>by rw [Xp (hx b n)]; exact n, fun b u q _=>?_,
    fun b xs q=>by rw [Xp (hm b _ q fun z=>z)]; exact q, fun b u xs q=>by rw [Xp (hm b _ q fun z=>z)]; exact q, fun b ps q=>⟨#[], by rw [Xp (hm b _ q fun z=>z), q]; simp⟩⟩
  by_cases hbe : b = e
  . subst hbe; exact heo
  . exact ⟨u, k b u hbe q⟩
theorem Un.mono (u : Un fs ex H H1 h h1) (hs : ∀ b ∈ fs, b ∈ fs') (hx : ∀ b ∈ ex, b ∈ ex') : Un fs' ex' H H1 h h1:=
  ⟨fun b ob q n hb he=>u.keep b ob q n (fun z=>hb (hs b z)) fun z=>he (hx b z), fun _ _ q n _ he=>u.any q n fun z=>he (hx _ z), fun b ob q n he=>u.free b ob q n fun z=>he (hx b z), fun b ob q he=>u.there b ob q fun z=>he (hx b z), u.tups, u.frzs, u.tbls⟩
end
noncomputable def trk (h : Heap) (H : Hp) : List Addr:=(List.range h.objs.size).filter fun a=>(H a).isSome
noncomputable def Cl (h : Heap) (H : Hp) : Heap:=PySem.W.hideAll h (trk h H)
theorem F4 (h : Heap) (H : Hp) : (Cl h H).objs.size = h.objs.size:=PySem.W.hideAll_size _ _
theorem Gb {h : Heap} {H : Hp} {b : Addr} {o : Obj} (e : h.get? b = some o) (n : H b = none) : (Cl h H).get? b = some o:=
  PySem.W.hideAll_get _ e fun hm=>by
    have q : (H b).isSome = true:=(List.mem_filter.mp hm).2
    rw [n] at q; simp at q
theorem F3 {h : Heap} {H : Hp} {b : Addr} {o : Obj} (e : (Cl h H).get? b = some o) : h.get? b = some o /\ H b = none:=by
  have e' : h.get? b = some o:=PySem.W.of_hideAll (trk h H) e
  refine ⟨e', ?_⟩
  cases q : H b with
  | none=>rfl
  | some x=>
    have hm : b ∈ trk h H:=List.mem_filter.mpr ⟨List.mem_range.mpr (Heap.lt_size e'), by simp [q]⟩
    have z : (Cl h H).get? b = none:=PySem.W.hideAll_none (trk h H) hm
    rw [z] at e; cases e
noncomputable def Ea (g h : Heap) (L : Addr) : List (Addr × Obj):=(List.range h.objs.size).filterMap fun a=>if a = L ∨ (g.get? a).isSome = true then none else (h.get? a).map fun o=>(a, o)
noncomputable def ZH (g h : Heap) (L d : Addr) : List (Addr × Obj):=(Ea g h L).filter fun p=>decide (p.1 ≠ d)
end L2
namespace L2
open PySem PySem.Spec PyProof.Rows
structure Mod (K : PySem.W.Frag) (mg : Str -> Option Value) (base : Heap) : Prop where
  kin : K.In base
  glob : base.Ns mainGlobals mg
  blt : ∃ mb, base.Ns builtinsNs mb /\ ∀ x : Str, x ≠ "__name__" -> mb x = bootBuiltins x
  nolimit : base.NoLimit
structure Cx where
  prog : Program
  w : World
  K : PySem.W.Frag
  mg : Str -> Option Value
  base : Heap
  A : Around
  N : List Str
  s₀ : Shared
  H₀ : Hp
  env : Env
  outer : List Env
  stack : List Env
  ex : List Addr
  fn : Str -> Bool
  calm : Bool
  pn : List (Addr × Obj)
  xe : Value -> Shared -> Prop
noncomputable def frs (l : List Env) : List Addr:=l.filterMap (·.frame)
noncomputable abbrev Cx.fs (X : Cx) : List Addr:=frs X.outer
noncomputable def Vis (sc : Scope) (x : Str) : Prop:=sc.names.lookup x = some .local ∨ sc.names.lookup x = some .cell ∨ sc.names.lookup x = some .free
noncomputable def Loc (sc : Scope) (x : Str) : Prop:=sc.names.lookup x = some .local ∨ sc.names.lookup x = some .cell
noncomputable def LW (env : Env) (h : Heap) (m : Str -> Option Value) (x : Str) (u : Value) : Prop:=
  (env.kindOf x = some .local /\ m x = some u) ∨ ((env.kindOf x = some .cell ∨ env.kindOf x = some .free) /\ ∃ c, env.cells.lookup x = some c /\ h.IsCell c (some u))
structure Cx.Ok (X : Cx) : Prop where
  mod : Mod X.K X.mg X.base
  kind : X.env.scope.kind = .function
  glob : X.env.globals = mainGlobals
  blt : X.env.builtins = builtinsNs
  above : X.s₀.heap.objs.size <= X.env.locals
  inj : ∀ x y c, X.env.cells.lookup x = some c -> X.env.cells.lookup y = some c -> x = y
  has : ∀ x, (X.env.kindOf x = some .cell ∨ X.env.kindOf x = some .free) -> ∃ c, X.env.cells.lookup x = some c
  cab : ∀ x c, X.fn x = true -> X.env.cells.lookup x = some c -> X.s₀.heap.objs.size <= c
  hd : X.calm = true -> X.A.handled = none
  frames : X.A.frames = some X.stack
  stk : X.stack = X.outer ∨ (X.stack = X.env :: X.outer /\ X.env.frame = some X.env.locals)
  exf : ∀ b ∈ X.ex, b ≠ X.env.locals /\ ∀ x c, X.env.cells.lookup x = some c -> c ≠ b
  bs : ∀ b o, X.base.get? b = some o -> X.s₀.heap.get? b = some o /\ X.H₀ b = none
  bsz : X.base.objs.size <= X.s₀.heap.objs.size
  noex : ∀ b o, X.base.get? b = some o -> b ∉ X.ex
  exfs : ∀ b ∈ X.ex, b ∉ X.fs
  funs : X.s₀.heap.FunFrames X.base X.outer
  frf : ∀ b ∈ X.fs, X.H₀ b = none
structure Inv (X : Cx) (pins : List (Addr × Obj)) (σ : List (Option V)) (H : Hp) (s : Shared) : Prop where
  ok : X.Ok
  os : s.os = X.s₀.os
  bare : AllBare s.gens
  base : Un X.fs X.ex X.H₀ H X.s₀.heap s.heap
  loc : ∃ m, s.heap.Ns X.env.locals m /\ ∀ (i : Nat) (x : Str) (v : V), X.N[i]? = some x -> σ[i]? = some (some v) -> Vis X.env.scope x -> ∃ u, X9 v u /\ LW X.env s.heap m x u
  cell : ∀ x c, X.env.cells.lookup x = some c -> ∃ v, s.heap.IsCell c v
  free : H X.env.locals = none
  freeC : ∀ x c, X.env.cells.lookup x = some c -> H c = none
  pin : ∀ p ∈ X.pn ++ pins, s.heap.get? p.1 = some p.2 /\ H p.1 = none /\ p.1 ≠ X.env.locals /\ p.1 ∉ X.fs /\ ∀ v, p.2.data ≠ .cell v
  hok : HOk X.prog X.w H s.heap
  len : σ.length = X.N.length
section
variable {X : Cx} {pins : List (Addr × Obj)} {σ : List (Option V)} {H H' : Hp} {s : Shared} {h' : Heap}
theorem Cx.Ok.nofr (ok : X.Ok) {b : Addr} {o : Obj} (e : X.base.get? b = some o) : b ∉ X.fs:=fun hb=>by
  have:=(ok.funs.mem hb).1
  rw [e] at this; cases this
theorem Inv.bs (I : Inv X pins σ H s) : ∀ b o, X.base.get? b = some o -> s.heap.get? b = some o /\ H b = none:=fun b o e=>
  ⟨I.base.keep b o (I.ok.bs b o e).1 (I.ok.bs b o e).2 (I.ok.nofr e) (I.ok.noex b o e), I.base.free b o (I.ok.bs b o e).1 (I.ok.bs b o e).2 (I.ok.noex b o e)⟩
theorem Inv.bk (I : Inv X pins σ H s) : ∀ b o, X.base.get? b = some o -> s.heap.get? b = some o:=fun b o e=>(I.bs b o e).1
theorem Inv.mod (I : Inv X pins σ H s) : Mod X.K X.mg X.base:=I.ok.mod
theorem Inv.kIn (I : Inv X pins σ H s) : X.K.In s.heap:=I.ok.mod.kin.keeps I.bk
theorem Inv.nolimit (I : Inv X pins σ H s) : s.heap.NoLimit:=I.ok.mod.nolimit.keeps I.bk
theorem Inv.lt (I : Inv X pins σ H s) : X.env.locals < s.heap.objs.size:=let ⟨_, hn, _⟩:=I.loc; hn.lt
theorem Inv.sz (I : Inv X pins σ H s) : X.s₀.heap.objs.size <= s.heap.objs.size:=Nat.le_trans I.ok.above (Nat.le_of_lt I.lt)
theorem Inv.nofs (I : Inv X pins σ H s) {a : Addr} (h : s.heap.objs.size <= a) : a ∉ X.fs:=fun hb=>by
  obtain ⟨_, o, ho, _⟩:=I.ok.funs.mem hb
  exact absurd (Nat.lt_of_lt_of_le (Heap.lt_size ho) (Nat.le_trans I.sz h)) (Nat.lt_irrefl _)
theorem Inv.cne (I : Inv X pins σ H s) : ∀ x c, X.env.cells.lookup x = some c -> c ≠ X.env.locals:=fun x c e z=>by
  obtain ⟨v, o, ho, hd⟩:=I.cell x c e
  obtain ⟨m, ⟨o', es, ep, ho', hd', _⟩, _⟩:=I.loc
  rw [z, ho'] at ho; cases ho; rw [hd'] at hd; cases hd
theorem Inv.funs (I : Inv X pins σ H s) : s.heap.FunFrames X.base X.outer:=by
  have all : ∀ (l : List Env), (∀ b ∈ frs l, b ∈ X.fs) -> X.s₀.heap.FunFrames X.base l -> s.heap.FunFrames X.base l:=by
    intro l
    induction l with
    | nil=>intro _ _; trivial
    | cons env r ih=>
      intro hs hl
      obtain ⟨hk, ⟨L, o, hf, hn, ho, hd⟩, hr⟩:=hl
      have hL : L ∈ X.fs:=hs L (by unfold frs; rw [List.filterMap_cons, hf]; exact List.mem_cons_self)
      obtain ⟨sl, e⟩:=I.base.slot L o ho (I.ok.frf L hL) hL fun z=>I.ok.exfs L z hL
      exact ⟨hk, ⟨L, _, hf, hn, e, hd⟩, ih (fun b hb=>hs b (by unfold frs; rw [List.filterMap_cons, hf]; exact List.mem_cons_of_mem _ hb)) hr⟩
  exact all X.outer (fun _ hb=>hb) I.ok.funs
theorem Inv.stack (I : Inv X pins σ H s) : s.heap.FunFrames X.base X.stack:=by
  rcases I.ok.stk with e | ⟨e, hf⟩
  . rw [e]; exact I.funs
  . rw [e]
    obtain ⟨m, hn, _⟩:=I.loc
    refine .cons (by rw [I.ok.kind]; decide) hf hn ?_ I.funs
    exact Heap.get?_none_of_le (Nat.le_trans I.ok.bsz I.ok.above)
theorem Inv.stkSub (I : Inv X pins σ H s) : ∀ b ∈ frs X.stack, b ∈ X.env.locals :: X.fs:=fun b hb=>by
  rcases I.ok.stk with e | ⟨e, hf⟩
  . rw [e] at hb; exact List.mem_cons_of_mem _ hb
  . rw [e] at hb
    unfold frs at hb
    rw [List.filterMap_cons, hf] at hb
    exact hb
theorem Inv.stkFree (I : Inv X pins σ H s) : ∀ b ∈ frs X.stack, H b = none:=fun b hb=>by
  rcases List.mem_cons.mp (I.stkSub b hb) with e | hb
  . rw [e]; exact I.free
  . obtain ⟨_, o, ho, _⟩ := I.ok.funs.mem hb
    exact I.base.free b o ho (I.ok.frf b hb) fun z=>I.ok.exfs b z hb
theorem Inv.step {g' : Array GenState} {t' : Nat} {d' : Drawn} {ch : List Addr} (I : Inv X pins σ H s)
    (hch : ∀ b ∈ ch, (b ∈ X.ex ∨ X.s₀.heap.objs.size <= b) /\ b ≠ X.env.locals /\ (∀ x c, X.env.cells.lookup x = some c -> c ≠ b) /\ ∀ p ∈ X.pn ++ pins, p.1 ≠ b)
    (keep : ∀ b o, b ≠ X.env.locals -> b ∉ X.fs -> b ∉ ch -> s.heap.get? b = some o -> H b = none -> h'.get? b = some o)
    (slot : ∀ b o, b ≠ X.env.locals -> b ∈ X.fs -> b ∉ ch -> s.heap.get? b = some o -> H b = none -> ∃ sl, h'.get? b = some { o with slots:=sl }) (free : ∀ b o, b ∉ ch -> s.heap.get? b = some o -> H b = none -> H' b = none)
    (there : ∀ b o, b ∉ ch -> s.heap.get? b = some o -> ∃ o', h'.get? b = some o')
    (tups : ∀ b xs, H b = some (.tup xs) -> H' b = some (.tup xs)) (frzs : ∀ b o u, H b = some (.frz o u) -> H' b = some (.frz o u)) (tbls : ∀ b ps, H b = some (.tbl ps) -> ∃ more, H' b = some (.tbl (ps ++ more)))
    (ns : ∀ m, s.heap.Ns X.env.locals m -> h'.Ns X.env.locals m) (hok : HOk X.prog X.w H' h') (hg : AllBare g') :
    Inv X pins σ H' { s with heap:=h', gens:=g', drawn:=d', toks:=t' }:=by
  have neL : ∀ b o, X.s₀.heap.get? b = some o -> b ≠ X.env.locals:=fun b o e=>Nat.ne_of_lt (Nat.lt_of_lt_of_le (Heap.lt_size e) I.ok.above)
  have neC : ∀ b o, X.s₀.heap.get? b = some o -> b ∉ X.ex -> b ∉ ch:=fun b o e hx hb=>by
    rcases (hch b hb).1 with z | z
    . exact hx z
    . exact absurd (Nat.lt_of_lt_of_le (Heap.lt_size e) z) (Nat.lt_irrefl _)
  have cellK : ∀ x c, X.env.cells.lookup x = some c -> ∀ v, s.heap.IsCell c v -> h'.IsCell c v:=fun x c e v ⟨o, ho, hd⟩=>by
    have nch : c ∉ ch:=fun z=>(hch c z).2.2.1 x c e rfl
    by_cases hc : c ∈ X.fs
    . obtain ⟨sl, q⟩ := slot c o (I.cne x c e) hc nch ho (I.freeC x c e)
      exact ⟨_, q, hd⟩
    . exact ⟨o, keep c o (I.cne x c e) hc nch ho (I.freeC x c e), hd⟩
  refine ⟨I.ok, I.os, hg, ⟨fun b o e n hb hx=>?_, fun b o e n hb hx=>?_, fun b o e n hx=>?_, fun b o e hx=>?_, fun b xs e=>tups b xs (I.base.tups b xs e), fun b o xs e=>frzs b o xs (I.base.frzs b o xs e), fun b ps e=>?_⟩, ?_, fun x c e=>?_, ?_, fun x c e=>?_, fun p hp=>?_, hok, I.len⟩
  . exact keep b o (neL b o e) hb (neC b o e hx) (I.base.keep b o e n hb hx) (I.base.free b o e n hx)
  . obtain ⟨sl, e1⟩ := I.base.slot b o e n hb hx
    obtain ⟨sl', e2⟩:=slot b _ (neL b o e) hb (neC b o e hx) e1 (I.base.free b o e n hx)
    exact ⟨sl', e2⟩
  . obtain ⟨o', e1⟩ := I.base.there b o e hx
    exact free b o' (neC b o e hx) e1 (I.base.free b o e n hx)
  . obtain ⟨o', e1⟩ := I.base.there b o e hx
    exact there b o' (neC b o e hx) e1
  . obtain ⟨m1, e1⟩ := I.base.tbls b ps e
    obtain ⟨m2, e2⟩:=tbls b _ e1
    exact ⟨m1 ++ m2, by rw [e2, Array.append_assoc]⟩
  . obtain ⟨m, hn, hl⟩ := I.loc
    refine ⟨m, ns m hn, fun i x v e1 e2 e3=>?_⟩
    obtain ⟨u, r, l⟩:=hl i x v e1 e2 e3
    refine ⟨u, r, ?_⟩
    rcases l with l | ⟨k, c, e, z⟩
    . exact .inl l
    . exact .inr ⟨k, c, e, cellK x c e _ z⟩
  . obtain ⟨v, z⟩ := I.cell x c e
    exact ⟨v, cellK x c e v z⟩
  . obtain ⟨m, ⟨o, _, _, ho, _⟩, _⟩ := I.loc
    exact free _ o (fun z=>(hch _ z).2.1 rfl) ho I.free
  . obtain ⟨v, o, ho, hd⟩ := I.cell x c e
    exact free c o (fun z=>(hch c z).2.2.1 x c e rfl) ho (I.freeC x c e)
  . obtain ⟨e, n, ne, nf, d⟩ := I.pin p hp
    have nch : p.1 ∉ ch:=fun z=>(hch p.1 z).2.2.2 p hp rfl
    exact ⟨keep p.1 p.2 ne nf nch e n, free p.1 p.2 nch e n, ne, nf, d⟩
theorem Inv.un {t' : Nat} (I : Inv X pins σ H s) (u : Un X.fs [] H H' s.heap h') (hok : HOk X.prog X.w H' h') : Inv X pins σ H' { s with heap:=h', toks:=t' }:=by
  obtain ⟨m, ⟨o, es, ep, ho, r⟩, _⟩:=id I.loc
  obtain ⟨sl, hL⟩:=u.any ho I.free (by simp)
  exact I.step (g':=s.gens) (d':=s.drawn) (ch:=[]) (fun _ z=>nomatch z) (fun b o _ hb _ e n=>u.keep b o e n hb (by simp)) (fun b o _ hb _ e n=>u.slot b o e n hb (by simp)) (fun b o _ e n=>u.free b o e n (by simp)) (fun b o _ e=>u.there b o e (by simp)) u.tups u.frzs u.tbls (fun m' hm=>by
    obtain ⟨o', es', ep', ho', r'⟩:=hm
    rw [ho] at ho'; cases ho'
    exact ⟨_, es', ep', hL, r'⟩) hok I.bare
theorem Inv.call {g' : Array GenState} {t' : Nat} {d' : Drawn} {ch : List Addr} (I : Inv X pins σ H s) (u : Un (frs X.stack) ch H H' s.heap h') (hok : HOk X.prog X.w H' h') (hg : AllBare g')
    (hch : ∀ b ∈ ch, (b ∈ X.ex ∨ X.s₀.heap.objs.size <= b) /\ b ≠ X.env.locals /\ (∀ x c, X.env.cells.lookup x = some c -> c ≠ b) /\ ∀ p ∈ X.pn ++ pins, p.1 ≠ b) :
    Inv X pins σ H' { s with heap:=h', gens:=g', drawn:=d', toks:=t' }:=by
  obtain ⟨m, ⟨o, es, ep, ho, r⟩, _⟩:=id I.loc
  obtain ⟨sl, hL⟩:=u.any ho I.free fun z=>(hch _ z).2.1 rfl
  exact I.step (ch:=ch) hch (fun b o hL hb hc e n=>u.keep b o e n (fun z=>(List.mem_cons.mp (I.stkSub b z)).elim hL hb) hc) (fun b o _ _ hc e n=>u.any e n hc) (fun b o hc e n=>u.free b o e n hc) (fun b o hc e=>u.there b o e hc) u.tups u.frzs u.tbls (fun m' hm=>by
    obtain ⟨o', es', ep', ho', r'⟩:=hm
    rw [ho] at ho'; cases ho'
    exact ⟨_, es', ep', hL, r'⟩) hok hg
theorem Inv.turned {t' : Nat} {it : Addr} (I : Inv X pins σ H s) (k : ∀ b o, b ≠ it -> s.heap.get? b = some o -> h'.get? b = some o) (hn : H it = none) (hL : it ≠ X.env.locals)
    (h1 : it ∈ X.ex ∨ X.s₀.heap.objs.size <= it) (h2 : ∀ x c, X.env.cells.lookup x = some c -> c ≠ it) (h3 : ∀ p ∈ X.pn ++ pins, p.1 ≠ it) : Inv X pins σ H { s with heap:=h', toks:=t' }:=by
  have nit : ∀ b u, H b = some u -> b ≠ it:=fun b u e z=>by rw [z, hn] at e; cases e
  refine I.step (g':=s.gens) (d':=s.drawn) (ch:=[it]) (fun b hb=>?_) (fun b o _ _ hc e _=>k b o (fun z=>hc (by simp [z])) e) (fun b o _ _ hc e _=>⟨o.slots, k b o (fun z=>hc (by simp [z])) e⟩) (fun _ _ _ _ n=>n)
    (fun b o hc e=>⟨o, k b o (fun z=>hc (by simp [z])) e⟩) (fun _ _ e=>e) (fun _ _ _ e=>e) (fun b ps e=>⟨#[], by rw [e]; simp⟩) (fun m hm=>?_) (fun b u e=>?_) I.bare
  . have e : b = it := by simpa using hb
    subst e
    exact ⟨h1, hL, h2, h3⟩
  . obtain ⟨o, es, ep, ho, r⟩ := hm
    exact ⟨o, es, ep, k _ o (Ne.symm hL) ho, r⟩
  . refine (I.hok b u e).stay (fun c v hc q => k c v ?_ q) (fun _ q => q) fun _ _ q => q
    rcases hc with z | z
    . rw [z]; exact nit b u e
    . exact nit c _ z
theorem Inv.tok (I : Inv X pins σ H s) (t : Nat) : Inv X pins σ H { s with toks:=t }:=I.un (h':=s.heap) (t':=t) Un.refl I.hok
theorem Inv.kept {t' : Nat} (I : Inv X pins σ H s) (k : ∀ b u, s.heap.get? b = some u -> h'.get? b = some u) : Inv X pins σ H { s with heap:=h', toks:=t' }:=I.un (Un.kept k) (I.hok.kept k)
theorem Inv.laid {a : Addr} {o : HO} {t' : Nat} (I : Inv X pins σ H s) (k : ∀ b u, s.heap.get? b = some u -> h'.get? b = some u) (hp : s.heap.objs.size <= a) (new : Yi X.prog X.w (upd H a o) h' a o) :
    Inv X pins σ (upd H a o) { s with heap:=h', toks:=t' }:=I.un (Un.laid k hp (I.hok.fresh hp)) (I.hok.laid k hp new)
theorem Inv.write {x e : Addr} {o : HO} {t' : Nat} (I : Inv X pins σ H s) (mu : Mut (H x)) (he : e = x ∨ H e = some (.own x)) (k : ∀ b u, b ≠ e -> s.heap.get? b = some u -> h'.get? b = some u) (heo : ∃ u, h'.get? e = some u)
    (new : Yi X.prog X.w (upd H x o) h' x o) : Inv X pins σ (upd H x o) { s with heap:=h', toks:=t' }:=I.un (Un.write mu he k heo) (I.hok.write mu he k heo new)
theorem Inv.weak {σ' : List (Option V)} (I : Inv X pins σ H s) (hl : σ'.length = σ.length) (w : ∀ (i : Nat) v, σ'[i]? = some (some v) -> σ[i]? = some (some v)) : Inv X pins σ' H s:=
  ⟨I.ok, I.os, I.bare, I.base, let ⟨m, hn, hl'⟩:=I.loc; ⟨m, hn, fun i x v e1 e2 e3=>hl' i x v e1 (w i v e2) e3⟩, I.cell, I.free, I.freeC, I.pin, I.hok, hl.trans I.len⟩
theorem Inv.pins_of {pins' : List (Addr × Obj)} (I : Inv X pins σ H s) (h : ∀ p ∈ pins', s.heap.get? p.1 = some p.2 /\ H p.1 = none /\ p.1 ≠ X.env.locals /\ p.1 ∉ X.fs /\ ∀ v, p.2.data ≠ .cell v) : Inv X pins' σ H s:=
  ⟨I.ok, I.os, I.bare, I.base, I.loc, I.cell, I.free, I.freeC, fun p hp=>(List.mem_append.mp hp).elim (fun z=>I.pin p (List.mem_append_left _ z)) (h p), I.hok, I.len⟩
theorem GB {N : List Str} (hN : N.Nodup) {i j : Nat} {x : Str} (a : N[i]? = some x) (b : N[j]? = some x) : i = j:=by
  obtain ⟨h1, e1⟩:=List.getElem?_eq_some_iff.mp a
  obtain ⟨h2, e2⟩:=List.getElem?_eq_some_iff.mp b
  exact (List.getElem_inj hN).mp (e1.trans e2.symm)
theorem U1 {M : Model} {A : Around} {E : Value -> Shared -> Prop} {i : Nat} {x : Str} {v : V} {u : Value} {Q : Unit -> Shared -> Prop} (I : Inv X pins σ H s) (hN : X.N.Nodup) (hi : X.N[i]? = some x) (hx : Loc X.env.scope x) (r : X9 v u)
    (h : ∀ s', Inv X pins (σ.set i (some v)) H s' -> (∃ a, Heap.SameBut a s.heap s'.heap /\ (a = X.env.locals ∨ X.env.cells.lookup x = some a)) -> Q () s') (hf : X.fn x = true ∨ X.env.scope.names.lookup x = some .local:=by first | exact .inl rfl | exact .inr rfl | assumption) : wpAny M A (storeName X.env x u) Q E s:=by
  obtain ⟨m, hn, hl⟩:=id I.loc
  have hcls : (X.env.scope.kind == .class || (X.env.scope.kind == .module && X.env.locals != X.env.globals)) = false:=by rw [I.ok.kind]; rfl
  have hiσ : i < σ.length:=by rw [I.len]; exact (List.getElem?_eq_some_iff.mp hi).1
  have cne:=I.cne
  have tracked : ∀ {a : Addr} {h' : Heap}, (∃ o, s.heap.get? a = some o /\ H a = none) -> Heap.SameBut a s.heap h' -> HOk X.prog X.w H h':=fun {a h'} ha hs b ob e=>by
    obtain ⟨_, _, hfree⟩:=ha
    refine (I.hok b ob e).stay (fun c w' hc q=>(hs.2 c ?_).trans q) (fun _ q=>q) fun _ _ q=>q
    rintro rfl
    rcases hc with rfl | hc
    . rw [hfree] at e; cases e
    . rw [hfree] at hc; cases hc
  rcases hx with hk | hk
  . refine wpAny_storeName_local hk hn (fun h' hn' hs => ?_) hcls
    obtain ⟨oL, _, _, hoL, _⟩:=id hn
    refine h _ ⟨I.ok, I.os, I.bare, ⟨fun b o e n hb hx=>?_, fun b o e n hb hx=>?_, I.base.free, fun b o e hx=>?_, I.base.tups, I.base.frzs, I.base.tbls⟩, ⟨_, hn', fun j y v' e1 e2 e3=>?_⟩, fun y c e=>?_, I.free, I.freeC, fun p hp=>?_, tracked ⟨oL, hoL, I.free⟩ hs, by simpa using I.len⟩ ⟨_, hs, .inl rfl⟩
    . exact (hs.2 b (Nat.ne_of_lt (Nat.lt_of_lt_of_le (Heap.lt_size e) I.ok.above))).trans (I.base.keep b o e n hb hx)
    . obtain ⟨sl, e1⟩ := I.base.slot b o e n hb hx
      exact ⟨sl, (hs.2 b (Nat.ne_of_lt (Nat.lt_of_lt_of_le (Heap.lt_size e) I.ok.above))).trans e1⟩
    . obtain ⟨o', e1⟩ := I.base.there b o e hx
      exact ⟨o', (hs.2 b (Nat.ne_of_lt (Nat.lt_of_lt_of_le (Heap.lt_size e) I.ok.above))).trans e1⟩
    . by_cases hj : j = i
      . subst hj
        rw [hi] at e1; cases e1
        rw [List.getElem?_set_self hiσ] at e2
        cases e2
        exact ⟨u, r, .inl ⟨hk, by simp⟩⟩
      . rw [List.getElem?_set_ne (Ne.symm hj)] at e2
        obtain ⟨u', r', q⟩:=hl j y v' e1 e2 e3
        refine ⟨u', r', ?_⟩
        rcases q with ⟨k, e⟩ | ⟨k, c, e, z⟩
        . refine .inl ⟨k, ?_⟩
          have : y ≠ x:=fun e=>hj (GB hN e1 (e ▸ hi))
          simp [this, e]
        . exact .inr ⟨k, c, e, z.sameBut hs (cne y c e)⟩
    . obtain ⟨w', z⟩ := I.cell y c e
      exact ⟨w', z.sameBut hs (cne y c e)⟩
    . obtain ⟨e, n, ne, nf, d⟩ := I.pin p hp
      exact ⟨(hs.2 p.1 ne).trans e, n, ne, nf, d⟩
  . have hfn : X.fn x = true:=by
      rcases hf with z | z
      . exact z
      . rw [z] at hk; cases hk
    obtain ⟨c, hc⟩:=I.ok.has x (.inl hk)
    obtain ⟨w', z⟩:=I.cell x c hc
    refine wpAny_storeName_cell I.ok.kind hk hc z (fun h' hc' hs=>?_)
    obtain ⟨oc, hoc, hocd⟩:=id z
    refine h { s with heap:=h' } ⟨I.ok, I.os, I.bare, ⟨fun b o e n hb hx=>?_, fun b o e n hb hx=>?_, I.base.free, fun b o e hx=>?_, I.base.tups, I.base.frzs, I.base.tbls⟩, ⟨m, hn.sameBut hs (Ne.symm (cne x c hc)), fun j y v' e1 e2 e3=>?_⟩, fun y c' e=>?_, I.free, I.freeC, fun p hp=>?_, tracked ⟨oc, hoc, I.freeC x c hc⟩ hs, by simpa using I.len⟩ ⟨c, hs, .inr hc⟩
    . exact (hs.2 b (Nat.ne_of_lt (Nat.lt_of_lt_of_le (Heap.lt_size e) (I.ok.cab x c hfn hc)))).trans (I.base.keep b o e n hb hx)
    . obtain ⟨sl, e1⟩ := I.base.slot b o e n hb hx
      exact ⟨sl, (hs.2 b (Nat.ne_of_lt (Nat.lt_of_lt_of_le (Heap.lt_size e) (I.ok.cab x c hfn hc)))).trans e1⟩
    . obtain ⟨o', e1⟩ := I.base.there b o e hx
      exact ⟨o', (hs.2 b (Nat.ne_of_lt (Nat.lt_of_lt_of_le (Heap.lt_size e) (I.ok.cab x c hfn hc)))).trans e1⟩
    . by_cases hj : j = i
      . subst hj
        rw [hi] at e1; cases e1
        rw [List.getElem?_set_self hiσ] at e2
        cases e2
        exact ⟨u, r, .inr ⟨.inl hk, c, hc, hc'⟩⟩
      . rw [List.getElem?_set_ne (Ne.symm hj)] at e2
        obtain ⟨u', r', q⟩:=hl j y v' e1 e2 e3
        refine ⟨u', r', ?_⟩
        rcases q with q | ⟨k, c', e, z'⟩
        . exact .inl q
        . refine .inr ⟨k, c', e, z'.sameBut hs ?_⟩
          rintro rfl
          exact hj (GB hN e1 (I.ok.inj _ _ _ e hc ▸ hi))
    . by_cases hcc : c' = c
      . subst hcc; exact ⟨_, hc'⟩
      . obtain ⟨w2, z2⟩ := I.cell y c' e
        exact ⟨w2, z2.sameBut hs hcc⟩
    . obtain ⟨e, n, ne, nf, d⟩ := I.pin p hp
      refine ⟨(hs.2 p.1 ?_).trans e, n, ne, nf, d⟩
      intro q
      rw [q, hoc] at e
      have q' : oc = p.2:=Option.some.inj e
      exact d w' (by rw [← q']; exact hocd)
theorem Qq {M : Model} {A : Around} {E : Value -> Shared -> Prop} {i : Nat} {x : Str} {v : V} {u : Value} {Q : Unit -> Shared -> Prop} (I : Inv X pins σ H s) (hN : X.N.Nodup) (hi : X.N[i]? = some x) (hx : Loc X.env.scope x) (r : X9 v u)
    (h : ∀ s', Inv X pins (σ.set i (some v)) H s' -> Q () s') (hf : X.fn x = true ∨ X.env.scope.names.lookup x = some .local:=by first | exact .inl rfl | exact .inr rfl | assumption) : wpAny M A (storeName X.env x u) Q E s:=
  U1 I hN hi hx r (fun s' I' _=>h s' I') hf
theorem Inv.call' {s' : Shared} {ch : List Addr} (I : Inv X pins σ H s) (ho : s'.os = s.os) (u : Un (frs X.stack) ch H H' s.heap s'.heap) (hok : HOk X.prog X.w H' s'.heap) (hg : AllBare s'.gens)
    (hch : ∀ b ∈ ch, (b ∈ X.ex ∨ X.s₀.heap.objs.size <= b) /\ b ≠ X.env.locals /\ (∀ x c, X.env.cells.lookup x = some c -> c ≠ b) /\ ∀ p ∈ X.pn ++ pins, p.1 ≠ b) : Inv X pins σ H' s':=by
  obtain ⟨h', g', d', t', o'⟩:=s'
  have e : o' = s.os:=ho
  subst e
  exact I.call (g':=g') (t':=t') (d':=d') u hok hg hch
end
noncomputable abbrev XK:=Value -> Option Addr -> Hp -> Prop
noncomputable abbrev St:=List (Option V)
noncomputable abbrev VK:=V -> Hp -> Prop
noncomputable abbrev TE:=St -> Hp -> VK -> Prop
noncomputable abbrev TT:=St -> Hp -> (Bool -> Hp -> Prop) -> Prop
noncomputable abbrev TA:=St -> Hp -> (List V -> Hp -> Prop) -> Prop
structure Ends where
  nx : St -> Hp -> Prop
  rt : VK
  bk : St -> Hp -> Prop:=fun _ _=>False
  ct : St -> Hp -> Prop:=fun _ _=>False
noncomputable abbrev TS:=Ends -> St -> Hp -> Prop
noncomputable def EP (X : Cx) (pins : List (Addr × Obj)) (σ : St) (Q : VK) (u : Value) (s' : Shared) : Prop:=∃ v H', Inv X pins σ H' s' /\ X9 v u /\ Q v H'
noncomputable def TP (X : Cx) (pins : List (Addr × Obj)) (σ : St) (Q : Bool -> Hp -> Prop) (b : Bool) (s' : Shared) : Prop:=∃ H', Inv X pins σ H' s' /\ Q b H'
noncomputable def AP (X : Cx) (pins : List (Addr × Obj)) (σ : St) (Q : List V -> Hp -> Prop) (us : List Value) (s' : Shared) : Prop:=∃ vs H', Inv X pins σ H' s' /\ XX vs us /\ Q vs H'
noncomputable def SP (X : Cx) (pins : List (Addr × Obj)) (D : Ends) (f : Flow) (s' : Shared) : Prop:=
  match f with
  | .next=>∃ σ' H', Inv X pins σ' H' s' /\ D.nx σ' H'
  | .brk=>∃ σ' H', Inv X pins σ' H' s' /\ D.bk σ' H'
  | .cont=>∃ σ' H', Inv X pins σ' H' s' /\ D.ct σ' H'
  | .ret u=>∃ v σ' H', Inv X pins σ' H' s' /\ X9 v u /\ D.rt v H'
noncomputable def PE (X : Cx) (e : Expr) (t : TE) : Prop:=
  ∀ (pins : List (Addr × Obj)) (s : Shared) (σ : St) (H : Hp) (Q : VK), Inv X pins σ H s -> t σ H Q -> wpAny (model X.prog X.w) X.A (eval e X.env) (EP X pins σ Q) X.xe s
noncomputable def PT (X : Cx) (e : Expr) (t : TT) : Prop:=
  ∀ (pins : List (Addr × Obj)) (s : Shared) (σ : St) (H : Hp) (Q : Bool -> Hp -> Prop), Inv X pins σ H s -> t σ H Q -> wpAny (model X.prog X.w) X.A (isTrue e X.env (eval e X.env)) (TP X pins σ Q) X.xe s
noncomputable def PW (X : Cx) (e : Expr) (t : TT) : Prop:=
  ∀ (whole : Sem Value) (pins : List (Addr × Obj)) (s : Shared) (σ : St) (H : Hp) (Q : Bool -> Hp -> Prop), Inv X pins σ H s -> t σ H Q -> wpAny (model X.prog X.w) X.A (isTrue e X.env whole) (TP X pins σ Q) X.xe s
theorem PW.pt {X : Cx} {e : Expr} {t : TT} (h : PW X e t) : PT X e t:=h _
noncomputable def PA (X : Cx) (es : List Expr) (t : TA) : Prop:=
  ∀ (pos : Pos) (pins : List (Addr × Obj)) (s : Shared) (σ : St) (H : Hp) (Q : List V -> Hp -> Prop), Inv X pins σ H s -> t σ H Q -> wpAny (model X.prog X.w) X.A (spliced (backTo pos (starEach es X.env))) (AP X pins σ Q) X.xe s
noncomputable def PS (X : Cx) (st : Stmt) (t : TS) : Prop:=
  ∀ (pins : List (Addr × Obj)) (s : Shared) (σ : St) (H : Hp) (D : Ends), Inv X pins σ H s -> t D σ H -> wpAny (model X.prog X.w) X.A (exec st X.env) (SP X pins D) X.xe s
noncomputable def PSs (X : Cx) (st : List Stmt) (t : TS) : Prop:=
  ∀ (pins : List (Addr × Obj)) (s : Shared) (σ : St) (H : Hp) (D : Ends), Inv X pins σ H s -> t D σ H -> wpAny (model X.prog X.w) X.A (execs st X.env) (SP X pins D) X.xe s
theorem thn {α : Type} {t : Sem α} {Q Q' : α -> Shared -> Prop} {M : Model} {A : Around} {E : Value -> Shared -> Prop} {s : Shared} (h : wpAny M A t Q E s) (hQ : ∀ a s, Q a s -> Q' a s) : wpAny M A t Q' E s:=wpAny_mono h hQ fun _ _ x=>x
end L2
namespace L2
open PySem PySem.Spec PyProof.Rows
section
variable {X : Cx}
noncomputable def Kv (i : Nat) : TE:=fun σ H Q=>∃ v, σ[i]? = some (some v) /\ Q v H
noncomputable def tC (v : V) : TE:=fun _ H Q=>Q v H
theorem Iv {i : Nat} {x : Str} {pos : Pos} (hN : X.N[i]? = some x) (hv : Vis X.env.scope x) (hd : (x == ("__debug__" : Str)) = false:=by decide) (hcd : (x == ("__classdict__" : Str)) = false:=by decide) : PE X (.Name x pos) (Kv i):=by
  intro pins s σ H Q I h
  obtain ⟨v, e, h⟩:=h
  obtain ⟨m, hn, hl⟩:=I.loc
  obtain ⟨u, r, l⟩:=hl i x v hN e hv
  have fin : EP X pins σ Q u s:=⟨v, H, I, r, h⟩
  rcases l with ⟨hk, hm⟩ | ⟨hk, c, hc, hcell⟩
  . exact wpAny_Name (wpAny_loadName_local I.ok.kind hk hn hm fin) hd
  . rcases hk with hk | hk
    . exact wpAny_Name (wpAny_loadName_cell I.ok.kind hk hc hcell fin) hd
    . exact wpAny_Name (wpAny_loadName_free I.ok.kind hk hc hcell fin hcd) hd
theorem Xi {i j pos} : PE X (.Constant (.int i) j pos) (tC (.int i)):=fun _ _ _ H _ I h=>wpAny_Constant_int ⟨.int i, H, I.tok _, ⟨_, rfl⟩, h⟩
theorem QC {b j pos} : PE X (.Constant (.bool b) j pos) (tC (.bl b)):=fun _ _ _ H _ I h=>Constant_bool ⟨.bl b, H, I, rfl, h⟩
theorem UV {j pos} : PE X (.Constant .none j pos) (tC .non):=fun _ _ _ H _ I h=>Constant_none ⟨.non, H, I, rfl, h⟩
theorem Up {x j pos} : PE X (.Constant (.str x) j pos) (tC (.str x)):=fun _ _ _ H _ I h=>Calls.Constant_str ⟨.str x, H, I.tok _, ⟨_, rfl⟩, h⟩
noncomputable def Gl (X : Cx) (x : Str) : Prop:=X.env.kindOf x = some .globalImplicit
theorem VZ {E : Value -> Shared -> Prop} {pins : List (Addr × Obj)} {s : Shared} {σ : St} {H : Hp} {x : Str} {u : Value} {pos : Pos} {Q : Value -> Shared -> Prop} (I : Inv X pins σ H s) (hg : Gl X x) (hm : X.mg x = some u) (h : Q u s)
    (hd : (x == ("__debug__" : Str)) = false:=by decide) : wpAny (model X.prog X.w) X.A (eval (.Name x pos) X.env) Q E s:=
  Calls.Name_function_global I.ok.kind hg (Calls.loadGlobal_global (by rw [I.ok.glob]; exact I.mod.glob.keeps I.bk) hm h) hd
theorem JH {E : Value -> Shared -> Prop} {pins : List (Addr × Obj)} {s : Shared} {σ : St} {H : Hp} {x : Str} {u : Value} {pos : Pos} {Q : Value -> Shared -> Prop} (I : Inv X pins σ H s) (hg : Gl X x) (hm : X.mg x = none) (hv : bootBuiltins x = some u) (h : Q u s)
    (hn : x ≠ "__name__":=by decide) (hd : (x == ("__debug__" : Str)) = false:=by decide) : wpAny (model X.prog X.w) X.A (eval (.Name x pos) X.env) Q E s:=by
  obtain ⟨mb, h1, h2⟩:=I.mod.blt
  exact Calls.Name_function_global I.ok.kind hg (Calls.loadGlobal_builtin (by rw [I.ok.glob]; exact I.mod.glob.keeps I.bk) hm (by rw [I.ok.blt]; exact h1.keeps I.bk) ((h2 x hn).trans hv) h) hd
theorem KZ {x : Str} {v : V} {u : Value} {pos : Pos} (hg : Gl X x) (hm : X.mg x = some u) (r : X9 v u) (hd : (x == ("__debug__" : Str)) = false:=by decide) : PE X (.Name x pos) (tC v):=
  fun _ _ _ H _ I h=>VZ I hg hm ⟨v, H, I, r, h⟩ hd
theorem VS {x : Str} {v : V} {u : Value} {pos : Pos} (hg : Gl X x) (hm : X.mg x = none) (hv : bootBuiltins x = some u) (r : X9 v u) (hn : x ≠ "__name__":=by decide) (hd : (x == ("__debug__" : Str)) = false:=by decide) : PE X (.Name x pos) (tC v):=
  fun _ _ _ H _ I h=>JH I hg hm hv ⟨v, H, I, r, h⟩ hn hd
variable {a b : Expr} {ta tb : TE} {pos : Pos}
noncomputable def PC (X : Cx) (op : CmpOp) (a b : Expr) (t : TE) : Prop:=
  ∀ (pins : List (Addr × Obj)) (s : Shared) (σ : St) (H : Hp) (Q : VK), Inv X pins σ H s -> t σ H Q ->
    wpAny (model X.prog X.w) X.A (eval a X.env) (fun v s₁=>wpAny (model X.prog X.w) X.A (eval b X.env) (fun u s₂=>wpAny (model X.prog X.w) X.A (compareOp op v u) (EP X pins σ Q) X.xe s₂) X.xe s₁) X.xe s
theorem Bb (b : Expr) {op : CmpOp} (h : op ≠ .In) (h2 : op ≠ .NotIn) : behindInMarks op b = false:=by
  have e1 : (op == CmpOp.In) = false:=by cases op <;> first | rfl | exact absurd rfl h
  have e2 : (op == CmpOp.NotIn) = false:=by cases op <;> first | rfl | exact absurd rfl h2
  cases b <;> simp [behindInMarks, e1, e2]
noncomputable def tB (t : TE) : TT:=fun σ H Q=>t σ H fun x H1=>∃ c, x = .bl c /\ Q c H1
theorem HP {op : CmpOp} {t : TE} (h : PC X op a b t) (h1 : behindInMarks op b = false:=by first | exact Bb _ (by decide) (by decide) | rfl) : PT X (.Compare a [op] [b] pos) (tB t):=by
  intro pins s σ H Q I hw
  refine wpAny_isTrue_Compare1 (thn (h pins s σ H _ I hw) fun v s1 h1=>thn h1 fun u s2 h2=>thn h2 fun c s3 ⟨x, H1, I1, r1, q1⟩=>?_) h1
  obtain ⟨d, rfl, q⟩:=q1
  cases r1
  exact wpAny_truthy_bool ⟨H1, I1, q⟩
theorem Qc {e : Expr} {t : TE} (h : PE X e t) (he : ∀ whole, isTrue e X.env whole = (do let v ← whole; standAt e.pos; holding [v] (truthy v)):=by intro _; rfl) : PT X e (tB t):=by
  intro pins s σ H Q I hw
  refine isTrue_plain (thn (h pins s σ H _ I hw) fun v s1 ⟨x, H1, I1, r1, q1⟩=>?_) (he _)
  obtain ⟨d, rfl, q⟩:=q1
  cases r1
  exact wpAny_truthy_bool ⟨H1, I1, q⟩
variable {tA tB' : TT} {ZH : List Expr}
noncomputable def LN (t u : TT) : TT:=fun σ H Q=>t σ H fun c H1=>if c = true then u σ H1 Q else Q false H1
noncomputable def tOr (t u : TT) : TT:=fun σ H Q=>t σ H fun c H1=>if c = true then Q true H1 else u σ H1 Q
noncomputable def LE (t : TT) : TT:=fun σ H Q=>t σ H fun c H1=>Q (!c) H1
theorem Qi (ha : PT X a tA) : PW X (.BoolOp .And [a] pos) tA:=by
  intro wh pins s σ H Q I h
  refine isTrue_and (thn (ha pins s σ H Q I h) fun c s1 e=>?_)
  cases c with
  | true=>exact isTrue_and_nil e
  | false=>exact e
theorem Gx (ha : PT X a tA) : PW X (.BoolOp .Or [a] pos) tA:=by
  intro wh pins s σ H Q I h
  refine isTrue_or (thn (ha pins s σ H Q I h) fun c s1 e=>?_)
  cases c with
  | false=>exact isTrue_or_nil e
  | true=>exact e
theorem ZN (ha : PT X a tA) (hb : PW X (.BoolOp .And (b :: ZH) pos) tB') : PW X (.BoolOp .And (a :: b :: ZH) pos) (LN tA tB'):=by
  intro wh pins s σ H Q I h
  refine isTrue_and (thn (ha pins s σ H _ I h) fun c s1 ⟨H1, I1, q1⟩=>?_)
  cases c with
  | true=>exact hb wh pins s1 σ H1 Q I1 q1
  | false=>exact ⟨H1, I1, q1⟩
theorem CU (ha : PT X a tA) (hb : PW X (.BoolOp .Or (b :: ZH) pos) tB') : PW X (.BoolOp .Or (a :: b :: ZH) pos) (tOr tA tB'):=by
  intro wh pins s σ H Q I h
  refine isTrue_or (thn (ha pins s σ H _ I h) fun c s1 ⟨H1, I1, q1⟩=>?_)
  cases c with
  | true=>exact ⟨H1, I1, q1⟩
  | false=>exact hb wh pins s1 σ H1 Q I1 q1
theorem Vc (ha : PT X a tA) : PT X (.UnaryOp .Not a pos) (LE tA):=by
  intro pins s σ H Q I h
  exact isTrue_not (ha pins s σ H (fun c H1=>Q (!c) H1) I h)
noncomputable def Iu (ta tb : TE) : TE:=fun σ H Q=>ta σ H fun x H1=>∃ c, x = .bl c /\ if c = true then tb σ H1 Q else Q (.bl false) H1
noncomputable def HY (ta : TE) : TE:=fun σ H Q=>ta σ H fun x H1=>∃ c, x = .bl c /\ Q (.bl (!c)) H1
theorem Gn {op} {t : TE} (h : PE X a t) : PE X (.BoolOp op [a] pos) t:=fun pins s σ H Q I hw=>BoolOp_one (h pins s σ H Q I hw)
theorem GA (ha : PE X a ta) (hb : PE X (.BoolOp .And (b :: ZH) pos) tb) : PE X (.BoolOp .And (a :: b :: ZH) pos) (Iu ta tb):=by
  intro pins s σ H Q I h
  refine BoolOp_and (thn (ha pins s σ H _ I h) fun v s1 ⟨x, H1, I1, r1, q1⟩=>?_)
  obtain ⟨c, rfl, q1⟩:=q1
  cases r1
  refine wpAny_truthy_bool ?_
  cases c with
  | true=>exact hb pins s1 σ H1 Q I1 q1
  | false=>exact ⟨.bl false, H1, I1, rfl, q1⟩
theorem Dy (ha : PE X a ta) : PE X (.UnaryOp .Not a pos) (HY ta):=by
  intro pins s σ H Q I h
  refine UnaryOp_ (thn (ha pins s σ H _ I h) fun v s1 ⟨x, H1, I1, r1, q1⟩=>?_)
  obtain ⟨c, rfl, q1⟩:=q1
  cases r1
  exact not_of (wpAny_truthy_bool ⟨.bl (!c), H1, I1, rfl, q1⟩)
noncomputable def tIf (t : TT) (ta tb : TE) : TE:=fun σ H Q=>t σ H fun c H1=>if c = true then ta σ H1 Q else tb σ H1 Q
theorem Bp {c : Expr} (hc : PT X c tA) (ha : PE X a ta) (hb : PE X b tb) : PE X (.IfExp c a b pos) (tIf tA ta tb):=by
  intro pins s σ H Q I h
  refine wpAny_IfExp (thn (hc pins s σ H _ I h) fun d s1 ⟨H1, I1, q1⟩=>?_)
  cases d with
  | true=>exact ha pins s1 σ H1 Q I1 q1
  | false=>exact hb pins s1 σ H1 Q I1 q1
end
end L2
namespace L2
open PySem PySem.Spec PyProof.Rows
noncomputable def SqL (K : PySem.W.Frag) (H : Hp) (a : Addr) (xs : List V) : Prop:=
  Rd H a (.lst xs) ∨
    ∃ (o : Obj) (its : Array Value) (n : Nat), K.lookup a = some o /\ o.cls = .type "list" /\ o.dict = none /\ o.data = .seq its n /\ its.size <= sizeLine /\ XX xs its.toList
noncomputable def SqT (K : PySem.W.Frag) (H : Hp) (a : Addr) (xs : List V) : Prop:=
  Rd H a (.tup xs) ∨
    ∃ (o : Obj) (its : Array Value) (n : Nat), K.lookup a = some o /\ o.cls = .type "tuple" /\ o.data = .seq its n /\ its.size <= sizeLine /\ XX xs its.toList
noncomputable def LS : Value -> Option V
  | .none=>some .non
  | .bool b=>some (.bl b)
  | .int i _=>some (.int i)
  | .str x _=>some (.str x)
  | .bytes b _=>some (.byt b)
  | .float b _=>some (.flt b)
  | .ref a=>some (.ref a)
  | .type n=>some (.ty n)
  | _=>none
theorem X9.abs {x : V} {u : Value} (r : X9 x u) : LS u = some x:=by
  cases x with
  | non=>cases r; rfl
  | bl _=>cases r; rfl
  | int _=>obtain ⟨t, rfl⟩:=r; rfl
  | str _=>obtain ⟨t, rfl⟩:=r; rfl
  | byt _=>obtain ⟨t, rfl⟩:=r; rfl
  | flt _=>obtain ⟨t, rfl⟩:=r; rfl
  | ref _=>cases r; rfl
  | ty _=>cases r; rfl
theorem X9.inj {x y : V} {u : Value} (r : X9 x u) (q : X9 y u) : x = y:=Option.some.inj (r.abs.symm.trans q.abs)
theorem XX.inj : ∀ {xs ys : List V} {us : List Value}, XX xs us -> XX ys us -> xs = ys
  | _, _, _, .nil, .nil=>rfl
  | _, _, _, .cons r t, .cons r' t'=>by rw [r.inj r', XX.inj t t']
section
variable {X : Cx} {pins : List (Addr × Obj)} {σ : St} {H : Hp} {s : Shared} {a : Addr} {xs ys : List V}
theorem SqL.of {K : PySem.W.Frag} (h : H a = some (.lst xs)) : SqL K H a xs:=.inl (.inl h)
theorem SqT.of {K : PySem.W.Frag} (h : H a = some (.tup xs)) : SqT K H a xs:=.inl (.inl h)
theorem Inv.list (I : Inv X pins σ H s) (h : SqL X.K H a xs) : ∃ its : List Value, XX xs its /\ PlainL s.heap a its.toArray /\ xs.length <= sizeLine:=by
  rcases h with h | ⟨o, its, n, hk, hc, hd, hs, hz, r⟩
  . obtain ⟨z, its, n, r, e⟩ := h.ok I.hok
    exact ⟨its, r, ⟨_, n, e, rfl, rfl, rfl⟩, z⟩
  . refine ⟨its.toList, r, ⟨o, n, I.kIn a o hk, hc, hd, by simpa using hs⟩, ?_⟩
    have e:=r.length
    simp only [Array.length_toList] at e
    omega
theorem Inv.tuple (I : Inv X pins σ H s) (h : SqT X.K H a xs) : ∃ its : List Value, XX xs its /\ IsTup s.heap a its.toArray /\ xs.length <= sizeLine:=by
  rcases h with h | ⟨o, its, n, hk, hc, hs, hz, r⟩
  . obtain ⟨z, its, r, p⟩ := h.ok I.hok
    exact ⟨its, r, p, z⟩
  . refine ⟨its.toList, r, ⟨o, I.kIn a o hk, hc, n, by simpa using hs⟩, ?_⟩
    have e:=r.length
    simp only [Array.length_toList] at e
    omega
theorem Inv.list_inj (I : Inv X pins σ H s) (h : SqL X.K H a xs) (h' : SqL X.K H a ys) : xs = ys:=by
  obtain ⟨its, r, ⟨o, n, e, _, _, d⟩, _⟩:=I.list h
  obtain ⟨its', r', ⟨o', n', e', _, _, d'⟩, _⟩:=I.list h'
  rw [e] at e'; cases e'
  rw [d] at d'
  injection d' with d1 _
  have : its = its':=by simpa using congrArg Array.toList d1
  subst this
  exact r.inj r'
theorem Inv.tuple_inj (I : Inv X pins σ H s) (h : SqT X.K H a xs) (h' : SqT X.K H a ys) : xs = ys:=by
  obtain ⟨its, r, ⟨o, e, _, n, d⟩, _⟩:=I.tuple h
  obtain ⟨its', r', ⟨o', e', _, n', d'⟩, _⟩:=I.tuple h'
  rw [e] at e'; cases e'
  rw [d] at d'
  injection d' with d1 _
  have : its = its':=by simpa using congrArg Array.toList d1
  subst this
  exact r.inj r'
end
noncomputable abbrev Cx.wish (X : Cx) (E : Value -> Shared -> Prop) : Cx:={ X with xe:=E }
noncomputable abbrev Cx.nox (X : Cx) : Cx:=X.wish fun _ _=>False
theorem Cx.Ok.wish {X : Cx} (ok : X.Ok) (E : Value -> Shared -> Prop) : (X.wish E).Ok:=
  ⟨ok.mod, ok.kind, ok.glob, ok.blt, ok.above, ok.inj, ok.has, ok.cab, ok.hd, ok.frames, ok.stk, ok.exf, ok.bs, ok.bsz, ok.noex, ok.exfs, ok.funs, ok.frf⟩
theorem Cx.Ok.unwish {X : Cx} {E : Value -> Shared -> Prop} (ok : (X.wish E).Ok) : X.Ok:=
  ⟨ok.mod, ok.kind, ok.glob, ok.blt, ok.above, ok.inj, ok.has, ok.cab, ok.hd, ok.frames, ok.stk, ok.exf, ok.bs, ok.bsz, ok.noex, ok.exfs, ok.funs, ok.frf⟩
section
variable {X : Cx} {pins : List (Addr × Obj)} {σ : St} {H : Hp} {s : Shared} {E : Value -> Shared -> Prop}
theorem Inv.wish (I : Inv X pins σ H s) (E : Value -> Shared -> Prop) : Inv (X.wish E) pins σ H s:=⟨I.ok.wish E, I.os, I.bare, I.base, I.loc, I.cell, I.free, I.freeC, I.pin, I.hok, I.len⟩
theorem Inv.unwish (I : Inv (X.wish E) pins σ H s) : Inv X pins σ H s:=⟨I.ok.unwish, I.os, I.bare, I.base, I.loc, I.cell, I.free, I.freeC, I.pin, I.hok, I.len⟩
theorem SP.unwish {D : Ends} {f : Flow} {s' : Shared} (h : SP (X.wish E) pins D f s') : SP X pins D f s':=by
  cases f with
  | next=>obtain ⟨σ', H', I, q⟩:=h; exact ⟨σ', H', I.unwish, q⟩
  | brk=>obtain ⟨σ', H', I, q⟩:=h; exact ⟨σ', H', I.unwish, q⟩
  | cont=>obtain ⟨σ', H', I, q⟩:=h; exact ⟨σ', H', I.unwish, q⟩
  | ret u=>obtain ⟨v, σ', H', I, r, q⟩:=h; exact ⟨v, σ', H', I.unwish, r, q⟩
theorem PE.nox {e : Expr} {t : TE} (h : PE X.nox e t) : PE X e t:=fun pins s σ H Q I hw=>
  wpAny_mono (h pins s σ H Q (I.wish _) hw) (fun _ _ ⟨v, H', I', r, q⟩=>⟨v, H', I'.unwish, r, q⟩) fun _ _ z=>False.elim z
theorem PT.nox {e : Expr} {t : TT} (h : PT X.nox e t) : PT X e t:=fun pins s σ H Q I hw=>
  wpAny_mono (h pins s σ H Q (I.wish _) hw) (fun _ _ ⟨H', I', q⟩=>⟨H', I'.unwish, q⟩) fun _ _ z=>False.elim z
theorem PSs.nox {st : List Stmt} {t : TS} (h : PSs X.nox st t) : PSs X st t:=fun pins s σ H D I hw=>
  wpAny_mono (h pins s σ H D (I.wish _) hw) (fun _ _ q=>q.unwish) fun _ _ z=>False.elim z
end
section
variable {X : Cx} {st : Stmt} {ZH : List Stmt} {t u : TS} {e : Expr} {te : TE} {pos : Pos}
noncomputable def KA : TS:=fun D σ H=>D.nx σ H
noncomputable def Jy (t u : TS) : TS:=fun D σ H=>t { D with nx:=u D } σ H
theorem Xf : PSs X [] KA:=fun _ _ σ H _ I h=>wpAny_execs_nil ⟨σ, H, I, h⟩
theorem Xb (h1 : PS X st t) (h2 : PSs X ZH u) : PSs X (st :: ZH) (Jy t u):=by
  intro pins s σ H D I h
  refine wpAny_execs_cons (thn (h1 pins s σ H { D with nx:=u D } I h) fun f s1 q=>?_)
  cases f with
  | next=>
    obtain ⟨σ', H', I', q⟩:=q
    exact h2 pins s1 σ' H' D I' q
  | ret v=>exact q
  | brk=>exact q
  | cont=>exact q
theorem Inv.quiet {pins : List (Addr × Obj)} {σ : St} {H : Hp} {s : Shared} (I : Inv X pins σ H s) : interactive X.env = false:=by simp [interactive, I.ok.kind]
noncomputable def CM (te : TE) : TS:=fun D σ H=>te σ H fun _ H1=>D.nx σ H1
theorem Zq (he : PE X e te) (hs : swapsWith e none pos.line X.env = pure false:=by rfl) : PS X (.Expr e pos) (CM te):=by
  intro pins s σ H D I h
  exact wpAny_Expr_any (thn (he pins s σ H _ I h) fun v s1 ⟨x, H1, I1, r1, q1⟩=>⟨σ, H1, I1, q1⟩) I.quiet hs
noncomputable def Lz (te : TE) : TS:=fun D σ H=>te σ H D.rt
theorem Xz (he : PE X e te) : PS X (.Return (some e) pos) (Lz te):=by
  intro pins s σ H D I h
  exact wpAny_Return_some (thn (he pins s σ H _ I h) fun v s1 ⟨x, H1, I1, r1, q1⟩=>⟨x, σ, H1, I1, r1, q1⟩)
noncomputable def ID (c : TT) (t u : TS) : TS:=fun D σ H=>c σ H fun b H1=>if b = true then t D σ H1 else u D σ H1
theorem Yx {c : Expr} {a b : List Stmt} {tc : TT} (hc : PT X c tc) (ha : PSs X a t) (hb : PSs X b u) : PS X (.If c a b pos) (ID tc t u):=by
  intro pins s σ H D I h
  refine wpAny_If (thn (hc pins s σ H _ I h) fun d s1 ⟨H1, I1, q1⟩=>?_)
  cases d with
  | true=>exact ha pins s1 σ H1 D I1 q1
  | false=>exact hb pins s1 σ H1 D I1 q1
end
noncomputable abbrev TG:=V -> St -> Hp -> (St -> Hp -> Prop) -> Prop
noncomputable abbrev TGs:=List V -> St -> Hp -> (St -> Hp -> Prop) -> Prop
noncomputable def PG (X : Cx) (target : Expr) (t : TG) : Prop:=
  ∀ (pins : List (Addr × Obj)) (s : Shared) (σ : St) (H : Hp) (v : V) (u : Value) (Q : St -> Hp -> Prop), Inv X pins σ H s -> X9 v u -> t v σ H Q ->
    wpAny (model X.prog X.w) X.A (assign target X.env u) (fun _ s'=>∃ σ' H', Inv X pins σ' H' s' /\ Q σ' H') X.xe s
noncomputable def PGs (X : Cx) (ts : List Expr) (t : TGs) : Prop:=
  ∀ (pins : List (Addr × Obj)) (s : Shared) (σ : St) (H : Hp) (vs : List V) (us : List Value) (Q : St -> Hp -> Prop), Inv X pins σ H s -> XX vs us -> t vs σ H Q ->
    wpAny (model X.prog X.w) X.A (assignInOrder ((assignEach ts X.env).map (·.2)) us) (fun _ s'=>∃ σ' H', Inv X pins σ' H' s' /\ Q σ' H') X.xe s
noncomputable abbrev La:=V -> V -> V -> Hp -> (Hp -> Prop) -> Prop
noncomputable def LJ (X : Cx) (t : La) : Prop:=
  ∀ (pins : List (Addr × Obj)) (s : Shared) (σ : St) (H : Hp) (o i v : V) (ov iv u : Value) (Q : Hp -> Prop), Inv X pins σ H s -> X9 o ov -> X9 i iv -> X9 v u -> t o i v H Q ->
    wpAny (model X.prog X.w) X.A (setItem ov iv u) (fun _ s'=>∃ H', Inv X pins σ H' s' /\ Q H') X.xe s
section
variable {X : Cx} {pos : Pos}
noncomputable def Qv (i : Nat) : TG:=fun v σ H Q=>Q (σ.set i (some v)) H
theorem Xr {i : Nat} {x : Str} (hN : X.N.Nodup) (hi : X.N[i]? = some x) (hx : Loc X.env.scope x) (hf : X.fn x = true ∨ X.env.scope.names.lookup x = some .local:=by first | exact .inl rfl | exact .inr rfl | assumption) : PG X (.Name x pos) (Qv i):=by
  intro pins s σ H v u Q I r h
  exact wpAny_assign_Name (Qq I hN hi hx r (fun s' I'=>⟨_, H, I', h⟩) hf)
noncomputable def Lu : TGs:=fun vs σ H Q=>vs = [] /\ Q σ H
noncomputable def Ff (t : TG) (u : TGs) : TGs:=fun vs σ H Q=>∃ v r, vs = v :: r /\ t v σ H fun σ' H'=>u r σ' H' Q
theorem Kh : PGs X [] Lu:=by
  intro pins s σ H vs us Q I r h
  obtain ⟨e, h⟩:=h
  subst e
  cases r
  exact assignInOrder_nil ⟨σ, H, I, h⟩
theorem Z3 {e : Expr} {es : List Expr} {t : TG} {u : TGs} (h1 : PG X e t) (h2 : PGs X es u)
    (hs : (assignEach (e :: es) X.env).map (·.2) = assign e X.env :: (assignEach es X.env).map (·.2):=by rfl) : PGs X (e :: es) (Ff t u):=by
  intro pins s σ H vs us Q I r h
  obtain ⟨v, vr, e1, h⟩:=h
  subst e1
  cases r with
  | cons r rr=>
    rw [hs]
    refine assignInOrder_cons (thn (h1 pins s σ H _ _ _ I r h) fun _ s1 ⟨σ1, H1, I1, q1⟩=>?_)
    exact h2 pins s1 σ1 H1 _ _ Q I1 rr q1
noncomputable def IP (K : PySem.W.Frag) (n : Nat) (t : TGs) : TG:=fun v σ H Q=>∃ a xs, v = .ref a /\ SqT K H a xs /\ xs.length = n /\ t xs σ H Q
theorem BT {es : List Expr} {k : Nat} {t : TGs} {n : Nat} (hc : X.calm = true) (h : PGs X es t)
    (hn : (assignEach es X.env).length = n:=by rfl) (hst : (assignEach es X.env).findIdx? (·.1) = none:=by rfl) : PG X (.Tuple es k pos) (IP X.K n t):=by
  intro pins s σ H v u Q I r hw
  obtain ⟨a, xs, e1, hq, hl, hw⟩:=hw
  subst e1
  cases r
  obtain ⟨its, rv, ht, hz⟩:=I.tuple hq
  refine assign_Tuple_tuple (I.ok.hd hc) ht (by simp [hn, ← hl, rv.length]) hst fun h' hx=>?_
  have I1 : Inv X pins σ H { s with heap:=h' }:=I.kept (t':=s.toks) fun b o e=>hx b o (Nat.ne_of_lt (Heap.lt_size e)) e
  exact h pins _ σ H xs _ Q I1 (by simpa using rv) hw
noncomputable def IW (to ti : TE) (t : La) : TG:=fun v σ H Q=>to σ H fun o H1=>ti σ H1 fun i H2=>t o i v H2 fun H3=>Q σ H3
theorem J0 {o i : Expr} {to ti : TE} {t : La} (ho : PE X o to) (hi : PE X i ti) (hs : LJ X t)
    (ha : ∀ v, assign (.Subscript o i pos) X.env v = (do
      let ov ← holding [v] (eval o X.env)
      let iv ← holding [v, ov] (eval i X.env)
      standAt pos
      holding [v, ov, iv] (setItem ov iv v)
      release [v, ov, iv] []):=by intro _; rfl) : PG X (.Subscript o i pos) (IW to ti t):=by
  intro pins s σ H v u Q I r h
  rw [ha]
  refine wpAny_bind (wpAny_holding (thn (ho pins s σ H _ I h) fun ov s1 ⟨x, H1, I1, r1, q1⟩=>?_))
  refine wpAny_bind (wpAny_holding (thn (hi pins s1 σ H1 _ I1 q1) fun iv s2 ⟨y, H2, I2, r2, q2⟩=>?_))
  refine wpAny_bind (wpAny_standAt (wpAny_bind (wpAny_holding (thn (hs pins s2 σ H2 x y v ov iv u _ I2 r1 r2 r q2) fun _ s3 ⟨H3, I3, q3⟩=>?_))))
  exact wpAny_release ⟨σ, H3, I3, q3⟩
noncomputable def BJ (te : TE) (g : TG) : TS:=fun D σ H=>te σ H fun x H1=>g x σ H1 D.nx
theorem Ju {tg e : Expr} {te : TE} {g : TG} (he : PE X e te) (hg : PG X tg g) (hs : swapsWithSole [tg] e pos.line X.env = pure false:=by rfl) (hw : swappedStores [tg] e X.env = pure none:=by rfl)
    (h1 : (assignEach [tg] X.env).map (·.2) = [assign tg X.env]:=by rfl) : PS X (.Assign [tg] e pos) (BJ te g):=by
  intro pins s σ H D I h
  refine wpAny_Assign_stores (thn (he pins s σ H _ I h) fun v s1 ⟨x, H1, I1, r1, q1⟩=>?_) hs hw
  rw [h1]
  exact thn (hg pins s1 σ H1 x v _ I1 r1 q1) fun _ s2 q=>q
theorem XJ {i : Nat} {x : Str} {e : Expr} {te : TE} {pos' : Pos} (hN : X.N.Nodup) (hi : X.N[i]? = some x) (hx : Loc X.env.scope x) (he : PE X e te) (hs : swapsWith e (some (.Name x pos')) pos.line X.env = pure false:=by rfl) (hf : X.fn x = true ∨ X.env.scope.names.lookup x = some .local:=by first | exact .inl rfl | exact .inr rfl | assumption) :
    PS X (.Assign [.Name x pos'] e pos) (BJ te (Qv i)):=by
  intro pins s σ H D I h
  refine wpAny_Assign_Name (thn (he pins s σ H _ I h) fun v s1 ⟨y, H1, I1, r1, q1⟩=>?_) hs
  exact Qq I1 hN hi hx r1 (fun s2 I2=>⟨_, H1, I2, q1⟩) hf
noncomputable def Lw (i j : Nat) (ta : TA) : TS:=fun D σ H=>ta σ H fun vs H1=>∃ v w, vs = [v, w] /\ D.nx ((σ.set i (some v)).set j (some w)) H1
theorem BS {i j : Nat} {x y : Str} {a b : Expr} {ta : TA} {px py pt : Pos} {kt k2 pt2} (hc : X.calm = true) (hN : X.N.Nodup) (hi : X.N[i]? = some x) (hj : X.N[j]? = some y) (hij : i ≠ j)
    (hx : X.env.scope.names.lookup x = some .local) (hy : X.env.scope.names.lookup y = some .local) (ha : PA X [a, b] ta)
    (hw : swappedStores [.Tuple [.Name x px, .Name y py] kt pt] (.Tuple [a, b] k2 pt2) X.env = pure (some [x, y]))
    (hs : swapsWithSole [.Tuple [.Name x px, .Name y py] kt pt] (.Tuple [a, b] k2 pt2) pos.line X.env = pure false:=by rfl) :
    PS X (.Assign [.Tuple [.Name x px, .Name y py] kt pt] (.Tuple [a, b] k2 pt2) pos) (Lw i j ta):=by
  intro pins s σ H D I h
  rw [exec_Assign_arm]
  refine wpAny_bind (wpAny_standAt ?_)
  rw [hs]
  refine wpAny_bind (wpAny_pure ?_)
  rw [if_neg (by decide)]
  refine wpAny_bind (Tuple_ (thn (ha _ pins s σ H _ I h) fun us s1 ⟨vs, H1, I1, r1, q1⟩=>?_))
  obtain ⟨v, w, e1, q1⟩:=q1
  subst e1
  obtain ⟨u1, u2, rfl, rv, rw'⟩ : ∃ u1 u2, us = [u1, u2] /\ X9 v u1 /\ X9 w u2:=by
    cases r1 with
    | cons p q=>
      cases q with
      | cons p' q'=>
        cases q'
        exact ⟨_, _, rfl, p, p'⟩
  refine wpAny_newObj_type ?_ (by show 2 <= sizeLine; decide)
  have I2 : Inv X pins σ H1 { s1 with heap:=s1.heap.push { cls:=.type "tuple", data:=.seq [u1, u2].toArray } }:=I1.kept (t':=s1.toks) fun b o e=>Heap.get?_push_of_some _ e
  rw [hw]
  refine wpAny_bind (wpAny_pure ?_)
  show wpAny (model X.prog X.w) X.A (do rule "assign.swapped-stores"; let items ← unpackItems (.ref s1.heap.objs.size) 2 none; assignInOrder [fun v=>bindName X.env y v, fun v=>bindName X.env x v] items.reverse; pure Flow.next) _ _ _
  refine wpAny_bind (wpAny_rule (wpAny_bind (unpackItems_tuple (items:=#[u1, u2]) (I.ok.hd hc) (IsTup.new s1.heap _) fun h' hx'=>?_)))
  have I3:=I2.kept (h':=h') (t':=s1.toks) fun b o e=>hx' b o (Nat.ne_of_lt (Heap.lt_size e)) e
  show wpAny _ _ (assignInOrder [fun v=>bindName X.env y v, fun v=>bindName X.env x v] [u2, u1] >>= fun _=>pure Flow.next) _ _ _
  refine wpAny_bind (assignInOrder_cons (wpAny_bindName (Qq I3 hN hj (.inl hy) rw' (fun s2 I4=>?_) (.inr hy))))
  refine assignInOrder_cons (wpAny_bindName (Qq I4 hN hi (.inl hx) rv (fun s3 I5=>assignInOrder_nil (wpAny_pure ?_)) (.inr hx)))
  rw [List.set_comm _ _ (Ne.symm hij)] at I5
  exact ⟨_, H1, I5, q1⟩
end
section
variable {X : Cx} {pos : Pos}
noncomputable def BL (c : TT) (tb : TS) : TS:=fun D σ H=>∃ W : Nat -> St -> Hp -> Prop, (∃ m, W m σ H) /\ ∀ m σ H, W m σ H ->
  c σ H fun b H1=>if b = true then ∃ N : St -> Hp -> Prop, (∀ σ' H', N σ' H' -> ∃ m', m' < m /\ W m' σ' H') /\ tb { D with nx:=N, ct:=N, bk:=D.nx } σ H1 else D.nx σ H1
theorem Gy {c : Expr} {body : List Stmt} {tc : TT} {tb : TS} (hp : PassesOwn (model X.prog X.w) X.A X.env X.xe) (hc : PT X c tc) (hb : PSs X body tb) : PS X (.While c body [] pos) (BL tc tb):=by
  intro pins s σ H D I h
  obtain ⟨W, ⟨m0, w0⟩, turn⟩:=h
  refine wpAny_While (codeAny_whileLoop (fun n s'=>∃ σ' H', Inv X pins σ' H' s' /\ W n σ' H') ?_ m0 ⟨σ, H, I, w0⟩)
  rintro n s1 ⟨σ1, H1, I1, w1⟩
  refine wpAny_passesOwn hp (thn (hc pins s1 σ1 H1 _ I1 (turn n σ1 H1 w1)) fun b s2 ⟨H2, I2, q2⟩=>?_)
  cases b with
  | true=>
    obtain ⟨N, hN, q2⟩:=q2
    rw [if_pos rfl]
    refine wpAny_passesOwn hp (thn (hb pins s2 σ1 H2 _ I2 q2) fun f s3 q3=>?_)
    cases f with
    | next=>
      obtain ⟨σ3, H3, I3, n3⟩:=q3
      obtain ⟨m', hm, w3⟩:=hN σ3 H3 n3
      exact ⟨m', hm, σ3, H3, I3, w3⟩
    | cont=>
      obtain ⟨σ3, H3, I3, n3⟩:=q3
      obtain ⟨m', hm, w3⟩:=hN σ3 H3 n3
      exact ⟨m', hm, σ3, H3, I3, w3⟩
    | brk=>exact q3
    | ret v=>exact q3
  | false=>
    rw [if_neg Bool.false_ne_true]
    exact wpAny_execs_nil ⟨σ1, H2, I2, q2⟩
end
structure It where
  go : Nat -> Hp -> Prop
  yld : Nat -> Hp -> V -> Hp -> Prop
  stop : Nat -> Hp -> Prop
noncomputable def K1 (X : Cx) (pins : List (Addr × Obj)) (H : Hp) (b : Addr) : Prop:=
  H b = none /\ b ≠ X.env.locals /\ b ∉ X.fs /\ (b ∈ X.ex ∨ X.s₀.heap.objs.size <= b) /\ (∀ x c, X.env.cells.lookup x = some c -> c ≠ b) /\ ∀ p ∈ X.pn ++ pins, p.1 ≠ b
theorem Inv.fpOk {X : Cx} {pins : List (Addr × Obj)} {σ : St} {H H' : Hp} {s : Shared} {b : Addr} (I : Inv X pins σ H s) (hb : s.heap.objs.size <= b) (hn : H' b = none) : K1 X pins H' b:=by
  refine ⟨hn, Nat.ne_of_gt (Nat.lt_of_lt_of_le I.lt hb), I.nofs hb, .inr (Nat.le_trans I.sz hb), fun x c e z=>?_, fun p hp z=>?_⟩
  . obtain ⟨v, q⟩ := I.cell x c e
    exact absurd (Nat.lt_of_lt_of_le q.lt (by rw [z]; exact hb)) (Nat.lt_irrefl _)
  . exact absurd (Nat.lt_of_lt_of_le (Heap.lt_size (I.pin p hp).1) (by rw [z]; exact hb)) (Nat.lt_irrefl _)
structure Turn (P : Program) (w : World) (K : PySem.W.Frag) (tg : Expr) (J : It) (fp : List Addr) (it : Addr) (tn : Nat -> Heap -> Prop) : Prop where
  mem : it ∈ fp
  obj : ∀ i h, tn i h -> ∀ b ∈ fp, ∃ o, h.get? b = some o /\ ∀ v, o.data ≠ .cell v
  keep : ∀ i h h', tn i h -> (∀ b ∈ fp, ∀ o, h.get? b = some o -> h'.get? b = some o) -> tn i h'
  item : ∀ (X : Cx), X.prog = P -> X.w = w -> X.K = K -> X.calm = true -> ∀ (i : Nat) (pins : List (Addr × Obj)) (s : Shared) (σ : St) (H : Hp) (E : Value -> Shared -> Prop), Inv X pins σ H s -> (∀ b ∈ fp, K1 X pins H b) -> tn i s.heap -> J.go i H ->
    wpAny (model P w) X.A (pyNext (.ref it)) (fun r s1=>∃ u, r = some u /\
      wpAny (model P w) X.A (letOwnedTupleGo tg (.ref it) u) (fun _ s2=>∃ x H', Inv X pins σ H' s2 /\ X9 x u /\ J.yld i H x H' /\ tn (i + 1) s2.heap /\ ∀ b ∈ fp, H' b = none) E s1) E s
  done : ∀ (X : Cx), X.prog = P -> X.w = w -> X.K = K -> X.calm = true -> ∀ (i : Nat) (pins : List (Addr × Obj)) (s : Shared) (σ : St) (H : Hp) (E : Value -> Shared -> Prop), Inv X pins σ H s -> (∀ b ∈ fp, K1 X pins H b) -> tn i s.heap -> J.stop i H ->
    wpAny (model P w) X.A (pyNext (.ref it)) (fun r s1=>r = none /\ Inv X pins σ H s1) E s
  self : ∀ (A : Around) (i : Nat) (s : Shared) (Q : Value -> Shared -> Prop) (E : Value -> Shared -> Prop), tn i s.heap -> Q (.ref it) s -> wpAny (model P w) A (pyIter (.ref it)) Q E s
noncomputable abbrev TI:=St -> Hp -> (It -> Hp -> Prop) -> Prop
noncomputable def PIE (X : Cx) (pins : List (Addr × Obj)) (σ : St) (tg : Expr) (R : It -> Hp -> Prop) (itv : Value) (s2 : Shared) : Prop:=
  ∃ (it : Addr) (fp : List Addr) (tn : Nat -> Heap -> Prop) (J : It) (H' : Hp), itv = .ref it /\ Inv X pins σ H' s2 /\ Turn X.prog X.w X.K tg J fp it tn /\ tn 0 s2.heap /\ (∀ b ∈ fp, K1 X pins H' b) /\ R J H'
noncomputable def PI (X : Cx) (tg iter : Expr) (wi : TI) : Prop:=
  ∀ (pins : List (Addr × Obj)) (s : Shared) (σ : St) (H : Hp) (R : It -> Hp -> Prop), Inv X pins σ H s -> wi σ H R ->
    wpAny (model X.prog X.w) X.A (eval iter X.env) (fun v s1=>wpAny (model X.prog X.w) X.A (pyIter v) (PIE X pins σ tg R) X.xe s1) X.xe s
theorem Ek {M : Model} {A : Around} {E : Value -> Shared -> Prop} {s : Shared} {tg : Expr} {it : Addr} {u : Value} {o : Obj} {n : String} {vs : Array Value} {Q : Unit -> Shared -> Prop} (ho : s.heap.get? it = some o) (hc : o.cls = .type n) (hd : o.data = .fields vs)
    (hn : ["enumerate", "zip", "dict_itemiterator", "dict_reverseitemiterator", "odict_iterator", "itertools.zip_longest", "itertools.pairwise"].contains n = false) (hQ : Q () s) : wpAny M A (letOwnedTupleGo tg (.ref it) u) Q E s:=by
  unfold letOwnedTupleGo
  cases tg <;> first
    | exact wpAny_pure hQ
    | (cases u <;> first
        | exact wpAny_pure hQ
        | (refine wpAny_bind (wpAny_load ho ?_)
           rw [hc, hd]
           show wpAny M A (if (["enumerate", "zip", "dict_itemiterator", "dict_reverseitemiterator", "odict_iterator", "itertools.zip_longest", "itertools.pairwise"].contains n && vs[0]? == some (rawInt _)) = true then _ else _) Q E s
           rw [if_neg (by intro h; rw [hn, Bool.false_and] at h; cases h)]
           exact wpAny_pure hQ))
noncomputable def Itl (K : PySem.W.Frag) (a : Addr) : It:=
  ⟨fun i H=>∃ xs x, SqL K H a xs /\ xs[i]? = some x, fun i H x H'=>H' = H /\ ∀ xs, SqL K H a xs -> xs[i]? = some x, fun i H=>∃ xs, SqL K H a xs /\ xs.length <= i⟩
noncomputable def Itr (lo : Int) (n : Nat) : It:=⟨fun i _=>i < n, fun i H x H'=>H' = H /\ x = .int (lo + i), fun i _=>n <= i⟩
theorem Fp {P : Program} {w : World} {K : PySem.W.Frag} {tg : Expr} (a it : Addr) : Turn P w K tg (Itl K a) [it] it (fun i h=>h.IsListIter it a i) where
  mem:=by simp
  obj:=fun i h st b hb=>by
    have e : b = it:=by simpa using hb
    subst e
    obtain ⟨o, e, c, d⟩:=st
    exact ⟨o, e, fun v z=>by rw [d] at z; cases z⟩
  keep:=fun i h h' st k=>st.at fun o e=>k it (by simp) o e
  item:=by
    intro X hP hw hK hc i pins s σ H E I hf st hg
    subst hP hw hK
    obtain ⟨xs, x, hq, hx⟩:=hg
    obtain ⟨its, rv, p, hz⟩:=I.list hq
    obtain ⟨u, hu, ru⟩:=rv.get hx
    obtain ⟨f0, f1, f2, f3, f4, f5⟩:=hf it (by simp)
    refine wpAny_pyNext_list_item st p.isList (x:=u) (by simpa using hu) fun h' st' sb=>?_
    have I1 : Inv X pins σ H { s with heap:=h' }:=I.turned (t':=s.toks) (fun b o hb e=>(sb.2 b hb).trans e) f0 f1 f3 f4 f5
    obtain ⟨o, e, c, d⟩:=id st'
    exact ⟨u, rfl, Ek (s:={ s with heap:=h' }) e c d (by decide) ⟨x, H, I1, ru, ⟨rfl, fun ys hy=>by rw [I.list_inj hy hq]; exact hx⟩, st', fun b hb=>(hf b hb).1⟩⟩
  done:=by
    intro X hP hw hK hc i pins s σ H E I hf st hg
    subst hP hw hK
    obtain ⟨xs, hq, hx⟩:=hg
    obtain ⟨its, rv, p, hz⟩:=I.list hq
    obtain ⟨f0, f1, f2, f3, f4, f5⟩:=hf it (by simp)
    have hl:=rv.length
    exact wpAny_pyNext_list_end (I.ok.hd hc) st p.isList (by simp; omega) fun h' eb=>⟨rfl, I.turned (t':=s.toks) (fun b o hb e=>eb b o hb e) f0 f1 f3 f4 f5⟩
  self:=fun _ _ _ _ _ st h=>wpAny_pyIter_listiter st h
theorem G5 {P : Program} {w : World} {K : PySem.W.Frag} {tg : Expr} (it : Addr) (lo : Int) (n : Nat) : Turn P w K tg (Itr lo n) [it] it (fun i h=>IsRangeIter h it (lo + (i : Nat) * 1) ((n : Int) - (i : Nat)) 1) where
  mem:=by simp
  obj:=fun i h st b hb=>by
    have e : b = it:=by simpa using hb
    subst e
    exact ⟨_, st, fun v z=>by
      have z' : Data.fields _ = Data.cell v:=z
      cases z'⟩
  keep:=fun i h h' st k=>k it (by simp) _ st
  item:=by
    intro X hP hw hK hc i pins s σ H E I hf st hg
    subst hP hw hK
    obtain ⟨f0, f1, f2, f3, f4, f5⟩:=hf it (by simp)
    have W:=Walks.range (prog:=X.prog) (w:=X.w) (I.ok.hd hc) it lo 1 n
    refine W.item i s _ _ hg st fun v h' tk hv st' kk=>?_
    obtain ⟨t, rfl⟩:=hv
    have I1 : Inv X pins σ H { s with heap:=h', toks:=tk }:=I.turned (fun b o hb e=>kk b o (by simpa using hb) e) f0 f1 f3 f4 f5
    refine ⟨_, rfl, Ek (s:={ s with heap:=h', toks:=tk }) (n:="range_iterator") st' rfl rfl (by decide) ⟨.int (lo + i), H, I1, ⟨t, ?_⟩, ⟨rfl, rfl⟩, st', fun b hb=>(hf b hb).1⟩⟩
    rw [Int.mul_one]
  done:=by
    intro X hP hw hK hc i pins s σ H E I hf st hg
    subst hP hw hK
    obtain ⟨f0, f1, f2, f3, f4, f5⟩:=hf it (by simp)
    exact wpAny_pyNext_range_end (I.ok.hd hc) st (by have : n <= i:=hg; omega) fun h' eb=>⟨rfl, I.turned (t':=s.toks) (fun b o hb e=>eb b o hb e) f0 f1 f3 f4 f5⟩
  self:=fun _ _ _ _ _ st h=>wpAny_pyIter_rangeiter st h
end L2
namespace L2
open PySem PySem.Spec PyProof.Rows
section
variable {X : Cx} {tg : Expr}
noncomputable def Cr (K : PySem.W.Frag) (tl : TE) : TI:=fun σ H R=>tl σ H fun x H1=>∃ a, x = .ref a /\ (∃ xs, SqL K H1 a xs) /\ R (Itl K a) H1
theorem B7 {l : Expr} {tl : TE} (hl : PE X l tl) : PI X tg l (Cr X.K tl):=by
  intro pins s σ H R I h
  refine thn (hl pins s σ H _ I h) fun v s1 ⟨x, H1, I1, r1, q1⟩=>?_
  obtain ⟨a, e, ⟨xs, hq⟩, q⟩:=q1
  subst e
  cases r1
  obtain ⟨its, rv, p, hz⟩:=I1.list hq
  refine wpAny_pyIter_list p.isList ?_
  refine ⟨s1.heap.objs.size, [s1.heap.objs.size], _, _, H1, rfl, I1.kept (t':=s1.toks) fun b o e=>Heap.get?_push_of_some _ e, Fp a _, ⟨_, Heap.get?_push_size _ rfl, rfl, rfl⟩, fun b hb=>?_, q⟩
  have e : b = s1.heap.objs.size:=by simpa using hb
  subst e
  exact I1.fpOk (Nat.le_refl _) (I1.hok.fresh (Nat.le_refl _))
theorem CP {pins : List (Addr × Obj)} {σ : St} {H : Hp} {s : Shared} {R : It -> Hp -> Prop} {E : Value -> Shared -> Prop} {lo hi : Int} {t u v : Tok} {tk : Nat} (I : Inv X pins σ H s) (h1 : -(2 ^ 62) <= lo) (h2 : lo < 2 ^ 62) (h3 : -(2 ^ 62) <= hi) (h4 : hi < 2 ^ 62)
    (q : R (Itr lo (hi - lo).toNat) H) : wpAny (model X.prog X.w) X.A (pyIter (.ref s.heap.objs.size)) (PIE X pins σ tg R) E { s with heap:=s.heap.push { cls:=.type "range", data:=.fields #[.int lo t, .int hi u, .int 1 v] }, toks:=tk }:=by
  refine wpAny_pyIter_range (IsRange.new ..) (small_one h1 h2 h3 h4) ?_
  have I1 : Inv X pins σ H { s with heap:=s.heap.push { cls:=.type "range", data:=.fields #[.int lo t, .int hi u, .int 1 v] }, toks:=tk }:=I.kept fun b o e=>Heap.get?_push_of_some _ e
  refine ⟨(s.heap.push { cls:=.type "range", data:=.fields #[.int lo t, .int hi u, .int 1 v] }).objs.size, [(s.heap.push { cls:=.type "range", data:=.fields #[.int lo t, .int hi u, .int 1 v] }).objs.size], _, _, H, rfl,
    I1.kept (t':=tk) fun b o e=>Heap.get?_push_of_some _ e, G5 _ lo (hi - lo).toNat, ?_, fun b hb=>?_, q⟩
  . have e1 : lo + ((0 : Nat) : Int) * 1 = lo := by simp
    have e2 : (((hi - lo).toNat : Nat) : Int) - ((0 : Nat) : Int) = Builtin.Range.rangeSize lo hi 1:=by rw [rangeSize_one]; split <;> omega
    show IsRangeIter _ _ (lo + ((0 : Nat) : Int) * 1) ((((hi - lo).toNat : Nat) : Int) - ((0 : Nat) : Int)) 1
    rw [e1, e2]
    exact Heap.get?_push_size _ rfl
  . have e : b = (s.heap.push { cls := .type "range", data := .fields #[.int lo t, .int hi u, .int 1 v] }).objs.size := by simpa using hb
    subst e
    exact I1.fpOk (Nat.le_refl _) (I1.hok.fresh (Nat.le_refl _))
noncomputable def IJ (ta : TA) : TI:=fun σ H R=>ta σ H fun vs H1=>∃ j : Int, vs = [.int j] /\ -(2 ^ 62) <= j /\ j < 2 ^ 62 /\ R (Itr 0 j.toNat) H1
theorem XQ {a : Expr} {ta : TA} {p pos : Pos} (hg : Gl X "range") (hm : X.mg "range" = none) (ha : PA X [a] ta) (hs : starEach [a] X.env = [(false, eval a X.env)]:=by rfl) : PI X tg (.Call (.Name "range" p) [a] [] pos) (IJ ta):=by
  intro pins s σ H R I h
  refine Call_ (JH I hg hm boot_range (PyProof.Rows.callWith_type1 (thn (ha pos pins s σ H _ I h) fun us s1 ⟨vs, H1, I1, r1, q1⟩=>?_) hs rfl))
  obtain ⟨j, e, q1, q2, q⟩:=q1
  subst e
  cases r1 with
  | cons r rr=>
    cases rr
    obtain ⟨t, rfl⟩:=r
    exact call_range_1 (CP I1 (by omega) (by omega) q1 q2 (by simpa using q))
noncomputable def IB (wi : TI) (g : TG) (tb : TS) : TS:=fun D σ H=>wi σ H fun J H1=>∃ W : Nat -> Nat -> St -> Hp -> Prop, (∃ m, W 0 m σ H1) /\ ∀ i m σ H, W i m σ H ->
  (J.stop i H /\ D.nx σ H) ∨ (J.go i H /\ ∃ N : St -> Hp -> Prop, (∀ σ' H', N σ' H' -> ∃ m', m' < m /\ W (i + 1) m' σ' H') /\ ∀ x H', J.yld i H x H' -> g x σ H' fun σ2 H2=>tb { D with nx:=N, ct:=N, bk:=D.nx } σ2 H2)
noncomputable def US (fp : List Addr) (h : Heap) : List (Addr × Obj):=fp.filterMap fun b=>(h.get? b).map fun o=>(b, o)
theorem QI {fp : List Addr} {h : Heap} {b : Addr} {o : Obj} (hb : b ∈ fp) (e : h.get? b = some o) : (b, o) ∈ US fp h:=List.mem_filterMap.mpr ⟨b, hb, by rw [e]; rfl⟩
theorem FN {fp : List Addr} {h : Heap} {p : Addr × Obj} (hp : p ∈ US fp h) : p.1 ∈ fp /\ h.get? p.1 = some p.2:=by
  obtain ⟨b, hb, e⟩:=List.mem_filterMap.mp hp
  cases q : h.get? b with
  | none=>rw [q] at e; cases e
  | some o=>
    rw [q] at e
    have e' : (b, o) = p:=Option.some.inj e
    subst e'
    exact ⟨hb, q⟩
theorem Inv.pinned {pins : List (Addr × Obj)} {σ : St} {H : Hp} {s : Shared} {fp : List Addr} (I : Inv X pins σ H s) (hf : ∀ b ∈ fp, K1 X pins H b) (ho : ∀ b ∈ fp, ∃ o, s.heap.get? b = some o /\ ∀ v, o.data ≠ .cell v) : Inv X (pins ++ US fp s.heap) σ H s:=
  I.pins_of fun p hp=>(List.mem_append.mp hp).elim (fun z=>I.pin p (List.mem_append_right _ z)) fun z=>by
    obtain ⟨hb, e⟩:=FN z
    obtain ⟨f0, f1, f2, _⟩:=hf p.1 hb
    obtain ⟨o, e', d⟩:=ho p.1 hb
    rw [e] at e'; cases e'
    exact ⟨e, f0, f1, f2, d⟩
theorem Inv.unpinned {pins pl : List (Addr × Obj)} {σ : St} {H : Hp} {s : Shared} (I : Inv X (pins ++ pl) σ H s) : Inv X pins σ H s:=I.pins_of fun p hp=>I.pin p (List.mem_append_right _ (List.mem_append_left _ hp))
theorem Yg {iter : Expr} {body : List Stmt} {wi : TI} {g : TG} {tb : TS} {pos : Pos} (hp : PassesOwn (model X.prog X.w) X.A X.env X.xe) (hc : X.calm = true) (hi : PI X tg iter wi) (hg : PG X tg g) (hb : PSs X body tb)
    (hs : ∀ x, foldedSetIterable iter X.env x = pure x:=by intro _; rfl) : PS X (.For tg iter body [] pos) (IB wi g tb):=by
  intro pins s σ H D I h
  refine wpAny_For (thn (hi pins s σ H _ I h) fun v s1 h1=>thn h1 fun itv s2 h2=>?_) hs
  obtain ⟨it, fp, tn, J, H2, e, I2, T, st2, f2, W, ⟨m0, w0⟩, turn⟩:=h2
  subst e
  -- what stays true of the iterator's objects through the loop
  have stat : ∀ {H' : Hp}, (∀ b ∈ fp, H' b = none) -> ∀ b ∈ fp, K1 X pins H' b:=fun hn b hb=>⟨hn b hb, (f2 b hb).2⟩
  refine codeAny_forLoop_any (fun n s'=>∃ i σ' H', Inv X pins σ' H' s' /\ tn i s'.heap /\ (∀ b ∈ fp, H' b = none) /\ W i n σ' H') ?_ m0 ⟨0, σ, H2, I2, st2, fun b hb=>(f2 b hb).1, w0⟩
  rintro n s3 ⟨i, σ3, H3, I3, st3, fr3, w3⟩
  rcases turn i n σ3 H3 w3 with ⟨stop, qn⟩ | ⟨go, N, hN, step⟩
  . refine wpAny_passesOwn hp (thn (T.done X rfl rfl rfl hc i pins s3 σ3 H3 X.xe I3 (stat fr3) st3 stop) fun r s4 ⟨hr, I4⟩ => ?_)
    subst hr
    exact wpAny_execs_nil ⟨σ3, H3, I4, qn⟩
  . refine wpAny_passesOwn hp (thn (T.item X rfl rfl rfl hc i pins s3 σ3 H3 X.xe I3 (stat fr3) st3 go) fun r s4 ⟨u, hr, h4⟩ => ?_)
    subst hr
    refine wpAny_passesOwn hp (thn h4 fun _ s5 ⟨x, H5, I5, r5, y5, st5, fr5⟩=>?_)
    have I5':=I5.pinned (stat fr5) (T.obj _ _ st5)
    refine wpAny_passesOwn hp (thn (hg _ s5 σ3 H5 x u _ I5' r5 (step x H5 y5)) fun _ s6 ⟨σ6, H6, I6, q6⟩=>?_)
    refine wpAny_passesOwn hp (thn (hb _ s6 σ6 H6 _ I6 q6) fun f s7 q7=>?_)
    have again : ∀ {σ7 : St} {H7 : Hp}, Inv X (pins ++ US fp s5.heap) σ7 H7 s7 -> N σ7 H7 -> ∃ m, m < n /\ ∃ i σ' H', Inv X pins σ' H' s7 /\ tn i s7.heap /\ (∀ b ∈ fp, H' b = none) /\ W i m σ' H':=fun {σ7 H7} I7 n7=>by
      obtain ⟨m', hm, w7⟩:=hN σ7 H7 n7
      refine ⟨m', hm, i + 1, σ7, H7, I7.unpinned, T.keep _ _ _ st5 fun b hb o e=>(I7.pin (b, o) (List.mem_append_right _ (List.mem_append_right _ (QI hb e)))).1, fun b hb=>?_, w7⟩
      obtain ⟨o, e, d⟩:=T.obj _ _ st5 b hb
      exact (I7.pin (b, o) (List.mem_append_right _ (List.mem_append_right _ (QI hb e)))).2.1
    cases f with
    | next=>obtain ⟨σ7, H7, I7, n7⟩:=q7; exact again I7 n7
    | cont=>obtain ⟨σ7, H7, I7, n7⟩:=q7; exact again I7 n7
    | brk=>obtain ⟨σ7, H7, I7, q7⟩:=q7; exact ⟨σ7, H7, I7.unpinned, q7⟩
    | ret v=>obtain ⟨x7, σ7, H7, I7, r7, q7⟩:=q7; exact ⟨x7, σ7, H7, I7.unpinned, r7, q7⟩
end
theorem Bk {K : PySem.W.Frag} {a : Addr} {xs : List V} {g : TG} {tb : TS} {D : Ends} {σ : St} {H : Hp} (Pv : Nat -> St -> Hp -> Prop) (h0 : Pv 0 σ H) (hl : ∀ i σ H, i <= xs.length -> Pv i σ H -> SqL K H a xs)
    (hs : ∀ i x σ H, xs[i]? = some x -> Pv i σ H -> g x σ H fun σ2 H2=>tb { D with nx:=Pv (i + 1), ct:=Pv (i + 1), bk:=D.nx } σ2 H2) (hd : ∀ σ H, Pv xs.length σ H -> D.nx σ H) :
    ∃ W : Nat -> Nat -> St -> Hp -> Prop, (∃ m, W 0 m σ H) /\ ∀ i m σ H, W i m σ H ->
      ((Itl K a).stop i H /\ D.nx σ H) ∨ ((Itl K a).go i H /\ ∃ N : St -> Hp -> Prop, (∀ σ' H', N σ' H' -> ∃ m', m' < m /\ W (i + 1) m' σ' H') /\ ∀ x H', (Itl K a).yld i H x H' -> g x σ H' fun σ2 H2=>tb { D with nx:=N, ct:=N, bk:=D.nx } σ2 H2):=by
  refine ⟨fun i m σ H=>m = xs.length - i /\ i <= xs.length /\ Pv i σ H, ⟨xs.length, by simp, Nat.zero_le _, h0⟩, ?_⟩
  rintro i m σ H ⟨rfl, hi, p⟩
  have q:=hl i σ H hi p
  by_cases hlt : i < xs.length
  . refine .inr ⟨⟨xs, xs[i], q, by simp [hlt]⟩, Pv (i + 1), fun σ' H' p' => ⟨xs.length - (i + 1), by omega, rfl, hlt, p'⟩, fun x H' y => ?_⟩
    obtain ⟨e, y⟩:=y
    subst e
    exact hs i x σ _ (y xs q) p
  . have e : i = xs.length := by omega
    subst e
    exact .inl ⟨⟨xs, q, Nat.le_refl _⟩, hd σ H p⟩
end L2
namespace L2
open PySem PySem.Spec PyProof.Rows
noncomputable abbrev R2:=V -> V -> Hp -> VK -> Prop
noncomputable def OpR (X : Cx) (f : Value -> Value -> Sem Value) (r : R2) : Prop:=
  ∀ (pins : List (Addr × Obj)) (s : Shared) (σ : St) (H : Hp) (x y : V) (v u : Value) (Q : VK), Inv X pins σ H s -> X9 x v -> X9 y u -> r x y H Q ->
    wpAny (model X.prog X.w) X.A (f v u) (EP X pins σ Q) X.xe s
noncomputable def ZS (X : Cx) (f : Value) (r : List V -> Hp -> VK -> Prop) : Prop:=
  ∀ (pins : List (Addr × Obj)) (s : Shared) (σ : St) (H : Hp) (xs : List V) (us : List Value) (Q : VK), Inv X pins σ H s -> XX xs us -> r xs H Q ->
    wpAny (model X.prog X.w) X.A (call f us) (EP X pins σ Q) X.xe s
noncomputable def tOp (r : R2) (ta tb : TE) : TE:=fun σ H Q=>ta σ H fun x H1=>tb σ H1 fun y H2=>r x y H2 Q
noncomputable def rI (C : Int -> Int -> Prop) (g : Int -> Int -> V) : R2:=fun x y H Q=>∃ i j, x = .int i /\ y = .int j /\ C i j /\ Q (g i j) H
noncomputable def rI0 (g : Int -> Int -> V) : R2:=fun x y H Q=>∃ i j, x = .int i /\ y = .int j /\ Q (g i j) H
section
variable {X : Cx} {a b c : Expr} {ta tb tc : TE} {pos : Pos}
theorem IY (ha : PE X a ta) (hb : PE X b tb) {pins : List (Addr × Obj)} {s : Shared} {σ : St} {H : Hp} {R : V -> V -> Hp -> Prop} (I : Inv X pins σ H s)
    (h : ta σ H fun x H1=>tb σ H1 fun y H2=>R x y H2) {Q : Value -> Shared -> Prop} {f : Value -> Value -> Sem Value}
    (hf : ∀ v u s2 x y H2, Inv X pins σ H2 s2 -> X9 x v -> X9 y u -> R x y H2 -> wpAny (model X.prog X.w) X.A (f v u) Q X.xe s2) :
    wpAny (model X.prog X.w) X.A (eval a X.env) (fun v s₁=>wpAny (model X.prog X.w) X.A (eval b X.env) (fun u s₂=>wpAny (model X.prog X.w) X.A (f v u) Q X.xe s₂) X.xe s₁) X.xe s:=by
  refine thn (ha pins s σ H _ I h) fun v s1 ⟨x, H1, I1, r1, q1⟩=>?_
  refine thn (hb pins s1 σ H1 _ I1 q1) fun u s2 ⟨y, H2, I2, r2, q2⟩=>?_
  exact hf v u s2 x y H2 I2 r1 r2 q2
theorem Xt {op : Operator} {r : R2} (ho : OpR X (binaryOp op) r) (ha : PE X a ta) (hb : PE X b tb) : PE X (.BinOp a op b pos) (tOp r ta tb):=by
  intro pins s σ H Q I h
  exact wpAny_BinOp (IY ha hb I h fun v u s2 x y H2 I2 rx ry q=>ho pins s2 σ H2 x y v u Q I2 rx ry q)
theorem opI {f : Value -> Value -> Sem Value} {C : Int -> Int -> Prop} {g : Int -> Int -> Int}
    (rule : ∀ (i j : Int) (t u : Tok) (s : Shared) (Q : Value -> Shared -> Prop) (E : Value -> Shared -> Prop), C i j -> Q (.int (g i j) s.toks) { s with toks:=s.toks + 1 } -> wpAny (model X.prog X.w) X.A (f (.int i t) (.int j u)) Q E s) :
    OpR X f (rI C fun i j=>.int (g i j)):=by
  intro pins s σ H x y v u Q I rx ry h
  obtain ⟨i, j, rfl, rfl, hc, q⟩:=h
  obtain ⟨t, rfl⟩:=rx
  obtain ⟨t', rfl⟩:=ry
  exact rule i j t t' s _ _ hc ⟨.int (g i j), H, I.tok _, ⟨_, rfl⟩, q⟩
theorem LI {f : Value -> Value -> Sem Value} {g : Int -> Int -> Int}
    (rule : ∀ (i j : Int) (t u : Tok) (s : Shared) (Q : Value -> Shared -> Prop) (E : Value -> Shared -> Prop), Q (.int (g i j) s.toks) { s with toks:=s.toks + 1 } -> wpAny (model X.prog X.w) X.A (f (.int i t) (.int j u)) Q E s) :
    OpR X f (rI0 fun i j=>.int (g i j)):=by
  intro pins s σ H x y v u Q I rx ry h
  obtain ⟨i, j, rfl, rfl, q⟩:=h
  obtain ⟨t, rfl⟩:=rx
  obtain ⟨t', rfl⟩:=ry
  exact rule i j t t' s _ _ ⟨.int (g i j), H, I.tok _, ⟨_, rfl⟩, q⟩
theorem Lb {f : Value -> Value -> Sem Value} {g : Int -> Int -> Bool}
    (rule : ∀ (i j : Int) (t u : Tok) (s : Shared) (Q : Value -> Shared -> Prop) (E : Value -> Shared -> Prop), Q (.bool (g i j)) s -> wpAny (model X.prog X.w) X.A (f (.int i t) (.int j u)) Q E s) :
    OpR X f (rI0 fun i j=>.bl (g i j)):=by
  intro pins s σ H x y v u Q I rx ry h
  obtain ⟨i, j, rfl, rfl, q⟩:=h
  obtain ⟨t, rfl⟩:=rx
  obtain ⟨t', rfl⟩:=ry
  exact rule i j t t' s _ _ ⟨.bl (g i j), H, I, rfl, q⟩
noncomputable def LC (i j : Int) : Prop:=0 <= j /\ j <= 1000000 /\ i.natAbs < 2 ^ 64
noncomputable def IT (i j : Int) : Prop:=(-(2 ^ 64) < i /\ i < 2 ^ 64) ∨ (-(2 ^ 64) < j /\ j < 2 ^ 64)
theorem IT.ok {i j : Int} (h : IT i j) : IntMulOk i j:=by
  rcases h with ⟨h1, h2⟩ | ⟨h1, h2⟩
  . exact .of_left (intBits_le_64 h1 h2)
  . exact .of_right (intBits_le_64 h1 h2)
theorem Yy : OpR X (binaryOp .Add) (rI0 fun i j=>.int (i + j)):=LI fun _ _ _ _ _ _ _ q=>add_int q
theorem Zm : OpR X (binaryOp .Sub) (rI0 fun i j=>.int (i - j)):=LI fun _ _ _ _ _ _ _ q=>sub_int q
theorem ZO : OpR X (binaryOp .Mult) (rI IT fun i j=>.int (i * j)):=opI fun _ _ _ _ _ _ _ hc q=>mul_int q hc.ok
theorem Yr : OpR X (binaryOp .Mod) (rI (fun _ j=>0 < j) fun i j=>.int (i % j)):=opI fun i j _ _ _ _ _ hc q=>by
  have h1 : (0 : Int) < j:=hc
  exact mod_int' (by omega) (by rw [Int.fmod_eq_emod_of_nonneg i (by omega)]; exact q)
theorem BN : OpR X (binaryOp .Pow) (rI LC fun i j=>.int (i ^ j.toNat)):=opI fun _ _ _ _ _ _ _ hc q=>pow_int_small hc.1 hc.2.1 hc.2.2 q
end
noncomputable def Lo : V -> V -> Bool
  | .non, .non=>true | .non, .int _=>true | .int _, .non=>true | .non, .bl _=>true | .bl _, .non=>true | .non, .str _=>true | .str _, .non=>true
  | .int _, .int _=>true | .bl _, .bl _=>true | .str _, .str _=>true | .byt _, .byt _=>true
  | .int _, .str _=>true | .str _, .int _=>true | .bl _, .str _=>true | .str _, .bl _=>true
  | _, _=>false
noncomputable def rEq : R2:=fun x y H Q=>Lo x y = true /\ Q (.bl (decide (x = y))) H
noncomputable def rNe : R2:=fun x y H Q=>Lo x y = true /\ Q (.bl (!decide (x = y))) H
theorem Dn {i j : Int} : decide (V.int i = V.int j) = (i == j):=by
  rw [Bool.eq_iff_iff]
  simp
theorem BU {i j : Bool} : decide (V.bl i = V.bl j) = (i == j):=by
  rw [Bool.eq_iff_iff]
  simp
theorem Cb {i j : Str} : decide (V.str i = V.str j) = (i == j):=by
  rw [Bool.eq_iff_iff]
  simp
theorem Fi {i j : Array UInt8} : decide (V.byt i = V.byt j) = (i.toList == j.toList):=by
  rw [Bool.eq_iff_iff]
  cases i
  cases j
  simp
section
variable {X : Cx} {a b c : Expr} {ta tb tc : TE} {pos : Pos}
theorem XT {pins : List (Addr × Obj)} {σ : St} {H : Hp} {s : Shared} {Q : VK} {k k' : Bool} (I : Inv X pins σ H s) (q : Q (.bl k) H) (e : k = k') : EP X pins σ Q (.bool k') s:=by
  subst e
  exact ⟨.bl k, H, I, rfl, q⟩
theorem Zz : OpR X (compareOp .Eq) rEq:=by
  intro pins s σ H x y v u Q I rx ry h
  obtain ⟨hs, q⟩:=h
  cases x with
  | non=>
    cases rx
    cases y with
    | non=>cases ry; exact PySem.EqNone.eq_none_none (XT I q (by simp))
    | bl j=>cases ry; exact PySem.EqNone.eq_none_bool (XT I q (by simp))
    | int j=>obtain ⟨t', rfl⟩:=ry; exact PySem.EqNone.eq_none_int (XT I q (by simp))
    | str j=>obtain ⟨t', rfl⟩:=ry; exact PySem.EqNone.eq_none_str (XT I q (by simp))
    | _=>exact absurd (show false = true from hs) Bool.false_ne_true
  | bl i=>
    cases rx
    cases y with
    | non=>cases ry; exact PySem.EqNone.eq_bool_none (XT I q (by simp))
    | bl j=>cases ry; exact eq_bool (XT I q BU)
    | str j=>obtain ⟨t', rfl⟩:=ry; exact PySem.EqMixed.eq_bool_str (XT I q (by simp))
    | _=>exact absurd (show false = true from hs) Bool.false_ne_true
  | int i=>
    obtain ⟨t, rfl⟩:=rx
    cases y with
    | non=>cases ry; exact PySem.EqNone.eq_int_none (XT I q (by simp))
    | int j=>obtain ⟨t', rfl⟩:=ry; exact eq_int (XT I q Dn)
    | str j=>obtain ⟨t', rfl⟩:=ry; exact PySem.EqMixed.eq_int_str (XT I q (by simp))
    | _=>exact absurd (show false = true from hs) Bool.false_ne_true
  | str i=>
    obtain ⟨t, rfl⟩:=rx
    cases y with
    | non=>cases ry; exact PySem.EqNone.eq_str_none (XT I q (by simp))
    | bl j=>cases ry; exact PySem.EqMixed.eq_str_bool (XT I q (by simp))
    | int j=>obtain ⟨t', rfl⟩:=ry; exact PySem.EqMixed.eq_str_int (XT I q (by simp))
    | str j=>obtain ⟨t', rfl⟩:=ry; exact eq_str (XT I q Cb)
    | _=>exact absurd (show false = true from hs) Bool.false_ne_true
  | byt i=>
    obtain ⟨t, rfl⟩:=rx
    cases y with
    | byt j=>obtain ⟨t', rfl⟩:=ry; exact PySem.W.eq_bytes (XT I q Fi)
    | _=>exact absurd (show false = true from hs) Bool.false_ne_true
  | _=>cases y <;> exact absurd (show false = true from hs) Bool.false_ne_true
theorem Lr : OpR X (compareOp .NotEq) rNe:=by
  intro pins s σ H x y v u Q I rx ry h
  obtain ⟨hs, q⟩:=h
  cases x with
  | non=>
    cases rx
    cases y with
    | non=>cases ry; exact PySem.EqNone.ne_none_none (XT I q (by simp))
    | bl j=>cases ry; exact PySem.EqNone.ne_none_bool (XT I q (by simp))
    | int j=>obtain ⟨t', rfl⟩:=ry; exact PySem.EqNone.ne_none_int (XT I q (by simp))
    | str j=>obtain ⟨t', rfl⟩:=ry; exact PySem.EqNone.ne_none_str (XT I q (by simp))
    | _=>exact absurd (show false = true from hs) Bool.false_ne_true
  | bl i=>
    cases rx
    cases y with
    | non=>cases ry; exact PySem.EqNone.ne_bool_none (XT I q (by simp))
    | bl j=>cases ry; exact ne_bool (XT I q (congrArg not BU))
    | str j=>obtain ⟨t', rfl⟩:=ry; exact PySem.EqMixed.ne_bool_str (XT I q (by simp))
    | _=>exact absurd (show false = true from hs) Bool.false_ne_true
  | int i=>
    obtain ⟨t, rfl⟩:=rx
    cases y with
    | non=>cases ry; exact PySem.EqNone.ne_int_none (XT I q (by simp))
    | int j=>obtain ⟨t', rfl⟩:=ry; exact ne_int (XT I q (congrArg not Dn))
    | str j=>obtain ⟨t', rfl⟩:=ry; exact PySem.EqMixed.ne_int_str (XT I q (by simp))
    | _=>exact absurd (show false = true from hs) Bool.false_ne_true
  | str i=>
    obtain ⟨t, rfl⟩:=rx
    cases y with
    | non=>cases ry; exact PySem.EqNone.ne_str_none (XT I q (by simp))
    | bl j=>cases ry; exact PySem.EqMixed.ne_str_bool (XT I q (by simp))
    | int j=>obtain ⟨t', rfl⟩:=ry; exact PySem.EqMixed.ne_str_int (XT I q (by simp))
    | str j=>obtain ⟨t', rfl⟩:=ry; exact ne_str (XT I q (congrArg not Cb))
    | _=>exact absurd (show false = true from hs) Bool.false_ne_true
  | byt i=>
    obtain ⟨t, rfl⟩:=rx
    cases y with
    | byt j=>obtain ⟨t', rfl⟩:=ry; exact PySem.W.ne_bytes (XT I q (congrArg not Fi))
    | _=>exact absurd (show false = true from hs) Bool.false_ne_true
  | _=>cases y <;> exact absurd (show false = true from hs) Bool.false_ne_true
theorem G0 : OpR X (compareOp .Lt) (rI0 fun i j=>.bl (decide (i < j))):=Lb fun _ _ _ _ _ _ _ q=>lt_int q
theorem DX : OpR X (compareOp .Gt) (rI0 fun i j=>.bl (decide (j < i))):=Lb fun _ _ _ _ _ _ _ q=>gt_int q
theorem IC : OpR X (compareOp .GtE) (rI0 fun i j=>.bl (decide (j <= i))):=Lb fun _ _ _ _ _ _ _ q=>ge_int q
theorem Iq : OpR X (compareOp .Is) (fun x y H Q=>y = .non /\ Q (.bl (decide (x = .non))) H):=by
  intro pins s σ H x y v u Q I rx ry h
  obtain ⟨rfl, q⟩:=h
  cases ry
  refine is_none_gen (XT I q ?_)
  cases x <;> first
    | (cases rx; rfl)
    | (obtain ⟨t, rfl⟩:=rx; rfl)
theorem Hg : OpR X (compareOp .IsNot) (fun x y H Q=>y = .non /\ Q (.bl (!decide (x = .non))) H):=by
  intro pins s σ H x y v u Q I rx ry h
  obtain ⟨rfl, q⟩:=h
  cases ry
  refine isnot_none_gen (XT I q ?_)
  cases x <;> first
    | (cases rx; rfl)
    | (obtain ⟨t, rfl⟩:=rx; rfl)
theorem OpR.or {f : Value -> Value -> Sem Value} {r r' : R2} (h : OpR X f r) (h' : OpR X f r') : OpR X f (fun x y H Q=>r x y H Q ∨ r' x y H Q):=by
  intro pins s σ H x y v u Q I rx ry q
  rcases q with q | q
  . exact h pins s σ H x y v u Q I rx ry q
  . exact h' pins s σ H x y v u Q I rx ry q
theorem XE (b : Expr) {op : CmpOp} (h : op ≠ .In:=by decide) (h2 : op ≠ .NotIn:=by decide) : behindInMarks op b = false:=by
  have e1 : (op == CmpOp.In) = false:=by cases op <;> first | rfl | exact absurd rfl h
  have e2 : (op == CmpOp.NotIn) = false:=by cases op <;> first | rfl | exact absurd rfl h2
  cases b <;> simp [behindInMarks, e1, e2]
theorem Kz {op : CmpOp} {r : R2} (ho : OpR X (compareOp op) r) (ha : PE X a ta) (hb : PE X b tb) (hm : behindInMarks op b = false) : PE X (.Compare a [op] [b] pos) (tOp r ta tb):=by
  intro pins s σ H Q I h
  exact wpAny_Compare1 (IY ha hb I h fun v u s2 x y H2 I2 rx ry q=>ho pins s2 σ H2 x y v u Q I2 rx ry q) hm
noncomputable def IE (t : TE) : TT:=fun σ H Q=>t σ H fun x H'=>∃ k, x = .bl k /\ Q k H'
theorem Xq {op : CmpOp} {r : R2} (ho : OpR X (compareOp op) r) (ha : PE X a ta) (hb : PE X b tb) (hm : behindInMarks op b = false) : PT X (.Compare a [op] [b] pos) (IE (tOp r ta tb)):=by
  intro pins s σ H Q I h
  refine wpAny_isTrue_Compare1 (thn (ha pins s σ H _ I h) fun v s1 ⟨x, H1, I1, r1, q1⟩=>thn (hb pins s1 σ H1 _ I1 q1) fun u s2 ⟨y, H2, I2, r2, q2⟩=>
    thn (ho pins s2 σ H2 x y v u _ I2 r1 r2 q2) fun c s3 ⟨z, H3, I3, r3, k, e, q3⟩=>?_) hm
  subst e
  cases r3
  exact wpAny_truthy_bool ⟨H3, I3, q3⟩
theorem K2 : (sizeLine : Nat) < 2 ^ 63:=by rw [sizeLine_eq]; decide
theorem G4 {x : V} {us : List Value} (r : XX [x] us) : ∃ u, us = [u] /\ X9 x u:=by
  cases r with
  | cons r1 r2=>cases r2; exact ⟨_, rfl, r1⟩
theorem I9 {x y : V} {us : List Value} (r : XX [x, y] us) : ∃ u w', us = [u, w'] /\ X9 x u /\ X9 y w':=by
  cases r with
  | cons r1 r2=>
    cases r2 with
    | cons r3 r4=>cases r4; exact ⟨_, _, rfl, r1, r3⟩
theorem Gk : ZS X (.builtin "abs") (fun xs H Q=>∃ i, xs = [.int i] /\ Q (.int (if i < 0 then -i else i)) H):=by
  intro pins s σ H xs us Q I r h
  obtain ⟨i, rfl, q⟩:=h
  obtain ⟨u, rfl, t, rfl⟩:=G4 r
  exact call_abs_int fun u tk=>⟨.int (if i < 0 then -i else i), H, I.tok _, ⟨_, rfl⟩, q⟩
theorem Uv (hc : X.calm = true) : ZS X (.builtin "min") (fun xs H Q=>∃ i j, xs = [.int i, .int j] /\ Q (.int (if j < i then j else i)) H):=by
  intro pins s σ H xs us Q I r h
  obtain ⟨i, j, rfl, q⟩:=h
  obtain ⟨u, w', rfl, ⟨t, rfl⟩, ⟨t', rfl⟩⟩:=I9 r
  refine min_two_ints (I.ok.hd hc) fun h' tk k=>⟨_, H, I.kept k, ?_, q⟩
  by_cases hj : j < i
  . rw [if_pos hj, if_pos hj]; exact ⟨_, rfl⟩
  . rw [if_neg hj, if_neg hj]; exact ⟨_, rfl⟩
end
end L2
namespace L2
open PySem PySem.Spec PyProof.Rows
structure ObjM (h : Heap) (x dx C : Addr) (mA : Str -> Option Value) : Prop where
  obj : h.get? x = some (PySem.W.instObj C dx)
  ns : h.Ns1 dx mA
  ne : dx ≠ x
theorem FG {h : Heap} {dx : Addr} {mA : Str -> Option Value} (n : h.Ns1 dx mA) : ∃ od, h.get? dx = some od /\ ∀ name, PySem.W.lookIn name od = some (mA name):=by
  obtain ⟨o, es, ep, ho, hd, hk, _, hm⟩:=n
  refine ⟨o, ho, fun name=>?_⟩
  have e:=hm name
  unfold nsFind findBy at e
  rw [← Array.find?_toList] at e
  unfold PySem.W.lookIn
  rw [hd]
  dsimp only
  split
  . rename_i y q
    rw [q] at e
    exact congrArg some e
  . rename_i q
    rw [q] at e
    have a : es.toList.any (·.refKey) = false:=by
      rw [List.any_eq_false]
      intro y hy
      obtain ⟨z, t, hkey⟩:=hk y (Array.mem_toList_iff.mp hy)
      simp [DictEntry.refKey, hkey]
    have a' : ¬ es.toList.any (·.refKey) = true:=by rw [a]; exact Bool.false_ne_true
    rw [if_neg a']
    exact congrArg some e
theorem ObjM.look {h : Heap} {x dx C : Addr} {mA : Str -> Option Value} (I : ObjM h x dx C mA) : ∃ od, PySem.W.InstAt h x (PySem.W.instObj C dx) C (some od) /\ ∀ name, PySem.W.lookIn name od = some (mA name):=
  let ⟨od, ho, hl⟩:=FG I.ns
  ⟨od, ⟨I.obj, rfl, rfl, ho⟩, hl⟩
section
variable {prog : Program} {w : World} {A : Around} {E : Value -> Shared -> Prop} {s : Shared} {K : PySem.W.Frag} {x dx C f : Addr} {mA : Str -> Option Value} {name : Str} {v : Value}
end
theorem Fa.some_of {v : V} {o : Option Value} (r : Fa (some v) o) : ∃ u, o = some u /\ X9 v u:=by
  cases o with
  | none=>exact (show False from r).elim
  | some u=>exact ⟨u, rfl, r⟩
section
variable {P : Program} {w : World} {H H' : Hp} {h h' : Heap} {a C dx : Addr} {fs fs' : List (Str × V)}
theorem Hq (hok : HOk P w H h) (e : H a = some (.ins C dx fs)) : ∃ mA, ObjM h a dx C mA /\ (∀ f, Fa (fs.lookup f) (mA f)) /\ PySem.Within mA (fs.map (·.1)) /\ fs.length <= 1000 /\ H dx = some (.own a):=by
  obtain ⟨d, z, ne, ob, mA, n, r, q⟩:=(show Yi P w H h a (.ins C dx fs) from hok a _ e)
  exact ⟨mA, ⟨ob, n, ne⟩, r, q, z, d⟩
end
structure Cls (K : PySem.W.Frag) (C : Addr) : Prop where
  pg : PySem.W.plainGet K C Str.empty = true
  hd : PySem.W.hasDictIn K C = true
  po : PySem.W.plainOver K C = true
  sa : PySem.W.findIn K (.ref C) "__setattr__" = some (some (.builtin "object.__setattr__"))
theorem Cls.get {K : PySem.W.Frag} {C : Addr} (c : Cls K C) (f : Str) : PySem.W.plainGet K C f = true:=c.pg
section
variable {X : Cx} {pins : List (Addr × Obj)} {σ : St} {H : Hp} {s : Shared} {a C dx : Addr} {fs : List (Str × V)} {f : Str} {v : V} {A : Around} {E : Value -> Shared -> Prop}
theorem Inv.made (I : Inv X pins σ H s) : Inv X pins σ (upd (upd H s.heap.objs.size (.own (s.heap.objs.size + 1))) (s.heap.objs.size + 1) (.ins C s.heap.objs.size []))
    { s with heap:=(s.heap.push PySem.W.emptyDict).push (PySem.W.instObj C s.heap.objs.size) }:=by
  have e1 : (s.heap.push PySem.W.emptyDict).get? s.heap.objs.size = some PySem.W.emptyDict:=Heap.get?_push_size s.heap rfl
  have e2 : ((s.heap.push PySem.W.emptyDict).push (PySem.W.instObj C s.heap.objs.size)).get? (s.heap.objs.size + 1) = some (PySem.W.instObj C s.heap.objs.size):=by
    have:=Heap.get?_push_size (s.heap.push PySem.W.emptyDict) (o:=PySem.W.instObj C s.heap.objs.size) rfl
    rwa [Heap.size_push] at this
  have e3 : (s.heap.push PySem.W.emptyDict).Ns s.heap.objs.size (fun _=>none):=⟨PySem.W.emptyDict, #[], _, e1, rfl, (fun e he=>absurd he (by simp)), fun _=>rfl⟩
  have I1:=I.laid (a:=s.heap.objs.size) (o:=.own (s.heap.objs.size + 1)) (h':=s.heap.push PySem.W.emptyDict) (t':=s.toks) (fun b u q=>Heap.get?_push_of_some _ q) (Nat.le_refl _) ⟨_, e1⟩
  refine I1.laid (a:=s.heap.objs.size + 1) (o:=.ins C s.heap.objs.size []) (t':=s.toks) (fun b u q=>Heap.get?_push_of_some _ q) (Nat.le_of_eq (Heap.size_push _ _)) ?_
  have ne : s.heap.objs.size ≠ s.heap.objs.size + 1:=Nat.ne_of_lt (Nat.lt_succ_self _)
  refine ⟨by rw [Xp ne, X8], Nat.zero_le _, ne, e2, fun _=>none, (Heap.Ns1.of_empty e3).at fun o q=>Heap.get?_push_of_some _ q, fun _=>True.intro, fun y hy=>absurd rfl hy⟩
end
section
variable {X : Cx} {o e value : Expr} {f : Str} {pos pos' tpos : Pos} {ta tv : TE}
end
section
variable {X : Cx} {pins : List (Addr × Obj)} {σ : St} {H : Hp} {s : Shared} {A : Around} {E : Value -> Shared -> Prop} {Q : Value -> Shared -> Prop} {c : Value} {b : Bool}
inductive TyOf (K : PySem.W.Frag) (H : Hp) : V -> Value -> Prop where
  | non : TyOf K H .non (.type "NoneType")
  | bl (x : Bool) : TyOf K H (.bl x) (.type "bool")
  | int (i : Int) : TyOf K H (.int i) (.type "int")
  | str (x : Str) : TyOf K H (.str x) (.type "str")
  | flt (x : UInt64) : TyOf K H (.flt x) (.type "float")
  | lst {a : Addr} {xs : List V} (e : H a = some (.lst xs)) : TyOf K H (.ref a) (.type "list")
  | frz {a : Addr} {o : Obj} {xs : List V} (e : H a = some (.frz o (.lst xs))) : TyOf K H (.ref a) (.type "list")
  | tup {a : Addr} {xs : List V} (e : H a = some (.tup xs)) : TyOf K H (.ref a) (.type "tuple")
  | dK {a : Addr} {kvs : List (Key × V)} (e : H a = some (.dK kvs)) : TyOf K H (.ref a) (.type "dict")
  | dT {a : Addr} {kvs : List (List Key × V)} (e : H a = some (.dT kvs)) : TyOf K H (.ref a) (.type "dict")
  | ins {a C dx : Addr} {fs : List (Str × V)} (e : H a = some (.ins C dx fs)) (cl : Cls K C) (ha : PySem.W.findIn K (.ref C) "__class__" = some (some (.builtin "object.__class__")))
      (hn : PySem.W.specialIn K (.builtin "object.__class__") "__get__" = some (some (.builtin "getset_descriptor.__get__"))) (htk : PySem.W.takesIn K (.builtin "object.__class__") = some true)
      (hm : PySem.W.mroIn K C (.type "object") = some true) : TyOf K H (.ref a) (.ref C)
theorem Db {x : V} {u t : Value} (I : Inv X pins σ H s) (rx : X9 x u) (ty : TyOf X.K H x t) (e : PySem.W.kitOne X.K t c = some b) (h : ∀ tk, Q (.bool b) { s with toks:=tk }) :
    wpAny (model X.prog X.w) A (call (.builtin "isinstance") [u, c]) Q E s:=by
  cases ty with
  | non=>cases (show u = Value.none from rx); exact PySem.W.kia_one PySem.W.kitx_none I.kIn True.intro e (fun z=>nomatch z) h
  | bl y=>cases (show u = Value.bool y from rx); exact PySem.W.kia_one PySem.W.kitx_bool I.kIn True.intro e (fun z=>nomatch z) h
  | int i=>obtain ⟨t, q⟩:=(show ∃ t, u = Value.int i t from rx); cases q; exact PySem.W.kia_one PySem.W.kitx_int I.kIn True.intro e (fun z=>nomatch z) h
  | str y=>obtain ⟨t, q⟩:=(show ∃ t, u = Value.str y t from rx); cases q; exact PySem.W.kia_one PySem.W.kitx_str I.kIn True.intro e (fun z=>nomatch z) h
  | flt y=>obtain ⟨t, q⟩:=(show ∃ t, u = Value.float y t from rx); cases q; exact PySem.W.kia_one PySem.W.kitx_float I.kIn True.intro e (fun z=>nomatch z) h
  | @lst a xs ea=>
    cases (show u = Value.ref a from rx)
    obtain ⟨_, _, n, _, h1⟩:=(show Yi X.prog X.w H s.heap a (.lst xs) from I.hok a _ ea)
    exact PySem.W.kia_one PySem.W.kitx_list I.kIn ⟨_, h1, rfl⟩ e (fun z=>nomatch z) h
  | @frz a ob xs ea=>
    cases (show u = Value.ref a from rx)
    obtain ⟨_, _, _, n, _, h1⟩:=(show Yi X.prog X.w H s.heap a (.frz ob (.lst xs)) from I.hok a _ ea)
    exact PySem.W.kia_one PySem.W.kitx_list I.kIn ⟨_, h1, rfl⟩ e (fun z=>nomatch z) h
  | @tup a xs ea=>
    cases (show u = Value.ref a from rx)
    obtain ⟨_, _, _, p⟩:=(show Yi X.prog X.w H s.heap a (.tup xs) from I.hok a _ ea)
    obtain ⟨o, h1, h2, _⟩:=p
    exact PySem.W.kia_one PySem.W.kitx_tuple I.kIn ⟨o, h1, h2⟩ e (fun z=>nomatch z) h
  | @dK a kvs ea=>
    cases (show u = Value.ref a from rx)
    obtain ⟨_, _, vs, _, p⟩:=(show Yi X.prog X.w H s.heap a (.dK kvs) from I.hok a _ ea)
    obtain ⟨o, es, ep, h1, h2, _⟩:=p
    exact PySem.W.kia_one PySem.W.kitx_dict I.kIn ⟨o, h1, h2.1⟩ e (fun z=>nomatch z) h
  | @dT a kvs ea=>
    cases (show u = Value.ref a from rx)
    obtain ⟨_, _, xs, _, o, es, ep, h1, h2, _⟩:=(show Yi X.prog X.w H s.heap a (.dT kvs) from I.hok a _ ea)
    exact PySem.W.kia_one PySem.W.kitx_dict I.kIn ⟨o, h1, h2.1⟩ e (fun z=>nomatch z) h
  | @ins a C dx fs ea cl ha hn htk hm=>
    cases (show u = Value.ref a from rx)
    obtain ⟨mA, O, _⟩:=Hq I.hok ea
    obtain ⟨od, J, _⟩:=O.look
    exact PySem.W.kia_one (PySem.W.kitx_own (cl.get _) cl.hd ha hn htk hm) I.kIn J e (fun z=>nomatch z) h
end
end L2
namespace L2
open PySem PySem.Spec PyProof.Rows
structure Room (k : Nat) (A : Around) : Prop where
  hd : A.handled = none
  dp : A.depth + 3 * k + 5 < recursionLimit
  un : A.units + 16 * k + 200 < cLine
theorem Room.mono {j k : Nat} {A : Around} (r : Room k A) (h : j <= k) : Room j A:=⟨r.hd, by have:=r.dp; omega, by have:=r.un; omega⟩
theorem Room.deeper {k : Nat} {A : Around} (r : Room (k + 1) A) (env : Env) : Room k (A.deeper env):=
  ⟨r.hd, by have:=r.dp; show A.depth + 1 + 3 * k + 5 < _; omega, by have:=r.un; show A.units + 3 + 16 * k + 200 < _; omega⟩
theorem Room.in1 {k : Nat} {A : Around} (r : Room (k + 1) A) : Room k A.in1:=
  ⟨r.hd, by have:=r.dp; show A.depth + 3 * k + 5 < _; omega, by have:=r.un; show A.units + 1 + 16 * k + 200 < _; omega⟩
theorem Room.depth {k : Nat} {A : Around} (r : Room k A) : A.depth < recursionLimit:=by have:=r.dp; omega
theorem Room.units {k : Nat} {A : Around} (r : Room k A) : A.units + 64 < cLine:=by have:=r.un; omega
noncomputable def ZQ : TA:=fun _ H Q=>Q [] H
noncomputable def XA (ta : TE) (tr : TA) : TA:=fun σ H Q=>ta σ H fun x H1=>tr σ H1 fun xs H2=>Q (x :: xs) H2
section
variable {X : Cx} {e : Expr} {es : List Expr} {te : TE} {t : TA} {pos : Pos}
theorem Xg : PA X [] ZQ:=fun _ _ _ _ H Q I h=>Calls.spliced_nil ⟨[], H, I, .nil, h⟩
theorem Xd (ha : PE X e te) (hr : PA X es t) (hs : starEach (e :: es) X.env = (false, eval e X.env) :: starEach es X.env:=by rfl) : PA X (e :: es) (XA te t):=by
  intro pos pins s σ H Q I h
  rw [hs]
  show wpAny _ _ (spliced ((false, eval e X.env) :: backTo pos (starEach es X.env))) _ _ s
  refine Calls.spliced_cons (thn (ha pins s σ H _ I h) fun u s1 ⟨x, H1, I1, r1, q1⟩=>?_)
  exact thn (hr pos pins s1 σ H1 _ I1 q1) fun us s2 ⟨xs, H2, I2, r2, q2⟩=>⟨x :: xs, H2, I2, .cons r1 r2, q2⟩
noncomputable def IQ (t : TA) : TE:=fun σ H Q=>t σ H fun xs H1=>xs.length <= sizeLine /\ ∀ p, H1 p = none -> Q (.ref p) (upd H1 p (.tup xs))
noncomputable def Cn (t : TA) : TE:=fun σ H Q=>t σ H fun xs H1=>xs.length <= sizeLine /\ ∀ p, H1 p = none -> Q (.ref p) (upd H1 p (.lst xs))
theorem JQ {x1} (h : PA X es t) : PE X (.Tuple es x1 pos) (IQ t):=by
  intro pins s σ H Q I hq
  refine wpAny_Tuple_spliced (thn (h pos pins s σ H _ I hq) fun us s1 ⟨xs, H1, I1, r, z, q⟩=>⟨by rw [← r.length]; exact z, ?_⟩)
  have hf : H1 s1.heap.objs.size = none:=I1.hok.fresh (Nat.le_refl _)
  refine ⟨.ref s1.heap.objs.size, upd H1 s1.heap.objs.size (.tup xs), I1.laid (t':=s1.toks) (fun b u e=>Heap.get?_push_of_some _ e) (Nat.le_refl _) ?_, rfl, q _ hf⟩
  exact ⟨z, us, r, ⟨_, Heap.get?_push_size _ rfl, rfl, _, rfl⟩⟩
theorem Yn (h : PA X es t) : PE X (.List es pos) (Cn t):=by
  intro pins s σ H Q I hq
  refine wpAny_List_spliced (thn (h pos pins s σ H _ I hq) fun us s1 ⟨xs, H1, I1, r, z, q⟩=>⟨by rw [← r.length]; exact z, ?_⟩)
  have hf : H1 s1.heap.objs.size = none:=I1.hok.fresh (Nat.le_refl _)
  refine ⟨.ref s1.heap.objs.size, upd H1 s1.heap.objs.size (.lst xs), I1.laid (t':=s1.toks) (fun b u e=>Heap.get?_push_of_some _ e) (Nat.le_refl _) ?_, rfl, q _ hf⟩
  exact ⟨z, us, 0, r, Heap.get?_push_size _ rfl⟩
end
noncomputable abbrev Sp:=List V -> Hp -> VK -> XK -> Prop
noncomputable abbrev CXT:=List Env -> Hp -> Shared -> XK -> Value -> Shared -> Prop
structure Env0 (P : Program) (w : World) (K : PySem.W.Frag) (mg : Str -> Option Value) (base : Heap) (A : Around) (outer : List Env) (s : Shared) (H : Hp) : Prop where
  frames : A.frames = some outer
  mod : Mod K mg base
  bs : ∀ b o, base.get? b = some o -> s.heap.get? b = some o /\ H b = none
  bsz : base.objs.size <= s.heap.objs.size
  funs : s.heap.FunFrames base outer
  frf : ∀ b ∈ frs outer, H b = none
  hok : HOk P w H s.heap
  bare : AllBare s.gens
noncomputable def CE (outer : List Env) (P : Program) (w : World) (H : Hp) (s : Shared) (Q : VK) (u : Value) (s' : Shared) : Prop:=
  ∃ v H', s'.os = s.os /\ AllBare s'.gens /\ Un (frs outer) [] H H' s.heap s'.heap /\ HOk P w H' s'.heap /\ X9 v u /\ Q v H'
noncomputable def CR (CX : CXT) (outer : List Env) (P : Program) (w : World) (H : Hp) (s : Shared) (Q : VK) (E : XK) (r : Result) (s' : Shared) : Prop:=
  match r with
  | .ok (.ret u)=>CE outer P w H s Q u s'
  | .ok _=>False
  | .error e=>CX outer H s E e s'
structure FnOk (P : Program) (w : World) (K : PySem.W.Frag) (mg : Str -> Option Value) (base : Heap) (CX : CXT) (k : Nat) (f : Addr) (fd : FuncData) (ps : List Str) (sp : Sp) : Prop where
  len : ∀ vs H Q E, sp vs H Q E -> vs.length = ps.length
  run : ∀ (A : Around) (outer : List Env) (s : Shared) (H : Hp) (args : Args) (us : List Value) (vs : List V) (Q : VK) (E : XK), Room k A -> Env0 P w K mg base A outer s H -> BindsTo s fd args (ps.zip us) -> XX vs us -> sp vs H Q E ->
    codeAny (model P w) A (.call (.ref f) args) (CR CX outer P w H s Q E) s
theorem FnOk.mono {P : Program} {w : World} {K : PySem.W.Frag} {mg : Str -> Option Value} {base : Heap} {CX : CXT} {j k : Nat} {f : Addr} {fd : FuncData} {ps : List Str} {sp : Sp} (F : FnOk P w K mg base CX j f fd ps sp) (h : j <= k) :
    FnOk P w K mg base CX k f fd ps sp:=⟨F.len, fun A outer s H args us vs Q E hr=>F.run A outer s H args us vs Q E (hr.mono h)⟩
theorem FnOk.imp {P : Program} {w : World} {K : PySem.W.Frag} {mg : Str -> Option Value} {base : Heap} {CX : CXT} {k : Nat} {f : Addr} {fd : FuncData} {ps : List Str} {sp sp' : Sp} (F : FnOk P w K mg base CX k f fd ps sp)
    (h : ∀ vs H Q E, sp' vs H Q E -> sp vs H Q E) : FnOk P w K mg base CX k f fd ps sp':=
  ⟨fun vs H Q E q=>F.len vs H Q E (h _ _ _ _ q), fun A outer s H args us vs Q E hr he hb hv hs=>F.run A outer s H args us vs Q E hr he hb hv (h _ _ _ _ hs)⟩
theorem Env0.in1 {P : Program} {w : World} {K : PySem.W.Frag} {mg : Str -> Option Value} {base : Heap} {A : Around} {outer : List Env} {s : Shared} {H : Hp} (e : Env0 P w K mg base A outer s H) :
    Env0 P w K mg base A.in1 outer s H:=⟨e.frames, e.mod, e.bs, e.bsz, e.funs, e.frf, e.hok, e.bare⟩
section
variable {X : Cx} {pins : List (Addr × Obj)} {σ : St} {H : Hp} {s s' : Shared}
theorem Inv.env0 (I : Inv X pins σ H s) : Env0 X.prog X.w X.K X.mg X.base X.A X.stack s H:=
  ⟨I.ok.frames, I.ok.mod, I.bs, Nat.le_trans I.ok.bsz I.sz, I.stack, I.stkFree, I.hok, I.bare⟩
theorem Inv.after {Q : VK} {u : Value} (I : Inv X pins σ H s) (h : CE X.stack X.prog X.w H s Q u s') : EP X pins σ Q u s':=by
  obtain ⟨v, H', os, bare, un, hok, r, q⟩:=h
  obtain ⟨hh, g, d, t, os'⟩:=s'
  obtain rfl : os' = s.os:=os
  exact ⟨v, H', I.call (h':=hh) (g':=g) (d':=d) (t':=t) (ch:=[]) un hok bare (fun b z=>absurd z (by simp)), r, q⟩
end
noncomputable def UW (sp : Sp) (dvs : List V) (E : XK) (t : TA) : TE:=fun σ H Q=>t σ H fun vs H1=>sp (vs ++ dvs) H1 Q E
noncomputable def Ka (K : PySem.W.Frag) (fd : FuncData) (ps : List Str) (ds : List Value) : Prop:=
  ∀ (s : Shared) (us : List Value), K.In s.heap -> (us ++ ds).length = ps.length -> BindsTo s fd ⟨us, []⟩ (ps.zip (us ++ ds))
theorem Ka.all {K : PySem.W.Frag} {fd : FuncData} {ps : List Str} (h : ∀ us : List Value, us.length = ps.length -> bindArgs fd ⟨us, []⟩ = pure (ps.zip us)) : Ka K fd ps []:=fun s us _ hl=>by
  rw [List.append_nil] at hl ⊢
  exact .of_eq (h us hl)
noncomputable def UT (CX : CXT) (X : Cx) (E : XK) : Prop:=∀ (pins : List (Addr × Obj)) (σ : St) (H : Hp) (s : Shared) (e : Value) (s' : Shared), Inv X pins σ H s -> CX X.stack H s E e s' -> X.xe e s'
section
variable {X : Cx} {CX : CXT} {k : Nat} {f C : Addr} {fd : FuncData} {ps : List Str} {sp : Sp} {dvs : List V} {ds : List Value} {E : XK} {x m : Str} {p pos apos : Pos} {e o : Expr} {es : List Expr} {ta : TE} {t : TA}
theorem Ix {pins : List (Addr × Obj)} {σ : St} {H : Hp} {s : Shared} {Q : VK} {us : List Value} {vs : List V} (F : FnOk X.prog X.w X.K X.mg X.base CX k f fd ps sp) (hr : Room k X.A) (hb : Ka X.K fd ps ds) (hd : XX dvs ds) (hx : UT CX X E)
    (I : Inv X pins σ H s) (r : XX vs us) (h : sp (vs ++ dvs) H Q E) : wpAny (model X.prog X.w) X.A (call (.ref f) us) (EP X pins σ Q) X.xe s:=by
  have r2 : XX (vs ++ dvs) (us ++ ds):=r.append hd
  have hl : (us ++ ds).length = ps.length:=by rw [← r2.length]; exact F.len _ _ _ _ h
  refine wpAny_call (codeAny_mono (F.run X.A X.stack s H ⟨us, []⟩ (us ++ ds) (vs ++ dvs) Q E hr I.env0 (hb s us I.kIn hl) r2 h) fun r s' hq=>?_)
  cases r with
  | error e=>exact hx pins σ H s e s' I hq
  | ok fl=>
    cases fl with
    | ret u=>exact I.after hq
    | next=>exact False.elim hq
    | brk=>exact False.elim hq
    | cont=>exact False.elim hq
theorem Cg (F : FnOk X.prog X.w X.K X.mg X.base CX k f fd ps sp) (hr : Room k X.A) (hg : Gl X x) (hm : X.mg x = some (.ref f)) (hk : PySem.W.keepIn X.K (.ref f) = true) (hb : Ka X.K fd ps ds) (hd : XX dvs ds) (hx : UT CX X E)
    (ha : PA X (e :: es) t) (hdb : (x == ("__debug__" : Str)) = false:=by decide) (he : starEach (e :: es) X.env = (false, eval e X.env) :: starEach es X.env:=by rfl) (hpl : (backTo pos (starEach es X.env)).any (·.1) = false:=by rfl) :
    PE X (.Call (.Name x p) (e :: es) [] pos) (UW sp dvs E t):=by
  intro pins s σ H Q I h
  refine wpAny_Call_Name_kw (VZ I hg hm ?_ hdb)
  refine PySem.W.callWith_K (h₀:=X.base) I.ok.mod.kin hk (thn (ha pos pins s σ H _ I h) fun us s1 ⟨vs, H1, I1, r, q⟩=>⟨I1.kIn, ?_⟩) he hpl
  exact Ix F hr hb hd hx I1 r q
end
section
variable {X : Cx} {CX : CXT} {k : Nat} {f C : Addr} {fd : FuncData} {ps ks : List Str} {sp : Sp} {E : XK} {x m : Str} {p pos apos kpos : Pos} {e o : Expr} {es : List Expr} {kws : List Keyword} {te ta : TE} {t tk : TA} {nm : Option Str}
variable {g : List Value -> List Value -> List Value} {gV : List V -> List V -> List V}
end
structure FnScope (N P : List Str) (sc : Scope) : Prop where
  kind : sc.kind = .function
  co : sc.isCoroutine = false
  gen : sc.isGenerator = false
  nd : N.Nodup
  pre : N.take P.length = P
  par : ∀ x ∈ P, sc.names.lookup x = some .local ∨ sc.names.lookup x = some .cell
  nofree : ∀ y ∈ sc.names, y.2 ≠ .free
theorem Ur {kindOf : Str -> Option NameKind} {x : Str} : ∀ {binds : List (Str × Value)} {m : Str -> Option Value}, (∀ v, (x, v) ∉ binds) -> bindL kindOf binds m x = m x
  | [], _, _=>rfl
  | (n, v) :: r, m, h=>by
    unfold bindL
    rw [Ur fun w hw=>h w (List.mem_cons_of_mem _ hw)]
    split
    . have : x ≠ n := by rintro rfl; exact h v List.mem_cons_self
      simp [this]
    . rfl
theorem U8 {kindOf : Str -> Option NameKind} {x : Str} : ∀ {binds : List (Str × Value)} {m : Str -> Option Value}, (∀ v, (x, v) ∉ binds) -> bindC kindOf binds m x = m x
  | [], _, _=>rfl
  | (n, v) :: r, m, h=>by
    unfold bindC
    rw [U8 fun w hw=>h w (List.mem_cons_of_mem _ hw)]
    split
    . rfl
    . have : x ≠ n := by rintro rfl; exact h v List.mem_cons_self
      simp [this]
theorem Kc {kindOf : Str -> Option NameKind} {x : Str} {v : Value} : ∀ {P : List Str} {vs : List Value} {i : Nat} {m : Str -> Option Value}, P.Nodup -> P[i]? = some x -> vs[i]? = some v -> kindOf x = some .local ->
    bindL kindOf (P.zip vs) m x = some v
  | [], _, _, _, _, h, _, _=>by simp at h
  | _ :: _, [], _, _, _, _, h, _=>by simp at h
  | p :: P, w :: vs, 0, m, nd, h1, h2, hk=>by
    simp at h1 h2; subst h1; subst h2
    show bindL kindOf ((p, w) :: P.zip vs) m p = _
    unfold bindL
    rw [Ur fun v hv=>(List.nodup_cons.mp nd).1 (List.of_mem_zip hv).1, if_pos hk]
    simp
  | p :: P, w :: vs, i + 1, m, nd, h1, h2, hk=>by
    show bindL kindOf ((p, w) :: P.zip vs) m x = _
    unfold bindL
    exact Kc (i:=i) (List.nodup_cons.mp nd).2 (by simpa using h1) (by simpa using h2) hk
theorem Uy {kindOf : Str -> Option NameKind} {x : Str} {v : Value} : ∀ {P : List Str} {vs : List Value} {i : Nat} {m : Str -> Option Value}, P.Nodup -> P[i]? = some x -> vs[i]? = some v -> kindOf x ≠ some .local ->
    bindC kindOf (P.zip vs) m x = some v
  | [], _, _, _, _, h, _, _=>by simp at h
  | _ :: _, [], _, _, _, _, h, _=>by simp at h
  | p :: P, w :: vs, 0, m, nd, h1, h2, hk=>by
    simp at h1 h2; subst h1; subst h2
    show bindC kindOf ((p, w) :: P.zip vs) m p = _
    unfold bindC
    rw [U8 fun v hv=>(List.nodup_cons.mp nd).1 (List.of_mem_zip hv).1, if_neg hk]
    simp
  | p :: P, w :: vs, i + 1, m, nd, h1, h2, hk=>by
    show bindC kindOf ((p, w) :: P.zip vs) m x = _
    unfold bindC
    exact Uy (i:=i) (List.nodup_cons.mp nd).2 (by simpa using h1) (by simpa using h2) hk
noncomputable def Vj (N : List Str) (vs : List V) : St:=vs.map some ++ List.replicate (N.length - vs.length) none
noncomputable def Fc (CX : CXT) (P : Program) (w : World) (K : PySem.W.Frag) (mg : Str -> Option Value) (base : Heap) (N : List Str) (qual : Str) (scope : Scope) (f : Addr) (cd : Value) (A : Around) (outer : List Env) (s : Shared) (H : Hp) (E : XK) : Cx where
  prog:=P
  w:=w
  K:=K
  mg:=mg
  base:=base
  A:=A.deeper (envOfC qual scope s.heap.objs.size f cd)
  N:=N
  s₀:=s
  H₀:=H
  env:=envOfC qual scope s.heap.objs.size f cd
  outer:=outer
  stack:=envOfC qual scope s.heap.objs.size f cd :: outer
  ex:=[]
  calm:=true
  fn:=fun _=>true
  pn:=[]
  xe:=fun e s'=>wpAny (model P w) (A.deeper (envOfC qual scope s.heap.objs.size f cd)) (leaving (envOfC qual scope s.heap.objs.size f cd) e) (fun _ s''=>CX outer H s E e s'') (fun e' s''=>CX outer H s E e' s'') s'
theorem Gc {sc : Scope} {n : Nat} {x : Str} (h : sc.names.lookup x = some .cell) : ∃ c, (cellsFrom n sc.names []).lookup x = some c:=by
  have q:=PySem.W.cellsFrom_some sc.names n [] (.inl h)
  exact Option.isSome_iff_exists.mp q
theorem DH {CX : CXT} {P : Program} {w : World} {K : PySem.W.Frag} {mg : Str -> Option Value} {base : Heap} {N ps : List Str} {qual : Str} {scope : Scope} {f : Addr} {cd : Value} {A : Around} {outer : List Env} {s s1 : Shared} {H : Hp} {E : XK} {us : List Value} {vs : List V}
    (S : FnScope N ps scope) (hd : A.handled = none) (e0 : Env0 P w K mg base A outer s H) (hl : vs.length = ps.length) (r : XX vs us)
    (x : InCallC s s.heap.objs.size (bindL (envOfC qual scope s.heap.objs.size f cd).kindOf (ps.zip us) fun _=>none) (cellsFrom (s.heap.objs.size + 1) scope.names []) (bindC (envOfC qual scope s.heap.objs.size f cd).kindOf (ps.zip us) fun _=>none) s1) :
    Inv (Fc CX P w K mg base N qual scope f cd A outer s H E) [] (Vj N vs) H s1:=by
  have hpl : ps.length <= N.length:=by have:=congrArg List.length S.pre; rw [List.length_take] at this; omega
  obtain ⟨h1, tk, rfl, hk⟩:=x.done
  have noA : ∀ b : Addr, b ∉ (Fc CX P w K mg base N qual scope f cd A outer s H E).ex:=fun b z=>absurd (show b ∈ ([] : List Addr) from z) (by simp)
  refine ⟨⟨e0.mod, S.kind, rfl, rfl, Nat.le_refl _, fun y z c h1 h2=>?_, fun y hy=>?_, fun y c _ h=>?_, fun _=>hd, Around.frames_deeper e0.frames, .inr ⟨rfl, rfl⟩, fun b z=>absurd z (noA b), e0.bs, e0.bsz, fun b _ _=>noA b, fun b z=>absurd z (noA b), e0.funs, e0.frf⟩,
    rfl, e0.bare, Un.kept hk, ⟨_, x.toInCall.ns, fun i y v h1 h2 h3=>?_⟩, fun y c h=>⟨_, x.cell y c h⟩, e0.hok.fresh (Nat.le_refl _), fun y c h=>?_, fun p hp=>absurd (show p ∈ ([] : List (Addr × Obj)) from hp) (by simp), e0.hok.kept hk, ?_⟩
  . exact name_of_addr x.apart (PySem.mem_of_lookup h1) (PySem.mem_of_lookup h2)
  . have hy : scope.names.lookup y = some .cell ∨ scope.names.lookup y = some .free := hy
    rcases hy with hy | hy
    . exact Gc hy
    . exact absurd rfl (S.nofree _ (PySem.mem_of_lookup hy))
  . exact Nat.le_of_lt (x.above y c (PySem.mem_of_lookup h))
  . have hi : i < vs.length:=by
      unfold Vj at h2
      by_cases hi : i < vs.length
      . exact hi
      . rw [List.getElem?_append_right (by simpa using hi)] at h2
        rw [List.getElem?_replicate] at h2
        split at h2 <;> cases h2
    have ha : vs[i]? = some v:=by
      unfold Vj at h2
      rw [List.getElem?_append_left (by simpa using hi), List.getElem?_map] at h2
      cases e : vs[i]? with
      | none=>rw [e] at h2; cases h2
      | some a=>rw [e] at h2; cases h2; rfl
    obtain ⟨u, hu, rv⟩:=r.get ha
    have hp : ps[i]? = some y:=by
      rw [← S.pre, List.getElem?_take_of_lt (by omega)]; exact h1
    have ndP : ps.Nodup:=by rw [← S.pre]; exact S.nd.sublist (List.take_sublist _ _)
    refine ⟨u, rv, ?_⟩
    rcases S.par y (List.mem_of_getElem? hp) with k | k
    . exact .inl ⟨k, Kc ndP hp hu k⟩
    . obtain ⟨c, e⟩ := Gc (n := s.heap.objs.size + 1) k
      refine .inr ⟨.inl k, c, e, ?_⟩
      have q:=x.cell y c e
      rw [Uy ndP hp hu (by show scope.names.lookup y ≠ _; rw [k]; decide)] at q
      exact q
  . exact e0.hok.fresh (Nat.le_of_lt (x.above y c (PySem.mem_of_lookup h)))
  . unfold Vj
    show _ = N.length
    rw [List.length_append, List.length_map, List.length_replicate]
    omega
theorem HC {CX : CXT} {P : Program} {w : World} {K : PySem.W.Frag} {mg : Str -> Option Value} {base : Heap} {k : Nat} {f : Addr} {name qual : Str} {params : Arguments} {body : List Stmt} {scope : Scope} {dV kV doc pm cdv ct oc : Value} {an od : Option Addr}
    {osl : Array (Option Value)} {N ps : List Str} {sp : Sp} (lk : K.lookup f = some ⟨oc, od, .func (PySem.W.fnOf name qual params body scope dV kV doc pm an cdv ct), osl⟩) (hcd : PySem.W.codeIn K cdv qual = true) (S : FnScope N ps scope)
    (len : ∀ vs H Q E, sp vs H Q E -> vs.length = ps.length)
    (hbody : ∀ (A : Around) (outer : List Env) (s : Shared) (H : Hp) (vs : List V) (Q : VK) (E : XK), Room k (A.deeper (envOfC qual scope s.heap.objs.size f cdv)) -> sp vs H Q E ->
      ∃ t, PSs (Fc CX P w K mg base N qual scope f cdv A outer s H E) body t /\ t { nx:=fun _ H'=>Q .non H', rt:=Q } (Vj N vs) H) :
    FnOk P w K mg base CX (k + 1) f (PySem.W.fnOf name qual params body scope dV kV doc pm an cdv ct) ps sp:=by
  refine ⟨len, fun A outer s H args us vs Q E hr e0 hb r hsp=>?_⟩
  have hl:=len _ _ _ _ hsp
  have KX : K.In s.heap:=e0.mod.kin.keeps fun b o e=>(e0.bs b o e).1
  have lim : s.heap.NoLimit:=e0.mod.nolimit.keeps fun b o e=>(e0.bs b o e).1
  have hkind : ∀ y ∈ ps.zip us, scope.names.lookup y.1 = some .local ∨ (scope.names.lookup y.1 = some .cell /\ ((cellsFrom (s.heap.objs.size + 1) scope.names []).lookup y.1).isSome = true):=fun ⟨n, v⟩ hy=>by
    rcases S.par n (List.of_mem_zip hy).1 with q | q
    . exact .inl q
    . exact .inr ⟨q, PySem.W.cellsFrom_some _ _ _ (.inl q)⟩
  refine codeAny_call_function hr.depth (KX _ _ lk) rfl S.co S.gen rfl (PySem.W.codeRec_of KX hcd) (hb _ _ _ _ ?_)
  refine wpAny_newFunctionEnv_cells S.kind hkind fun env he s1 x=>?_
  subst he
  refine ⟨lim.keeps x.toInCall.keep, codeAny_func ?_⟩
  obtain ⟨t, ht, hq⟩:=hbody A outer s H vs Q E (hr.deeper _) hsp
  have I : Inv (Fc CX P w K mg base N qual scope f cdv A outer s H E) [] (Vj N vs) H s1:=DH S hr.hd e0 hl r x
  refine wpAny_mono (ht [] s1 (Vj N vs) H _ I hq) (fun fl s' hs=>?_) fun e s' hs=>hs
  have fin : ∀ {σ' : St} {H' : Hp} {v : V} {u : Value}, Inv (Fc CX P w K mg base N qual scope f cdv A outer s H E) [] σ' H' s' -> X9 v u -> Q v H' -> CE outer P w H s Q u s':=
    fun {σ' H' v u} J rv q=>⟨v, H', J.os, J.bare, J.base, J.hok, rv, q⟩
  cases fl with
  | ret u=>
    obtain ⟨v, σ', H', J, rv, q⟩:=hs
    exact fin J rv q
  | next=>
    obtain ⟨σ', H', J, q⟩:=hs
    exact fin (v:=V.non) (u:=Value.none) J rfl q
  | brk=>
    obtain ⟨_, _, _, q⟩:=hs
    exact False.elim q
  | cont=>
    obtain ⟨_, _, _, q⟩:=hs
    exact False.elim q
end L2
namespace L2
open PySem PySem.Spec PyProof.Rows
section
variable {X : Cx} {x : Str} {p pos : Pos} {e : Expr} {es : List Expr} {t : TA} {id T : String} {r : List V -> Hp -> VK -> Prop}
noncomputable def tCB (r : List V -> Hp -> VK -> Prop) (t : TA) : TE:=fun σ H Q=>t σ H fun vs H1=>r vs H1 Q
theorem Xu (hc : ZS X (.builtin id) r) (hg : Gl X x) (hm : X.mg x = none) (hv : bootBuiltins x = some (.builtin id)) (ha : PA X (e :: es) t) (hn : x ≠ "__name__":=by decide) (hdb : (x == ("__debug__" : Str)) = false:=by decide)
    (he : starEach (e :: es) X.env = (false, eval e X.env) :: starEach es X.env:=by rfl) (hpl : (backTo pos (starEach es X.env)).any (·.1) = false:=by rfl) : PE X (.Call (.Name x p) (e :: es) [] pos) (tCB r t):=by
  intro pins s σ H Q I h
  refine wpAny_Call_Name_kw (JH I hg hm hv ?_ hn hdb)
  exact PyProof.Rows.callWith_builtin1 (thn (ha pos pins s σ H _ I h) fun us s1 ⟨vs, H1, I1, r1, q1⟩=>hc pins s1 σ H1 vs us Q I1 r1 q1) he hpl
theorem Zt (hc : ZS X (.type T) r) (hg : Gl X x) (hm : X.mg x = none) (hv : bootBuiltins x = some (.type T)) (ha : PA X (e :: es) t) (hn : x ≠ "__name__":=by decide) (hdb : (x == ("__debug__" : Str)) = false:=by decide)
    (he : starEach (e :: es) X.env = (false, eval e X.env) :: starEach es X.env:=by rfl) (hpl : (backTo pos (starEach es X.env)).any (·.1) = false:=by rfl) : PE X (.Call (.Name x p) (e :: es) [] pos) (tCB r t):=by
  intro pins s σ H Q I h
  refine wpAny_Call_Name_kw (JH I hg hm hv ?_ hn hdb)
  exact PyProof.Rows.callWith_type1 (thn (ha pos pins s σ H _ I h) fun us s1 ⟨vs, H1, I1, r1, q1⟩=>hc pins s1 σ H1 vs us Q I1 r1 q1) he hpl
end
end L2
namespace HT
open PySem PyProof.Rows
section
open PySem.SeqAt
open PySem.AutoSeq1 (wpAny_loadPart')
open PySem.MeetsSeq PySem.MeetsSeq2 PySem.MeetsSeq3
end
section
variable {prog : Program} {w : World} {A : Around} {E : Value -> Shared -> Prop} {s : Shared}
noncomputable def sIx (n d : Nat) : Option Int -> Nat
  | none=>d
  | some v=>if v < 0 then (v + (n : Int)).toNat else min v.toNat n
theorem sIx_none (n d : Nat) : sIx n d none = d:=rfl
theorem sIx_nat (n d k : Nat) : sIx n d (some (k : Int)) = min k n:=by
  show (if (k : Int) < 0 then ((k : Int) + (n : Int)).toNat else min (k : Int).toNat n) = min k n
  rw [if_neg (by omega), Int.toNat_natCast]
end
end HT
namespace L2
open PySem PySem.Spec PyProof.Rows
noncomputable abbrev TO:=St -> Hp -> (Option Int -> Hp -> Prop) -> Prop
noncomputable def PO (X : Cx) (e : Option Expr) (t : TO) : Prop:=
  ∀ (pins : List (Addr × Obj)) (s : Shared) (σ : St) (H : Hp) (Q : Option Int -> Hp -> Prop), Inv X pins σ H s -> t σ H Q ->
    wpAny (model X.prog X.w) X.A (evalPart e X.env) (fun u s'=>∃ o H', Inv X pins σ H' s' /\ IsPart u o /\ Q o H') X.xe s
noncomputable def DR : TO:=fun _ H Q=>Q none H
noncomputable def HG (t : TE) : TO:=fun σ H Q=>t σ H fun x H1=>∃ i, x = .int i /\ Q (some i) H1
section
variable {X : Cx} {e : Expr} {te : TE} {lo hi : Option Expr} {tl th : TO} {pos p2 : Pos}
theorem Km : PO X none DR:=by
  intro pins s σ H Q I h
  rw [evalPart_none]
  exact wpAny_pure ⟨none, H, I, .none, h⟩
theorem JX (h : PE X e te) : PO X (some e) (HG te):=by
  intro pins s σ H Q I hw
  rw [evalPart_some]
  refine thn (h pins s σ H _ I hw) fun u s1 ⟨x, H1, I1, r1, q1⟩=>?_
  obtain ⟨i, rfl, q⟩:=q1
  obtain ⟨t, rfl⟩:=r1
  exact ⟨some i, H1, I1, .int i t, q⟩
noncomputable def SlR (X : Cx) (r : V -> Option Int -> Option Int -> Hp -> VK -> Prop) : Prop:=
  ∀ (pins : List (Addr × Obj)) (s : Shared) (σ : St) (H : Hp) (x : V) (v vl vu : Value) (lo hi : Option Int) (sl : Addr) (Q : VK), Inv X pins σ H s -> X9 x v -> s.heap.IsSliceOf sl vl vu .none -> IsPart vl lo -> IsPart vu hi -> r x lo hi H Q ->
    ∃ T id, typeLookup (.type T) "__getitem__" = pure (some (.builtin id)) /\ s.TypeIs v T /\ wpAny (model X.prog X.w) X.A (getItem v (.ref sl)) (EP X pins σ Q) X.xe s
theorem SlR.or {r r' : V -> Option Int -> Option Int -> Hp -> VK -> Prop} (h : SlR X r) (h' : SlR X r') : SlR X (fun x lo hi H Q=>r x lo hi H Q ∨ r' x lo hi H Q):=by
  intro pins s σ H x v vl vu lo hi sl Q I rx hs pl pu q
  rcases q with q | q
  . exact h pins s σ H x v vl vu lo hi sl Q I rx hs pl pu q
  . exact h' pins s σ H x v vl vu lo hi sl Q I rx hs pl pu q
noncomputable def tSl (r : V -> Option Int -> Option Int -> Hp -> VK -> Prop) (te : TE) (tl th : TO) : TE:=fun σ H Q=>te σ H fun x H1=>tl σ H1 fun l H2=>th σ H2 fun u H3=>r x l u H3 Q
theorem Jg {r : V -> Option Int -> Option Int -> Hp -> VK -> Prop} (hr : SlR X r) (he : PE X e te) (hl : PO X lo tl) (hu : PO X hi th) : PE X (.Subscript e (.Slice lo hi none p2) pos) (tSl r te tl th):=by
  intro pins s σ H Q I h
  refine Subscript_ (thn (he pins s σ H _ I h) fun v s1 ⟨x, H1, I1, r1, q1⟩=>?_)
  refine wpAny_Slice (thn (hl pins s1 σ H1 _ I1 q1) fun vl s2 ⟨l, H2, I2, pl, q2⟩=>thn (hu pins s2 σ H2 _ I2 q2) fun vu s3 ⟨u, H3, I3, pu, q3⟩=>?_)
  rw [evalPart_none]
  refine wpAny_pure ?_
  have I4 : Inv X pins σ H3 { s3 with heap:=s3.heap.push { cls:=.type "slice", data:=.fields #[vl, vu, .none] } }:=I3.kept (t':=s3.toks) fun b ob q=>Heap.get?_push_of_some _ q
  obtain ⟨T, id, hT, ht, hg⟩:=hr pins { s3 with heap:=s3.heap.push { cls:=.type "slice", data:=.fields #[vl, vu, .none] } } σ H3 x v vl vu l u s3.heap.objs.size Q I4 r1 (Heap.IsSliceOf.new ..) pl pu q3
  show wpAny (model X.prog X.w) X.A (subscriptTail e (.Slice lo hi none p2) v (.ref s3.heap.objs.size)) (EP X pins σ Q) X.xe { s3 with heap:=s3.heap.push { cls:=.type "slice", data:=.fields #[vl, vu, .none] } }
  exact tail_any (ops:=[.ref s3.heap.objs.size, v]) ht hT hg (by with_unfolding_all rfl)
noncomputable def Hs (xs : List V) (lo hi : Option Int) : List V:=(xs.drop (HT.sIx xs.length 0 lo)).take (HT.sIx xs.length xs.length hi - HT.sIx xs.length 0 lo)
theorem KJ (xs : List V) (lo hi : Option Int) : (Hs xs lo hi).length <= xs.length:=by
  unfold Hs
  rw [List.length_take, List.length_drop]
  omega
end
end L2
namespace L2
open PySem PySem.Spec PyProof.Rows
noncomputable def ixN (n : Nat) (i : Int) : Option Nat:=if 0 <= i then (if i < n then some i.toNat else none) else if -(n : Int) <= i then some (i + n).toNat else none
noncomputable def atI {α : Type} (xs : List α) (i : Int) : Option α:=(ixN xs.length i).bind fun j=>xs[j]?
theorem FZ {n : Nat} {i : Int} {j : Nat} (h : ixN n i = some j) : seqIndex? i n = some j /\ j < n /\ -(n : Int) <= i /\ i < n:=by
  unfold ixN at h
  by_cases h0 : 0 <= i
  . rw [if_pos h0] at h
    by_cases h1 : i < n
    . rw [if_pos h1] at h
      have e : i.toNat = j:=Option.some.inj h
      exact ⟨by rw [seqIndex_of h0 h1, e], by omega, by omega, h1⟩
    . rw [if_neg h1] at h; cases h
  . rw [if_neg h0] at h
    by_cases h1 : -(n : Int) <= i
    . rw [if_pos h1] at h
      have e : (i + n).toNat = j:=Option.some.inj h
      exact ⟨by rw [seqIndex_neg (by omega) h1, e], by omega, h1, by omega⟩
    . rw [if_neg h1] at h; cases h
theorem DE {α : Type} {xs : List α} {i : Int} {v : α} (h : atI xs i = some v) : ∃ j, seqIndex? i xs.length = some j /\ xs[j]? = some v /\ j < xs.length /\ -(xs.length : Int) <= i /\ i < xs.length:=by
  unfold atI at h
  cases e : ixN xs.length i with
  | none=>rw [e] at h; cases h
  | some j=>
    rw [e] at h
    obtain ⟨h1, h2, h3, h4⟩:=FZ e
    exact ⟨j, h1, h, h2, h3, h4⟩
noncomputable def EJ (b : Expr) : Prop:=∀ o i, subscripted b false o i = operate [o, i] (getItem o i)
noncomputable def IxR (X : Cx) (r : R2) : Prop:=
  ∀ (value slice : Expr) (pins : List (Addr × Obj)) (s : Shared) (σ : St) (H : Hp) (x y : V) (v u : Value) (Q : VK), Inv X pins σ H s -> X9 x v -> X9 y u -> r x y H Q ->
    subscripted slice false v u = operate [v, u] (getItem v u) -> wpAny (model X.prog X.w) X.A (subscriptTail value slice v u) (EP X pins σ Q) X.xe s
noncomputable def MtR (X : Cx) (id : String) (r : V -> List V -> Hp -> VK -> Prop) : Prop:=
  ∀ (pins : List (Addr × Obj)) (s : Shared) (σ : St) (H : Hp) (x : V) (xs : List V) (v : Value) (us : List Value) (Q : VK), Inv X pins σ H s -> X9 x v -> XX xs us -> r x xs H Q ->
    wpAny (model X.prog X.w) X.A (call (.builtin id) (v :: us)) (EP X pins σ Q) X.xe s
section
variable {X : Cx} {a b : Expr} {ta tb : TE} {pos : Pos}
theorem IxR.or {r r' : R2} (h : IxR X r) (h' : IxR X r') : IxR X (fun x y H Q=>r x y H Q ∨ r' x y H Q):=by
  intro value slice pins s σ H x y v u Q I rx ry q hs
  rcases q with q | q
  . exact h value slice pins s σ H x y v u Q I rx ry q hs
  . exact h' value slice pins s σ H x y v u Q I rx ry q hs
theorem MtR.or {id : String} {r r' : V -> List V -> Hp -> VK -> Prop} (h : MtR X id r) (h' : MtR X id r') : MtR X id (fun x xs H Q=>r x xs H Q ∨ r' x xs H Q):=by
  intro pins s σ H x xs v us Q I rx rs q
  rcases q with q | q
  . exact h pins s σ H x xs v us Q I rx rs q
  . exact h' pins s σ H x xs v us Q I rx rs q
theorem XU {r : R2} (hr : IxR X r) (ha : PE X a ta) (hb : PE X b tb) (hs : EJ b) : PE X (.Subscript a b pos) (tOp r ta tb):=by
  intro pins s σ H Q I h
  exact Subscript_ (IY ha hb I h fun v u s2 x y H2 I2 rx ry q=>hr a b pins s2 σ H2 x y v u Q I2 rx ry q (hs _ _))
noncomputable def Hu (K : PySem.W.Frag) : R2:=fun x y H Q=>∃ p xs i v, x = .ref p /\ y = .int i /\ SqL K H p xs /\ atI xs i = some v /\ Q v H
noncomputable def Ll (K : PySem.W.Frag) : R2:=fun x y H Q=>∃ p xs i v, x = .ref p /\ y = .int i /\ SqT K H p xs /\ atI xs i = some v /\ Q v H
theorem Ep : IxR X (Hu X.K):=by
  intro value slice pins s σ H x y v u Q I rx ry h hs
  obtain ⟨p, xs, i, z, rfl, rfl, hq, he, q⟩:=h
  cases rx
  obtain ⟨t, rfl⟩:=ry
  obtain ⟨its, r, pl, hz⟩:=I.list hq
  obtain ⟨j, h1, h2, h3, h4, h5⟩:=DE he
  obtain ⟨w, ew, rw'⟩:=r.get h2
  have hl:=r.length
  have hn:=K2
  have fin : EP X pins σ Q w s:=⟨z, H, I, rw', q⟩
  by_cases h0 : 0 <= i
  . have hj : i.toNat = j:=by
      rw [seqIndex_of h0 h5] at h1
      exact Option.some.inj h1
    exact item_listR pl.isList h0 (by omega) (by rw [hj]; simpa using ew) fin hs
  . have hj : (i + (its.toArray.size : Int)).toNat = j:=by
      rw [seqIndex_neg (by omega) h4] at h1
      rw [List.size_toArray, ← hl]
      exact Option.some.inj h1
    exact subscriptTail_builtinR (x:=w) pl.isList.typeIs slot_list_getitem.lookup
      (wpAny_getItem_list_neg (Q:=fun r s'=>r = w /\ EP X pins σ Q r s') pl.isList (by omega) (by rw [List.size_toArray] <;> omega) (by omega) (by rw [hj]; simpa using ew) ⟨rfl, fin⟩) hs
theorem HL : IxR X (Ll X.K):=by
  intro value slice pins s σ H x y v u Q I rx ry h hs
  obtain ⟨p, xs, i, z, rfl, rfl, hq, he, q⟩:=h
  cases rx
  obtain ⟨t, rfl⟩:=ry
  obtain ⟨its, r, pl, hz⟩:=I.tuple hq
  obtain ⟨j, h1, h2, h3, h4, h5⟩:=DE he
  obtain ⟨w, ew, rw'⟩:=r.get h2
  have hl:=r.length
  have hn:=K2
  have fin : EP X pins σ Q w s:=⟨z, H, I, rw', q⟩
  exact subscriptTail_builtinR (x:=w) pl.typeIs slot_tuple_getitem.lookup
    (getItem_tuple (j:=j) (Q:=fun r s'=>r = w /\ EP X pins σ Q r s') pl (by omega) (by omega) (by rw [List.size_toArray, ← hl]; exact h1) (by simpa using ew) ⟨rfl, fin⟩) hs
theorem GM (its : List Value) (n j : Nat) (u : Value) : Obj.mapSeq (·.setIfInBounds j u) { cls:=.type "list", data:=.seq its.toArray n } = { cls:=.type "list", data:=.seq (its.set j u).toArray n }:=by
  simp [Obj.mapSeq]
theorem Inv.lst {pins : List (Addr × Obj)} {σ : St} {H : Hp} {s : Shared} {p : Addr} {xs : List V} (I : Inv X pins σ H s) (h : H p = some (.lst xs)) :
    ∃ (its : List Value) (n : Nat), XX xs its /\ s.heap.get? p = some { cls:=.type "list", data:=.seq its.toArray n } /\ xs.length <= sizeLine:=by
  obtain ⟨z, its, n, r, e⟩:=I.hok p _ h
  exact ⟨its, n, r, e, z⟩
theorem Inv.lstUpd {pins : List (Addr × Obj)} {σ : St} {H : Hp} {s : Shared} {p : Addr} {xs ys : List V} {its its' : List Value} {n n' : Nat} {f : Obj -> Obj} (I : Inv X pins σ H s) (h : H p = some (.lst xs))
    (ho : s.heap.get? p = some { cls:=.type "list", data:=.seq its.toArray n }) (hf : f { cls:=.type "list", data:=.seq its.toArray n } = { cls:=.type "list", data:=.seq its'.toArray n' }) (r : XX ys its') (hz : ys.length <= sizeLine) (t : Nat) :
    Inv X pins σ (upd H p (.lst ys)) { s with heap:=s.heap.update p f, toks:=t }:=by
  have e : (s.heap.update p f).get? p = some { cls:=.type "list", data:=.seq its'.toArray n' }:=by
    rw [Heap.get?_update_self f ho (by rw [hf] <;> rfl), hf]
  refine I.write (x:=p) (e:=p) (by rw [h]; trivial) (.inl rfl) (fun b u hb q=>(Heap.get?_update_other _ _ (Ne.symm hb)).trans q) ⟨_, e⟩ ?_
  exact ⟨hz, its', n', r, e⟩
noncomputable def Hl : V -> V -> V -> Hp -> (Hp -> Prop) -> Prop:=fun o i v H Q=>∃ p xs k j, o = .ref p /\ i = .int k /\ H p = some (.lst xs) /\ ixN xs.length k = some j /\ Q (upd H p (.lst (xs.set j v)))
theorem ZD : LJ X Hl:=by
  intro pins s σ H o i v ov iv u Q I ro ri rv h
  obtain ⟨p, xs, k, j, rfl, rfl, hp, hj, q⟩:=h
  cases ro
  obtain ⟨t, rfl⟩:=ri
  obtain ⟨its, n, r, ho, hz⟩:=I.lst hp
  obtain ⟨h1, h2, h3, h4⟩:=FZ hj
  have hl:=r.length
  have hn:=K2
  have I' : Inv X pins σ (upd H p (.lst (xs.set j v))) { s with heap:=s.heap.update p (Obj.mapSeq (·.setIfInBounds j u)) }:=
    I.lstUpd hp ho (GM its n j u) (r.set rv j) (by rw [List.length_set]; exact hz) s.toks
  by_cases h0 : 0 <= k
  . have hk : k.toNat = j:=by
      rw [seqIndex_of h0 h4] at h1
      exact Option.some.inj h1
    exact PySem.W.ki_setAt ho h0 (by omega) (by rw [List.size_toArray, ← hl]; exact h4) (by rw [hk]; exact ⟨_, I', q⟩)
  . have hk : (k + (its.toArray.size : Int)).toNat = j:=by
      rw [seqIndex_neg (by omega) h3] at h1
      rw [List.size_toArray, ← hl]
      exact Option.some.inj h1
    exact PySem.W.ki_setBack ho (by omega) (by rw [List.size_toArray, ← hl]; exact h3) (by omega) (by rw [hk]; exact ⟨_, I', q⟩)
theorem Uj (lo hi : Option Int) (n : Nat) : (sliceBounds lo hi none n).1 = ((HT.sIx n 0 lo : Nat) : Int) /\ (sliceBounds lo hi none n).2.1 = ((HT.sIx n n hi : Nat) : Int) /\ (sliceBounds lo hi none n).2.2 = 1:=by
  refine ⟨?_, ?_, rfl⟩
  . cases lo with
    | none=>simp [sliceBounds, HT.sIx]
    | some i=>
      simp only [sliceBounds, HT.sIx, Option.getD_none, show (1 : Int) > 0 by decide, if_true]
      by_cases h : i < 0
      . simp only [h, if_true] <;> omega
      . simp only [h, if_false] <;> omega
  . cases hi with
    | none=>simp [sliceBounds, HT.sIx]
    | some i=>
      simp only [sliceBounds, HT.sIx, Option.getD_none, show (1 : Int) > 0 by decide, if_true]
      by_cases h : i < 0
      . simp only [h, if_true] <;> omega
      . simp only [h, if_false] <;> omega
theorem VL (its : List Value) (lo hi : Option Int) : slicePick its.toArray lo hi none = ((its.drop (HT.sIx its.length 0 lo)).take (HT.sIx its.length its.length hi - HT.sIx its.length 0 lo)).toArray:=by
  obtain ⟨h1, h2, h3⟩:=Uj lo hi its.toArray.size
  unfold slicePick
  rw [h1, h2, h3]
  simp only [sliceRange_one, pick_run, List.size_toArray] <;> rfl
noncomputable def IL (K : PySem.W.Frag) : V -> Option Int -> Option Int -> Hp -> VK -> Prop:=fun x lo hi H Q=>∃ a xs, x = .ref a /\ SqL K H a xs /\ ∀ p, H p = none -> Q (.ref p) (upd H p (.lst (Hs xs lo hi)))
theorem ER : SlR X (IL X.K):=by
  intro pins s σ H x v vl vu lo hi sl Q I rx hs pl pu h
  obtain ⟨a, xs, rfl, hx, q⟩:=h
  cases rx
  obtain ⟨its, r, ht, hz⟩:=I.list hx
  have hlen:=r.length
  refine ⟨"list", _, slot_list_getitem.lookup, ht.isList.typeIs, ?_⟩
  refine wpAny_getItem_list_slice ht.isList hs pl pu .none (by simp) ?_ (by rw [List.size_toArray] <;> omega)
  rw [VL, ← hlen]
  refine ⟨.ref s.heap.objs.size, _, I.laid (t':=s.toks) (o:=.lst (Hs xs lo hi)) (fun b ob q=>Heap.get?_push_of_some _ q) (Nat.le_refl _) ?_, rfl, q _ (I.hok.fresh (Nat.le_refl _))⟩
  exact ⟨Nat.le_trans (KJ xs lo hi) hz, _, 0, (r.drop (HT.sIx xs.length 0 lo)).take (HT.sIx xs.length xs.length hi - HT.sIx xs.length 0 lo), Heap.get?_push_size _ rfl⟩
noncomputable def Q6 : V -> Bool
  | .non=>true
  | .bl _=>true
  | .int _=>true
  | .str _=>true
  | _=>false
noncomputable def eqV : V -> V -> Bool
  | .non, .non=>true
  | .bl a, .bl b=>a == b
  | .bl a, .int b=>(if a then 1 else 0) == b
  | .int a, .bl b=>a == (if b then 1 else 0)
  | .int a, .int b=>a == b
  | .str a, .str b=>a == b
  | _, _=>false
theorem Il {A : Around} {s : Shared} {y x : V} {u v : Value} (ry : X9 y u) (rx : X9 x v) (fy : Q6 y = true) (fx : Q6 x = true) : SeqAt.EqAt A s u v (eqV y x):=by
  cases y with
  | non=>
    cases ry
    cases x with
    | non=>cases rx; exact SeqAt.EqAt.same _
    | bl b=>cases rx; exact SeqAt.EqAt.none_bool b
    | int b=>obtain ⟨t, rfl⟩:=rx; exact SeqAt.EqAt.none_int b t
    | str b=>obtain ⟨t, rfl⟩:=rx; exact SeqAt.EqAt.none_str b t
    | _=>exact absurd (show false = true from fx) Bool.false_ne_true
  | bl a=>
    cases ry
    cases x with
    | non=>cases rx; exact SeqAt.EqAt.bool_none a
    | bl b=>cases rx; exact SeqAt.EqAt.bool_bool a b
    | int b=>obtain ⟨t, rfl⟩:=rx; exact SeqAt.EqAt.bool_int a b t
    | str b=>obtain ⟨t, rfl⟩:=rx; exact SeqAt.EqAt.bool_str a b t
    | _=>exact absurd (show false = true from fx) Bool.false_ne_true
  | int a=>
    obtain ⟨t', rfl⟩:=ry
    cases x with
    | non=>cases rx; exact SeqAt.EqAt.int_none a t'
    | bl b=>cases rx; exact SeqAt.EqAt.int_bool a t' b
    | int b=>obtain ⟨t, rfl⟩:=rx; exact SeqAt.EqAt.int_int a t' b t
    | str b=>obtain ⟨t, rfl⟩:=rx; exact SeqAt.EqAt.int_str a t' b t
    | _=>exact absurd (show false = true from fx) Bool.false_ne_true
  | str a=>
    obtain ⟨t', rfl⟩:=ry
    cases x with
    | non=>cases rx; exact SeqAt.EqAt.str_none a t'
    | bl b=>cases rx; exact SeqAt.EqAt.str_bool a t' b
    | int b=>obtain ⟨t, rfl⟩:=rx; exact SeqAt.EqAt.str_int a t' b t
    | str b=>obtain ⟨t, rfl⟩:=rx; exact SeqAt.EqAt.str_str a t' b t
    | _=>exact absurd (show false = true from fx) Bool.false_ne_true
  | _=>exact absurd (show false = true from fy) Bool.false_ne_true
noncomputable def eqU (x : V) (u : Value) : Bool:=match u with
  | .none=>eqV .non x
  | .bool b=>eqV (.bl b) x
  | .int i _=>eqV (.int i) x
  | .str z _=>eqV (.str z) x
  | _=>false
theorem F7 {x y : V} {u : Value} (r : X9 y u) (f : Q6 y = true) : eqU x u = eqV y x:=by
  cases y with
  | non=>cases r; rfl
  | bl b=>cases r; rfl
  | int i=>obtain ⟨t, rfl⟩:=r; rfl
  | str z=>obtain ⟨t, rfl⟩:=r; rfl
  | _=>exact absurd (show false = true from f) Bool.false_ne_true
theorem Ve {x : V} : ∀ {xs : List V} {us : List Value}, XX xs us -> xs.all Q6 = true -> us.any (eqU x) = xs.any fun y=>eqV y x
  | _, _, .nil, _=>rfl
  | y :: xs, u :: us, .cons r t, f=>by
    rw [List.all_cons, Bool.and_eq_true] at f
    rw [List.any_cons, List.any_cons, F7 r f.1, Ve t f.2]
theorem Z9 {A : Around} {s : Shared} {x : V} {v : Value} (rx : X9 x v) (fx : Q6 x = true) : ∀ {xs : List V} {us : List Value}, XX xs us -> xs.all Q6 = true -> ∀ u ∈ us, SeqAt.EqAt A s u v (eqU x u)
  | _, _, .nil, _=>fun u hu=>by cases hu
  | y :: xs, u :: us, .cons r t, f=>fun u' hu=>by
    rw [List.all_cons, Bool.and_eq_true] at f
    rcases List.mem_cons.mp hu with rfl | hu
    . rw [F7 r f.1]; exact Il r rx f.1 fx
    . exact Z9 rx fx t f.2 u' hu
noncomputable def inV (x : V) (xs : List V) : Bool:=xs.any fun y=>eqV y x
noncomputable def rIn (K : PySem.W.Frag) (neg : Bool) : R2:=fun x y H Q=>∃ p xs, y = .ref p /\ (SqL K H p xs ∨ SqT K H p xs) /\ Q6 x = true /\ xs.all Q6 = true /\ Q (.bl (if neg then !inV x xs else inV x xs)) H
theorem Dp : OpR X (compareOp .In) (rIn X.K false):=by
  intro pins s σ H x y v u Q I rx ry h
  obtain ⟨p, xs, rfl, hq, fx, fs, q⟩:=h
  cases ry
  rcases hq with hq | hq
  . obtain ⟨its, r, pl, hz⟩ := I.list hq
    refine SeqAt.in_listAt (eqU x) pl.isList (fun w hw=>Z9 rx fx r fs w (by simpa using hw)) ⟨.bl _, H, I, rfl, ?_⟩
    rw [show its.toArray.any (eqU x) = its.any (eqU x) by simp, Ve r fs]
    exact q
  . obtain ⟨its, r, pl, hz⟩ := I.tuple hq
    refine SeqAt.in_tupleAt (eqU x) pl (fun w hw=>Z9 rx fx r fs w (by simpa using hw)) ⟨.bl _, H, I, rfl, ?_⟩
    rw [show its.toArray.any (eqU x) = its.any (eqU x) by simp, Ve r fs]
    exact q
theorem Us : OpR X (compareOp .NotIn) (rIn X.K true):=by
  intro pins s σ H x y v u Q I rx ry h
  obtain ⟨p, xs, rfl, hq, fx, fs, q⟩:=h
  cases ry
  rcases hq with hq | hq
  . obtain ⟨its, r, pl, hz⟩ := I.list hq
    refine SeqAt.notIn_listAt (eqU x) pl.isList (fun w hw=>Z9 rx fx r fs w (by simpa using hw)) ⟨.bl _, H, I, rfl, ?_⟩
    rw [show its.toArray.any (eqU x) = its.any (eqU x) by simp, Ve r fs]
    exact q
  . obtain ⟨its, r, pl, hz⟩ := I.tuple hq
    refine SeqAt.notIn_tupleAt (eqU x) pl (fun w hw=>Z9 rx fx r fs w (by simpa using hw)) ⟨.bl _, H, I, rfl, ?_⟩
    rw [show its.toArray.any (eqU x) = its.any (eqU x) by simp, Ve r fs]
    exact q
theorem Uk : ZS X (.builtin "len") (fun xs H Q=>∃ p ys, xs = [.ref p] /\ (SqL X.K H p ys ∨ SqT X.K H p ys) /\ Q (.int ys.length) H):=by
  intro pins s σ H xs us Q I r h
  obtain ⟨p, ys, rfl, hq, q⟩:=h
  obtain ⟨u, rfl, rx⟩:=G4 r
  cases rx
  have hn:=K2
  rcases hq with hq | hq
  . obtain ⟨its, r', pl, hz⟩ := I.list hq
    have hlen:=r'.length
    exact Calls.call_len_list pl.isList (by simp only [List.size_toArray] <;> omega) ⟨.int ys.length, H, I.tok _, ⟨s.toks + 1, by rw [List.size_toArray, hlen]⟩, q⟩
  . obtain ⟨its, r', pl, hz⟩ := I.tuple hq
    have hlen:=r'.length
    exact len_tuple pl (by simp only [List.size_toArray] <;> omega) ⟨.int ys.length, H, I.tok _, ⟨s.toks + 1, by rw [List.size_toArray, hlen]⟩, q⟩
theorem ZS.or {f : Value} {r r' : List V -> Hp -> VK -> Prop} (h : ZS X f r) (h' : ZS X f r') : ZS X f (fun xs H Q=>r xs H Q ∨ r' xs H Q):=by
  intro pins s σ H xs us Q I rs q
  rcases q with q | q
  . exact h pins s σ H xs us Q I rs q
  . exact h' pins s σ H xs us Q I rs q
theorem UC : ZS X (.type "list") (fun xs H Q=>∃ p ys, xs = [.ref p] /\ (SqL X.K H p ys ∨ SqT X.K H p ys) /\ ∀ l, H l = none -> Q (.ref l) (upd H l (.lst ys))):=by
  intro pins s σ H xs us Q I r h
  obtain ⟨p, ys, rfl, hq, q⟩:=h
  obtain ⟨u, rfl, rx⟩:=G4 r
  cases rx
  have fin : ∀ (its : List Value), XX ys its -> ys.length <= sizeLine -> ∀ (h' : Heap) (c' : Nat), (∀ b o', s.heap.get? b = some o' -> h'.get? b = some o') ->
      h'.get? s.heap.objs.size = some { cls:=.type "list", dict:=none, data:=.seq its.toArray c', slots:=#[] } -> EP X pins σ Q (.ref s.heap.objs.size) { s with heap:=h' }:=fun its r' hz h' c' kp e=>
    ⟨.ref s.heap.objs.size, _, I.laid (t':=s.toks) kp (Nat.le_refl _) (show Yi X.prog X.w _ h' _ (.lst ys) from ⟨hz, its, c', r', e⟩), rfl, q _ (I.hok.fresh (Nat.le_refl _))⟩
  rcases hq with hq | hq
  . obtain ⟨its, r', pl, hz⟩ := I.list hq
    have hlen:=r'.length
    obtain ⟨o, ho, hc, n, hd⟩:=pl.isList
    exact call_list_seq p (.inl rfl) ho hc hd (fun h' c' kp e=>fin its r' hz h' c' kp e) (by simp only [List.size_toArray] <;> omega)
  . obtain ⟨its, r', pl, hz⟩ := I.tuple hq
    have hlen:=r'.length
    obtain ⟨o, ho, hc, n, hd⟩:=pl
    exact call_list_seq p (.inr rfl) ho hc hd (fun h' c' kp e=>fin its r' hz h' c' kp e) (by simp only [List.size_toArray] <;> omega)
noncomputable def tyV (K : PySem.W.Frag) (T : String) (x : V) (H : Hp) : Prop:=match x with
  | .str _=>T = "str"
  | .int _=>T = "int"
  | .ref p=>(T = "list" /\ ∃ xs, SqL K H p xs) ∨ (T = "tuple" /\ ∃ o, K.lookup p = some o /\ o.cls = .type "tuple" /\ o.dict = none) ∨
      (T = "dict" /\ ((∃ kvs, H p = some (.dK kvs)) ∨ ∃ kvs, H p = some (.dT kvs))) ∨ (T = "set" /\ ∃ S n, H p = some (.set S n))
  | _=>False
theorem Hy {pins : List (Addr × Obj)} {σ : St} {H : Hp} {s : Shared} {T : String} {x : V} {v : Value} (I : Inv X pins σ H s) (r : X9 x v) (ty : tyV X.K T x H) :
    s.TypeIs v T /\ ∀ a, v = .ref a -> ∃ ob, s.heap.get? a = some ob /\ ob.dict = none:=by
  cases x with
  | str z=>
    obtain ⟨t, rfl⟩:=r
    cases (show T = "str" from ty)
    exact ⟨typeIs_str s z t, fun _ e=>nomatch e⟩
  | int i=>
    obtain ⟨t, rfl⟩:=r
    cases (show T = "int" from ty)
    exact ⟨typeIs_int s i t, fun _ e=>nomatch e⟩
  | ref p=>
    cases r
    rcases ty with ⟨rfl, xs, hq⟩ | ⟨rfl, o, hk, hc, hd⟩ | ⟨rfl, hk⟩ | ⟨rfl, S, n, hk⟩
    . obtain ⟨its, _, pl, _⟩ := I.list hq
      refine ⟨pl.isList.typeIs, fun a e=>?_⟩
      cases e
      obtain ⟨o, n, e, c, hd, _⟩:=pl
      exact ⟨o, e, hd⟩
    . refine ⟨⟨o, I.kIn p o hk, hc⟩, fun a e => ?_⟩
      cases e
      exact ⟨o, I.kIn _ o hk, hd⟩
    . have z : ∃ o, s.heap.get? p = some o /\ o.ExactDict:=by
        rcases hk with ⟨kvs, hk⟩ | ⟨kvs, hk⟩
        . obtain ⟨_, _, _, _, o, _, _, e, ex, _⟩ := I.hok p _ hk
          exact ⟨o, e, ex⟩
        . obtain ⟨_, _, _, _, o, _, _, e, ex, _⟩ := I.hok p _ hk
          exact ⟨o, e, ex⟩
      obtain ⟨o, e, ex⟩:=z
      refine ⟨⟨o, e, ex.1⟩, fun a e2=>?_⟩
      cases e2
      exact ⟨o, e, ex.2.1⟩
    . obtain ⟨o, _, _, _, e, ex, _⟩ := I.hok p _ hk
      refine ⟨⟨o, e, ex.1⟩, fun a e2=>?_⟩
      cases e2
      exact ⟨o, e, ex.2.1⟩
  | _=>exact False.elim ty
noncomputable def tBM (K : PySem.W.Frag) (T : String) (r : V -> List V -> Hp -> VK -> Prop) (to : TE) (t : TA) : TE:=fun σ H Q=>to σ H fun x H1=>tyV K T x H1 /\ t σ H1 fun xs H2=>r x xs H2 Q
variable {o e : Expr} {es : List Expr} {to : TE} {t : TA} {name : Str} {apos cpos : Pos} {T id : String} {r : V -> List V -> Hp -> VK -> Prop}
theorem Q8 (pa : PlainAttrs T) (slot : Slot T name id) (hty : typeOf (.builtin id) = pure (.type "method_descriptor")) (hm : MtR X id r) (ho : PE X o to) (ha : PA X (e :: es) t)
    (hbase : attributeBase o name X.env (eval o X.env) = eval o X.env:=by rfl)
    (hfew : ((backTo cpos (starEach (e :: es) X.env)).all (fun x=>!x.1) && (backToKw cpos (keywordEach [] X.env)).all (fun x=>x.1.isSome)
      && decide ((e :: es).length + ([] : List Keyword).length + (if ([] : List Keyword).isEmpty then 0 else 1) < 30)) = true:=by rfl)
    (hline : (apos.endLine == cpos.line) = true:=by rfl) (hs : starEach (e :: es) X.env = (false, eval e X.env) :: starEach es X.env:=by rfl) (hplain : (backTo cpos (starEach es X.env)).any (·.1) = false:=by rfl) :
    PE X (.Call (.Attribute o name apos) (e :: es) [] cpos) (tBM X.K T r to t):=by
  intro pins s σ H Q I h
  refine wpAny_Call_method_late hbase hfew hline rfl (thn (ho pins s σ H _ I h) fun v s1 ⟨x, H1, I1, r1, ty, q1⟩=>?_)
  obtain ⟨h1, h2⟩:=Hy I1 r1 ty
  refine ⟨T, id, pa, slot, hty, h1, h2, ?_⟩
  have hA:=ha cpos pins s1 σ H1 _ I1 q1
  rw [hs] at hA ⊢
  refine Calls.callWith_builtin (by show (false || (backTo cpos (starEach es X.env)).any (·.1)) = false; rw [hplain] <;> rfl) (Calls.evalArgs_plain ?_)
  exact thn hA fun us s2 ⟨vs, H2, I2, r2, q2⟩=>hm pins s2 σ H2 x vs v us Q I2 r1 r2 q2
/- xs.append(e), list.index on a module's tuple .. are MtR facts of 06m -/
end
end L2
namespace L2
open PySem PySem.Spec PyProof.Rows
noncomputable def MtM (X : Cx) (id : String) (r : V -> List V -> Hp -> VK -> Prop) : Prop:=
  ∀ (pins : List (Addr × Obj)) (s : Shared) (σ : St) (H : Hp) (x : V) (xs : List V) (v : Value) (us : List Value) (Q : VK), Inv X pins σ H s -> X9 x v -> XX xs us -> r x xs H Q ->
    wpAny (model X.prog X.w) X.A (call (.builtin id) (v :: us)) (EP X pins σ Q) X.xe s
theorem XX.one : ∀ {x : V} {us : List Value}, XX [x] us -> ∃ u, us = [u] /\ X9 x u:=fun {x us} h=>by
  cases h with
  | cons r t=>
    cases t
    exact ⟨_, rfl, r⟩
theorem XX.two : ∀ {x y : V} {us : List Value}, XX [x, y] us -> ∃ u v, us = [u, v] /\ X9 x u /\ X9 y v:=fun {x y us} h=>by
  cases h with
  | cons r t=>
    cases t with
    | cons q t=>
      cases t
      exact ⟨_, _, rfl, r, q⟩
theorem XX.zero : ∀ {us : List Value}, XX [] us -> us = []
  | _, .nil=>rfl
theorem XX.eraseIdx : ∀ {xs : List V} {us : List Value} (i : Nat), XX xs us -> XX (xs.eraseIdx i) (us.eraseIdx i)
  | _, _, _, .nil=>.nil
  | _, _, 0, .cons _ t=>t
  | _, _, i + 1, .cons r t=>.cons r (XX.eraseIdx i t)
theorem XX.reverse {xs : List V} {us : List Value} (h : XX xs us) : XX xs.reverse us.reverse:=by
  induction h with
  | nil=>exact .nil
  | cons r t ih=>rw [List.reverse_cons, List.reverse_cons]; exact XX.append ih (.cons r .nil)
theorem XX.rep {xs : List V} {us : List Value} (h : XX xs us) : ∀ k : Nat, XX (List.replicate k xs).flatten (List.replicate k us).flatten
  | 0=>.nil
  | k + 1=>by
    rw [List.replicate_succ, List.replicate_succ, List.flatten_cons, List.flatten_cons]
    exact XX.append h (XX.rep h k)
theorem UP {α : Type} : ∀ (l : List α) (i : Nat), (l.eraseIdx i).length <= l.length
  | [], _=>Nat.le_refl _
  | _ :: _, 0=>Nat.le_succ _
  | _ :: r, i + 1=>Nat.succ_le_succ (UP r i)
theorem U9 (its : List Value) : ∀ (k : Nat) (acc : List Value),
    List.foldl (fun x1 x2=>x1 ++ x2) acc.toArray (List.replicate k its.toArray) = (acc ++ (List.replicate k its).flatten).toArray
  | 0, acc=>by simp
  | k + 1, acc=>by
    have e : acc.toArray ++ its.toArray = (acc ++ its).toArray:=by simp
    have e2 : (acc ++ its) ++ (List.replicate k its).flatten = acc ++ (List.replicate (k + 1) its).flatten:=by
      rw [List.replicate_succ, List.flatten_cons, List.append_assoc]
    rw [← e2, ← U9 its k (acc ++ its), ← e, List.replicate_succ, List.foldl_cons]
section
variable {X : Cx} {pins : List (Addr × Obj)} {σ : St} {H : Hp} {s : Shared} {l b : Addr} {xs ys zs : List V}
theorem Inv.lset {its its' : List Value} {n : Nat} {f : Array Value -> Array Value} {t' : Nat} (I : Inv X pins σ H s) (hH : H l = some (.lst xs))
    (e : s.heap.get? l = some { cls:=.type "list", data:=.seq its.toArray n }) (hf : f its.toArray = its'.toArray) (hv : XX ys its') (hz : ys.length <= sizeLine) :
    Inv X pins σ (upd H l (.lst ys)) { s with heap:=s.heap.update l (Obj.mapSeq f), toks:=t' }:=by
  have q:=PySem.IsL.update e f
  rw [hf] at q
  refine I.write (x:=l) (e:=l) (by rw [hH]; exact trivial) (.inl rfl) (fun b' u hb hu=>(Heap.get?_update_other s.heap (Obj.mapSeq f) (Ne.symm hb)).trans hu) ⟨_, q⟩ ?_
  exact ⟨hz, its', _, hv, q⟩
theorem Inv.lnew {its : List Value} {t' : Nat} (I : Inv X pins σ H s) (hv : XX ys its) (hz : ys.length <= sizeLine) :
    Inv X pins σ (upd H s.heap.objs.size (.lst ys)) { s with heap:=s.heap.push { cls:=.type "list", data:=.seq its.toArray }, toks:=t' }:=
  I.laid (fun _ _ q=>Heap.get?_push_of_some _ q) (Nat.le_refl _) ⟨hz, its, 0, hv, Heap.get?_push_size _ rfl⟩
theorem Inv.fresh (I : Inv X pins σ H s) : H s.heap.objs.size = none:=I.hok.fresh (Nat.le_refl _)
theorem Inv.lstM (I : Inv X pins σ H s) (hH : H l = some (.lst xs)) : xs.length <= sizeLine /\ ∃ (its : List Value) (n : Nat), XX xs its /\ xs.length = its.length /\ s.heap.get? l = some { cls:=.type "list", data:=.seq its.toArray n }:=by
  obtain ⟨z, its, n, r, e⟩:=I.hok l _ hH
  exact ⟨z, its, n, r, r.length, e⟩
theorem CQ {n : Nat} (h : n <= sizeLine) : Builtin.List.listTooLong n = false:=by
  unfold Builtin.List.listTooLong
  exact decide_eq_false (by omega)
end
section
variable {X : Cx}
noncomputable def V5 : V -> List V -> Hp -> VK -> Prop:=fun x vs H Q=>∃ l xs y, x = .ref l /\ vs = [y] /\ H l = some (.lst xs) /\ xs.length < sizeLine /\ Q .non (upd H l (.lst (xs ++ [y])))
theorem Yq : MtM X "list.append" V5:=by
  intro pins s σ H x vs v us Q I rx rv h
  obtain ⟨l, xs, y, rfl, rfl, hH, hz, q⟩:=h
  cases rx
  obtain ⟨u, rfl, ru⟩:=rv.one
  obtain ⟨z, its, n, r, hl, e⟩:=I.lstM hH
  refine call_meets F.slot_list_append ⟨_, e, rfl⟩ F.entry_list_append (F.args_list_append_2 _ _) (PySem.list_append l its.toArray n u (by rw [List.size_toArray]; omega)) ⟨e, ?_⟩
  refine ⟨.non, _, I.lset (its':=its ++ [u]) hH e (by simp) (r.append (.cons ru .nil)) ?_, rfl, q⟩
  rw [List.length_append, List.length_singleton]
  omega
noncomputable def D0 : V -> List V -> Hp -> VK -> Prop:=fun x vs H Q=>∃ l xs i k y, x = .ref l /\ vs = [.int i] /\ H l = some (.lst xs) /\ -(2 ^ 63) <= i /\ i < 2 ^ 63 /\ seqIndex? i xs.length = some k /\ xs[k]? = some y /\ Q y (upd H l (.lst (xs.eraseIdx k)))
theorem Bt : MtM X "list.pop" D0:=by
  intro pins s σ H x vs v us Q I rx rv h
  obtain ⟨l, xs, i, k, y, rfl, rfl, hH, h1, h2, hk, hy, q⟩:=h
  cases rx
  obtain ⟨u, rfl, ru⟩:=rv.one
  obtain ⟨t, rfl⟩:=ru
  obtain ⟨z, its, n, r, hl, e⟩:=I.lstM hH
  obtain ⟨w, hw, rw'⟩:=r.get hy
  refine call_meets F.slot_list_pop ⟨_, e, rfl⟩ F.entry_list_pop (F.args_list_pop_2 _ _)
    (MeetsSeq.list_pop_at l its.toArray n i t k w (fitsIndex_both h1 h2) (by rw [List.size_toArray, ← hl]; exact hk) (by rw [← Array.getElem?_toList]; exact hw) (by rw [List.size_toArray]; omega)) ⟨e, ?_⟩
  refine ⟨y, _, I.lset (its':=its.eraseIdx k) hH e ?_ (r.eraseIdx k) ?_, rw', q⟩
  . show its.toArray.eraseIdxIfInBounds k = (its.eraseIdx k).toArray
    rw [List.eraseIdxIfInBounds_toArray]
  . have := UP xs k
    omega
noncomputable def LM : R2:=fun x y H Q=>∃ l b xs zs, x = .ref l /\ y = .ref b /\ H l = some (.lst xs) /\ H b = some (.lst zs) /\ xs.length + zs.length <= sizeLine /\ ∀ p, H p = none -> Q (.ref p) (upd H p (.lst (xs ++ zs)))
theorem U3 : OpR X (binaryOp .Add) LM:=by
  intro pins s σ H x y v u Q I rx ry h
  obtain ⟨l, b, xs, zs, rfl, rfl, hH, hB, hz, q⟩:=h
  cases rx
  cases ry
  obtain ⟨z, its, n, r, hl, e⟩:=I.lstM hH
  obtain ⟨z2, its2, n2, r2, hl2, e2⟩:=I.lstM hB
  refine PySem.P.add_list e e2 ?_ (by rw [List.size_toArray, List.size_toArray]; omega)
  have ea : its.toArray ++ its2.toArray = (its ++ its2).toArray:=by simp
  rw [ea]
  exact ⟨.ref _, _, I.lnew (t':=s.toks) (r.append r2) (by rw [List.length_append]; omega), rfl, q _ I.fresh⟩
noncomputable def Lx : R2:=fun x y H Q=>∃ l k xs, x = .ref l /\ y = .int k /\ H l = some (.lst xs) /\ -(2 ^ 63) <= k /\ k < 2 ^ 63 /\ xs.length * k.toNat <= sizeLine /\
  ∀ p, H p = none -> Q (.ref p) (upd H p (.lst (List.replicate k.toNat xs).flatten))
theorem EV {α : Type} (xs : List α) (k : Nat) : (List.replicate k xs).flatten.length = k * xs.length:=by
  induction k with
  | zero=>simp
  | succ k ih=>rw [List.replicate_succ, List.flatten_cons, List.length_append, ih, Nat.succ_mul, Nat.add_comm]
theorem VE : OpR X (binaryOp .Mult) Lx:=by
  intro pins s σ H x y v u Q I rx ry h
  obtain ⟨l, k, xs, rfl, rfl, hH, h1, h2, hz, q⟩:=h
  cases rx
  obtain ⟨t, rfl⟩:=ry
  obtain ⟨z, its, n, r, hl, e⟩:=I.lstM hH
  have hlen : its.toArray.size * k.toNat <= sizeLine:=by rw [List.size_toArray, ← hl]; exact hz
  have hcap : ¬ its.toArray.size * k.toNat > (2 ^ 63 - 1) / 8:=by
    have : (sizeLine : Nat) <= (2 ^ 63 - 1) / 8:=by decide
    omega
  have hfit : ¬ (!Builtin.List.listFitsIndex k) = true:=by
    rw [fitsIndex_both h1 h2]
    exact Bool.false_ne_true
  have hlong : ¬ Builtin.List.listTooLong (its.toArray.size * k.toNat) = true:=by
    rw [CQ hlen]
    exact Bool.false_ne_true
  have hnew : List.foldl (fun x1 x2=>x1 ++ x2) #[] (List.replicate (if its.toArray.isEmpty = true then 0 else k.toNat) its.toArray) = (List.replicate k.toNat its).flatten.toArray:=by
    have f0 : ∀ m : Nat, List.foldl (fun x1 x2=>x1 ++ x2) #[] (List.replicate m its.toArray) = (List.replicate m its).flatten.toArray:=fun m=>by
      have:=U9 its m []
      rw [List.nil_append] at this
      exact this
    rw [f0]
    cases its with
    | nil=>simp
    | cons a r'=>rw [if_neg (by simp)]
  refine wpAny_binaryOp_repeat_ref (T:="list") (U:="int") (by decide) ⟨_, e, rfl⟩ (fun s'=>typeIs_int s' k t) noFill_list_mul F.fills_int_mul F.slot_int_rmul repeat_list F.slot_int_index.lookup
    (call_meets F.slot_int_rmul (typeIs_int s k t) F.entry_int_rmul (F.args_int_rmul_2 _ _) (int___rmul___int_list k t l its.toArray n)
      ⟨e, rfl, ⟨_, e, rfl⟩, call_meets F.slot_list_mul ⟨_, e, rfl⟩ F.entry_list_mul (F.args_list_mul_2 _ _) (AutoListH.list___mul___list_int_3 l its.toArray n k t hfit hcap hlong) ⟨e, ?_⟩⟩)
  rw [hnew]
  exact ⟨.ref _, _, I.lnew (t':=s.toks) (r.rep k.toNat) (by rw [EV, Nat.mul_comm]; exact hz), rfl, q _ I.fresh⟩
end
section
variable {prog : Program} {w : World} {A : Around} {E : Value -> Shared -> Prop} {s : Shared}
end
section
variable {X : Cx}
end
end L2
namespace Att
open PySem PySem.W PySem.Calls PyProof.Rows
theorem JW {P : Params} {h : Heap} : ∀ (ns : List Int) (vs : List Value), WellAll P h vs (ns.map WData.int) -> IntsAre vs ns:=by
  intro ns
  induction ns with
  | nil=>
    intro vs w
    rw [List.map_nil] at w
    cases w
    exact .nil
  | cons n ns ih=>
    intro vs w
    rw [List.map_cons] at w
    cases w with
    | cons a b=>
      cases a
      exact .cons _ _ (ih _ b)
theorem FM {l : OpenLaw} {n : Nat} (hn : l.most = some n) {P : Params} {h : Heap} {args : List WData} {vals : List Value}
    (hpre : l.row.toRowW.claim.pre args = true) (hwl : WellAll P h vals args) :
    ∃ a vs ns, vals = [Value.ref a] /\ args = [WData.list (ns.map WData.int)] /\ h.get? a = some { cls:=.type "list", data:=.seq vs.toArray } /\ IntsAre vs ns /\ ns.length <= n:=by
  have hsh : WShape.hasAll [] args [.list .int] = true:=(pre_splitW hpre).1
  have hc : l.pre.holds [] { args:=args } = true:=(pre_splitW hpre).2
  obtain ⟨d, r, rfl, h1, h2⟩:=hasAllW_cons hsh
  obtain rfl:=hasAllW_nil h2
  obtain ⟨xs, rfl, h3⟩:=hasW_list h1
  obtain ⟨ns, rfl⟩:=items_int h3
  have hlen : ns.length <= n:=by
    unfold OpenLaw.pre at hc
    have h4 : (WTm.not (.lt (.lit (.int (n : Int))) (.len (.arg 0)))).holds [] { args:=[.list (ns.map .int)] } = true:=by
      have h4:=(holds_andW hc).1
      rw [hn] at h4
      exact h4
    have h5:=condW_of h4 (w_not (w_lt w_lit (w_len_list (w_arg rfl))))
    rw [List.length_map] at h5
    refine Nat.le_of_not_lt fun q=>?_
    have q' : (n : Int) < ((ns.length : Nat) : Int):=by omega
    first
      | (rw [decide_eq_true q'] at h5; exact absurd h5 (by decide))
      | (simp at h5; omega)
  cases hwl with
  | cons w1 w2=>
    cases w2
    cases w1 with
    | list ho hall=>exact ⟨_, _, ns, rfl, rfl, ho, JW ns _ hall, hlen⟩
theorem FK (l : OpenLaw) (args : List WData) : l.row.toRowW.claim.post args (.bool true) args = true:=
  postW_of (r:=l.row.toRowW) (X:=(true == true))
    (show WShape.has [] (.bool true) .bool = true by first | rfl | decide | simp [WShape.has, WShape.arms, WShape.armsAll])
    (show (WTm.eq .res (.lit (.bool true))).value [] { args:=args, res:=some (.bool true), after:=args } = some (.bool (true == true)) from w_eq_bool (w_res rfl) w_lit) rfl
theorem attach_call {l : OpenLaw} {n : Nat} {q : Program} {loose : List Str} {XP : (Str -> Option Value) -> Heap -> Prop} {YP : World -> Heap -> Prop} {d : DefRec}
    (hn : l.most = some n) (hdf : d.params.defaults = [])
    (call : ∀ (w : World) (s₀ s₁ : Shared) (mg mb : Str -> Option Value) (fa : Addr) (o : Obj) (pm cd doc : Value) (a : Addr) (vs : List Value) (ns : List Int),
      Ground q loose [] XP w s₀ mg mb s₁.heap -> YP w s₁.heap ->
      s₁.heap.get? fa = some o -> o.data = .func (docDef d.name d.params d.body d.scope pm cd doc) -> s₁.heap.CodeRec cd d.name -> mg d.name = some (.ref fa) ->
      s₁.heap.get? a = some { cls:=.type "list", data:=.seq vs.toArray } -> IntsAre vs ns -> ns.length <= n -> s₁.gens = #[] ->
      codeAny (model l.prog w) callerA (.call (.ref fa) ⟨[.ref a], []⟩) (fun r s'=>r = .ok (.ret (.bool true)) /\ OldK s₁.heap s'.heap /\ s'.os = s₁.os /\ AllBare s'.gens) s₁) :
    WalkO q loose XP YP l.row.toRowW d [] (fun f vs=>PySem.call f vs):=by
  intro w s₀ s₁ mg mb G Y fa o pm cd doc dV kV ho hd hcd hD hmg hg args vals as hpre hlay hrd hwl hlo
  obtain rfl : dV = .none:=Dflts.none hD hdf
  obtain rfl : kV = .none:=Dflts.noKw hD
  obtain ⟨a, vs, ns, rfl, rfl, hobj, hints, hlen⟩:=FM hn hpre hwl
  refine enter_call (codeAny_mono (call w s₀ s₁ mg mb fa o pm cd doc a vs ns G Y ho (fd_plain hd) hcd hmg hobj hints hlen hg) fun r s' hq=>?_)
  obtain ⟨rfl, h2, h3, h4⟩:=hq
  exact ⟨.inl ⟨.bool true, .bool true, [], rfl, fun _=>rfl, .bool true, FK l _, fun _=>⟨List.Pairwise.nil, fun _ hm=>(nomatch hm)⟩⟩, h2, h3, h4⟩
section
variable {prog : Program} {w : World} {A : Around} {E : Value -> Shared -> Prop} {s : Shared} {K : Frag}
noncomputable def LO (h : Heap) (L d : Addr) : List (Addr × Obj):=(List.range h.objs.size).filterMap fun a=>if a = L ∨ a = d then none else (h.get? a).map fun o=>(a, o)
end
end Att
namespace L2
open PySem PySem.Spec PyProof.Rows
theorem JN : ∀ {vs : List Value} {ns : List Int}, IntsAre vs ns -> XX (ns.map V.int) vs
  | _, _, .nil=>.nil
  | _, _, .cons n t h=>.cons ⟨t, rfl⟩ (JN h)
noncomputable def Lf (H : Hp) : Prop:=∀ b, H b = none ∨ ∃ o xs, H b = some (.frz o (.lst xs))
theorem Co {P : Program} {w : World} {K : PySem.W.Frag} {mg mb : Str -> Option Value} {CX : CXT} {k : Nat} {fa a : Addr} {fd : FuncData} {x : Str} {sp : Sp} {s₁ : Shared} {vs : List Value} {ns : List Int}
    (KX : K.In s₁.heap) (hns : s₁.heap.Ns mainGlobals mg) (hb : s₁.heap.Ns builtinsNs mb) (hbb : ∀ x : Str, x ≠ "__name__" -> mb x = bootBuiltins x) (hlim : s₁.heap.NoLimit) (hg : s₁.gens = #[])
    (ha : s₁.heap.get? a = some { cls:=.type "list", data:=.seq vs.toArray }) (hi : IntsAre vs ns) (hl : ns.length <= sizeLine) (hr : Room k callerA)
    (F : ∀ base : Heap, K.In base -> base.Ns mainGlobals mg -> FnOk P w K mg base CX k fa fd [x] sp) (hbind : ∀ (s : Shared) (u : Value), BindsTo s fd ⟨[u], []⟩ [(x, u)])
    (hsp : ∀ H : Hp, Lf H -> SqL K H a (ns.map V.int) -> sp [.ref a] H (fun v _=>v = .bl true) fun _ _ _=>False)
    (hCX : ∀ H e s', CX [] H s₁ (fun _ _ _=>False) e s' -> False) :
    codeAny (model P w) callerA (.call (.ref fa) ⟨[.ref a], []⟩) (fun r s'=>r = .ok (.ret (.bool true)) /\ OldK s₁.heap s'.heap /\ s'.os = s₁.os /\ AllBare s'.gens) s₁:=by
  have rv:=JN hi
  have lenV:=hi.length
  -- from an abstract heap in which nothing but the script may be tracked
  have core : ∀ H : Hp, Lf H -> SqL K H a (ns.map V.int) -> HOk P w H s₁.heap -> (∀ b, H b ≠ none -> b = a) -> (H a ≠ none -> K.lookup a = none) ->
      codeAny (model P w) callerA (.call (.ref fa) ⟨[.ref a], []⟩) (fun r s'=>r = .ok (.ret (.bool true)) /\ OldK s₁.heap s'.heap /\ s'.os = s₁.os /\ AllBare s'.gens) s₁:=by
    intro H hO hS hok hA hK
    have base_of : ∀ {b : Addr} {o : Obj}, s₁.heap.get? b = some o -> H b = none -> (Cl s₁.heap H).get? b = some o:=fun e n=>Gb e n
    have noA : ∀ {b : Addr} {o : Obj} {es : Array DictEntry} {ep : Nat}, s₁.heap.get? b = some o -> o.data = .dict es ep -> H b = none:=fun {b o es ep} e d=>by
      cases q : H b with
      | none=>rfl
      | some u=>
        have e' : b = a:=hA b (by rw [q]; simp)
        subst e'
        rw [ha] at e; cases e
        have d' : Data.seq vs.toArray _ = Data.dict es ep:=d
        cases d'
    have nsK : ∀ {b : Addr} {m : Str -> Option Value}, s₁.heap.Ns b m -> (Cl s₁.heap H).Ns b m:=fun {b m} ⟨o, es, ep, e, d, r⟩=>⟨o, es, ep, base_of e (noA e d), d, r⟩
    have hKb : K.In (Cl s₁.heap H):=fun b o e=>base_of (KX b o e) (by
      cases q : H b with
      | none=>rfl
      | some u=>
        have e' : b = a:=hA b (by rw [q]; simp)
        subst e'
        rw [hK (by rw [q]; simp)] at e; cases e)
    have hM : Mod K mg (Cl s₁.heap H):=⟨hKb, nsK hns, ⟨mb, nsK hb, hbb⟩, let ⟨mc, h1, h2⟩:=hlim; ⟨mc, nsK h1, h2⟩⟩
    have e0 : Env0 P w K mg (Cl s₁.heap H) callerA [] s₁ H:=⟨rfl, hM, fun b o e=>F3 e, Nat.le_of_eq (F4 _ _), trivial, fun b hb=>absurd (show b ∈ ([] : List Addr) from hb) (by simp), hok, .of_eq hg⟩
    refine codeAny_mono ((F _ hKb (nsK hns)).run callerA [] s₁ H ⟨[.ref a], []⟩ [.ref a] [.ref a] _ _ hr e0 (hbind s₁ (.ref a)) (.cons rfl .nil) (hsp H hO hS)) fun r s' h=>?_
    cases r with
    | error e=>exact (hCX H e s' h).elim
    | ok fl=>
      cases fl with
      | next=>exact False.elim h
      | brk=>exact False.elim h
      | cont=>exact False.elim h
      | ret u=>
        obtain ⟨v, H', os, bare, un, hok', r', q⟩:=h
        have q' : v = .bl true:=q
        subst q'
        obtain rfl : u = Value.bool true:=r'
        refine ⟨rfl, OldK.of_keep fun b o e=>?_, os, bare⟩
        cases q : H b with
        | none=>exact un.keep b o e q (by intro z; exact absurd (show b ∈ ([] : List Addr) from z) (by simp)) (by simp)
        | some u=>
          rcases hO b with z | ⟨ob, xs, z⟩
          . rw [q] at z; cases z
          . have z2 := un.frzs b ob _ z
            obtain ⟨e1, _⟩:=hok b _ z
            obtain ⟨e2, _⟩:=hok' b _ z2
            rw [e] at e1; cases e1
            exact e2
  cases hk : K.lookup a with
  | some o=>
    -- the script is one of the module's own objects
    have e:=KX a o hk
    rw [ha] at e
    cases e
    refine core (fun _=>none) (fun _=>.inl rfl) (.inr ⟨_, vs.toArray, _, hk, rfl, rfl, rfl, by rw [List.size_toArray, lenV]; exact hl, by simpa using rv⟩) (fun b u z=>by have z' : (none : Option HO) = some u:=z; cases z') (fun b z=>absurd rfl z) fun z=>absurd rfl z
  | none=>
    refine core (fun b=>if b = a then some (.frz { cls:=.type "list", data:=.seq vs.toArray } (.lst (ns.map V.int))) else none) (fun b=>?_) (.inl (.inr ⟨{ cls:=.type "list", data:=.seq vs.toArray }, if_pos rfl⟩)) (fun b u z=>?_) (fun b z=>?_) fun _=>hk
    . by_cases hb : b = a
      . exact .inr ⟨_, _, if_pos hb⟩
      . exact .inl (if_neg hb)
    . by_cases hb : b = a
      . have z' := (if_pos hb).symm.trans z
        cases z'
        subst hb
        exact ⟨ha, by rw [List.length_map]; exact hl, vs, _, rv, ha⟩
      . have z' := (if_neg hb).symm.trans z
        cases z'
    . by_cases hb : b = a
      . exact hb
      . exact absurd (if_neg hb) z
end L2
namespace L2
open PySem PySem.Spec PyProof.Rows
theorem Et {l : PySem.W.OpenLaw} {n k : Nat} {q : Program} {loose : List Str} {XP : (Str -> Option Value) -> Heap -> Prop} {YP : World -> Heap -> Prop} {d : DefRec} {K : Params -> PySem.W.Frag} {CX : World -> CXT} {sp : World -> Sp} {x : Str}
    (hn : l.most = some n) (hn2 : n <= sizeLine) (hdf : d.params.defaults = []) (hr : Room k callerA)
    (hY : ∀ (w : World) (h : Heap), YP w h -> (K w.params).In h)
    (F : ∀ (w : World) (mg : Str -> Option Value) (fa : Addr) (h : Heap), (K w.params).In h -> h.Ns mainGlobals mg -> mg d.name = some (.ref fa) ->
      ∃ fd : FuncData, (∀ (s : Shared) (u : Value), BindsTo s fd ⟨[u], []⟩ [(x, u)]) /\
        ∀ base : Heap, (K w.params).In base -> base.Ns mainGlobals mg -> FnOk l.prog w (K w.params) mg base (CX w) k fa fd [x] (sp w))
    (hsp : ∀ (w : World) (H : Hp) (a : Addr) (ns : List Int), ns.length <= n -> Lf H -> SqL (K w.params) H a (ns.map V.int) -> sp w [.ref a] H (fun v _=>v = .bl true) fun _ _ _=>False)
    (hCX : ∀ (w : World) (H : Hp) (s : Shared) (e : Value) (s' : Shared), CX w [] H s (fun _ _ _=>False) e s' -> False) :
    PySem.W.WalkO q loose XP YP l.row.toRowW d [] (fun f vs=>PySem.call f vs):=by
  refine Att.attach_call hn hdf fun w s₀ s₁ mg mb fa o pm cd doc a vs ns G Y ho hd hcd hmg hobj hints hlen hg=>?_
  have KX:=hY w _ Y
  obtain ⟨fd, hb, hF⟩:=F w mg fa _ KX G.T.g hmg
  exact Co KX G.T.g G.T.b G.T.builtins G.T.nolimit hg hobj hints (Nat.le_trans hlen hn2) hr hF hb (fun H hO hS=>hsp w H a ns hlen hO hS) fun H e s'=>hCX w H s₁ e s'
end L2
namespace L2
open PySem PySem.Spec PyProof.Rows
noncomputable def XM (s : Stmt) : Arguments:=match s with
  | .FunctionDef _ a _ _ _ _ _ _ _ _=>a
  | _=>{ posonlyargs:=[], args:=[], vararg:=none, kwonlyargs:=[], kw_defaults:=[], kwarg:=none, defaults:=[] }
noncomputable def XC (s : Stmt) : List Stmt:=match s with
  | .FunctionDef _ _ b _ _ _ _ _ _ _=>b
  | _=>[]
noncomputable def Xh (s : Stmt) : Scope:=match s with
  | .FunctionDef _ _ _ _ _ _ sc _ _ _=>sc
  | _=>{ kind:=.function, names:=[], isGenerator:=false, isCoroutine:=false }
noncomputable abbrev CX0 : CXT:=fun _ _ _ _ _ _=>False
noncomputable abbrev E0 : XK:=fun _ _ _=>False
theorem Lc {X : Cx} : UT CX0 X E0:=fun _ _ _ _ _ _ _ h=>h.elim
structure Fun (K : PySem.W.Frag) (x qual : Str) (st : Stmt) (f : Addr) (fd : FuncData) : Prop where
  ex : ∃ (oc : Value) (od : Option Addr) (kV doc pm : Value) (an : Option Addr) (cdv ct : Value) (osl : Array (Option Value)),
    fd = PySem.W.fnOf x qual (XM st) (XC st) (Xh st) .none kV doc pm an cdv ct /\ K.lookup f = some ⟨oc, od, .func fd, osl⟩ /\ PySem.W.codeIn K cdv qual = true
  kp : PySem.W.keepIn K (.ref f) = true
section
variable {P : Program} {w : World} {K : PySem.W.Frag} {mg : Str -> Option Value} {base : Heap}
theorem Fun.ok {x qual : Str} {st : Stmt} {f : Addr} {fd : FuncData} {N ps : List Str} {k : Nat} {sp : Sp} (F : Fun K x qual st f fd) (S : FnScope N ps (Xh st)) (len : ∀ vs H Q E, sp vs H Q E -> vs.length = ps.length)
    (hbody : ∀ (cdv : Value) (A : Around) (outer : List Env) (s : Shared) (H : Hp) (vs : List V) (Q : VK) (E : XK), Room k (A.deeper (envOfC qual (Xh st) s.heap.objs.size f cdv)) -> sp vs H Q E ->
      ∃ t, PSs (Fc CX0 P w K mg base N qual (Xh st) f cdv A outer s H E).nox (XC st) t /\ t { nx:=fun _ H'=>Q .non H', rt:=Q } (Vj N vs) H) : FnOk P w K mg base CX0 (k + 1) f fd ps sp:=by
  obtain ⟨oc, od, kV, doc, pm, an, cdv, ct, osl, rfl, lk, hcd⟩:=F.ex
  refine HC lk hcd S len fun A outer s H vs Q E hr hsp=>?_
  obtain ⟨t, h, q⟩:=hbody cdv A outer s H vs Q E hr hsp
  exact ⟨t, h.nox, q⟩
theorem Fun.binds {x qual : Str} {st : Stmt} {f : Addr} {fd : FuncData} {ps : List Str} (F : Fun K x qual st f fd)
    (h : ∀ (kV doc pm : Value) (an : Option Addr) (cdv ct : Value) (us : List Value), us.length = ps.length -> bindArgs (PySem.W.fnOf x qual (XM st) (XC st) (Xh st) .none kV doc pm an cdv ct) ⟨us, []⟩ = pure (ps.zip us)) : Ka K fd ps []:=by
  obtain ⟨oc, od, kV, doc, pm, an, cdv, ct, osl, rfl, lk, hcd⟩:=F.ex
  exact .all (h kV doc pm an cdv ct)
theorem Xx {x qual : Str} {st : Stmt} {f : Addr} {oc : Value} {od an : Option Addr} {osl : Array (Option Value)} {kV doc pm cdv ct : Value} (l : K.lookup f = some ⟨oc, od, .func (PySem.W.fnOf x qual (XM st) (XC st) (Xh st) .none kV doc pm an cdv ct), osl⟩)
    (c : PySem.W.codeIn K cdv qual = true) (k : PySem.W.keepIn K (.ref f) = true) : Fun K x qual st f (PySem.W.fnOf x qual (XM st) (XC st) (Xh st) .none kV doc pm an cdv ct):=⟨⟨oc, od, kV, doc, pm, an, cdv, ct, osl, rfl, l, c⟩, k⟩
end
theorem Y1 {A : Around} {k : Nat} (hr : Room k A) : A.units + 1 < cLine:=Nat.lt_of_le_of_lt (Nat.add_le_add_left (by decide : 1 <= 64) _) hr.units
theorem DO {n : Nat} (h : n <= 1000) : n < sizeLine:=Nat.lt_of_le_of_lt h (by decide)
section
variable {X : Cx}
theorem pv (i : Nat) {x : Str} {pos : Pos} (hN : X.N[i]? = some x:=by rfl) (hv : Vis X.env.scope x:=by first | exact Or.inl rfl | exact Or.inr (Or.inl rfl) | exact Or.inr (Or.inr rfl)) (hd : (x == ("__debug__" : Str)) = false:=by decide)
    (hcd : (x == ("__classdict__" : Str)) = false:=by decide) : PE X (.Name x pos) (Kv i):=Iv hN hv hd hcd
end
noncomputable def Xo (H H' : Hp) : Prop:=∀ b o, H b = some o -> H' b = some o
theorem Xo.refl (H : Hp) : Xo H H:=fun _ _ h=>h
theorem Xo.trans {H H1 H2 : Hp} (a : Xo H H1) (b : Xo H1 H2) : Xo H H2:=fun c o h=>b c o (a c o h)
theorem Xo.free {H H' : Hp} (e : Xo H H') {l : Addr} (h : H' l = Option.none) : H l = Option.none:=by
  cases q : H l with
  | none=>rfl
  | some o=>
    rw [e l o q] at h
    cases h
theorem Xo.seq {K : PySem.W.Frag} {H H' : Hp} {a : Addr} {xs : List V} (e : Xo H H') (h : SqL K H a xs) : SqL K H' a xs:=by
  rcases h with (h | ⟨o, h⟩) | h
  . exact .inl (.inl (e _ _ h))
  . exact .inl (.inr ⟨o, e _ _ h⟩)
  . exact .inr h
end L2
namespace L2
open PySem PySem.Spec PyProof.Rows
section
variable {κ : Type} [DecidableEq κ]
noncomputable def Kr (kvs : List (κ × V)) (k : κ) : Option V:=(kvs.find? fun kv=>decide (kv.1 = k)).map (·.2)
noncomputable def KI (kvs : List (κ × V)) (k : κ) (v : V) : List (κ × V):=
  if (kvs.any fun kv=>decide (kv.1 = k)) = true then kvs.map (fun kv=>if kv.1 = k then (kv.1, v) else kv) else kvs ++ [(k, v)]
noncomputable def HU (kvs : List (κ × V)) (k : κ) : List (κ × V):=kvs.filter fun kv=>decide (kv.1 ≠ k)
theorem Jl {p : κ × V} {r : List (κ × V)} {k : κ} (e : p.1 = k) : Kr (p :: r) k = some p.2:=by simp [Kr, List.find?_cons, e]
theorem Jk {p : κ × V} {r : List (κ × V)} {k : κ} (e : ¬ p.1 = k) : Kr (p :: r) k = Kr r k:=by simp [Kr, List.find?_cons, e]
theorem Gv (k : κ) : ∀ kvs : List (κ × V), (kvs.any fun kv=>decide (kv.1 = k)) = (Kr kvs k).isSome
  | []=>rfl
  | p :: r=>by
    rw [List.any_cons]
    by_cases e : p.1 = k
    . simp only [Jl e, decide_eq_true e, Bool.true_or, Option.isSome_some]
    . rw [Jk e, decide_eq_false e, Bool.false_or]; exact Gv k r
theorem Fa.isSome_eq {o : Option V} {u : Option Value} (r : Fa o u) : o.isSome = u.isSome:=by
  cases o with
  | none=>cases u with
    | none=>rfl
    | some _=>exact (show False from r).elim
  | some _=>cases u with
    | none=>exact (show False from r).elim
    | some _=>rfl
theorem Fa.getD {o : Option V} {u : Option Value} {d : V} {d' : Value} (r : Fa o u) (rd : X9 d d') : X9 (o.getD d) (u.getD d'):=by
  cases o with
  | none=>cases u with
    | none=>exact rd
    | some _=>exact (show False from r).elim
  | some _=>cases u with
    | none=>exact (show False from r).elim
    | some _=>exact r
theorem KV.val {kvs : List (κ × V)} {vs : List (κ × Value)} (r : KV kvs vs) (k : κ) : Fa (Kr kvs k) (valueAt vs k):=by
  unfold KV at r
  induction r with
  | nil=>exact True.intro
  | @cons p q ps qs h t ih=>
    obtain ⟨h1, h2⟩:=h
    by_cases e : p.1 = k
    . have e' : q.1 = k := h1.symm.trans e
      have b : valueAt (q :: qs) k = some q.2:=by simp [valueAt, List.find?_cons, e']
      rw [Jl e, b]; exact h2
    . have e' : ¬ q.1 = k := fun z => e (h1.trans z)
      have b : valueAt (q :: qs) k = valueAt qs k:=by simp [valueAt, List.find?_cons, e']
      rw [Jk e, b]; exact ih
theorem KV.any {kvs : List (κ × V)} {vs : List (κ × Value)} (r : KV kvs vs) (k : κ) : (kvs.any fun kv=>decide (kv.1 = k)) = vs.any fun kv=>decide (kv.1 = k):=by
  unfold KV at r
  induction r with
  | nil=>rfl
  | cons h t ih=>rw [List.any_cons, List.any_cons, ih, h.1]
theorem KV.repl {kvs : List (κ × V)} {vs : List (κ × Value)} (r : KV kvs vs) (k : κ) {y : V} {u : Value} (ry : X9 y u) :
    KV (kvs.map fun kv=>if kv.1 = k then (kv.1, y) else kv) (vs.map fun kv=>if kv.1 = k then (kv.1, u) else kv):=by
  unfold KV at r ⊢
  induction r with
  | nil=>exact .nil
  | @cons p q ps qs h t ih=>
    rw [List.map_cons, List.map_cons]
    refine .cons ?_ ih
    obtain ⟨h1, h2⟩:=h
    by_cases e : p.1 = k
    . rw [if_pos e, if_pos (h1.symm.trans e)]; exact ⟨h1, ry⟩
    . rw [if_neg e, if_neg (fun z=>e (h1.trans z))]; exact ⟨h1, h2⟩
theorem KV.put {kvs : List (κ × V)} {vs : List (κ × Value)} (r : KV kvs vs) (k : κ) {y : V} {u : Value} (ry : X9 y u) : KV (KI kvs k y) (stored vs k u):=by
  unfold KI stored
  rw [r.any k]
  by_cases e : (vs.any fun kv=>decide (kv.1 = k)) = true
  . rw [if_pos e, if_pos e]; exact r.repl k ry
  . rw [if_neg e, if_neg e]; exact Paired.snoc r ⟨rfl, ry⟩
theorem KV.drop {kvs : List (κ × V)} {vs : List (κ × Value)} (r : KV kvs vs) (k : κ) : KV (HU kvs k) (without vs k):=by
  unfold KV at r ⊢
  unfold HU without
  induction r with
  | nil=>exact .nil
  | @cons p q ps qs h t ih=>
    obtain ⟨h1, h2⟩:=h
    rw [List.filter_cons, List.filter_cons]
    by_cases e : p.1 = k
    . have a : ¬ decide (p.1 ≠ k) = true := by simp [e]
      have b : ¬ decide (q.1 ≠ k) = true:=by simp [h1.symm.trans e]
      rw [if_neg a, if_neg b]; exact ih
    . have e' : ¬ q.1 = k := fun z => e (h1.trans z)
      have a : decide (p.1 ≠ k) = true:=by simp [e]
      have b : decide (q.1 ≠ k) = true:=by simp [e']
      rw [if_pos a, if_pos b]; exact .cons ⟨h1, h2⟩ ih
theorem KV.keys {kvs : List (κ × V)} {vs : List (κ × Value)} (r : KV kvs vs) : kvs.map (·.1) = vs.map (·.1):=by
  unfold KV at r
  induction r with
  | nil=>rfl
  | cons h t ih=>rw [List.map_cons, List.map_cons, ih, h.1]
theorem KV.length {kvs : List (κ × V)} {vs : List (κ × Value)} (r : KV kvs vs) : kvs.length = vs.length:=Paired.length r
end
theorem Cq {P : Program} {w : World} {k : Key} {u : Value} (r : X9 (kV k) u) : (Yz P w).is k u = true:=by
  cases k with
  | inl i=>obtain ⟨t, e⟩:=(show ∃ t, u = Value.int i t from r); subst e; exact KP P w i t
  | inr x=>obtain ⟨t, e⟩:=(show ∃ t, u = Value.str x t from r); subst e; exact KS P w x t
theorem U7 {P : Program} {w : World} : ∀ {ks : List Key} {us : List Value}, XX (ks.map kV) us -> ItemsAre (Yz P w) ks us
  | [], _, r=>by rw [List.map_nil] at r; cases r; exact .nil
  | k :: ks, _, r=>by
    rw [List.map_cons] at r
    cases r with
    | cons h t=>exact .cons (Cq h) (U7 t)
noncomputable abbrev KT (H : Hp) : List (List Key × V) -> List (List Key × Addr × Value) -> Prop:=Paired fun p q=>p.1 = q.1 /\ H q.2.1 = some (.tup (p.1.map kV)) /\ X9 p.2 q.2.2
theorem KT.val {H : Hp} {kvs : List (List Key × V)} {xs : List (List Key × Addr × Value)} (r : KT H kvs xs) (k : List Key) : Fa (Kr kvs k) ((atKey xs k).map (·.2)):=by
  induction r with
  | nil=>exact True.intro
  | @cons p q ps qs h t ih=>
    obtain ⟨h1, _, h2⟩:=h
    by_cases e : p.1 = k
    . have e' : q.1 = k := h1.symm.trans e
      have b : atKey (q :: qs) k = some q.2:=by simp [atKey, List.find?_cons, e']
      rw [Jl e, b]; exact h2
    . have e' : ¬ q.1 = k := fun z => e (h1.trans z)
      have b : atKey (q :: qs) k = atKey qs k:=by simp [atKey, List.find?_cons, e']
      rw [Jk e, b]; exact ih
theorem KT.repl {H : Hp} {kvs : List (List Key × V)} {xs : List (List Key × Addr × Value)} (r : KT H kvs xs) (k : List Key) {y : V} {u : Value} (ry : X9 y u) :
    KT H (kvs.map fun kv=>if kv.1 = k then (kv.1, y) else kv) (xs.map (putAt k u)):=by
  induction r with
  | nil=>exact .nil
  | @cons p q ps qs h t ih=>
    rw [List.map_cons, List.map_cons]
    refine .cons ?_ ih
    obtain ⟨h1, h2, h3⟩:=h
    unfold putAt
    by_cases e : p.1 = k
    . rw [if_pos e, if_pos (h1.symm.trans e)]; exact ⟨h1, h2, ry⟩
    . rw [if_neg e, if_neg (fun z=>e (h1.trans z))]; exact ⟨h1, h2, h3⟩
theorem KT.put {H : Hp} {kvs : List (List Key × V)} {xs : List (List Key × Addr × Value)} (r : KT H kvs xs) (k : List Key) {b : Addr} {y : V} {u : Value} (hb : H b = some (.tup (k.map kV))) (ry : X9 y u) :
    KT H (KI kvs k y) (storedH xs k b u):=by
  have e : (kvs.any fun kv=>decide (kv.1 = k)) = (atKey xs k).isSome:=by
    rw [Gv, (r.val k).isSome_eq, Option.isSome_map]
  unfold KI storedH
  rw [e]
  by_cases q : (atKey xs k).isSome = true
  . rw [if_pos q, if_pos q]; exact r.repl k ry
  . rw [if_neg q, if_neg q]; exact Paired.snoc r ⟨rfl, hb, ry⟩
theorem KT.keeps {H H' : Hp} {kvs : List (List Key × V)} {xs : List (List Key × Addr × Value)} (r : KT H kvs xs) (ht : ∀ b ys, H b = some (.tup ys) -> H' b = some (.tup ys)) : KT H' kvs xs:=
  Paired.mapP r fun _ _ z=>⟨z.1, ht _ _ z.2.1, z.2.2⟩
section
variable {P : Program} {w : World} {H : Hp} {h : Heap} {a : Addr}
theorem Hw {u : HO} (ok : HOk P w H h) (e : Rd H a u) : Yi P w H h a u:=e.ok ok
theorem EE {kvs : List (Key × V)} (ok : HOk P w H h) (e : Rd H a (.dK kvs)) : kvs.length <= sizeLine /\ (a == sysModules) = false /\ ∃ vs, KV kvs vs /\ h.DictOf (Yz P w) a vs:=
  show Yi P w H h a (.dK kvs) from Hw ok e
theorem Fk {ks : List Key} (ok : HOk P w H h) (e : H a = some (.tup (ks.map kV))) : (tupleKind (Yz P w)).is h ks a:=by
  obtain ⟨_, its, r, o, h1, h2, n, h3⟩:=(show Yi P w H h a (.tup (ks.map kV)) from ok a _ e)
  exact ⟨o, its.toArray, n, h1, h2, h3, by simpa using U7 r⟩
theorem He {kvs : List (List Key × V)} (ok : HOk P w H h) (e : Rd H a (.dT kvs)) : kvs.length <= sizeLine /\ (a == sysModules) = false /\
    ∃ xs, KT H kvs xs /\ h.DictOfH (tupleKind (Yz P w)) a xs:=by
  obtain ⟨z, y, xs, r, o, es, ep, h1, h2, h3, h4, h5⟩:=(show Yi P w H h a (.dT kvs) from Hw ok e)
  refine ⟨z, y, xs, r, o, es, ep, h1, h2, h3, h4, fun x hx=>?_, h5⟩
  have all : ∀ {l : List (List Key × V)} {m : List (List Key × Addr × Value)}, KT H l m -> ∀ x ∈ m, (tupleKind (Yz P w)).is h x.1 x.2.1:=by
    intro l m q
    induction q with
    | nil=>intro x hx; exact nomatch hx
    | @cons p q ps qs hq t ih=>
      intro x hx
      rcases List.mem_cons.mp hx with e | hx
      . subst e
        exact Fk ok (by rw [← hq.1]; exact hq.2.1)
      . exact ih x hx
  exact all r x hx
end
noncomputable def CA (H : Hp) (a : Addr) (y : V) (r : Option V) : Prop:=
  (∃ kvs k, Rd H a (.dK kvs) /\ y = kV k /\ r = Kr kvs k) ∨ ∃ kvs k b, Rd H a (.dT kvs) /\ y = .ref b /\ H b = some (.tup (k.map kV)) /\ r = Kr kvs k
noncomputable def IN (H : Hp) (a : Addr) (y v : V) (H' : Hp) : Prop:=
  (∃ kvs k, H a = some (.dK kvs) /\ y = kV k /\ kvs.length < sizeLine /\ H' = upd H a (.dK (KI kvs k v))) ∨
  ∃ kvs k b, H a = some (.dT kvs) /\ y = .ref b /\ H b = some (.tup (k.map kV)) /\ kvs.length < sizeLine /\ H' = upd H a (.dT (KI kvs k v))
theorem CA.k {H : Hp} {a : Addr} {kvs : List (Key × V)} {k : Key} (e : H a = some (.dK kvs)) : CA H a (kV k) (Kr kvs k):=.inl ⟨kvs, k, .inl e, rfl, rfl⟩
theorem CA.t {H : Hp} {a b : Addr} {kvs : List (List Key × V)} {k : List Key} (e : H a = some (.dT kvs)) (eb : H b = some (.tup (k.map kV))) : CA H a (.ref b) (Kr kvs k):=.inr ⟨kvs, k, b, .inl e, rfl, eb, rfl⟩
theorem IN.k {H : Hp} {a : Addr} {kvs : List (Key × V)} {k : Key} {v : V} (e : H a = some (.dK kvs)) (hl : kvs.length < sizeLine) : IN H a (kV k) v (upd H a (.dK (KI kvs k v))):=.inl ⟨kvs, k, e, rfl, hl, rfl⟩
theorem IN.t {H : Hp} {a b : Addr} {kvs : List (List Key × V)} {k : List Key} {v : V} (e : H a = some (.dT kvs)) (eb : H b = some (.tup (k.map kV))) (hl : kvs.length < sizeLine) :
    IN H a (.ref b) v (upd H a (.dT (KI kvs k v))):=.inr ⟨kvs, k, b, e, rfl, eb, hl, rfl⟩
section
variable {X : Cx} {pins : List (Addr × Obj)} {σ : St} {H : Hp} {s : Shared} {a : Addr} {y v : V} {u r : Value} {o : Option V} {A : Around} {E : Value -> Shared -> Prop}
theorem Inv.big (I : Inv X pins σ H s) : sysModules < s.heap.objs.size:=by
  have h : mainGlobals < s.heap.objs.size:=(I.mod.glob.keeps I.bk).lt
  exact Nat.lt_trans (by decide) h
theorem FW {Q : Value -> Shared -> Prop} (hu : A.units + 1 < cLine) (I : Inv X pins σ H s) (g : CA H a y (some v)) (ry : X9 y u) (h : ∀ w' s', Inv X pins σ H s' -> X9 v w' -> Q w' s') :
    wpAny (model X.prog X.w) A (getItem (.ref a) u) Q E s:=by
  rcases g with ⟨kvs, k, e, ey, l⟩ | ⟨kvs, k, b, e, ey, eb, l⟩
  . subst ey
    obtain ⟨z, hd, vs, rel, dd⟩:=EE I.hok e
    obtain ⟨w', hw, rw'⟩:=Fa.some_of (v:=v) (o:=valueAt vs k) (by rw [l]; exact rel.val k)
    exact wpAny_getItem_of (Cq ry) dd.mapOf hw (h w' _ (I.tok _) rw')
  . subst ey
    cases (show u = Value.ref b from ry)
    obtain ⟨z, hd, xs, rel, dd⟩:=He I.hok e
    obtain ⟨w', hw, rw'⟩:=Fa.some_of (v:=v) (o:=(atKey xs k).map (·.2)) (by rw [l]; exact rel.val k)
    obtain ⟨p, hp, hp2⟩:=Option.map_eq_some_iff.mp hw
    refine wpAny_getItem_heap (tupleKind_room_in1 hu) (Fk I.hok eb) dd hp ?_
    rw [hp2]
    exact h w' _ (I.tok _) rw'
theorem EC {Q : Value -> Shared -> Prop} (hu : A.units + 1 < cLine) (I : Inv X pins σ H s) (g : CA H a y o) (ry : X9 y u) (h : ∀ s', Inv X pins σ H s' -> Q (.bool (!o.isSome)) s') :
    wpAny (model X.prog X.w) A (compareOp .NotIn u (.ref a)) Q E s:=by
  rcases g with ⟨kvs, k, e, ey, l⟩ | ⟨kvs, k, b, e, ey, eb, l⟩
  . subst ey
    obtain ⟨z, hd, vs, rel, dd⟩:=EE I.hok e
    refine wpAny_notIn_of (Cq ry) hd dd.mapOf ?_
    rw [← (rel.val k).isSome_eq, ← l]
    exact h _ (I.tok _)
  . subst ey
    cases (show u = Value.ref b from ry)
    obtain ⟨z, hd, xs, rel, dd⟩:=He I.hok e
    refine wpAny_notIn_heap (tupleKind_room_in1 hu) (Fk I.hok eb) hd dd ?_
    have q:=(rel.val k).isSome_eq
    rw [Option.isSome_map] at q
    rw [← q, ← l]
    exact h _ (I.tok _)
end
section
variable {X : Cx} {pins : List (Addr × Obj)} {σ : St} {H : Hp} {s : Shared} {a : Addr} {kvs : List (Key × V)} {k : Key} {u : Value} {A : Around} {E : Value -> Shared -> Prop}
end
noncomputable def LP (i : Expr) : Prop:=∀ ov iv, subscripted i false ov iv = operate [ov, iv] (getItem ov iv)
theorem Ha {prog : Program} {w : World} {A : Around} {E : Value -> Shared -> Prop} {s : Shared} {env : Env} {value slice : Expr} {pos : Pos} {T id : String} {Q : Value -> Shared -> Prop}
    (hl : typeLookup (.type T) "__getitem__" = pure (some (.builtin id))) (hs : LP slice)
    (h : wpAny (model prog w) A (eval value env) (fun o s₁=>wpAny (model prog w) A (eval slice env) (fun i s₂=>s₂.TypeIs o T /\ wpAny (model prog w) A (getItem o i) Q E s₂) E s₁) E s) :
    wpAny (model prog w) A (eval (.Subscript value slice pos) env) Q E s:=by
  refine Subscript_ (wpAny_mono h (fun o s₁ h₁=>wpAny_mono h₁ (fun i s₂ h₂=>?_) fun _ _ x=>x) fun _ _ x=>x)
  obtain ⟨hT, h₂⟩:=h₂
  unfold subscriptTail
  refine wpAny_bind ?_
  rw [getitemInPython_of_ne hT.not_modules]
  refine wpAny_bind (wpAny_specialOf hT hl ?_)
  have fin : wpAny (model prog w) A (subscripted slice false o i) (fun r s₃=>wpAny (model prog w) A (letTemporaryGo value o r >>= fun _=>pure r) Q E s₃) E s₂:=by
    rw [hs o i]
    exact wpAny_operating (wpAny_mono h₂ (fun r s₃ h₃=>wpAny_bind (wpAny_letTemporaryGo (wpAny_pure h₃))) fun _ _ x=>x)
  first
    | exact wpAny_pure (wpAny_bind fin)
    | exact wpAny_bind (wpAny_pure (wpAny_bind fin))
    | exact wpAny_bind fin
theorem Kw {X : Cx} {pins : List (Addr × Obj)} {σ : St} {H : Hp} {s : Shared} {a : Addr} {y : V} {o : Option V} (I : Inv X pins σ H s) (g : CA H a y o) : s.TypeIs (.ref a) "dict":=by
  rcases g with ⟨kvs, k, e, _, _⟩ | ⟨kvs, k, b, e, _, _, _⟩
  . obtain ⟨_, _, vs, _, dd⟩ := EE I.hok e
    exact dd.typeIs
  . obtain ⟨_, _, xs, _, dd⟩ := He I.hok e
    exact dd.typeIs
noncomputable def HS (td ty : TE) : TE:=fun σ H Q=>td σ H fun x H1=>ty σ H1 fun y H2=>∃ a v, x = .ref a /\ CA H2 a y (some v) /\ Q v H2
noncomputable def DK (ty td : TE) : TE:=fun σ H Q=>ty σ H fun y H1=>td σ H1 fun x H2=>∃ a o, x = .ref a /\ CA H2 a y o /\ Q (.bl (!o.isSome)) H2
section
variable {X : Cx} {o i e value : Expr} {pos pos' tpos : Pos} {td ty tv : TE}
theorem E8 (hu : X.A.units + 1 < cLine) (ho : PE X o td) (hi : PE X i ty) (hs : LP i) : PE X (.Subscript o i pos) (HS td ty):=by
  intro pins s σ H Q I h
  refine Ha PySem.F.slot_dict_getitem.lookup hs (thn (ho pins s σ H _ I h) fun u s1 ⟨x, H1, I1, rx, q1⟩=>thn (hi pins s1 σ H1 _ I1 q1) fun iv s2 ⟨y, H2, I2, ry, a, v, ex, g, q2⟩=>?_)
  subst ex
  obtain rfl : u = Value.ref a:=rx
  exact ⟨Kw I2 g, FW hu I2 g ry fun w' s3 I3 rw'=>⟨v, H2, I3, rw', q2⟩⟩
theorem DZ (hu : X.A.units + 1 < cLine) (hi : PE X i ty) (ho : PE X o td) : PC X .NotIn i o (DK ty td):=by
  intro pins s σ H Q I h
  refine thn (hi pins s σ H _ I h) fun iv s1 ⟨y, H1, I1, ry, q1⟩=>thn (ho pins s1 σ H1 _ I1 q1) fun u s2 ⟨x, H2, I2, rx, a, ov, ex, g, q2⟩=>?_
  subst ex
  obtain rfl : u = Value.ref a:=rx
  exact EC hu I2 g ry fun s3 I3=>⟨.bl (!ov.isSome), H2, I3, rfl, q2⟩
end
section
variable {X : Cx} {pos : Pos}
end
section
variable {X : Cx} {pins : List (Addr × Obj)} {σ : St} {H : Hp} {s : Shared} {a : Addr} {y d : V} {u r : Value} {o : Option V} {A : Around} {E : Value -> Shared -> Prop}
end
section
variable {X : Cx} {o e f : Expr} {apos cpos : Pos} {td ty tx : TE}
end
section
variable {X : Cx} {pins : List (Addr × Obj)} {σ : St} {H : Hp} {s : Shared} {a : Addr} {kvs : List (Key × V)} {A : Around} {E : Value -> Shared -> Prop}
end
section
variable {X : Cx} {pins : List (Addr × Obj)} {σ : St} {H : Hp} {s : Shared} {a : Addr} {y : V} {u : Value} {A : Around} {E : Value -> Shared -> Prop}
end
end L2
namespace L2
open PySem PySem.Spec PyProof.Rows
section
variable {X : Cx}
end
section
variable {κ : Type} [DecidableEq κ]
end
end L2
namespace L2
open PySem PySem.Spec PyProof.Rows
theorem DU {env : Env} : ∀ (names : List (Str × NameKind)), (∀ x ∈ names, x.2 = NameKind.free -> ∃ c, env.cells.lookup x.1 = some c) ->
    ∀ cs : List (Str × Addr), (∀ x c, cs.lookup x = some c -> env.cells.lookup x = some c) ->
    ∃ cl : List (Str × Addr), (forIn names cs (fun (x : Str × NameKind) (r : List (Str × Addr))=>(if (x.2 == NameKind.free) = true then do let a ← cellOf env x.1; pure (ForInStep.yield ((x.1, a) :: r)) else pure (ForInStep.yield r) : Sem (ForInStep (List (Str × Addr)))))) = (pure cl : Sem (List (Str × Addr))) /\
      (∀ x c, cl.lookup x = some c -> env.cells.lookup x = some c) /\ (∀ x, ((x, NameKind.free) ∈ names ∨ ∃ c, cs.lookup x = some c) -> ∃ c, cl.lookup x = some c)
  | [], _, cs, hs=>⟨cs, by rw [List.forIn_nil], hs, fun x h=>h.elim (fun z=>nomatch z) id⟩
  | (n, k) :: r, hf, cs, hs=>by
    have hr : ∀ x ∈ r, x.2 = NameKind.free -> ∃ c, env.cells.lookup x.1 = some c:=fun x hx=>hf x (List.mem_cons_of_mem _ hx)
    by_cases hk : k = NameKind.free
    . subst hk
      obtain ⟨a, ha⟩:=hf (n, NameKind.free) List.mem_cons_self rfl
      have hs' : ∀ x c, ((n, a) :: cs).lookup x = some c -> env.cells.lookup x = some c:=fun x c h=>by
        rw [List.lookup_cons] at h
        by_cases hx : x = n
        . subst hx
          simp only [beq_self_eq_true] at h
          rw [← h]; exact ha
        . have : (x == n) = false := beq_eq_false_iff_ne.mpr hx
          rw [this] at h
          exact hs x c h
      obtain ⟨cl, e, h1, h2⟩:=DU r hr ((n, a) :: cs) hs'
      refine ⟨cl, ?_, h1, fun x h=>h2 x ?_⟩
      . rw [List.forIn_cons]
        have e1 : cellOf env n = pure a:=by unfold cellOf; rw [show env.cells.lookup n = some a from ha]
        simp only [beq_self_eq_true, if_true, e1]
        exact e
      . rcases h with h | ⟨c, h⟩
        . rcases List.mem_cons.mp h with h | h
          . have : x = n := congrArg Prod.fst h
            subst this
            exact .inr ⟨a, by rw [List.lookup_cons]; simp⟩
          . exact .inl h
        . by_cases hx : x = n
          . subst hx; exact .inr ⟨a, by rw [List.lookup_cons]; simp⟩
          . exact .inr ⟨c, by rw [List.lookup_cons, beq_eq_false_iff_ne.mpr hx]; exact h⟩
    . obtain ⟨cl, e, h1, h2⟩ := DU r hr cs hs
      refine ⟨cl, ?_, h1, fun x h=>h2 x ?_⟩
      . rw [List.forIn_cons]
        have hb : (k == NameKind.free) = false:=by simpa using hk
        simp only [hb, Bool.false_eq_true, if_false]
        exact e
      . rcases h with h | h
        . rcases List.mem_cons.mp h with h | h
          . exact absurd (congrArg Prod.snd h).symm hk
          . exact .inl h
        . exact .inr h
theorem KW {scope : Scope} {env : Env} (hf : ∀ x ∈ scope.names, x.2 = NameKind.free -> ∃ c, env.cells.lookup x.1 = some c) :
    ∃ cl : List (Str × Addr), closureFor scope env = pure cl /\ (∀ x c, cl.lookup x = some c -> env.cells.lookup x = some c) /\ (∀ x, (x, NameKind.free) ∈ scope.names -> ∃ c, cl.lookup x = some c):=by
  obtain ⟨cl, e, h1, h2⟩:=DU scope.names hf [] (fun x c h=>by simp at h)
  refine ⟨cl, ?_, h1, fun x h=>h2 x (.inl h)⟩
  unfold closureFor
  show ((forIn scope.names [] (fun (x : Str × NameKind) (r : List (Str × Addr))=>(if (x.2 == NameKind.free) = true then do let a ← cellOf env x.1; pure (ForInStep.yield ((x.1, a) :: r)) else pure (ForInStep.yield r) : Sem (ForInStep (List (Str × Addr)))))) >>= fun s=>pure s) = pure cl
  rw [e]
  rfl
theorem Qh {env : Env} : ∀ {names : List (Str × NameKind)} {x : Str} {k : NameKind}, (∀ y ∈ names, y.2 ≠ NameKind.cell) ->
    (names.map fun (n, k)=>if (k == NameKind.free && env.scope.kind == .function && env.kindOf n == some .cell) then (n, NameKind.cell) else (n, k)).lookup x = some k -> (k = .cell ∨ k = .free) -> (x, NameKind.free) ∈ names
  | [], _, _, _, h, _=>by simp at h
  | (n, kk) :: r, x, k, hc, h, hk=>by
    have ih:=@Qh env r x k (fun y hy=>hc y (List.mem_cons_of_mem _ hy))
    have hh:=hc (n, kk) List.mem_cons_self
    simp only [List.map_cons] at h
    by_cases hcond : (kk == NameKind.free && env.scope.kind == .function && env.kindOf n == some .cell) = true
    . rw [if_pos hcond, List.lookup_cons] at h
      have hfree : kk = NameKind.free:=by
        rw [Bool.and_eq_true, Bool.and_eq_true] at hcond
        simpa using hcond.1.1
      cases hx : x == n with
      | true=>
        have : x = n:=by simpa using hx
        subst this; subst hfree
        exact List.mem_cons_self
      | false=>rw [hx] at h; exact List.mem_cons_of_mem _ (ih h hk)
    . rw [if_neg hcond, List.lookup_cons] at h
      cases hx : x == n with
      | true=>
        rw [hx] at h
        have hkk : kk = k:=Option.some.inj h
        have : x = n:=by simpa using hx
        subst this; subst hkk
        rcases hk with z | z
        . exact absurd z hh
        . subst z; exact List.mem_cons_self
      | false=>rw [hx] at h; exact List.mem_cons_of_mem _ (ih h hk)
theorem ZT {env : Env} : ∀ {names : List (Str × NameKind)} {x : Str}, names.lookup x = some .free ->
    let l:=(names.map fun (n, k)=>if (k == NameKind.free && env.scope.kind == .function && env.kindOf n == some .cell) then (n, NameKind.cell) else (n, k))
    l.lookup x = some .cell ∨ l.lookup x = some .free
  | [], _, h=>by simp at h
  | (n, kk) :: r, x, h=>by
    have ih:=@ZT env r x
    simp only [List.map_cons]
    rw [List.lookup_cons] at h
    by_cases hcond : (kk == NameKind.free && env.scope.kind == .function && env.kindOf n == some .cell) = true
    . rw [if_pos hcond, List.lookup_cons]
      cases hx : x == n with
      | true=>exact .inl rfl
      | false=>rw [hx] at h; exact ih h
    . rw [if_neg hcond, List.lookup_cons]
      cases hx : x == n with
      | true=>rw [hx] at h; exact .inr h
      | false=>rw [hx] at h; exact ih h
noncomputable abbrev Cx.comp (X : Cx) (N : List Str) (scope : Scope) (cl : List (Str × Addr)) (C : Addr) (s : Shared) (H : Hp) (ex : List Addr) (E : Value -> Shared -> Prop) : Cx:=
  { X with N:=N, s₀:=s, H₀:=H, env:=compEnvC scope cl C X.env, outer:=X.stack, ex:=ex, fn:=fun _=>false, pn:=[], xe:=E }
noncomputable def PTs (X : Cx) (ifs : List Expr) (t : TT) : Prop:=
  ∀ (pins : List (Addr × Obj)) (s : Shared) (σ : St) (H : Hp) (Q : Bool -> Hp -> Prop), Inv X pins σ H s -> t σ H Q ->
    wpAny (model X.prog X.w) X.A (forIn ifs true fun c r=>if r = true then do let ok ← isTrue c X.env (eval c X.env); pure (ForInStep.yield ok) else pure (ForInStep.yield r)) (TP X pins σ Q) X.xe s
noncomputable def V4 : TT:=fun _ H Q=>Q true H
theorem Ih {σ : St} {H : Hp} {A B : Hp -> Prop} (h : A H) : V4 σ H fun c H5=>if c = true then A H5 else B H5:=by
  show if true = true then A H else B H
  rw [if_pos rfl]
  exact h
theorem Za {X : Cx} : PTs X [] V4:=fun _ _ _ H _ I h=>wpAny_tests_nil ⟨H, I, h⟩
theorem V2 {X : Cx} {c : Expr} {t : TT} (h : PT X c t) : PTs X [c] t:=fun pins s σ H Q I hw=>wpAny_tests_one (h pins s σ H Q I hw)
noncomputable def Q5 (n : Nat) (g : TG) : Prop:=∀ x σ H Q, g x σ H Q -> g x σ H fun σ2 H2=>Q σ2 H2 /\ σ2.length = σ.length /\ ∀ i, n <= i -> σ2[i]? = σ[i]?
theorem YF {n i : Nat} (h : i < n) : Q5 n (Qv i):=fun x σ H Q q=>⟨q, by simp, fun j hj=>by rw [List.getElem?_set_ne (by lia)]⟩
theorem FI {K : PySem.W.Frag} {n i j : Nat} (hi : i < n) (hj : j < n) : Q5 n (IP K 2 (Ff (Qv i) (Ff (Qv j) Lu))):=fun x σ H Q q=>by
  obtain ⟨a, xs, e1, hq, hl, v, r, e2, w, r2, e3, e4, q⟩:=q
  exact ⟨a, xs, e1, hq, hl, v, r, e2, w, r2, e3, e4, q, by simp, fun k hk=>by rw [List.getElem?_set_ne (by lia), List.getElem?_set_ne (by lia)]⟩
noncomputable def YQ (n : Nat) (caps : List (Nat × Str)) (σ : St) : St:=List.replicate n none ++ caps.map fun p=>(σ[p.1]?).join
noncomputable def Bo (g : TG) (tt : TT) (te : TE) (σ : St) (Q : VK) (J : It) (W : Nat -> Nat -> List V -> Hp -> Prop) : Prop:=
  ∀ i m ys H2, W i m ys H2 -> ys.length <= sizeLine /\
    ((J.stop i H2 /\ ∀ p, H2 p = none -> Q (.ref p) (upd H2 p (.lst ys))) ∨
    (J.go i H2 /\ ∃ N : List V -> Hp -> Prop, (∀ ys' H', N ys' H' -> ∃ m', m' < m /\ W (i + 1) m' ys' H') /\ ∀ x H3, J.yld i H2 x H3 -> g x σ H3 fun σ4 H4=>tt σ4 H4 fun c H5=>
      if c = true then te σ4 H5 fun v H6=>N (ys ++ [v]) H6 else N ys H5))
noncomputable def BV (n : Nat) (caps : List (Nat × Str)) (g : TG) (tt : TT) (te : TE) (σ : St) (Q : VK) (J : It) (H1 : Hp) : Prop:=
  ∃ W : Nat -> Nat -> List V -> Hp -> Prop, (∃ m, W 0 m [] H1) /\ Bo g tt te (YQ n caps σ) Q J W
noncomputable def Ks (n : Nat) (caps : List (Nat × Str)) (wi : TI) (g : TG) (tt : TT) (te : TE) : TE:=fun σ H Q=>wi σ H fun J H1=>BV n caps g tt te σ Q J H1
noncomputable def UE (sc scope : Scope) (N0 tns : List Str) (caps : List (Nat × Str)) : Bool:=
  scope.kind == .function && scope.names.all (fun y=>!(y.2 == .cell)) && scope.names.all (fun y=>!(y.2 == .local) || scope.names.lookup y.1 == some .local) &&
  scope.names.all (fun y=>!(y.2 == .free) || sc.names.lookup y.1 == some .cell) && caps.all (fun p=>N0[p.1]? == some p.2 && sc.names.lookup p.2 == some .cell && scope.names.lookup p.2 == some .free)
theorem U0 {α : Type} {p : α} {P : Prop} (h : p ∈ ([] : List α)) : P:=nomatch h
noncomputable def II (M : Model) (A : Around) (elt tg : Expr) (ifs : List Expr) (acc : Value) (env : Env) (E : Value -> Shared -> Prop) (K : Shared -> Prop) (v : Value) (s : Shared) : Prop:=
  wpAny M A (assign tg env v) (fun _ s₂=>wpAny M A (forIn ifs true fun c r=>if r = true then do let ok ← isTrue c env (eval c env); pure (ForInStep.yield ok) else pure (ForInStep.yield r)) (fun ok s₃=>
    if ok = true then wpAny M A (eval elt env) (fun x s₄=>wpAny M A (call (.builtin "list.append") [acc, x]) (fun _ s₅=>K s₅) E s₄) E s₃ else K s₃) E s₂) E s
noncomputable def Lp (M : Model) (A : Around) (elt tg : Expr) (ifs : List Expr) (it acc : Value) (env : Env) (E : Value -> Shared -> Prop) (Rn K : Shared -> Prop) (s : Shared) : Prop:=
  wpAny M A (pyNext it) (fun r s₁=>r = none /\ Rn s₁ ∨ ∃ v, r = some v /\ wpAny M A (letOwnedTupleGo tg it v) (fun _ s₁=>II M A elt tg ifs acc env E K v s₁) E s₁) E s
section
variable {prog : Program} {w : World} {A : Around} {R : Result -> Shared -> Prop} {s : Shared}
theorem UX {elt target iter : Expr} {ifs : List Expr} {scope : Scope} {pos : Pos} {it acc : Value} {env : Env} {E : Value -> Shared -> Prop} (I : Nat -> Shared -> Prop) (hE : (notedBy (model prog w) A env fun e s'=>R (.error e) s') = E)
    (turn : ∀ n s, I n s -> Lp (model prog w) A elt target ifs it acc env E (fun s=>R (.ok .next) s) (fun s=>∃ m, m < n /\ I m s) s) (n : Nat) (h : I n s) :
    codeAny (model prog w) A (.compLoop (.ListComp elt [⟨target, iter, ifs, 0⟩] scope pos) 0 it acc env) R s:=by
  subst hE
  refine codeAny_loop rfl I (fun n s hI=>?_) n h
  show wpAny _ A ((compTurn (.ListComp elt [⟨target, iter, ifs, 0⟩] scope pos) 0 it acc env).onRaise (fun x=>do noteFrame x env; theTreesLotGoes x)) _ _ s
  refine wpAny_noted ?_
  rw [compTurn_list]
  refine wpAny_bind (wpAny_standAt (wpAny_bind (thn (turn n s hI) fun r s₁ h₁=>?_)))
  rcases h₁ with ⟨rfl, h₁⟩ | ⟨v, rfl, h₁⟩
  . exact wpAny_pure h₁
  . refine wpAny_bind (thn h₁ fun _ s₁' h₁' => wpAny_bind (thn h₁' fun _ s₂ h₂ => wpAny_bind (thn h₂ fun ok s₃ h₃ => ?_)))
    cases ok with
    | false=>exact wpAny_pure ⟨rfl, h₃⟩
    | true=>exact wpAny_bind (wpAny_bind (thn h₃ fun x s₄ h₄=>wpAny_bind (thn h₄ fun _ s₅ h₅=>wpAny_pure (wpAny_pure ⟨rfl, h₅⟩))))
end
noncomputable def lob (its : List Value) (k : Nat) : Obj:={ cls:=.type "list", data:=.seq (List.toArray its) k }
structure CIn (Y : Cx) (tn : Nat -> Heap -> Prop) (fp : List Addr) (D : Addr) (σ : St) (i : Nat) (H : Hp) (o : Obj) (s : Shared) : Prop where
  I : Inv Y [] σ H s
  t : tn i s.heap
  f : ∀ b ∈ fp, H b = none
  l : s.heap.get? D = some o
  n : H D = none
inductive CI (Y : Cx) (tn : Nat -> Heap -> Prop) (fp : List Addr) (D : Addr) (σ : St) (W : Nat -> Nat -> List V -> Hp -> Prop) (m : Nat) (s : Shared) : Prop
  | mk (i : Nat) (H : Hp) (ys : List V) (its : List Value) (k : Nat) (c : CIn Y tn fp D σ i H (lob its k) s) (r : XX ys its) (w : W i m ys H)
structure CAt (Y : Cx) (fp : List Addr) (D : Addr) : Prop where
  calm : Y.calm = true
  pn : Y.pn = []
  ne : D ≠ Y.env.locals
  fs : D ∉ Y.fs
  sz : Y.s₀.heap.objs.size <= D
  cl : ∀ x c, Y.env.cells.lookup x = some c -> c ≠ D
  fpn : ∀ b ∈ fp, b ≠ D
  ok : ∀ b ∈ fp, ∀ H : Hp, H b = none -> K1 Y [] H b
section
variable {Y : Cx} {tn : Nat -> Heap -> Prop} {fp : List Addr} {D it : Addr} {σ : St} {tg elt iter : Expr} {ifs : List Expr} {J : It} {g : TG} {tt : TT} {te : TE} {n i : Nat} {H : Hp} {s : Shared} {o : Obj} {Kn : Shared -> Prop}
theorem CAt.pins (c : CAt Y fp D) (hn : ∀ b ∈ fp, H b = none) : ∀ b ∈ fp, K1 Y [(D, o)] H b:=fun b hb=>
  have z:=c.ok b hb H (hn b hb)
  ⟨z.1, z.2.1, z.2.2.1, z.2.2.2.1, z.2.2.2.2.1, fun p hp e=>by
    rw [c.pn] at hp
    cases List.mem_singleton.mp hp
    exact c.fpn b hb e.symm⟩
theorem Ga (T : Turn Y.prog Y.w Y.K tg J fp it tn) {h5 : Heap} (t : tn i h5) (I : Inv Y ([(D, o)] ++ US fp h5) σ H s) : CIn Y tn fp D σ i H o s:=
  have p:=I.pin (D, o) (List.mem_append_right _ (.head _))
  have q : ∀ b ∈ fp, ∀ o', h5.get? b = some o' -> s.heap.get? b = some o' /\ H b = none:=fun b hb o' e=>have z:=I.pin (b, o') (List.mem_append_right _ (.tail _ (QI hb e))); ⟨z.1, z.2.1⟩
  ⟨I.pins_of (pins':=[]) fun _ h=>U0 h, T.keep _ _ _ t fun b hb o' e=>(q b hb o' e).1, fun b hb=>(T.obj _ _ t b hb).elim fun o' e=>(q b hb o' e.1).2, p.1, p.2.1⟩
theorem LR (T : Turn Y.prog Y.w Y.K tg J fp it tn) (a : CAt Y fp D) {its : List Value} {k : Nat} {v : Value} {E : Value -> Shared -> Prop} (c : CIn Y tn fp D σ i H (lob its k) s) (hz : its.length <= sizeLine)
    (hQ : ∀ k' s', CIn Y tn fp D σ i H (lob (its ++ [v]) k') s' -> Kn s') : wpAny (model Y.prog Y.w) Y.A (call (.builtin "list.append") [.ref D, v]) (fun _ s=>Kn s) E s:=by
  refine call_meets F.slot_list_append ⟨_, c.l, rfl⟩ F.entry_list_append (F.args_list_append_2 _ _) (PySem.list_append D (List.toArray its) k v hz) ⟨c.l, ?_⟩
  have q : ∃ k', PySem.IsL (s.heap.update D (Obj.mapSeq (·.push v))) D ((List.toArray its).push v) k':=⟨_, PySem.IsL.update c.l (·.push v)⟩
  rw [List.push_toArray] at q
  obtain ⟨k', q⟩:=q
  exact hQ k' _ ⟨c.I.turned (t':=s.toks) (h':=s.heap.update D (Obj.mapSeq (·.push v))) (it:=D) (fun b o hb' e=>(Heap.get?_update_other s.heap _ (Ne.symm hb')).trans e) c.n a.ne (.inr a.sz) a.cl (fun p hp=>by rw [a.pn] at hp; exact U0 hp),
    T.keep _ _ _ c.t fun b hb o e=>(Heap.get?_update_other s.heap _ (Ne.symm (a.fpn b hb))).trans e, c.f, q, c.n⟩
theorem Bz {acc : Value} {pins : List (Addr × Obj)} {N : List V -> Hp -> Prop} {ys : List V} {x : V} {u : Value} (hg : PG Y tg g) (ht : PTs Y ifs tt) (he : PE Y elt te) (hG : Q5 n g) (h0 : ∀ (j : Nat) v, σ[j]? = some (some v) -> n <= j)
    (I : Inv Y pins σ H s) (r : X9 x u) (st : g x σ H fun σ4 H4=>tt σ4 H4 fun c H5=>if c = true then te σ4 H5 fun v H6=>N (ys ++ [v]) H6 else N ys H5)
    (hF : ∀ H7 s7, Inv Y pins σ H7 s7 -> N ys H7 -> Kn s7) (hT : ∀ H8 s8 y v, Inv Y pins σ H8 s8 -> X9 y v -> N (ys ++ [y]) H8 -> wpAny (model Y.prog Y.w) Y.A (call (.builtin "list.append") [acc, v]) (fun _ s=>Kn s) Y.xe s8) :
    II (model Y.prog Y.w) Y.A elt tg ifs acc Y.env Y.xe Kn u s:=by
  refine thn (hg _ s _ H x u _ I r (hG _ _ _ _ st)) fun _ s6 ⟨σ6, H6, I6, q6, l6, k6⟩=>?_
  have wk : ∀ (j : Nat) v, σ[j]? = some (some v) -> σ6[j]? = some (some v):=fun j v e=>(k6 j (h0 j v e)).trans e
  refine thn (ht _ s6 σ6 H6 _ I6 q6) fun c s7 ⟨H7, I7, q7⟩=>?_
  cases c with
  | false=>exact hF _ _ (I7.weak l6.symm wk) q7
  | true=>exact thn (he _ s7 σ6 H7 _ I7 q7) fun v8 s8 ⟨y8, H8, I8, r8, n8⟩=>hT _ _ _ _ (I8.weak l6.symm wk) r8 n8
theorem Vt {scope : Scope} {pos : Pos} {Q : V -> Hp -> Prop} {R : Result -> Shared -> Prop} (hE : (notedBy (model Y.prog Y.w) Y.A Y.env fun e s'=>R (.error e) s') = Y.xe)
    (T : Turn Y.prog Y.w Y.K tg J fp it tn) (hG : Q5 n g) (hg : PG Y tg g) (ht : PTs Y ifs tt) (he : PE Y elt te) (a : CAt Y fp D) (h0 : ∀ (j : Nat) v, σ[j]? = some (some v) -> n <= j)
    {W : Nat -> Nat -> List V -> Hp -> Prop} (turn : Bo g tt te σ Q J W)
    (hEnd : ∀ ys its k H3 s4, Inv Y [(D, lob its k)] σ H3 s4 -> XX ys its -> ys.length <= sizeLine -> Q (.ref D) (upd H3 D (.lst ys)) -> R (.ok .next) s4) {m0 : Nat} (hi : CI Y tn fp D σ W m0 s) :
    codeAny (model Y.prog Y.w) Y.A (.compLoop (.ListComp elt [⟨tg, iter, ifs, 0⟩] scope pos) 0 (.ref it) (.ref D) Y.env) R s:=by
  refine UX (CI Y tn fp D σ W) hE (fun m s3 c=>?_) m0 hi
  cases c with
  | mk i H3 ys its k c rv w3=>
  have I3 : Inv Y [(D, lob its k)] σ H3 s3:=c.I.pins_of fun p hp=>List.mem_singleton.mp hp ▸ ⟨c.l, c.n, a.ne, a.fs, fun _ z=>by cases z⟩
  have t:=turn i m ys H3 w3
  refine t.2.elim (fun q=>?_) fun q=>?_
  . exact thn (T.done Y rfl rfl rfl a.calm i _ s3 _ H3 Y.xe I3 (a.pins c.f) c.t q.1) fun r s4 h=>.inl ⟨h.1, hEnd ys its k H3 s4 h.2 rv t.1 (q.2 D c.n)⟩
  . refine q.2.elim fun NN h => ?_
    refine thn (T.item Y rfl rfl rfl a.calm i _ s3 _ H3 Y.xe I3 (a.pins c.f) c.t q.1) fun r s4 h4=>.inr (h4.elim fun u h4=>⟨u, h4.1, thn h4.2 fun _ s5 h5=>h5.elim fun x h5=>h5.elim fun H5 h5=>?_⟩)
    exact Bz hg ht he hG h0 (h5.1.pinned (a.pins h5.2.2.2.2) (T.obj _ _ h5.2.2.2.1)) h5.2.1 (h.2 x H5 h5.2.2.1)
      (fun H7 s7 I7 q7=>(h.1 _ _ q7).elim fun m' z=>⟨m', z.1, .mk (i + 1) H7 ys its k (Ga T h5.2.2.2.1 I7) rv z.2⟩)
      fun H8 s8 y v I8 r8 q8=>(h.1 _ _ q8).elim fun m' z=>LR T a (Ga T h5.2.2.2.1 I8) (rv.length ▸ t.1) fun k' s' c'=>⟨m', z.1, .mk (i + 1) H8 (ys ++ [y]) (its ++ [v]) k' c' (rv.append (.cons r8 .nil)) z.2⟩
end
section
variable {X : Cx} {elt tg iter : Expr} {ifs : List Expr} {scope sc : Scope} {pos : Pos} {n : Nat} {tns : List Str} {caps : List (Nat × Str)} {wi : TI} {g : TG} {tt : TT} {te : TE}
structure CompEnd (X : Cx) (pins : List (Addr × Obj)) (σ : St) (H3 : Hp) (D C : Addr) (ys : List V) (s' : Shared) : Prop where
  inv : Inv X pins σ (upd H3 D (.lst ys)) s'
  fresh : H3 D = none
  fp : K1 X pins (upd H3 D (.lst ys)) C
  ns : ∃ m, s'.heap.Ns C m
theorem GD {pins : List (Addr × Obj)} {σ σ' : St} {H H3 : Hp} {s s4 : Shared} {D C : Addr} {fp : List Addr} {its : List Value} {k : Nat} {ys : List V} {Y : Cx} (I : Inv X pins σ H s) (hf : ∀ b ∈ fp, K1 X pins H b) (hD : s.heap.objs.size <= D) (hDlt : D < C)
    (I4 : Inv Y [(D, lob its k)] σ' H3 s4) (hos : s4.os = s.os) (u : Un (frs X.stack) fp H H3 s.heap s4.heap) (hok : HOk X.prog X.w H3 s4.heap) (hC : Y.env.locals = C) (rv : XX ys its) (hz : ys.length <= sizeLine) : CompEnd X pins σ H3 D C ys s4:=by
  subst hC
  have p:=I4.pin (D, lob its k) (List.mem_append_right _ (.head _))
  have hDn : H3 D = none:=p.2.1
  have up : ∀ {b : Addr} {o : HO}, H3 b = some o -> upd H3 D (.lst ys) b = some o:=fun e=>(Xp (XS e hDn)).trans e
  refine ⟨I.call' (ch:=fp) hos ⟨u.keep, u.slot, fun b o e nn hx=>(Xp (Nat.ne_of_lt (Nat.lt_of_lt_of_le (Heap.lt_size e) hD))).trans (u.free b o e nn hx), u.there, fun b xs e=>up (u.tups b xs e), fun b o xs e=>up (u.frzs b o xs e), fun b ps e=>(u.tbls b ps e).elim fun more z=>⟨more, up z⟩⟩ (fun a o e=>?_) I4.bare fun b hb=>have z:=hf b hb; ⟨z.2.2.2.1, z.2.1, z.2.2.2.2.1, z.2.2.2.2.2⟩, hDn, I.fpOk (Nat.le_trans hD (Nat.le_of_lt hDlt)) ((Xp (Nat.ne_of_gt hDlt)).trans I4.free), I4.loc.elim fun m z=>⟨m, z.1⟩⟩
  by_cases ha : a = D
  . subst ha
    rw [X8] at e; cases e
    exact ⟨hz, its, k, rv, p.1⟩
  . rw [Xp ha] at e
    exact (hok a o e).stay (fun b u _ q=>q) (fun b q=>up q) fun b xs q=>up q
noncomputable def LU (X : Cx) (elt tg iter : Expr) (ifs : List Expr) (scope : Scope) (pos : Pos) (it : Value) (cl : List (Str × Addr)) (RR : Value -> Addr -> Result -> Shared -> Prop) (E : Value -> Shared -> Prop) (s : Shared) : Prop:=
  wpAny (model X.prog X.w) X.A (newList []) (fun acc s₃=>wpAny (model X.prog X.w) X.A (newFunctionEnv scope X.env.globals cl [] X.env.qual none .none (some X.env)) (fun cenv s₄=>
      codeAny (model X.prog X.w) X.A (.compStart (.ListComp elt [⟨tg, iter, ifs, 0⟩] scope pos) 0 it acc { cenv with scope:=relabel scope X.env }) (RR acc cenv.locals) s₄) E s₃) E s
theorem JD {σ : St} {i : Nat} {v : V} (e : (YQ n caps σ)[i]? = some (some v)) : n <= i /\ ∃ p, caps[i - n]? = some p /\ σ[p.1]? = some (some v):=by
  unfold YQ at e
  by_cases h : i < n
  . rw [List.getElem?_append_left (by simpa using h), List.getElem?_replicate, if_pos h] at e
    cases e
  . have hi := Nat.le_of_not_lt h
    rw [List.getElem?_append_right (by simpa using hi), List.length_replicate, List.getElem?_map] at e
    refine ⟨hi, ?_⟩
    cases hcp : caps[i - n]? with
    | none=>rw [hcp] at e; cases e
    | some p=>
      rw [hcp] at e
      exact ⟨p, rfl, Option.join_eq_some_iff.mp (Option.some.inj e)⟩
structure COk (X : Cx) (scope : Scope) (caps : List (Nat × Str)) : Prop where
  kind : scope.kind = .function
  cell : ∀ y ∈ scope.names, y.2 ≠ NameKind.cell
  loc : ∀ y ∈ scope.names, y.2 = .local -> scope.names.lookup y.1 = some .local
  free : ∀ y ∈ scope.names, y.2 = .free -> X.env.scope.names.lookup y.1 = some .cell
  caps : ∀ p ∈ caps, (X.N[p.1]? = some p.2 /\ X.env.scope.names.lookup p.2 = some .cell) /\ scope.names.lookup p.2 = some .free
theorem COk.of {N0 : List Str} (hsc : X.env.scope = sc) (hN0 : X.N = N0) (ok : UE sc scope N0 tns caps = true) : COk X scope caps:=by
  subst hsc
  subst hN0
  unfold UE at ok
  simp only [Bool.and_eq_true, List.all_eq_true, beq_iff_eq, Bool.or_eq_true, Bool.not_eq_true', beq_eq_false_iff_ne] at ok
  exact ⟨ok.1.1.1.1, ok.1.1.1.2, fun y hy e=>(ok.1.1.2 y hy).resolve_left (absurd e), fun y hy e=>(ok.1.2 y hy).resolve_left (absurd e), ok.2⟩
section
variable {pins : List (Addr × Obj)} {σ : St} {H : Hp} {s : Shared} {fp : List Addr} {cl : List (Str × Addr)} {C : Addr} {E : Value -> Shared -> Prop} {N : List Str} {h₁ : Heap}
theorem Hk (ok : COk X scope caps) (I : Inv X pins σ H s) (hf : ∀ b ∈ fp, K1 X pins H b) (hlt : ∀ b ∈ fp, b < s.heap.objs.size)
    (hsub : ∀ x c, cl.lookup x = some c -> X.env.cells.lookup x = some c) (hall : ∀ x, (x, NameKind.free) ∈ scope.names -> ∃ c, cl.lookup x = some c) (hC : s.heap.objs.size < C) : (X.comp N scope cl C s H fp E).Ok:=
  ⟨I.ok.mod, ok.kind, I.ok.glob, I.ok.blt, Nat.le_of_lt hC, fun x y c h1 h2=>I.ok.inj x y c (hsub x c h1) (hsub y c h2), fun x hx=>hall x (hx.elim (fun z=>Qh ok.cell z (.inl rfl)) fun z=>Qh ok.cell z (.inr rfl)), (fun x c hx=>by cases hx), I.ok.hd, I.ok.frames, .inl rfl,
    fun b hb=>⟨Nat.ne_of_lt (Nat.lt_trans (hlt b hb) hC), fun x c e=>(hf b hb).2.2.2.2.1 x c (hsub x c e)⟩, I.bs, Nat.le_trans I.ok.bsz I.sz, fun b o e hb=>(hf b hb).2.2.2.1.elim (I.ok.noex b o e) fun z=>absurd (Nat.lt_of_lt_of_le (Heap.lt_size e) (Nat.le_trans I.ok.bsz z)) (Nat.lt_irrefl _),
    fun b hb hz=>(List.mem_cons.mp (I.stkSub b hz)).elim (hf b hb).2.1 (hf b hb).2.2.1, I.stack, I.stkFree⟩
theorem CT (okc : COk X scope caps) (hn : tns.length = n) (ok : (X.comp (tns ++ caps.map (·.2)) scope cl C s H fp E).Ok) (I : Inv X pins σ H s)
    (hsub : ∀ x c, cl.lookup x = some c -> X.env.cells.lookup x = some c) (hall : ∀ x, (x, NameKind.free) ∈ scope.names -> ∃ c, cl.lookup x = some c) (hC : s.heap.objs.size < C) (hns : h₁.Ns C fun _=>none) (old : ∀ b o, s.heap.get? b = some o -> h₁.get? b = some o) {tk : Nat} :
    Inv (X.comp (tns ++ caps.map (·.2)) scope cl C s H fp E) [] (YQ n caps σ) H { s with heap:=h₁, toks:=tk }:=by
  refine ⟨ok, rfl, I.bare, Un.kept old, ⟨_, hns, fun i x v e1 e2 _=>?_⟩, fun x c e=>(I.cell x c (hsub x c e)).elim fun v z=>z.elim fun o z=>⟨v, o, old _ _ z.1, z.2⟩, I.hok.fresh (Nat.le_of_lt hC), fun x c e=>I.freeC x c (hsub x c e), fun p hp=>U0 (α:=Addr × Obj) hp, I.hok.kept old, by simp [YQ, hn]⟩
  obtain ⟨hi, p, hp, hσ⟩:=JD e2
  have e1' : (tns ++ caps.map (·.2))[i]? = some x:=e1
  rw [List.getElem?_append_right (hn ▸ hi), hn, List.getElem?_map, hp] at e1'
  cases Option.some.inj e1'
  have p5:=okc.caps p (List.mem_of_getElem? hp)
  obtain ⟨m, hm, hl⟩:=I.loc
  obtain ⟨u, r, l⟩:=hl p.1 p.2 v p5.1.1 hσ (.inr (.inl p5.1.2))
  refine ⟨u, r, .inr ?_⟩
  rcases l with ⟨k, _⟩ | ⟨k, c, e, z⟩
  . cases p5.1.2.symm.trans k
  . obtain ⟨c', e'⟩ := hall p.2 (PySem.mem_of_lookup p5.2)
    cases e.symm.trans (hsub _ _ e')
    exact ⟨ZT (env:=X.env) p5.2, c, e', z.elim fun o z=>⟨o, old _ _ z.1, z.2⟩⟩
variable {J : It} {it : Addr} {tn : Nat -> Heap -> Prop} {Q : V -> Hp -> Prop} {RR : Value -> Addr -> Result -> Shared -> Prop} {W : Nat -> Nat -> List V -> Hp -> Prop} {m0 : Nat}
theorem Ee (ok : COk X scope caps) (hc : X.calm = true) (hn : tns.length = n) (hG : Q5 n g)
    (hb : ∀ cl C s H ex E, PG (X.comp (tns ++ caps.map (·.2)) scope cl C s H ex E) tg g /\ PTs (X.comp (tns ++ caps.map (·.2)) scope cl C s H ex E) ifs tt /\ PE (X.comp (tns ++ caps.map (·.2)) scope cl C s H ex E) elt te)
    (I : Inv X pins σ H s) (T : Turn X.prog X.w X.K tg J fp it tn) (t0 : tn 0 s.heap) (hf : ∀ b ∈ fp, K1 X pins H b)
    (hsub : ∀ x c, cl.lookup x = some c -> X.env.cells.lookup x = some c) (hall : ∀ x, (x, NameKind.free) ∈ scope.names -> ∃ c, cl.lookup x = some c)
    (w0 : W 0 m0 [] H) (turn : Bo g tt te (YQ n caps σ) Q J W)
    (hRR : ∀ D C ys H3 s', CompEnd X pins σ H3 D C ys s' -> Q (.ref D) (upd H3 D (.lst ys)) -> RR (.ref D) C (.ok .next) s')
    (hC : s.heap.objs.size < C) (hns : h₁.Ns C fun _=>none) (old : ∀ b o, s.heap.get? b = some o -> h₁.get? b = some o) (hacc : h₁.get? s.heap.objs.size = some (lob [] 0)) {tk : Nat} :
    codeAny (model X.prog X.w) X.A (.compStart (.ListComp elt [⟨tg, iter, ifs, 0⟩] scope pos) 0 (.ref it) (.ref s.heap.objs.size) (compEnvC scope cl C X.env)) (RR (.ref s.heap.objs.size) C) { s with heap:=h₁, toks:=tk }:=by
  have hlt : ∀ b ∈ fp, b < s.heap.objs.size:=fun b hb=>(T.obj _ _ t0 b hb).elim fun o e=>Heap.lt_size e.1
  have okY : ∀ E, (X.comp (tns ++ caps.map (·.2)) scope cl C s H fp E).Ok:=fun E=>Hk ok I hf hlt hsub hall hC
  have t1 : tn 0 h₁:=T.keep _ _ _ t0 fun b _ o e=>old b o e
  have loop : ∀ tk, codeAny (model X.prog X.w) X.A (.compLoop (.ListComp elt [⟨tg, iter, ifs, 0⟩] scope pos) 0 (.ref it) (.ref s.heap.objs.size) (compEnvC scope cl C X.env)) (RR (.ref s.heap.objs.size) C) { s with heap:=h₁, toks:=tk }:=fun tk=>
    have z:=hb cl C s H fp (notedBy (model X.prog X.w) X.A (compEnvC scope cl C X.env) fun e s'=>RR (.ref s.heap.objs.size) C (.error e) s')
    Vt (Y:=X.comp (tns ++ caps.map (·.2)) scope cl C s H fp _) rfl T hG z.1 z.2.1 z.2.2
      ⟨hc, rfl, Nat.ne_of_lt hC, fun hz=>(I.stack.mem hz).2.elim fun o ho=>absurd (Heap.lt_size ho.1) (Nat.lt_irrefl _), Nat.le_refl _, fun x c e=>(I.cell x c (hsub x c e)).elim fun v z=>Nat.ne_of_lt z.lt, fun b hb=>Nat.ne_of_lt (hlt b hb),
        fun b hb H' h'=>⟨h', Nat.ne_of_lt (Nat.lt_trans (hlt b hb) hC), (okY fun _ _=>True).exfs b hb, .inl hb, fun x c e=>(hf b hb).2.2.2.2.1 x c (hsub x c e), fun p hp=>U0 (α:=Addr × Obj) hp⟩⟩
      (fun j v e=>(JD e).1) turn (fun ys its k H3 s4 I4 rv hz q=>hRR _ C ys H3 s4 (GD I hf (Nat.le_refl _) hC I4 I4.os I4.base I4.hok rfl rv hz) q)
      (.mk 0 H [] [] 0 ⟨CT ok hn (okY _) I hsub hall hC hns old, t1, fun b hb=>(hf b hb).1, hacc, I.hok.fresh (Nat.le_refl _)⟩ .nil w0)
  exact codeAny_compStart_list (loop _) (T.self _ 0 _ _ _ t1 (loop _))
theorem Vs (ok : COk X scope caps) (hc : X.calm = true) (hn : tns.length = n) (hG : Q5 n g)
    (hb : ∀ cl C s H ex E, PG (X.comp (tns ++ caps.map (·.2)) scope cl C s H ex E) tg g /\ PTs (X.comp (tns ++ caps.map (·.2)) scope cl C s H ex E) ifs tt /\ PE (X.comp (tns ++ caps.map (·.2)) scope cl C s H ex E) elt te)
    {itv : Value} (h : PIE X pins σ tg (fun J H1=>BV n caps g tt te σ Q J H1) itv s)
    (hsub : ∀ x c, cl.lookup x = some c -> X.env.cells.lookup x = some c) (hall : ∀ x, (x, NameKind.free) ∈ scope.names -> ∃ c, cl.lookup x = some c)
    (hRR : ∀ D C ys H3 s', CompEnd X pins σ H3 D C ys s' -> Q (.ref D) (upd H3 D (.lst ys)) -> RR (.ref D) C (.ok .next) s') :
    LU X elt tg iter ifs scope pos itv cl RR E s:=by
  obtain ⟨it, fp, tn, J, H', rfl, I, T, t0, hf, W, ⟨m0, w0⟩, turn⟩:=h
  refine wpAny_newObj_type (wpAny_newFunctionEnv ok.cell (by intro y hy; simp at hy) (fun h₁ hns₁ hsb₁=>?_) ok.kind)
  have hs : ∀ o, (s.heap.push o).objs.size = s.heap.objs.size + 1:=fun o=>Heap.size_push ..
  exact Ee ok hc hn hG hb I T t0 hf hsub hall w0 turn hRR (Nat.lt_of_lt_of_eq (Nat.lt_succ_self _) (hs _).symm) hns₁
    (fun b o e=>hsb₁.extBut b o (Nat.ne_of_lt (Nat.lt_trans (Heap.lt_size e) (Nat.lt_of_lt_of_eq (Nat.lt_succ_self _) (hs _).symm))) (Heap.get?_push_of_some _ (Heap.get?_push_of_some _ e)))
    (hsb₁.extBut _ _ (Nat.ne_of_lt (Nat.lt_of_lt_of_eq (Nat.lt_succ_self _) (hs _).symm)) (Heap.get?_push_of_some _ (Heap.get?_push_size _ rfl)))
end
theorem Ei (sc : Scope) (N0 : List Str) (tns : List Str) (caps : List (Nat × Str)) (hc : X.calm = true) (hi : PI X tg iter wi) (hG : Q5 tns.length g)
    (hb : ∀ cl C s H ex E, PG (X.comp (tns ++ caps.map (·.2)) scope cl C s H ex E) tg g /\ PTs (X.comp (tns ++ caps.map (·.2)) scope cl C s H ex E) ifs tt /\ PE (X.comp (tns ++ caps.map (·.2)) scope cl C s H ex E) elt te)
    (hsc : X.env.scope = sc:=by rfl) (hN0 : X.N = N0:=by rfl) (ok : UE sc scope N0 tns caps = true:=by decide +kernel)
    (hs : ∀ x, foldedSetIterable iter X.env x = pure x:=by intro _; rfl) :
    PE X (.ListComp elt [⟨tg, iter, ifs, 0⟩] scope pos) (Ks tns.length caps wi g tt te):=by
  intro pins s σ H Q I h
  have okc:=COk.of hsc hN0 ok
  obtain ⟨cl, ecl, hsub, hall⟩:=KW (scope:=scope) (env:=X.env) fun x hx hfr=>I.ok.has x.1 (.inl (okc.free x hx hfr))
  rw [eval_ListComp]
  exact wpAny_comprehension_free (use:=none) rfl hs ecl okc.kind okc.loc (thn (hi pins s σ H _ I h) fun xv s₁ h₁=>thn h₁ fun itv s₂ h₂=>
    Vs (RR:=fun acc C=>compPost (model X.prog X.w) X.A X.xe none (EP X pins σ Q) acc C) okc hc rfl hG hb h₂ hsub hall fun D C ys H3 s' ce q=>ce.ns.elim fun mm hns=>
      ⟨mm, hns, fun h' hs'=>⟨.ref D, _, ce.inv.turned (t':=s'.toks) (fun b o hb' e=>(hs'.extBut b o hb' e)) ce.fp.1 ce.fp.2.1 ce.fp.2.2.2.1 ce.fp.2.2.2.2.1 ce.fp.2.2.2.2.2, rfl, q⟩⟩)
theorem QR {x : Str} {px spos : Pos} (j : Nat) (sc : Scope) (N0 : List Str) (tns : List Str) (caps : List (Nat × Str)) (hc : X.calm = true) (hN : X.N.Nodup) (hj : X.N[j]? = some x) (hx : X.env.scope.names.lookup x = some .local) (hi : PI X tg iter wi) (hG : Q5 tns.length g)
    (hb : ∀ cl C s H ex E, PG (X.comp (tns ++ caps.map (·.2)) scope cl C s H ex E) tg g /\ PTs (X.comp (tns ++ caps.map (·.2)) scope cl C s H ex E) ifs tt /\ PE (X.comp (tns ++ caps.map (·.2)) scope cl C s H ex E) elt te)
    (hsc : X.env.scope = sc:=by rfl) (hN0 : X.N = N0:=by rfl) (ok : UE sc scope N0 tns caps = true:=by decide +kernel)
    (hsw : swapsWith (.ListComp elt [⟨tg, iter, ifs, 0⟩] scope pos) (some (.Name x px)) spos.line X.env = pure true:=by rfl)
    (hs : ∀ x, foldedSetIterable iter X.env x = pure x:=by intro _; rfl) :
    PS X (.Assign [.Name x px] (.ListComp elt [⟨tg, iter, ifs, 0⟩] scope pos) spos) (BJ (Ks tns.length caps wi g tt te) (Qv j)):=by
  intro pins s σ H D I h
  have okc:=COk.of hsc hN0 ok
  obtain ⟨cl, ecl, hsub, hall⟩:=KW (scope:=scope) (env:=X.env) fun x hx hfr=>I.ok.has x.1 (.inl (okc.free x hx hfr))
  rw [exec_Assign_Name_used _ _ _ _ hsw]
  refine wpAny_bind (wpAny_standAt (wpAny_bind ?_))
  show wpAny _ _ (do let _ ← comprehension (.ListComp elt [⟨tg, iter, ifs, 0⟩] scope pos) scope X.env _ (newList []) false (eval iter X.env) (some (assign (.Name x px) X.env))) _ _ s
  refine wpAny_bind (thn (wpAny_comprehension_free (use:=some (assign (.Name x px) X.env)) (Q:=fun _ s'=>SP X pins D .next s') rfl hs ecl okc.kind okc.loc
    (thn (hi pins s σ H _ I h) fun xv s₁ h₁=>thn h₁ fun itv s₂ h₂=>?_)) fun _ s' hq=>wpAny_pure (wpAny_pure hq))
  refine Vs (Q:=fun v H1=>Qv j v σ H1 D.nx) (RR:=fun acc C=>compPost (model X.prog X.w) X.A X.xe (some (assign (.Name x px) X.env)) (fun _ s'=>SP X pins D .next s') acc C) okc hc rfl hG hb h₂ hsub hall ?_
  intro DD C ys H3 s' ce q
  obtain ⟨mm, hns⟩:=ce.ns
  obtain ⟨c0, c1, c2, c3, c4, c5⟩:=ce.fp
  show wpAny _ _ (assign (.Name x px) X.env (.ref DD)) _ _ _
  refine wpAny_assign_Name (U1 ce.inv hN hj (.inl hx) (v:=.ref DD) rfl (fun s2 I2 chg=>?_) (.inr hx))
  obtain ⟨c, hsb, hcc⟩:=chg
  have hCc : C ≠ c:=by
    rcases hcc with z | z
    . rw [z]; exact c1
    . exact fun e=>c4 x c z e.symm
  refine ⟨mm, ?_, fun h' hs'=>?_⟩
  . obtain ⟨o, es, ep, ho, r⟩ := hns
    exact ⟨o, es, ep, (hsb.2 C hCc).trans ho, r⟩
  . exact ⟨_, _, I2.turned (t':=s2.toks) (fun b o hb' e=>(hs'.extBut b o hb' e)) c0 c1 c3 c4 c5, q⟩
end
section
variable {K : PySem.W.Frag} {a : Addr} {xs : List V} {n : Nat} {caps : List (Nat × Str)} {g : TG} {tt : TT} {te : TE} {σ : St} {H : Hp} {Q : V -> Hp -> Prop}
end
section
variable {X : Cx} {pos : Pos}
noncomputable def F1 (K : PySem.W.Frag) : List V -> Hp -> VK -> Prop:=fun xs H Q=>∃ p ys, xs = [.ref p] /\ (SqL K H p ys ∨ SqT K H p ys) /\ ∀ l, H l = none -> Q (.ref l) (upd H l (.lst ys))
noncomputable def De (K : PySem.W.Frag) : List V -> Hp -> VK -> Prop:=fun xs H Q=>∃ p ys, xs = [.ref p] /\ (SqL K H p ys ∨ SqT K H p ys) /\ Q (.int ys.length) H
theorem Y3 (K : PySem.W.Frag) (h : X.K = K) : ZS X (.type "list") (F1 K):=by subst h; exact UC
theorem Xm (K : PySem.W.Frag) (h : X.K = K) : ZS X (.builtin "len") (De K):=by subst h; exact Uk
theorem Xk (K : PySem.W.Frag) (h : X.K = K) : IxR X (Hu K):=by subst h; exact Ep
theorem B4 (K : PySem.W.Frag) (h : X.K = K) : IxR X (Ll K):=by subst h; exact HL
theorem Jf (K : PySem.W.Frag) (h : X.K = K) : SlR X (IL K):=by subst h; exact ER
theorem Fm (K : PySem.W.Frag) (h : X.K = K) {es : List Expr} {k : Nat} {t : TGs} {n : Nat} (hc : X.calm = true) (hh : PGs X es t)
    (hn : (assignEach es X.env).length = n:=by rfl) (hst : (assignEach es X.env).findIdx? (·.1) = none:=by rfl) : PG X (.Tuple es k pos) (IP K n t):=by subst h; exact BT hc hh hn hst
end
end L2
namespace L2
open PySem PySem.Spec PyProof.Rows
structure Fn (P : Program) (w : World) (K : PySem.W.Frag) (mg : Str -> Option Value) (base : Heap) (k : Nat) (x : Str) (ps : List Str) (sp : Sp) : Prop where
  ex : ∃ f fd, FnOk P w K mg base CX0 k f fd ps sp /\ Ka K fd ps [] /\ PySem.W.keepIn K (.ref f) = true /\ mg x = some (.ref f)
section
variable {X : Cx} {k j : Nat} {x : Str} {ps : List Str} {sp : Sp} {e : Expr} {es : List Expr} {t : TA} {p pos : Pos}
theorem Yu (G : Fn X.prog X.w X.K X.mg X.base k x ps sp) (hr : Room j X.A) (hj : k <= j) (ha : PA X (e :: es) t) (hg : Gl X x:=by rfl) (hdb : (x == ("__debug__" : Str)) = false:=by decide)
    (he : starEach (e :: es) X.env = (false, eval e X.env) :: starEach es X.env:=by rfl) (hpl : (backTo pos (starEach es X.env)).any (·.1) = false:=by rfl) :
    PE X (.Call (.Name x p) (e :: es) [] pos) (UW sp [] E0 t):=by
  obtain ⟨f, fd, F, b, kp, m⟩:=G.ex
  exact Cg F (hr.mono hj) hg m kp b .nil Lc ha hdb he hpl
end
noncomputable def Def (K : PySem.W.Frag) (mg : Str -> Option Value) (x : Str) (st : Stmt) (ps : List Str) : Prop:=∃ f fd, Fun K x x st f fd /\ Ka K fd ps [] /\ mg x = some (.ref f)
theorem Zf {P : Program} {w : World} {K : PySem.W.Frag} {mg : Str -> Option Value} {base : Heap} {x : Str} {st : Stmt} {N ps : List Str} {k : Nat} {sp : Sp} (D : Def K mg x st ps) (S : FnScope N ps (Xh st)) (len : ∀ vs H Q E, sp vs H Q E -> vs.length = ps.length)
    (hbody : ∀ (f : Addr) (cdv : Value) (A : Around) (outer : List Env) (s : Shared) (H : Hp) (vs : List V) (Q : VK) (E : XK), Room k (A.deeper (envOfC x (Xh st) s.heap.objs.size f cdv)) -> sp vs H Q E ->
      ∃ t, PSs (Fc CX0 P w K mg base N x (Xh st) f cdv A outer s H E).nox (XC st) t /\ t { nx:=fun _ H'=>Q .non H', rt:=Q } (Vj N vs) H) : Fn P w K mg base (k + 1) x ps sp:=by
  obtain ⟨f, fd, F, b, m⟩:=D
  exact ⟨f, fd, F.ok S len (hbody f), b, F.kp, m⟩
theorem Ko {a d c : Nat} (h : d <= 8) (hu : a + 8 < c) : a + d < c:=by omega
theorem X4 {H : Hp} {p : Addr} (h : H p = none) (o : HO) : Xo H (upd H p o):=fun b u q=>by rw [Xp (XS q h)]; exact q
theorem Xo.own {H H2 : Hp} {p : Addr} (s : Xo H H2) (h : H p = none) (o : HO) : Xo H (upd H2 p o):=fun b u q=>by rw [Xp (XS q h)]; exact s b u q
theorem Xo.new {H H2 : Hp} {p : Addr} (s : Xo H H2) (h : H2 p = none) (o : HO) : Xo H (upd H2 p o):=s.trans (X4 h o)
theorem Xo.seqT {K : PySem.W.Frag} {H H' : Hp} {a : Addr} {xs : List V} (e : Xo H H') (h : SqT K H a xs) : SqT K H' a xs:=by
  rcases h with (h | ⟨o, h⟩) | h
  . exact .inl (.inl (e _ _ h))
  . exact .inl (.inr ⟨o, e _ _ h⟩)
  . exact .inr h
theorem hu8 {A : Around} {k : Nat} (hr : Room k A) : A.units + 8 < cLine:=Nat.lt_of_le_of_lt (Nat.add_le_add_left (by decide : 8 <= 64) _) hr.units
noncomputable abbrev Enc (α : Type):=PySem.W.Frag -> Hp -> V -> α -> Prop
noncomputable def Xc : Enc Int:=fun _ _ v i=>v = .int i
noncomputable def rL {α : Type} (r : Enc α) : Enc (List α):=fun K H v as=>∃ a xs, v = .ref a /\ SqL K H a xs /\ Paired (r K H) xs as
noncomputable def rT2 {α β : Type} (r : Enc α) (q : Enc β) : Enc (α × β):=fun K H v p=>∃ a x y, v = .ref a /\ SqT K H a [x, y] /\ r K H x p.1 /\ q K H y p.2
theorem Paired.getL {α β : Type} {F : α -> β -> Prop} : ∀ {l : List α} {m : List β} {i : Nat} {a : α}, Paired F l m -> l[i]? = some a -> ∃ b, m[i]? = some b /\ F a b
  | _, _, _, _, .nil, e=>by simp at e
  | _, _, 0, _, .cons r _, e=>by simp at e; subst e; exact ⟨_, rfl, r⟩
  | _, _, i + 1, a, .cons _ t, e=>by
    obtain ⟨b, h1, h2⟩:=Paired.getL (i:=i) (a:=a) t (by simpa using e)
    exact ⟨b, by simpa using h1, h2⟩
theorem Paired.getR {α β : Type} {F : α -> β -> Prop} : ∀ {l : List α} {m : List β} {i : Nat} {b : β}, Paired F l m -> m[i]? = some b -> ∃ a, l[i]? = some a /\ F a b
  | _, _, _, _, .nil, e=>by simp at e
  | _, _, 0, _, .cons r _, e=>by simp at e; subst e; exact ⟨_, rfl, r⟩
  | _, _, i + 1, b, .cons _ t, e=>by
    obtain ⟨a, h1, h2⟩:=Paired.getR (i:=i) (b:=b) t (by simpa using e)
    exact ⟨a, by simpa using h1, h2⟩
theorem Paired.len {α β : Type} {F : α -> β -> Prop} {l : List α} {m : List β} (h : Paired F l m) : l.length = m.length:=Paired.length h
theorem Paired.app {α β : Type} {F : α -> β -> Prop} : ∀ {l l' : List α} {m m' : List β}, Paired F l m -> Paired F l' m' -> Paired F (l ++ l') (m ++ m')
  | _, _, _, _, .nil, h=>h
  | _, _, _, _, .cons r t, h=>.cons r (Paired.app t h)
theorem Kt (ns : List Int) : ∀ {K : PySem.W.Frag} {H : Hp}, Paired (Xc K H) (ns.map V.int) ns:=by
  intro K H
  induction ns with
  | nil=>exact .nil
  | cons n r ih=>exact .cons rfl ih
structure EqOk {α : Type} [DecidableEq α] (r : Enc α) (d : Nat) : Prop where
  uniq : ∀ {X : Cx} {pins : List (Addr × Obj)} {σ : St} {H : Hp} {s : Shared} {x : V} {a b : α}, Inv X pins σ H s -> r X.K H x a -> r X.K H x b -> a = b
  eq : ∀ {X : Cx} {pins : List (Addr × Obj)} {σ : St} {H : Hp} {s : Shared} {x y : V} {v u : Value} {a b : α} {A : Around}, Inv X pins σ H s -> X9 x v -> X9 y u -> r X.K H x a -> r X.K H y b -> A.units + d < cLine -> SeqAt.EqAt A s v u (decide (a = b))
  rc : ∀ {X : Cx} {pins : List (Addr × Obj)} {σ : St} {H : Hp} {s : Shared} {x y : V} {v u : Value} {a b : α} {A : Around}, Inv X pins σ H s -> X9 x v -> X9 y u -> r X.K H x a -> r X.K H y b -> A.units + d < cLine -> SeqAt.RcAt A s v u (decide (a = b))
  ne : ∀ {X : Cx} {pins : List (Addr × Obj)} {σ : St} {H : Hp} {s : Shared} {x y : V} {v u : Value} {a b : α} {A : Around}, Inv X pins σ H s -> X9 x v -> X9 y u -> r X.K H x a -> r X.K H y b -> A.units + d < cLine -> SeqAt.RcNeAt A s v u (!decide (a = b))
  keep : ∀ {K : PySem.W.Frag} {H H' : Hp} {x : V} {a : α}, Xo H H' -> r K H x a -> r K H' x a
theorem EqOk.up {α : Type} [DecidableEq α] {r : Enc α} {d e : Nat} (E : EqOk r d) (h : d <= e) : EqOk r e:=
  ⟨E.uniq, fun I rx ry h1 h2 hu=>E.eq I rx ry h1 h2 (by omega), fun I rx ry h1 h2 hu=>E.rc I rx ry h1 h2 (by omega), fun I rx ry h1 h2 hu=>E.ne I rx ry h1 h2 (by omega), E.keep⟩
theorem Y9 (A : Around) : A.in1.units = A.units + 1:=rfl
theorem Cv {a b : Int} : (a == b) = decide (a = b):=by rw [Bool.eq_iff_iff]; simp
theorem eq_int : EqOk Xc 0 where
  uniq:=fun _ h1 h2=>by
    have h1' : _ = V.int _:=h1
    have h2' : _ = V.int _:=h2
    rw [h1'] at h2'; injection h2'
  eq:=fun {X pins σ H s x y v u a b A} I rx ry h1 h2 _=>by
    have h1' : x = V.int a:=h1
    have h2' : y = V.int b:=h2
    subst h1' h2'
    obtain ⟨t, rfl⟩:=rx
    obtain ⟨t', rfl⟩:=ry
    rw [← Cv]; exact SeqAt.EqAt.int_int a t b t'
  rc:=fun {X pins σ H s x y v u a b A} I rx ry h1 h2 _=>by
    have h1' : x = V.int a:=h1
    have h2' : y = V.int b:=h2
    subst h1' h2'
    obtain ⟨t, rfl⟩:=rx
    obtain ⟨t', rfl⟩:=ry
    rw [← Cv]; exact SeqAt.RcAt.int_int a t b t'
  ne:=fun {X pins σ H s x y v u a b A} I rx ry h1 h2 _=>by
    have h1' : x = V.int a:=h1
    have h2' : y = V.int b:=h2
    subst h1' h2'
    obtain ⟨t, rfl⟩:=rx
    obtain ⟨t', rfl⟩:=ry
    rw [← Cv]; exact SeqAt.RcNeAt.int_int a t b t'
  keep:=fun _ h=>h
theorem Dz {α : Type} [DecidableEq α] {as bs : List α} (h : as.length = bs.length) : (List.range as.length).all (fun j=>decide (as[j]? = bs[j]?)) = decide (as = bs):=by
  rw [Bool.eq_iff_iff]
  simp only [List.all_eq_true, List.mem_range, decide_eq_true_eq]
  constructor
  . intro hh
    apply List.ext_getElem?
    intro i
    by_cases hi : i < as.length
    . exact hh i hi
    . rw [List.getElem?_eq_none (by omega), List.getElem?_eq_none (by omega)]
  . rintro rfl; intros; rfl
theorem Paired.uniq {α β : Type} {F : α -> β -> Prop} (hu : ∀ a b c, F a b -> F a c -> b = c) : ∀ {l : List α} {m m' : List β}, Paired F l m -> Paired F l m' -> m = m'
  | _, _, _, .nil, .nil=>rfl
  | _, _, _, .cons r t, .cons r' t'=>by rw [hu _ _ _ r r', Paired.uniq hu t t']
theorem Paired.imp2 {α β : Type} {F G : α -> β -> Prop} (h : ∀ a b, F a b -> G a b) : ∀ {l : List α} {m : List β}, Paired F l m -> Paired G l m
  | _, _, .nil=>.nil
  | _, _, .cons r t=>.cons (h _ _ r) (Paired.imp2 h t)
section
variable {α : Type} [DecidableEq α] {r : Enc α} {d : Nat}
theorem VG (E : EqOk r d) {X : Cx} {pins : List (Addr × Obj)} {σ : St} {H : Hp} {s : Shared} {A : Around} (I : Inv X pins σ H s) (hu : A.units + (d + 1) < cLine) {xs ys : List V} {as bs : List α} {its its2 : List Value}
    (r1 : XX xs its) (r2 : XX ys its2) (p1 : Paired (r X.K H) xs as) (p2 : Paired (r X.K H) ys bs) :
    ∀ j (h1 : j < its.toArray.size) (h2 : j < its2.toArray.size), SeqAt.EqAt A.in1 s its.toArray[j] its2.toArray[j] (decide (as[j]? = bs[j]?)):=by
  intro j h1 h2
  have h1' : j < its.length:=by simpa using h1
  have h2' : j < its2.length:=by simpa using h2
  obtain ⟨x, ex, rx⟩:=Paired.getR (i:=j) (b:=its[j]) r1 (by simp [h1'])
  obtain ⟨y, ey, ry⟩:=Paired.getR (i:=j) (b:=its2[j]) r2 (by simp [h2'])
  obtain ⟨a, ea, ra⟩:=Paired.getL p1 ex
  obtain ⟨b, eb, rb⟩:=Paired.getL p2 ey
  have:=E.eq (A:=A.in1) I rx ry ra rb (by rw [Y9]; omega)
  rw [ea, eb]
  simpa using this
theorem B5 (E : EqOk r d) : EqOk (rL r) (d + 1):=by
  have un : ∀ {X : Cx} {pins : List (Addr × Obj)} {σ : St} {H : Hp} {s : Shared} {x : V} {a b : List α}, Inv X pins σ H s -> rL r X.K H x a -> rL r X.K H x b -> a = b:=by
    intro X pins σ H s x as bs I h1 h2
    obtain ⟨a, xs, rfl, q1, p1⟩:=h1
    obtain ⟨b, ys, e, q2, p2⟩:=h2
    cases e
    cases I.list_inj q1 q2
    exact Paired.uniq (F:=r X.K H) (fun _ _ _ z z'=>E.uniq I z z') p1 p2
  have rc : ∀ {X : Cx} {pins : List (Addr × Obj)} {σ : St} {H : Hp} {s : Shared} {x y : V} {v u : Value} {a b : List α} {A : Around}, Inv X pins σ H s -> X9 x v -> X9 y u -> rL r X.K H x a -> rL r X.K H y b -> A.units + (d + 1) < cLine -> SeqAt.RcAt A s v u (decide (a = b)):=by
    intro X pins σ H s x y v u as bs A I rx ry h1 h2 hu
    obtain ⟨a, xs, rfl, q1, p1⟩:=h1
    obtain ⟨b, ys, rfl, q2, p2⟩:=h2
    cases rx; cases ry
    obtain ⟨its, r1, l1, _⟩:=I.list q1
    obtain ⟨its2, r2, l2, _⟩:=I.list q2
    have n1:=r1.length
    have n2:=r2.length
    have m1:=Paired.len p1
    have m2:=Paired.len p2
    by_cases hl : as.length = bs.length
    . have := SeqAt.RcAt.lists (A := A) (e := fun j => decide (as[j]? = bs[j]?)) l1.isList l2.isList (by simp only [List.size_toArray]; omega) (by omega) (VG E I hu r1 r2 p1 p2)
      rw [show its.toArray.size = as.length by simp only [List.size_toArray]; omega, Dz hl] at this
      exact this
    . rw [decide_eq_false (fun e => hl (congrArg List.length e))]
      exact SeqAt.RcAt.lists_lengths l1.isList l2.isList (by simp only [List.size_toArray, bne_iff_ne]; omega) (by omega)
  refine ⟨un, ?_, rc, ?_, ?_⟩
  . intro X pins σ H s x y v u as bs A I rx ry h1 h2 hu
    obtain ⟨a, xs, rfl, q1, p1⟩:=id h1
    obtain ⟨b, ys, rfl, q2, p2⟩:=id h2
    have R:=rc (A:=A) I rx ry h1 h2 hu
    cases rx; cases ry
    by_cases e : a = b
    . subst e
      rw [decide_eq_true (un I h1 h2)]
      exact SeqAt.EqAt.same _
    . exact SeqAt.EqAt.of_refs e R
  . intro X pins σ H s x y v u as bs A I rx ry h1 h2 hu
    obtain ⟨a, xs, rfl, q1, p1⟩:=h1
    obtain ⟨b, ys, rfl, q2, p2⟩:=h2
    cases rx; cases ry
    obtain ⟨its, r1, l1, _⟩:=I.list q1
    obtain ⟨its2, r2, l2, _⟩:=I.list q2
    have n1:=r1.length
    have n2:=r2.length
    have m1:=Paired.len p1
    have m2:=Paired.len p2
    by_cases hl : as.length = bs.length
    . have := SeqAt.RcNeAt.lists (A := A) (e := fun j => decide (as[j]? = bs[j]?)) l1.isList l2.isList (by simp only [List.size_toArray]; omega) (by omega) (VG E I hu r1 r2 p1 p2)
      rw [show its.toArray.size = as.length by simp only [List.size_toArray]; omega, Dz hl] at this
      exact this
    . rw [decide_eq_false (fun e => hl (congrArg List.length e))]
      exact SeqAt.RcNeAt.lists_lengths l1.isList l2.isList (by simp only [List.size_toArray, bne_iff_ne]; omega) (by omega)
  . intro K H H' x as e h
    obtain ⟨a, xs, rfl, q1, p1⟩:=h
    exact ⟨a, xs, rfl, e.seq q1, Paired.imp2 (fun _ _ z=>E.keep e z) p1⟩
end
section
variable {α β : Type} [DecidableEq α] [DecidableEq β] {r : Enc α} {q : Enc β} {d : Nat}
theorem Gz {a1 a2 : α} {b1 b2 : β} : (decide (a1 = a2) && decide (b1 = b2)) = decide ((a1, b1) = (a2, b2)):=by
  rw [Bool.eq_iff_iff]; simp
theorem El (E : EqOk r d) (F : EqOk q d) : EqOk (rT2 r q) (d + 1):=by
  have un : ∀ {X : Cx} {pins : List (Addr × Obj)} {σ : St} {H : Hp} {s : Shared} {x : V} {a b : α × β}, Inv X pins σ H s -> rT2 r q X.K H x a -> rT2 r q X.K H x b -> a = b:=by
    rintro X pins σ H s x ⟨a1, a2⟩ ⟨b1, b2⟩ I h1 h2
    obtain ⟨a, x1, x2, rfl, q1, p1, p2⟩:=h1
    obtain ⟨b, y1, y2, e, q2, p3, p4⟩:=h2
    cases e
    cases I.tuple_inj q1 q2
    rw [show a1 = b1 from E.uniq I p1 p3, show a2 = b2 from F.uniq I p2 p4]
  have its : ∀ {X : Cx} {pins : List (Addr × Obj)} {σ : St} {H : Hp} {s : Shared} {x1 x2 y1 y2 : V} {u1 u2 w1 w2 : Value} {a b : α × β} {A : Around}, Inv X pins σ H s -> X9 x1 u1 -> X9 x2 u2 -> X9 y1 w1 -> X9 y2 w2 ->
      r X.K H x1 a.1 -> q X.K H x2 a.2 -> r X.K H y1 b.1 -> q X.K H y2 b.2 -> A.units + (d + 1) < cLine ->
      ∀ j (h1 : j < [u1, u2].toArray.size) (h2 : j < [w1, w2].toArray.size), SeqAt.EqAt A.in1 s [u1, u2].toArray[j] [w1, w2].toArray[j] ((fun j=>if j = 0 then decide (a.1 = b.1) else decide (a.2 = b.2)) j):=by
    intro X pins σ H s x1 x2 y1 y2 u1 u2 w1 w2 a b A I e1 e2 e3 e4 p1 p2 p3 p4 hu j h1 h2
    have hj : j = 0 ∨ j = 1:=by
      have h1' : j < 2:=h1
      omega
    rcases hj with rfl | rfl
    . exact E.eq (A:=A.in1) I e1 e3 p1 p3 (by rw [Y9]; omega)
    . exact F.eq (A:=A.in1) I e2 e4 p2 p4 (by rw [Y9]; omega)
  have rc : ∀ {X : Cx} {pins : List (Addr × Obj)} {σ : St} {H : Hp} {s : Shared} {x y : V} {v u : Value} {a b : α × β} {A : Around}, Inv X pins σ H s -> X9 x v -> X9 y u -> rT2 r q X.K H x a -> rT2 r q X.K H y b -> A.units + (d + 1) < cLine -> SeqAt.RcAt A s v u (decide (a = b)):=by
    rintro X pins σ H s x y v u ⟨a1, a2⟩ ⟨b1, b2⟩ A I rx ry h1 h2 hu
    obtain ⟨a, x1, x2, rfl, q1, p1, p2⟩:=h1
    obtain ⟨b, y1, y2, rfl, q2, p3, p4⟩:=h2
    cases rx; cases ry
    obtain ⟨i1, r1, l1, _⟩:=I.tuple q1
    obtain ⟨i2, r2, l2, _⟩:=I.tuple q2
    obtain ⟨u1, u2, rfl, e1, e2⟩:=XX.two r1
    obtain ⟨w1, w2, rfl, e3, e4⟩:=XX.two r2
    have:=SeqAt.RcAt.tuples (A:=A) l1 l2 (by omega) (its (a:=(a1, a2)) (b:=(b1, b2)) I e1 e2 e3 e4 p1 p2 p3 p4 hu)
    rw [← Gz]
    simpa [List.range_succ] using this
  refine ⟨un, ?_, rc, ?_, ?_⟩
  . intro X pins σ H s x y v u as bs A I rx ry h1 h2 hu
    obtain ⟨a, x1, x2, rfl, q1, p1, p2⟩:=id h1
    obtain ⟨b, y1, y2, rfl, q2, p3, p4⟩:=id h2
    have R:=rc (A:=A) I rx ry h1 h2 hu
    cases rx; cases ry
    by_cases e : a = b
    . subst e
      rw [decide_eq_true (un I h1 h2)]
      exact SeqAt.EqAt.same _
    . exact SeqAt.EqAt.of_refs e R
  . rintro X pins σ H s x y v u ⟨a1, a2⟩ ⟨b1, b2⟩ A I rx ry h1 h2 hu
    obtain ⟨a, x1, x2, rfl, q1, p1, p2⟩:=h1
    obtain ⟨b, y1, y2, rfl, q2, p3, p4⟩:=h2
    cases rx; cases ry
    obtain ⟨i1, r1, l1, _⟩:=I.tuple q1
    obtain ⟨i2, r2, l2, _⟩:=I.tuple q2
    obtain ⟨u1, u2, rfl, e1, e2⟩:=XX.two r1
    obtain ⟨w1, w2, rfl, e3, e4⟩:=XX.two r2
    have:=SeqAt.RcNeAt.tuples (A:=A) l1 l2 (by omega) (its (a:=(a1, a2)) (b:=(b1, b2)) I e1 e2 e3 e4 p1 p2 p3 p4 hu)
    rw [← Gz]
    simpa [List.range_succ] using this
  . intro K H H' x as e h
    obtain ⟨a, x1, x2, rfl, q1, p1, p2⟩:=h
    exact ⟨a, x1, x2, rfl, e.seqT q1, E.keep e p1, F.keep e p2⟩
end
section
variable {X : Cx} {α : Type} [DecidableEq α] {r : Enc α} {d : Nat}
noncomputable def Ly (K : PySem.W.Frag) (r : Enc α) : R2:=fun x y H Q=>∃ a b, r K H x a /\ r K H y b /\ Q (.bl (decide (a = b))) H
noncomputable def LL (K : PySem.W.Frag) (r : Enc α) : R2:=fun x y H Q=>∃ a b, r K H x a /\ r K H y b /\ Q (.bl (!decide (a = b))) H
theorem F8 (E : EqOk r d) (hu : X.A.units + d < cLine) : OpR X (compareOp .Eq) (Ly X.K r):=by
  intro pins s σ H x y v u Q I rx ry h
  obtain ⟨a, b, h1, h2, q⟩:=h
  exact E.rc (A:=X.A) I rx ry h1 h2 hu _ _ _ _ ⟨.bl _, H, I, rfl, q⟩
theorem K7 (E : EqOk r d) (hu : X.A.units + d < cLine) : OpR X (compareOp .NotEq) (LL X.K r):=by
  intro pins s σ H x y v u Q I rx ry h
  obtain ⟨a, b, h1, h2, q⟩:=h
  exact E.ne (A:=X.A) I rx ry h1 h2 hu _ _ _ _ ⟨.bl _, H, I, rfl, q⟩
theorem ZF : ZS X (.builtin "isinstance") (fun xs H Q=>∃ x n t b, xs = [x, .ty n] /\ TyOf X.K H x t /\ PySem.W.kitOne X.K t (.type n) = some b /\ Q (.bl b) H):=by
  intro pins s σ H xs us Q I r h
  obtain ⟨x, n, t, b, rfl, ty, e, q⟩:=h
  obtain ⟨u, v, rfl, ru, rv⟩:=XX.two r
  cases (show v = Value.type n from rv)
  exact Db I ru ty e fun tk=>⟨.bl b, H, I.tok tk, rfl, q⟩
theorem Jh : OpR X (binaryOp .FloorDiv) (rI (fun _ j=>0 < j /\ j.natAbs.log2 < 9000) fun i j=>.int (i / j)):=opI fun i j _ _ _ _ _ hc q=>by
  refine floordiv_int (by omega) ?_ (.inl (PyProof.noPylong_of_log2 hc.2))
  rw [Int.fdiv_eq_ediv_of_nonneg i (by omega)]
  exact q
end
end L2
namespace PySem
open Sem (wp)
section
variable {prog : Program} {w : World} {A : Around} {E : Value -> Shared -> Prop} {s : Shared}
end
end PySem
namespace L2
open PySem PySem.Spec PyProof.Rows
section
variable {X : Cx} {e : Expr} {te : TE}
end
end L2
namespace L2
open PySem PySem.Spec PyProof.Rows
section
variable {X : Cx} {pins : List (Addr × Obj)} {σ : St} {H : Hp} {s : Shared} {h' : Heap}
theorem Inv.turnLay {t' : Nat} {ch : List Addr} {T : Addr} {u : HO} (I : Inv X pins σ H s) (k : ∀ b o, b ∉ ch -> s.heap.get? b = some o -> h'.get? b = some o) (hf : ∀ b ∈ ch, K1 X pins H b)
    (hp : s.heap.objs.size <= T) (new : Yi X.prog X.w (upd H T u) h' T u) : Inv X pins σ (upd H T u) { s with heap:=h', toks:=t' }:=by
  have hn : H T = none:=I.hok.fresh hp
  have nit : ∀ b o, H b = some o -> b ∉ ch:=fun b o e z=>by rw [(hf b z).1] at e; cases e
  refine I.step (g':=s.gens) (d':=s.drawn) (ch:=ch) (fun b hb=>?_) (fun b o _ _ hc e _=>k b o hc e) (fun b o _ _ hc e _=>⟨o.slots, k b o hc e⟩)
    (fun b o _ e n=>by rw [Xp (Nat.ne_of_lt (Nat.lt_of_lt_of_le (Heap.lt_size e) hp))]; exact n)
    (fun b o hc e=>⟨o, k b o hc e⟩) (fun b xs e=>by rw [Xp (XS e hn)]; exact e) (fun b o xs e=>by rw [Xp (XS e hn)]; exact e) (fun b ps e=>⟨#[], by rw [Xp (XS e hn), e]; simp⟩) (fun m hm=>?_) (fun b v e=>?_) I.bare
  . obtain ⟨f0, f1, f2, f3, f4, f5⟩ := hf b hb
    exact ⟨f3, f1, f4, f5⟩
  . obtain ⟨o, es, ep, ho, r⟩ := hm
    exact ⟨o, es, ep, k _ o (fun z=>(hf _ z).2.1 rfl) ho, r⟩
  . by_cases hb : b = T
    . subst hb; rw [X8] at e; cases e; exact new
    . rw [Xp hb] at e
      refine (I.hok b v e).stay (fun c o hc q=>k c o ?_ q) (fun c q=>by rw [Xp (XS q hn)]; exact q) fun c xs q=>by rw [Xp (XS q hn)]; exact q
      rcases hc with z | z
      . rw [z]; exact nit b v e
      . exact nit c _ z
end
noncomputable def Ite (K : PySem.W.Frag) (a : Addr) : It:=
  ⟨fun i H=>∃ xs x, SqL K H a xs /\ xs[i]? = some x, fun i H y H'=>∃ p x, y = .ref p /\ H p = none /\ H' = upd H p (.tup [.int (i : Int), x]) /\ ∀ xs, SqL K H a xs -> xs[i]? = some x, fun i H=>∃ xs, SqL K H a xs /\ xs.length <= i⟩
theorem Fu {P : Program} {w : World} {K : PySem.W.Frag} {elts : List Expr} {k : Nat} {pos : Pos} (a e it : Addr) (h1 : e ≠ it) (h2 : a ≠ e) (h3 : a ≠ it) :
    Turn P w K (.Tuple elts k pos) (Ite K a) [e, it] e (fun i h=>(∃ old, IsEnum h e it (i : Int) old) /\ h.IsListIter it a i) where
  mem:=by simp
  obj:=fun i h st b hb=>by
    obtain ⟨⟨old, eo⟩, o, io, c, d⟩:=st
    rcases List.mem_cons.mp hb with z | z
    . subst z
      exact ⟨_, eo, fun v z=>by cases z⟩
    . have z := List.mem_singleton.mp z
      subst z
      exact ⟨o, io, fun v z=>by rw [d] at z; cases z⟩
  keep:=fun i h h' st k=>⟨let ⟨old, eo⟩:=st.1; ⟨old, k e (by simp) _ eo⟩, st.2.at fun o q=>k it (by simp) o q⟩
  item:=by
    intro X hP hw hK hc i pins s σ H E I hf st hg
    subst hP hw hK
    obtain ⟨xs, x, hq, hx⟩:=hg
    obtain ⟨its, rv, p, hz⟩:=I.list hq
    obtain ⟨u, hu, ru⟩:=rv.get hx
    obtain ⟨⟨old, eo⟩, io⟩:=id st
    have hu' : its.toArray[i]? = some u:=by simpa using hu
    have W:=WalksT.enumerate (prog:=X.prog) (w:=X.w) (A:=X.A) (I.ok.hd hc) e it a h1 h2 h3 its.toArray
    refine wpAny_pyNext_enum_item eo io p.isList hu' h1 fun h' eo' io' tup sz kk=>?_
    have hT : ∀ b o, s.heap.get? b = some o -> s.heap.objs.size ≠ b:=fun b o q z=>absurd (Heap.lt_size q) (by rw [← z]; exact Nat.lt_irrefl _)
    have hTe:=hT e _ eo
    have hTi : s.heap.objs.size ≠ it:=by obtain ⟨o, q, _⟩:=io; exact hT it o q
    have ha' : h'.IsList a its.toArray:=p.isList.at fun o q=>kk a o h2 h3 q
    refine ⟨_, rfl, W.go elts k pos i s.heap.objs.size _ _ _ ⟨⟨_, eo'⟩, io', ha', hTe, hTi⟩ fun h'' st' kk'=>?_⟩
    obtain ⟨st2, io2, _⟩:=st'
    have tup2:=kk' _ _ (by simp [hTe, hTi]) tup
    have k2 : ∀ b o, b ∉ [e, it] -> s.heap.get? b = some o -> h''.get? b = some o:=fun b o q1 q=>kk' b o q1 (kk b o (fun z=>q1 (by simp [z])) (fun z=>q1 (by simp [z])) q)
    refine ⟨.ref s.heap.objs.size, upd H s.heap.objs.size (.tup [.int (i : Int), x]), I.turnLay (h':=h'') (t':=s.toks + 1) k2 hf (Nat.le_refl _) ⟨by show 2 <= sizeLine; decide, [.int (i : Int) s.toks, u], .cons ⟨_, rfl⟩ (.cons ru .nil), ⟨_, tup2, rfl, _, rfl⟩⟩, rfl,
      ⟨_, x, rfl, I.hok.fresh (Nat.le_refl _), rfl, fun ys hy=>by rw [I.list_inj hy hq]; exact hx⟩, ⟨by simpa using st2, io2⟩, fun b hb=>?_⟩
    rcases List.mem_cons.mp hb with z | z
    . rw [z, Xp hTe.symm]; exact (hf e (by simp)).1
    . rw [List.mem_singleton.mp z, Xp hTi.symm]; exact (hf it (by simp)).1
  done:=by
    intro X hP hw hK hc i pins s σ H E I hf st hg
    subst hP hw hK
    obtain ⟨xs, hq, hx⟩:=hg
    obtain ⟨its, rv, p, hz⟩:=I.list hq
    obtain ⟨⟨old, eo⟩, io⟩:=id st
    obtain ⟨f0, f1, f2, f3, f4, f5⟩:=hf it (by simp)
    have hl:=rv.length
    exact wpAny_pyNext_enum_end (I.ok.hd hc) eo io p.isList (by simp; omega) fun h' eb=>⟨rfl, I.turned (t':=s.toks) (fun b o hb q=>eb b o hb q) f0 f1 f3 f4 f5⟩
  self:=by
    intro A i s Q E st h
    obtain ⟨⟨old, eo⟩, io⟩:=st
    exact wpAny_pyIter_enum eo h
section
variable {X : Cx} {elts : List Expr} {k : Nat} {pos0 : Pos}
noncomputable def HW (K : PySem.W.Frag) (tl : TE) : TI:=fun σ H R=>tl σ H fun x H1=>∃ a, x = .ref a /\ (∃ xs, SqL K H1 a xs) /\ R (Ite K a) H1
theorem Kl {l : Expr} {tl : TE} {p pos : Pos} (hg : Gl X "enumerate") (hm : X.mg "enumerate" = none) (hl : PE X l tl) (hs : starEach [l] X.env = [(false, eval l X.env)]:=by rfl) :
    PI X (.Tuple elts k pos0) (.Call (.Name "enumerate" p) [l] [] pos) (HW X.K tl):=by
  intro pins s σ H R I h
  refine wpAny_Call_Name_kw (JH I hg hm boot_enumerate ?_)
  refine PyProof.Rows.callWith_type1 ?_ hs rfl
  rw [hs]
  show wpAny _ _ (spliced ((false, eval l X.env) :: backTo pos [])) _ _ s
  refine Calls.spliced_cons (thn (hl pins s σ H _ I h) fun v s1 ⟨x, H1, I1, r1, a, ex, ⟨xs, hq⟩, q⟩=>?_)
  subst ex
  cases r1
  obtain ⟨its, rv, pl, hz⟩:=I1.list hq
  refine Calls.spliced_nil ?_
  have hlt : a < s1.heap.objs.size:=by obtain ⟨o, n, ho, _⟩:=pl; exact Heap.lt_size ho
  refine call_enumerate_list pl.isList fun h' en io sz kk=>?_
  refine wpAny_pyIter_enum en ?_
  refine ⟨_, [s1.heap.objs.size + 1, s1.heap.objs.size], _, _, H1, rfl, I1.kept (t':=s1.toks) kk, Fu a _ _ (Nat.ne_of_gt (Nat.lt_succ_self _)) (Nat.ne_of_lt (Nat.lt_succ_of_lt hlt)) (Nat.ne_of_lt hlt), ⟨⟨_, en⟩, io⟩, fun b hb=>?_, q⟩
  have hb' : s1.heap.objs.size <= b:=by
    rcases List.mem_cons.mp hb with z | z
    . rw [z]; exact Nat.le_succ _
    . rw [List.mem_singleton.mp z]; exact Nat.le_refl _
  exact I1.fpOk hb' (I1.hok.fresh hb')
end
noncomputable def DI (K : PySem.W.Frag) : V -> List V -> Hp -> VK -> Prop:=fun x vs H Q=>∃ l xs y, ∃ j : Nat, x = .ref l /\ vs = [y] /\ SqL K H l xs /\ Q6 y = true /\ xs.all Q6 = true /\ (∃ z, xs[j]? = some z /\ eqV z y = true) /\ (∀ (m : Nat) z, m < j -> xs[m]? = some z -> eqV z y = false) /\ Q (.int (j : Int)) H
section
variable {X : Cx}
theorem BC : MtR X "list.index" (DI X.K):=by
  intro pins s σ H x vs v us Q I rx rv h
  obtain ⟨l, xs, y, j, rfl, rfl, hq, fy, fs, ⟨z, hz, ez⟩, hm, q⟩:=h
  cases rx
  obtain ⟨u, rfl, ry⟩:=XX.one rv
  obtain ⟨its, r, pl, hle⟩:=I.list hq
  have hl:=r.length
  have hjl:=(List.getElem?_eq_some_iff.mp hz).1
  have ge : ∀ (m : Nat) (w : V), xs[m]? = some w -> ∀ hm : m < its.toArray.size, eqU y its.toArray[m] = eqV w y:=fun m w hw hm=>by
    obtain ⟨u', hu', ru'⟩:=r.get hw
    have e : its.toArray[m] = u':=by
      have:=(List.getElem?_eq_some_iff.mp hu').2
      simpa using this
    rw [e]
    exact F7 ru' (List.all_eq_true.mp fs w (List.mem_of_getElem? hw))
  obtain ⟨o, n, ho, hc, hd, hs⟩:=id pl
  obtain ⟨cls, dict, data, slots⟩:=o
  cases hc; cases hd; cases hs
  refine call_meets F.slot_list_index ⟨_, ho, rfl⟩ F.entry_list_index (F.args_list_index_2 _ _) (SeqAt.list_indexAt l its.toArray n none slots u (eqU y) j (by rw [List.size_toArray]; omega) ?_ ?_ ?_) ⟨ho, fun w hw=>Z9 ry fy r fs w (by simpa using hw), ?_⟩
  . have : sizeLine < 2 ^ 63 - 1 := by decide
    omega
  . rw [ge j z hz]; exact ez
  . intro m hm' hlt
    rw [ge m xs[m] (List.getElem?_eq_getElem (by omega))]
    exact hm m _ hlt (List.getElem?_eq_getElem (by omega))
  . exact ⟨.int (j : Int), H, I.tok _, ⟨_, rfl⟩, q⟩
end
section
variable {α : Type} [DecidableEq α] {r : Enc α} {d : Nat}
end
end L2
namespace L2
open PySem PySem.Spec PyProof.Rows
section
variable {X : Cx} {o e f : Expr} {td ty tx : TE} {apos cpos : Pos}
end
end L2
namespace L2
open PySem PySem.Spec PyProof.Rows
theorem YA : ∀ (names : List (Str × NameKind)) (n : Nat) (acc : List (Str × Addr)) {x : Str}, (x, NameKind.cell) ∉ names -> (cellsFrom n names acc).lookup x = acc.lookup x
  | [], _, _, _, _=>rfl
  | (y, k) :: r, n, acc, x, h=>by
    have hr : (x, NameKind.cell) ∉ r:=fun z=>h (List.mem_cons_of_mem _ z)
    unfold cellsFrom
    split
    . rename_i hk
      have hk' : k = NameKind.cell:=by simpa using hk
      rw [YA r _ _ hr, List.lookup_cons]
      have : (x == y) = false:=beq_eq_false_iff_ne.mpr fun e=>h (by rw [e, hk']; exact List.mem_cons_self)
      rw [this]
    . exact YA r _ _ hr
theorem ZI : ∀ (names : List (Str × NameKind)) (n : Nat) (acc : List (Str × Addr)) {x : Str} {c : Addr}, (x, NameKind.cell) ∈ names -> (cellsFrom n names acc).lookup x = some c -> n <= c
  | [], _, _, _, _, h, _=>nomatch h
  | (y, k) :: r, n, acc, x, c, h, e=>by
    unfold cellsFrom at e
    split at e
    . by_cases hr : (x, NameKind.cell) ∈ r
      . exact Nat.le_of_succ_le (ZI r _ _ hr e)
      . rw [YA r _ _ hr, List.lookup_cons] at e
        rcases List.mem_cons.mp h with h | h
        . have hx : x = y := congrArg Prod.fst h
          rw [hx, beq_self_eq_true] at e
          exact Nat.le_of_eq (Option.some.inj e)
        . exact absurd h hr
    . rename_i hk
      rcases List.mem_cons.mp h with h | h
      . exact absurd (by simpa using (congrArg Prod.snd h).symm) hk
      . exact ZI r _ _ h e
theorem ZE : ∀ (names : List (Str × NameKind)) (n : Nat) (acc : List (Str × Addr)) {x : Str}, ((x, NameKind.cell) ∈ names ∨ ∃ c, acc.lookup x = some c) -> ∃ c, (cellsFrom n names acc).lookup x = some c
  | [], _, _, _, h=>h.elim (fun z=>nomatch z) id
  | (y, k) :: r, n, acc, x, h=>by
    unfold cellsFrom
    split
    . refine ZE r _ _ ?_
      by_cases hx : x = y
      . subst hx; exact .inr ⟨n, by rw [List.lookup_cons]; simp⟩
      . rcases h with h | ⟨c, h⟩
        . rcases List.mem_cons.mp h with h | h
          . exact absurd (congrArg Prod.fst h) hx
          . exact .inl h
        . exact .inr ⟨c, by rw [List.lookup_cons, beq_eq_false_iff_ne.mpr hx]; exact h⟩
    . rename_i hk
      refine ZE r _ _ ?_
      rcases h with h | h
      . rcases List.mem_cons.mp h with h | h
        . exact absurd (by simpa using (congrArg Prod.snd h).symm) hk
        . exact .inl h
      . exact .inr h
theorem ZK : ∀ (names : List (Str × NameKind)) (n : Nat) (acc : List (Str × Addr)), (∀ x y c, acc.lookup x = some c -> acc.lookup y = some c -> x = y) -> (∀ x c, acc.lookup x = some c -> c < n) ->
    ∀ x y c, (cellsFrom n names acc).lookup x = some c -> (cellsFrom n names acc).lookup y = some c -> x = y
  | [], _, _, h, _=>h
  | (z, k) :: r, n, acc, h, hl=>by
    unfold cellsFrom
    split
    . refine ZK r (n + 1) _ (fun x y c h1 h2 => ?_) fun x c h1 => ?_
      . rw [List.lookup_cons] at h1 h2
        cases hx : x == z <;> cases hy : y == z <;> rw [hx] at h1 <;> rw [hy] at h2 <;> simp only at h1 h2
        . exact h x y c h1 h2
        . cases h2; exact absurd (hl x n h1) (Nat.lt_irrefl _)
        . cases h1; exact absurd (hl y n h2) (Nat.lt_irrefl _)
        . rw [beq_iff_eq.mp hx, beq_iff_eq.mp hy]
      . rw [List.lookup_cons] at h1
        cases hx : x == z <;> rw [hx] at h1 <;> simp only at h1
        . exact Nat.lt_succ_of_lt (hl x c h1)
        . cases h1; exact Nat.lt_succ_self _
    . exact ZK r n acc h hl
theorem Zr : ∀ (names : List (Str × NameKind)) (h : Heap) (acc : List (Str × Addr)) {x : Str} {c : Addr}, (cellsFrom h.objs.size names acc).lookup x = some c -> acc.lookup x = some c ∨ ((pushCells h names).IsCell c none /\ h.objs.size <= c)
  | [], _, _, _, _, e=>.inl e
  | (z, k) :: r, h, acc, x, c, e=>by
    unfold cellsFrom at e
    unfold pushCells
    split at e
    . rename_i hk
      rw [if_pos hk]
      have e' : (cellsFrom (h.push { cls:=.type "cell", data:=.cell none }).objs.size r ((z, h.objs.size) :: acc)).lookup x = some c:=by rw [Heap.size_push]; exact e
      rcases Zr r _ _ e' with q | ⟨q1, q2⟩
      . rw [List.lookup_cons] at q
        cases hx : x == z <;> rw [hx] at q <;> simp only at q
        . exact .inl q
        . cases q
          exact .inr ⟨⟨_, pushCells_keeps _ _ _ _ (Heap.get?_push_size _ rfl), rfl⟩, Nat.le_refl _⟩
      . exact .inr ⟨q1, by rw [Heap.size_push] at q2; omega⟩
    . rename_i hk
      rw [if_neg hk]
      exact Zr r h acc e
theorem Vu : ∀ {l : List (Str × NameKind)} {x : Str} {j k : NameKind}, (l.map (·.1)).Nodup -> (x, j) ∈ l -> (x, k) ∈ l -> j ≠ k -> False
  | [], _, _, _, _, h, _, _=>nomatch h
  | (y, i) :: r, x, j, k, hn, h1, h2, ne=>by
    rw [List.map_cons, List.nodup_cons] at hn
    rcases List.mem_cons.mp h1 with h1 | h1 <;> rcases List.mem_cons.mp h2 with h2 | h2
    . cases h1; cases h2; exact ne rfl
    . cases h1; exact hn.1 (List.mem_map.mpr ⟨_, h2, rfl⟩)
    . cases h2; exact hn.1 (List.mem_map.mpr ⟨_, h1, rfl⟩)
    . exact Vu hn.2 h1 h2 ne
theorem ZR {env : Env} : ∀ {names : List (Str × NameKind)} {x : Str} {k : NameKind},
    (names.map fun (n, k)=>if (k == NameKind.free && env.scope.kind == .function && env.kindOf n == some .cell) then (n, NameKind.cell) else (n, k)).lookup x = some k -> (k = .cell ∨ k = .free) -> (x, NameKind.free) ∈ names ∨ (x, NameKind.cell) ∈ names
  | [], _, _, h, _=>by simp at h
  | (n, kk) :: r, x, k, h, hk=>by
    have ih:=@ZR env r x k
    simp only [List.map_cons] at h
    have up : ((x, NameKind.free) ∈ r ∨ (x, NameKind.cell) ∈ r) -> ((x, NameKind.free) ∈ (n, kk) :: r ∨ (x, NameKind.cell) ∈ (n, kk) :: r):=fun z=>z.elim (fun z=>.inl (List.mem_cons_of_mem _ z)) fun z=>.inr (List.mem_cons_of_mem _ z)
    by_cases hcond : (kk == NameKind.free && env.scope.kind == .function && env.kindOf n == some .cell) = true
    . rw [if_pos hcond, List.lookup_cons] at h
      have hfree : kk = NameKind.free:=by
        rw [Bool.and_eq_true, Bool.and_eq_true] at hcond
        simpa using hcond.1.1
      cases hx : x == n with
      | true=>
        have : x = n:=by simpa using hx
        subst this; subst hfree
        exact .inl List.mem_cons_self
      | false=>rw [hx] at h; exact up (ih h hk)
    . rw [if_neg hcond, List.lookup_cons] at h
      cases hx : x == n with
      | true=>
        rw [hx] at h
        have hkk : kk = k:=Option.some.inj h
        have : x = n:=by simpa using hx
        subst this; subst hkk
        rcases hk with z | z
        . subst z; exact .inr List.mem_cons_self
        . subst z; exact .inl List.mem_cons_self
      | false=>rw [hx] at h; exact up (ih h hk)
theorem G8 {M : Model} {A : Around} {E : Value -> Shared -> Prop} {s : Shared} {scope : Scope} {globals : Addr} {cl : List (Str × Addr)} {qual : Str} {outer : Env} {Q : Env -> Shared -> Prop}
    (hQ : ∀ h', h'.Ns s.heap.objs.size (fun _=>none) -> (∀ b o, s.heap.get? b = some o -> h'.get? b = some o) ->
      (∀ x c, (cellsFrom (s.heap.objs.size + 1) scope.names cl).lookup x = some c -> cl.lookup x = some c ∨ (h'.IsCell c none /\ s.heap.objs.size + 1 <= c)) ->
      Q (newEnv scope s.heap.objs.size globals (cellsFrom (s.heap.objs.size + 1) scope.names cl) qual none .none (some outer) builtinsNs) { s with heap:=h' }) :
    wpAny M A (newFunctionEnv scope globals cl [] qual none .none (some outer)) Q E s:=by
  simp only [newFunctionEnv, Option.isSome_some, if_true]
  refine wpAny_bind (wpAny_alloc ?_)
  refine wpAny_bind (wpAny_layCells _ (fun name kind cells=>by cases hkc : kind == NameKind.cell <;> simp [hkc]) _ _ _ _ ?_)
  rw [show ({ s with heap:=s.heap.push { cls:=.type "dict", data:=.dict #[] } } : Shared).heap.objs.size = s.heap.objs.size + 1 from Heap.size_push ..]
  rw [List.forIn_nil]
  refine wpAny_bind (wpAny_pure (wpAny_pure (hQ _ ((Heap.Ns.new s.heap (.type "dict")).keeps (pushCells_keeps _ _)) (fun b o e=>pushCells_keeps _ _ b o (Heap.get?_push_of_some _ e)) fun x c e=>?_)))
  have e' : (cellsFrom (s.heap.push { cls:=.type "dict", data:=.dict #[] }).objs.size scope.names cl).lookup x = some c:=by rw [Heap.size_push]; exact e
  rcases Zr scope.names _ cl e' with q | ⟨q1, q2⟩
  . exact .inl q
  . exact .inr ⟨q1, by rw [Heap.size_push] at q2; exact q2⟩
noncomputable def JJ (sc scope : Scope) (N0 tns : List Str) (caps : List (Nat × Str)) : Bool:=
  scope.kind == .function && decide (scope.names.map (·.1)).Nodup && scope.names.all (fun y=>!(y.2 == .local) || scope.names.lookup y.1 == some .local) &&
  scope.names.all (fun y=>!(y.2 == .free) || (sc.names.lookup y.1 == some .cell || sc.names.lookup y.1 == some .free)) && caps.all (fun p=>N0[p.1]? == some p.2 && (sc.names.lookup p.2 == some .cell || sc.names.lookup p.2 == some .free) && scope.names.lookup p.2 == some .free)
noncomputable abbrev Cx.compN (X : Cx) (N : List Str) (scope : Scope) (cl : List (Str × Addr)) (C : Addr) (s : Shared) (H : Hp) (ex : List Addr) (E : Value -> Shared -> Prop) : Cx:=
  { X.comp N scope cl C s H ex E with fn:=fun x=>scope.names.lookup x == some .cell }
noncomputable def Ls (scope sc : Scope) : Scope:=
  { scope with names:=scope.names.map fun (n, k)=>if (k == .free && sc.kind == .function && sc.names.lookup n == some .cell) then (n, .cell) else (n, k) }
section
variable {X : Cx} {elt tg iter : Expr} {ifs : List Expr} {scope sc : Scope} {pos : Pos} {n : Nat} {tns : List Str} {caps : List (Nat × Str)} {wi : TI} {g : TG} {tt : TT} {te : TE}
theorem KC {N0 : List Str} (hc : X.calm = true) (hsc : X.env.scope = sc) (hN0 : X.N = N0) (ok : JJ sc scope N0 tns caps = true) (hn : tns.length = n) (hG : Q5 n g)
    (hb : ∀ cl C s H ex E, PG (X.compN (tns ++ caps.map (·.2)) scope cl C s H ex E) tg g /\ PTs (X.compN (tns ++ caps.map (·.2)) scope cl C s H ex E) ifs tt /\ PE (X.compN (tns ++ caps.map (·.2)) scope cl C s H ex E) elt te)
    {pins : List (Addr × Obj)} {σ : St} {H : Hp} {s : Shared} {J : It} {fp : List Addr} {it : Addr} {tn : Nat -> Heap -> Prop} {cl : List (Str × Addr)} {Q : V -> Hp -> Prop} {RR : Value -> Addr -> Result -> Shared -> Prop}
    (I : Inv X pins σ H s) (T : Turn X.prog X.w X.K tg J fp it tn) (t0 : tn 0 s.heap) (hf : ∀ b ∈ fp, K1 X pins H b)
    (hsub : ∀ x c, cl.lookup x = some c -> X.env.cells.lookup x = some c) (hall : ∀ x, (x, NameKind.free) ∈ scope.names -> ∃ c, cl.lookup x = some c)
    (W : Nat -> Nat -> List V -> Hp -> Prop) {m0 : Nat} (w0 : W 0 m0 [] H)
    (turn : Bo g tt te (YQ n caps σ) Q J W)
    (hRR : ∀ D C ys H3 s', CompEnd X pins σ H3 D C ys s' -> Q (.ref D) (upd H3 D (.lst ys)) -> RR (.ref D) C (.ok .next) s') {E : Value -> Shared -> Prop} :
    wpAny (model X.prog X.w) X.A (newList []) (fun acc s₃=>wpAny (model X.prog X.w) X.A (newFunctionEnv scope X.env.globals cl [] X.env.qual none .none (some X.env)) (fun cenv s₄=>
      codeAny (model X.prog X.w) X.A (.compStart (.ListComp elt [⟨tg, iter, ifs, 0⟩] scope pos) 0 (.ref it) acc { cenv with scope:=relabel scope X.env }) (RR acc cenv.locals) s₄) E s₃) E s:=by
  subst hsc
  subst hN0
  unfold JJ at ok
  simp only [Bool.and_eq_true, List.all_eq_true] at ok
  obtain ⟨⟨⟨⟨ok1, ok2⟩, ok3⟩, ok4⟩, ok5⟩:=ok
  have hkind : scope.kind = .function:=by simpa using ok1
  have hnd : (scope.names.map (·.1)).Nodup:=by simpa using ok2
  refine wpAny_newObj_type (G8 (fun h₁ hns₁ hsb₁ hc₁=>?_))
  dsimp only at hns₁ hsb₁ hc₁ ⊢
  generalize hH2 : s.heap.push { cls:=.type "list", dict:=none, data:=.seq ([] : List Value).toArray } = H2 at hns₁ hsb₁ hc₁ ⊢
  have hC : H2.objs.size = s.heap.objs.size + 1:=by rw [← hH2, Heap.size_push]
  have hDC : s.heap.objs.size ≠ H2.objs.size:=by rw [hC]; exact Nat.ne_of_lt (Nat.lt_succ_self _)
  have hCle : s.heap.objs.size <= H2.objs.size:=by rw [hC]; exact Nat.le_succ _
  have below : ∀ b, b < s.heap.objs.size -> b ≠ H2.objs.size /\ b ≠ s.heap.objs.size:=fun b hb=>⟨by rw [hC]; exact Nat.ne_of_lt (Nat.lt_succ_of_lt hb), Nat.ne_of_lt hb⟩
  have old : ∀ b o, s.heap.get? b = some o -> h₁.get? b = some o:=fun b o e=>hsb₁ b o (hH2 ▸ Heap.get?_push_of_some _ e)
  have hacc : h₁.get? s.heap.objs.size = some { cls:=.type "list", data:=.seq ([] : List Value).toArray 0 }:=hsb₁ _ _ (hH2 ▸ Heap.get?_push_size _ rfl)
  have hst₁ : tn 0 h₁:=T.keep _ _ _ t0 fun b _ o e=>old b o e
  have cf2 : ∀ x, (x, NameKind.free) ∈ scope.names -> ∃ c, (cellsFrom (H2.objs.size + 1) scope.names cl).lookup x = some c /\ cl.lookup x = some c:=fun x hx=>by
    obtain ⟨c, hc⟩:=hall x hx
    exact ⟨c, by rw [YA scope.names _ _ (fun hm=>Vu hnd hx hm (by decide))]; exact hc, hc⟩
  have cf3 : ∀ x, (x, NameKind.cell) ∈ scope.names -> ∃ c, (cellsFrom (H2.objs.size + 1) scope.names cl).lookup x = some c:=fun x hx=>ZE scope.names _ _ (.inl hx)
  have cf4 : ∀ x y c, (cellsFrom (H2.objs.size + 1) scope.names cl).lookup x = some c -> (cellsFrom (H2.objs.size + 1) scope.names cl).lookup y = some c -> x = y:=
    ZK scope.names _ _ (fun x y c h1 h2=>I.ok.inj x y c (hsub x c h1) (hsub y c h2)) (fun x c e=>by
      obtain ⟨v, z⟩:=I.cell x c (hsub x c e)
      exact Nat.lt_of_lt_of_le z.lt (by rw [hC]; omega))
  have cf5 : ∀ x c, scope.names.lookup x = some NameKind.cell -> (cellsFrom (H2.objs.size + 1) scope.names cl).lookup x = some c -> H2.objs.size + 1 <= c:=fun x c hx e=>ZI scope.names _ _ (PySem.mem_of_lookup hx) e
  generalize hcl : cellsFrom (H2.objs.size + 1) scope.names cl = cl' at *
  -- addresses
  generalize hD : s.heap.objs.size = D at *
  generalize hCe : H2.objs.size = C at *
  have fpLt : ∀ b ∈ fp, b < D:=fun b hb=>by
    obtain ⟨o, e, _⟩:=T.obj _ _ t0 b hb
    rw [← hD]; exact Heap.lt_size e
  have hDlt : D < C:=by omega
  have cellNe : ∀ x c, cl'.lookup x = some c -> c ≠ D:=fun x c e=>by
    rcases hc₁ x c e with q | ⟨_, q⟩
    . obtain ⟨v, z⟩ := I.cell x c (hsub x c q)
      rw [← hD]; exact Nat.ne_of_lt z.lt
    . exact Nat.ne_of_gt (Nat.lt_trans hDlt (Nat.lt_of_succ_le q))
  have fpNe : ∀ b ∈ fp, ∀ x c, cl'.lookup x = some c -> c ≠ b:=fun b hb x c e=>by
    rcases hc₁ x c e with q | ⟨_, q⟩
    . exact (hf b hb).2.2.2.2.1 x c (hsub x c q)
    . exact Nat.ne_of_gt (Nat.lt_trans (fpLt b hb) (Nat.lt_trans hDlt (Nat.lt_of_succ_le q)))
  let X' : Cx:=X.compN (tns ++ caps.map (·.2)) scope cl' C s H fp (notedBy (model X.prog X.w) X.A (compEnvC scope cl' C X.env) fun e s'=>RR (.ref D) C (.error e) s')
  have okX : X'.Ok:=by
    refine ⟨I.ok.mod, hkind, I.ok.glob, I.ok.blt, by show s.heap.objs.size <= C; omega, cf4, fun x hx=>?_, fun x c hx hcx=>(by show s.heap.objs.size <= c; have:=cf5 x c (by have hx2 : (scope.names.lookup x == some NameKind.cell) = true:=hx; simpa using hx2) hcx; omega), I.ok.hd, I.ok.frames, .inl rfl, fun b hb=>?_, I.bs, Nat.le_trans I.ok.bsz I.sz, fun b o e hb=>?_, fun b hb hz=>?_, I.stack, I.stkFree⟩
    . have hx' : (relabel scope X.env).names.lookup x = some .cell ∨ (relabel scope X.env).names.lookup x = some .free := hx
      have hz : (x, NameKind.free) ∈ scope.names ∨ (x, NameKind.cell) ∈ scope.names:=by
        rcases hx' with z | z
        . exact ZR z (.inl rfl)
        . exact ZR z (.inr rfl)
      rcases hz with z | z
      . obtain ⟨c, q, _⟩ := cf2 x z
        exact ⟨c, q⟩
      . exact cf3 x z
    . refine ⟨Nat.ne_of_lt (Nat.lt_trans (fpLt b hb) hDlt), fpNe b hb⟩
    . rcases (hf b hb).2.2.2.1 with z | z
      . exact I.ok.noex b o e z
      . exact absurd (Nat.lt_of_lt_of_le (Heap.lt_size e) (Nat.le_trans I.ok.bsz z)) (Nat.lt_irrefl _)
    . rcases List.mem_cons.mp (I.stkSub b hz) with z | z
      . exact (hf b hb).2.1 z
      . exact (hf b hb).2.2.1 z
  have lenc : (YQ n caps σ).length = (tns ++ caps.map (·.2)).length:=by unfold YQ; simp [hn]
  have I1 : ∀ tk, Inv X' [] (YQ n caps σ) H { s with heap:=h₁, toks:=tk }:=fun tk=>by
    refine ⟨okX, rfl, I.bare, Un.kept old, ⟨_, hns₁, fun i x v e1 e2 e3=>?_⟩, fun x c e=>?_, I.hok.fresh (by rw [hD]; exact Nat.le_of_lt hDlt), fun x c e=>?fc, fun p hp=>absurd (show p ∈ ([] : List (Addr × Obj)) from hp) (by simp), I.hok.kept old, lenc⟩
    . have hi : n <= i:=by
        by_cases h : n <= i
        . exact h
        . have e2' : (YQ n caps σ)[i]? = some (some v) := e2
          unfold YQ at e2'
          rw [List.getElem?_append_left (by simp; omega), List.getElem?_replicate] at e2'
          split at e2' <;> cases e2'
      have e2' : (YQ n caps σ)[i]? = some (some v):=e2
      unfold YQ at e2'
      rw [List.getElem?_append_right (by simpa using hi), List.length_replicate, List.getElem?_map] at e2'
      have e1' : (tns ++ caps.map (·.2))[i]? = some x:=e1
      rw [List.getElem?_append_right (by rw [hn]; exact hi), hn, List.getElem?_map] at e1'
      cases hcp : caps[i - n]? with
      | none=>rw [hcp] at e2'; cases e2'
      | some p=>
        rw [hcp] at e2' e1'
        simp only [Option.map_some, Option.some.injEq] at e2' e1'
        have hp5:=ok5 p (List.mem_of_getElem? hcp)
        simp only [beq_iff_eq, Bool.or_eq_true] at hp5
        obtain ⟨⟨p1, p2⟩, p3⟩:=hp5
        have hσ : σ[p.1]? = some (some v):=by
          cases hq : σ[p.1]? with
          | none=>rw [hq] at e2'; cases e2'
          | some o=>rw [hq] at e2'; simp at e2'; rw [e2']
        subst e1'
        obtain ⟨m, hm, hl⟩:=I.loc
        obtain ⟨u, r, l⟩:=hl p.1 p.2 v p1 hσ (.inr p2)
        refine ⟨u, r, .inr ?_⟩
        rcases l with ⟨k, _⟩ | ⟨k, c, e, z⟩
        . have k' : X.env.scope.names.lookup p.2 = some .local := k
          rcases p2 with p2 | p2 <;> (rw [p2] at k'; cases k')
        . obtain ⟨c', e', e''⟩ := cf2 p.2 (PySem.mem_of_lookup p3)
          have:=hsub _ _ e''
          rw [e] at this; cases this
          obtain ⟨o, ho, hd⟩:=z
          exact ⟨ZT (env:=X.env) p3, c, e', ⟨o, old _ _ ho, hd⟩⟩
    . rcases hc₁ x c e with q | ⟨q, _⟩
      . obtain ⟨v, o, ho, hd⟩ := I.cell x c (hsub x c q)
        exact ⟨v, o, old _ _ ho, hd⟩
      . exact ⟨_, q⟩
    case fc=>
      rcases hc₁ x c e with q | ⟨_, q⟩
      . exact I.freeC x c (hsub x c q)
      . exact I.hok.fresh (by rw [hD]; omega)
  obtain ⟨hg, ht, he⟩:=hb cl' C s H fp X'.xe
  have fsLt : ∀ b ∈ X'.fs, b < D:=fun b hb=>by
    obtain ⟨_, o, ho, _⟩:=I.stack.mem hb
    rw [← hD]; exact Heap.lt_size ho
  have aY : CAt X' fp D:=⟨hc, rfl, Nat.ne_of_lt hDlt, fun hz=>absurd (fsLt _ hz) (Nat.lt_irrefl _), by show s.heap.objs.size <= D; omega, cellNe, fun b hb=>Nat.ne_of_lt (fpLt b hb), fun b hb H' h'=>⟨h', Nat.ne_of_lt (Nat.lt_trans (fpLt b hb) hDlt), okX.exfs b hb, .inl hb, fpNe b hb, fun p hp=>U0 (α:=Addr × Obj) hp⟩⟩
  have loop : ∀ s₃ : Shared, (∃ tk, s₃ = { s with heap:=h₁, toks:=tk }) ->
      codeAny (model X.prog X.w) X.A (.compLoop (.ListComp elt [⟨tg, iter, ifs, 0⟩] scope pos) 0 (.ref it) (.ref D) (compEnvC scope cl' C X.env)) (RR (.ref D) C) s₃:=by
    rintro s₃ ⟨tk, rfl⟩
    exact Vt (Y:=X') rfl T hG hg ht he aY (fun j v e=>(JD e).1) turn (fun ys its k H3 s4 I4 rv hz q=>hRR _ C ys H3 s4 (GD I hf (Nat.le_of_eq hD) hDlt I4 I4.os I4.base I4.hok rfl rv hz) q)
      (.mk 0 H [] [] 0 ⟨I1 tk, hst₁, fun b hb=>(hf b hb).1, hacc, I.hok.fresh (by rw [hD]; exact Nat.le_refl _)⟩ .nil w0)
  exact codeAny_compStart_list (loop _ ⟨_, rfl⟩) (T.self _ 0 _ _ _ hst₁ (loop _ ⟨_, rfl⟩))
theorem Bw (sc : Scope) (N0 : List Str) (tns : List Str) (caps : List (Nat × Str)) (hc : X.calm = true) (hi : PI X tg iter wi) (hG : Q5 tns.length g)
    (hb : ∀ cl C s H ex E, PG (X.compN (tns ++ caps.map (·.2)) scope cl C s H ex E) tg g /\ PTs (X.compN (tns ++ caps.map (·.2)) scope cl C s H ex E) ifs tt /\ PE (X.compN (tns ++ caps.map (·.2)) scope cl C s H ex E) elt te)
    (hsc : X.env.scope = sc:=by rfl) (hN0 : X.N = N0:=by rfl) (ok : JJ sc scope N0 tns caps = true:=by decide +kernel)
    (hs : ∀ x, foldedSetIterable iter X.env x = pure x:=by intro _; rfl) :
    PE X (.ListComp elt [⟨tg, iter, ifs, 0⟩] scope pos) (Ks tns.length caps wi g tt te):=by
  intro pins s σ H Q I h
  have ok':=ok
  unfold JJ at ok'
  simp only [Bool.and_eq_true, List.all_eq_true] at ok'
  obtain ⟨⟨⟨⟨ok1, ok2⟩, ok3⟩, ok4⟩, ok5⟩:=ok'
  obtain ⟨cl, ecl, hsub, hall⟩:=KW (scope:=scope) (env:=X.env) fun x hx hfr=>by
    have:=ok4 x hx
    rw [hfr] at this
    have z : sc.names.lookup x.1 = some .cell ∨ sc.names.lookup x.1 = some .free:=by simpa using this
    exact I.ok.has x.1 (by show X.env.scope.names.lookup x.1 = _ ∨ X.env.scope.names.lookup x.1 = _; rw [hsc]; exact z)
  rw [eval_ListComp]
  refine wpAny_comprehension_free (use:=none) rfl hs ecl (by simpa using ok1) (fun x hx hl=>by have:=ok3 x hx; rw [hl] at this; simpa using this) (thn (hi pins s σ H _ I h) fun xv s₁ h₁=>thn h₁ fun itv s₂ h₂=>?_)
  obtain ⟨it, fp, tn, J, H', rfl, I2, T, st2, f2, W, ⟨m0, w0⟩, turn⟩:=h₂
  refine KC (RR:=fun acc C=>compPost (model X.prog X.w) X.A X.xe none (EP X pins σ Q) acc C) hc hsc hN0 ok rfl hG hb I2 T st2 f2 hsub hall W w0 turn ?_
  intro D C ys H3 s' ce q
  obtain ⟨mm, hns⟩:=ce.ns
  refine ⟨mm, hns, fun h' hs'=>⟨.ref D, _, ?_, rfl, q⟩⟩
  obtain ⟨c0, c1, c2, c3, c4, c5⟩:=ce.fp
  exact ce.inv.turned (t':=s'.toks) (fun b o hb' e=>(hs'.extBut b o hb' e)) c0 c1 c3 c4 c5
end
end L2
namespace L2
open PySem PySem.Spec PyProof.Rows
theorem JM : ∀ (xs : List V) (us : List Value), xs.length = us.length -> (∀ (j : Nat) x u, xs[j]? = some x -> us[j]? = some u -> X9 x u) -> XX xs us
  | [], [], _, _=>.nil
  | [], _ :: _, h, _=>by simp at h
  | _ :: _, [], h, _=>by simp at h
  | x :: xs, u :: us, h, r=>.cons (r 0 x u rfl rfl) (JM xs us (by simpa using h) fun j y v e1 e2=>r (j + 1) y v (by simpa using e1) (by simpa using e2))
noncomputable def K9 (ta : TA) : TE:=fun σ H Q=>ta σ H fun vs H1=>∃ j : Int, vs = [.int j] /\ 0 <= j /\ j <= 1000 /\ ∀ p, H1 p = none -> Q (.ref p) (upd H1 p (.lst ((List.range j.toNat).map fun i=>V.int ((i : Nat) : Int))))
variable {X : Cx}
theorem Zh {e : Expr} {ta : TA} {p q q2 pos : Pos} (hc : X.calm = true) (hg : Gl X "list") (hg2 : Gl X "range") (hm : X.mg "list" = none) (hm2 : X.mg "range" = none) (ha : PA X [e] ta)
    (hs : starEach [.Call (.Name "range" q) [e] [] q2] X.env = [(false, eval (.Call (.Name "range" q) [e] [] q2) X.env)]:=by rfl) (hs2 : starEach [e] X.env = [(false, eval e X.env)]:=by rfl) :
    PE X (.Call (.Name "list" p) [.Call (.Name "range" q) [e] [] q2] [] pos) (K9 ta):=by
  intro pins s σ H Q I h
  refine wpAny_Call_Name_kw (JH I hg hm PyProof.Rows.boot_list ?_)
  refine PyProof.Rows.callWith_type1 ?_ hs rfl
  rw [hs]
  show wpAny _ _ (spliced ((false, eval (.Call (.Name "range" q) [e] [] q2) X.env) :: backTo pos [])) _ _ s
  refine Calls.spliced_cons ?_
  refine wpAny_Call_Name_kw (JH I hg2 hm2 boot_range ?_)
  refine PyProof.Rows.callWith_type1 (thn (ha q2 pins s σ H _ I h) fun us s1 ⟨vs, H1, I1, r1, q1⟩=>?_) hs2 rfl
  obtain ⟨j, e, h0, h1, k⟩:=q1
  subst e
  cases r1 with
  | cons r rr=>
    cases rr
    obtain ⟨t, rfl⟩:=r
    refine call_range_1 ?_
    refine Calls.spliced_nil ?_
    refine call_list_range (n:=j.toNat) (I.ok.hd hc) (IsRange.new ..) (small_one (by omega) (by omega) (by omega) (by omega)) (by rw [rangeSize_one]; split <;> omega) (by omega) fun h' tk acc' c' hk hS hacc=>?_
    refine ⟨.ref _, _, I1.laid (h':=h') (t':=tk) (o:=.lst ((List.range j.toNat).map fun i=>V.int ((i : Nat) : Int))) (fun b o e=>hk b o (Heap.get?_push_of_some _ e)) (by rw [Heap.size_push]; exact Nat.le_succ _) ?_, rfl, k _ (I1.hok.fresh (by rw [Heap.size_push]; exact Nat.le_succ _))⟩
    refine ⟨by rw [List.length_map, List.length_range]; exact Nat.le_of_lt (DO (by omega)), acc'.toList, c', JM _ _ (by simp [hacc.1]) fun i x u e1 e2=>?_, hS⟩
    have e2' : acc'[i]? = some u:=by simpa using e2
    obtain ⟨tk, rfl⟩:=hacc.2 i u e2'
    rw [List.getElem?_map] at e1
    cases e3 : (List.range j.toNat)[i]? with
    | none=>rw [e3] at e1; cases e1
    | some z=>
      rw [e3] at e1
      have hz : z = i:=by
        have hi : i < j.toNat:=by have:=(List.getElem?_eq_some_iff.mp e3).1; simpa using this
        rw [List.getElem?_range hi] at e3
        exact (Option.some.inj e3).symm
      subst hz
      have : x = V.int (z : Int):=(Option.some.inj e1).symm
      subst this
      exact ⟨tk, by simp⟩
end L2
namespace L2
open PySem PySem.Spec PyProof.Rows
theorem FQ {l : List Expr} {p : Pos} {es : List Expr} {env : Env} : starEach (.List l p :: es) env = (false, eval (.List l p) env) :: starEach es env:=rfl
theorem VN {X : Cx} {l : List Expr} {p : Pos} {es : List Expr} {te : TE} {t : TA} (ha : PE X (.List l p) te) (hr : PA X es t) : PA X (.List l p :: es) (XA te t):=Xd ha hr FQ
end L2
namespace L2
open PySem PySem.Spec PyProof.Rows
theorem DL {X : Cx} (K : PySem.W.Frag) (h : X.K = K) : MtR X "list.index" (DI K):=by subst h; exact BC
end L2
namespace L2
open PySem PySem.Spec PyProof.Rows
variable {X : Cx} {o e : Expr} {es : List Expr} {to : TE} {t : TA} {name : Str} {apos cpos : Pos} {T id : String} {r : V -> List V -> Hp -> VK -> Prop}
theorem HF (K : PySem.W.Frag) (hK : X.K = K) (pa : PlainAttrs T) (slot : Slot T name id) (hty : typeOf (.builtin id) = pure (.type "method_descriptor")) (hm : MtR X id r) (ho : PE X o to) (ha : PA X (e :: es) t)
    (hbase : attributeBase o name X.env (eval o X.env) = eval o X.env:=by rfl)
    (hfew : ((backTo cpos (starEach (e :: es) X.env)).all (fun x=>!x.1) && (backToKw cpos (keywordEach [] X.env)).all (fun x=>x.1.isSome)
      && decide ((e :: es).length + ([] : List Keyword).length + (if ([] : List Keyword).isEmpty then 0 else 1) < 30)) = true:=by rfl)
    (hline : (apos.endLine == cpos.line) = true:=by rfl) (hs : starEach (e :: es) X.env = (false, eval e X.env) :: starEach es X.env:=by rfl) (hplain : (backTo cpos (starEach es X.env)).any (·.1) = false:=by rfl) :
    PE X (.Call (.Attribute o name apos) (e :: es) [] cpos) (tBM K T r to t):=by
  subst hK
  exact Q8 pa slot hty hm ho ha hbase hfew hline hs hplain
end L2
namespace PySem
open PySem.Spec
namespace SeqAt
open MeetsSeq
end SeqAt
end PySem
namespace L2
open PySem PySem.Spec PyProof.Rows
section
variable {X : Cx}
end
end L2
namespace L2
open PySem PySem.Spec PyProof.Rows
section
variable {X : Cx}
end
end L2
namespace L2
open PySem PySem.Spec PyProof.Rows
section
variable {X : Cx} {α : Type} [DecidableEq α] {r : Enc α} {d : Nat}
end
section
variable {X : Cx}
end
section
variable {X : Cx}
theorem GT (K : PySem.W.Frag) (h : X.K = K) : OpR X (compareOp .In) (rIn K false):=by subst h; exact Dp
variable {T : String} {name : Str} {id : String} {r : V -> List V -> Hp -> VK -> Prop} {o e : Expr} {es : List Expr} {to : TE} {t : TA} {apos cpos : Pos}
theorem HA {K : PySem.W.Frag} (hK : X.K = K) (pa : PlainAttrs T) (slot : Slot T name id) (hty : typeOf (.builtin id) = pure (.type "method_descriptor")) (hm : MtR X id r) (ho : PE X o to) (ha : PA X (e :: es) t)
    (hbase : attributeBase o name X.env (eval o X.env) = eval o X.env:=by rfl)
    (hfew : ((backTo cpos (starEach (e :: es) X.env)).all (fun x=>!x.1) && (backToKw cpos (keywordEach [] X.env)).all (fun x=>x.1.isSome)
      && decide ((e :: es).length + ([] : List Keyword).length + (if ([] : List Keyword).isEmpty then 0 else 1) < 30)) = true:=by rfl)
    (hline : (apos.endLine == cpos.line) = true:=by rfl) (hs : starEach (e :: es) X.env = (false, eval e X.env) :: starEach es X.env:=by rfl) (hplain : (backTo cpos (starEach es X.env)).any (·.1) = false:=by rfl) :
    PE X (.Call (.Attribute o name apos) (e :: es) [] cpos) (tBM K T r to t):=HF K hK pa slot hty hm ho ha hbase hfew hline hs hplain
end
section
variable {X : Cx} {elt tg iter : Expr} {ifs : List Expr} {scope : Scope} {pos : Pos} {wi : TI} {g : TG} {tt : TT} {te : TE}
theorem GE {sc : Scope} {N0 : List Str} {tns : List Str} {caps : List (Nat × Str)} (hc : X.calm = true) (hi : PI X tg iter wi) (hG : Q5 tns.length g)
    (hb : ∀ cl C s H ex E, PG (X.compN (tns ++ caps.map (·.2)) scope cl C s H ex E) tg g /\ PTs (X.compN (tns ++ caps.map (·.2)) scope cl C s H ex E) ifs tt /\ PE (X.compN (tns ++ caps.map (·.2)) scope cl C s H ex E) elt te)
    (hsc : X.env.scope = sc:=by rfl) (hN0 : X.N = N0:=by rfl) (ok : JJ sc scope N0 tns caps = true:=by decide +kernel)
    (hs : ∀ x, foldedSetIterable iter X.env x = pure x:=by intro _; rfl) :
    PE X (.ListComp elt [⟨tg, iter, ifs, 0⟩] scope pos) (Ks tns.length caps wi g tt te):=Bw sc N0 tns caps hc hi hG hb hsc hN0 ok hs
theorem ZG {sc : Scope} {N0 : List Str} {tns : List Str} {caps : List (Nat × Str)} (hc : X.calm = true) (hi : PI X tg iter wi) (hG : Q5 tns.length g)
    (hb : ∀ cl C s H ex E, PG (X.comp (tns ++ caps.map (·.2)) scope cl C s H ex E) tg g /\ PTs (X.comp (tns ++ caps.map (·.2)) scope cl C s H ex E) ifs tt /\ PE (X.comp (tns ++ caps.map (·.2)) scope cl C s H ex E) elt te)
    (hsc : X.env.scope = sc:=by rfl) (hN0 : X.N = N0:=by rfl) (ok : UE sc scope N0 tns caps = true:=by decide +kernel)
    (hs : ∀ x, foldedSetIterable iter X.env x = pure x:=by intro _; rfl) :
    PE X (.ListComp elt [⟨tg, iter, ifs, 0⟩] scope pos) (Ks tns.length caps wi g tt te):=Ei sc N0 tns caps hc hi hG hb hsc hN0 ok hs
end
section
variable {X : Cx} {tg l : Expr} {tl : TE} {p pos : Pos} {K : PySem.W.Frag}
theorem X2 (h : X.K = K) (hl : PE X l tl) : PI X tg l (Cr K tl):=by subst h; exact B7 hl
end
end L2
namespace L2
open PySem PySem.Spec PyProof.Rows
section
variable {X : Cx}
end
end L2
namespace L2
open PySem PySem.Spec PyProof.Rows
inductive Pay where
  | non | int (i : Int) | tag (t : Str) (xs : List Int)
  deriving DecidableEq
structure Exc where
  cls : Str
  pay : Pay
inductive Res (α : Type) where
  | bad | err (x : Exc) | ok (a : α)
noncomputable def Res.bind {α β : Type} : Res α -> (α -> Res β) -> Res β
  | .bad, _=>.bad
  | .err x, _=>.err x
  | .ok a, f=>f a
theorem Res.ok_bind {α β : Type} (a : α) (f : α -> Res β) : (Res.ok a).bind f = f a:=rfl
noncomputable def chk {α : Type} (c : Prop) [Decidable c] (m : Res α) : Res α:=if c then m else .bad
theorem XD {α : Type} {c : Prop} [Decidable c] {m : Res α} (h : c) : chk c m = m:=if_pos h
noncomputable abbrev XG:=Addr × HO
noncomputable def Ht : HO -> Bool
  | .lst _=>true
  | .dK _=>true
  | .dT _=>true
  | _=>false
noncomputable def fl (OO : List (List XG)) : List Addr:=OO.flatten.map (·.1)
open Classical in
noncomputable def hid (H : Hp) (OO : List (List XG)) : Hp:=fun b=>if b ∈ fl OO then none else H b
structure W (OO : List (List XG)) (H : Hp) : Prop where
  tr : ∀ c ∈ OO.flatten, H c.1 = some c.2
  nd : (fl OO).Nodup
  mu : ∀ c ∈ OO.flatten, Ht c.2 = true
theorem X0 {H : Hp} {OO} {b : Addr} {o : HO} (h : hid H OO b = some o) : H b = some o /\ b ∉ fl OO:=by
  unfold hid at h
  split at h
  . cases h
  . exact ⟨h, by assumption⟩
theorem Zk {H : Hp} {OO} {b : Addr} {o : HO} (h : H b = some o) (n : b ∉ fl OO) : hid H OO b = some o:=by
  unfold hid; rw [if_neg n]; exact h
theorem Xv {H : Hp} {OO} : Xo (hid H OO) H:=fun b o h=>(X0 h).1
theorem Xj {H H' : Hp} {OO} (s : Xo H H') : Xo (hid H OO) (hid H' OO):=fun b o h=>Zk (s _ _ (X0 h).1) (X0 h).2
theorem VU {H H' : Hp} {OO OO'} (s : Xo H H') (h : ∀ b, b ∈ fl OO' -> b ∈ fl OO) : Xo (hid H OO) (hid H' OO'):=fun b o q=>Zk (s _ _ (X0 q).1) fun z=>(X0 q).2 (h b z)
theorem Yo {C : List XG} {OO} : fl (C :: OO) = C.map (·.1) ++ fl OO:=by simp [fl]
theorem Di {OO} : fl ([] :: OO) = fl OO:=by simp [fl]
theorem YH {H : Hp} {OO} : hid H ([] :: OO) = hid H OO:=by unfold hid; rw [Di]
theorem W.keep {OO} {H H' : Hp} (w : W OO H) (s : Xo H H') : W OO H':=⟨fun c hc=>s _ _ (w.tr c hc), w.nd, w.mu⟩
theorem W.of {OO OO' : List (List XG)} {H : Hp} (w : W OO H) (h : OO'.flatten.Perm OO.flatten) : W OO' H:=
  ⟨fun c hc=>w.tr c (h.mem_iff.mp hc), (h.map _).nodup_iff.mpr w.nd, fun c hc=>w.mu c (h.mem_iff.mp hc)⟩
theorem W.sub {OO OO' : List (List XG)} {H : Hp} (w : W OO H) (h : OO'.flatten.Sublist OO.flatten) : W OO' H:=
  ⟨fun c hc=>w.tr c (h.mem hc), (h.map _).nodup w.nd, fun c hc=>w.mu c (h.mem hc)⟩
theorem W.tail {C OO} {H : Hp} (w : W (C :: OO) H) : W OO H:=w.sub (by simp)
theorem W.nil {OO} {H : Hp} (w : W OO H) : W ([] :: OO) H:=w.of (by simp)
theorem W.cell {C OO} {H : Hp} (w : W (C :: OO) H) : ∀ c ∈ C, H c.1 = some c.2:=fun c hc=>w.tr c (by simp [hc])
theorem QW {OO : List (List XG)} {c : XG} (h : c ∈ OO.flatten) : c.1 ∈ fl OO:=List.mem_map.mpr ⟨c, h, rfl⟩
theorem FX {OO : List (List XG)} {b : Addr} (h : b ∈ fl OO) : ∃ o, (b, o) ∈ OO.flatten:=by
  obtain ⟨⟨a, o⟩, hc, rfl⟩:=List.mem_map.mp h
  exact ⟨o, hc⟩
theorem W.fresh {OO} {H : Hp} (w : W OO H) {p : Addr} (h : H p = none) : p ∉ fl OO:=fun z=>by
  obtain ⟨o, ho⟩:=FX z
  have:=w.tr _ ho
  rw [h] at this; cases this
theorem W.new {OO} {H : Hp} (w : W OO H) {p : Addr} (h : H p = none) {o : HO} (m : Ht o = true) : W ([(p, o)] :: OO) (upd H p o):=by
  have hf:=w.fresh h
  refine ⟨fun c hc=>?_, ?_, fun c hc=>?_⟩
  . simp only [List.flatten_cons, List.cons_append, List.nil_append, List.mem_cons] at hc
    rcases hc with rfl | hc
    . exact X8
    . rw [Xp (fun e=>hf (by rw [← e]; exact QW hc))]; exact w.tr c hc
  . rw [Yo]; simpa using ⟨hf, w.nd⟩
  . simp only [List.flatten_cons, List.cons_append, List.nil_append, List.mem_cons] at hc
    rcases hc with rfl | hc
    . exact m
    . exact w.mu c hc
theorem VT {OO} {H : Hp} {p : Addr} (h : H p = none) {o : HO} : Xo (hid H OO) (hid (upd H p o) ([(p, o)] :: OO)):=fun b u q=>by
  obtain ⟨q1, q2⟩:=X0 q
  have hb : b ≠ p:=XS q1 h
  refine Zk (by rw [Xp hb]; exact q1) ?_
  rw [Yo]; simpa using ⟨hb, q2⟩
theorem Jb {OO} {H : Hp} (w : W OO H) {p : Addr} (h : H p = none) {o : HO} : hid (upd H p o) OO p = some o:=Zk X8 (w.fresh h)
class MonoE {α : Type} (r : Enc α) : Prop where
  mono : ∀ {K : PySem.W.Frag} {H H' : Hp} {v : V} {a : α}, Xo H H' -> r K H v a -> r K H' v a
noncomputable def LQ : HO -> Bool
  | .tup _=>true
  | .frz _ _=>true
  | _=>false
noncomputable def JE (H H' : Hp) : Prop:=∀ b o, H b = some o -> LQ o = true -> H' b = some o
theorem Xo.i {H H' : Hp} (s : Xo H H') : JE H H':=fun b o h _=>s b o h
theorem W.i {OO} {H : Hp} (w : W OO H) : JE H (hid H OO):=fun b o h i=>Zk h fun z=>by
  obtain ⟨u, hu⟩:=FX z
  have h1:=w.tr _ hu
  have h2:=w.mu _ hu
  rw [h] at h1
  have e : o = u:=Option.some.inj h1
  subst e
  revert i h2; cases o <;> simp [LQ, Ht]
theorem JE.trans {H H1 H2 : Hp} (a : JE H H1) (b : JE H1 H2) : JE H H2:=fun c o h i=>b c o (a c o h i) i
class FlatE {α : Type} (r : Enc α) : Prop where
  flat : ∀ {K : PySem.W.Frag} {H H' : Hp} {v : V} {a : α}, JE H H' -> r K H v a -> r K H' v a
instance {α : Type} {r : Enc α} [f : FlatE r] : MonoE r:=⟨fun s h=>f.flat s.i h⟩
theorem JE.seqT {K : PySem.W.Frag} {H H' : Hp} {a : Addr} {xs : List V} (e : JE H H') (h : SqT K H a xs) : SqT K H' a xs:=by
  rcases h with (h | ⟨o, h⟩) | h
  . exact .inl (.inl (e _ _ h rfl))
  . exact .inl (.inr ⟨o, e _ _ h rfl⟩)
  . exact .inr h
noncomputable def XH : Enc Bool:=fun _ _ v b=>v = .bl b
noncomputable def Ug : Enc Str:=fun _ _ v x=>v = .str x
noncomputable def Gh {α : Type} (r : Enc α) : Enc (Option α):=fun K H v a=>match a with
  | none=>v = .non
  | some a=>v ≠ .non /\ r K H v a
noncomputable def rV {α : Type} (r : Enc α) : Enc (List α):=fun K H v as=>∃ a xs, v = .ref a /\ H a = some (.lst xs) /\ Paired (r K H) xs as
noncomputable def rPL {α : Type} (r : Enc α) : Enc (List α):=fun K H v as=>∃ a xs, v = .ref a /\ H a = some (.tup xs) /\ Paired (r K H) xs as
noncomputable def rP2 {α β : Type} (r : Enc α) (q : Enc β) : Enc (α × β):=fun K H v p=>∃ a x y, v = .ref a /\ H a = some (.tup [x, y]) /\ r K H x p.1 /\ q K H y p.2
noncomputable def rP3 {α β γ : Type} (r : Enc α) (q : Enc β) (t : Enc γ) : Enc (α × β × γ):=fun K H v p=>∃ a x y z, v = .ref a /\ H a = some (.tup [x, y, z]) /\ r K H x p.1 /\ q K H y p.2.1 /\ t K H z p.2.2
instance {α : Type} {r : Enc α} [m : MonoE r] : MonoE (rV r):=⟨fun s h9=>(by obtain ⟨a, xs, e, q, p⟩:=h9; exact ⟨a, xs, e, s _ _ q, Paired.imp2 (fun _ _ z=>m.mono s z) p⟩)⟩
instance {α : Type} {r : Enc α} [m : MonoE r] : MonoE (rPL r):=⟨fun s h9=>(by obtain ⟨a, xs, e, q, p⟩:=h9; exact ⟨a, xs, e, s _ _ q, Paired.imp2 (fun _ _ z=>m.mono s z) p⟩)⟩
instance {α : Type} {r : Enc α} [m : FlatE r] : FlatE (rPL r):=⟨fun s h9=>(by obtain ⟨a, xs, e, q, p⟩:=h9; exact ⟨a, xs, e, s _ _ q rfl, Paired.imp2 (fun _ _ z=>m.flat s z) p⟩)⟩
instance {α β : Type} {r : Enc α} {q : Enc β} [m : MonoE r] [n : MonoE q] : MonoE (rP2 r q):=⟨fun s h9=>(by obtain ⟨a, x, y, e, h, p1, p2⟩:=h9; exact ⟨a, x, y, e, s _ _ h, m.mono s p1, n.mono s p2⟩)⟩
instance {α β : Type} {r : Enc α} {q : Enc β} [m : FlatE r] [n : FlatE q] : FlatE (rP2 r q):=⟨fun s h9=>(by obtain ⟨a, x, y, e, h, p1, p2⟩:=h9; exact ⟨a, x, y, e, s _ _ h rfl, m.flat s p1, n.flat s p2⟩)⟩
instance {α β γ : Type} {r : Enc α} {q : Enc β} {t : Enc γ} [m : MonoE r] [n : MonoE q] [k : MonoE t] : MonoE (rP3 r q t):=⟨fun s h9=>(by obtain ⟨a, x, y, z, e, h, p1, p2, p3⟩:=h9; exact ⟨a, x, y, z, e, s _ _ h, m.mono s p1, n.mono s p2, k.mono s p3⟩)⟩
instance {α β γ : Type} {r : Enc α} {q : Enc β} {t : Enc γ} [m : FlatE r] [n : FlatE q] [k : FlatE t] : FlatE (rP3 r q t):=⟨fun s h9=>(by obtain ⟨a, x, y, z, e, h, p1, p2, p3⟩:=h9; exact ⟨a, x, y, z, e, s _ _ h rfl, m.flat s p1, n.flat s p2, k.flat s p3⟩)⟩
instance : FlatE Xc:=⟨fun _ h=>h⟩
instance : FlatE XH:=⟨fun _ h=>h⟩
instance : FlatE Ug:=⟨fun _ h=>h⟩
instance {α : Type} {r : Enc α} [m : MonoE r] : MonoE (rL r):=⟨fun s h9=>(by obtain ⟨a, xs, e, q, p⟩:=h9; exact ⟨a, xs, e, s.seq q, Paired.imp2 (fun _ _ z=>m.mono s z) p⟩)⟩
instance {α : Type} {r : Enc α} [m : MonoE r] : MonoE (Gh r):=⟨fun {K H H' v a} s h=>by cases a with
  | none=>exact h
  | some a=>exact ⟨h.1, m.mono s h.2⟩⟩
instance {α : Type} {r : Enc α} [m : FlatE r] : FlatE (Gh r):=⟨fun {K H H' v a} s h=>by cases a with
  | none=>exact h
  | some a=>exact ⟨h.1, m.flat s h.2⟩⟩
noncomputable abbrev OE (α : Type):=PySem.W.Frag -> Hp -> V -> α -> List XG -> Prop
inductive P3 {α β γ : Type} (F : α -> β -> γ -> Prop) : List α -> List β -> List γ -> Prop where
  | nil : P3 F [] [] []
  | cons {a b c l m n} : F a b c -> P3 F l m n -> P3 F (a :: l) (b :: m) (c :: n)
noncomputable def oF {α : Type} (r : Enc α) : OE α:=fun K h v a C=>C = [] /\ r K h v a
noncomputable def oL {α : Type} (o : OE α) : OE (List α):=fun K h v as C=>∃ p xs Cs, v = .ref p /\ P3 (o K h) xs as Cs /\ C = (p, .lst xs) :: Cs.flatten
noncomputable def oT2 {α β : Type} (o : OE α) (q : OE β) : OE (α × β):=fun K h v a C=>∃ p x y C1 C2, v = .ref p /\ h p = some (.tup [x, y]) /\ o K h x a.1 C1 /\ q K h y a.2 C2 /\ C = C1 ++ C2
noncomputable def Hn {α : Type} (o : OE α) : OE (Option α):=fun K h v a C=>match a with
  | none=>v = .non /\ C = []
  | some a=>v ≠ .non /\ o K h v a C
section
variable {α β γ δ : Type}
theorem P3.imp {F G : α -> β -> γ -> Prop} (h : ∀ a b c, F a b c -> G a b c) : ∀ {l m n}, P3 F l m n -> P3 G l m n:=fun p=>by
  induction p with
  | nil=>exact .nil
  | cons r _ ih=>exact .cons (h _ _ _ r) ih
theorem P3.app {F : α -> β -> γ -> Prop} : ∀ {l m n l' m' n'}, P3 F l m n -> P3 F l' m' n' -> P3 F (l ++ l') (m ++ m') (n ++ n'):=fun p h=>by
  induction p with
  | nil=>exact h
  | cons r _ ih=>exact .cons r ih
theorem P3.snoc {F : α -> β -> γ -> Prop} {l m n a b c} (h : P3 F l m n) (r : F a b c) : P3 F (l ++ [a]) (m ++ [b]) (n ++ [c]):=h.app (.cons r .nil)
theorem P3.len {F : α -> β -> γ -> Prop} : ∀ {l m n}, P3 F l m n -> l.length = m.length /\ n.length = m.length
  | _, _, _, .nil=>⟨rfl, rfl⟩
  | _, _, _, .cons _ t=>by simp [(P3.len t).1, (P3.len t).2]
theorem P3.pair {F : α -> β -> γ -> Prop} {G : α -> β -> Prop} : ∀ {l m n}, P3 F l m n -> (∀ a b c, c ∈ n -> F a b c -> G a b) -> Paired G l m:=fun p h=>by
  induction p with
  | nil=>exact .nil
  | cons r _ ih=>exact .cons (h _ _ _ List.mem_cons_self r) (ih fun a b c hc=>h a b c (List.mem_cons_of_mem _ hc))
theorem P3.get {F : α -> β -> γ -> Prop} : ∀ {l m n} {i : Nat} {b : β}, P3 F l m n -> m[i]? = some b -> ∃ a c, l[i]? = some a /\ n[i]? = some c /\ F a b c
  | _, _, _, _, _, .nil, e=>by simp at e
  | _, _, _, 0, _, .cons r _, e=>by simp at e; subst e; exact ⟨_, _, rfl, rfl, r⟩
  | _, _, _, i + 1, b, .cons _ t, e=>by
    obtain ⟨a, c, h1, h2, h3⟩:=P3.get (i:=i) (b:=b) t (by simpa using e)
    exact ⟨a, c, by simpa using h1, by simpa using h2, h3⟩
theorem P3.set {F : α -> β -> γ -> Prop} {a : α} {b : β} {c : γ} (r : F a b c) : ∀ {l m n} (i : Nat), P3 F l m n -> P3 F (l.set i a) (m.set i b) (n.set i c)
  | _, _, _, _, .nil=>.nil
  | _, _, _, 0, .cons _ t=>.cons r t
  | _, _, _, i + 1, .cons q t=>.cons q (P3.set r i t)
theorem P3.flat {F : α -> β -> Prop} : ∀ {l : List α} {m : List β} {n : List (List XG)}, P3 (fun a b c=>c = [] /\ F a b) l m n -> Paired F l m /\ n.flatten = []:=fun p=>by
  induction p with
  | nil=>exact ⟨.nil, rfl⟩
  | cons r _ ih=>exact ⟨.cons r.2 ih.1, by rw [List.flatten_cons, r.1, ih.2]; rfl⟩
theorem P3.of {F : α -> β -> Prop} : ∀ {l : List α} {m : List β}, Paired F l m -> P3 (fun a b (c : List XG)=>c = [] /\ F a b) l m (List.replicate m.length [])
  | _, _, .nil=>.nil
  | _, _, .cons r t=>.cons ⟨rfl, r⟩ (P3.of t)
theorem Yj : ∀ n : Nat, (List.replicate n ([] : List XG)).flatten = []
  | 0=>rfl
  | n + 1=>by simp [List.replicate_succ, Yj n]
end
class MonoO {α : Type} (o : OE α) : Prop where
  mono : ∀ {K : PySem.W.Frag} {H H' : Hp} {v : V} {a : α} {C : List XG}, Xo H H' -> o K H v a C -> o K H' v a C
class FlatO {α : Type} (o : OE α) : Prop where
  flat : ∀ {K : PySem.W.Frag} {H H' : Hp} {v : V} {a : α} {C : List XG}, JE H H' -> o K H v a C -> o K H' v a C
class FrzC {α : Type} (o : OE α) (r : outParam (Enc α)) : Prop where
  frz : ∀ {K : PySem.W.Frag} {H H' : Hp} {v : V} {a : α} {C : List XG}, o K H v a C -> Xo H H' -> (∀ c ∈ C, H' c.1 = some c.2) -> r K H' v a
instance {α : Type} {r : Enc α} [m : MonoE r] : MonoO (oF r):=⟨fun s h=>⟨h.1, m.mono s h.2⟩⟩
instance {α : Type} {r : Enc α} [m : FlatE r] : FlatO (oF r):=⟨fun s h=>⟨h.1, m.flat s h.2⟩⟩
instance {α : Type} {r : Enc α} [m : MonoE r] : FrzC (oF r) r:=⟨fun h s _=>m.mono s h.2⟩
instance {α : Type} {o : OE α} [m : MonoO o] : MonoO (oL o):=⟨fun s h9=>(by obtain ⟨p, xs, Cs, e, q, c⟩:=h9; exact ⟨p, xs, Cs, e, q.imp fun _ _ _ z=>m.mono s z, c⟩)⟩
instance {α : Type} {o : OE α} [m : FlatO o] : FlatO (oL o):=⟨fun s h9=>(by obtain ⟨p, xs, Cs, e, q, c⟩:=h9; exact ⟨p, xs, Cs, e, q.imp fun _ _ _ z=>m.flat s z, c⟩)⟩
instance {α : Type} {o : OE α} {r : Enc α} [m : FrzC o r] : FrzC (oL o) (rV r):=⟨fun ⟨p, xs, Cs, e, q, c⟩ s hc=>by
  subst c
  exact ⟨p, xs, e, hc _ List.mem_cons_self, q.pair fun a b c hm z=>m.frz z s fun x hx=>hc x (List.mem_cons_of_mem _ (List.mem_flatten.mpr ⟨c, hm, hx⟩))⟩⟩
instance {α β : Type} {o : OE α} {q : OE β} [m : MonoO o] [n : MonoO q] : MonoO (oT2 o q):=⟨fun s h9=>(by obtain ⟨p, x, y, C1, C2, e, h, h1, h2, c⟩:=h9; exact ⟨p, x, y, C1, C2, e, s _ _ h, m.mono s h1, n.mono s h2, c⟩)⟩
instance {α β : Type} {o : OE α} {q : OE β} [m : FlatO o] [n : FlatO q] : FlatO (oT2 o q):=⟨fun s h9=>(by obtain ⟨p, x, y, C1, C2, e, h, h1, h2, c⟩:=h9; exact ⟨p, x, y, C1, C2, e, s _ _ h rfl, m.flat s h1, n.flat s h2, c⟩)⟩
instance {α β : Type} {o : OE α} {q : OE β} {r : Enc α} {t : Enc β} [m : FrzC o r] [n : FrzC q t] : FrzC (oT2 o q) (rP2 r t):=⟨fun ⟨p, x, y, C1, C2, e, h, h1, h2, c⟩ s hc=>by
  subst c
  exact ⟨p, x, y, e, s _ _ h, m.frz h1 s fun c hm=>hc c (by simp [hm]), n.frz h2 s fun c hm=>hc c (by simp [hm])⟩⟩
instance {α : Type} {o : OE α} [m : MonoO o] : MonoO (Hn o):=⟨fun {K H H' v a C} s h=>by cases a with
  | none=>exact h
  | some a=>exact ⟨h.1, m.mono s h.2⟩⟩
instance {α : Type} {o : OE α} [m : FlatO o] : FlatO (Hn o):=⟨fun {K H H' v a C} s h=>by cases a with
  | none=>exact h
  | some a=>exact ⟨h.1, m.flat s h.2⟩⟩
instance {α : Type} {o : OE α} {r : Enc α} [m : FrzC o r] : FrzC (Hn o) (Gh r):=⟨fun {K H H' v a C} h s hc=>by cases a with
  | none=>exact h.1
  | some a=>exact ⟨h.1, m.frz h.2 s hc⟩⟩
structure SC where
  p : Hp -> Prop
  mono : ∀ h h', Xo h h' -> p h -> p h'
noncomputable def SC.nil : SC:=⟨fun _=>True, fun _ _ _ _=>True.intro⟩
noncomputable def SC.and (S T : SC) : SC:=⟨fun h=>S.p h /\ T.p h, fun _ _ s q=>⟨S.mono _ _ s q.1, T.mono _ _ s q.2⟩⟩
noncomputable def SC.one {α : Type} (K : PySem.W.Frag) (r : Enc α) [m : MonoE r] (v : V) (a : α) : SC:=⟨fun h=>r K h v a, fun _ _ s q=>m.mono s q⟩
noncomputable def SC.oneO {α : Type} (K : PySem.W.Frag) (o : OE α) [m : MonoO o] (v : V) (a : α) (C : List XG) : SC:=⟨fun h=>o K h v a C, fun _ _ s q=>m.mono s q⟩
noncomputable abbrev SC.add {α : Type} (S : SC) (K : PySem.W.Frag) (r : Enc α) [m : MonoE r] (v : V) (a : α) : SC:=S.and (SC.one K r v a)
noncomputable abbrev SC.addO {α : Type} (S : SC) (K : PySem.W.Frag) (o : OE α) [m : MonoO o] (v : V) (a : α) (C : List XG) : SC:=S.and (SC.oneO K o v a C)
theorem SC.l {S T : SC} {h : Hp} (q : (S.and T).p h) : S.p h:=q.1
theorem SC.r {S T : SC} {h : Hp} (q : (S.and T).p h) : T.p h:=q.2
theorem SC.i {S T : SC} {h : Hp} (q : S.p h) (p : T.p h) : (S.and T).p h:=⟨q, p⟩
theorem SC.t {h : Hp} : SC.nil.p h:=True.intro
noncomputable def PZ {β : Type} (Er : Exc -> Hp -> Prop) (F : β -> Hp -> Prop) (H : Hp) (m : Res β) : Prop:=
  match m with
  | .bad=>False
  | .err x=>∀ H', Xo H H' -> Er x H'
  | .ok b=>F b H
section
variable (K : PySem.W.Frag) (Er : Exc -> Hp -> Prop) (S : SC) (OO OO' : List (List XG)) (σ : St)
noncomputable def FB {α : Type} (r : Enc α) (Q : VK) (a : α) (H : Hp) : Prop:=∀ v H', Xo H H' -> r K H' v a -> Q v H'
noncomputable def FO {α : Type} (o : OE α) (Q : VK) (a : α) (H : Hp) : Prop:=∀ v C H', Xo H H' -> W (C :: OO') H' -> Xo (hid H OO) (hid H' (C :: OO')) -> o K (hid H' (C :: OO')) v a C -> Q v H'
noncomputable def FT (Q : Bool -> Hp -> Prop) (b : Bool) (H : Hp) : Prop:=∀ H', Xo H H' -> Q b H'
noncomputable def EvB {α : Type} (te : TE) (r : Enc α) (m : Res α) : Prop:=∀ H Q, W OO H -> S.p (hid H OO) -> PZ Er (FB K r Q) H m -> te σ H Q
noncomputable def Ev {α : Type} (te : TE) (o : OE α) (m : Res α) : Prop:=∀ H Q, W OO H -> S.p (hid H OO) -> PZ Er (FO K OO OO' o Q) H m -> te σ H Q
noncomputable def EvT (tt : TT) (m : Res Bool) : Prop:=∀ H Q, W OO H -> S.p (hid H OO) -> PZ Er (FT Q) H m -> tt σ H Q
end
section
variable {K : PySem.W.Frag} {Er : Exc -> Hp -> Prop} {S : SC} {OO OO' OO2 : List (List XG)} {σ : St} {α β γ : Type}
theorem FB.tr {r : Enc α} {Q : VK} : ∀ a H H', Xo H H' -> FB K r Q a H -> FB K r Q a H':=fun a H H' s h v H2 s2 q=>h v H2 (s.trans s2) q
theorem FO.tr {o : OE α} {Q : VK} : ∀ a H H', Xo H H' -> FO K OO OO' o Q a H -> FO K OO OO' o Q a H':=fun a H H' s h v C H2 s2 w m q=>h v C H2 (s.trans s2) w ((Xj s).trans m) q
theorem FT.tr {Q : Bool -> Hp -> Prop} : ∀ b H H', Xo H H' -> FT Q b H -> FT Q b H':=fun a H H' s h H2 s2=>h H2 (s.trans s2)
theorem EvB.run {te : TE} {r : Enc α} {m : Res α} (he : EvB K Er S OO σ te r m) {H : Hp} {Q : VK} (w : W OO H) (s : S.p (hid H OO)) {f : α -> Res β} {F : β -> Hp -> Prop} (hF : ∀ b H H', Xo H H' -> F b H -> F b H') (P : PZ Er F H (m.bind f))
    (hk : ∀ a v H', Xo H H' -> W OO H' -> S.p (hid H' OO) -> r K H' v a -> PZ Er F H' (f a) -> Q v H') : te σ H Q:=by
  refine he H Q w s ?_
  cases m with
  | bad=>exact P
  | err x=>exact P
  | ok a=>
    intro v H' s' hr
    refine hk a v H' s' (w.keep s') (S.mono _ _ (Xj s') s) hr ?_
    have P' : PZ Er F H (f a):=P
    revert P'
    cases f a with
    | bad=>exact fun z=>z
    | err x=>exact fun z H2 s2=>z H2 (s'.trans s2)
    | ok b=>exact fun z=>hF b H H' s' z
theorem Ev.run {te : TE} {o : OE α} {m : Res α} (he : Ev K Er S OO OO' σ te o m) {H : Hp} {Q : VK} (w : W OO H) (s : S.p (hid H OO)) {f : α -> Res β} {F : β -> Hp -> Prop} (hF : ∀ b H H', Xo H H' -> F b H -> F b H') (P : PZ Er F H (m.bind f))
    (hk : ∀ a v C H', Xo H H' -> W (C :: OO') H' -> Xo (hid H OO) (hid H' (C :: OO')) -> S.p (hid H' (C :: OO')) -> o K (hid H' (C :: OO')) v a C -> PZ Er F H' (f a) -> Q v H') : te σ H Q:=by
  refine he H Q w s ?_
  cases m with
  | bad=>exact P
  | err x=>exact P
  | ok a=>
    intro v C H' s' w' m' ho
    refine hk a v C H' s' w' m' (S.mono _ _ m' s) ho ?_
    have P' : PZ Er F H (f a):=P
    revert P'
    cases f a with
    | bad=>exact fun z=>z
    | err x=>exact fun z H2 s2=>z H2 (s'.trans s2)
    | ok b=>exact fun z=>hF b H H' s' z
theorem EvT.run {tt : TT} {m : Res Bool} (he : EvT Er S OO σ tt m) {H : Hp} {Q : Bool -> Hp -> Prop} (w : W OO H) (s : S.p (hid H OO)) {f : Bool -> Res β} {F : β -> Hp -> Prop} (hF : ∀ b H H', Xo H H' -> F b H -> F b H') (P : PZ Er F H (m.bind f))
    (hk : ∀ b H', Xo H H' -> W OO H' -> S.p (hid H' OO) -> PZ Er F H' (f b) -> Q b H') : tt σ H Q:=by
  refine he H Q w s ?_
  cases m with
  | bad=>exact P
  | err x=>exact P
  | ok a=>
    intro H' s'
    refine hk a H' s' (w.keep s') (S.mono _ _ (Xj s') s) ?_
    have P' : PZ Er F H (f a):=P
    revert P'
    cases f a with
    | bad=>exact fun z=>z
    | err x=>exact fun z H2 s2=>z H2 (s'.trans s2)
    | ok b=>exact fun z=>hF b H H' s' z
theorem Ev.toB {te : TE} {o : OE α} {r : Enc α} [z : FrzC o r] {m : Res α} (he : Ev K Er S OO OO σ te o m) : EvB K Er S OO σ te r m:=fun H Q w s P=>by
  refine he H Q w s ?_
  cases m with
  | bad=>exact P
  | err x=>exact P
  | ok a=>exact fun v C H' s' w' m' ho=>P v H' s' (z.frz ho Xv w'.cell)
theorem Ev.frz {te : TE} {o : OE α} {r : Enc α} [z : FrzC o r] {m : Res α} (he : Ev K Er S OO OO' σ te o m) : Ev K Er S OO OO' σ te (oF r) m:=fun H Q w s P=>by
  refine he H Q w s ?_
  cases m with
  | bad=>exact P
  | err x=>exact P
  | ok a=>
    intro v C H' s' w' m' ho
    have hs : Xo (hid H' (C :: OO')) (hid H' ([] :: OO')):=VU (Xo.refl _) fun b hb=>by rw [Di] at hb; rw [Yo]; simp [hb]
    refine P v [] H' s' w'.tail.nil (m'.trans hs) ⟨rfl, z.frz ho hs fun c hc=>Zk (w'.cell c hc) ?_⟩
    rw [Di]
    have:=w'.nd
    rw [Yo] at this
    intro hb
    exact (List.nodup_append.mp this).2.2 c.1 (List.mem_map.mpr ⟨c, hc, rfl⟩) c.1 hb rfl
theorem EvB.flat {te : TE} {r : Enc α} [z : FlatE r] {m : Res α} (he : EvB K Er S OO σ te r m) : Ev K Er S OO OO σ te (oF r) m:=fun H Q w s P=>by
  refine he H Q w s ?_
  cases m with
  | bad=>exact P
  | err x=>exact P
  | ok a=>
    intro v H' s' hr
    have w':=w.keep s'
    exact P v [] H' s' w'.nil (by rw [YH]; exact Xj s') ⟨rfl, by rw [YH]; exact z.flat w'.i hr⟩
theorem Xa {r : Enc α} [z : MonoE r] {v : V} {a : α} (i : Nat) (hσ : σ[i]? = some (some v)) (h : ∀ x, S.p x -> r K x v a) : EvB K Er S OO σ (Kv i) r (.ok a):=fun H Q w s P=>
  ⟨v, hσ, P v H (Xo.refl _) (z.mono Xv (h _ s))⟩
theorem Yt {o : OE α} {r : Enc α} [z : FrzC o r] {v : V} {a : α} {C : List XG} (i k : Nat) (hσ : σ[i]? = some (some v)) (hk : OO[k]? = some C) (h : ∀ x, S.p x -> o K x v a C) : EvB K Er S OO σ (Kv i) r (.ok a):=fun H Q w s P=>
  ⟨v, hσ, P v H (Xo.refl _) (z.frz (h _ s) Xv fun c hc=>w.tr c (List.mem_flatten.mpr ⟨C, List.mem_of_getElem? hk, hc⟩))⟩
theorem X1 : ∀ {OO : List (List XG)} {k : Nat} {C : List XG}, OO[k]? = some C -> (C :: OO.set k []).flatten.Perm OO.flatten
  | [], _, _, h=>by simp at h
  | D :: OO, 0, C, h=>by simp at h; subst h; simp
  | D :: OO, k + 1, C, h=>by
    have:=X1 (OO:=OO) (k:=k) (C:=C) (by simpa using h)
    simp only [List.set_cons_succ, List.flatten_cons] at this ⊢
    refine List.Perm.trans ?_ (this.append_left D)
    rw [← List.append_assoc, ← List.append_assoc]
    exact List.perm_append_comm.append_right _
theorem Jr {OO OO' : List (List XG)} (h : OO'.flatten.Perm OO.flatten) (b : Addr) : b ∈ fl OO' ↔ b ∈ fl OO:=(h.map (·.1)).mem_iff
theorem Yk {H : Hp} {OO OO' : List (List XG)} (h : OO'.flatten.Perm OO.flatten) : hid H OO' = hid H OO:=by
  funext b; unfold hid
  by_cases hb : b ∈ fl OO
  . rw [if_pos hb, if_pos ((Jr h b).mpr hb)]
  . rw [if_neg hb, if_neg fun z=>hb ((Jr h b).mp z)]
theorem Zd {o : OE α} {v : V} {a : α} {C : List XG} (i k : Nat) (hσ : σ[i]? = some (some v)) (hk : OO[k]? = some C) (h : ∀ x, S.p x -> o K x v a C) : Ev K Er S OO (OO.set k []) σ (Kv i) o (.ok a):=fun H Q w s P=>by
  have hp:=X1 hk
  exact ⟨v, hσ, P v C H (Xo.refl _) (w.of hp) (by rw [Yk hp]; exact Xo.refl _) (by rw [Yk hp]; exact h _ s)⟩
theorem Xe (n : Int) : EvB K Er S OO σ (tC (.int n)) Xc (.ok n):=fun H Q w s P=>P _ H (Xo.refl _) rfl
theorem ZV (b : Bool) : EvB K Er S OO σ (tC (.bl b)) XH (.ok b):=fun H Q w s P=>P _ H (Xo.refl _) rfl
theorem Uc (x : Str) : EvB K Er S OO σ (tC (.str x)) Ug (.ok x):=fun H Q w s P=>P _ H (Xo.refl _) rfl
theorem BX {o : OE α} : Ev K Er S OO OO σ (tC .non) (Hn o) (.ok none):=fun H Q w s P=>P _ [] H (Xo.refl _) w.nil (by rw [YH]; exact Xo.refl _) ⟨rfl, rfl⟩
theorem JF {ta tb : TE} {g : Int -> Int -> V} {r : Enc β} {f : Int -> Int -> β} {ma mb : Res Int} (hg : ∀ K H i j, r K H (g i j) (f i j)) (ha : EvB K Er S OO σ ta Xc ma) (hb : EvB K Er S OO σ tb Xc mb) :
    EvB K Er S OO σ (tOp (rI0 g) ta tb) r (ma.bind fun a=>mb.bind fun b=>.ok (f a b)):=fun H Q w s P=>
  ha.run w s FB.tr P fun a x H1 s1 w1 q1 r1 P1=>hb.run w1 q1 FB.tr P1 fun b y H2 s2 w2 q2 r2 P2=>⟨a, b, r1, r2, P2 _ H2 (Xo.refl _) (hg K H2 a b)⟩
theorem Ua {ta tb : TE} {Cc : Int -> Int -> Prop} {g : Int -> Int -> V} {r : Enc β} {f : Int -> Int -> Res β} {ma mb : Res Int} (hg : ∀ K H i j c, f i j = .ok c -> Cc i j /\ r K H (g i j) c) (he : ∀ i j x, f i j ≠ .err x)
    (ha : EvB K Er S OO σ ta Xc ma) (hb : EvB K Er S OO σ tb Xc mb) :
    EvB K Er S OO σ (tOp (rI Cc g) ta tb) r (ma.bind fun a=>mb.bind fun b=>f a b):=fun H Q w s P=>
  ha.run w s FB.tr P fun a x H1 s1 w1 q1 r1 P1=>hb.run w1 q1 FB.tr P1 fun b y H2 s2 w2 q2 r2 P2=>by
    cases e : f a b with
    | bad=>rw [e] at P2; exact P2.elim
    | err x=>exact absurd e (he a b x)
    | ok c=>
      rw [e] at P2
      obtain ⟨h1, h2⟩:=hg K H2 a b c e
      exact ⟨a, b, r1, r2, h1, P2 _ H2 (Xo.refl _) h2⟩
noncomputable def Ke (a b : Int) : Res Int:=chk ((-(2 ^ 64) < a /\ a < 2 ^ 64) ∨ (-(2 ^ 64) < b /\ b < 2 ^ 64)) (.ok (a * b))
noncomputable def QT (a b : Int) : Res Int:=chk (0 < b) (.ok (a % b))
noncomputable def EF (a b : Int) : Res Int:=chk (0 < b /\ b.natAbs.log2 < 9000) (.ok (a / b))
noncomputable def IU (a b : Int) : Res Int:=chk (0 <= b /\ b <= 1000000 /\ a.natAbs < 2 ^ 64) (.ok (a ^ b.toNat))
theorem Zp {c : Prop} [Decidable c] {m : Res α} {a : α} (h : chk c m = .ok a) : c /\ m = .ok a:=by
  unfold chk at h; split at h
  . exact ⟨by assumption, h⟩
  . cases h
theorem Qs {c : Prop} [Decidable c] {a : α} {x : Exc} : chk c (Res.ok a) ≠ .err x:=by
  unfold chk; split <;> exact fun z=>nomatch z
theorem YU {ta tb : TE} {ma mb : Res Int} (ha : EvB K Er S OO σ ta Xc ma) (hb : EvB K Er S OO σ tb Xc mb) : EvB K Er S OO σ (tOp (rI IT fun i j=>.int (i * j)) ta tb) Xc (ma.bind fun a=>mb.bind fun b=>Ke a b):=
  Ua (fun K H i j c h=>by obtain ⟨h1, h2⟩:=Zp h; cases h2; exact ⟨h1, rfl⟩) (fun i j x=>Qs) ha hb
theorem X6 {ta tb : TE} {ma mb : Res Int} (ha : EvB K Er S OO σ ta Xc ma) (hb : EvB K Er S OO σ tb Xc mb) : EvB K Er S OO σ (tOp (rI (fun _ j=>0 < j) fun i j=>.int (i % j)) ta tb) Xc (ma.bind fun a=>mb.bind fun b=>QT a b):=
  Ua (fun K H i j c h=>by obtain ⟨h1, h2⟩:=Zp h; cases h2; exact ⟨h1, rfl⟩) (fun i j x=>Qs) ha hb
theorem VY {ta tb : TE} {ma mb : Res Int} (ha : EvB K Er S OO σ ta Xc ma) (hb : EvB K Er S OO σ tb Xc mb) : EvB K Er S OO σ (tOp (rI (fun _ j=>0 < j /\ j.natAbs.log2 < 9000) fun i j=>.int (i / j)) ta tb) Xc (ma.bind fun a=>mb.bind fun b=>EF a b):=
  Ua (fun K H i j c h=>by obtain ⟨h1, h2⟩:=Zp h; cases h2; exact ⟨h1, rfl⟩) (fun i j x=>Qs) ha hb
theorem Dw {ta tb : TE} {ma mb : Res Int} (ha : EvB K Er S OO σ ta Xc ma) (hb : EvB K Er S OO σ tb Xc mb) : EvB K Er S OO σ (tOp (rI LC fun i j=>.int (i ^ j.toNat)) ta tb) Xc (ma.bind fun a=>mb.bind fun b=>IU a b):=
  Ua (fun K H i j c h=>by obtain ⟨h1, h2⟩:=Zp h; cases h2; exact ⟨h1, rfl⟩) (fun i j x=>Qs) ha hb
theorem Yb {ta tb : TE} {ma mb : Res Int} (ha : EvB K Er S OO σ ta Xc ma) (hb : EvB K Er S OO σ tb Xc mb) : EvB K Er S OO σ (tOp (rI0 fun i j=>.int (i + j)) ta tb) Xc (ma.bind fun a=>mb.bind fun b=>.ok (a + b)):=JF (fun _ _ _ _=>rfl) ha hb
theorem YB {ta tb : TE} {ma mb : Res Int} (ha : EvB K Er S OO σ ta Xc ma) (hb : EvB K Er S OO σ tb Xc mb) : EvB K Er S OO σ (tOp (rI0 fun i j=>.int (i - j)) ta tb) Xc (ma.bind fun a=>mb.bind fun b=>.ok (a - b)):=JF (fun _ _ _ _=>rfl) ha hb
theorem Vr {ta tb : TE} {ma mb : Res Int} (ha : EvB K Er S OO σ ta Xc ma) (hb : EvB K Er S OO σ tb Xc mb) : EvB K Er S OO σ (tOp (rI0 fun i j=>.bl (decide (i < j))) ta tb) XH (ma.bind fun a=>mb.bind fun b=>.ok (decide (a < b))):=JF (fun _ _ _ _=>rfl) ha hb
theorem UQ {ta tb : TE} {ma mb : Res Int} (ha : EvB K Er S OO σ ta Xc ma) (hb : EvB K Er S OO σ tb Xc mb) : EvB K Er S OO σ (tOp (rI0 fun i j=>.bl (decide (j < i))) ta tb) XH (ma.bind fun a=>mb.bind fun b=>.ok (decide (b < a))):=JF (fun _ _ _ _=>rfl) ha hb
theorem B3 {ta tb : TE} {ma mb : Res Int} (ha : EvB K Er S OO σ ta Xc ma) (hb : EvB K Er S OO σ tb Xc mb) : EvB K Er S OO σ (tOp (rI0 fun i j=>.bl (decide (j <= i))) ta tb) XH (ma.bind fun a=>mb.bind fun b=>.ok (decide (b <= a))):=JF (fun _ _ _ _=>rfl) ha hb
class Scal {α : Type} [DecidableEq α] (r : Enc α) : Prop where
  to : ∀ {K : PySem.W.Frag} {H H' : Hp} {x y : V} {a b : α}, r K H x a -> r K H' y b -> Lo x y = true /\ decide (x = y) = decide (a = b)
instance : Scal Xc:=⟨fun {K H H' x y a b} h1 h2=>by cases (show x = .int a from h1); cases (show y = .int b from h2); exact ⟨rfl, by simp⟩⟩
instance : Scal XH:=⟨fun {K H H' x y a b} h1 h2=>by cases (show x = .bl a from h1); cases (show y = .bl b from h2); exact ⟨rfl, by simp⟩⟩
instance : Scal Ug:=⟨fun {K H H' x y a b} h1 h2=>by cases (show x = .str a from h1); cases (show y = .str b from h2); exact ⟨rfl, by simp⟩⟩
theorem Yv [DecidableEq α] {r : Enc α} [z : Scal r] [MonoE r] {ta tb : TE} {ma mb : Res α} (ha : EvB K Er S OO σ ta r ma) (hb : EvB K Er S OO σ tb r mb) : EvB K Er S OO σ (tOp rEq ta tb) XH (ma.bind fun a=>mb.bind fun b=>.ok (decide (a = b))):=fun H Q w s P=>
  ha.run w s FB.tr P fun a x H1 s1 w1 q1 r1 P1=>hb.run w1 q1 FB.tr P1 fun b y H2 s2 w2 q2 r2 P2=>by
    obtain ⟨h1, h2⟩:=z.to r1 r2
    exact ⟨h1, P2 _ H2 (Xo.refl _) (by rw [h2]; rfl)⟩
theorem Hv [DecidableEq α] {r : Enc α} [z : Scal r] [MonoE r] {ta tb : TE} {ma mb : Res α} (ha : EvB K Er S OO σ ta r ma) (hb : EvB K Er S OO σ tb r mb) : EvB K Er S OO σ (tOp rNe ta tb) XH (ma.bind fun a=>mb.bind fun b=>.ok (!decide (a = b))):=fun H Q w s P=>
  ha.run w s FB.tr P fun a x H1 s1 w1 q1 r1 P1=>hb.run w1 q1 FB.tr P1 fun b y H2 s2 w2 q2 r2 P2=>by
    obtain ⟨h1, h2⟩:=z.to r1 r2
    exact ⟨h1, P2 _ H2 (Xo.refl _) (by rw [h2]; rfl)⟩
theorem KG [DecidableEq α] {r : Enc α} [z : MonoE r] {ta tb : TE} {ma mb : Res α} (ha : EvB K Er S OO σ ta r ma) (hb : EvB K Er S OO σ tb r mb) : EvB K Er S OO σ (tOp (Ly K r) ta tb) XH (ma.bind fun a=>mb.bind fun b=>.ok (decide (a = b))):=fun H Q w s P=>
  ha.run w s FB.tr P fun a x H1 s1 w1 q1 r1 P1=>hb.run w1 q1 FB.tr P1 fun b y H2 s2 w2 q2 r2 P2=>⟨a, b, z.mono s2 r1, r2, P2 _ H2 (Xo.refl _) rfl⟩
theorem VP [DecidableEq α] {r : Enc α} [z : MonoE r] {ta tb : TE} {ma mb : Res α} (ha : EvB K Er S OO σ ta r ma) (hb : EvB K Er S OO σ tb r mb) : EvB K Er S OO σ (tOp (LL K r) ta tb) XH (ma.bind fun a=>mb.bind fun b=>.ok (!decide (a = b))):=fun H Q w s P=>
  ha.run w s FB.tr P fun a x H1 s1 w1 q1 r1 P1=>hb.run w1 q1 FB.tr P1 fun b y H2 s2 w2 q2 r2 P2=>⟨a, b, z.mono s2 r1, r2, P2 _ H2 (Xo.refl _) rfl⟩
theorem Q9 {te : TE} {m : Res Bool} (h : EvB K Er S OO σ te XH m) : EvT Er S OO σ (tB te) m:=fun H Q w s P=>h H _ w s (by
  cases m with
  | bad=>exact P
  | err x=>exact P
  | ok a=>exact fun v H' s' r=>⟨a, r, P H' s'⟩)
theorem Xl {te : TE} {m : Res Bool} (h : EvB K Er S OO σ te XH m) : EvT Er S OO σ (IE te) m:=Q9 h
theorem Qg {t : TT} {m : Res Bool} (h : EvT Er S OO σ t m) : EvT Er S OO σ (LE t) (m.bind fun b=>.ok (!b)):=fun H Q w s P=>h.run w s FT.tr P fun b H1 s1 w1 q1 P1=>P1 H1 (Xo.refl _)
noncomputable def Vl (a b : Res Bool) : Res Bool:=a.bind fun x=>if x = true then b else .ok false
noncomputable def orR (a b : Res Bool) : Res Bool:=a.bind fun x=>if x = true then .ok true else b
theorem YV {t u : TT} {m n : Res Bool} (h : EvT Er S OO σ t m) (k : EvT Er S OO σ u n) : EvT Er S OO σ (LN t u) (Vl m n):=fun H Q w s P=>h.run w s FT.tr P fun b H1 s1 w1 q1 P1=>by
  cases b with
  | true=>rw [if_pos rfl] at P1 ⊢; exact k H1 Q w1 q1 P1
  | false=>exact P1 H1 (Xo.refl _)
theorem K5 {t u : TT} {m n : Res Bool} (h : EvT Er S OO σ t m) (k : EvT Er S OO σ u n) : EvT Er S OO σ (tOr t u) (orR m n):=fun H Q w s P=>h.run w s FT.tr P fun b H1 s1 w1 q1 P1=>by
  cases b with
  | true=>exact P1 H1 (Xo.refl _)
  | false=>exact k H1 Q w1 q1 P1
theorem VR {t : TE} {m : Res Bool} (h : EvB K Er S OO σ t XH m) : EvB K Er S OO σ (HY t) XH (m.bind fun b=>.ok (!b)):=fun H Q w s P=>h.run w s FB.tr P fun b x H1 s1 w1 q1 r1 P1=>⟨b, r1, P1 _ H1 (Xo.refl _) rfl⟩
theorem Jp {t u : TE} {m n : Res Bool} (h : EvB K Er S OO σ t XH m) (k : EvB K Er S OO σ u XH n) : EvB K Er S OO σ (Iu t u) XH (Vl m n):=fun H Q w s P=>h.run w s FB.tr P fun b x H1 s1 w1 q1 r1 P1=>⟨b, r1, by
  cases b with
  | true=>rw [if_pos rfl] at P1 ⊢; exact k H1 Q w1 q1 P1
  | false=>exact P1 _ H1 (Xo.refl _) rfl⟩
theorem Lg {c : TT} {ta tb : TE} {o : OE α} {mc : Res Bool} {ma mb : Res α} (hc : EvT Er S OO σ c mc) (ha : Ev K Er S OO OO' σ ta o ma) (hb : Ev K Er S OO OO' σ tb o mb) : Ev K Er S OO OO' σ (tIf c ta tb) o (mc.bind fun b=>if b = true then ma else mb):=fun H Q w s P=>
  hc.run w s FO.tr P fun b H1 s1 w1 q1 P1=>by
    cases b with
    | true=>rw [if_pos rfl] at P1 ⊢; exact ha H1 Q w1 q1 P1
    | false=>exact hb H1 Q w1 q1 P1
end
end L2
namespace L2
open PySem PySem.Spec PyProof.Rows
section
variable (K : PySem.W.Frag) (Er : Exc -> Hp -> Prop) (S : SC) (OO : List (List XG)) (σ : St)
noncomputable def FS {α : Type} (r : Enc α) (Q : VK) (a : α) (H : Hp) : Prop:=∀ v H', Xo H H' -> r K (hid H' OO) v a -> Q v H'
noncomputable def EvS {α : Type} (te : TE) (r : Enc α) (m : Res α) : Prop:=∀ H Q, W OO H -> S.p (hid H OO) -> PZ Er (FS K OO r Q) H m -> te σ H Q
noncomputable def rE {α : Type} (r : Enc α) (H : Hp) (v : V) (as : List α) : Prop:=∃ p xs, v = .ref p /\ H p = some (.lst xs) /\ Paired (r K (hid H OO)) xs as
noncomputable def FL {α : Type} (r : Enc α) (Q : VK) (as : List α) (H : Hp) : Prop:=∀ v H', Xo H H' -> rE K OO r H' v as -> Q v H'
noncomputable def EvL {α : Type} (te : TE) (r : Enc α) (m : Res (List α)) : Prop:=∀ H Q, W OO H -> S.p (hid H OO) -> PZ Er (FL K OO r Q) H m -> te σ H Q
end
section
variable {K : PySem.W.Frag} {Er : Exc -> Hp -> Prop} {S : SC} {OO OO' OO2 : List (List XG)} {σ : St} {α β γ : Type}
theorem FS.tr {r : Enc α} {Q : VK} : ∀ a H H', Xo H H' -> FS K OO r Q a H -> FS K OO r Q a H':=fun a H H' s h v H2 s2 q=>h v H2 (s.trans s2) q
theorem FL.tr {r : Enc α} {Q : VK} : ∀ a H H', Xo H H' -> FL K OO r Q a H -> FL K OO r Q a H':=fun a H H' s h v H2 s2 q=>h v H2 (s.trans s2) q
theorem PZ.run {F : β -> Hp -> Prop} {f : α -> Res β} {H H' : Hp} {a : α} {m : Res α} (hm : m = .ok a) (hF : ∀ b H H', Xo H H' -> F b H -> F b H') (s : Xo H H') (P : PZ Er F H (m.bind f)) : PZ Er F H' (f a):=by
  subst hm
  have P' : PZ Er F H (f a):=P
  revert P'
  cases f a with
  | bad=>exact fun z=>z
  | err x=>exact fun z H2 s2=>z H2 (s.trans s2)
  | ok b=>exact fun z=>hF b H H' s z
theorem EvS.run {te : TE} {r : Enc α} {m : Res α} (he : EvS K Er S OO σ te r m) {H : Hp} {Q : VK} (w : W OO H) (s : S.p (hid H OO)) {f : α -> Res β} {F : β -> Hp -> Prop} (hF : ∀ b H H', Xo H H' -> F b H -> F b H') (P : PZ Er F H (m.bind f))
    (hk : ∀ a v H', Xo H H' -> W OO H' -> S.p (hid H' OO) -> r K (hid H' OO) v a -> PZ Er F H' (f a) -> Q v H') : te σ H Q:=by
  refine he H Q w s ?_
  cases e : m with
  | bad=>rw [e] at P; exact P
  | err x=>rw [e] at P; exact P
  | ok a=>exact fun v H' s' hr=>hk a v H' s' (w.keep s') (S.mono _ _ (Xj s') s) hr (PZ.run e hF s' P)
theorem EvL.run {te : TE} {r : Enc α} {m : Res (List α)} (he : EvL K Er S OO σ te r m) {H : Hp} {Q : VK} (w : W OO H) (s : S.p (hid H OO)) {f : List α -> Res β} {F : β -> Hp -> Prop} (hF : ∀ b H H', Xo H H' -> F b H -> F b H') (P : PZ Er F H (m.bind f))
    (hk : ∀ a v H', Xo H H' -> W OO H' -> S.p (hid H' OO) -> rE K OO r H' v a -> PZ Er F H' (f a) -> Q v H') : te σ H Q:=by
  refine he H Q w s ?_
  cases e : m with
  | bad=>rw [e] at P; exact P
  | err x=>rw [e] at P; exact P
  | ok a=>exact fun v H' s' hr=>hk a v H' s' (w.keep s') (S.mono _ _ (Xj s') s) hr (PZ.run e hF s' P)
theorem PZ.imp {F G : β -> Hp -> Prop} {H : Hp} {m : Res β} (P : PZ Er F H m) (h : ∀ b, m = .ok b -> F b H -> G b H) : PZ Er G H m:=by
  cases m with
  | bad=>exact P
  | err x=>exact P
  | ok b=>exact h b rfl P
theorem EvS.toB {te : TE} {r : Enc α} [z : MonoE r] {m : Res α} (he : EvS K Er S OO σ te r m) : EvB K Er S OO σ te r m:=fun H Q w s P=>he H Q w s (P.imp fun b _ h v H' s' q=>h v H' s' (z.mono Xv q))
theorem EvS.ev {te : TE} {r : Enc α} {m : Res α} (he : EvS K Er S OO σ te r m) : Ev K Er S OO OO σ te (oF r) m:=fun H Q w s P=>he H Q w s (P.imp fun b _ h v H' s' q=>
  h v [] H' s' (w.keep s').nil (by rw [YH]; exact Xj s') ⟨rfl, by rw [YH]; exact q⟩)
theorem EvB.sh {te : TE} {r : Enc α} [z : FlatE r] {m : Res α} (he : EvB K Er S OO σ te r m) : EvS K Er S OO σ te r m:=fun H Q w s P=>he H Q w s (P.imp fun b _ h v H' s' q=>h v H' s' (z.flat (w.keep s').i q))
theorem Ev.sh {te : TE} {o : OE α} {r : Enc α} [z : FrzC o r] {m : Res α} (he : Ev K Er S OO OO σ te o m) : EvS K Er S OO σ te r m:=fun H Q w s P=>he.frz H Q w s (P.imp fun b _ h v C H' s' w' m' q=>by
  obtain ⟨rfl, q⟩:=q
  rw [YH] at q
  exact h v H' s' q)
theorem Xn {r : Enc α} {v : V} {a : α} (i : Nat) (hσ : σ[i]? = some (some v)) (h : ∀ x, S.p x -> r K x v a) : EvS K Er S OO σ (Kv i) r (.ok a):=fun H Q w s P=>⟨v, hσ, P v H (Xo.refl _) (h _ s)⟩
theorem EvS.ls {te : TE} {r : Enc α} {m : Res (List α)} (he : EvS K Er S OO σ te (rV r) m) : EvL K Er S OO σ te r m:=fun H Q w s P=>he H Q w s (P.imp fun b _ h v H' s' ⟨p, xs, e, q, pr⟩=>h v H' s' ⟨p, xs, e, Xv _ _ q, pr⟩)
theorem EvB.ls {te : TE} {r : Enc α} [z : FlatE r] {m : Res (List α)} (he : EvB K Er S OO σ te (rV r) m) : EvL K Er S OO σ te r m:=fun H Q w s P=>he H Q w s (P.imp fun b _ h v H' s' ⟨p, xs, e, q, pr⟩=>h v H' s' ⟨p, xs, e, q, Paired.imp2 (fun _ _ z'=>z.flat (w.keep s').i z') pr⟩)
theorem Ev.ls {te : TE} {r : Enc α} [z : MonoE r] {m : Res (List α)} (he : Ev K Er S OO OO σ te (oL (oF r)) m) : EvL K Er S OO σ te r m:=he.sh.ls
noncomputable def atR (as : List α) (i : Int) : Res α:=match atI as i with
  | some a=>.ok a
  | none=>.bad
theorem Gi {as : List α} {i : Int} {a : α} (h : atR as i = .ok a) : atI as i = some a:=by
  unfold atR at h; split at h
  . cases h; assumption
  . cases h
theorem Gg {as : List α} {i : Int} {x : Exc} : atR as i ≠ .err x:=by unfold atR; split <;> exact fun z=>nomatch z
theorem QE {F : V -> α -> Prop} {xs : List V} {as : List α} {i : Int} {a : α} (p : Paired F xs as) (h : atI as i = some a) : ∃ x, atI xs i = some x /\ F x a:=by
  unfold atI at h ⊢
  rw [Paired.len p]
  cases e : ixN as.length i with
  | none=>rw [e] at h; cases h
  | some j=>
    rw [e] at h
    obtain ⟨x, h1, h2⟩:=Paired.getR p h
    exact ⟨x, h1, h2⟩
theorem PZ.okOf {F : β -> Hp -> Prop} {H : Hp} {m : Res β} (he : ∀ x, m ≠ .err x) (P : PZ Er F H m) : ∃ b, m = .ok b /\ F b H:=by
  cases m with
  | bad=>exact P.elim
  | err x=>exact absurd rfl (he x)
  | ok b=>exact ⟨b, rfl, P⟩
theorem XF {ta tb : TE} {r : Enc α} [z : MonoE r] {ma : Res (List α)} {mb : Res Int} (ha : EvB K Er S OO σ ta (rV r) ma) (hb : EvB K Er S OO σ tb Xc mb) : EvB K Er S OO σ (tOp (Hu K) ta tb) r (ma.bind fun as=>mb.bind fun i=>atR as i):=fun H Q w s P=>
  ha.run w s FB.tr P fun a x H1 s1 w1 q1 ⟨p, xs, e, q, pr⟩ P1=>hb.run w1 q1 FB.tr P1 fun b y H2 s2 w2 q2 r2 P2=>by
    obtain ⟨c, hc, P3⟩:=P2.okOf fun x=>Gg
    obtain ⟨u, h1, h2⟩:=QE pr (Gi hc)
    exact ⟨p, xs, b, u, e, r2, SqL.of (s2 _ _ q), h1, P3 u H2 (Xo.refl _) (z.mono s2 h2)⟩
theorem Ib {ta tb : TE} {r : Enc α} [z : MonoE r] {ma : Res (List α)} {mb : Res Int} (ha : EvL K Er S OO σ ta r ma) (hb : EvB K Er S OO σ tb Xc mb) : EvS K Er S OO σ (tOp (Hu K) ta tb) r (ma.bind fun as=>mb.bind fun i=>atR as i):=fun H Q w s P=>
  ha.run w s FS.tr P fun a x H1 s1 w1 q1 ⟨p, xs, e, q, pr⟩ P1=>hb.run w1 q1 FS.tr P1 fun b y H2 s2 w2 q2 r2 P2=>by
    obtain ⟨c, hc, P3⟩:=P2.okOf fun x=>Gg
    obtain ⟨u, h1, h2⟩:=QE pr (Gi hc)
    exact ⟨p, xs, b, u, e, r2, SqL.of (s2 _ _ q), h1, P3 u H2 (Xo.refl _) (z.mono (Xj s2) h2)⟩
theorem Yd {ta : TE} {r : Enc α} {m : Res (List α)} (ha : EvB K Er S OO σ ta (rV r) m) : EvB K Er S OO σ (tCB (De K) (XA ta ZQ)) Xc (m.bind fun as=>.ok (as.length : Int)):=fun H Q w s P=>
  ha.run w s FB.tr P fun a x H1 s1 w1 q1 ⟨p, xs, e, q, pr⟩ P1=>⟨p, xs, by rw [e], .inl (SqL.of q), P1 _ H1 (Xo.refl _) (by rw [Paired.len pr]; rfl)⟩
theorem BZ {r : Enc α} [z : MonoE r] {xs : List V} {as : List α} {H : Hp} {Q : VK} (w : W OO H) (pr : Paired (r K (hid H OO)) xs as) (P : FO K OO OO (oL (oF r)) Q as H) : ∀ p, H p = none -> Q (.ref p) (upd H p (.lst xs)):=fun p hp=>by
  have hn:=VT (OO:=OO) hp (o:=.lst xs)
  refine P (.ref p) [(p, .lst xs)] _ (X4 hp _) (w.new hp rfl) hn ?_
  refine ⟨p, xs, List.replicate as.length [], rfl, (P3.of (Paired.imp2 (fun _ _ h=>z.mono hn h) pr)).imp fun _ _ _ h=>h, by rw [Yj]⟩
theorem Paired.take' {F : α -> β -> Prop} : ∀ {l : List α} {m : List β} (n : Nat), Paired F l m -> Paired F (l.take n) (m.take n)
  | _, _, 0, _=>.nil
  | _, _, _ + 1, .nil=>.nil
  | _, _, n + 1, .cons r t=>.cons r (Paired.take' n t)
theorem Paired.drop' {F : α -> β -> Prop} : ∀ {l : List α} {m : List β} (n : Nat), Paired F l m -> Paired F (l.drop n) (m.drop n)
  | _, _, 0, h=>h
  | _, _, _ + 1, .nil=>.nil
  | _, _, n + 1, .cons _ t=>Paired.drop' n t
theorem Paired.rep' {F : α -> β -> Prop} {l : List α} {m : List β} (h : Paired F l m) : ∀ n : Nat, Paired F (List.replicate n l).flatten (List.replicate n m).flatten
  | 0=>.nil
  | n + 1=>by simp only [List.replicate_succ, List.flatten_cons]; exact Paired.app h (Paired.rep' h n)
noncomputable def KU (as : List α) (lo hi : Option Int) : List α:=(as.drop (HT.sIx as.length 0 lo)).take (HT.sIx as.length as.length hi - HT.sIx as.length 0 lo)
theorem Vq {F : V -> α -> Prop} {xs : List V} {as : List α} (p : Paired F xs as) (lo hi : Option Int) : Paired F (Hs xs lo hi) (KU as lo hi):=by
  unfold Hs KU; rw [Paired.len p]; exact Paired.take' _ (Paired.drop' _ p)
noncomputable def FP (Q : Option Int -> Hp -> Prop) (a : Option Int) (H : Hp) : Prop:=∀ H', Xo H H' -> Q a H'
noncomputable def EvP (Er : Exc -> Hp -> Prop) (S : SC) (OO : List (List XG)) (σ : St) (t : TO) (m : Res (Option Int)) : Prop:=∀ H Q, W OO H -> S.p (hid H OO) -> PZ Er (FP Q) H m -> t σ H Q
theorem EvP.run {t : TO} {m : Res (Option Int)} (he : EvP Er S OO σ t m) {H : Hp} {Q : Option Int -> Hp -> Prop} (w : W OO H) (s : S.p (hid H OO)) {f : Option Int -> Res β} {F : β -> Hp -> Prop} (hF : ∀ b H H', Xo H H' -> F b H -> F b H') (P : PZ Er F H (m.bind f))
    (hk : ∀ a H', Xo H H' -> W OO H' -> S.p (hid H' OO) -> PZ Er F H' (f a) -> Q a H') : t σ H Q:=by
  refine he H Q w s ?_
  cases e : m with
  | bad=>rw [e] at P; exact P
  | err x=>rw [e] at P; exact P
  | ok a=>exact fun H' s'=>hk a H' s' (w.keep s') (S.mono _ _ (Xj s') s) (PZ.run e hF s' P)
theorem Uh : EvP Er S OO σ DR (.ok none):=fun H Q w s P=>P H (Xo.refl _)
theorem Qw {te : TE} {m : Res Int} (h : EvB K Er S OO σ te Xc m) : EvP Er S OO σ (HG te) (m.bind fun i=>.ok (some i)):=fun H Q w s P=>
  h.run w s (fun _ _ _ s h H2 s2=>h H2 (s.trans s2)) P fun a v H1 s1 w1 q1 r1 P1=>⟨a, r1, P1 H1 (Xo.refl _)⟩
theorem V6 {te : TE} {tl th : TO} {r : Enc α} [z : MonoE r] {m : Res (List α)} {ml mh : Res (Option Int)} (he : EvL K Er S OO σ te r m) (hl : EvP Er S OO σ tl ml) (hh : EvP Er S OO σ th mh) :
    Ev K Er S OO OO σ (tSl (IL K) te tl th) (oL (oF r)) (m.bind fun as=>ml.bind fun lo=>mh.bind fun hi=>.ok (KU as lo hi)):=fun H Q w s P=>
  he.run w s FO.tr P fun as x H1 s1 w1 q1 ⟨p, xs, e, q, pr⟩ P1=>hl.run w1 q1 FO.tr P1 fun lo H2 s2 w2 q2 P2=>hh.run w2 q2 FO.tr P2 fun hi H3 s3 w3 q3 P3'=>
    ⟨p, xs, e, SqL.of (s3 _ _ (s2 _ _ q)), BZ w3 (Vq (Paired.imp2 (fun _ _ h=>z.mono ((Xj s2).trans (Xj s3)) h) pr) lo hi) P3'⟩
theorem Cp {ta : TE} {r : Enc α} {m : Res (List α)} (ha : EvB K Er S OO σ ta (rL r) m) : EvB K Er S OO σ (tCB (De K) (XA ta ZQ)) Xc (m.bind fun as=>.ok (as.length : Int)):=fun H Q w s P=>
  ha.run w s FB.tr P fun a x H1 s1 w1 q1 ⟨p, xs, e, q, pr⟩ P1=>⟨p, xs, by rw [e], .inl q, P1 _ H1 (Xo.refl _) (by rw [Paired.len pr]; rfl)⟩
theorem EY {ta tb : TE} {ma : Res (List Int)} {mb : Res Int} (ha : EvB K Er S OO σ ta (rL Xc) ma) (hb : EvB K Er S OO σ tb Xc mb) : EvB K Er S OO σ (tOp (Hu K) ta tb) Xc (ma.bind fun as=>mb.bind fun i=>atR as i):=fun H Q w s P=>
  ha.run w s FB.tr P fun a x H1 s1 w1 q1 ⟨p, xs, e, q, pr⟩ P1=>hb.run w1 q1 FB.tr P1 fun b y H2 s2 w2 q2 r2 P2=>by
    obtain ⟨c, hc, P3⟩:=P2.okOf fun x=>Gg
    obtain ⟨u, h1, h2⟩:=QE pr (Gi hc)
    exact ⟨p, xs, b, u, e, r2, s2.seq q, h1, P3 u H2 (Xo.refl _) h2⟩
theorem Da {te : TE} {tl th : TO} {m : Res (List Int)} {ml mh : Res (Option Int)} (he : EvB K Er S OO σ te (rL Xc) m) (hl : EvP Er S OO σ tl ml) (hh : EvP Er S OO σ th mh) :
    Ev K Er S OO OO σ (tSl (IL K) te tl th) (oL (oF Xc)) (m.bind fun as=>ml.bind fun lo=>mh.bind fun hi=>.ok (KU as lo hi)):=fun H Q w s P=>
  he.run w s FO.tr P fun as x H1 s1 w1 q1 ⟨p, xs, e, q, pr⟩ P1=>hl.run w1 q1 FO.tr P1 fun lo H2 s2 w2 q2 P2=>hh.run w2 q2 FO.tr P2 fun hi H3 s3 w3 q3 P3'=>
    ⟨p, xs, e, s3.seq (s2.seq q), BZ w3 (Vq (Paired.imp2 (fun _ _ h=>h) pr) lo hi) P3'⟩
noncomputable def DP (as bs : List α) : Res (List α):=chk (as.length + bs.length <= sizeLine) (.ok (as ++ bs))
theorem UU {ta tb : TE} {r : Enc α} [z : MonoE r] {ma mb : Res (List α)} (ha : EvL K Er S OO σ ta r ma) (hb : EvL K Er S OO σ tb r mb) : Ev K Er S OO OO σ (tOp LM ta tb) (oL (oF r)) (ma.bind fun as=>mb.bind fun bs=>DP as bs):=fun H Q w s P=>
  ha.run w s FO.tr P fun as x H1 s1 w1 q1 ⟨p, xs, e, q, pr⟩ P1=>hb.run w1 q1 FO.tr P1 fun bs y H2 s2 w2 q2 ⟨p', ys, e', q', pr'⟩ P2=>by
    obtain ⟨c, hc, P3⟩:=P2.okOf fun x=>Qs
    obtain ⟨h1, h2⟩:=Zp hc
    cases h2
    exact ⟨p, p', xs, ys, e, e', s2 _ _ q, q', by rw [Paired.len pr, Paired.len pr']; exact h1, BZ w2 (Paired.app (Paired.imp2 (fun _ _ h=>z.mono (Xj s2) h) pr) pr') P3⟩
noncomputable def GU (as : List α) (n : Int) : Res (List α):=chk (-(2 ^ 63) <= n /\ n < 2 ^ 63 /\ as.length * n.toNat <= sizeLine) (.ok (List.replicate n.toNat as).flatten)
theorem Vv {ta tb : TE} {r : Enc α} [z : MonoE r] {ma : Res (List α)} {mb : Res Int} (ha : EvL K Er S OO σ ta r ma) (hb : EvB K Er S OO σ tb Xc mb) : Ev K Er S OO OO σ (tOp Lx ta tb) (oL (oF r)) (ma.bind fun as=>mb.bind fun n=>GU as n):=fun H Q w s P=>
  ha.run w s FO.tr P fun as x H1 s1 w1 q1 ⟨p, xs, e, q, pr⟩ P1=>hb.run w1 q1 FO.tr P1 fun n y H2 s2 w2 q2 r2 P2=>by
    obtain ⟨c, hc, P3⟩:=P2.okOf fun x=>Qs
    obtain ⟨⟨h0, h1, h3⟩, h2⟩:=Zp hc
    cases h2
    exact ⟨p, n, xs, e, r2, s2 _ _ q, h0, h1, by rw [Paired.len pr]; exact h3, BZ w2 (Paired.rep' (Paired.imp2 (fun _ _ h=>z.mono (Xj s2) h) pr) _) P3⟩
theorem V3 {ta : TE} {r : Enc α} [z : MonoE r] {ma : Res (List α)} (ha : EvL K Er S OO σ ta r ma) : Ev K Er S OO OO σ (tCB (F1 K) (XA ta ZQ)) (oL (oF r)) (ma.bind fun as=>.ok as):=fun H Q w s P=>
  ha.run w s FO.tr P fun as x H1 s1 w1 q1 ⟨p, xs, e, q, pr⟩ P1=>⟨p, xs, by rw [e], .inl (SqL.of q), BZ w1 pr P1⟩
noncomputable def YL (lo hi : Int) : List Int:=(List.range (hi - lo).toNat).map fun (i : Nat)=>lo + (i : Int)
theorem Zn {ta : TE} {ma : Res Int} (ha : EvB K Er S OO σ ta Xc ma) : Ev K Er S OO OO σ (K9 (XA ta ZQ)) (oL (oF Xc)) (ma.bind fun n=>chk (0 <= n /\ n <= 1000) (.ok (YL 0 n))):=fun H Q w s P=>
  ha.run w s FO.tr P fun n x H1 s1 w1 q1 r1 P1=>by
    obtain ⟨c, hc, P3⟩:=P1.okOf fun x=>Qs
    obtain ⟨⟨h0, h1⟩, h2⟩:=Zp hc
    cases h2
    refine ⟨n, by rw [show x = .int n from r1], h0, h1, BZ w1 ?_ P3⟩
    unfold YL
    rw [Int.sub_zero]
    have : ∀ l : List Nat, Paired (Xc K (hid H1 OO)) (l.map fun (i : Nat)=>V.int (i : Int)) (l.map fun (i : Nat)=>(0 : Int) + (i : Int)):=fun l=>by
      induction l with
      | nil=>exact .nil
      | cons a l ih=>exact .cons (by show V.int (a : Int) = V.int (0 + (a : Int)); rw [Int.zero_add]) ih
    exact this _
theorem GQ {o : OE α} : Ev K Er S OO OO σ (Cn ZQ) (oL o) (.ok []):=fun H Q w s P=>⟨Nat.zero_le _, fun p hp=>P (.ref p) [(p, .lst [])] _ (X4 hp _) (w.new hp rfl) (VT hp) ⟨p, [], [], rfl, .nil, rfl⟩⟩
noncomputable def FA {α : Type} (K : PySem.W.Frag) (OO : List (List XG)) (r : Enc α) (Q : List V -> Hp -> Prop) (as : List α) (H : Hp) : Prop:=∀ vs H', Xo H H' -> Paired (r K (hid H' OO)) vs as -> Q vs H'
noncomputable def EvA {α : Type} (K : PySem.W.Frag) (Er : Exc -> Hp -> Prop) (S : SC) (OO : List (List XG)) (σ : St) (t : TA) (r : Enc α) (m : Res (List α)) : Prop:=∀ H Q, W OO H -> S.p (hid H OO) -> PZ Er (FA K OO r Q) H m -> t σ H Q
theorem Ys {r : Enc α} : EvA K Er S OO σ ZQ r (.ok []):=fun H Q w s P=>P [] H (Xo.refl _) .nil
theorem Xs {te : TE} {t : TA} {r : Enc α} [z : MonoE r] {m : Res α} {n : Res (List α)} (he : EvS K Er S OO σ te r m) (ht : EvA K Er S OO σ t r n) : EvA K Er S OO σ (XA te t) r (m.bind fun a=>n.bind fun as=>.ok (a :: as)):=fun H Q w s P=>
  he.run w s (fun b H H' s h vs H2 s2 p=>h vs H2 (s.trans s2) p) P fun a x H1 s1 w1 q1 r1 P1=>by
    refine ht H1 _ w1 q1 ?_
    cases e : n with
    | bad=>rw [e] at P1; exact P1
    | err x=>rw [e] at P1; exact P1
    | ok as=>rw [e] at P1; exact fun vs H2 s2 p=>P1 (x :: vs) H2 s2 (.cons (z.mono (Xj s2) r1) p)
theorem Y7 {t : TA} {r : Enc α} [z : MonoE r] {m : Res (List α)} (h : EvA K Er S OO σ t r m) : Ev K Er S OO OO σ (Cn t) (oL (oF r)) (m.bind fun as=>chk (as.length <= sizeLine) (.ok as)):=fun H Q w s P=>by
  refine h H _ w s ?_
  cases e : m with
  | bad=>rw [e] at P; exact P
  | err x=>rw [e] at P; exact P
  | ok as=>
    rw [e] at P
    intro vs H1 s1 p
    obtain ⟨c, hc, P3⟩:=PZ.okOf (fun x=>Qs) (show PZ Er _ H (chk (as.length <= sizeLine) (.ok as)) from P)
    obtain ⟨h1, h2⟩:=Zp hc
    cases h2
    exact ⟨by rw [Paired.len p]; exact h1, BZ (w.keep s1) p (FO.tr _ _ _ s1 P3)⟩
theorem Ji {ta tb : TE} {r : Enc α} {q : Enc β} [z : MonoE r] [y : MonoE q] {ma : Res α} {mb : Res β} (ha : EvS K Er S OO σ ta r ma) (hb : EvS K Er S OO σ tb q mb) : EvS K Er S OO σ (IQ (XA ta (XA tb ZQ))) (rP2 r q) (ma.bind fun a=>mb.bind fun b=>.ok (a, b)):=fun H Q w s P=>
  ha.run w s FS.tr P fun a x H1 s1 w1 q1 r1 P1=>hb.run w1 q1 FS.tr P1 fun b y' H2 s2 w2 q2 r2 P2=>
    ⟨by show 2 <= sizeLine; decide, fun p hp=>P2 _ _ (X4 hp _) ⟨p, x, y', rfl, Jb w2 hp, z.mono ((Xj s2).trans (Xj (X4 hp _))) r1, y.mono (Xj (X4 hp _)) r2⟩⟩
theorem Bh {ta tb tc : TE} {r : Enc α} {q : Enc β} {t : Enc γ} [z : MonoE r] [y : MonoE q] [x : MonoE t] {ma : Res α} {mb : Res β} {mc : Res γ} (ha : EvS K Er S OO σ ta r ma) (hb : EvS K Er S OO σ tb q mb) (hc : EvS K Er S OO σ tc t mc) :
    EvS K Er S OO σ (IQ (XA ta (XA tb (XA tc ZQ)))) (rP3 r q t) (ma.bind fun a=>mb.bind fun b=>mc.bind fun c=>.ok (a, b, c)):=fun H Q w s P=>
  ha.run w s FS.tr P fun a x' H1 s1 w1 q1 r1 P1=>hb.run w1 q1 FS.tr P1 fun b y' H2 s2 w2 q2 r2 P2=>hc.run w2 q2 FS.tr P2 fun c z' H3 s3 w3 q3 r3 P3=>
    ⟨by show 3 <= sizeLine; decide, fun p hp=>P3 _ _ (X4 hp _) ⟨p, x', y', z', rfl, Jb w3 hp, z.mono (((Xj s2).trans (Xj s3)).trans (Xj (X4 hp _))) r1, y.mono ((Xj s3).trans (Xj (X4 hp _))) r2, x.mono (Xj (X4 hp _)) r3⟩⟩
end
end L2
namespace L2
open PySem PySem.Spec PyProof.Rows
section
variable {K : PySem.W.Frag} {Er : Exc -> Hp -> Prop} {S : SC} {OO OO' OO2 : List (List XG)} {σ : St} {α β γ ρ ι : Type} {α1 α2 α3 α4 α5 α6 : Type}
noncomputable def noE (m : Res α) : Res α:=match m with
  | .ok a=>.ok a
  | _=>.bad
theorem Gm {m : Res α} {a : α} (h : noE m = .ok a) : m = .ok a:=by
  cases m with
  | ok b=>exact h
  | bad=>cases h
  | err x=>cases h
theorem Kb {m : Res α} {x : Exc} : noE m ≠ .err x:=by cases m <;> exact fun z=>nomatch z
noncomputable def FF (K : PySem.W.Frag) (o : OE α) (Q : VK) (a : α) (H : Hp) : Prop:=∀ v C H', W [C] H' -> Xo H (hid H' [C]) -> o K (hid H' [C]) v a C -> Q v H'
noncomputable def sp1 (r1 : Enc α1) (o : OE ρ) (f : α1 -> Res ρ) (K : PySem.W.Frag) : Sp:=fun vs H Q _=>∃ v1 a1 b, vs = [v1] /\ r1 K H v1 a1 /\ f a1 = .ok b /\ FF K o Q b H
noncomputable def sp2 (r1 : Enc α1) (r2 : Enc α2) (o : OE ρ) (f : α1 -> α2 -> Res ρ) (K : PySem.W.Frag) : Sp:=fun vs H Q _=>∃ v1 v2 a1 a2 b, vs = [v1, v2] /\ r1 K H v1 a1 /\ r2 K H v2 a2 /\ f a1 a2 = .ok b /\ FF K o Q b H
noncomputable def sp3 (r1 : Enc α1) (r2 : Enc α2) (r3 : Enc α3) (o : OE ρ) (f : α1 -> α2 -> α3 -> Res ρ) (K : PySem.W.Frag) : Sp:=fun vs H Q _=>∃ v1 v2 v3 a1 a2 a3 b, vs = [v1, v2, v3] /\ r1 K H v1 a1 /\ r2 K H v2 a2 /\ r3 K H v3 a3 /\ f a1 a2 a3 = .ok b /\ FF K o Q b H
noncomputable def sp5 (r1 : Enc α1) (r2 : Enc α2) (r3 : Enc α3) (r4 : Enc α4) (r5 : Enc α5) (o : OE ρ) (f : α1 -> α2 -> α3 -> α4 -> α5 -> Res ρ) (K : PySem.W.Frag) : Sp:=fun vs H Q _=>∃ v1 v2 v3 v4 v5 a1 a2 a3 a4 a5 b, vs = [v1, v2, v3, v4, v5] /\ r1 K H v1 a1 /\ r2 K H v2 a2 /\ r3 K H v3 a3 /\ r4 K H v4 a4 /\ r5 K H v5 a5 /\ f a1 a2 a3 a4 a5 = .ok b /\ FF K o Q b H
theorem Ld {C : List XG} {H H' : Hp} (w : W OO H) (w' : W [C] H') (m' : Xo H (hid H' [C])) : W (C :: OO) H' /\ Xo (hid H OO) (hid H' (C :: OO)) /\ JE (hid H' [C]) (hid H' (C :: OO)):=by
  have s : Xo H H':=m'.trans Xv
  have f1 : fl [C] = C.map (·.1):=by simp [fl]
  have hd : ∀ b, b ∈ fl OO -> b ∉ C.map (·.1):=fun b hb hc=>by
    obtain ⟨u, hu⟩:=FX hb
    exact (X0 (m' _ _ (w.tr _ hu))).2 (by rw [f1]; exact hc)
  have w2 : W (C :: OO) H':=by
    refine ⟨fun c hc=>?_, ?_, fun c hc=>?_⟩
    . rw [List.flatten_cons, List.mem_append] at hc
      rcases hc with hc | hc
      . exact w'.tr c (by simp [hc])
      . exact s _ _ (w.tr c hc)
    . rw [Yo]
      refine List.nodup_append.mpr ⟨by rw [← f1]; exact w'.nd, w.nd, fun a ha b hb e=>?_⟩
      subst e; exact hd a hb ha
    . rw [List.flatten_cons, List.mem_append] at hc
      rcases hc with hc | hc
      . exact w'.mu c (by simp [hc])
      . exact w.mu c hc
  refine ⟨w2, fun b u q=>?_, fun b u q i=>?_⟩
  . obtain ⟨q1, q2⟩ := X0 q
    obtain ⟨q3, q4⟩:=X0 (m' _ _ q1)
    refine Zk q3 ?_
    rw [Yo, List.mem_append]
    exact fun z=>z.elim (fun z=>q4 (by rw [f1]; exact z)) q2
  . exact w2.i b u (X0 q).1 i
theorem JU {o : OE α} [z : FlatO o] {Q : VK} {b : α} {H : Hp} (w : W OO H) (P : FO K OO OO o Q b H) : FF K o Q b H:=fun v C H' w' m' ho=>by
  obtain ⟨w2, h2, h3⟩:=Ld w w' m'
  exact P v C H' (m'.trans Xv) w2 h2 (z.flat h3 ho)
theorem Zl {ta : TE} {r1 : Enc α1} {o : OE ρ} [FlatO o] {f : α1 -> Res ρ} {ma : Res α1} (ha : EvB K Er S OO σ ta r1 ma) : Ev K Er S OO OO σ (UW (sp1 r1 o f K) [] E0 (XA ta ZQ)) o (ma.bind fun a=>noE (f a)):=fun H Q w s P=>
  ha.run w s FO.tr P fun a x H1 s1 w1 q1 r1 P1=>by
    obtain ⟨b, hb, P2⟩:=P1.okOf fun x=>Kb
    exact ⟨x, a, b, rfl, r1, Gm hb, JU w1 P2⟩
theorem X7 {ta tb : TE} {r1 : Enc α1} {r2 : Enc α2} [z1 : MonoE r1] {o : OE ρ} [FlatO o] {f : α1 -> α2 -> Res ρ} {ma : Res α1} {mb : Res α2} (ha : EvB K Er S OO σ ta r1 ma) (hb : EvB K Er S OO σ tb r2 mb) :
    Ev K Er S OO OO σ (UW (sp2 r1 r2 o f K) [] E0 (XA ta (XA tb ZQ))) o (ma.bind fun a=>mb.bind fun b=>noE (f a b)):=fun H Q w s P=>
  ha.run w s FO.tr P fun a x H1 s1 w1 q1 r1 P1=>hb.run w1 q1 FO.tr P1 fun b y H2 s2 w2 q2 r2 P2=>by
    obtain ⟨c, hc, P3⟩:=P2.okOf fun x=>Kb
    exact ⟨x, y, a, b, c, rfl, z1.mono s2 r1, r2, Gm hc, JU w2 P3⟩
theorem Z2 {ta tb tc : TE} {r1 : Enc α1} {r2 : Enc α2} {r3 : Enc α3} [z1 : MonoE r1] [z2 : MonoE r2] {o : OE ρ} [FlatO o] {f : α1 -> α2 -> α3 -> Res ρ} {ma : Res α1} {mb : Res α2} {mc : Res α3} (ha : EvB K Er S OO σ ta r1 ma) (hb : EvB K Er S OO σ tb r2 mb) (hc : EvB K Er S OO σ tc r3 mc) :
    Ev K Er S OO OO σ (UW (sp3 r1 r2 r3 o f K) [] E0 (XA ta (XA tb (XA tc ZQ)))) o (ma.bind fun a=>mb.bind fun b=>mc.bind fun c=>noE (f a b c)):=fun H Q w s P=>
  ha.run w s FO.tr P fun a x H1 s1 w1 q1 r1 P1=>hb.run w1 q1 FO.tr P1 fun b y H2 s2 w2 q2 r2 P2=>hc.run w2 q2 FO.tr P2 fun c z H3 s3 w3 q3 r3 P3=>by
    obtain ⟨d, hd, P4⟩:=P3.okOf fun x=>Kb
    exact ⟨x, y, z, a, b, c, d, rfl, z1.mono (s2.trans s3) r1, z2.mono s3 r2, r3, Gm hd, JU w3 P4⟩
theorem C8 {ta tb tc td te : TE} {r1 : Enc α1} {r2 : Enc α2} {r3 : Enc α3} {r4 : Enc α4} {r5 : Enc α5} [z1 : MonoE r1] [z2 : MonoE r2] [z3 : MonoE r3] [z4 : MonoE r4] {o : OE ρ} [FlatO o] {f : α1 -> α2 -> α3 -> α4 -> α5 -> Res ρ} {ma : Res α1} {mb : Res α2} {mc : Res α3} {md : Res α4} {me : Res α5} (ha : EvB K Er S OO σ ta r1 ma) (hb : EvB K Er S OO σ tb r2 mb) (hc : EvB K Er S OO σ tc r3 mc) (hd : EvB K Er S OO σ td r4 md) (he : EvB K Er S OO σ te r5 me) :
    Ev K Er S OO OO σ (UW (sp5 r1 r2 r3 r4 r5 o f K) [] E0 (XA ta (XA tb (XA tc (XA td (XA te ZQ)))))) o (ma.bind fun a=>mb.bind fun b=>mc.bind fun c=>md.bind fun d=>me.bind fun e=>noE (f a b c d e)):=fun H Q w s P=>
  ha.run w s FO.tr P fun a x H1 s1 w1 q1 r1 P1=>hb.run w1 q1 FO.tr P1 fun b y H2 s2 w2 q2 r2 P2=>hc.run w2 q2 FO.tr P2 fun c z H3 s3 w3 q3 r3 P3=>hd.run w3 q3 FO.tr P3 fun d u H4 s4 w4 q4 r4 P4=>he.run w4 q4 FO.tr P4 fun e t H5 s5 w5 q5 r5 P5=>by
    obtain ⟨g, hg, P6⟩:=P5.okOf fun x=>Kb
    exact ⟨x, y, z, u, t, a, b, c, d, e, g, rfl, z1.mono (s2.trans (s3.trans (s4.trans s5))) r1, z2.mono (s3.trans (s4.trans s5)) r2, z3.mono (s4.trans s5) r3, z4.mono s5 r4, r5, Gm hg, JU w5 P6⟩
structure Jn (γ ι : Type) where
  oo : ι -> List (List XG)
  ss : ι -> St
  sc : γ -> ι -> SC
inductive Ctl (ρ γ : Type) where
  | ret (r : ρ) | nx (g : γ)
noncomputable def FTd (K : PySem.W.Frag) (o : OE ρ) (D : Ends) (r : ρ) (h : Hp) : Prop:=∀ v C OO' H', W (C :: OO') H' -> Xo h (hid H' (C :: OO')) -> o K (hid H' (C :: OO')) v r C -> D.rt v H'
noncomputable def FNd (J : Jn γ ι) (D : Ends) (g : γ) (h : Hp) : Prop:=∀ x H', W (J.oo x) H' -> Xo h (hid H' (J.oo x)) -> (J.sc g x).p (hid H' (J.oo x)) -> D.nx (J.ss x) H'
noncomputable def FCd (K : PySem.W.Frag) (o : OE ρ) (J : Jn γ ι) (D : Ends) (c : Ctl ρ γ) (h : Hp) : Prop:=match c with
  | .ret r=>FTd K o D r h
  | .nx g=>FNd J D g h
class FdOk (Fd : Ends -> β -> Hp -> Prop) : Prop where
  tr : ∀ D b h h', Xo h h' -> Fd D b h -> Fd D b h'
instance {o : OE ρ} : FdOk (FTd K o):=⟨fun D b h h' s q v C O H' w m x=>q v C O H' w (s.trans m) x⟩
instance {J : Jn γ ι} : FdOk (FNd J):=⟨fun D b h h' s q x H' w m y=>q x H' w (s.trans m) y⟩
instance {o : OE ρ} {J : Jn γ ι} : FdOk (FCd K o J):=⟨fun D b h h' s q=>by
  cases b with
  | ret r=>exact fun v C O H' w m x=>q v C O H' w (s.trans m) x
  | nx g=>exact fun x H' w m y=>q x H' w (s.trans m) y⟩
theorem PZ.tr {F : β -> Hp -> Prop} (hF : ∀ b H H', Xo H H' -> F b H -> F b H') {H H' : Hp} {m : Res β} (s : Xo H H') (P : PZ Er F H m) : PZ Er F H' m:=by
  cases m with
  | bad=>exact P
  | err x=>exact fun H2 s2=>P H2 (s.trans s2)
  | ok b=>exact hF b H H' s P
noncomputable def Sv (Er : Exc -> Hp -> Prop) (S : SC) (OO : List (List XG)) (σ : St) (t : TS) (Fd : Ends -> β -> Hp -> Prop) (m : Res β) : Prop:=∀ H D, W OO H -> S.p (hid H OO) -> PZ Er (Fd D) (hid H OO) m -> t D σ H
variable {Fd : Ends -> β -> Hp -> Prop} [fd : FdOk Fd] {u : TS}
theorem Ev.st {te : TE} {o : OE α} {m : Res α} (he : Ev K Er S OO OO' σ te o m) {H : Hp} {D : Ends} {Q : VK} (w : W OO H) (s : S.p (hid H OO)) {f : α -> Res β} (P : PZ Er (Fd D) (hid H OO) (m.bind f))
    (hk : ∀ a v C H', W (C :: OO') H' -> S.p (hid H' (C :: OO')) -> o K (hid H' (C :: OO')) v a C -> PZ Er (Fd D) (hid H' (C :: OO')) (f a) -> Q v H') : te σ H Q:=by
  refine he H Q w s ?_
  cases m with
  | bad=>exact P
  | err x=>exact fun H' s'=>P H' (Xv.trans s')
  | ok a=>exact fun v C H' s' w' m' ho=>hk a v C H' w' (S.mono _ _ m' s) ho (PZ.tr (fd.tr D) m' P)
theorem EvB.st {te : TE} {r : Enc α} {m : Res α} (he : EvB K Er S OO σ te r m) {H : Hp} {D : Ends} {Q : VK} (w : W OO H) (s : S.p (hid H OO)) {f : α -> Res β} (P : PZ Er (Fd D) (hid H OO) (m.bind f))
    (hk : ∀ a v H', Xo H H' -> W OO H' -> S.p (hid H' OO) -> r K H' v a -> PZ Er (Fd D) (hid H' OO) (f a) -> Q v H') : te σ H Q:=by
  refine he H Q w s ?_
  cases m with
  | bad=>exact P
  | err x=>exact fun H' s'=>P H' (Xv.trans s')
  | ok a=>exact fun v H' s' hr=>hk a v H' s' (w.keep s') (S.mono _ _ (Xj s') s) hr (PZ.tr (fd.tr D) (Xj s') P)
theorem EvS.st {te : TE} {r : Enc α} {m : Res α} (he : EvS K Er S OO σ te r m) {H : Hp} {D : Ends} {Q : VK} (w : W OO H) (s : S.p (hid H OO)) {f : α -> Res β} (P : PZ Er (Fd D) (hid H OO) (m.bind f))
    (hk : ∀ a v H', Xo H H' -> W OO H' -> S.p (hid H' OO) -> r K (hid H' OO) v a -> PZ Er (Fd D) (hid H' OO) (f a) -> Q v H') : te σ H Q:=by
  refine he H Q w s ?_
  cases m with
  | bad=>exact P
  | err x=>exact fun H' s'=>P H' (Xv.trans s')
  | ok a=>exact fun v H' s' hr=>hk a v H' s' (w.keep s') (S.mono _ _ (Xj s') s) hr (PZ.tr (fd.tr D) (Xj s') P)
theorem EvT.st {tt : TT} {m : Res Bool} (he : EvT Er S OO σ tt m) {H : Hp} {D : Ends} {Q : Bool -> Hp -> Prop} (w : W OO H) (s : S.p (hid H OO)) {f : Bool -> Res β} (P : PZ Er (Fd D) (hid H OO) (m.bind f))
    (hk : ∀ b H', W OO H' -> S.p (hid H' OO) -> PZ Er (Fd D) (hid H' OO) (f b) -> Q b H') : tt σ H Q:=by
  refine he H Q w s ?_
  cases m with
  | bad=>exact P
  | err x=>exact fun H' s'=>P H' (Xv.trans s')
  | ok a=>exact fun H' s'=>hk a H' (w.keep s') (S.mono _ _ (Xj s') s) (PZ.tr (fd.tr D) (Xj s') P)
theorem set_set {OO : List (List XG)} {k : Nat} {C : List XG} : (OO.set k C).set k [] = OO.set k []:=by simp
theorem LA {C : List XG} {H : Hp} {k : Nat} (w : W (C :: OO) H) (hk : k < OO.length) : W (OO.set k C) H /\ Xo (hid H (C :: OO)) (hid H (OO.set k C)):=by
  have h1:=X1 (OO:=OO) (k:=k) (C:=OO[k]) (by simp [hk])
  have h2:=X1 (OO:=OO.set k C) (k:=k) (C:=C) (by simp [hk])
  rw [set_set] at h2
  have h3 : (OO.set k C).flatten.Perm (C ++ (OO.set k []).flatten):=by simpa using h2.symm
  have h4 : (C :: OO).flatten.Perm (C ++ (OO[k] ++ (OO.set k []).flatten)):=by
    rw [List.flatten_cons]; exact (by simpa using h1.symm : OO.flatten.Perm (OO[k] ++ (OO.set k []).flatten)).append_left C
  have h5 : (C ++ (OO.set k []).flatten).Sublist (C ++ (OO[k] ++ (OO.set k []).flatten)):=List.Sublist.append (List.Sublist.refl _) (List.sublist_append_right _ _)
  have w1 : W [C ++ (OO[k] ++ (OO.set k []).flatten)] H:=w.of (by simpa using h4.symm)
  have w2 : W [C ++ (OO.set k []).flatten] H:=w1.sub (by simpa using h5)
  refine ⟨w2.of (by simpa using h3), VU (Xo.refl _) fun b hb=>?_⟩
  obtain ⟨o, ho⟩:=FX hb
  exact QW (h4.mem_iff.mpr (h5.mem (h3.mem_iff.mp ho)))
theorem Yp {te : TE} {o : OE α} [MonoO o] {m : Res α} {f : α -> Res β} (i k : Nat) (he : Ev K Er S OO OO' σ te o m) (hk : k < OO'.length) (hr : ∀ a v C, Sv Er (S.addO K o v a C) (OO'.set k C) (σ.set i (some v)) u Fd (f a)) : Sv Er S OO σ (Jy (BJ te (Qv i)) u) Fd (m.bind f):=fun H D w s P=>
  he.st w s P fun a v C H' w' s' ho P'=>by
    obtain ⟨w2, h2⟩:=LA w' hk
    exact hr a v C H' D w2 ⟨S.mono _ _ h2 s', MonoO.mono h2 ho⟩ (PZ.tr (fd.tr D) h2 P')
theorem XY {te : TE} {r : Enc α} [MonoE r] {m : Res α} {f : α -> Res β} (i : Nat) (he : EvS K Er S OO σ te r m) (hr : ∀ a v, Sv Er (S.add K r v a) OO (σ.set i (some v)) u Fd (f a)) : Sv Er S OO σ (Jy (BJ te (Qv i)) u) Fd (m.bind f):=fun H D w s P=>
  he.st w s P fun a v H' s1 w' s' ho P'=>hr a v H' D w' ⟨s', ho⟩ P'
theorem XB {te : TE} {o : OE ρ} {m : Res ρ} (he : Ev K Er S OO OO' σ te o m) : Sv Er S OO σ (Jy (Lz te) u) (FTd K o) m:=fun H D w s P=>
  he H _ w s (by
    cases m with
    | bad=>exact P
    | err x=>exact fun H' s'=>P H' (Xv.trans s')
    | ok a=>exact fun v C H' s' w' m' ho=>P v C OO' H' w' m' ho)
theorem Uw {J : Jn γ ι} {t : TS} {o : OE ρ} {m : Res γ} (h : Sv Er S OO σ t (FNd J) m) : Sv Er S OO σ t (FCd K o J) (m.bind fun r=>.ok (.nx r)):=fun H D w s P=>h H D w s (by
  cases m with
  | bad=>exact P
  | err x=>exact P
  | ok a=>exact P)
theorem XL {J : Jn γ ι} (x : ι) (g : γ) (h1 : OO = J.oo x) (h2 : σ = J.ss x) (h3 : ∀ h, S.p h -> (J.sc g x).p h) : Sv Er S OO σ KA (FNd J) (.ok g):=fun H D w s P=>by
  subst h1 h2
  exact P x H w (Xo.refl _) (h3 _ s)
theorem YI {o : OE ρ} {c : TT} {t1 : TS} {mc : Res Bool} {m1 m2 : Res ρ} (hc : EvT Er S OO σ c mc) (h1 : Sv Er S OO σ t1 (FTd K o) m1) (h2 : Sv Er S OO σ u (FTd K o) m2) : Sv Er S OO σ (Jy (ID c t1 KA) u) (FTd K o) (mc.bind fun b=>if b = true then m1 else m2):=fun H D w s P=>
  hc.st (Fd:=FTd K o) w s P fun b H' w' s' P'=>by
    cases b with
    | true=>rw [if_pos rfl] at P' ⊢; exact h1 H' _ w' s' P'
    | false=>exact h2 H' D w' s' P'
theorem KO {o : OE ρ} {J : Jn γ ι} {c : TT} {t1 : TS} {mc : Res Bool} {m1 : Res ρ} {m2 : Res (Ctl ρ γ)} (hc : EvT Er S OO σ c mc) (h1 : Sv Er S OO σ t1 (FTd K o) m1) (h2 : Sv Er S OO σ u (FCd K o J) m2) : Sv Er S OO σ (Jy (ID c t1 KA) u) (FCd K o J) (mc.bind fun b=>if b = true then m1.bind (fun r=>.ok (.ret r)) else m2):=fun H D w s P=>
  hc.st (Fd:=FCd K o J) w s P fun b H' w' s' P'=>by
    cases b with
    | true=>
      rw [if_pos rfl] at P' ⊢
      refine h1 H' _ w' s' ?_
      cases m1 with
      | bad=>exact P'
      | err x=>exact P'
      | ok a=>exact P'
    | false=>exact h2 H' D w' s' P'
theorem QZ {c : TT} {t1 t2 : TS} {mc : Res Bool} {m1 m2 : Res β} (hc : EvT Er S OO σ c mc) (h1 : Sv Er S OO σ t1 Fd m1) (h2 : Sv Er S OO σ t2 Fd m2) : Sv Er S OO σ (ID c t1 t2) Fd (mc.bind fun b=>if b = true then m1 else m2):=fun H D w s P=>
  hc.st w s P fun b H' w' s' P'=>by
    cases b with
    | true=>rw [if_pos rfl] at P' ⊢; exact h1 H' _ w' s' P'
    | false=>exact h2 H' D w' s' P'
theorem ZZ {J : Jn γ ι} {t : TS} {m : Res γ} {f : γ -> Res β} (hb : Sv Er S OO σ t (FNd J) m) (hr : ∀ g x, Sv Er (J.sc g x) (J.oo x) (J.ss x) u Fd (f g)) : Sv Er S OO σ (Jy t u) Fd (m.bind f):=fun H D w s P=>
  hb H _ w s (by
    cases m with
    | bad=>exact P
    | err x=>exact P
    | ok g=>exact fun x H' w' m' q=>hr g x H' D w' q (PZ.tr (fd.tr D) m' P))
noncomputable def V0 (f : γ -> Res ρ) : Ctl ρ γ -> Res ρ
  | .ret r=>.ok r
  | .nx g=>f g
noncomputable def Z0 {δ : Type} (f : γ -> Res (Ctl ρ δ)) : Ctl ρ γ -> Res (Ctl ρ δ)
  | .ret r=>.ok (.ret r)
  | .nx g=>f g
theorem Sv.weak {S2 : SC} {t : TS} {m : Res β} (h : Sv Er S2 OO σ t Fd m) (hs : ∀ x, S.p x -> S2.p x) : Sv Er S OO σ t Fd m:=fun H D w s P=>h H D w (hs _ s) P
theorem LV {C D C' : List XG} {H : Hp} {k : Nat} {p : Addr} {o : HO} (w : W (D :: OO) H) (hk : OO[k]? = some C) (hp : p ∈ C.map (·.1)) (hC : (C'.map (·.1)).Perm ((C ++ D).map (·.1))) (ht : ∀ c ∈ C', upd H p o c.1 = some c.2) (hm : ∀ c ∈ C', Ht c.2 = true) :
    W (OO.set k C') (upd H p o) /\ hid (upd H p o) (OO.set k C') = hid H (D :: OO):=by
  have hlt : k < OO.length:=by
    rcases Nat.lt_or_ge k OO.length with h | h
    . exact h
    . rw [List.getElem?_eq_none h] at hk; cases hk
  have h1:=X1 hk
  have h2:=X1 (OO:=OO.set k C') (k:=k) (C:=C') (by simp [hlt])
  rw [set_set] at h2
  have h3 : (OO.set k C').flatten.Perm (C' ++ (OO.set k []).flatten):=by simpa using h2.symm
  have h4 : (D :: OO).flatten.Perm (D ++ (C ++ (OO.set k []).flatten)):=by
    rw [List.flatten_cons]; exact (by simpa using h1.symm : OO.flatten.Perm (C ++ (OO.set k []).flatten)).append_left D
  have hfl : (fl (OO.set k C')).Perm (fl (D :: OO)):=by
    unfold fl
    refine (h3.map _).trans (List.Perm.trans ?_ (h4.map _).symm)
    simp only [List.map_append]
    refine (hC.append_right _).trans ?_
    simp only [List.map_append]
    rw [← List.append_assoc]
    exact List.perm_append_comm.append_right _
  have nd:=w.nd
  refine ⟨⟨fun c hc=>?_, hfl.nodup_iff.mpr nd, fun c hc=>?_⟩, ?_⟩
  . rcases List.mem_append.mp (h3.mem_iff.mp hc) with hc | hc
    . exact ht c hc
    . have hne : c.1 ≠ p:=fun e=>by
        have nd2 : ((D ++ (C ++ (OO.set k []).flatten)).map (·.1)).Nodup:=(h4.map _).nodup_iff.mp nd
        simp only [List.map_append] at nd2
        have nd3:=(List.nodup_append.mp nd2).2.1
        exact (List.nodup_append.mp nd3).2.2 p hp c.1 (List.mem_map.mpr ⟨c, hc, rfl⟩) e.symm
      rw [Xp hne]
      exact w.tr c (h4.mem_iff.mpr (by simp [hc]))
  . rcases List.mem_append.mp (h3.mem_iff.mp hc) with hc | hc
    . exact hm c hc
    . exact w.mu c (h4.mem_iff.mpr (by simp [hc]))
  . funext b
    unfold hid
    by_cases hb : b ∈ fl (D :: OO)
    . rw [if_pos hb, if_pos (hfl.mem_iff.mpr hb)]
    . rw [if_neg hb, if_neg fun z => hb (hfl.mem_iff.mp z)]
      refine Xp fun e=>hb ?_
      rw [e]
      obtain ⟨c, hc, rfl⟩:=List.mem_map.mp hp
      exact QW (h4.mem_iff.mpr (by simp [hc]))
theorem Zv {Cs : List (List XG)} {D : List XG} : (Cs ++ [D]).flatten = Cs.flatten ++ D:=by simp
theorem Js {ta : TE} {o : OE α} [MonoO o] {m : Res α} {f : List α -> Res β} {v : V} {as : List α} {C : List XG} (i k : Nat) (hσ : σ[i]? = some (some v)) (hk : OO[k]? = some C) (hk' : OO'[k]? = some C) (h : ∀ x, S.p x -> oL o K x v as C) (he : Ev K Er S OO OO' σ ta o m)
    (hr : ∀ a C', Sv Er (S.addO K (oL o) v (as ++ [a]) C') (OO'.set k C') σ u Fd (f (as ++ [a]))) : Sv Er S OO σ (Jy (CM (tBM K "list" V5 (Kv i) (XA ta ZQ))) u) Fd (m.bind fun a=>chk (as.length < sizeLine) (f (as ++ [a]))):=fun H D w s P=>by
  obtain ⟨p, xs, Cs, e, q, c⟩:=h _ s
  subst c
  have hH : H p = some (.lst xs):=w.tr (p, .lst xs) (List.mem_flatten.mpr ⟨_, List.mem_of_getElem? hk, List.mem_cons_self⟩)
  refine ⟨v, hσ, by rw [e]; exact .inl ⟨rfl, _, SqL.of hH⟩, he.st w s P fun a y D' H' w' s' ho P'=>?_⟩
  obtain ⟨p', xs', Cs', e2, q2, c2⟩:=h _ s'
  rw [e] at e2; cases e2
  have c3 : (p, HO.lst xs) = (p, HO.lst xs') /\ Cs.flatten = Cs'.flatten:=by
    injection c2 with h1 h2
    exact ⟨h1, h2⟩
  obtain ⟨c3, c4⟩:=c3
  cases c3
  have hH' : H' p = some (.lst xs):=w'.tr (p, .lst xs) (by rw [List.flatten_cons]; exact List.mem_append_right _ (List.mem_flatten.mpr ⟨_, List.mem_of_getElem? hk', List.mem_cons_self⟩))
  cases hlt : decide (as.length < sizeLine) with
  | false=>rw [chk, if_neg (by simpa using hlt)] at P'; exact P'.elim
  | true=>
    have hlt' : as.length < sizeLine:=by simpa using hlt
    rw [XD hlt'] at P'
    have wnd:=w'.nd
    have hcell : ∀ c ∈ (p, HO.lst (xs ++ [y])) :: (Cs' ++ [D']).flatten, upd H' p (.lst (xs ++ [y])) c.1 = some c.2:=fun c hc=>by
      rcases List.mem_cons.mp hc with rfl | hc
      . exact X8
      . have hp1 := X1 hk'
        have w3 : W [D' ++ (((p, HO.lst xs) :: Cs.flatten) ++ (OO'.set k []).flatten)] H':=w'.of (by
          simp only [List.flatten_cons, List.flatten_nil, List.append_nil]
          exact (by simpa using hp1 : (((p, HO.lst xs) :: Cs.flatten) ++ (OO'.set k []).flatten).Perm OO'.flatten).append_left D')
        have hin : c ∈ D' ++ (((p, HO.lst xs) :: Cs.flatten) ++ (OO'.set k []).flatten):=by
          rw [Zv, List.mem_append] at hc
          rcases hc with hc | hc
          . rw [← c4] at hc; simp [hc]
          . simp [hc]
        have hne : c.1 ≠ p:=fun ee=>by
          have nd3:=w3.nd
          rw [Zv, List.mem_append, ← c4] at hc
          simp only [fl, List.flatten_cons, List.flatten_nil, List.append_nil, List.map_append, List.cons_append, List.map_cons] at nd3
          rw [List.nodup_append] at nd3
          obtain ⟨_, n2, n3⟩:=nd3
          rcases hc with hc | hc
          . exact (List.nodup_cons.mp n2).1 (List.mem_append_left _ (List.mem_map.mpr ⟨c, hc, ee⟩))
          . exact n3 c.1 (List.mem_map.mpr ⟨c, hc, rfl⟩) p List.mem_cons_self ee
        rw [Xp hne]
        exact w3.tr c (by simpa using hin)
    obtain ⟨w4, h4⟩:=LV (C':=(p, .lst (xs ++ [y])) :: (Cs' ++ [D']).flatten) w' hk' List.mem_cons_self (by simp [Zv, c4]) hcell (fun c hc=>by
      rcases List.mem_cons.mp hc with rfl | hc
      . rfl
      . rw [Zv, List.mem_append, ← c4] at hc
        rcases hc with hc | hc
        . exact w'.mu c (by rw [List.flatten_cons]; exact List.mem_append_right _ (List.mem_flatten.mpr ⟨_, List.mem_of_getElem? hk', List.mem_cons_of_mem _ hc⟩))
        . exact w'.mu c (by rw [List.flatten_cons]; exact List.mem_append_left _ hc))
    refine ⟨p, xs, y, e, rfl, hH', by rw [(P3.len q).1]; exact hlt', ?_⟩
    refine hr a _ _ D w4 ?_ (by rw [h4]; exact P')
    rw [h4]
    exact ⟨s', ⟨p, xs ++ [y], Cs' ++ [D'], e, q2.snoc ho, rfl⟩⟩
end
end L2
namespace L2
open PySem PySem.Spec PyProof.Rows
section
variable {K : PySem.W.Frag} {Er : Exc -> Hp -> Prop} {S : SC} {OO OO' OO2 : List (List XG)} {σ : St} {α β γ ρ ι δ ε : Type}
variable {Fd : Ends -> β -> Hp -> Prop} [fd : FdOk Fd] {u : TS}
noncomputable def forN : List α -> γ -> (γ -> α -> Res γ) -> Res γ
  | [], g, _=>.ok g
  | a :: as, g, f=>(f g a).bind fun g'=>forN as g' f
noncomputable def forC : List α -> γ -> (γ -> α -> Res (Ctl ρ γ)) -> Res (Ctl ρ γ)
  | [], g, _=>.ok (.nx g)
  | a :: as, g, f=>(f g a).bind fun c=>match c with
    | .ret r=>.ok (.ret r)
    | .nx g'=>forC as g' f
theorem Ye {m : Res α} {f : α -> Res β} {g : β -> Res γ} : (m.bind f).bind g = m.bind fun a=>(f a).bind g:=by cases m <;> rfl
structure Tgt (K : PySem.W.Frag) (OO : List (List XG)) (g : TG) (r : Enc α) (κ : Type) where
  set : κ -> St -> St
  sc : α -> κ -> SC -> SC
  ok : ∀ {H : Hp} {v : V} {a : α} {σ : St} {S : SC} {Q : St -> Hp -> Prop}, r K (hid H OO) v a -> S.p (hid H OO) -> (∀ x, (sc a x S).p (hid H OO) -> Q (set x σ) H) -> g v σ H Q
noncomputable def tg1 {r : Enc α} [MonoE r] (i : Nat) : Tgt K OO (Qv i) r V where
  set:=fun v σ=>σ.set i (some v)
  sc:=fun a v S=>S.add K r v a
  ok:=fun {H v a σ S Q} hr hs hq=>hq v ⟨hs, hr⟩
noncomputable def tg2 {r : Enc α} {q : Enc β} [MonoE r] [MonoE q] (i j : Nat) : Tgt K OO (IP K 2 (Ff (Qv i) (Ff (Qv j) Lu))) (rP2 r q) (V × V) where
  set:=fun v σ=>(σ.set i (some v.1)).set j (some v.2)
  sc:=fun a v S=>(S.add K r v.1 a.1).add K q v.2 a.2
  ok:=fun {H v a σ S Q} ⟨p, x, y, e, h, h1, h2⟩ hs hq=>⟨p, _, e, SqT.of (Xv _ _ h), rfl, x, [y], rfl, y, [], rfl, rfl, hq (x, y) ⟨⟨hs, h1⟩, h2⟩⟩
structure Walk (K : PySem.W.Frag) (Er : Exc -> Hp -> Prop) (S : SC) (OO : List (List XG)) (σ : St) (wi : TI) (r : Enc α) (m : Res (List α)) : Prop where
  ok : ∀ {H : Hp} {R : It -> Hp -> Prop}, W OO H -> S.p (hid H OO) -> PZ Er (fun as H=>∀ J H', Xo H H' ->
      (∀ (i : Nat) a, as[i]? = some a -> ∀ OO2 H2, W OO2 H2 -> Xo (hid H' OO) (hid H2 OO2) -> J.go i H2 /\ ∀ x H3, J.yld i H2 x H3 -> Xo H2 H3 /\ r K (hid H3 OO2) x a) ->
      (∀ OO2 H2, W OO2 H2 -> Xo (hid H' OO) (hid H2 OO2) -> J.stop as.length H2) -> R J H') H m -> wi σ H R
theorem XW {te : TE} {r : Enc α} [z : MonoE r] {m : Res (List α)} (he : EvS K Er S OO σ te (rV r) m) : Walk K Er S OO σ (Cr K te) r m:=⟨fun {H R} w s P=>by
  refine he H _ w s (P.imp fun as _ h v H' s' ⟨p, xs, e, hp, pr⟩=>⟨p, e, ⟨xs, SqL.of (Xv _ _ hp)⟩, h _ H' s' ?_ ?_⟩)
  . intro i a ha OO2 H2 w2 m2
    obtain ⟨x, hx, rx⟩:=Paired.getR pr ha
    have hq : SqL K H2 p xs:=SqL.of (Xv _ _ (m2 _ _ hp))
    refine ⟨⟨xs, x, hq, hx⟩, fun y H3 ⟨e3, hy⟩=>?_⟩
    subst e3
    refine ⟨Xo.refl _, ?_⟩
    have:=hy xs hq
    rw [hx] at this
    cases this
    exact z.mono m2 rx
  . intro OO2 H2 w2 m2
    exact ⟨xs, SqL.of (Xv _ _ (m2 _ _ hp)), by rw [Paired.len pr]; exact Nat.le_refl _⟩⟩
noncomputable def YO (as : List α) : List (Int × α):=(List.range as.length).map (fun (i : Nat)=>(i : Int)) |>.zip as
theorem Dm {as : List α} {i : Nat} {p : Int × α} (h : (YO as)[i]? = some p) : p.1 = (i : Int) /\ as[i]? = some p.2:=by
  unfold YO at h
  rw [List.getElem?_zip_eq_some] at h
  obtain ⟨h1, h2⟩:=h
  rw [List.getElem?_map] at h1
  have hlt : i < as.length:=by
    rcases Nat.lt_or_ge i as.length with q | q
    . exact q
    . rw [List.getElem?_eq_none q] at h2; cases h2
  rw [List.getElem?_range hlt] at h1
  exact ⟨(Option.some.inj h1).symm, h2⟩
theorem F5 {as : List α} : (YO as).length = as.length:=by simp [YO]
theorem JK {te : TE} {r : Enc α} [z : MonoE r] {m : Res (List α)} (he : EvS K Er S OO σ te (rV r) m) : Walk K Er S OO σ (HW K te) (rP2 Xc r) (m.bind fun as=>.ok (YO as)):=⟨fun {H R} w s P=>by
  refine he H _ w s ?_
  cases em : m with
  | bad=>rw [em] at P; exact P
  | err x=>rw [em] at P; exact P
  | ok as=>
    rw [em] at P
    intro v H' s' ⟨p, xs, e, hp, pr⟩
    refine ⟨p, e, ⟨xs, SqL.of (Xv _ _ hp)⟩, P _ H' s' ?_ ?_⟩
    . intro i a ha OO2 H2 w2 m2
      obtain ⟨ha1, ha2⟩:=Dm ha
      obtain ⟨x, hx, rx⟩:=Paired.getR pr ha2
      have hq : SqL K H2 p xs:=SqL.of (Xv _ _ (m2 _ _ hp))
      refine ⟨⟨xs, x, hq, hx⟩, fun y H3 h3=>?_⟩
      obtain ⟨b, x', rfl, hb, rfl, hy⟩:=h3
      have:=hy xs hq
      rw [hx] at this
      cases this
      refine ⟨X4 hb _, ⟨b, .int i, x, rfl, Jb w2 hb, by show V.int _ = V.int _; rw [ha1], z.mono (m2.trans (Xj (X4 hb _))) rx⟩⟩
    . intro OO2 H2 w2 m2
      exact ⟨xs, SqL.of (Xv _ _ (m2 _ _ hp)), by rw [F5, Paired.len pr]; exact Nat.le_refl _⟩⟩
theorem GW {lo hi : Int} {i : Nat} {a : Int} (h : (YL lo hi)[i]? = some a) : a = lo + i /\ i < (hi - lo).toNat:=by
  unfold YL at h
  rw [List.getElem?_map] at h
  rcases Nat.lt_or_ge i (hi - lo).toNat with q | q
  . rw [List.getElem?_range q] at h; exact ⟨(Option.some.inj h).symm, q⟩
  . rw [List.getElem?_eq_none (by simpa using q)] at h; cases h
theorem GY {lo hi : Int} : (YL lo hi).length = (hi - lo).toNat:=by simp [YL]
noncomputable def Vx (lo hi : Int) : Res (List Int):=chk (-(2 ^ 62) <= lo /\ lo < 2 ^ 62 /\ -(2 ^ 62) <= hi /\ hi < 2 ^ 62) (.ok (YL lo hi))
theorem Xy {te : TE} {m : Res Int} (he : EvB K Er S OO σ te Xc m) : Walk K Er S OO σ (IJ (XA te ZQ)) Xc (m.bind fun n=>Vx 0 n):=⟨fun {H R} w s P=>
  he.run w s (fun as H H' s' h J H2 s2=>h J H2 (s'.trans s2)) P fun n v H1 s1 w1 q1 r1 P1=>by
    obtain ⟨c, hc, P2⟩:=P1.okOf fun x=>Qs
    obtain ⟨⟨_, _, h1, h2⟩, h3⟩:=Zp hc
    cases h3
    refine ⟨n, by rw [show v = .int n from r1], h1, h2, P2 _ H1 (Xo.refl _) (fun i a ha OO2 H2 w2 m2=>?_) fun OO2 H2 w2 m2=>?_⟩
    . obtain ⟨e1, e2⟩ := GW ha
      rw [Int.sub_zero] at e2
      refine ⟨e2, fun x H3 ⟨e3, e4⟩=>?_⟩
      subst e3
      exact ⟨Xo.refl _, by rw [e4, e1]; rfl⟩
    . show n.toNat <= _
      rw [GY, Int.sub_zero]; exact Nat.le_refl _⟩
theorem YR {wi : TI} {g : TG} {tb : TS} {r : Enc α} {κ : Type} {m : Res (List α)} {body : γ -> α -> Res γ} {f : γ -> Res β} (J : Jn γ ι) (T : ∀ OO, Tgt K OO g r κ) (x0 : ι) (g0 : γ) (he : Walk K Er S OO σ wi r m) (h1 : OO = J.oo x0) (h2 : σ = J.ss x0) (h3 : ∀ h, S.p h -> (J.sc g0 x0).p h)
    (hb : ∀ g x a v, Sv Er ((T (J.oo x)).sc a v (J.sc g x)) (J.oo x) ((T (J.oo x)).set v (J.ss x)) tb (FNd J) (body g a))
    (hr : ∀ g x, Sv Er (J.sc g x) (J.oo x) (J.ss x) u Fd (f g)) : Sv Er S OO σ (Jy (IB wi g tb) u) Fd (m.bind fun as=>(forN as g0 body).bind f):=fun H D w s P=>by
  refine he.ok w s ?_
  cases em : m with
  | bad=>rw [em] at P; exact P
  | err x=>rw [em] at P; exact fun H' s'=>P H' (Xv.trans s')
  | ok as=>
    rw [em] at P
    have P : PZ Er (Fd D) (hid H OO) ((forN as g0 body).bind f):=P
    intro It H' s' hgo hstop
    refine ⟨fun i mm σ' H2=>mm = as.length - i /\ i <= as.length /\ ∃ x gg, σ' = J.ss x /\ W (J.oo x) H2 /\ Xo (hid H' OO) (hid H2 (J.oo x)) /\ (J.sc gg x).p (hid H2 (J.oo x)) /\ PZ Er (Fd D) (hid H2 (J.oo x)) ((forN (as.drop i) gg body).bind f), ⟨as.length, rfl, Nat.zero_le _, x0, g0, h2, ?_, ?_, ?_, ?_⟩, ?_⟩
    . rw [← h1]; exact w.keep s'
    . rw [← h1]; exact Xo.refl _
    . rw [← h1]; exact h3 _ (S.mono _ _ (Xj s') s)
    . rw [← h1, List.drop_zero]; exact PZ.tr (fd.tr D) (Xj s') P
    . rintro i mm σ' H2 ⟨rfl, hi, x, gg, rfl, w2, m2, sc2, P2⟩
      by_cases hlt : i < as.length
      . right
        have ha : as[i]? = some as[i]:=by simp [hlt]
        obtain ⟨h4, h5⟩:=hgo i _ ha (J.oo x) H2 w2 m2
        refine ⟨h4, fun σ3 H3=>∃ x gg, σ3 = J.ss x /\ W (J.oo x) H3 /\ Xo (hid H' OO) (hid H3 (J.oo x)) /\ (J.sc gg x).p (hid H3 (J.oo x)) /\ PZ Er (Fd D) (hid H3 (J.oo x)) ((forN (as.drop (i + 1)) gg body).bind f), fun σ3 H3 q=>⟨as.length - (i + 1), Nat.sub_lt_sub_left hlt (Nat.lt_succ_self i), rfl, hlt, q⟩, fun y H3 hy=>?_⟩
        obtain ⟨s3, r3⟩:=h5 y H3 hy
        have w3:=w2.keep s3
        have m3:=Xj (OO:=J.oo x) s3
        refine (T (J.oo x)).ok r3 ((J.sc gg x).mono _ _ m3 sc2) fun v hv=>hb gg x as[i] v H3 _ w3 hv ?_
        rw [List.drop_eq_getElem_cons hlt] at P2
        have P3 : PZ Er (Fd D) (hid H2 (J.oo x)) ((body gg as[i]).bind fun g'=>(forN (as.drop (i + 1)) g' body).bind f):=by rw [← Ye]; exact P2
        cases eb : body gg as[i] with
        | bad=>rw [eb] at P3; exact P3
        | err x=>rw [eb] at P3; exact fun H4 s4=>P3 H4 (m3.trans s4)
        | ok g'=>
          rw [eb] at P3
          exact fun x' H4 w4 m4 sc4=>⟨x', g', rfl, w4, m2.trans (m3.trans m4), sc4, PZ.tr (fd.tr D) (m3.trans m4) P3⟩
      . left
        have e : i = as.length:=Nat.le_antisymm hi (Nat.not_lt.mp hlt)
        subst e
        refine ⟨hstop (J.oo x) H2 w2 m2, hr gg x H2 D w2 sc2 ?_⟩
        rw [List.drop_length] at P2
        exact P2
theorem Kx {o : OE ρ} {wi : TI} {g : TG} {tb : TS} {r : Enc α} {κ : Type} {m : Res (List α)} {body : γ -> α -> Res (Ctl ρ γ)} {f : γ -> Res ρ} (J : Jn γ ι) (T : ∀ OO, Tgt K OO g r κ) (x0 : ι) (g0 : γ) (he : Walk K Er S OO σ wi r m) (h1 : OO = J.oo x0) (h2 : σ = J.ss x0) (h3 : ∀ h, S.p h -> (J.sc g0 x0).p h)
    (hb : ∀ g x a v, Sv Er ((T (J.oo x)).sc a v (J.sc g x)) (J.oo x) ((T (J.oo x)).set v (J.ss x)) tb (FCd K o J) (body g a))
    (hr : ∀ g x, Sv Er (J.sc g x) (J.oo x) (J.ss x) u (FTd K o) (f g)) : Sv Er S OO σ (Jy (IB wi g tb) u) (FTd K o) (m.bind fun as=>(forC as g0 body).bind (V0 f)):=fun H D w s P=>by
  refine he.ok w s ?_
  cases em : m with
  | bad=>rw [em] at P; exact P
  | err x=>rw [em] at P; exact fun H' s'=>P H' (Xv.trans s')
  | ok as=>
    rw [em] at P
    have P : PZ Er (FTd K o D) (hid H OO) ((forC as g0 body).bind (V0 f)):=P
    intro It H' s' hgo hstop
    refine ⟨fun i mm σ' H2=>mm = as.length - i /\ i <= as.length /\ ∃ x gg, σ' = J.ss x /\ W (J.oo x) H2 /\ Xo (hid H' OO) (hid H2 (J.oo x)) /\ (J.sc gg x).p (hid H2 (J.oo x)) /\ PZ Er (FTd K o D) (hid H2 (J.oo x)) ((forC (as.drop i) gg body).bind (V0 f)), ⟨as.length, rfl, Nat.zero_le _, x0, g0, h2, ?_, ?_, ?_, ?_⟩, ?_⟩
    . rw [← h1]; exact w.keep s'
    . rw [← h1]; exact Xo.refl _
    . rw [← h1]; exact h3 _ (S.mono _ _ (Xj s') s)
    . rw [← h1, List.drop_zero]; exact PZ.tr (FdOk.tr D) (Xj s') P
    . rintro i mm σ' H2 ⟨rfl, hi, x, gg, rfl, w2, m2, sc2, P2⟩
      by_cases hlt : i < as.length
      . right
        have ha : as[i]? = some as[i]:=by simp [hlt]
        obtain ⟨h4, h5⟩:=hgo i _ ha (J.oo x) H2 w2 m2
        refine ⟨h4, fun σ3 H3=>∃ x gg, σ3 = J.ss x /\ W (J.oo x) H3 /\ Xo (hid H' OO) (hid H3 (J.oo x)) /\ (J.sc gg x).p (hid H3 (J.oo x)) /\ PZ Er (FTd K o D) (hid H3 (J.oo x)) ((forC (as.drop (i + 1)) gg body).bind (V0 f)), fun σ3 H3 q=>⟨as.length - (i + 1), Nat.sub_lt_sub_left hlt (Nat.lt_succ_self i), rfl, hlt, q⟩, fun y H3 hy=>?_⟩
        obtain ⟨s3, r3⟩:=h5 y H3 hy
        have w3:=w2.keep s3
        have m3:=Xj (OO:=J.oo x) s3
        refine (T (J.oo x)).ok r3 ((J.sc gg x).mono _ _ m3 sc2) fun v hv=>hb gg x as[i] v H3 _ w3 hv ?_
        rw [List.drop_eq_getElem_cons hlt] at P2
        have P3 : PZ Er (FTd K o D) (hid H2 (J.oo x)) ((body gg as[i]).bind fun c=>(match c with
          | .ret r=>Res.ok (Ctl.ret r)
          | .nx g'=>forC (as.drop (i + 1)) g' body).bind (V0 f)):=by rw [← Ye]; exact P2
        cases eb : body gg as[i] with
        | bad=>rw [eb] at P3; exact P3
        | err x=>rw [eb] at P3; exact fun H4 s4=>P3 H4 (m3.trans s4)
        | ok c=>
          rw [eb] at P3
          cases c with
          | ret r=>exact FdOk.tr (Fd:=FTd K o) D r _ _ m3 P3
          | nx g'=>exact fun x' H4 w4 m4 sc4=>⟨x', g', rfl, w4, m2.trans (m3.trans m4), sc4, PZ.tr (FdOk.tr D) (m3.trans m4) P3⟩
      . left
        have e : i = as.length:=Nat.le_antisymm hi (Nat.not_lt.mp hlt)
        subst e
        refine ⟨hstop (J.oo x) H2 w2 m2, hr gg x H2 D w2 sc2 ?_⟩
        rw [List.drop_length] at P2
        exact P2
theorem Gw {κ2 : Type} {o : OE ρ} {J2 : Jn δ κ2} {wi : TI} {g : TG} {tb : TS} {r : Enc α} {κ : Type} {m : Res (List α)} {body : γ -> α -> Res (Ctl ρ γ)} {f : γ -> Res (Ctl ρ δ)} (J : Jn γ ι) (T : ∀ OO, Tgt K OO g r κ) (x0 : ι) (g0 : γ) (he : Walk K Er S OO σ wi r m) (h1 : OO = J.oo x0) (h2 : σ = J.ss x0) (h3 : ∀ h, S.p h -> (J.sc g0 x0).p h)
    (hb : ∀ g x a v, Sv Er ((T (J.oo x)).sc a v (J.sc g x)) (J.oo x) ((T (J.oo x)).set v (J.ss x)) tb (FCd K o J) (body g a))
    (hr : ∀ g x, Sv Er (J.sc g x) (J.oo x) (J.ss x) u (FCd K o J2) (f g)) : Sv Er S OO σ (Jy (IB wi g tb) u) (FCd K o J2) (m.bind fun as=>(forC as g0 body).bind (Z0 f)):=fun H D w s P=>by
  refine he.ok w s ?_
  cases em : m with
  | bad=>rw [em] at P; exact P
  | err x=>rw [em] at P; exact fun H' s'=>P H' (Xv.trans s')
  | ok as=>
    rw [em] at P
    have P : PZ Er (FCd K o J2 D) (hid H OO) ((forC as g0 body).bind (Z0 f)):=P
    intro It H' s' hgo hstop
    refine ⟨fun i mm σ' H2=>mm = as.length - i /\ i <= as.length /\ ∃ x gg, σ' = J.ss x /\ W (J.oo x) H2 /\ Xo (hid H' OO) (hid H2 (J.oo x)) /\ (J.sc gg x).p (hid H2 (J.oo x)) /\ PZ Er (FCd K o J2 D) (hid H2 (J.oo x)) ((forC (as.drop i) gg body).bind (Z0 f)), ⟨as.length, rfl, Nat.zero_le _, x0, g0, h2, ?_, ?_, ?_, ?_⟩, ?_⟩
    . rw [← h1]; exact w.keep s'
    . rw [← h1]; exact Xo.refl _
    . rw [← h1]; exact h3 _ (S.mono _ _ (Xj s') s)
    . rw [← h1, List.drop_zero]; exact PZ.tr (FdOk.tr D) (Xj s') P
    . rintro i mm σ' H2 ⟨rfl, hi, x, gg, rfl, w2, m2, sc2, P2⟩
      by_cases hlt : i < as.length
      . right
        have ha : as[i]? = some as[i]:=by simp [hlt]
        obtain ⟨h4, h5⟩:=hgo i _ ha (J.oo x) H2 w2 m2
        refine ⟨h4, fun σ3 H3=>∃ x gg, σ3 = J.ss x /\ W (J.oo x) H3 /\ Xo (hid H' OO) (hid H3 (J.oo x)) /\ (J.sc gg x).p (hid H3 (J.oo x)) /\ PZ Er (FCd K o J2 D) (hid H3 (J.oo x)) ((forC (as.drop (i + 1)) gg body).bind (Z0 f)), fun σ3 H3 q=>⟨as.length - (i + 1), Nat.sub_lt_sub_left hlt (Nat.lt_succ_self i), rfl, hlt, q⟩, fun y H3 hy=>?_⟩
        obtain ⟨s3, r3⟩:=h5 y H3 hy
        have w3:=w2.keep s3
        have m3:=Xj (OO:=J.oo x) s3
        refine (T (J.oo x)).ok r3 ((J.sc gg x).mono _ _ m3 sc2) fun v hv=>hb gg x as[i] v H3 _ w3 hv ?_
        rw [List.drop_eq_getElem_cons hlt] at P2
        have P3 : PZ Er (FCd K o J2 D) (hid H2 (J.oo x)) ((body gg as[i]).bind fun c=>(match c with
          | .ret r=>Res.ok (Ctl.ret r)
          | .nx g'=>forC (as.drop (i + 1)) g' body).bind (Z0 f)):=by rw [← Ye]; exact P2
        cases eb : body gg as[i] with
        | bad=>rw [eb] at P3; exact P3
        | err x=>rw [eb] at P3; exact fun H4 s4=>P3 H4 (m3.trans s4)
        | ok c=>
          rw [eb] at P3
          cases c with
          | ret r=>exact FdOk.tr (Fd:=FTd K o) D r _ _ m3 P3
          | nx g'=>exact fun x' H4 w4 m4 sc4=>⟨x', g', rfl, w4, m2.trans (m3.trans m4), sc4, PZ.tr (FdOk.tr D) (m3.trans m4) P3⟩
      . left
        have e : i = as.length:=Nat.le_antisymm hi (Nat.not_lt.mp hlt)
        subst e
        refine ⟨hstop (J.oo x) H2 w2 m2, hr gg x H2 D w2 sc2 ?_⟩
        rw [List.drop_length] at P2
        exact P2
noncomputable def Q2 : Nat -> γ -> (γ -> Res Bool) -> (γ -> Res γ) -> Res γ
  | 0, _, _, _=>.bad
  | n + 1, g, c, f=>(c g).bind fun b=>if b = true then (f g).bind fun g'=>Q2 n g' c f else .ok g
theorem Gf {c : TT} {tb : TS} {mc : γ -> Res Bool} {body : γ -> Res γ} {f : γ -> Res β} (J : Jn γ ι) (n : Nat) (x0 : ι) (g0 : γ) (h1 : OO = J.oo x0) (h2 : σ = J.ss x0) (h3 : ∀ h, S.p h -> (J.sc g0 x0).p h)
    (hc : ∀ g x, EvT Er (J.sc g x) (J.oo x) (J.ss x) c (mc g)) (hb : ∀ g x, Sv Er (J.sc g x) (J.oo x) (J.ss x) tb (FNd J) (body g))
    (hr : ∀ g x, Sv Er (J.sc g x) (J.oo x) (J.ss x) u Fd (f g)) : Sv Er S OO σ (Jy (BL c tb) u) Fd ((Q2 n g0 mc body).bind f):=fun H D w s P=>by
  refine ⟨fun mm σ' H2=>∃ x gg, σ' = J.ss x /\ W (J.oo x) H2 /\ (J.sc gg x).p (hid H2 (J.oo x)) /\ PZ Er (Fd D) (hid H2 (J.oo x)) ((Q2 mm gg mc body).bind f), ⟨n, x0, g0, h2, by rw [← h1]; exact w, by rw [← h1]; exact h3 _ s, by rw [← h1]; exact P⟩, ?_⟩
  rintro mm σ' H2 ⟨x, gg, rfl, w2, sc2, P2⟩
  cases mm with
  | zero=>exact P2.elim
  | succ mm=>
    have P3 : PZ Er (Fd D) (hid H2 (J.oo x)) ((mc gg).bind fun b=>(if b = true then (body gg).bind fun g'=>Q2 mm g' mc body else .ok gg).bind f):=by rw [← Ye]; exact P2
    refine (hc gg x).st w2 sc2 P3 fun b H3 w3 sc3 P4=>?_
    cases b with
    | false=>exact hr gg x H3 D w3 sc3 P4
    | true=>
      rw [if_pos rfl] at P4 ⊢
      refine ⟨fun σ3 H4=>∃ x gg, σ3 = J.ss x /\ W (J.oo x) H4 /\ (J.sc gg x).p (hid H4 (J.oo x)) /\ PZ Er (Fd D) (hid H4 (J.oo x)) ((Q2 mm gg mc body).bind f), fun σ3 H4 q=>⟨mm, Nat.lt_succ_self _, q⟩, hb gg x H3 _ w3 sc3 ?_⟩
      rw [Ye] at P4
      cases eb : body gg with
      | bad=>rw [eb] at P4; exact P4
      | err x=>rw [eb] at P4; exact P4
      | ok g'=>
        rw [eb] at P4
        exact fun x' H5 w5 m5 sc5=>⟨x', g', rfl, w5, sc5, PZ.tr (fd.tr D) m5 P4⟩
noncomputable def Fe (as : List α) (f : α -> Res β) : Res (List β):=match as with
  | []=>.ok []
  | a :: as=>(f a).bind fun b=>(Fe as f).bind fun bs=>.ok (b :: bs)
noncomputable def UD (as : List α) (f : α -> Res β) : Res (List β):=chk (as.length <= sizeLine) (Fe as f)
noncomputable def Gu (as : List α) (c : α -> Res Bool) (f : α -> Res β) : Res (List β):=match as with
  | []=>.ok []
  | a :: as=>(c a).bind fun b=>if b = true then (f a).bind fun b=>(Gu as c f).bind fun bs=>.ok (b :: bs) else Gu as c f
noncomputable def Ck (as : List α) (c : α -> Res Bool) (f : α -> Res β) : Res (List β):=chk (as.length <= sizeLine) (Gu as c f)
theorem PZ.chk {F : β -> Hp -> Prop} {H : Hp} {c : Prop} [Decidable c] {m : Res β} (P : PZ Er F H (chk c m)) : c /\ PZ Er F H m:=by
  unfold L2.chk at P; split at P
  . exact ⟨by assumption, P⟩
  . exact P.elim
theorem Ex {o : OE α} [z : MonoO o] {xs : List V} {as : List α} {Cs : List (List XG)} {H H0 : Hp} {Q : VK} (w : W (Cs.flatten :: OO) H) (m0 : Xo (hid H0 OO) (hid H (Cs.flatten :: OO))) (s0 : Xo H0 H) (pr : P3 (o K (hid H (Cs.flatten :: OO))) xs as Cs) (P : FO K OO OO (oL o) Q as H0) : ∀ p, H p = none -> Q (.ref p) (upd H p (.lst xs)):=fun p hp=>by
  have hn:=VT (OO:=Cs.flatten :: OO) hp (o:=.lst xs)
  have wn:=w.new hp (o:=.lst xs) rfl
  have pe : (((p, HO.lst xs) :: Cs.flatten) :: OO).flatten.Perm ([(p, HO.lst xs)] :: Cs.flatten :: OO).flatten:=by simp
  refine P (.ref p) ((p, .lst xs) :: Cs.flatten) _ (s0.trans (X4 hp _)) (wn.of pe) ?_ ?_
  . rw [Yk pe]; exact m0.trans hn
  . rw [Yk pe]
    exact ⟨p, xs, Cs, rfl, pr.imp fun _ _ _ h=>z.mono hn h, rfl⟩
theorem Zb {o : OE β} [z : MonoO o] {wi : TI} {g : TG} {te : TE} {r : Enc α} {κ : Type} {m : Res (List α)} {f : α -> Res β} {n : Nat} {caps : List (Nat × Str)} (T : ∀ OO, Tgt K OO g r κ) (he : Walk K Er S OO σ wi r m)
    (hb : ∀ C a v, Ev K Er ((T (C :: OO)).sc a v S) (C :: OO) (C :: OO) ((T (C :: OO)).set v (YQ n caps σ)) te o (f a)) : Ev K Er S OO OO σ (Ks n caps wi g V4 te) (oL o) (m.bind fun as=>UD as f):=fun H Q w s P=>by
  refine he.ok w s ?_
  cases em : m with
  | bad=>rw [em] at P; exact P
  | err x=>rw [em] at P; exact P
  | ok as=>
    rw [em] at P
    obtain ⟨hsz, P⟩:=PZ.chk (show PZ Er _ H (chk (as.length <= sizeLine) (Fe as f)) from P)
    intro It H' s' hgo hstop
    -- what is left: the ZH of the items, then all
    refine ⟨fun i mm ys H2=>mm = as.length - i /\ i <= as.length /\ ∃ bs Cs, Xo H H2 /\ W (Cs.flatten :: OO) H2 /\ Xo (hid H' OO) (hid H2 (Cs.flatten :: OO)) /\ P3 (o K (hid H2 (Cs.flatten :: OO))) ys bs Cs /\ bs.length = i /\ PZ Er (FO K OO OO (oL o) Q) H ((Fe (as.drop i) f).bind fun ZH=>.ok (bs ++ ZH)),
      ⟨as.length, rfl, Nat.zero_le _, [], [], s', (w.keep s').nil, by show Xo _ (hid H' ([] :: OO)); rw [YH]; exact Xo.refl _, .nil, rfl, ?_⟩, ?_⟩
    . rw [List.drop_zero]
      revert P
      cases Fe as f <;> exact fun z=>z
    . rintro i mm ys H2 ⟨rfl, hi, bs, Cs, s2, w2, m2, pr, hlen, P2⟩
      refine ⟨by rw [pr.len.1, hlen]; omega, ?_⟩
      by_cases hlt : i < as.length
      . right
        have ha : as[i]? = some as[i]:=by simp [hlt]
        obtain ⟨h4, h5⟩:=hgo i _ ha (Cs.flatten :: OO) H2 w2 m2
        refine ⟨h4, fun ys' H3=>∃ bs Cs, Xo H H3 /\ W (Cs.flatten :: OO) H3 /\ Xo (hid H' OO) (hid H3 (Cs.flatten :: OO)) /\ P3 (o K (hid H3 (Cs.flatten :: OO))) ys' bs Cs /\ bs.length = i + 1 /\ PZ Er (FO K OO OO (oL o) Q) H ((Fe (as.drop (i + 1)) f).bind fun ZH=>.ok (bs ++ ZH)), fun ys' H3 q=>⟨as.length - (i + 1), Nat.sub_lt_sub_left hlt (Nat.lt_succ_self i), rfl, hlt, q⟩, fun y H3 hy=>?_⟩
        obtain ⟨s3, r3⟩:=h5 y H3 hy
        have w3:=w2.keep s3
        have m3:=Xj (OO:=Cs.flatten :: OO) s3
        have sS : S.p (hid H3 (Cs.flatten :: OO)):=S.mono _ _ ((Xj s').trans (m2.trans m3)) s
        refine (T (Cs.flatten :: OO)).ok r3 sS fun v hv=>?_
        show V4 _ _ _
        refine Ih ?_
        rw [List.drop_eq_getElem_cons hlt] at P2
        have P3' : PZ Er (FO K OO OO (oL o) Q) H ((f as[i]).bind fun b=>(Fe (as.drop (i + 1)) f).bind fun ZH=>.ok (bs ++ b :: ZH)):=by
          have : ((f as[i]).bind fun b=>(Fe (as.drop (i + 1)) f).bind fun ZH=>Res.ok (bs ++ b :: ZH)) = (Fe (as[i] :: as.drop (i + 1)) f).bind fun ZH=>.ok (bs ++ ZH):=by
            show _ = ((f as[i]).bind fun b=>(Fe (as.drop (i + 1)) f).bind fun bs=>Res.ok (b :: bs)).bind _
            rw [Ye]; congr 1; funext b; rw [Ye]; rfl
          rw [this]; exact P2
        refine hb Cs.flatten as[i] v H3 _ w3 hv ?_
        cases eb : f as[i] with
        | bad=>rw [eb] at P3'; exact P3'
        | err x=>rw [eb] at P3'; exact fun H4 s4=>P3' H4 (s2.trans (s3.trans s4))
        | ok b=>
          rw [eb] at P3'
          intro v' C' H4 s4 w4 m4 ho
          have pe : ((Cs ++ [C']).flatten :: OO).flatten.Perm (C' :: Cs.flatten :: OO).flatten:=by
            simp only [Zv, List.flatten_cons]
            rw [List.append_assoc, ← List.append_assoc, ← List.append_assoc]
            exact List.perm_append_comm.append_right _
          refine ⟨bs ++ [b], Cs ++ [C'], s2.trans (s3.trans s4), w4.of pe, ?_, ?_, by simp [hlen], ?_⟩
          . rw [Yk pe]; exact m2.trans (m3.trans m4)
          . rw [Yk pe]; exact P3.snoc (pr.imp fun _ _ _ h=>z.mono (m3.trans m4) h) ho
          . have P4 : PZ Er (FO K OO OO (oL o) Q) H ((Fe (as.drop (i + 1)) f).bind fun ZH => .ok (bs ++ b :: ZH)) := P3'
            simpa using P4
      . left
        have e : i = as.length:=Nat.le_antisymm hi (Nat.not_lt.mp hlt)
        subst e
        refine ⟨hstop (Cs.flatten :: OO) H2 w2 m2, ?_⟩
        rw [List.drop_length] at P2
        have P3' : FO K OO OO (oL o) Q (bs ++ []) H:=P2
        rw [List.append_nil] at P3'
        exact Ex (H0:=H) w2 ((Xj s').trans m2) s2 pr P3'
theorem Jc {o : OE β} [z : MonoO o] {wi : TI} {g : TG} {tt : TT} {te : TE} {r : Enc α} {κ : Type} {m : Res (List α)} {c : α -> Res Bool} {f : α -> Res β} {n : Nat} {caps : List (Nat × Str)} (T : ∀ OO, Tgt K OO g r κ) (he : Walk K Er S OO σ wi r m)
    (hc : ∀ C a v, EvT Er ((T (C :: OO)).sc a v S) (C :: OO) ((T (C :: OO)).set v (YQ n caps σ)) tt (c a))
    (hb : ∀ C a v, Ev K Er ((T (C :: OO)).sc a v S) (C :: OO) (C :: OO) ((T (C :: OO)).set v (YQ n caps σ)) te o (f a)) : Ev K Er S OO OO σ (Ks n caps wi g tt te) (oL o) (m.bind fun as=>Ck as c f):=fun H Q w s P=>by
  refine he.ok w s ?_
  cases em : m with
  | bad=>rw [em] at P; exact P
  | err x=>rw [em] at P; exact P
  | ok as=>
    rw [em] at P
    obtain ⟨hsz, P⟩:=PZ.chk (show PZ Er _ H (chk (as.length <= sizeLine) (Gu as c f)) from P)
    intro It H' s' hgo hstop
    refine ⟨fun i mm ys H2=>mm = as.length - i /\ i <= as.length /\ ∃ bs Cs, Xo H H2 /\ W (Cs.flatten :: OO) H2 /\ Xo (hid H' OO) (hid H2 (Cs.flatten :: OO)) /\ P3 (o K (hid H2 (Cs.flatten :: OO))) ys bs Cs /\ bs.length <= i /\ PZ Er (FO K OO OO (oL o) Q) H ((Gu (as.drop i) c f).bind fun ZH=>.ok (bs ++ ZH)),
      ⟨as.length, rfl, Nat.zero_le _, [], [], s', (w.keep s').nil, by show Xo _ (hid H' ([] :: OO)); rw [YH]; exact Xo.refl _, .nil, Nat.zero_le _, ?_⟩, ?_⟩
    . rw [List.drop_zero]
      revert P
      cases Gu as c f <;> exact fun z=>z
    . rintro i mm ys H2 ⟨rfl, hi, bs, Cs, s2, w2, m2, pr, hlen, P2⟩
      refine ⟨by rw [pr.len.1]; omega, ?_⟩
      by_cases hlt : i < as.length
      . right
        have ha : as[i]? = some as[i]:=by simp [hlt]
        obtain ⟨h4, h5⟩:=hgo i _ ha (Cs.flatten :: OO) H2 w2 m2
        refine ⟨h4, fun ys' H3=>∃ bs Cs, Xo H H3 /\ W (Cs.flatten :: OO) H3 /\ Xo (hid H' OO) (hid H3 (Cs.flatten :: OO)) /\ P3 (o K (hid H3 (Cs.flatten :: OO))) ys' bs Cs /\ bs.length <= i + 1 /\ PZ Er (FO K OO OO (oL o) Q) H ((Gu (as.drop (i + 1)) c f).bind fun ZH=>.ok (bs ++ ZH)), fun ys' H3 q=>⟨as.length - (i + 1), Nat.sub_lt_sub_left hlt (Nat.lt_succ_self i), rfl, hlt, q⟩, fun y H3 hy=>?_⟩
        obtain ⟨s3, r3⟩:=h5 y H3 hy
        have w3:=w2.keep s3
        have m3:=Xj (OO:=Cs.flatten :: OO) s3
        have sS : S.p (hid H3 (Cs.flatten :: OO)):=S.mono _ _ ((Xj s').trans (m2.trans m3)) s
        refine (T (Cs.flatten :: OO)).ok r3 sS fun v hv=>?_
        rw [List.drop_eq_getElem_cons hlt] at P2
        have P3' : PZ Er (FO K OO OO (oL o) Q) H ((c as[i]).bind fun b=>(if b = true then (f as[i]).bind fun b=>(Gu (as.drop (i + 1)) c f).bind fun bs=>.ok (b :: bs) else Gu (as.drop (i + 1)) c f).bind fun ZH=>.ok (bs ++ ZH)):=by
          rw [← Ye]; exact P2
        refine hc Cs.flatten as[i] v H3 _ w3 hv ?_
        cases ec : c as[i] with
        | bad=>rw [ec] at P3'; exact P3'
        | err x=>rw [ec] at P3'; exact fun H4 s4=>P3' H4 (s2.trans (s3.trans s4))
        | ok b=>
          rw [ec] at P3'
          intro H4 s4
          have w4:=w3.keep s4
          have m4:=Xj (OO:=Cs.flatten :: OO) s4
          cases b with
          | false=>exact ⟨bs, Cs, s2.trans (s3.trans s4), w4, m2.trans (m3.trans m4), pr.imp fun _ _ _ h=>z.mono (m3.trans m4) h, Nat.le_succ_of_le hlen, P3'⟩
          | true=>
            rw [if_pos rfl]
            have P4 : PZ Er (FO K OO OO (oL o) Q) H ((f as[i]).bind fun b=>(Gu (as.drop (i + 1)) c f).bind fun ZH=>.ok (bs ++ b :: ZH)):=by
              have : ((f as[i]).bind fun b=>(Gu (as.drop (i + 1)) c f).bind fun ZH=>Res.ok (bs ++ b :: ZH)) = ((f as[i]).bind fun b=>(Gu (as.drop (i + 1)) c f).bind fun bs=>Res.ok (b :: bs)).bind fun ZH=>.ok (bs ++ ZH):=by
                rw [Ye]; congr 1; funext b; rw [Ye]; rfl
              rw [this]; exact P3'
            refine hb Cs.flatten as[i] v H4 _ w4 (((T (Cs.flatten :: OO)).sc as[i] v S).mono _ _ m4 hv) ?_
            cases eb : f as[i] with
            | bad=>rw [eb] at P4; exact P4
            | err x=>rw [eb] at P4; exact fun H5 s5=>P4 H5 (s2.trans (s3.trans (s4.trans s5)))
            | ok b=>
              rw [eb] at P4
              intro v' C' H5 s5 w5 m5 ho
              have pe : ((Cs ++ [C']).flatten :: OO).flatten.Perm (C' :: Cs.flatten :: OO).flatten:=by
                simp only [Zv, List.flatten_cons]
                rw [List.append_assoc, ← List.append_assoc, ← List.append_assoc]
                exact List.perm_append_comm.append_right _
              refine ⟨bs ++ [b], Cs ++ [C'], s2.trans (s3.trans (s4.trans s5)), w5.of pe, ?_, ?_, by simpa using hlen, ?_⟩
              . rw [Yk pe]; exact m2.trans (m3.trans (m4.trans m5))
              . rw [Yk pe]; exact P3.snoc (pr.imp fun _ _ _ h=>z.mono (m3.trans (m4.trans m5)) h) ho
              . have P5 : PZ Er (FO K OO OO (oL o) Q) H ((Gu (as.drop (i + 1)) c f).bind fun ZH => .ok (bs ++ b :: ZH)) := P4
                simpa using P5
      . left
        have e : i = as.length:=Nat.le_antisymm hi (Nat.not_lt.mp hlt)
        subst e
        refine ⟨hstop (Cs.flatten :: OO) H2 w2 m2, ?_⟩
        rw [List.drop_length] at P2
        have P3' : FO K OO OO (oL o) Q (bs ++ []) H:=P2
        rw [List.append_nil] at P3'
        exact Ex (H0:=H) w2 ((Xj s').trans m2) s2 pr P3'
noncomputable def ZU (as : List α) (i : Int) (a : α) : Res (List α):=match ixN as.length i with
  | some j=>.ok (as.set j a)
  | none=>.bad
end
end L2
namespace L2
open PySem PySem.Spec PyProof.Rows
section
variable {K : PySem.W.Frag} {Er : Exc -> Hp -> Prop} {S : SC} {OO OO' OO2 : List (List XG)} {σ : St} {α β γ ρ ι δ ε : Type}
variable {Fd : Ends -> β -> Hp -> Prop} [fd : FdOk Fd] {u : TS}
theorem Iy {C D C' : List XG} {H : Hp} {k : Nat} {p : Addr} {o : HO} (w : W (D :: OO) H) (hk : OO[k]? = some C) (hp : p ∈ C.map (·.1)) (hp' : p ∈ C'.map (·.1)) (hnd : (C'.map (·.1)).Nodup) (hin : ∀ b ∈ C'.map (·.1), b ∈ (C ++ D).map (·.1)) (ht : ∀ c ∈ C', upd H p o c.1 = some c.2) (hm : ∀ c ∈ C', Ht c.2 = true) :
    W (OO.set k C') (upd H p o) /\ Xo (hid H (D :: OO)) (hid (upd H p o) (OO.set k C')):=by
  have hlt : k < OO.length:=by
    rcases Nat.lt_or_ge k OO.length with h | h
    . exact h
    . rw [List.getElem?_eq_none h] at hk; cases hk
  have h1:=X1 hk
  have h2:=X1 (OO:=OO.set k C') (k:=k) (C:=C') (by simp [hlt])
  rw [set_set] at h2
  have h3 : (OO.set k C').flatten.Perm (C' ++ (OO.set k []).flatten):=by simpa using h2.symm
  have h4 : (D :: OO).flatten.Perm ((C ++ D) ++ (OO.set k []).flatten):=by
    rw [List.flatten_cons]
    refine ((by simpa using h1.symm : OO.flatten.Perm (C ++ (OO.set k []).flatten)).append_left D).trans ?_
    rw [← List.append_assoc]
    exact List.perm_append_comm.append_right _
  have nd2 : (((C ++ D) ++ (OO.set k []).flatten).map (·.1)).Nodup:=(h4.map _).nodup_iff.mp w.nd
  rw [List.map_append] at nd2
  obtain ⟨n1, n2, n3⟩:=List.nodup_append.mp nd2
  refine ⟨⟨fun c hc=>?_, ?_, fun c hc=>?_⟩, fun b v q=>?_⟩
  . rcases List.mem_append.mp (h3.mem_iff.mp hc) with hc | hc
    . exact ht c hc
    . have hne : c.1 ≠ p := fun e => n3 p (hin p hp') c.1 (List.mem_map.mpr ⟨c, hc, rfl⟩) e.symm
      rw [Xp hne]
      exact w.tr c (h4.mem_iff.mpr (by simp [hc]))
  . refine ((h3.map _).nodup_iff).mpr ?_
    rw [List.map_append]
    exact List.nodup_append.mpr ⟨hnd, n2, fun a ha b hb=>n3 a (hin a ha) b hb⟩
  . rcases List.mem_append.mp (h3.mem_iff.mp hc) with hc | hc
    . exact hm c hc
    . exact w.mu c (h4.mem_iff.mpr (by simp [hc]))
  . obtain ⟨q1, q2⟩ := X0 q
    have hbp : b ≠ p:=fun e=>q2 (by
      rw [e]
      obtain ⟨c, hc, rfl⟩:=List.mem_map.mp hp
      exact QW (h4.mem_iff.mpr (by simp [hc])))
    refine Zk (by rw [Xp hbp]; exact q1) fun z=>q2 ?_
    obtain ⟨o', ho'⟩:=FX z
    rcases List.mem_append.mp (h3.mem_iff.mp ho') with hc | hc
    . obtain ⟨c, hc2, e⟩ := List.mem_map.mp (hin b (List.mem_map.mpr ⟨_, hc, rfl⟩))
      rw [← e]
      exact QW (h4.mem_iff.mpr (List.mem_append_left _ hc2))
    . exact QW (c:=(b, o')) (h4.mem_iff.mpr (by simp [hc]))
theorem Ln {D : List XG} {Cs Cs' : List (List XG)} {H : Hp} {k : Nat} {p : Addr} {xs xs' : List V} (w : W (D :: OO) H) (hk : OO[k]? = some ((p, .lst xs) :: Cs.flatten)) (hin : ∀ c ∈ Cs'.flatten, c ∈ Cs.flatten ++ D) (hnd : (Cs'.flatten.map (·.1)).Nodup) :
    W (OO.set k ((p, .lst xs') :: Cs'.flatten)) (upd H p (.lst xs')) /\ Xo (hid H (D :: OO)) (hid (upd H p (.lst xs')) (OO.set k ((p, .lst xs') :: Cs'.flatten))):=by
  have h1:=X1 hk
  have w3 : W [((p, HO.lst xs) :: (Cs.flatten ++ D)) ++ (OO.set k []).flatten] H:=w.of (by
    simp only [List.flatten_cons, List.flatten_nil, List.append_nil]
    refine List.Perm.trans ?_ ((by simpa using h1 : (((p, HO.lst xs) :: Cs.flatten) ++ (OO.set k []).flatten).Perm OO.flatten).append_left D)
    rw [← List.append_assoc]
    refine List.Perm.append_right _ ?_
    exact (List.perm_append_comm (l₁:=(p, HO.lst xs) :: Cs.flatten) (l₂:=D)))
  have nd:=w3.nd
  simp only [fl, List.flatten_cons, List.flatten_nil, List.append_nil, List.map_append, List.cons_append, List.map_cons] at nd
  have hne : ∀ c ∈ Cs'.flatten, c.1 ≠ p:=fun c hc e=>by
    refine (List.nodup_cons.mp nd).1 ?_
    rw [← e]
    refine List.mem_append_left _ ?_
    rw [← List.map_append]
    exact List.mem_map.mpr ⟨c, hin c hc, rfl⟩
  refine Iy w hk List.mem_cons_self List.mem_cons_self ?_ ?_ ?_ ?_
  . rw [List.map_cons, List.nodup_cons]
    refine ⟨fun z=>?_, hnd⟩
    obtain ⟨c, hc, e⟩:=List.mem_map.mp z
    exact hne c hc e
  . intro b hb
    rcases List.mem_cons.mp hb with rfl | hb
    . exact List.mem_cons_self
    . obtain ⟨c, hc, rfl⟩ := List.mem_map.mp hb
      rw [List.cons_append, List.map_cons]
      exact List.mem_cons_of_mem _ (List.mem_map.mpr ⟨c, hin c hc, rfl⟩)
  . intro c hc
    rcases List.mem_cons.mp hc with rfl | hc
    . exact X8
    . rw [Xp (hne c hc)]
      exact w3.tr c (by
        rw [List.flatten_cons, List.flatten_nil, List.append_nil]
        exact List.mem_append_left _ (List.mem_cons_of_mem _ (hin c hc)))
  . intro c hc
    rcases List.mem_cons.mp hc with rfl | hc
    . rfl
    . exact w3.mu c (by
        rw [List.flatten_cons, List.flatten_nil, List.append_nil]
        exact List.mem_append_left _ (List.mem_cons_of_mem _ (hin c hc)))
theorem Cj {o : OE α} {h : Hp} {p : Addr} {xs : List V} {as : List α} {R : List XG} (q : oL o K h (.ref p) as ((p, .lst xs) :: R)) : ∃ Cs, P3 (o K h) xs as Cs /\ R = Cs.flatten:=by
  obtain ⟨p', xs', Cs, e, q, c⟩:=q
  injection c with c1 c2
  injection c1 with c3 c4
  injection c4 with c5
  subst c5
  exact ⟨Cs, q, c2⟩
theorem FR {as : List α} {i : Int} {a : α} {bs : List α} (h : ZU as i a = .ok bs) : ∃ j, ixN as.length i = some j /\ bs = as.set j a:=by
  unfold ZU at h; split at h
  . cases h; exact ⟨_, by assumption, rfl⟩
  . cases h
theorem Df {as : List α} {i : Int} {a : α} {x : Exc} : ZU as i a ≠ .err x:=by unfold ZU; split <;> exact fun z=>nomatch z
theorem QG {l r m : List XG} (h : (l ++ r).Perm m) (n : (m.map (·.1)).Nodup) : (l.map (·.1)).Nodup:=by
  have : ((l ++ r).map (·.1)).Nodup:=(h.map _).nodup_iff.mpr n
  rw [List.map_append] at this
  exact (List.nodup_append.mp this).1
theorem Gj {Cs : List (List XG)} {j : Nat} {D : List XG} (hj : j < Cs.length) : ((Cs.set j D).flatten ++ Cs[j]).Perm (Cs.flatten ++ D):=by
  have h1:=X1 (OO:=Cs) (k:=j) (C:=Cs[j]) (by simp [hj])
  have h2:=X1 (OO:=Cs.set j D) (k:=j) (C:=D) (by simp [hj])
  rw [set_set] at h2
  have h3 : (Cs.set j D).flatten.Perm (D ++ (Cs.set j []).flatten):=by simpa using h2.symm
  have h4 : Cs.flatten.Perm (Cs[j] ++ (Cs.set j []).flatten):=by simpa using h1.symm
  refine (h3.append_right _).trans (List.Perm.trans ?_ (h4.append_right _).symm)
  refine List.perm_append_comm.trans ((List.perm_append_comm.append_left _).trans ?_)
  rw [List.append_assoc]
theorem JR {D : List XG} {Cs : List (List XG)} {H : Hp} {k : Nat} {p : Addr} {xs : List V} (w : W (D :: OO) H) (hk : OO[k]? = some ((p, .lst xs) :: Cs.flatten)) : ((Cs.flatten ++ D).map (·.1)).Nodup:=by
  have h1:=X1 hk
  have w3 : W [((p, HO.lst xs) :: (Cs.flatten ++ D)) ++ (OO.set k []).flatten] H:=w.of (by
    simp only [List.flatten_cons, List.flatten_nil, List.append_nil]
    refine List.Perm.trans ?_ ((by simpa using h1 : (((p, HO.lst xs) :: Cs.flatten) ++ (OO.set k []).flatten).Perm OO.flatten).append_left D)
    rw [← List.append_assoc]
    refine List.Perm.append_right _ ?_
    exact (List.perm_append_comm (l₁:=(p, HO.lst xs) :: Cs.flatten) (l₂:=D)))
  have nd:=w3.nd
  simp only [fl, List.flatten_cons, List.flatten_nil, List.append_nil, List.cons_append, List.map_cons] at nd
  have n2:=(List.nodup_cons.mp nd).2
  rw [List.map_append] at n2
  exact (List.nodup_append.mp n2).1
theorem Jd {ta ti : TE} {o : OE α} [MonoO o] {m : Res α} {mi : Res Int} {f : List α -> Res β} {v : V} {as : List α} {C : List XG} (i k : Nat) (hσ : σ[i]? = some (some v)) (hk' : OO'[k]? = some C) (h : ∀ x, S.p x -> oL o K x v as C) (he : Ev K Er S OO OO' σ ta o m)
    (hi : ∀ D, EvB K Er S (D :: OO') σ ti Xc mi)
    (hr : ∀ bs C', Sv Er (S.addO K (oL o) v bs C') (OO'.set k C') σ u Fd (f bs)) : Sv Er S OO σ (Jy (BJ ta (IW (Kv i) ti Hl)) u) Fd (m.bind fun a=>mi.bind fun j=>(ZU as j a).bind f):=fun H D w s P=>
  he.st w s P fun a y D' H' w' s' ho P'=>⟨v, hσ, (hi D').st w' s' P' fun j z H2 s2 w2 q2 r2 P2=>by
    obtain ⟨p, xs, Cs, e, q, c⟩:=h _ q2
    subst c
    have hH : H2 p = some (.lst xs):=w2.tr (p, .lst xs) (by rw [List.flatten_cons]; exact List.mem_append_right _ (List.mem_flatten.mpr ⟨_, List.mem_of_getElem? hk', List.mem_cons_self⟩))
    cases es : ZU as j a with
    | bad=>rw [es] at P2; exact P2.elim
    | err x=>exact absurd es Df
    | ok bs=>
      rw [es] at P2
      obtain ⟨jj, h1, rfl⟩:=FR es
      have hjl : jj < as.length:=by
        unfold ixN at h1
        split at h1
        . split at h1
          . cases h1; omega
          . cases h1
        . split at h1
          . cases h1; omega
          . cases h1
      have hjC : jj < Cs.length:=by rw [q.len.2]; exact hjl
      have hp:=Gj (Cs:=Cs) (j:=jj) (D:=D') hjC
      obtain ⟨w3, m3⟩:=Ln (xs':=xs.set jj y) (Cs':=Cs.set jj D') w2 hk' (fun c hc=>hp.mem_iff.mp (List.mem_append_left _ hc)) (QG hp (JR w2 hk'))
      refine ⟨p, xs, j, jj, e, r2, hH, by rw [q.len.1]; exact h1, hr _ _ _ D w3 ⟨S.mono _ _ m3 q2, ⟨p, _, _, e, P3.imp (fun _ _ _ z=>MonoO.mono m3 z) (P3.set (MonoO.mono (Xj s2) ho) jj q), rfl⟩⟩ (PZ.tr (fd.tr D) m3 P2)⟩⟩
noncomputable def CY (as : List α) (i : Int) : Res (α × List α):=chk (-(2 ^ 63) <= i /\ i < 2 ^ 63) (match seqIndex? i as.length with
  | none=>.bad
  | some k=>match as[k]? with
    | none=>.bad
    | some a=>.ok (a, as.eraseIdx k))
theorem EZ {as : List α} {i : Int} {p : α × List α} (h : CY as i = .ok p) : (-(2 ^ 63) <= i /\ i < 2 ^ 63) /\ ∃ k, seqIndex? i as.length = some k /\ as[k]? = some p.1 /\ p.2 = as.eraseIdx k:=by
  obtain ⟨h1, h2⟩:=Zp h
  refine ⟨h1, ?_⟩
  split at h2
  . cases h2
  . split at h2
    . cases h2
    . cases h2; exact ⟨_, by assumption, by assumption, rfl⟩
theorem Ef {as : List α} {i : Int} {x : Exc} : CY as i ≠ .err x:=by
  unfold CY chk; split
  . split
    . exact fun z=>nomatch z
    . split <;> exact fun z=>nomatch z
  . exact fun z=>nomatch z
theorem Paired.erase' {F : α -> γ -> Prop} : ∀ {l : List α} {m : List γ} (n : Nat), Paired F l m -> Paired F (l.eraseIdx n) (m.eraseIdx n)
  | _, _, _, .nil=>.nil
  | _, _, 0, .cons _ t=>t
  | _, _, n + 1, .cons r t=>.cons r (Paired.erase' n t)
theorem Hd {te ti : TE} {r : Enc α} [MonoE r] {mi : Res Int} {f : α × List α -> Res β} {v : V} {as : List α} {C : List XG} {D : Ends} {H : Hp} {Q : VK} (i k : Nat) (hσ : σ[i]? = some (some v)) (hk : OO[k]? = some C) (h : ∀ x, S.p x -> oL (oF r) K x v as C) (hi : EvB K Er S OO σ ti Xc mi)
    (w : W OO H) (s : S.p (hid H OO)) (P : PZ Er (Fd D) (hid H OO) (mi.bind fun j=>(CY as j).bind f))
    (hr : ∀ a bs y C' H', W (OO.set k C') H' -> ((S.add K r y a).addO K (oL (oF r)) v bs C').p (hid H' (OO.set k C')) -> PZ Er (Fd D) (hid H' (OO.set k C')) (f (a, bs)) -> Q y H') : tBM K "list" D0 (Kv i) (XA ti ZQ) σ H Q:=by
  obtain ⟨p, xs, Cs, e, q, c⟩:=h _ s
  subst c
  have hH : H p = some (.lst xs):=w.tr (p, .lst xs) (List.mem_flatten.mpr ⟨_, List.mem_of_getElem? hk, List.mem_cons_self⟩)
  refine ⟨v, hσ, by rw [e]; exact .inl ⟨rfl, _, SqL.of hH⟩, hi.st w s P fun j z H' s1 w' s' ho P'=>?_⟩
  subst e
  obtain ⟨Cs2, q2, c2⟩:=Cj (h _ s')
  obtain ⟨pr, hfl⟩:=P3.flat q2
  cases es : CY as j with
  | bad=>rw [es] at P'; exact P'.elim
  | err x=>exact absurd es Ef
  | ok pp=>
    rw [es] at P'
    obtain ⟨a, bs⟩:=pp
    obtain ⟨h1, kk, h2, h3, h4⟩:=EZ es
    obtain ⟨y, hy, ry⟩:=Paired.getR pr h3
    have w0 : W ([] :: OO) H':=w'.nil
    have hk0 : OO[k]? = some ((p, .lst xs) :: ([] : List (List XG)).flatten):=by rw [hk, c2, hfl]; rfl
    obtain ⟨w3, m3⟩:=Ln (D:=[]) (Cs:=[]) (xs':=xs.eraseIdx kk) (Cs':=List.replicate bs.length []) w0 hk0 (fun c hc=>by rw [Yj] at hc; cases hc) (by rw [Yj]; exact List.nodup_nil)
    rw [YH] at m3
    refine ⟨p, xs, j, kk, y, rfl, by rw [show z = .int j from ho], s1 _ _ hH, h1.1, h1.2, by rw [Paired.len pr]; exact h2, hy, ?_⟩
    have pr2 : Paired (r K (hid H' OO)) (xs.eraseIdx kk) bs:=by rw [show bs = as.eraseIdx kk from h4]; exact Paired.erase' kk pr
    exact hr a bs y _ _ w3 ⟨⟨S.mono _ _ m3 s', MonoE.mono m3 ry⟩, ⟨p, _, _, rfl, (P3.of (Paired.imp2 (fun _ _ z=>MonoE.mono m3 z) pr2)).imp fun _ _ _ z=>z, rfl⟩⟩ (PZ.tr (fd.tr D) m3 P')
theorem C9 {ti : TE} {r : Enc α} [MonoE r] {mi : Res Int} {f : List α -> List α -> Res β} {v v2 : V} {as zs : List α} {C C2 : List XG} (i k i2 k2 : Nat) (hne : k2 ≠ k) (hσ : σ[i]? = some (some v)) (hk : OO[k]? = some C) (h : ∀ x, S.p x -> oL (oF r) K x v as C)
    (hσ2 : σ[i2]? = some (some v2)) (hk2 : OO[k2]? = some C2) (h2 : ∀ x, S.p x -> oL (oF r) K x v2 zs C2) (hi : EvB K Er S OO σ ti Xc mi)
    (hr : ∀ a bs C' C2', Sv Er ((S.addO K (oL (oF r)) v bs C').addO K (oL (oF r)) v2 (zs ++ [a]) C2') ((OO.set k C').set k2 C2') σ u Fd (f bs (zs ++ [a]))) :
    Sv Er S OO σ (Jy (CM (tBM K "list" V5 (Kv i2) (XA (tBM K "list" D0 (Kv i) (XA ti ZQ)) ZQ))) u) Fd (mi.bind fun j=>(CY as j).bind fun p=>chk (zs.length < sizeLine) (f p.2 (zs ++ [p.1]))):=fun H D w s P=>by
  obtain ⟨p2, xs2, Cs2, e2, q2, c2⟩:=h2 _ s
  subst c2
  have hH2 : H p2 = some (.lst xs2):=w.tr (p2, .lst xs2) (List.mem_flatten.mpr ⟨_, List.mem_of_getElem? hk2, List.mem_cons_self⟩)
  refine ⟨v2, hσ2, by rw [e2]; exact .inl ⟨rfl, _, SqL.of hH2⟩, Hd (te:=ti) i k hσ hk h hi w s P fun a bs y C' H' w' s' P'=>?_⟩
  obtain ⟨hsz, P'⟩:=PZ.chk P'
  subst e2
  obtain ⟨Cs3, q3, c3⟩:=Cj (h2 _ s'.1.1)
  obtain ⟨pr, hfl⟩:=P3.flat q3
  have hkk : (OO.set k C')[k2]? = some ((p2, HO.lst xs2) :: ([] : List (List XG)).flatten):=by
    rw [List.getElem?_set_ne (fun e=>hne e.symm), hk2, c3, hfl]; rfl
  have hH3 : H' p2 = some (.lst xs2):=w'.tr (p2, .lst xs2) (List.mem_flatten.mpr ⟨_, List.mem_of_getElem? hkk, List.mem_cons_self⟩)
  obtain ⟨w3, m3⟩:=Ln (D:=[]) (Cs:=[]) (xs':=xs2 ++ [y]) (Cs':=List.replicate (zs ++ [a]).length []) w'.nil hkk (fun c hc=>by rw [Yj] at hc; cases hc) (by rw [Yj]; exact List.nodup_nil)
  rw [YH] at m3
  refine ⟨p2, xs2, y, rfl, rfl, hH3, by rw [Paired.len pr]; exact hsz, ?_⟩
  refine hr a bs C' _ _ D w3 ⟨⟨S.mono _ _ m3 s'.1.1, (SC.oneO K (oL (oF r)) v bs C').mono _ _ m3 s'.2⟩, ⟨p2, _, _, rfl, (P3.of (Paired.app (Paired.imp2 (fun _ _ z=>MonoE.mono m3 z) pr) (.cons (MonoE.mono m3 (show r K _ y a from s'.1.2)) .nil))).imp fun _ _ _ z=>z, rfl⟩⟩ (PZ.tr (fd.tr D) m3 P')
theorem BR {ta tb : TE} {r : Enc α} {q : Enc γ} [z : MonoE r] [MonoE q] {ma : Res α} {mb : Res γ} {f : α -> γ -> Res β} (i j : Nat) (ha : EvS K Er S OO σ ta r ma) (hb : EvS K Er S OO σ tb q mb)
    (hr : ∀ a b v w, Sv Er ((S.add K r v a).add K q w b) OO ((σ.set i (some v)).set j (some w)) u Fd (f a b)) : Sv Er S OO σ (Jy (Lw i j (XA ta (XA tb ZQ))) u) Fd (ma.bind fun a=>mb.bind fun b=>f a b):=fun H D w s P=>
  ha.st w s P fun a x H1 s1 w1 q1 r1 P1=>hb.st w1 q1 P1 fun b y H2 s2 w2 q2 r2 P2=>⟨x, y, rfl, hr a b x y H2 D w2 ⟨⟨q2, z.mono (Xj s2) r1⟩, r2⟩ P2⟩
theorem Fz {ta tb : TE} {ma mb : Res Int} (ha : EvB K Er S OO σ ta Xc ma) (hb : EvB K Er S OO σ tb Xc mb) : EvB K Er S OO σ (tCB (fun xs H Q=>∃ i j : Int, xs = [.int i, .int j] /\ Q (.int (if j < i then j else i)) H) (XA ta (XA tb ZQ))) Xc (ma.bind fun a=>mb.bind fun b=>.ok (min a b)):=fun H Q w s P=>
  ha.run w s FB.tr P fun a x H1 s1 w1 q1 r1 P1=>hb.run w1 q1 FB.tr P1 fun b y H2 s2 w2 q2 r2 P2=>⟨a, b, by rw [show x = .int a from r1, show y = .int b from r2], P2 _ H2 (Xo.refl _) (by show V.int _ = V.int _; congr 1; omega)⟩
class TyE {α : Type} (r : Enc α) (n : outParam String) : Prop where
  ty : ∀ {K : PySem.W.Frag} {H : Hp} {v : V} {a : α}, r K H v a -> TyOf K H v (.type n)
instance : TyE Xc "int":=⟨fun {K H v a} h=>by cases (show v = .int a from h); exact .int a⟩
instance : TyE XH "bool":=⟨fun {K H v a} h=>by cases (show v = .bl a from h); exact .bl a⟩
instance : TyE Ug "str":=⟨fun {K H v a} h=>by cases (show v = .str a from h); exact .str a⟩
instance {r : Enc α} : TyE (rV r) "list":=⟨fun ⟨p, xs, e, q, _⟩=>by subst e; exact .lst q⟩
instance {r : Enc α} : TyE (rPL r) "tuple":=⟨fun h9=>(by obtain ⟨p, xs, e, q, _⟩:=h9; subst e; exact .tup q)⟩
instance {r : Enc α} {q : Enc γ} : TyE (rP2 r q) "tuple":=⟨fun h9=>(by obtain ⟨p, x, y, e, q, _⟩:=h9; subst e; exact .tup q)⟩
instance {r : Enc α} {q : Enc γ} {t : Enc δ} : TyE (rP3 r q t) "tuple":=⟨fun h9=>(by obtain ⟨p, x, y, z, e, q, _⟩:=h9; subst e; exact .tup q)⟩
theorem Z8 {te : TE} {r : Enc α} {n : String} [z : TyE r n] {m : Res α} (t : String) (b : Bool) (hk : PySem.W.kitOne K (.type n) (.type t) = some b) (he : EvB K Er S OO σ te r m) :
    EvB K Er S OO σ (tCB (fun xs H Q=>∃ x n t b, xs = [x, .ty n] /\ TyOf K H x t /\ PySem.W.kitOne K t (.type n) = some b /\ Q (.bl b) H) (XA te (XA (tC (.ty t)) ZQ))) XH (m.bind fun _=>.ok b):=fun H Q w s P=>
  he.run w s FB.tr P fun a x H1 s1 w1 q1 r1 P1=>⟨x, t, .type n, b, rfl, z.ty r1, hk, P1 _ H1 (Xo.refl _) rfl⟩
theorem Fs {ta : TE} {ma : Res Int} (ha : EvB K Er S OO σ ta Xc ma) : EvB K Er S OO σ (tCB (fun xs H Q=>∃ i : Int, xs = [.int i] /\ Q (.int (if i < 0 then -i else i)) H) (XA ta ZQ)) Xc (ma.bind fun a=>.ok (a.natAbs : Int)):=fun H Q w s P=>
  ha.run w s FB.tr P fun a x H1 s1 w1 q1 r1 P1=>⟨a, by rw [show x = .int a from r1], P1 _ H1 (Xo.refl _) (by show V.int _ = V.int _; congr 1; omega)⟩
end
end L2
namespace L2
open PySem PySem.Spec PyProof.Rows
section
variable {K : PySem.W.Frag} {Er : Exc -> Hp -> Prop} {S : SC} {OO OO' OO1 OO2 : List (List XG)} {σ : St} {α β γ ρ ι δ ε : Type}
variable {Fd : Ends -> β -> Hp -> Prop} [fd : FdOk Fd] {u : TS}
theorem Ik (n : Nat) (H : Hp) : W (List.replicate n []) H:=⟨fun c hc=>(by rw [Yj] at hc; cases hc), (by unfold fl; rw [Yj]; exact List.nodup_nil), fun c hc=>(by rw [Yj] at hc; cases hc)⟩
theorem Bl (n : Nat) (H : Hp) : hid H (List.replicate n []) = H:=by funext b; unfold hid fl; rw [Yj]; simp
theorem BF {o : OE ρ} [z : MonoO o] {Q : VK} {b : ρ} {H : Hp} (q : FF K o Q b H) : ∀ v C OO' H', W (C :: OO') H' -> Xo H (hid H' (C :: OO')) -> o K (hid H' (C :: OO')) v b C -> Q v H':=fun v C OO' H' w m ho=>by
  have hs : Xo (hid H' (C :: OO')) (hid H' [C]):=VU (Xo.refl _) fun b hb=>by
    rw [Yo]
    refine List.mem_append_left _ ?_
    simpa [fl] using hb
  exact q v C H' (w.sub (by simp)) (m.trans hs) (z.mono hs ho)
theorem Ze {o : OE ρ} [MonoO o] {t : TS} {m : Res ρ} {Q : VK} {b : ρ} {H : Hp} {D : Ends} (n : Nat) (h : Sv (fun _ _=>False) S (List.replicate n []) σ t (FTd K o) m) (hs : S.p H) (hm : m = .ok b) (q : FF K o Q b H) (hD : D.rt = Q) : t D σ H:=by
  refine h H D (Ik n H) (by rw [Bl]; exact hs) ?_
  subst hm
  rw [Bl]
  intro v C OO' H' w mm ho
  rw [hD]
  exact BF q v C OO' H' w mm ho
theorem En {t : TS} {m : Res β} (k : Nat) (hr : Sv Er S (OO.set k []) σ t Fd m) : Sv Er S OO σ t Fd m:=fun H D w s P=>by
  cases hk : OO[k]? with
  | none=>
    rw [List.set_eq_of_length_le (List.getElem?_eq_none_iff.mp hk)] at hr
    exact hr H D w s P
  | some C=>
    have hp:=X1 hk
    have w1 : W (C :: OO.set k []) H:=w.of hp
    have hs : Xo (hid H OO) (hid H (OO.set k [])):=by
      rw [← Yk hp]
      exact VU (Xo.refl _) fun b hb=>by rw [Yo]; simp [hb]
    exact hr H D w1.tail (S.mono _ _ hs s) (PZ.tr (fd.tr D) hs P)
noncomputable def FAO {α : Type} (K : PySem.W.Frag) (OO OO' : List (List XG)) (o : OE α) (Q : List V -> Hp -> Prop) (as : List α) (H : Hp) : Prop:=∀ vs Cs H', Xo H H' -> W (Cs.flatten :: OO') H' -> Xo (hid H OO) (hid H' (Cs.flatten :: OO')) -> P3 (o K (hid H' (Cs.flatten :: OO'))) vs as Cs -> Q vs H'
noncomputable def IR {α : Type} (K : PySem.W.Frag) (Er : Exc -> Hp -> Prop) (S : SC) (OO OO' : List (List XG)) (σ : St) (t : TA) (o : OE α) (m : Res (List α)) : Prop:=∀ H Q, W OO H -> S.p (hid H OO) -> PZ Er (FAO K OO OO' o Q) H m -> t σ H Q
theorem CF {o : OE α} : IR K Er S OO OO σ ZQ o (.ok []):=fun H Q w s P=>P [] [] H (Xo.refl _) w.nil (by show Xo _ (hid H ([] :: OO)); rw [YH]; exact Xo.refl _) .nil
theorem Qr {te : TE} {t : TA} {o : OE α} [z : MonoO o] {m : Res α} {n : Res (List α)} (he : Ev K Er S OO OO1 σ te o m) (ht : ∀ C, IR K Er S (C :: OO1) (C :: OO2) σ t o n) : IR K Er S OO OO2 σ (XA te t) o (m.bind fun a=>n.bind fun as=>.ok (a :: as)):=fun H Q w s P=>by
  refine he H _ w s ?_
  cases em : m with
  | bad=>rw [em] at P; exact P
  | err x=>rw [em] at P; exact P
  | ok a=>
    rw [em] at P
    intro v C H1 s1 w1 m1 ho
    refine ht C H1 _ w1 (S.mono _ _ m1 s) ?_
    have P1 : PZ Er (FAO K OO OO2 o Q) H (n.bind fun as=>.ok (a :: as)):=P
    cases en : n with
    | bad=>rw [en] at P1; exact P1
    | err x=>rw [en] at P1; exact fun H2 s2=>P1 H2 (s1.trans s2)
    | ok as=>
      rw [en] at P1
      have P1 : FAO K OO OO2 o Q (a :: as) H:=P1
      intro vs Cs H2 s2 w2 m2 pr
      have pe : ((C :: Cs).flatten :: OO2).flatten.Perm (Cs.flatten :: C :: OO2).flatten:=by
        simp only [List.flatten_cons]
        rw [← List.append_assoc]
        exact List.perm_append_comm.append_right _
      refine P1 (v :: vs) (C :: Cs) H2 (s1.trans s2) (w2.of pe) ?_ ?_
      . rw [Yk pe]; exact m1.trans m2
      . rw [Yk pe]; exact .cons (z.mono m2 ho) pr
theorem Ec {t : TA} {o : OE α} [z : MonoO o] {m : Res (List α)} (h : IR K Er S OO OO σ t o m) : Ev K Er S OO OO σ (Cn t) (oL o) (m.bind fun as=>chk (as.length <= sizeLine) (.ok as)):=fun H Q w s P=>by
  refine h H _ w s ?_
  cases e : m with
  | bad=>rw [e] at P; exact P
  | err x=>rw [e] at P; exact P
  | ok as=>
    rw [e] at P
    obtain ⟨hsz, P⟩:=PZ.chk (show PZ Er _ H (chk (as.length <= sizeLine) (.ok as)) from P)
    intro vs Cs H1 s1 w1 m1 p
    exact ⟨by rw [p.len.1]; exact hsz, Ex w1 m1 s1 p P⟩
class InE {α : Type} [DecidableEq α] (r : Enc α) : Prop where
  fl : ∀ {K : PySem.W.Frag} {H : Hp} {x : V} {a : α}, r K H x a -> Q6 x = true
  eq : ∀ {K : PySem.W.Frag} {H H' : Hp} {x y : V} {a b : α}, r K H x a -> r K H' y b -> eqV x y = decide (a = b)
instance : InE Xc:=⟨fun {K H x a} h=>by cases (show x = .int a from h); rfl, fun {K H H' x y a b} h h'=>by
  cases (show x = .int a from h); cases (show y = .int b from h'); show (a == b) = _; rw [Cv]⟩
instance : InE Ug:=⟨fun {K H x a} h=>by cases (show x = .str a from h); rfl, fun {K H H' x y a b} h h'=>by
  cases (show x = .str a from h); cases (show y = .str b from h'); show (a == b) = _
  rw [Bool.eq_iff_iff]; simp⟩
theorem Qm [DecidableEq α] {r : Enc α} [z : InE r] {H H' : Hp} {x : V} {a : α} (hx : r K H x a) : ∀ {xs : List V} {as : List α}, Paired (r K H') xs as -> xs.all Q6 = true /\ inV x xs = decide (a ∈ as)
  | _, _, .nil=>⟨rfl, by simp [inV]⟩
  | _, _, .cons h t=>by
    obtain ⟨h1, h2⟩:=Qm hx t
    refine ⟨by rw [List.all_cons, h1, z.fl h]; rfl, ?_⟩
    unfold inV at h2 ⊢
    rw [List.any_cons, h2, z.eq h hx, Bool.eq_iff_iff, Bool.or_eq_true, decide_eq_true_eq, decide_eq_true_eq, decide_eq_true_eq, List.mem_cons]
    exact or_congr ⟨Eq.symm, Eq.symm⟩ Iff.rfl
theorem Hh [DecidableEq α] {ta tb : TE} {r : Enc α} [z : InE r] {ma : Res α} {mb : Res (List α)} (ha : EvB K Er S OO σ ta r ma) (hb : EvB K Er S OO σ tb (rV r) mb) : EvB K Er S OO σ (tOp (rIn K true) ta tb) XH (ma.bind fun a=>mb.bind fun as=>.ok (!decide (a ∈ as))):=fun H Q w s P=>
  ha.run w s FB.tr P fun a x H1 s1 w1 q1 r1 P1=>hb.run w1 q1 FB.tr P1 fun b y H2 s2 w2 q2 ⟨p, xs, e, q, pr⟩ P2=>by
    obtain ⟨h1, h2⟩:=Qm r1 pr
    exact ⟨p, xs, e, .inl (SqL.of q), z.fl r1, h1, P2 _ H2 (Xo.refl _) (by rw [h2]; rfl)⟩
theorem Es [DecidableEq α] {ta tb : TE} {r : Enc α} [z : InE r] {ma : Res α} {mb : Res (List α)} (ha : EvB K Er S OO σ ta r ma) (hb : EvB K Er S OO σ tb (rPL r) mb) : EvB K Er S OO σ (tOp (rIn K false) ta tb) XH (ma.bind fun a=>mb.bind fun as=>.ok (decide (a ∈ as))):=fun H Q w s P=>
  ha.run w s FB.tr P fun a x H1 s1 w1 q1 r1 P1=>hb.run w1 q1 FB.tr P1 fun b y H2 s2 w2 q2 ⟨p, xs, e, q, pr⟩ P2=>by
    obtain ⟨h1, h2⟩:=Qm r1 pr
    exact ⟨p, xs, e, .inr (SqT.of q), z.fl r1, h1, P2 _ H2 (Xo.refl _) (by rw [h2]; rfl)⟩
noncomputable def FY [DecidableEq α] (as : List α) (a : α) : Res Int:=match as.findIdx? (fun b=>decide (b = a)) with
  | some j=>.ok (j : Int)
  | none=>.bad
theorem G7 [DecidableEq α] {r : Enc α} [z : InE r] {H H' : Hp} {x : V} {a : α} (hx : r K H x a) {xs : List V} {as : List α} (p : Paired (r K H') xs as) {j : Nat} (hj : as.findIdx? (fun b=>decide (b = a)) = some j) :
    (∃ y, xs[j]? = some y /\ eqV y x = true) /\ ∀ (m : Nat) y, m < j -> xs[m]? = some y -> eqV y x = false:=by
  rw [List.findIdx?_eq_some_iff_getElem] at hj
  obtain ⟨h1, h2, h3⟩:=hj
  constructor
  . obtain ⟨y, hy, ry⟩ := Paired.getR p (i := j) (b := as[j]) (by simp [h1])
    exact ⟨y, hy, by rw [z.eq ry hx]; exact h2⟩
  . intro m y hm hy
    obtain ⟨b, hb, rb⟩:=Paired.getL p hy
    have hml : m < as.length:=by omega
    have e : b = as[m]:=by rw [List.getElem?_eq_getElem hml] at hb; exact (Option.some.inj hb).symm
    rw [z.eq rb hx, e]
    have:=h3 m hm
    simpa using this
theorem B8 [DecidableEq α] {as : List α} {a : α} {x : Exc} : FY as a ≠ .err x:=by unfold FY; split <;> exact fun z=>nomatch z
theorem Hr [DecidableEq α] {as : List α} {a : α} {n : Int} (h : FY as a = .ok n) : ∃ j : Nat, as.findIdx? (fun b=>decide (b = a)) = some j /\ n = j:=by
  unfold FY at h; split at h
  . cases h; exact ⟨_, by assumption, rfl⟩
  . cases h
theorem DT [DecidableEq α] {ta tb : TE} {r : Enc α} [z : InE r] [y : MonoE r] {ma : Res (List α)} {mb : Res α} (ha : EvB K Er S OO σ ta (rV r) ma) (hb : EvB K Er S OO σ tb r mb) : EvB K Er S OO σ (tBM K "list" (DI K) ta (XA tb ZQ)) Xc (ma.bind fun as=>mb.bind fun a=>FY as a):=fun H Q w s P=>
  ha.run w s FB.tr P fun as x H1 s1 w1 q1 ⟨p, xs, e, q, pr⟩ P1=>⟨by rw [e]; exact .inl ⟨rfl, _, SqL.of q⟩, hb.run w1 q1 FB.tr P1 fun b v H2 s2 w2 q2 r2 P2=>by
    obtain ⟨c, hc, P3⟩:=P2.okOf fun x=>B8
    obtain ⟨j, hj, rfl⟩:=Hr hc
    have pr2:=Paired.imp2 (G:=r K H2) (fun _ _ h=>y.mono s2 h) pr
    obtain ⟨h1, h2⟩:=G7 r2 pr2 hj
    exact ⟨p, xs, v, j, e, rfl, SqL.of (s2 _ _ q), z.fl r2, (Qm r2 pr2).1, h1, h2, P3 _ H2 (Xo.refl _) rfl⟩⟩
theorem Hm {ta tb : TE} {r : Enc α} {m : Res (Option α)} (ha : EvB K Er S OO σ ta (Gh r) m) : EvB K Er S OO σ (tOp (fun x y H Q=>y = .non /\ Q (.bl (decide (x = .non))) H) ta (tC .non)) XH (m.bind fun a=>.ok a.isNone):=fun H Q w s P=>
  ha.run w s FB.tr P fun a x H1 s1 w1 q1 r1 P1=>⟨rfl, P1 _ H1 (Xo.refl _) (by
    cases a with
    | none=>rw [show x = .non from r1]; rfl
    | some a=>show V.bl _ = V.bl _; rw [decide_eq_false r1.1]; rfl)⟩
theorem BA {ta tb : TE} {r : Enc α} {m : Res (Option α)} (ha : EvB K Er S OO σ ta (Gh r) m) : EvB K Er S OO σ (tOp (fun x y H Q=>y = .non /\ Q (.bl (!decide (x = .non))) H) ta (tC .non)) XH (m.bind fun a=>.ok a.isSome):=fun H Q w s P=>
  ha.run w s FB.tr P fun a x H1 s1 w1 q1 r1 P1=>⟨rfl, P1 _ H1 (Xo.refl _) (by
    cases a with
    | none=>rw [show x = .non from r1]; rfl
    | some a=>show V.bl _ = V.bl _; rw [decide_eq_false r1.1]; rfl)⟩
theorem Cf {α : Type} [DecidableEq α] {r r' : Enc α} {d : Nat} (E : EqOk r d) (h : ∀ {K : PySem.W.Frag} {H : Hp} {v : V} {a : α}, r' K H v a -> r K H v a) (m : MonoE r') : EqOk r' d where
  uniq:=fun I h1 h2=>E.uniq I (h h1) (h h2)
  eq:=fun I rx ry h1 h2 hu=>E.eq I rx ry (h h1) (h h2) hu
  rc:=fun I rx ry h1 h2 hu=>E.rc I rx ry (h h1) (h h2) hu
  ne:=fun I rx ry h1 h2 hu=>E.ne I rx ry (h h1) (h h2) hu
  keep:=fun s q=>m.mono s q
theorem GP {α : Type} [DecidableEq α] {r : Enc α} {d : Nat} [m : MonoE r] (E : EqOk r d) : EqOk (rV r) (d + 1):=Cf (B5 E) (fun ⟨a, xs, e, q, p⟩=>⟨a, xs, e, SqL.of q, p⟩) inferInstance
theorem CO {α β : Type} [DecidableEq α] [DecidableEq β] {r : Enc α} {q : Enc β} {d : Nat} [m : MonoE r] [n : MonoE q] (E : EqOk r d) (F : EqOk q d) : EqOk (rP2 r q) (d + 1):=Cf (El E F) (fun ⟨a, x, y, e, q, p⟩=>⟨a, x, y, e, SqT.of q, p⟩) inferInstance
end
end L2
namespace L2
open PySem PySem.Spec PyProof.Rows
section
variable {K : PySem.W.Frag} {Er : Exc -> Hp -> Prop} {S : SC} {OO OO' OO1 OO2 : List (List XG)} {σ : St} {α β γ ρ ι δ ε : Type}
variable {Fd : Ends -> β -> Hp -> Prop} [fd : FdOk Fd] {u : TS}
theorem EW {te : TE} {o : OE α} {m : Res α} (hn : ∀ {K h v a C}, o K h v a C -> v ≠ .non) (he : Ev K Er S OO OO' σ te o m) : Ev K Er S OO OO' σ te (Hn o) (m.bind fun a=>.ok (some a)):=fun H Q w s P=>by
  refine he H Q w s ?_
  cases m with
  | bad=>exact P
  | err x=>exact P
  | ok a=>exact fun v C H' s' w' m' ho=>P v C H' s' w' m' ⟨hn ho, ho⟩
theorem GC {ta tb : TE} {o : OE α} {q : OE β} [z : MonoO o] [y : MonoO q] {ma : Res α} {mb : Res β} (ha : Ev K Er S OO OO1 σ ta o ma) (hb : ∀ C, Ev K Er S (C :: OO1) (C :: OO2) σ tb q mb) : Ev K Er S OO OO2 σ (IQ (XA ta (XA tb ZQ))) (oT2 o q) (ma.bind fun a=>mb.bind fun b=>.ok (a, b)):=fun H Q w s P=>by
  refine ha H _ w s ?_
  cases em : ma with
  | bad=>rw [em] at P; exact P
  | err x=>rw [em] at P; exact P
  | ok a=>
    rw [em] at P
    intro v C H1 s1 w1 m1 ho
    refine hb C H1 _ w1 (S.mono _ _ m1 s) ?_
    have P1 : PZ Er (FO K OO OO2 (oT2 o q) Q) H (mb.bind fun b=>.ok (a, b)):=P
    cases en : mb with
    | bad=>rw [en] at P1; exact P1
    | err x=>rw [en] at P1; exact fun H2 s2=>P1 H2 (s1.trans s2)
    | ok b=>
      rw [en] at P1
      have P1 : FO K OO OO2 (oT2 o q) Q (a, b) H:=P1
      intro v2 C2 H2 s2 w2 m2 ho2
      refine ⟨by show 2 <= sizeLine; decide, fun p hp=>?_⟩
      have pe : ((C ++ C2) :: OO2).flatten.Perm (C2 :: C :: OO2).flatten:=by
        simp only [List.flatten_cons]
        rw [← List.append_assoc]
        exact List.perm_append_comm.append_right _
      have s3 : Xo H2 (upd H2 p (.tup [v, v2])):=X4 hp _
      have w3:=(w2.keep s3).of pe
      have m3 : Xo (hid H2 (C2 :: C :: OO2)) (hid (upd H2 p (.tup [v, v2])) ((C ++ C2) :: OO2)):=by rw [Yk pe]; exact Xj s3
      refine P1 (.ref p) (C ++ C2) _ (s1.trans (s2.trans s3)) w3 (m1.trans (m2.trans m3)) ⟨p, v, v2, C, C2, rfl, ?_, z.mono (m2.trans m3) ho, y.mono m3 ho2, rfl⟩
      rw [Yk pe]
      exact Jb w2 hp
theorem UH : ∀ {l : List XG} {a b : XG}, (l.map (·.1)).Nodup -> a ∈ l -> b ∈ l -> a.1 = b.1 -> a = b
  | [], _, _, _, h, _, _=>by cases h
  | c :: l, a, b, n, ha, hb, e=>by
    rw [List.map_cons, List.nodup_cons] at n
    cases ha with
    | head=>cases hb with
      | head=>rfl
      | tail _ hb=>exact absurd (List.mem_map.mpr ⟨b, hb, e.symm⟩) n.1
    | tail _ ha=>cases hb with
      | head=>exact absurd (List.mem_map.mpr ⟨a, ha, e⟩) n.1
      | tail _ hb=>exact UH n.2 ha hb e
theorem Qt {Cs : List (List XG)} {k : Nat} {C : List XG} (h : Cs[k]? = some C) : ∀ c ∈ C, c ∈ Cs.flatten:=fun c hc=>List.mem_flatten.mpr ⟨C, List.mem_of_getElem? h, hc⟩
theorem Ir {as : List α} {i : Int} {a : α} (h : atR as i = .ok a) : ∃ k, ixN as.length i = some k /\ as[k]? = some a:=by
  have:=Gi h
  unfold atI at this
  cases e : ixN as.length i with
  | none=>rw [e] at this; cases this
  | some k=>rw [e] at this; exact ⟨k, rfl, this⟩
theorem DA {r : Enc α} [z : MonoE r] {v : V} {as : List (List α)} {row row' : List α} {H : Hp} {p q : Addr} {xs ys ys' : List V} {Cs : List (List XG)} {k kk : Nat} (w : W OO H) (hk : OO[k]? = some ((p, .lst xs) :: Cs.flatten)) (hP : P3 (oL (oF r) K (hid H OO)) xs as Cs) (hrow : as[kk]? = some row)
    (hx : xs[kk]? = some (.ref q)) (hq : H q = some (.lst ys)) (hcs : Cs[kk]? = some [(q, .lst ys)]) (pr : Paired (r K (hid H OO)) ys' row') :
    ∃ C', W (OO.set k C') (upd H q (.lst ys')) /\ Xo (hid H OO) (hid (upd H q (.lst ys')) (OO.set k C')) /\ oL (oL (oF r)) K (hid (upd H q (.lst ys')) (OO.set k C')) (.ref p) (as.set kk row') C':=by
  have hkl : kk < Cs.length:=by
    rcases Nat.lt_or_ge kk Cs.length with h | h
    . exact h
    . rw [List.getElem?_eq_none h] at hcs; cases hcs
  have hin : ∀ c ∈ (p, HO.lst xs) :: Cs.flatten, c ∈ OO.flatten:=fun c hc=>List.mem_flatten.mpr ⟨_, List.mem_of_getElem? hk, hc⟩
  have w0 : W ([] :: OO) H:=w.nil
  have cn0:=JR w0 hk
  rw [List.append_nil] at cn0
  have e0 : Cs[kk] = [(q, .lst ys)]:=by
    rw [List.getElem?_eq_getElem hkl] at hcs; exact Option.some.inj hcs
  have hp:=Gj (Cs:=Cs) (j:=kk) (D:=[(q, HO.lst ys')]) hkl
  rw [e0] at hp
  have hpm : ((Cs.set kk [(q, HO.lst ys')]).flatten.map (·.1)).Perm (Cs.flatten.map (·.1)):=by
    have:=hp.map (·.1)
    simp only [List.map_append, List.map_cons, List.map_nil] at this
    exact (List.perm_append_right_iff _).mp this
  have hpne : p ∉ Cs.flatten.map (·.1):=by
    have h1:=X1 hk
    have:=(w.of (OO':=((p, HO.lst xs) :: Cs.flatten) :: OO.set k []) h1).nd
    rw [Yo, List.map_cons, List.cons_append, List.nodup_cons] at this
    exact fun z=>this.1 (List.mem_append_left _ z)
  have hqC : q ∈ Cs.flatten.map (·.1):=List.mem_map.mpr ⟨(q, .lst ys), Qt hcs _ (by simp), rfl⟩
  have hpq : p ≠ q:=fun e=>hpne (e ▸ hqC)
  have hcells : ∀ c ∈ (p, HO.lst xs) :: (Cs.set kk [(q, HO.lst ys')]).flatten, upd H q (.lst ys') c.1 = some c.2 /\ Ht c.2 = true:=fun c hc=>by
    rcases List.mem_cons.mp hc with rfl | hc
    . rw [Xp hpq]; exact ⟨w.tr _ (hin _ List.mem_cons_self), rfl⟩
    . obtain ⟨D, hD, hcD⟩ := List.mem_flatten.mp hc
      rcases List.mem_or_eq_of_mem_set hD with hD | hD
      . by_cases hcq : c.1 = q
        . -- a cell at q in another place: then it is this one
          have hc2 : c ∈ (Cs.set kk [(q, HO.lst ys')]).flatten:=hc
          have n1 : ((Cs.set kk [(q, HO.lst ys')]).flatten.map (·.1)).Nodup:=hpm.nodup_iff.mpr cn0
          have hm : (q, HO.lst ys') ∈ (Cs.set kk [(q, HO.lst ys')]).flatten:=List.mem_flatten.mpr ⟨[(q, .lst ys')], List.mem_set (by simpa using hkl) _, by simp⟩
          have e1 : c = (q, HO.lst ys'):=by
            have:=UH n1 hc2 hm hcq
            exact this
          rw [e1]; exact ⟨X8, rfl⟩
        . rw [Xp hcq]
          have : c ∈ OO.flatten:=hin c (List.mem_cons_of_mem _ (List.mem_flatten.mpr ⟨D, hD, hcD⟩))
          exact ⟨w.tr c this, w.mu c this⟩
      . rw [hD] at hcD
        have e1 : c = (q, HO.lst ys'):=by simpa using hcD
        rw [e1]; exact ⟨X8, rfl⟩
  have hq' : q ∈ (Cs.set kk [(q, HO.lst ys')]).flatten.map (·.1):=hpm.mem_iff.mpr hqC
  obtain ⟨w2, m2⟩:=Iy (C':=(p, .lst xs) :: (Cs.set kk [(q, HO.lst ys')]).flatten) (p:=q) (o:=.lst ys') w0 hk (List.mem_cons_of_mem _ hqC) (List.mem_cons_of_mem _ hq') (by
      rw [List.map_cons, List.nodup_cons]
      exact ⟨fun z=>hpne (hpm.mem_iff.mp z), hpm.nodup_iff.mpr cn0⟩) (fun b hb=>by
      rw [List.append_nil]
      rcases List.mem_cons.mp hb with rfl | hb
      . exact List.mem_cons_self
      . exact List.mem_cons_of_mem _ (hpm.mem_iff.mp hb)) (fun c hc=>(hcells c hc).1) fun c hc=>(hcells c hc).2
  rw [YH] at m2
  have e3 : xs.set kk (.ref q) = xs:=by
    apply List.ext_getElem?
    intro n
    by_cases hn : n = kk
    . subst hn
      rw [hx, List.getElem?_set_self (by
        rcases Nat.lt_or_ge n xs.length with h | h
        . exact h
        . rw [List.getElem?_eq_none h] at hx; cases hx)]
    . rw [List.getElem?_set_ne (fun e=>hn e.symm)]
  refine ⟨_, w2, m2, ⟨p, xs, Cs.set kk [(q, HO.lst ys')], rfl, ?_, rfl⟩⟩
  have:=P3.set (F:=oL (oF r) K (hid (upd H q (.lst ys')) (OO.set k ((p, .lst xs) :: (Cs.set kk [(q, HO.lst ys')]).flatten)))) (a:=V.ref q) (b:=row') (c:=[(q, HO.lst ys')])
    ⟨q, ys', List.replicate row'.length [], rfl, (P3.of (Paired.imp2 (fun _ _ h=>z.mono m2 h) pr)).imp fun _ _ _ h=>h, by rw [Yj]⟩ kk (P3.imp (fun _ _ _ h=>MonoO.mono m2 h) hP)
  rw [e3] at this
  exact this
theorem FE {r : Enc α} {h : Hp} {as : List (List α)} {xs : List V} {Cs : List (List XG)} {kk : Nat} {row : List α} (q : P3 (oL (oF r) K h) xs as Cs) (hrow : as[kk]? = some row) : ∃ q0 ys, xs[kk]? = some (.ref q0) /\ Cs[kk]? = some [(q0, .lst ys)] /\ Paired (r K h) ys row:=by
  obtain ⟨x, c, h1, h2, p, ys, Ds, e, h3, h4⟩:=q.get hrow
  obtain ⟨h5, h6⟩:=P3.flat h3
  rw [h6] at h4
  exact ⟨p, ys, by rw [h1, e], by rw [h2, h4], h5⟩
theorem VF {F : V -> α -> Prop} {y : V} {a : α} (r : F y a) : ∀ {l : List V} {m : List α} (i : Nat), Paired F l m -> Paired F (l.set i y) (m.set i a)
  | _, _, _, .nil=>.nil
  | _, _, 0, .cons _ t=>.cons r t
  | _, _, i + 1, .cons q t=>.cons q (VF r i t)
theorem Jw {ta ti tj : TE} {r : Enc α} [z : MonoE r] {m : Res α} {mi mj : Res Int} {f : List (List α) -> Res β} {v : V} {as : List (List α)} {C : List XG} (i k : Nat) (hσ : σ[i]? = some (some v)) (hk : OO[k]? = some C) (h : ∀ x, S.p x -> oL (oL (oF r)) K x v as C) (he : EvS K Er S OO σ ta r m)
    (hi : EvB K Er S OO σ ti Xc mi) (hj : EvB K Er S OO σ tj Xc mj)
    (hr : ∀ bs C', Sv Er (S.addO K (oL (oL (oF r))) v bs C') (OO.set k C') σ u Fd (f bs)) :
    Sv Er S OO σ (Jy (BJ ta (IW (tOp (Hu K) (Kv i) ti) tj Hl)) u) Fd (m.bind fun a=>mi.bind fun x=>(atR as x).bind fun row=>mj.bind fun y=>(ZU row y a).bind fun row'=>(ZU as x row').bind f):=fun H D w s P=>
  he.st w s P fun a va H1 s1 w1 q1 r1 P1=>⟨v, hσ, hi.st w1 q1 P1 fun x vx H2 s2 w2 q2 r2 P2=>by
    cases ea : atR as x with
    | bad=>rw [ea] at P2; exact P2.elim
    | err ex=>exact absurd ea Gg
    | ok row=>
      rw [ea] at P2
      obtain ⟨kk, hkk, hrow⟩:=Ir ea
      obtain ⟨p, xs, Cs, e, q, c⟩:=h _ q2
      subst c e
      obtain ⟨q0, ys, g1, g2, g3⟩:=FE q hrow
      have hin : ∀ c ∈ (p, HO.lst xs) :: Cs.flatten, c ∈ OO.flatten:=fun c hc=>List.mem_flatten.mpr ⟨_, List.mem_of_getElem? hk, hc⟩
      have hH : H2 p = some (.lst xs):=w2.tr (p, .lst xs) (hin _ List.mem_cons_self)
      have hq0 : H2 q0 = some (.lst ys):=w2.tr (q0, .lst ys) (hin _ (List.mem_cons_of_mem _ (Qt g2 _ (by simp))))
      refine ⟨p, xs, x, .ref q0, rfl, r2, SqL.of hH, by unfold atI; rw [q.len.1, hkk]; exact g1, hj.st w2 q2 (f:=fun y=>(ZU row y a).bind fun row'=>(ZU as x row').bind f) P2 fun y vy H3 s3 w3 q3 r3 P3'=>?_⟩
      cases eb : ZU row y a with
      | bad=>rw [eb] at P3'; exact P3'.elim
      | err ex=>exact absurd eb Df
      | ok row'=>
        rw [eb] at P3'
        obtain ⟨jj, hjj, rfl⟩:=FR eb
        have P4 : PZ Er (Fd D) (hid H3 OO) (f (as.set kk (row.set jj a))):=by
          have e5 : ZU as x (row.set jj a) = .ok (as.set kk (row.set jj a)):=by unfold ZU; rw [hkk]
          have : PZ Er (Fd D) (hid H3 OO) ((ZU as x (row.set jj a)).bind f):=P3'
          rw [e5] at this
          exact this
        have m3:=Xj (OO:=OO) s3
        obtain ⟨C', w4, m4, o4⟩:=DA (ys':=ys.set jj va) (row':=row.set jj a) (v:=.ref p) w3 hk (P3.imp (fun _ _ _ h=>MonoO.mono m3 h) q) hrow g1 (s3 _ _ hq0) g2 (VF (z.mono ((Xj s2).trans m3) r1) jj (Paired.imp2 (fun _ _ h=>z.mono m3 h) g3))
        exact ⟨q0, ys, y, jj, rfl, r3, s3 _ _ hq0, by rw [Paired.len g3]; exact hjj, hr _ C' _ D w4 ⟨S.mono _ _ m4 q3, o4⟩ (PZ.tr (fd.tr D) m4 P4)⟩⟩
theorem VO (K : PySem.W.Frag) (T : String) : PySem.W.kitOne K (.type T) (.type T) = some true:=by
  unfold PySem.W.kitOne
  rw [if_pos (beq_self_eq_true _)]
theorem UG (K : PySem.W.Frag) : PySem.W.kitOne K (.type "int") (.type "bool") = some false:=by
  first
    | rfl
    | decide +kernel
    | (unfold PySem.W.kitOne PySem.W.kitCls; rfl)
end
end L2
namespace L2
open PySem PySem.Spec PyProof.Rows
section
variable {K : PySem.W.Frag} {Er : Exc -> Hp -> Prop} {S : SC} {OO OO' OO1 OO2 : List (List XG)} {σ : St} {α β γ ρ ι δ ε : Type}
variable {Fd : Ends -> β -> Hp -> Prop} [fd : FdOk Fd] {u : TS}
noncomputable def IS : Option α -> Res α
  | some a=>.ok a
  | none=>.bad
theorem HX {te : TE} {r : Enc α} {m : Res (Option α)} (he : EvS K Er S OO σ te (Gh r) m) : EvS K Er S OO σ te r (m.bind IS):=fun H Q w s P=>by
  refine he H Q w s ?_
  cases m with
  | bad=>exact P
  | err x=>exact P
  | ok a=>
    cases a with
    | none=>exact P.elim
    | some a=>exact fun v H' s' hr=>P v H' s' hr.2
theorem Lq {r : Enc α} {q : Enc γ} {t : Enc δ} {K : PySem.W.Frag} {h : Hp} {v : V} {a : α × γ × δ} {C : List XG} (q : oF (rP3 r q t) K h v a C) : v ≠ .non:=by
  obtain ⟨_, p, x, y, z, e, _⟩:=q
  rw [e]; exact fun z=>nomatch z
theorem LY {o : OE α} {K : PySem.W.Frag} {h : Hp} {v : V} {a : List α} {C : List XG} (q : oL o K h v a C) : v ≠ .non:=by
  obtain ⟨p, x, Cs, e, _⟩:=q
  rw [e]; exact fun z=>nomatch z
end
end L2
namespace L2
open PySem PySem.Spec PyProof.Rows
section
variable {K : PySem.W.Frag} {Er : Exc -> Hp -> Prop} {S : SC} {OO OO' OO1 OO2 : List (List XG)} {σ : St} {α β γ ρ ι δ ε : Type}
variable {α1 α2 α3 α4 α5 : Type}
noncomputable def rP4 (r1 : Enc α1) (r2 : Enc α2) (r3 : Enc α3) (r4 : Enc α4) : Enc (α1 × α2 × α3 × α4):=fun K H v p=>∃ a x1 x2 x3 x4, v = .ref a /\ H a = some (.tup [x1, x2, x3, x4]) /\ r1 K H x1 p.1 /\ r2 K H x2 p.2.1 /\ r3 K H x3 p.2.2.1 /\ r4 K H x4 p.2.2.2
instance {r1 : Enc α1} {r2 : Enc α2} {r3 : Enc α3} {r4 : Enc α4} [m1 : MonoE r1] [m2 : MonoE r2] [m3 : MonoE r3] [m4 : MonoE r4] : MonoE (rP4 r1 r2 r3 r4):=⟨fun s h9=>(by obtain ⟨a, x1, x2, x3, x4, e, h, p1, p2, p3, p4⟩:=h9; exact ⟨a, x1, x2, x3, x4, e, s _ _ h, m1.mono s p1, m2.mono s p2, m3.mono s p3, m4.mono s p4⟩)⟩
instance {r1 : Enc α1} {r2 : Enc α2} {r3 : Enc α3} {r4 : Enc α4} [m1 : FlatE r1] [m2 : FlatE r2] [m3 : FlatE r3] [m4 : FlatE r4] : FlatE (rP4 r1 r2 r3 r4):=⟨fun s h9=>(by obtain ⟨a, x1, x2, x3, x4, e, h, p1, p2, p3, p4⟩:=h9; exact ⟨a, x1, x2, x3, x4, e, s _ _ h rfl, m1.flat s p1, m2.flat s p2, m3.flat s p3, m4.flat s p4⟩)⟩
instance {r1 : Enc α1} {r2 : Enc α2} {r3 : Enc α3} {r4 : Enc α4} : TyE (rP4 r1 r2 r3 r4) "tuple":=⟨fun h9=>(by obtain ⟨p, x1, x2, x3, x4, e, q, _⟩:=h9; subst e; exact .tup q)⟩
noncomputable def rP5 (r1 : Enc α1) (r2 : Enc α2) (r3 : Enc α3) (r4 : Enc α4) (r5 : Enc α5) : Enc (α1 × α2 × α3 × α4 × α5):=fun K H v p=>∃ a x1 x2 x3 x4 x5, v = .ref a /\ H a = some (.tup [x1, x2, x3, x4, x5]) /\ r1 K H x1 p.1 /\ r2 K H x2 p.2.1 /\ r3 K H x3 p.2.2.1 /\ r4 K H x4 p.2.2.2.1 /\ r5 K H x5 p.2.2.2.2
instance {r1 : Enc α1} {r2 : Enc α2} {r3 : Enc α3} {r4 : Enc α4} {r5 : Enc α5} [m1 : MonoE r1] [m2 : MonoE r2] [m3 : MonoE r3] [m4 : MonoE r4] [m5 : MonoE r5] : MonoE (rP5 r1 r2 r3 r4 r5):=⟨fun s h9=>(by obtain ⟨a, x1, x2, x3, x4, x5, e, h, p1, p2, p3, p4, p5⟩:=h9; exact ⟨a, x1, x2, x3, x4, x5, e, s _ _ h, m1.mono s p1, m2.mono s p2, m3.mono s p3, m4.mono s p4, m5.mono s p5⟩)⟩
instance {r1 : Enc α1} {r2 : Enc α2} {r3 : Enc α3} {r4 : Enc α4} {r5 : Enc α5} [m1 : FlatE r1] [m2 : FlatE r2] [m3 : FlatE r3] [m4 : FlatE r4] [m5 : FlatE r5] : FlatE (rP5 r1 r2 r3 r4 r5):=⟨fun s h9=>(by obtain ⟨a, x1, x2, x3, x4, x5, e, h, p1, p2, p3, p4, p5⟩:=h9; exact ⟨a, x1, x2, x3, x4, x5, e, s _ _ h rfl, m1.flat s p1, m2.flat s p2, m3.flat s p3, m4.flat s p4, m5.flat s p5⟩)⟩
instance {r1 : Enc α1} {r2 : Enc α2} {r3 : Enc α3} {r4 : Enc α4} {r5 : Enc α5} : TyE (rP5 r1 r2 r3 r4 r5) "tuple":=⟨fun h9=>(by obtain ⟨p, x1, x2, x3, x4, x5, e, q, _⟩:=h9; subst e; exact .tup q)⟩
theorem ET {ta : TE} {m : Res (Int × Int)} (ha : EvB K Er S OO σ ta (rP2 Xc Xc) m) : EvB K Er S OO σ ta (rPL Xc) (m.bind fun p=>.ok [p.1, p.2]):=fun H Q w s P=>
  ha.run w s FB.tr P fun a x H1 s1 w1 q1 ⟨p, x1, x2, e, q, h1, h2⟩ P1=>P1 _ H1 (Xo.refl _) ⟨p, _, e, q, .cons h1 (.cons h2 .nil)⟩
noncomputable def rDP {α : Type} (r : Enc α) (K : PySem.W.Frag) (H : Hp) (kv : Key × V) (kx : Int × α) : Prop:=kv.1 = .inl kx.1 /\ r K H kv.2 kx.2
noncomputable def rD {α : Type} (r : Enc α) : Enc (List (Int × α)):=fun K H v d=>∃ p kvs, v = .ref p /\ H p = some (.dK kvs) /\ Paired (rDP r K H) kvs d
noncomputable def oD {α : Type} (r : Enc α) : OE (List (Int × α)):=fun K h v d C=>∃ p kvs, v = .ref p /\ Paired (rDP r K h) kvs d /\ C = [(p, .dK kvs)]
instance {r : Enc α} [m : MonoE r] : MonoE (rD r):=⟨fun s ⟨p, kvs, e, q, pr⟩=>⟨p, kvs, e, s _ _ q, Paired.imp2 (fun _ _ z=>⟨z.1, m.mono s z.2⟩) pr⟩⟩
instance {r : Enc α} [m : MonoE r] : MonoO (oD r):=⟨fun s ⟨p, kvs, e, pr, c⟩=>⟨p, kvs, e, Paired.imp2 (fun _ _ z=>⟨z.1, m.mono s z.2⟩) pr, c⟩⟩
instance {r : Enc α} [m : FlatE r] : FlatO (oD r):=⟨fun s ⟨p, kvs, e, pr, c⟩=>⟨p, kvs, e, Paired.imp2 (fun _ _ z=>⟨z.1, m.flat s z.2⟩) pr, c⟩⟩
instance {r : Enc α} [m : MonoE r] : FrzC (oD r) (rD r):=⟨fun ⟨p, kvs, e, pr, c⟩ s hc=>⟨p, kvs, e, hc (p, .dK kvs) (by rw [c]; simp), Paired.imp2 (fun _ _ z=>⟨z.1, m.mono s z.2⟩) pr⟩⟩
noncomputable def ZP (d : List (Int × α)) (k : Int) : Option α:=(d.find? fun kv=>decide (kv.1 = k)).map (·.2)
noncomputable def Kp (d : List (Int × α)) (k : Int) (v : α) : List (Int × α):=if (d.any fun kv=>decide (kv.1 = k)) = true then d.map (fun kv=>if kv.1 = k then (kv.1, v) else kv) else d ++ [(k, v)]
noncomputable def FD (d : List (Int × α)) (k : Int) : Res α:=IS (ZP d k)
theorem Qj {r : Enc α} {H : Hp} {k : Int} : ∀ {kvs : List (Key × V)} {d : List (Int × α)}, Paired (rDP r K H) kvs d -> (∀ a, ZP d k = some a -> ∃ v, Kr kvs (.inl k) = some v /\ r K H v a) /\ (Kr kvs (.inl k)).isSome = (ZP d k).isSome
  | _, _, .nil=>⟨fun a h=>(by cases h), rfl⟩
  | kv :: kvs, kx :: d, .cons h t=>by
    obtain ⟨h1, h2⟩:=Qj (k:=k) t
    by_cases e : kx.1 = k
    . have e2 : kv.1 = .inl k := by rw [h.1, e]
      rw [Jl e2]
      have e3 : ZP (kx :: d) k = some kx.2:=by simp [ZP, List.find?_cons, e]
      rw [e3]
      exact ⟨fun a ha=>by cases ha; exact ⟨_, rfl, h.2⟩, rfl⟩
    . have e2 : ¬ kv.1 = .inl k := by rw [h.1]; exact fun z => e (Sum.inl.inj z)
      rw [Jk e2]
      have e3 : ZP (kx :: d) k = ZP d k:=by simp [ZP, List.find?_cons, e]
      rw [e3]
      exact ⟨h1, h2⟩
theorem Vw {r : Enc α} {H : Hp} {k : Int} : ∀ {kvs : List (Key × V)} {d : List (Int × α)}, Paired (rDP r K H) kvs d -> (kvs.any fun kv=>decide (kv.1 = .inl k)) = d.any fun kx=>decide (kx.1 = k)
  | _, _, .nil=>rfl
  | kv :: kvs, kx :: d, .cons h t=>by
    rw [List.any_cons, List.any_cons, Vw t, h.1]
    congr 1
    rw [Bool.eq_iff_iff]; simp
theorem KB {r : Enc α} {H : Hp} {k : Int} {v : V} {a : α} (hv : r K H v a) {kvs : List (Key × V)} {d : List (Int × α)} (h : Paired (rDP r K H) kvs d) : Paired (rDP r K H) (KI kvs (.inl k) v) (Kp d k a):=by
  unfold KI Kp
  rw [Vw h]
  by_cases e : (d.any fun kx=>decide (kx.1 = k)) = true
  . rw [if_pos e, if_pos e]
    clear e
    induction h with
    | nil=>exact .nil
    | @cons kv kx l m h t ih=>
      refine .cons ?_ ih
      show rDP r K H (if kv.1 = .inl k then (kv.1, v) else kv) (if kx.1 = k then (kx.1, a) else kx)
      by_cases e : kx.1 = k
      . rw [if_pos (show kv.1 = .inl k by rw [h.1, e]), if_pos e]; exact ⟨h.1, hv⟩
      . rw [if_neg (show ¬ kv.1 = .inl k by rw [h.1]; exact fun z=>e (Sum.inl.inj z)), if_neg e]; exact h
  . rw [if_neg e, if_neg e]
    exact Paired.app h (.cons ⟨rfl, hv⟩ .nil)
theorem Cy {td ty : TE} {r : Enc α} [z : MonoE r] {md : Res (List (Int × α))} {mk : Res Int} (hd : EvB K Er S OO σ td (rD r) md) (hk : EvB K Er S OO σ ty Xc mk) : EvB K Er S OO σ (HS td ty) r (md.bind fun d=>mk.bind fun k=>FD d k):=fun H Q w s P=>
  hd.run w s FB.tr P fun d x H1 s1 w1 q1 ⟨p, kvs, e, q, pr⟩ P1=>hk.run w1 q1 FB.tr P1 fun k y H2 s2 w2 q2 r2 P2=>by
    cases eg : ZP d k with
    | none=>rw [FD, eg] at P2; exact P2.elim
    | some a=>
      rw [FD, eg] at P2
      obtain ⟨v, hv, rv⟩:=(Qj (k:=k) pr).1 a eg
      exact ⟨p, v, e, .inl ⟨kvs, .inl k, .inl (s2 _ _ q), r2, hv.symm⟩, P2 _ H2 (Xo.refl _) (z.mono s2 rv)⟩
variable {Fd : Ends -> β -> Hp -> Prop} [fd : FdOk Fd] {u : TS}
end
end L2
namespace L2
open PySem PySem.Spec PyProof.Rows
theorem Yi.ex {P : Program} {w : World} {H : Hp} {h : Heap} {a : Addr} {o : HO} (x : Yi P w H h a o) : ∃ u, h.get? a = some u:=by
  cases o with
  | lst xs=>obtain ⟨_, _, _, _, e⟩:=x; exact ⟨_, e⟩
  | tup xs=>obtain ⟨_, _, _, p⟩:=x; obtain ⟨o, e, _⟩:=p; exact ⟨_, e⟩
  | dK kvs=>obtain ⟨_, _, _, _, o, _, _, e, _⟩:=x; exact ⟨_, e⟩
  | dT kvs=>obtain ⟨_, _, _, _, o, _, _, e, _⟩:=x; exact ⟨_, e⟩
  | set S n=>obtain ⟨o, _, _, _, e, _⟩:=x; exact ⟨_, e⟩
  | ins C dx fs=>obtain ⟨_, _, _, e, _⟩:=x; exact ⟨_, e⟩
  | own y=>exact x
  | xd fs=>obtain ⟨_, ⟨_, _, _, e, _⟩, _⟩:=x; exact ⟨_, e⟩
  | rng lo hi=>obtain ⟨_, _, _, e⟩:=x; exact ⟨_, e⟩
  | frz ob u=>exact ⟨_, x.1⟩
  | tbl ps=>exact ⟨_, x⟩
  | met f y=>exact ⟨_, x⟩
  | ext φ=>exact x.2.1
theorem HOk.un0 {P : Program} {w : World} {H : Hp} {h : Heap} {a : Addr} (x : HOk P w H h) (e : h.get? a = none) : H a = none:=by
  cases q : H a with
  | none=>rfl
  | some u=>obtain ⟨v, hv⟩:=(x a u q).ex; rw [e] at hv; cases hv
structure Fl (h0 h : Heap) (H : Hp) (a T : Addr) (cls : Value) : Prop where
  na : h0.get? a = none
  nT : h0.get? T = none
  fa : H a = none
  fT : H T = none
  ne : T ≠ a
  obj : ∃ oe vs oT ts a0, h.get? a = some oe /\ oe.cls = cls /\ vs[0]? = some a0 /\ oe.data = .fields vs /\ vs[1]? = some (.ref T) /\ h.get? T = some oT /\ oT.data = .fields ts /\ ts[3]? = some Value.none
noncomputable def B1 (h : Heap) (fs : List Addr) (a T : Addr) : Heap:=Cl h (fun b=>if b ∈ fs ∨ b = a ∨ b = T then some (.own 0) else none)
theorem Jo {h : Heap} {fs : List Addr} {a T b : Addr} {o : Obj} (e : h.get? b = some o) (n1 : b ∉ fs) (n2 : b ≠ a) (n3 : b ≠ T) : (B1 h fs a T).get? b = some o:=
  Gb e (if_neg fun z=>z.elim n1 fun z=>z.elim n2 n3)
theorem KD {h : Heap} {fs : List Addr} {a T b : Addr} {o : Obj} (e : (B1 h fs a T).get? b = some o) : h.get? b = some o /\ b ∉ fs /\ b ≠ a /\ b ≠ T:=by
  obtain ⟨h1, h2⟩:=F3 e
  have h3 : ¬ (b ∈ fs ∨ b = a ∨ b = T):=fun z=>by
    have:=(if_pos z).symm.trans h2
    cases this
  exact ⟨h1, fun q=>h3 (.inl q), fun q=>h3 (.inr (.inl q)), fun q=>h3 (.inr (.inr q))⟩
theorem Qn {h : Heap} {fs : List Addr} {a T b : Addr} (n : b ∈ fs ∨ b = a ∨ b = T) : (B1 h fs a T).get? b = none:=by
  cases q : (B1 h fs a T).get? b with
  | none=>rfl
  | some o=>
    obtain ⟨_, h1, h2, h3⟩:=KD q
    exact (n.elim h1 fun z=>z.elim h2 h3).elim
theorem Kf {h base B : Heap} : ∀ {l : List Env}, h.FunFrames base l -> (∀ b ∈ frs l, B.get? b = none) -> h.FunFrames B l
  | [], _, _=>trivial
  | env :: r, ⟨hk, ⟨L, o, hf, hn, ho, hd⟩, hr⟩, n=>
    ⟨hk, ⟨L, o, hf, n L (by unfold frs; rw [List.filterMap_cons, hf]; exact List.mem_cons_self), ho, hd⟩, Kf hr fun b hb=>n b (by unfold frs; rw [List.filterMap_cons, hf]; exact List.mem_cons_of_mem _ hb)⟩
section
variable {P : Program} {w : World} {h0 h h' base : Heap} {H : Hp} {a T : Addr} {cls a0 : Value} {l : List Env}
theorem Fl.fly (x : Fl h0 h H a T cls) (hl : h.FunFrames base l) : ∃ a0, Heap.FlyingW (B1 h (frs l) a T) l a cls a0 h:=by
  obtain ⟨oe, vs, oT, ts, a0, ha, hc, h0', hd, h1, hT, hdT, h3⟩:=x.obj
  exact ⟨a0, fun b o e=>(KD e).1, Qn (.inr (.inl rfl)), Kf hl fun b hb=>Qn (.inl hb), oe, vs, T, oT, ts, ha, ⟨hc, h0'⟩, hd, h1, Qn (.inr (.inr rfl)), x.ne, hT, hdT, h3⟩
theorem Un.traced (hl : h.FunFrames base l) (keep : ∀ b o, b ∉ frs l -> b ≠ a -> b ≠ T -> h.get? b = some o -> h'.get? b = some o) (up : h.UpToSlots h') : Un (frs l) [a, T] H H h h' where
  keep:=fun b o e _ hb hx=>keep b o hb (fun z=>hx (by simp [z])) (fun z=>hx (by simp [z])) e
  slot:=fun b o e _ hb _=>by
    obtain ⟨_, o2, ho2, hd2⟩:=hl.mem hb
    rw [e] at ho2; cases ho2
    exact up b o e hd2
  free:=fun b o e n _=>n
  there:=fun b o e hx=>by
    by_cases hb : b ∈ frs l
    . obtain ⟨_, o2, ho2, hd2⟩ := hl.mem hb
      obtain ⟨sl, q⟩:=up b o2 ho2 hd2
      exact ⟨_, q⟩
    . exact ⟨o, keep b o hb (fun z=>hx (by simp [z])) (fun z=>hx (by simp [z])) e⟩
  tups:=fun _ _ q=>q
  frzs:=fun _ _ _ q=>q
  tbls:=fun _ ps q=>⟨#[], by simpa using q⟩
theorem HOk.traced (hok : HOk P w H h) (hfn : ∀ b ∈ frs l, H b = none) (fa : H a = none) (fT : H T = none) (keep : ∀ b o, b ∉ frs l -> b ≠ a -> b ≠ T -> h.get? b = some o -> h'.get? b = some o) : HOk P w H h':=fun b o e=>by
  refine (hok b o e).stay (fun c u hc q=>?_) (fun _ q=>q) fun _ _ q=>q
  have hn : H c ≠ none:=by
    rcases hc with z | z
    . rw [z, e]; exact fun y=>nomatch y
    . rw [z]; exact fun y=>nomatch y
  exact keep c u (fun z=>hn (hfn c z)) (fun z=>hn (z ▸ fa)) (fun z=>hn (z ▸ fT)) q
theorem Fl.after (x : Fl h0 h H a T cls) (hl : h.FunFrames base l) (hfn : ∀ b ∈ frs l, H b = none) (hok : HOk P w H h) (th : ∀ b o, h0.get? b = some o -> ∃ o', h.get? b = some o')
    (st : (B1 h (frs l) a T).StaysIn h') (tr : h'.TracedW (B1 h (frs l) a T) a cls a0) (up : h.UpToSlots h') : ∃ T', Fl h0 h' H a T' cls /\ HOk P w H h' /\ Un (frs l) [a, T] H H h h':=by
  obtain ⟨oe, vs, T', oT, ts, ha, ⟨hc, h0'⟩, hd, h1, hnT, hne, hT, hdT, h3⟩:=tr
  have key : T' = T ∨ h.get? T' = none:=by
    cases q : h.get? T' with
    | none=>exact .inr rfl
    | some o=>
      by_cases hf : T' ∈ frs l
      . obtain ⟨_, o2, ho2, hd2⟩ := hl.mem hf
        obtain ⟨sl, e2⟩:=up T' o2 ho2 hd2
        rw [hT] at e2; cases e2
        exact absurd hdT (hd2 ts)
      . by_cases hz : T' = T
        . exact .inl hz
        . rw [Jo q hf hne hz] at hnT; cases hnT
  have keep : ∀ b o, b ∉ frs l -> b ≠ a -> b ≠ T -> h.get? b = some o -> h'.get? b = some o:=fun b o n1 n2 n3 e=>st b o (Jo e n1 n2 n3)
  refine ⟨T', ⟨x.na, ?_, x.fa, ?_, hne, oe, vs, oT, ts, a0, ha, hc, h0', hd, h1, hT, hdT, h3⟩, hok.traced hfn x.fa x.fT keep, Un.traced hl keep up⟩
  . rcases key with e | e
    . rw [e]; exact x.nT
    . cases q : h0.get? T' with
      | none=>rfl
      | some o=>obtain ⟨o', e'⟩:=th _ _ q; rw [e] at e'; cases e'
  . rcases key with e | e
    . rw [e]; exact x.fT
    . exact hok.un0 e
end
section
variable {fs fs2 ex ex2 : List Addr} {H0 H H' : Hp} {h0 h h' : Heap}
theorem Un.past (u : Un fs ex H0 H h0 h) (v : Un fs2 ex2 H H' h h') (n : ∀ b, b ∈ ex2 -> h0.get? b = none) (f : ∀ b, b ∈ fs2 -> b ∈ fs ∨ h0.get? b = none) : Un fs ex H0 H' h0 h' where
  keep:=fun b o e m hb hx=>v.keep b o (u.keep b o e m hb hx) (u.free b o e m hx) (fun z=>(f b z).elim hb fun y=>by rw [e] at y; cases y) fun z=>by rw [n b z] at e; cases e
  slot:=fun b o e m hb hx=>by
    obtain ⟨sl, q⟩:=u.slot b o e m hb hx
    obtain ⟨sl2, q2⟩:=v.any q (u.free b o e m hx) (fun z=>by rw [n b z] at e; cases e)
    exact ⟨sl2, q2⟩
  free:=fun b o e m hx=>by
    obtain ⟨o', q⟩:=u.there b o e hx
    exact v.free b o' q (u.free b o e m hx) (fun z=>by rw [n b z] at e; cases e)
  there:=fun b o e hx=>by
    obtain ⟨o', q⟩:=u.there b o e hx
    exact v.there b o' q (fun z=>by rw [n b z] at e; cases e)
  tups:=fun b xs q=>v.tups b xs (u.tups b xs q)
  frzs:=fun b o x q=>v.frzs b o x (u.frzs b o x q)
  tbls:=fun b ps q=>by
    obtain ⟨m1, e1⟩:=u.tbls b ps q
    obtain ⟨m2, e2⟩:=v.tbls b _ e1
    exact ⟨m1 ++ m2, by rw [e2, Array.append_assoc]⟩
end
theorem Inv.past {X : Cx} {pins : List (Addr × Obj)} {σ : St} {H H' : Hp} {s : Shared} {h' : Heap} {ch : List Addr} (I : Inv X pins σ H s) (u : Un (frs X.stack) ch H H' s.heap h') (hok : HOk X.prog X.w H' h')
    (hch : ∀ b ∈ ch, X.s₀.heap.get? b = none /\ b ≠ X.env.locals /\ (∀ x c, X.env.cells.lookup x = some c -> c ≠ b) /\ ∀ p ∈ X.pn ++ pins, p.1 ≠ b) : Inv X pins σ H' { s with heap:=h' }:=by
  have nL : X.s₀.heap.get? X.env.locals = none:=Heap.get?_none_of_le I.ok.above
  obtain ⟨m, ⟨o, es, ep, ho, hd, hr⟩, hl⟩:=id I.loc
  have lch : X.env.locals ∉ ch:=fun z=>(hch _ z).2.1 rfl
  obtain ⟨sl, hL⟩:=u.any ho I.free lch
  have cl : ∀ x c v, X.env.cells.lookup x = some c -> s.heap.IsCell c v -> h'.IsCell c v:=fun x c v e ⟨oc, e1, e2⟩=>by
    obtain ⟨sl, q⟩:=u.any e1 (I.freeC x c e) fun z=>(hch c z).2.2.1 x c e rfl
    exact ⟨_, q, e2⟩
  refine ⟨I.ok, I.os, I.bare, I.base.past u (fun b hb=>(hch b hb).1) fun b hb=>?_, ⟨m, ⟨_, es, ep, hL, hd, hr⟩, fun i x v e1 e2 e3=>?_⟩, fun x c e=>?_, u.free _ o ho I.free lch, fun x c e=>?_, fun p hp=>?_, hok, I.len⟩
  . rcases List.mem_cons.mp (I.stkSub b hb) with z | z
    . exact .inr (z ▸ nL)
    . exact .inl z
  . obtain ⟨u', r, q⟩ := hl i x v e1 e2 e3
    refine ⟨u', r, ?_⟩
    rcases q with q | ⟨k, c, e, z⟩
    . exact .inl q
    . exact .inr ⟨k, c, e, cl x c _ e z⟩
  . obtain ⟨v, z⟩ := I.cell x c e
    exact ⟨v, cl x c v e z⟩
  . obtain ⟨v, oc, e1, _⟩ := I.cell x c e
    exact u.free c oc e1 (I.freeC x c e) fun z=>(hch c z).2.2.1 x c e rfl
  . obtain ⟨e, n, ne, nf, d⟩ := I.pin p hp
    have nch : p.1 ∉ ch:=fun z=>(hch p.1 z).2.2.2 p hp rfl
    exact ⟨u.keep p.1 p.2 e n (fun z=>(List.mem_cons.mp (I.stkSub _ z)).elim ne nf) nch, u.free p.1 p.2 e n nch, ne, nf, d⟩
noncomputable def CXE (P : Program) (w : World) : CXT:=fun outer H s E e s'=>∃ a T C H', e = .ref a /\ Fl s.heap s'.heap H' a T (.ref C) /\ s'.os = s.os /\ AllBare s'.gens /\ Un (frs outer) [] H H' s.heap s'.heap /\ HOk P w H' s'.heap /\ E (.ref C) none H'
section
variable {P : Program} {w : World} {K : PySem.W.Frag} {mg : Str -> Option Value} {base : Heap} {N : List Str} {qual : Str} {scope : Scope} {f : Addr} {cd : Value} {A : Around} {outer : List Env} {s0 : Shared} {H0 : Hp} {E : XK}
noncomputable def BW (X : Cx) (E : XK) : Prop:=∀ (pins : List (Addr × Obj)) (σ : St) (H : Hp) (s : Shared) (C e : Addr) (vs : List Value) (h' : Heap), Inv X pins σ H s -> Heap.MadeExcOf s.heap h' e (.ref C) vs -> E (.ref C) none H -> X.xe (.ref e) { s with heap:=h' }
theorem HQ : BW (Fc (CXE P w) P w K mg base N qual scope f cd A outer s0 H0 E) E:=by
  intro pins σ H s C e vs h' I hx q
  have nn : ∀ b, s.heap.get? b = none -> s0.heap.get? b = none:=fun b n=>by
    cases q : s0.heap.get? b with
    | none=>rfl
    | some o=>obtain ⟨o', e⟩:=I.base.there b o q (fun z=>nomatch z); rw [n] at e; cases e
  refine wpAny_leaves_madeW (base:=B1 s.heap (frs (Fc (CXE P w) P w K mg base N qual scope f cd A outer s0 H0 E).stack) e e) (h:=s.heap) I.ok.frames rfl (fun b o z=>(KD z).1) (Kf I.stack fun b hb=>Qn (.inl hb)) hx fun h2 t fl _ _ up=>?_
  obtain ⟨st, _, _, oe, us, T, oT, ts, ha, ⟨hc, h0'⟩, hd, h1, hnT, hne, hT, hdT, h3⟩:=fl
  have up2 : s.heap.UpToSlots h2:=fun b o z n=>up b o (hx.keeps b o z) n
  have hT0 : s.heap.get? T = none:=by
    cases q : s.heap.get? T with
    | none=>rfl
    | some o=>
      by_cases hf : T ∈ frs (Fc (CXE P w) P w K mg base N qual scope f cd A outer s0 H0 E).stack
      . obtain ⟨_, o2, ho2, hd2⟩ := I.stack.mem hf
        obtain ⟨sl, e2⟩:=up2 T o2 ho2 hd2
        rw [hT] at e2; cases e2
        exact absurd hdT (hd2 ts)
      . rw [Jo q hf hne hne] at hnT; cases hnT
  have keep : ∀ b o, b ∉ frs (Fc (CXE P w) P w K mg base N qual scope f cd A outer s0 H0 E).stack -> b ≠ e -> b ≠ T -> s.heap.get? b = some o -> h2.get? b = some o:=fun b o n1 n2 _ z=>st b o (Jo z n1 n2 n2)
  have fe:=I.hok.un0 hx.new
  have fT:=I.hok.un0 hT0
  refine ⟨e, T, C, H, rfl, ⟨nn _ hx.new, nn _ hT0, fe, fT, hne, oe, us, oT, ts, _, ha, hc, h0', hd, h1, hT, hdT, h3⟩, I.os, I.bare, I.base.past (Un.traced I.stack keep up2) (fun b hb=>?_) fun b hb=>?_, I.hok.traced I.stkFree fe fT keep, q⟩
  . rcases List.mem_cons.mp hb with z | z
    . rw [z]; exact nn _ hx.new
    . rw [List.mem_singleton.mp z]; exact nn _ hT0
  . rcases List.mem_cons.mp (I.stkSub b hb) with z | z
    . exact .inr (z ▸ Heap.get?_none_of_le I.ok.above)
    . exact .inl z
end
structure FnX (P : Program) (w : World) (K : PySem.W.Frag) (mg : Str -> Option Value) (base : Heap) (k : Nat) (x : Str) (ps : List Str) (sp : Sp) : Prop where
  ex : ∃ f fd, FnOk P w K mg base (CXE P w) k f fd ps sp /\ Ka K fd ps [] /\ PySem.W.keepIn K (.ref f) = true /\ mg x = some (.ref f)
section
variable {X : Cx} {k j : Nat} {x : Str} {ps : List Str} {sp : Sp} {e : Expr} {es : List Expr} {t : TA} {p pos : Pos} {E : XK}
theorem Io (G : FnX X.prog X.w X.K X.mg X.base k x ps sp) (hr : Room j X.A) (hj : k <= j) (hx : UT (CXE X.prog X.w) X E) (ha : PA X (e :: es) t) (hg : Gl X x:=by rfl) (hdb : (x == ("__debug__" : Str)) = false:=by decide)
    (he : starEach (e :: es) X.env = (false, eval e X.env) :: starEach es X.env:=by rfl) (hpl : (backTo pos (starEach es X.env)).any (·.1) = false:=by rfl) :
    PE X (.Call (.Name x p) (e :: es) [] pos) (UW sp [] E t):=by
  obtain ⟨f, fd, F, b, kp, m⟩:=G.ex
  exact Cg F (hr.mono hj) hg m kp b .nil hx ha hdb he hpl
end
theorem Hz {P : Program} {w : World} {K : PySem.W.Frag} {mg : Str -> Option Value} {base : Heap} {x : Str} {st : Stmt} {N ps : List Str} {k : Nat} {sp : Sp} (D : Def K mg x st ps) (S : FnScope N ps (Xh st)) (len : ∀ vs H Q E, sp vs H Q E -> vs.length = ps.length)
    (hbody : ∀ (f : Addr) (cdv : Value) (A : Around) (outer : List Env) (s : Shared) (H : Hp) (vs : List V) (Q : VK) (E : XK), Room k (A.deeper (envOfC x (Xh st) s.heap.objs.size f cdv)) -> sp vs H Q E ->
      ∃ t, PSs (Fc (CXE P w) P w K mg base N x (Xh st) f cdv A outer s H E) (XC st) t /\ t { nx:=fun _ H'=>Q .non H', rt:=Q } (Vj N vs) H) : FnX P w K mg base (k + 1) x ps sp:=by
  obtain ⟨f, fd, F, b, m⟩:=D
  obtain ⟨oc, od, kV, doc, pm, an, cdv, ct, osl, rfl, lk, hcd⟩:=F.ex
  exact ⟨f, _, HC lk hcd S len fun A outer s H vs Q E hr hsp=>hbody f cdv A outer s H vs Q E hr hsp, b, F.kp, m⟩
theorem EQ {K : PySem.W.Frag} {h : Heap} {C : Addr} {bmB : List Value} {newId : String} (X : K.In h) (q : PySem.W.excIn K C bmB newId = true) :
    ∃ bm N nm q bs hdct sn sub ab col dd k0 k1 k2 k3 k5 mN, h.get? C = some (excClassObj nm q C N bs bm hdct sn sub ab col dd k0 k1 k2 k3 k5 newId) /\ h.Ns N mN /\ mN "__init__" = none /\ OwnTail h bmB bm:=by
  unfold PySem.W.excIn at q
  split at q
  . rename_i dd cd sl ho
    split at q
    . rename_i C' bm k0 k1 k2 k3 n k5 hm hs
      simp only [Bool.and_eq_true, beq_iff_eq, Bool.not_eq_true'] at q
      obtain ⟨⟨⟨⟨⟨q1, q2⟩, q3⟩, q4⟩, q5⟩, q6⟩:=q
      subst q1 q2
      obtain ⟨nm, bs, mro, ns, qn, hd, sn, sub, ab, col, del⟩:=cd
      have e1 : mro = _:=hm
      have e2 : del = false:=q3
      subst e1 e2
      obtain ⟨l⟩:=sl
      have e3 : l = _:=hs
      subst e3
      exact ⟨bm, ns, nm, qn, bs, hd, sn, sub, ab, col, dd, k0, k1, k2, k3, k5, _, X _ _ ho, .of_isNs (PySem.W.isNs_of_in X q5), PySem.W.nsMap_none_of_in X q5 q6, PySem.W.tail_of_in X q4⟩
    . cases q
  . cases q
abbrev vEr : List Value:=[.type "ValueError", .type "Exception", .type "BaseException", .type "object"]
noncomputable def BG (C : Addr) (E : XK) (t : TA) : TS:=fun _ σ H=>t σ H fun vs H1=>vs.length <= 9 /\ E (.ref C) none H1
section
variable {X : Cx} {E : XK} {C : Addr} {x : Str} {e : Expr} {es : List Expr} {t : TA} {np cpos pos : Pos}
theorem Bu (hR : BW X E) (hc : X.calm = true) (hq : PySem.W.excIn X.K C vEr "ValueError.__new__" = true) (hg : Gl X x) (hm : X.mg x = some (.ref C)) (ha : PA X (e :: es) t) (hdb : (x == ("__debug__" : Str)) = false:=by decide)
    (he : starEach (e :: es) X.env = (false, eval e X.env) :: starEach es X.env:=by rfl) (hpl : (backTo cpos (starEach es X.env)).any (·.1) = false:=by rfl) :
    PS X (.Raise (some (.Call (.Name x np) (e :: es) [] cpos)) none pos) (BG C E t):=by
  intro pins s σ H D I h
  obtain ⟨bm, N, nm, q, bs, hdct, sn, sub, ab, col, dd, k0, k1, k2, k3, k5, mN, hC, hN, hni, T⟩:=EQ I.ok.mod.kin hq
  refine wpAny_Raise_call_subU (C:=C) (nm:=nm) (q:=q) (N:=N) (bs:=bs) (bm:=bm) (hdct:=hdct) (sn:=sn) (sub:=sub) (ab:=ab) (col:=col) (dd:=dd) (k0:=k0) (k1:=k1) (k2:=k2) (k3:=k3) (k5:=k5) (bmB:=vEr)
    PySem.F.excBase_ValueError rfl PySem.F.excBase_ValueError (mN:=mN) (T.hasType rfl) (I.ok.hd hc) (by rw [he]; show (false || (backTo cpos (starEach es X.env)).any (·.1)) = false; rw [hpl]; rfl) hni (VZ I hg hm ⟨rfl, ?_⟩ hdb)
  have h2:=ha cpos pins s σ H _ I h
  rw [he] at h2 ⊢
  refine Calls.evalArgs_plain (wpAny_mono h2 (fun us s2 ⟨vs, H1, I1, r, hl, hE⟩=>⟨rfl, ?_, I1.bk _ _ hC, hN.keeps I1.bk, T.keeps I1.bk, fun h' a hx=>hR pins σ H1 s2 C a us h' I1 hx hE⟩) fun _ _ y=>y)
  have : us.length <= 9:=by rw [← r.length]; exact hl
  exact Nat.le_trans this (by decide)
end
end L2
namespace L2
open PySem PySem.Spec PyProof.Rows
noncomputable abbrev TJ:=St -> Hp -> (Hp -> Prop) -> Prop
section
variable {X : Cx} {e : Expr} {es : List Expr} {te : TE} {t : TJ} {n : Nat} {pos p : Pos}
end
noncomputable abbrev Cx.alt (X : Cx) (pn : List (Addr × Obj)) (xe : Value -> Shared -> Prop) : Cx:={ X with pn:=pn, xe:=xe }
noncomputable abbrev Cx.held (X : Cx) (a : Addr) (pn : List (Addr × Obj)) : Cx:={ X with A:=X.A.mark (some (.ref a)), calm:=false, pn:=pn, xe:=fun _ _=>False }
noncomputable def blank (n : Nat) : St:=List.replicate n none
noncomputable def LH (K : PySem.W.Frag) (n : Nat) (cc : Value) (i : Nat) (tb : XK -> TS) (ts : Addr -> Addr -> TS) : TS:=fun D σ H=>
  tb (fun c _ H'=>PySem.W.exmOne K c cc = some true /\ ∀ a C, c = .ref C -> H' a = none -> ts a C { nx:=fun _=>D.nx (blank n), rt:=D.rt, bk:=fun _=>D.bk (blank n), ct:=fun _=>D.ct (blank n) } ((blank n).set i (some (.ref a))) H') D σ H
theorem Cx.Ok.alt {X : Cx} (ok : X.Ok) (pn : List (Addr × Obj)) (xe : Value -> Shared -> Prop) : (X.alt pn xe).Ok:=
  ⟨ok.mod, ok.kind, ok.glob, ok.blt, ok.above, ok.inj, ok.has, ok.cab, ok.hd, ok.frames, ok.stk, ok.exf, ok.bs, ok.bsz, ok.noex, ok.exfs, ok.funs, ok.frf⟩
theorem Cx.Ok.held {X : Cx} (ok : X.Ok) (a : Addr) (pn : List (Addr × Obj)) : (X.held a pn).Ok:=
  ⟨ok.mod, ok.kind, ok.glob, ok.blt, ok.above, ok.inj, ok.has, ok.cab, (fun z=>nomatch z), ok.frames, ok.stk, ok.exf, ok.bs, ok.bsz, ok.noex, ok.exfs, ok.funs, ok.frf⟩
section
variable {X : Cx} {pins : List (Addr × Obj)} {σ : St} {H : Hp} {s : Shared} {h' : Heap}
theorem Ge {n i : Nat} {v : V} (h : (blank n)[i]? = some (some v)) : False:=by
  unfold blank at h
  rw [List.getElem?_replicate] at h
  split at h <;> cases h
theorem UJ {n : Nat} : (blank n).length = n:=by simp [blank]
theorem Inv.blank (I : Inv X pins σ H s) : Inv X pins (blank X.N.length) H s:=I.weak (by rw [UJ, I.len]) fun i v h=>(Ge h).elim
theorem Inv.forget {m' : Str -> Option Value} {t' : Nat} (I : Inv X pins σ H s) (hn : h'.Ns X.env.locals m') (sb : Heap.SameBut X.env.locals s.heap h') : Inv X pins (L2.blank X.N.length) H { s with heap:=h', toks:=t' }:=by
  have v : Un [] [X.env.locals] H H s.heap h':=⟨fun b o e n _ hx=>(sb.2 b fun z=>hx (by simp [z])).trans e, (fun b o e n hb _=>nomatch hb), fun b o e n _=>n, fun b o e hx=>⟨o, (sb.2 b fun z=>hx (by simp [z])).trans e⟩, fun _ _ q=>q, fun _ _ _ q=>q, fun _ ps q=>⟨#[], by simpa using q⟩⟩
  refine ⟨I.ok, I.os, I.bare, I.base.past v (fun b hb=>?_) (fun b hb=>nomatch hb), ⟨m', hn, fun i x v _ e2=>(Ge e2).elim⟩, fun x c e=>?_, I.free, I.freeC, fun p hp=>?_, fun b o e=>?_, UJ⟩
  . rw [List.mem_singleton.mp hb]; exact Heap.get?_none_of_le I.ok.above
  . obtain ⟨v, o, e1, e2⟩ := I.cell x c e
    exact ⟨v, o, (sb.2 c (I.cne x c e)).trans e1, e2⟩
  . obtain ⟨e, n, ne, nf, d⟩ := I.pin p hp
    exact ⟨(sb.2 p.1 ne).trans e, n, ne, nf, d⟩
  . refine (I.hok b o e).stay (fun c u hc q => (sb.2 c fun z => ?_).trans q) (fun _ q => q) fun _ _ q => q
    have hf:=I.free
    rw [← z] at hf
    rcases hc with y | y
    . rw [y, e] at hf; cases hf
    . rw [y] at hf; cases hf
end
section
variable {X : Cx} {body suite : List Stmt} {b₀ : Stmt} {cn n : Str} {Ch : Addr} {i : Nat} {tb : XK -> TS} {ts : Addr -> Addr -> TS} {np hpos pos : Pos}
theorem HJ (hst : X.stack = X.env :: X.outer) (hex : X.ex = []) (hfr : X.env.frame = some X.env.locals) (hg : Gl X cn) (hm : X.mg cn = some (.ref Ch)) (hN : X.N.Nodup) (hi : X.N[i]? = some n) (hlo : X.env.kindOf n = some .local) (hlo2 : X.env.scope.names.lookup n = some .local)
    (hb : ∀ pn xe E, UT (CXE X.prog X.w) (X.alt pn xe) E -> PSs (X.alt pn xe) body (tb E))
    (hs : ∀ pn a o C, (a, o) ∈ pn -> o.cls = .ref C -> PSs (X.held a pn) (b₀ :: suite) (ts a C))
    (hdb : (cn == ("__debug__" : Str)) = false:=by decide) :
    PS X (.Try body [.ExceptHandler (some (.Name cn np)) (some n) (b₀ :: suite) hpos] [] [] pos) (LH X.K X.N.length (.ref Ch) i tb ts):=by
  intro pins s σ H D I h
  refine wpAny_Try_except ?_
  have I0 : ∀ xe, Inv (X.alt (X.pn ++ pins) xe) [] σ H s:=fun xe=>⟨I.ok.alt _ _, I.os, I.bare, I.base, I.loc, I.cell, I.free, I.freeC, fun p hp=>I.pin p (by simpa using hp), I.hok, I.len⟩
  have back : ∀ {xe pins1 σ' H' s'}, Inv (X.alt (X.pn ++ pins) xe) pins1 σ' H' s' -> Inv X pins σ' H' s':=fun {xe pins1 σ' H' s'} J=>⟨I.ok, J.os, J.bare, J.base, J.loc, J.cell, J.free, J.freeC, fun p hp=>J.pin p (List.mem_append_left _ hp), J.hok, J.len⟩
  refine wpAny_mono (hb (X.pn ++ pins) _ _ ?pp [] s σ H D (I0 _) h) (fun f s1 hq=>?fin) fun e s1 hq=>hq
  case fin=>
    cases f with
    | next=>obtain ⟨σ', H', J, q⟩:=hq; exact wpAny_execs_nil ⟨σ', H', back J, q⟩
    | brk=>obtain ⟨σ', H', J, q⟩:=hq; exact ⟨σ', H', back J, q⟩
    | cont=>obtain ⟨σ', H', J, q⟩:=hq; exact ⟨σ', H', back J, q⟩
    | ret u=>obtain ⟨v, σ', H', J, r, q⟩:=hq; exact ⟨v, σ', H', back J, r, q⟩
  case pp=>
    intro pins1 σ1 H1 s1 e s' I1 ⟨a, T, C, H', he, x, os, bare, un, hok, hexm, hts⟩
    subst he
    have I2:=I1.call' os un hok bare (fun b z=>nomatch z)
    have J : Inv X pins (blank X.N.length) H' s':=(back I2).blank
    have q1 : ∀ b, s1.heap.get? b = none -> X.s₀.heap.get? b = none /\ b ≠ X.env.locals /\ (∀ y c, X.env.cells.lookup y = some c -> c ≠ b) /\ ∀ p ∈ X.pn ++ pins, p.1 ≠ b:=fun b nb=>by
      refine ⟨?_, fun z=>?_, fun y c hy z=>?_, fun p hp z=>?_⟩
      . cases q : X.s₀.heap.get? b with
        | none=>rfl
        | some o=>obtain ⟨o', e⟩:=I1.base.there b o q (by show b ∉ X.ex; rw [hex]; simp); rw [nb] at e; cases e
      . obtain ⟨m, ⟨o, es, ep, ho, _⟩, _⟩ := I1.loc
        have ho' : s1.heap.get? X.env.locals = some o:=ho
        rw [← z, nb] at ho'; cases ho'
      . obtain ⟨v, o, ho, _⟩ := I1.cell y c hy
        rw [z, nb] at ho; cases ho
      . obtain ⟨e, _⟩ := I1.pin p (List.mem_append_left _ hp)
        rw [z, nb] at e; cases e
    have hl : s'.heap.FunFrames X.base (X.env :: X.outer):=hst ▸ J.stack
    have hfn : ∀ b ∈ frs (X.env :: X.outer), H' b = none:=hst ▸ J.stkFree
    have hA : X.A.frames = some (X.env :: X.outer):=hst ▸ I.ok.frames
    obtain ⟨a0, fl⟩:=x.fly hl
    refine wpAny_looks_onW hA hfr fl fun h2 hd2 up2=>?_
    refine wpAny_landsW hd2 fun h3 fl3 up3=>?_
    obtain ⟨T3, x3, hok3, un3⟩:=x.after hl hfn hok (fun b o e=>un.there b o e (fun z=>nomatch z)) fl3.1 fl3.2.2.2 (up2.trans up3)
    have ch : ∀ {U : Addr}, s1.heap.get? U = none -> ∀ b ∈ [a, U], X.s₀.heap.get? b = none /\ b ≠ X.env.locals /\ (∀ y c, X.env.cells.lookup y = some c -> c ≠ b) /\ ∀ p ∈ X.pn ++ pins, p.1 ≠ b:=fun {U} nU b hb=>by
      rcases List.mem_cons.mp hb with z | z
      . rw [z]; exact q1 a x.na
      . rw [List.mem_singleton.mp z]; exact q1 U nU
    have J3 : Inv X pins (blank X.N.length) H' { s' with heap:=h3 }:=J.past (by rw [hst]; exact un3) hok3 (ch x.nT)
    have hh : ∀ {pn : List (Addr × Obj)} {s4 : Shared}, Inv X pins (blank X.N.length) H' s4 -> (∀ p ∈ pn, p ∈ X.pn ++ pins ∨ (p.1 = a /\ s4.heap.get? a = some p.2 /\ ∀ v, p.2.data ≠ .cell v)) -> Inv (X.held a pn) [] (blank X.N.length) H' s4:=fun {pn s4} J4 hp4=>by
      refine ⟨I.ok.held _ _, J4.os, J4.bare, J4.base, J4.loc, J4.cell, J4.free, J4.freeC, fun p hp=>?_, J4.hok, J4.len⟩
      rcases hp4 p (by simpa using hp) with z | ⟨z1, z2, z3⟩
      . exact J4.pin p z
      . refine ⟨by rw [z1]; exact z2, by rw [z1]; exact x.fa, by rw [z1]; exact (q1 a x.na).2.1, ?_, z3⟩
        rw [z1]
        intro y
        obtain ⟨_, o2, ho2, _⟩:=I.ok.funs.mem y
        rw [(q1 a x.na).1] at ho2
        cases ho2
    have hl3 : h3.FunFrames X.base (X.env :: X.outer):=hst ▸ J3.stack
    obtain ⟨oe, vs, oT, tts, a1, ha3, hc3, _⟩:=id x3.obj
    have J3h:=hh (pn:=X.pn ++ pins) J3 fun p hp=>.inl hp
    refine wpAny_handleBy_cons (codeAny_handlers_test (VZ J3h hg hm ?_ hdb)) (by intro q; cases q)
    have LT : PySem.W.Looks (model X.prog X.w) h3 (typeOf (.ref a)) (.ref C):=hc3 ▸ (PySem.W.Looks.ld ha3).andThen .now
    refine PySem.W.exm_one J3.kIn LT hexm _ _ _ _ (fun _ _ e=>e) ?_
    refine codeAny_handlers_suite_as ?_
    obtain ⟨a2, fl4⟩:=x3.fly hl3
    refine lands_againW fl4 fun h5 fl5 up5=>?_
    obtain ⟨T5, x5, hok5, un5⟩:=x3.after hl3 hfn hok3 (fun b o e=>by
      obtain ⟨o', e'⟩:=un.there b o e (fun z=>nomatch z)
      by_cases z : b ∈ [a, T]
      . rcases List.mem_cons.mp z with z | z
        . rw [z, x.na] at e; cases e
        . rw [List.mem_singleton.mp z, x.nT] at e; cases e
      . exact un3.there b o' e' z) fl5.1 fl5.2.2.2 up5
    have J5 : Inv X pins (blank X.N.length) H' { s' with heap:=h5 }:=J3.past (by rw [hst]; exact un5) hok5 (ch x3.nT)
    obtain ⟨oe5, vs5, oT5, ts5, a5, ha5, hc5, _, hd5, _⟩:=id x5.obj
    have J5h:=hh (pn:=(a, oe5) :: (X.pn ++ pins)) J5 fun p hp=>by
      rcases List.mem_cons.mp hp with z | z
      . rw [z]; exact .inr ⟨rfl, ha5, fun v q=>by rw [hd5] at q; cases q⟩
      . exact .inl z
    refine Qq (X:=X.held a ((a, oe5) :: (X.pn ++ pins))) (v:=.ref a) J5h hN hi (.inl hlo2) rfl (fun s6 J6=>?_) (.inr hlo2)
    refine wpAny_mono (hs _ a oe5 C List.mem_cons_self hc5 [] s6 _ H' _ J6 (hts a C rfl x.fa)) (fun f s7 hq=>?_) fun _ _ z=>z.elim
    have fin : ∀ {σ7 H7} {Q : Unit -> Shared -> Prop}, Inv (X.held a ((a, oe5) :: (X.pn ++ pins))) [] σ7 H7 s7 -> (∀ s8, Inv X pins (blank X.N.length) H7 s8 -> Q () s8) -> wpAny (model X.prog X.w) X.A (do bindName X.env n .none; unbindBehindTheSuite X.env n hpos) Q X.xe s7:=fun {σ7 H7 Q} J7 q=>by
      obtain ⟨m, hn, _⟩:=id J7.loc
      refine wpAny_nameGoes hlo hn (by rw [I.ok.kind]; rfl) fun h8 m8 hn8 sb8=>q _ ?_
      have J8:=J7.forget (t':=s7.toks + 1) hn8 sb8
      exact ⟨I.ok, J8.os, J8.bare, J8.base, J8.loc, J8.cell, J8.free, J8.freeC, fun p hp=>J8.pin p (by simpa using .inr (by simpa using hp)), J8.hok, J8.len⟩
    cases f with
    | next=>obtain ⟨σ7, H7, J7, q⟩:=hq; exact fin J7 fun s8 J8=>⟨_, H7, J8, q⟩
    | brk=>obtain ⟨σ7, H7, J7, q⟩:=hq; exact fin J7 fun s8 J8=>⟨_, H7, J8, q⟩
    | cont=>obtain ⟨σ7, H7, J7, q⟩:=hq; exact fin J7 fun s8 J8=>⟨_, H7, J8, q⟩
    | ret u=>obtain ⟨v, σ7, H7, J7, r, q⟩:=hq; exact fin J7 fun s8 J8=>⟨v, _, H7, J8, r, q⟩
end
end L2
namespace L2
open PySem PySem.Spec PyProof.Rows
section
variable {K : PySem.W.Frag} {Er : Exc -> Hp -> Prop} {S : SC} {OO OO' OO2 : List (List XG)} {σ : St} {α β γ ρ ι : Type} {α1 α2 α3 α4 α5 α6 : Type} {mg : Str -> Option Value} {E : XK}
noncomputable def ErE (mg : Str -> Option Value) (E : XK) : Exc -> Hp -> Prop:=fun x H=>∀ C, mg x.cls = some (.ref C) -> E (.ref C) none H
structure PX {β : Type} (Er : Exc -> Hp -> Prop) (F : β -> Hp -> Prop) (H : Hp) (m : Res β) : Prop where
  z : PZ Er F H m
noncomputable def IV (mg : Str -> Option Value) (r1 : Enc α1) (r2 : Enc α2) (o : OE ρ) (f : α1 -> α2 -> Res ρ) (K : PySem.W.Frag) : Sp:=fun vs H Q E=>∃ v1 v2 a1 a2, vs = [v1, v2] /\ r1 K H v1 a1 /\ r2 K H v2 a2 /\ PX (ErE mg E) (FF K o Q) H (f a1 a2)
theorem Ia {o : OE ρ} [FlatO o] {Q : VK} {H : Hp} {m : Res ρ} (w : W OO H) (P : PZ Er (FO K OO OO o Q) H m) : PZ Er (FF K o Q) H m:=by
  cases m with
  | bad=>exact P
  | err x=>exact P
  | ok b=>exact JU w P
theorem Cd {ta tb : TE} {r1 : Enc α1} {r2 : Enc α2} [z1 : MonoE r1] {o : OE ρ} [FlatO o] {f : α1 -> α2 -> Res ρ} {ma : Res α1} {mb : Res α2} (ha : EvB K (ErE mg E) S OO σ ta r1 ma) (hb : EvB K (ErE mg E) S OO σ tb r2 mb) :
    Ev K (ErE mg E) S OO OO σ (UW (IV mg r1 r2 o f K) [] E (XA ta (XA tb ZQ))) o (ma.bind fun a=>mb.bind fun b=>f a b):=fun H Q w s P=>
  ha.run w s FO.tr P fun a x H1 s1 w1 q1 r1 P1=>hb.run w1 q1 FO.tr P1 fun b y H2 s2 w2 q2 r2 P2=>⟨x, y, a, b, rfl, z1.mono s2 r1, r2, ⟨Ia w2 P2⟩⟩
theorem HH {o : OE ρ} [MonoO o] {t : TS} {m : Res ρ} {Q : VK} {H : Hp} {D : Ends} (n : Nat) (h : Sv (ErE mg E) S (List.replicate n []) σ t (FTd K o) m) (hs : S.p H) (PP : PX (ErE mg E) (FF K o Q) H m) (hD : D.rt = Q) : t D σ H:=by
  have P:=PP.z
  refine h H D (Ik n H) (by rw [Bl]; exact hs) ?_
  rw [Bl]
  cases m with
  | bad=>exact P
  | err x=>exact P
  | ok b=>
    intro v C OO' H' w mm ho
    rw [hD]
    exact BF P v C OO' H' w mm ho
noncomputable def FJ (Q : Hp -> Prop) (_ : Unit) (H : Hp) : Prop:=∀ H', Xo H H' -> Q H'
theorem FJ.tr {Q : Hp -> Prop} : ∀ (b : Unit) (H H' : Hp), Xo H H' -> FJ Q b H -> FJ Q b H':=fun _ _ _ s h H2 s2=>h H2 (s.trans s2)
noncomputable def EvX (Er : Exc -> Hp -> Prop) (S : SC) (OO : List (List XG)) (σ : St) (t : TE) (m : Res Unit) : Prop:=∀ H (Q : VK), W OO H -> S.p (hid H OO) -> PZ Er (FJ fun H=>∀ v, Q v H) H m -> t σ H Q
theorem EK {x : Str} : EvX Er S OO σ (tC (.str x)) (.ok ()):=fun H Q _ _ P=>P H (Xo.refl _) _
variable {Fd : Ends -> β -> Hp -> Prop} [fd : FdOk Fd] {u : TS}
theorem Cu {te : TE} {m : Res Unit} {C : Addr} {n : Str} (hm : mg n = some (.ref C)) (h : EvX (ErE mg E) S OO σ te m) : Sv (ErE mg E) S OO σ (Jy (BG C E (XA te ZQ)) u) Fd (m.bind fun _=>.err ⟨n, .non⟩):=fun H D w s P=>
  h H _ w s (by
    cases m with
    | bad=>exact P
    | err x=>exact fun H' s'=>P H' (Xv.trans s')
    | ok b=>exact fun H' s' v=>⟨Nat.le_of_ble_eq_true rfl, P H' (Xv.trans s') C hm⟩)
noncomputable def YX (n d : Str) : Bool:=n == d || d == ("PlaitError" : Str)
noncomputable def erA (K : PySem.W.Frag) (C : Addr) : Bool:=PySem.W.findIn K (.ref C) "__getattribute__" == some (some (.builtin "BaseException.__getattribute__")) && PySem.W.findIn K (.ref C) "__getattr__" == some none && PySem.W.findIn K (.ref C) "__class__" == some (some (.builtin "object.__class__")) &&
  PySem.W.specialIn K (.builtin "object.__class__") "__get__" == some (some (.builtin "getset_descriptor.__get__")) && PySem.W.takesIn K (.builtin "object.__class__") == some true && PySem.W.mroIn K C (.type "object") == some true && (PySem.W.clsIn K C).isSome && PySem.W.mroIn K C (.type "BaseException") == some true
noncomputable def QN (n : Str) : Bool:=!(n == ("NotADrawing" : Str)) && !(n == ("NoChain" : Str))
noncomputable def Ey (K : PySem.W.Frag) (cs : List (Str × Addr)) : Bool:=cs.all fun p=>(!(QN p.1) || PySem.W.excIn K p.2 vEr "ValueError.__new__") && erA K p.2 && PySem.W.kitOne K (.ref p.2) (.type "ValueError") == some true &&
  cs.all fun q=>PySem.W.kitOne K (.ref p.2) (.ref q.2) == some (YX p.1 q.1) && PySem.W.exmOne K (.ref p.2) (.ref q.2) == some (YX p.1 q.1)
structure Ecs (ns : List Str) (K : PySem.W.Frag) (mg : Str -> Option Value) : Prop where
  adr : ∀ n ∈ ns, ∃ C, mg n = some (.ref C) /\ (QN n = true -> PySem.W.excIn K C vEr "ValueError.__new__" = true)
  att : ∀ n ∈ ns, ∀ C, mg n = some (.ref C) -> erA K C = true
  val : ∀ n ∈ ns, ∀ C, mg n = some (.ref C) -> PySem.W.kitOne K (.ref C) (.type "ValueError") = some true
  kit : ∀ n ∈ ns, ∀ d ∈ ns, ∀ C D, mg n = some (.ref C) -> mg d = some (.ref D) -> PySem.W.kitOne K (.ref C) (.ref D) = some (YX n d)
  exm : ∀ n ∈ ns, ∀ d ∈ ns, ∀ C D, mg n = some (.ref C) -> mg d = some (.ref D) -> PySem.W.exmOne K (.ref C) (.ref D) = some (YX n d)
theorem IH {cs : List (Str × Addr)} (h : Ey K cs = true) (hn : ∀ p ∈ cs, mg p.1 = some (.ref p.2)) : Ecs (cs.map (·.1)) K mg:=by
  have key : ∀ n ∈ cs.map (·.1), ∀ C, mg n = some (.ref C) -> (n, C) ∈ cs:=fun n hm C hC=>by
    obtain ⟨⟨n', C'⟩, hp, rfl⟩:=List.mem_map.mp hm
    have:=hn _ hp
    rw [hC] at this
    cases this
    exact hp
  have hp : ∀ p ∈ cs, _:=List.all_eq_true.mp h
  simp only [Bool.and_eq_true, List.all_eq_true, beq_iff_eq, Bool.or_eq_true] at hp
  refine ⟨fun n hm=>?_, fun n hm C hC=>(hp _ (key n hm C hC)).1.1.2, fun n hm C hC=>(hp _ (key n hm C hC)).1.2, fun n hm d hd C D hC hD=>((hp _ (key n hm C hC)).2 _ (key d hd D hD)).1, fun n hm d hd C D hC hD=>((hp _ (key n hm C hC)).2 _ (key d hd D hD)).2⟩
  obtain ⟨⟨n', C'⟩, hq, rfl⟩:=List.mem_map.mp hm
  exact ⟨C', hn _ hq, fun e=>(hp _ hq).1.1.1.resolve_left (by rw [e]; exact Bool.false_ne_true)⟩
noncomputable def cau (ns : List Str) (n d : Str) : Bool:=decide (n ∈ ns) && YX n d
noncomputable def Res.tryC (m : Res α) (f : α -> Res β) (g : Exc -> Res β) : Res β:=match m with
  | .bad=>.bad
  | .err x=>g x
  | .ok a=>f a
theorem Eo {c : Prop} [Decidable c] {m : Res β} {F : β -> Hp -> Prop} {H : Hp} (P : PZ Er F H (chk c m)) : c /\ PZ Er F H m:=by
  by_cases hc : c
  . rw [XD hc] at P; exact ⟨hc, P⟩
  . unfold chk at P
    rw [if_neg hc] at P
    exact P.elim
section
variable {te : XK -> TE} {m : Res α} {ts : Addr -> Addr -> TS} {N i : Nat} {Ch : Addr} {o : OE ρ} {g : Exc -> Res ρ} {ns : List Str} {d : Str}
theorem EI {x : Exc} {H : Hp} {D D' : Ends} (hD : D'.rt = D.rt) (Y : Ecs ns K mg) (hd : d ∈ ns) (hm : mg d = some (.ref Ch)) (hs : ∀ x, x.cls ∈ ns -> ∀ C a, mg x.cls = some (.ref C) -> Sv Er S OO ((blank N).set i (some (.ref a))) (ts a C) (FTd K o) (g x)) (w : W OO H) (s : S.p (hid H OO))
    (P : PZ Er (FTd K o D) (hid H OO) (chk (cau ns x.cls d = true) (g x))) : ∀ H', Xo H H' -> ∀ C, mg x.cls = some (.ref C) -> PySem.W.exmOne K (.ref C) (.ref Ch) = some true /\ ∀ a C', Value.ref C = .ref C' -> H' a = none -> ts a C' D' ((blank N).set i (some (.ref a))) H':=fun H' s' C hC=>by
  obtain ⟨hc, P2⟩:=Eo P
  unfold cau at hc
  rw [Bool.and_eq_true, decide_eq_true_eq] at hc
  refine ⟨by rw [Y.exm _ hc.1 d hd C Ch hC hm, hc.2], fun a C' hC' _=>hs x hc.1 C' a (hC'.symm ▸ hC) H' D' (w.keep s') (S.mono _ _ (Xj s') s) ?_⟩
  have P3:=PZ.tr (FdOk.tr (Fd:=FTd K o) D) (Xj s') P2
  unfold FTd at P3 ⊢
  rw [hD]
  exact P3
theorem EL {o1 : OE α} [MonoO o1] {f : α -> Res ρ} (Y : Ecs ns K mg) (hd : d ∈ ns) (hm : mg d = some (.ref Ch)) (j k : Nat) (he : ∀ E, Ev K (ErE mg E) S OO OO' σ (te E) o1 m) (hk : k < OO'.length)
    (hr : ∀ a v C, Sv Er (S.addO K o1 v a C) (OO'.set k C) (σ.set j (some v)) u (FTd K o) (f a))
    (hs : ∀ x, x.cls ∈ ns -> ∀ C a, mg x.cls = some (.ref C) -> Sv Er S OO ((blank N).set i (some (.ref a))) (ts a C) (FTd K o) (g x)) :
    Sv Er S OO σ (Jy (LH K N (.ref Ch) i (fun E=>Jy (BJ (te E) (Qv j)) KA) ts) u) (FTd K o) (m.tryC f (fun x=>chk (cau ns x.cls d = true) (g x))):=fun H D w s P=>
  he _ H _ w s (by
    cases m with
    | bad=>exact P
    | err x=>exact EI rfl Y hd hm hs w s P
    | ok a=>
      intro v C H' s' w' m' ho
      obtain ⟨w2, h2⟩:=LA w' hk
      exact hr a v C H' D w2 ⟨S.mono _ _ (m'.trans h2) s, MonoO.mono h2 ho⟩ (PZ.tr (FdOk.tr (Fd:=FTd K o) D) (m'.trans h2) P))
end
noncomputable def vOf : V -> Value
  | .ref a=>.ref a
  | .ty n=>.type n
  | _=>.none
noncomputable def LD (K : PySem.W.Frag) (c : Value) (a : Addr) (xs : List V) (H : Hp) (Q : VK) : Prop:=∃ d b C, c = .ref C /\ erA K C = true /\ xs = [.ref a, d] /\ ((∃ D, d = .ref D) ∨ ∃ n, d = .ty n) /\ PySem.W.kitOne K c (vOf d) = some b /\ Q (.bl b) H
theorem KY {a C D : Addr} {b : Bool} (i : Nat) (hσ : σ[i]? = some (some (.ref a))) (hA : erA K C = true) (hk : PySem.W.kitOne K (.ref C) (.ref D) = some b) : EvB K Er S OO σ (tCB (LD K (.ref C) a) (XA (Kv i) (XA (tC (.ref D)) ZQ))) XH (.ok b):=fun H Q w s P=>
  ⟨_, hσ, _, b, C, rfl, hA, rfl, .inl ⟨D, rfl⟩, hk, P _ H (Xo.refl _) rfl⟩
end
end L2
namespace L2
open PySem PySem.Spec PyProof.Rows PySem.W PySem.Builtin PySem.Builtin.ObjectAttr PySem.Builtin.Getset_descriptor
section
variable {prog : Program} {w : World} {A : Around} {E : Value -> Shared -> Prop} {K : Frag} {x D : Addr} {s : Shared}
theorem CJ {M : Model} {h : Heap} (X : K.In h) (cl : findIn K (.ref D) "__class__" = some (some (.builtin "object.__class__"))) (sg : specialIn K (.builtin "object.__class__") "__get__" = some (some (.builtin "getset_descriptor.__get__"))) (tk : takesIn K (.builtin "object.__class__") = some true) :
    Looks M h (Builtin.ObjectAttr.find (.ref x) (.ref D) "__class__") (.bind (.builtin "getset_descriptor.__get__") (.builtin "object.__class__")):=by
  have L3:=looks_takesIn (M:=M) X tk
  exact (looks_findIn (M:=M) X cl).andThen ((looks_specialIn X sg).andThen ((show Looks M h (Builtin.ObjectAttr.dataDescriptor? (some (.builtin "object.__class__")) (some (.builtin "getset_descriptor.__get__"))) (some (.builtin "getset_descriptor.__get__", .builtin "object.__class__")) from L3.andThen .now).andThen (Looks.tag .now)))
theorem EX {R : Result -> Shared -> Prop} {tp : Value} (X : K.In s.heap) (L0 : Looks (model prog w) s.heap (typeOf (.ref x)) (.ref D)) (hm : mroIn K D (.type "object") = some true)
    (h : R (.ok (.ret (.ref D))) s) : codeAny (model prog w) A (.call (.builtin "getset_descriptor.__get__") ⟨[.builtin "object.__class__", .ref x, tp], []⟩) R s:=by
  obtain ⟨hh, g, dr, t, os⟩:=s
  have L1:=looks_mroIn (M:=model prog w) X hm
  refine codeAny_call_builtin KF.slot_gs.plain KF.entry_gs (KF.slot_gs.check _ _ _ _ _ _ _ _ KF.type_class (KF.args_gs _ _ _) ?_)
  unfold Builtin.«getset_descriptor.__get__» descrGet
  rw [dga_obj]
  refine wpAny_bind (wpAny_pure ?_)
  unfold descrGetter descrCheckInstance descrNameAndClass isInstance
  simp only [KF.owner_class]
  repeat lk
  refine ⟨Code.quiet_builtin _ (by decide +kernel), codeAny_builtin KF.entry_class ?_⟩
  unfold Builtin.«object.__class__» shownTypeOf
  repeat lk
  exact h
theorem Fj {Q : Option Value -> Shared -> Prop} (X : K.In s.heap) (hx : ∃ o, s.heap.get? x = some o /\ o.cls = .ref D) (hA : erA K D = true) (h : Q (some (.ref D)) { s with toks:=s.toks + 1 }) : wpAny (model prog w) A (getAttr? (.ref x) "__class__") Q E s:=by
  obtain ⟨hh, g, d, t, os⟩:=s
  obtain ⟨o, ho, hc⟩:=hx
  unfold erA at hA
  simp only [Bool.and_eq_true, beq_iff_eq] at hA
  obtain ⟨⟨⟨⟨⟨⟨⟨ga, gh⟩, cl⟩, sg⟩, tk⟩, mo⟩, ci⟩, mb⟩:=hA
  have L0 : Looks (model prog w) hh (typeOf (.ref x)) (.ref D):=hc ▸ (Looks.ld ho).andThen .now
  have L1:=looks_findIn (M:=model prog w) X ga
  have L2:=looks_findIn (M:=model prog w) X gh
  have LB:=looks_mroIn (M:=model prog w) X mb
  have LF:=CJ (M:=model prog w) (x:=x) X cl sg tk
  have f3:=PySem.F.attr_ValueError.ga.bind (.ref x)
  have hx2 : (Value.builtin "BaseException.__getattribute__" == Value.builtin "object.__getattribute__") = false:=by decide +kernel
  unfold getAttr? getAttrBy? getAttrBy
  refine wpAny_bind (wpAny_mkText (wpAny_bind (wpAny_attempt (wpAny_holding (wpAny_bind (L0.at (wpAny_bind (L1.at ?_))))))))
  dsimp only
  rw [hx2, Bool.and_false, if_neg Bool.false_ne_true]
  unfold getAttrByItsOwn hookBefore callGetattribute boundAndCalled
  refine wpAny_bind (L2.at ?_)
  refine wpAny_bind (wpAny_attempt (wpAny_holding ?_))
  rw [Bool.false_and, if_neg Bool.false_ne_true, f3]
  refine wpAny_bind (wpAny_pure ?_)
  refine wpAny_call (codeAny_call_builtin PySem.F.attr_ValueError.ga.plain PySem.F.entry_bexc_ga ?_)
  have hk : builtinKind "BaseException.__getattribute__" = some .slot:=by decide +kernel
  have hsplit : splitId "BaseException.__getattribute__" = some ("BaseException", "__getattribute__"):=by decide +kernel
  have ha:=PySem.F.args_bexc_ga (.ref x) (Value.str (Str.ofString "__class__") t)
  simp only [checkBuiltinCall, hk, hsplit]
  unfold isInstance
  refine wpAny_bind (wpAny_bind (L0.at ?_))
  refine LB.at ?_
  rw [if_neg (by decide)]
  have fin : ∀ s1 : Shared, s1 = ⟨hh, g, d, t + 1, os⟩ -> wpAny (model prog w) A.in1 («object.__getattribute__» { pos:=[Value.ref x] ++ [Value.str (Str.ofString "__class__") t] }) (fun fin s'=>match fin with | .done (.ret v)=>v = .ref D /\ s' = s1 | _=>False) (fun _ _=>False) s1:=by
    intro s1 hs1
    subst hs1
    unfold «object.__getattribute__» bindTo
    repeat (any_goals (first | with_reducible refine wpAny_call (EX X L0 mo ?_) | lk))
    exact ⟨rfl, rfl⟩
  unfold argsOk at ha
  have sg2 : ∀ sig, Manifest.signature? "BaseException.__getattribute__" = some sig -> Bind.checkArgs "BaseException.__getattribute__" sig { pos:=[Value.ref x, Value.str (Str.ofString "__class__") t] } = pure ():=fun sig e=>by
    rw [e] at ha
    exact ha
  have ZH : ∀ {P : Unit -> Shared -> Prop} {E' : Value -> Shared -> Prop} {s1 : Shared}, P () s1 -> wpAny (model prog w) A.in1 (match Manifest.signature? "BaseException.__getattribute__" with | some sig=>Bind.checkArgs "BaseException.__getattribute__" sig { pos:=[Value.ref x] ++ [Value.str (Str.ofString "__class__") t] } | _=>pure ()) P E' s1:=fun {P E' s1} p=>by
    split
    . rename_i sig e
      rw [show [Value.ref x] ++ [Value.str (Str.ofString "__class__") t] = [Value.ref x, Value.str (Str.ofString "__class__") t] from rfl, sg2 sig e]
      exact wpAny_pure p
    . exact wpAny_pure p
  refine ZH ?_
  refine wpAny_mono (fin _ rfl) (fun fi s' z=>?_) fun _ _ z=>z.elim
  rcases fi with (_ | _ | _ | v) | _
  all_goals first | exact z.elim | skip
  obtain ⟨rfl, rfl⟩:=z
  exact handed_on rfl (wpAny_pure h)
theorem CG (hA : erA K D = true) : KitX K (.ref x) (.ref D) (fun h=>∃ o, h.get? x = some o /\ o.cls = .ref D) where
  ty:=fun _ _ _ ⟨o, ho, hc⟩=>hc ▸ (Looks.ld ho).andThen .now
  it:=fun _ _ X _=>by
    unfold erA at hA
    simp only [Bool.and_eq_true] at hA
    have z0:=hA.1.2
    unfold clsIn at z0
    split at z0
    . rename_i ho
      intro A' Q' E' s' k q
      unfold isType loadHead
      exact wpAny_bind (wpAny_loadPart (k _ _ (X _ _ ho)) (wpAny_pure q))
    . cases z0
  ne:=fun h tp dd its n sl X htp=>by
    unfold erA at hA
    simp only [Bool.and_eq_true] at hA
    have z0:=hA.1.2
    refine Bool.eq_false_iff.mpr fun q=>?_
    have e : D = tp:=Value.ref.inj (beq_iff_eq.mp q)
    subst e
    unfold clsIn at z0
    split at z0
    . rename_i ho
      cases (X _ _ ho).symm.trans htp
    . cases z0
  ca:=fun X I k=>Fj X I hA k
end
theorem PS.nox {X : Cx} {st : Stmt} {t : TS} (h : PS X.nox st t) : PS X st t:=fun pins s σ H D I hw=>
  wpAny_mono (h pins s σ H D (I.wish _) hw) (fun _ _ q=>q.unwish) fun _ _ z=>False.elim z
theorem Ue {X : Cx} {a C : Addr} {o : Obj} {pn : List (Addr × Obj)} (hpn : X.pn = pn) (hp : (a, o) ∈ pn) (hc : o.cls = .ref C) {K : Frag} (hK : X.K = K) : ZS X (.builtin "isinstance") (LD K (.ref C) a):=by
  subst hpn hK
  intro pins s σ H xs us Q I r ⟨d, b, C', hC', hA, hxs, hd, hk, q⟩
  cases hC'
  subst hxs
  obtain ⟨e, _⟩:=I.pin (a, o) (List.mem_append_left _ hp)
  cases r with
  | cons r1 r2=>
    cases r2 with
    | cons r3 r4=>
      cases r4
      rename_i u1 u2
      obtain rfl : u1 = Value.ref a:=r1
      have e2 : u2 = vOf d:=by
        rcases hd with ⟨D, rfl⟩ | ⟨n, rfl⟩
        . exact r3
        . exact r3
      subst e2
      exact kia_one (CG hA) I.kIn ⟨o, e, hc⟩ hk (fun z=>nomatch z) fun tk=>⟨.bl b, H, I.tok tk, rfl, q⟩
section
variable {K : PySem.W.Frag} {C D : Addr} {b : Bool}
theorem Gr (h1 : PySem.W.findIn K (.ref C) "__getattribute__" = some (some (.builtin "BaseException.__getattribute__"))) (h2 : PySem.W.findIn K (.ref C) "__getattr__" = some none) (h3 : PySem.W.findIn K (.ref C) "__class__" = some (some (.builtin "object.__class__")))
    (h6 : PySem.W.mroIn K C (.type "object") = some true) (h7 : PySem.W.isClsIn K C = true) (h8 : PySem.W.mroIn K C (.type "BaseException") = some true) (h4 : PySem.W.specialIn K (.builtin "object.__class__") "__get__" = some (some (.builtin "getset_descriptor.__get__"))) (h5 : PySem.W.takesIn K (.builtin "object.__class__") = some true) : erA K C = true:=by
  unfold erA
  unfold PySem.W.isClsIn at h7
  rw [h1, h2, h3, h4, h5, h6, h7, h8]
  rfl
theorem VV (h : PySem.W.subIn K (.ref C) (.type "ValueError") = some true) : PySem.W.kitOne K (.ref C) (.type "ValueError") = some true:=by
  have e : PySem.W.kitOne K (.ref C) (.type "ValueError") = PySem.W.subIn K (.ref C) (.type "ValueError"):=rfl
  rw [e, h]
theorem Qb (s : PySem.W.subIn K (.ref C) (.ref C) = some true) (h : PySem.W.subIn K (.ref C) (.ref D) = some b) (h7 : PySem.W.isClsIn K D = true) (ht : PySem.W.typeIn K (.ref D) = some (.type "type")) (hb : PySem.W.subIn K (.ref D) (.type "BaseException") = some true) :
    PySem.W.kitOne K (.ref C) (.ref D) = some b /\ PySem.W.exmOne K (.ref C) (.ref D) = some b:=by
  have e : PySem.W.kitCls K (.ref C) (.ref D) = some b:=by
    unfold PySem.W.kitCls
    unfold PySem.W.isClsIn at h7
    dsimp only
    rw [h7, ht, h]
    rfl
  constructor
  . unfold PySem.W.kitOne
    rw [e]
    split
    . rename_i q
      have q:=eq_of_beq q
      rw [← q, s] at h
      exact h
    . rfl
  . unfold PySem.W.exmOne
    rw [hb, e]
    rfl
end
end L2
namespace L2
open PySem PySem.Spec PyProof.Rows
section
variable {α β : Type} {K : PySem.W.Frag} {Er : Exc -> Hp -> Prop} {S : SC} {OO : List (List XG)} {σ : St} {Fd : Ends -> β -> Hp -> Prop} [fd : FdOk Fd] {u : TS}
end
end L2
namespace L2
open PySem PySem.Spec PyProof.Rows
section
variable {α β γ δ ε : Type}
noncomputable def rEi (r : Enc α) (q : Enc β) : Enc (α ⊕ β):=fun K H v a=>match a with
  | .inl a=>r K H v a
  | .inr b=>q K H v b
noncomputable def oEi (o : OE α) (p : OE β) : OE (α ⊕ β):=fun K H v a C=>match a with
  | .inl a=>o K H v a C
  | .inr b=>p K H v b C
instance {r : Enc α} {q : Enc β} [m : MonoE r] [n : MonoE q] : MonoE (rEi r q):=⟨fun {K H H' v a} s h=>by cases a with
  | inl a=>exact m.mono s h
  | inr a=>exact n.mono s h⟩
instance {r : Enc α} {q : Enc β} [m : FlatE r] [n : FlatE q] : FlatE (rEi r q):=⟨fun {K H H' v a} s h=>by cases a with
  | inl a=>exact m.flat s h
  | inr a=>exact n.flat s h⟩
instance {r : OE α} {q : OE β} [m : MonoO r] [n : MonoO q] : MonoO (oEi r q):=⟨fun {K H H' v a C} s h=>by cases a with
  | inl a=>exact m.mono s h
  | inr a=>exact n.mono s h⟩
instance {r : OE α} {q : OE β} [m : FlatO r] [n : FlatO q] : FlatO (oEi r q):=⟨fun {K H H' v a C} s h=>by cases a with
  | inl a=>exact m.flat s h
  | inr a=>exact n.flat s h⟩
instance {r : OE α} {q : OE β} {t : Enc α} {u : Enc β} [m : FrzC r t] [n : FrzC q u] : FrzC (oEi r q) (rEi t u):=⟨fun {K H H' v a C} h s hc=>by cases a with
  | inl a=>exact m.frz h s hc
  | inr a=>exact n.frz h s hc⟩
inductive Kd where
  | non | bl | int | str | lst | tup
noncomputable def KdV (s : Shared) (v : Value) : Kd -> Prop
  | .non=>v = .none
  | .bl=>∃ b, v = .bool b
  | .int=>∃ i t, v = .int i t
  | .str=>∃ x t, v = .str x t
  | .lst=>∃ l items, v = .ref l /\ s.heap.IsList l items
  | .tup=>∃ l items, v = .ref l /\ s.heap.IsTuple l items
noncomputable def KdX (K : PySem.W.Frag) (H : Hp) (x : V) : Kd -> Prop
  | .non=>x = .non
  | .bl=>∃ b, x = .bl b
  | .int=>∃ i, x = .int i
  | .str=>∃ i, x = .str i
  | .lst=>∃ a xs, x = .ref a /\ SqL K H a xs
  | .tup=>∃ a xs, x = .ref a /\ SqT K H a xs
noncomputable def Kd.dis : Kd -> Kd -> Bool
  | .non, .bl=>true
  | .non, .int=>true
  | .non, .str=>true
  | .non, .lst=>true
  | .non, .tup=>true
  | .bl, .non=>true
  | .bl, .str=>true
  | .bl, .lst=>true
  | .bl, .tup=>true
  | .int, .non=>true
  | .int, .str=>true
  | .int, .lst=>true
  | .int, .tup=>true
  | .str, .non=>true
  | .str, .bl=>true
  | .str, .int=>true
  | .str, .lst=>true
  | .str, .tup=>true
  | .lst, .non=>true
  | .lst, .bl=>true
  | .lst, .int=>true
  | .lst, .str=>true
  | .lst, .tup=>true
  | .tup, .non=>true
  | .tup, .bl=>true
  | .tup, .int=>true
  | .tup, .str=>true
  | .tup, .lst=>true
  | _, _=>false
theorem kdV {X : Cx} {pins : List (Addr × Obj)} {σ : St} {H : Hp} {s : Shared} {x : V} {v : Value} (I : Inv X pins σ H s) (rx : X9 x v) : ∀ {k : Kd}, KdX X.K H x k -> KdV s v k
  | .non, h=>by cases (show x = .non from h); cases rx; rfl
  | .bl, ⟨b, h⟩=>by subst h; cases rx; exact ⟨b, rfl⟩
  | .int, ⟨b, h⟩=>by subst h; obtain ⟨t, rfl⟩:=rx; exact ⟨b, t, rfl⟩
  | .str, ⟨b, h⟩=>by subst h; obtain ⟨t, rfl⟩:=rx; exact ⟨b, t, rfl⟩
  | .lst, ⟨a, xs, h, q⟩=>by
    subst h; cases rx
    obtain ⟨its, r1, l1, _⟩:=I.list q
    exact ⟨a, _, rfl, l1.isList⟩
  | .tup, ⟨a, xs, h, q⟩=>by
    subst h; cases rx
    obtain ⟨its, r1, l1, _⟩:=I.tuple q
    exact ⟨a, _, rfl, l1⟩
theorem Le {X : Cx} {pins : List (Addr × Obj)} {σ : St} {H : Hp} {s : Shared} {x : V} (I : Inv X pins σ H s) : ∀ {j k : Kd}, j.dis k = true -> KdX X.K H x j -> KdX X.K H x k -> False
  | .non, .bl, _, h1, h2=>by
    have e1 : x = .non:=h1
    obtain ⟨b2, e2⟩:=h2
    rw [e1] at e2; cases e2
  | .non, .int, _, h1, h2=>by
    have e1 : x = .non:=h1
    obtain ⟨b2, e2⟩:=h2
    rw [e1] at e2; cases e2
  | .non, .str, _, h1, h2=>by
    have e1 : x = .non:=h1
    obtain ⟨b2, e2⟩:=h2
    rw [e1] at e2; cases e2
  | .non, .lst, _, h1, h2=>by
    have e1 : x = .non:=h1
    obtain ⟨a2, xs2, e2, q2⟩:=h2
    rw [e1] at e2; cases e2
  | .non, .tup, _, h1, h2=>by
    have e1 : x = .non:=h1
    obtain ⟨a2, xs2, e2, q2⟩:=h2
    rw [e1] at e2; cases e2
  | .bl, .non, _, h1, h2=>by
    obtain ⟨b1, e1⟩:=h1
    have e2 : x = .non:=h2
    rw [e1] at e2; cases e2
  | .bl, .str, _, h1, h2=>by
    obtain ⟨b1, e1⟩:=h1
    obtain ⟨b2, e2⟩:=h2
    rw [e1] at e2; cases e2
  | .bl, .lst, _, h1, h2=>by
    obtain ⟨b1, e1⟩:=h1
    obtain ⟨a2, xs2, e2, q2⟩:=h2
    rw [e1] at e2; cases e2
  | .bl, .tup, _, h1, h2=>by
    obtain ⟨b1, e1⟩:=h1
    obtain ⟨a2, xs2, e2, q2⟩:=h2
    rw [e1] at e2; cases e2
  | .int, .non, _, h1, h2=>by
    obtain ⟨b1, e1⟩:=h1
    have e2 : x = .non:=h2
    rw [e1] at e2; cases e2
  | .int, .str, _, h1, h2=>by
    obtain ⟨b1, e1⟩:=h1
    obtain ⟨b2, e2⟩:=h2
    rw [e1] at e2; cases e2
  | .int, .lst, _, h1, h2=>by
    obtain ⟨b1, e1⟩:=h1
    obtain ⟨a2, xs2, e2, q2⟩:=h2
    rw [e1] at e2; cases e2
  | .int, .tup, _, h1, h2=>by
    obtain ⟨b1, e1⟩:=h1
    obtain ⟨a2, xs2, e2, q2⟩:=h2
    rw [e1] at e2; cases e2
  | .str, .non, _, h1, h2=>by
    obtain ⟨b1, e1⟩:=h1
    have e2 : x = .non:=h2
    rw [e1] at e2; cases e2
  | .str, .bl, _, h1, h2=>by
    obtain ⟨b1, e1⟩:=h1
    obtain ⟨b2, e2⟩:=h2
    rw [e1] at e2; cases e2
  | .str, .int, _, h1, h2=>by
    obtain ⟨b1, e1⟩:=h1
    obtain ⟨b2, e2⟩:=h2
    rw [e1] at e2; cases e2
  | .str, .lst, _, h1, h2=>by
    obtain ⟨b1, e1⟩:=h1
    obtain ⟨a2, xs2, e2, q2⟩:=h2
    rw [e1] at e2; cases e2
  | .str, .tup, _, h1, h2=>by
    obtain ⟨b1, e1⟩:=h1
    obtain ⟨a2, xs2, e2, q2⟩:=h2
    rw [e1] at e2; cases e2
  | .lst, .non, _, h1, h2=>by
    obtain ⟨a1, xs1, e1, q1⟩:=h1
    have e2 : x = .non:=h2
    rw [e1] at e2; cases e2
  | .lst, .bl, _, h1, h2=>by
    obtain ⟨a1, xs1, e1, q1⟩:=h1
    obtain ⟨b2, e2⟩:=h2
    rw [e1] at e2; cases e2
  | .lst, .int, _, h1, h2=>by
    obtain ⟨a1, xs1, e1, q1⟩:=h1
    obtain ⟨b2, e2⟩:=h2
    rw [e1] at e2; cases e2
  | .lst, .str, _, h1, h2=>by
    obtain ⟨a1, xs1, e1, q1⟩:=h1
    obtain ⟨b2, e2⟩:=h2
    rw [e1] at e2; cases e2
  | .lst, .tup, _, h1, h2=>by
    obtain ⟨a1, xs1, e1, q1⟩:=h1
    obtain ⟨a2, xs2, e2, q2⟩:=h2
    rw [e1] at e2; cases e2
    obtain ⟨i1, _, l1, _⟩:=I.list q1
    obtain ⟨i2, _, l2, _⟩:=I.tuple q2
    exact SeqAt.ne_of_list_tuple l1.isList l2 rfl
  | .tup, .non, _, h1, h2=>by
    obtain ⟨a1, xs1, e1, q1⟩:=h1
    have e2 : x = .non:=h2
    rw [e1] at e2; cases e2
  | .tup, .bl, _, h1, h2=>by
    obtain ⟨a1, xs1, e1, q1⟩:=h1
    obtain ⟨b2, e2⟩:=h2
    rw [e1] at e2; cases e2
  | .tup, .int, _, h1, h2=>by
    obtain ⟨a1, xs1, e1, q1⟩:=h1
    obtain ⟨b2, e2⟩:=h2
    rw [e1] at e2; cases e2
  | .tup, .str, _, h1, h2=>by
    obtain ⟨a1, xs1, e1, q1⟩:=h1
    obtain ⟨b2, e2⟩:=h2
    rw [e1] at e2; cases e2
  | .tup, .lst, _, h1, h2=>by
    obtain ⟨a1, xs1, e1, q1⟩:=h1
    obtain ⟨a2, xs2, e2, q2⟩:=h2
    rw [e1] at e2; cases e2
    obtain ⟨i1, _, l1, _⟩:=I.list q2
    obtain ⟨i2, _, l2, _⟩:=I.tuple q1
    exact SeqAt.ne_of_list_tuple l1.isList l2 rfl
  | .non, .non, h, _, _=>absurd h Bool.false_ne_true
  | .bl, .bl, h, _, _=>absurd h Bool.false_ne_true
  | .bl, .int, h, _, _=>absurd h Bool.false_ne_true
  | .int, .bl, h, _, _=>absurd h Bool.false_ne_true
  | .int, .int, h, _, _=>absurd h Bool.false_ne_true
  | .str, .str, h, _, _=>absurd h Bool.false_ne_true
  | .lst, .lst, h, _, _=>absurd h Bool.false_ne_true
  | .tup, .tup, h, _, _=>absurd h Bool.false_ne_true
theorem HV {s : Shared} {A : Around} {v u : Value} (hu : A.units < cLine) : ∀ {j k : Kd}, j.dis k = true -> KdV s v j -> KdV s u k -> SeqAt.EqAt A s v u false /\ SeqAt.RcAt A s v u false /\ SeqAt.RcNeAt A s v u true
  | .non, .non, h, _, _=>absurd h Bool.false_ne_true
  | .non, .bl, _, h1, h2=>by
    cases (show _ = Value.none from h1)
    obtain ⟨b2, rfl⟩:=h2
    exact ⟨SeqAt.EqAt.none_bool b2, SeqAt.RcAt.none_bool b2, SeqAt.RcNeAt.none_bool b2⟩
  | .non, .int, _, h1, h2=>by
    cases (show _ = Value.none from h1)
    obtain ⟨i2, t2, rfl⟩:=h2
    exact ⟨SeqAt.EqAt.none_int i2 t2, SeqAt.RcAt.none_int i2 t2, SeqAt.RcNeAt.none_int i2 t2⟩
  | .non, .str, _, h1, h2=>by
    cases (show _ = Value.none from h1)
    obtain ⟨i2, t2, rfl⟩:=h2
    exact ⟨SeqAt.EqAt.none_str i2 t2, SeqAt.RcAt.none_str i2 t2, SeqAt.RcNeAt.none_str i2 t2⟩
  | .non, .lst, _, h1, h2=>by
    cases (show _ = Value.none from h1)
    obtain ⟨l2, is2, rfl, q2⟩:=h2
    exact ⟨SeqAt.EqAt.none_list q2 hu, SeqAt.RcAt.none_list q2 hu, SeqAt.RcNeAt.none_list q2 hu⟩
  | .non, .tup, _, h1, h2=>by
    cases (show _ = Value.none from h1)
    obtain ⟨l2, is2, rfl, q2⟩:=h2
    exact ⟨SeqAt.EqAt.none_tuple q2 hu, SeqAt.RcAt.none_tuple q2 hu, SeqAt.RcNeAt.none_tuple q2 hu⟩
  | .bl, .non, _, h1, h2=>by
    obtain ⟨b1, rfl⟩:=h1
    cases (show _ = Value.none from h2)
    exact ⟨SeqAt.EqAt.bool_none b1, SeqAt.RcAt.bool_none b1, SeqAt.RcNeAt.bool_none b1⟩
  | .bl, .bl, h, _, _=>absurd h Bool.false_ne_true
  | .bl, .int, h, _, _=>absurd h Bool.false_ne_true
  | .bl, .str, _, h1, h2=>by
    obtain ⟨b1, rfl⟩:=h1
    obtain ⟨i2, t2, rfl⟩:=h2
    exact ⟨SeqAt.EqAt.bool_str b1 i2 t2, SeqAt.RcAt.bool_str b1 i2 t2, SeqAt.RcNeAt.bool_str b1 i2 t2⟩
  | .bl, .lst, _, h1, h2=>by
    obtain ⟨b1, rfl⟩:=h1
    obtain ⟨l2, is2, rfl, q2⟩:=h2
    exact ⟨SeqAt.EqAt.bool_list b1 q2 hu, SeqAt.RcAt.bool_list b1 q2 hu, SeqAt.RcNeAt.bool_list b1 q2 hu⟩
  | .bl, .tup, _, h1, h2=>by
    obtain ⟨b1, rfl⟩:=h1
    obtain ⟨l2, is2, rfl, q2⟩:=h2
    exact ⟨SeqAt.EqAt.bool_tuple b1 q2 hu, SeqAt.RcAt.bool_tuple b1 q2 hu, SeqAt.RcNeAt.bool_tuple b1 q2 hu⟩
  | .int, .non, _, h1, h2=>by
    obtain ⟨i1, t1, rfl⟩:=h1
    cases (show _ = Value.none from h2)
    exact ⟨SeqAt.EqAt.int_none i1 t1, SeqAt.RcAt.int_none i1 t1, SeqAt.RcNeAt.int_none i1 t1⟩
  | .int, .bl, h, _, _=>absurd h Bool.false_ne_true
  | .int, .int, h, _, _=>absurd h Bool.false_ne_true
  | .int, .str, _, h1, h2=>by
    obtain ⟨i1, t1, rfl⟩:=h1
    obtain ⟨i2, t2, rfl⟩:=h2
    exact ⟨SeqAt.EqAt.int_str i1 t1 i2 t2, SeqAt.RcAt.int_str i1 t1 i2 t2, SeqAt.RcNeAt.int_str i1 t1 i2 t2⟩
  | .int, .lst, _, h1, h2=>by
    obtain ⟨i1, t1, rfl⟩:=h1
    obtain ⟨l2, is2, rfl, q2⟩:=h2
    exact ⟨SeqAt.EqAt.int_list i1 t1 q2 hu, SeqAt.RcAt.int_list i1 t1 q2 hu, SeqAt.RcNeAt.int_list i1 t1 q2 hu⟩
  | .int, .tup, _, h1, h2=>by
    obtain ⟨i1, t1, rfl⟩:=h1
    obtain ⟨l2, is2, rfl, q2⟩:=h2
    exact ⟨SeqAt.EqAt.int_tuple i1 t1 q2 hu, SeqAt.RcAt.int_tuple i1 t1 q2 hu, SeqAt.RcNeAt.int_tuple i1 t1 q2 hu⟩
  | .str, .non, _, h1, h2=>by
    obtain ⟨i1, t1, rfl⟩:=h1
    cases (show _ = Value.none from h2)
    exact ⟨SeqAt.EqAt.str_none i1 t1, SeqAt.RcAt.str_none i1 t1, SeqAt.RcNeAt.str_none i1 t1⟩
  | .str, .bl, _, h1, h2=>by
    obtain ⟨i1, t1, rfl⟩:=h1
    obtain ⟨b2, rfl⟩:=h2
    exact ⟨SeqAt.EqAt.str_bool i1 t1 b2, SeqAt.RcAt.str_bool i1 t1 b2, SeqAt.RcNeAt.str_bool i1 t1 b2⟩
  | .str, .int, _, h1, h2=>by
    obtain ⟨i1, t1, rfl⟩:=h1
    obtain ⟨i2, t2, rfl⟩:=h2
    exact ⟨SeqAt.EqAt.str_int i1 t1 i2 t2, SeqAt.RcAt.str_int i1 t1 i2 t2, SeqAt.RcNeAt.str_int i1 t1 i2 t2⟩
  | .str, .str, h, _, _=>absurd h Bool.false_ne_true
  | .str, .lst, _, h1, h2=>by
    obtain ⟨i1, t1, rfl⟩:=h1
    obtain ⟨l2, is2, rfl, q2⟩:=h2
    exact ⟨SeqAt.EqAt.str_list i1 t1 q2 hu, SeqAt.RcAt.str_list i1 t1 q2 hu, SeqAt.RcNeAt.str_list i1 t1 q2 hu⟩
  | .str, .tup, _, h1, h2=>by
    obtain ⟨i1, t1, rfl⟩:=h1
    obtain ⟨l2, is2, rfl, q2⟩:=h2
    exact ⟨SeqAt.EqAt.str_tuple i1 t1 q2 hu, SeqAt.RcAt.str_tuple i1 t1 q2 hu, SeqAt.RcNeAt.str_tuple i1 t1 q2 hu⟩
  | .lst, .non, _, h1, h2=>by
    obtain ⟨l1, is1, rfl, q1⟩:=h1
    cases (show _ = Value.none from h2)
    exact ⟨SeqAt.EqAt.list_none q1 hu, SeqAt.RcAt.list_none q1 hu, SeqAt.RcNeAt.list_none q1 hu⟩
  | .lst, .bl, _, h1, h2=>by
    obtain ⟨l1, is1, rfl, q1⟩:=h1
    obtain ⟨b2, rfl⟩:=h2
    exact ⟨SeqAt.EqAt.list_bool b2 q1 hu, SeqAt.RcAt.list_bool b2 q1 hu, SeqAt.RcNeAt.list_bool b2 q1 hu⟩
  | .lst, .int, _, h1, h2=>by
    obtain ⟨l1, is1, rfl, q1⟩:=h1
    obtain ⟨i2, t2, rfl⟩:=h2
    exact ⟨SeqAt.EqAt.list_int i2 t2 q1 hu, SeqAt.RcAt.list_int i2 t2 q1 hu, SeqAt.RcNeAt.list_int i2 t2 q1 hu⟩
  | .lst, .str, _, h1, h2=>by
    obtain ⟨l1, is1, rfl, q1⟩:=h1
    obtain ⟨i2, t2, rfl⟩:=h2
    exact ⟨SeqAt.EqAt.list_str i2 t2 q1 hu, SeqAt.RcAt.list_str i2 t2 q1 hu, SeqAt.RcNeAt.list_str i2 t2 q1 hu⟩
  | .lst, .lst, h, _, _=>absurd h Bool.false_ne_true
  | .lst, .tup, _, h1, h2=>by
    obtain ⟨l1, is1, rfl, q1⟩:=h1
    obtain ⟨l2, is2, rfl, q2⟩:=h2
    exact ⟨SeqAt.EqAt.of_refs (SeqAt.ne_of_list_tuple q1 q2) (SeqAt.RcAt.list_tuple q1 q2 hu), SeqAt.RcAt.list_tuple q1 q2 hu, SeqAt.RcNeAt.list_tuple q1 q2 hu⟩
  | .tup, .non, _, h1, h2=>by
    obtain ⟨l1, is1, rfl, q1⟩:=h1
    cases (show _ = Value.none from h2)
    exact ⟨SeqAt.EqAt.tuple_none q1 hu, SeqAt.RcAt.tuple_none q1 hu, SeqAt.RcNeAt.tuple_none q1 hu⟩
  | .tup, .bl, _, h1, h2=>by
    obtain ⟨l1, is1, rfl, q1⟩:=h1
    obtain ⟨b2, rfl⟩:=h2
    exact ⟨SeqAt.EqAt.tuple_bool b2 q1 hu, SeqAt.RcAt.tuple_bool b2 q1 hu, SeqAt.RcNeAt.tuple_bool b2 q1 hu⟩
  | .tup, .int, _, h1, h2=>by
    obtain ⟨l1, is1, rfl, q1⟩:=h1
    obtain ⟨i2, t2, rfl⟩:=h2
    exact ⟨SeqAt.EqAt.tuple_int i2 t2 q1 hu, SeqAt.RcAt.tuple_int i2 t2 q1 hu, SeqAt.RcNeAt.tuple_int i2 t2 q1 hu⟩
  | .tup, .str, _, h1, h2=>by
    obtain ⟨l1, is1, rfl, q1⟩:=h1
    obtain ⟨i2, t2, rfl⟩:=h2
    exact ⟨SeqAt.EqAt.tuple_str i2 t2 q1 hu, SeqAt.RcAt.tuple_str i2 t2 q1 hu, SeqAt.RcNeAt.tuple_str i2 t2 q1 hu⟩
  | .tup, .lst, _, h1, h2=>by
    obtain ⟨l1, is1, rfl, q1⟩:=h1
    obtain ⟨l2, is2, rfl, q2⟩:=h2
    exact ⟨SeqAt.EqAt.of_refs (fun e=>SeqAt.ne_of_list_tuple q2 q1 e.symm) (SeqAt.RcAt.tuple_list q1 q2 hu), SeqAt.RcAt.tuple_list q1 q2 hu, SeqAt.RcNeAt.tuple_list q1 q2 hu⟩
  | .tup, .tup, h, _, _=>absurd h Bool.false_ne_true
class KdE (r : Enc α) (k : outParam Kd) : Prop where
  to : ∀ {K : PySem.W.Frag} {H : Hp} {x : V} {a : α}, r K H x a -> KdX K H x k
instance : KdE Xc .int:=⟨fun h=>⟨_, h⟩⟩
instance : KdE XH .bl:=⟨fun h=>⟨_, h⟩⟩
instance : KdE Ug .str:=⟨fun h=>⟨_, h⟩⟩
instance {r : Enc α} : KdE (rV r) .lst:=⟨fun ⟨a, xs, e, q, _⟩=>⟨a, xs, e, SqL.of q⟩⟩
instance {r : Enc α} : KdE (rPL r) .tup:=⟨fun ⟨a, xs, e, q, _⟩=>⟨a, xs, e, SqT.of q⟩⟩
instance {r : Enc α} {q : Enc β} : KdE (rP2 r q) .tup:=⟨fun ⟨a, x, y, e, q, _⟩=>⟨a, _, e, SqT.of q⟩⟩
instance {r : Enc α} {q : Enc β} {t : Enc γ} : KdE (rP3 r q t) .tup:=⟨fun ⟨a, x, y, z, e, q, _⟩=>⟨a, _, e, SqT.of q⟩⟩
structure Crs (r : Enc α) (q : Enc β) (d : Nat) : Prop where
  no : ∀ {X : Cx} {pins : List (Addr × Obj)} {σ : St} {H : Hp} {s : Shared} {x : V} {a : α} {b : β}, Inv X pins σ H s -> r X.K H x a -> q X.K H x b -> False
  lr : ∀ {X : Cx} {pins : List (Addr × Obj)} {σ : St} {H : Hp} {s : Shared} {x y : V} {v u : Value} {a : α} {b : β} {A : Around}, Inv X pins σ H s -> X9 x v -> X9 y u -> r X.K H x a -> q X.K H y b -> A.units + d < cLine -> SeqAt.EqAt A s v u false /\ SeqAt.RcAt A s v u false /\ SeqAt.RcNeAt A s v u true
  rl : ∀ {X : Cx} {pins : List (Addr × Obj)} {σ : St} {H : Hp} {s : Shared} {x y : V} {v u : Value} {a : α} {b : β} {A : Around}, Inv X pins σ H s -> X9 x v -> X9 y u -> q X.K H x b -> r X.K H y a -> A.units + d < cLine -> SeqAt.EqAt A s v u false /\ SeqAt.RcAt A s v u false /\ SeqAt.RcNeAt A s v u true
theorem Crs.up {r : Enc α} {q : Enc β} {d e : Nat} (c : Crs r q d) (h : d <= e) : Crs r q e:=⟨c.no, fun I rx ry h1 h2 hu=>c.lr I rx ry h1 h2 (by omega), fun I rx ry h1 h2 hu=>c.rl I rx ry h1 h2 (by omega)⟩
theorem BO {r : Enc α} {q : Enc β} {j k : Kd} [m : KdE r j] [n : KdE q k] (h : j.dis k = true) (h' : k.dis j = true) : Crs r q 0:=
  ⟨fun I h1 h2=>Le I h (m.to h1) (n.to h2), fun I rx ry h1 h2 hu=>HV (by omega) h (kdV I rx (m.to h1)) (kdV I ry (n.to h2)), fun I rx ry h1 h2 hu=>HV (by omega) h' (kdV I rx (n.to h1)) (kdV I ry (m.to h2))⟩
theorem B2 [DecidableEq α] [DecidableEq β] {r : Enc α} {q : Enc β} {d : Nat} [m : MonoE r] [n : MonoE q] (E : EqOk r d) (F : EqOk q d) (c : Crs r q d) : EqOk (rEi r q) d where
  uniq:=fun {X pins σ H s x a b} I h1 h2=>by
    cases a with
    | inl a=>cases b with
      | inl b=>rw [E.uniq I h1 h2]
      | inr b=>exact (c.no I h1 h2).elim
    | inr a=>cases b with
      | inl b=>exact (c.no I h2 h1).elim
      | inr b=>rw [F.uniq I h1 h2]
  eq:=fun {X pins σ H s x y v u a b A} I rx ry h1 h2 hu=>by
    cases a with
    | inl a=>cases b with
      | inl b=>have:=E.eq I rx ry h1 h2 hu; simpa using this
      | inr b=>have:=(c.lr I rx ry h1 h2 hu).1; simpa using this
    | inr a=>cases b with
      | inl b=>have:=(c.rl I rx ry h1 h2 hu).1; simpa using this
      | inr b=>have:=F.eq I rx ry h1 h2 hu; simpa using this
  rc:=fun {X pins σ H s x y v u a b A} I rx ry h1 h2 hu=>by
    cases a with
    | inl a=>cases b with
      | inl b=>have:=E.rc I rx ry h1 h2 hu; simpa using this
      | inr b=>have:=(c.lr I rx ry h1 h2 hu).2.1; simpa using this
    | inr a=>cases b with
      | inl b=>have:=(c.rl I rx ry h1 h2 hu).2.1; simpa using this
      | inr b=>have:=F.rc I rx ry h1 h2 hu; simpa using this
  ne:=fun {X pins σ H s x y v u a b A} I rx ry h1 h2 hu=>by
    cases a with
    | inl a=>cases b with
      | inl b=>have:=E.ne I rx ry h1 h2 hu; simpa using this
      | inr b=>have:=(c.lr I rx ry h1 h2 hu).2.2; simpa using this
    | inr a=>cases b with
      | inl b=>have:=(c.rl I rx ry h1 h2 hu).2.2; simpa using this
      | inr b=>have:=F.ne I rx ry h1 h2 hu; simpa using this
  keep:=fun s q=>MonoE.mono s q
theorem Hf {a b : Str} : (a == b) = decide (a = b):=by rw [Bool.eq_iff_iff]; simp
theorem G6 : EqOk Ug 0 where
  uniq:=fun _ h1 h2=>by
    have h1' : _ = V.str _:=h1
    have h2' : _ = V.str _:=h2
    rw [h1'] at h2'; injection h2'
  eq:=fun {X pins σ H s x y v u a b A} I rx ry h1 h2 _=>by
    have h1' : x = V.str a:=h1
    have h2' : y = V.str b:=h2
    subst h1' h2'
    obtain ⟨t, rfl⟩:=rx
    obtain ⟨t', rfl⟩:=ry
    rw [← Hf]; exact SeqAt.EqAt.str_str a t b t'
  rc:=fun {X pins σ H s x y v u a b A} I rx ry h1 h2 _=>by
    have h1' : x = V.str a:=h1
    have h2' : y = V.str b:=h2
    subst h1' h2'
    obtain ⟨t, rfl⟩:=rx
    obtain ⟨t', rfl⟩:=ry
    rw [← Hf]; exact SeqAt.RcAt.str_str a t b t'
  ne:=fun {X pins σ H s x y v u a b A} I rx ry h1 h2 _=>by
    have h1' : x = V.str a:=h1
    have h2' : y = V.str b:=h2
    subst h1' h2'
    obtain ⟨t, rfl⟩:=rx
    obtain ⟨t', rfl⟩:=ry
    rw [← Hf]; exact SeqAt.RcNeAt.str_str a t b t'
  keep:=fun _ h=>h
theorem E9 {a b : Bool} : (a == b) = decide (a = b):=by rw [Bool.eq_iff_iff]; simp
theorem Ij : EqOk XH 0 where
  uniq:=fun _ h1 h2=>by
    have h1' : _ = V.bl _:=h1
    have h2' : _ = V.bl _:=h2
    rw [h1'] at h2'; injection h2'
  eq:=fun {X pins σ H s x y v u a b A} I rx ry h1 h2 _=>by
    have h1' : x = V.bl a:=h1
    have h2' : y = V.bl b:=h2
    subst h1' h2'
    cases rx; cases ry
    rw [← E9]; exact SeqAt.EqAt.bool_bool a b
  rc:=fun {X pins σ H s x y v u a b A} I rx ry h1 h2 _=>by
    have h1' : x = V.bl a:=h1
    have h2' : y = V.bl b:=h2
    subst h1' h2'
    cases rx; cases ry
    rw [← E9]; exact SeqAt.RcAt.bool_bool a b
  ne:=fun {X pins σ H s x y v u a b A} I rx ry h1 h2 _=>by
    have h1' : x = V.bl a:=h1
    have h2' : y = V.bl b:=h2
    subst h1' h2'
    cases rx; cases ry
    rw [← E9]; exact SeqAt.RcNeAt.bool_bool a b
  keep:=fun _ h=>h
theorem B0 [DecidableEq α] {r : Enc α} {r1 : Enc β} {q1 : Enc δ} {d : Nat} (E : EqOk r d) (c : Crs r1 q1 d) : Crs (rP2 r r1) (rP2 r q1) (d + 1):=by
  refine ⟨fun I ⟨a, x, y, e, q, _, h⟩ ⟨b, x', y', e', q', _, h'⟩=>?_, ?_, ?_⟩
  . rw [e] at e'; cases e'
    cases I.tuple_inj (SqT.of q) (SqT.of q')
    exact c.no I h h'
  . rintro X pins σ H s x y v u ⟨a1, a2⟩ ⟨b1, b2⟩ A I rx ry ⟨a, x1, x2, rfl, q, p1, p2⟩ ⟨b, y1, y2, rfl, q', p4, p5⟩ hu
    cases rx; cases ry
    have hne : a ≠ b:=fun e=>by
      subst e
      cases I.tuple_inj (SqT.of q) (SqT.of q')
      exact c.no I p2 p5
    obtain ⟨i1, z1, l1, _⟩:=I.tuple (SqT.of q)
    obtain ⟨i2, z2, l2, _⟩:=I.tuple (SqT.of q')
    obtain ⟨u1, u2, rfl, e1, e2⟩:=XX.two z1
    obtain ⟨w1, w2, rfl, g1, g2⟩:=XX.two z2
    have it : ∀ j (h1 : j < [u1, u2].toArray.size) (h2 : j < [w1, w2].toArray.size), SeqAt.EqAt A.in1 s [u1, u2].toArray[j] [w1, w2].toArray[j] ((fun j=>if j = 0 then decide (a1 = b1) else false) j):=by
      intro j h1 h2
      have hj : j = 0 ∨ j = 1:=by
        have h1' : j < 2:=h2
        omega
      rcases hj with rfl | rfl
      . exact E.eq (A:=A.in1) I e1 g1 p1 p4 (by rw [Y9]; omega)
      . exact (c.lr (A:=A.in1) I e2 g2 p2 p5 (by rw [Y9]; omega)).1
    have R:=SeqAt.RcAt.tuples (A:=A) l1 l2 (by omega) it
    have N:=SeqAt.RcNeAt.tuples (A:=A) l1 l2 (by omega) it
    have R' : SeqAt.RcAt A s (.ref a) (.ref b) false:=by simpa [List.range_succ] using R
    exact ⟨SeqAt.EqAt.of_refs hne R', R', by simpa [List.range_succ] using N⟩
  . rintro X pins σ H s x y v u ⟨a1, a2⟩ ⟨b1, b2⟩ A I rx ry ⟨b, y1, y2, rfl, q', p4, p5⟩ ⟨a, x1, x2, rfl, q, p1, p2⟩ hu
    cases rx; cases ry
    have hne : b ≠ a:=fun e=>by
      subst e
      cases I.tuple_inj (SqT.of q) (SqT.of q')
      exact c.no I p2 p5
    obtain ⟨i1, z1, l1, _⟩:=I.tuple (SqT.of q)
    obtain ⟨i2, z2, l2, _⟩:=I.tuple (SqT.of q')
    obtain ⟨u1, u2, rfl, e1, e2⟩:=XX.two z1
    obtain ⟨w1, w2, rfl, g1, g2⟩:=XX.two z2
    have it : ∀ j (h1 : j < [w1, w2].toArray.size) (h2 : j < [u1, u2].toArray.size), SeqAt.EqAt A.in1 s [w1, w2].toArray[j] [u1, u2].toArray[j] ((fun j=>if j = 0 then decide (b1 = a1) else false) j):=by
      intro j h1 h2
      have hj : j = 0 ∨ j = 1:=by
        have h1' : j < 2:=h1
        omega
      rcases hj with rfl | rfl
      . exact E.eq (A:=A.in1) I g1 e1 p4 p1 (by rw [Y9]; omega)
      . exact (c.rl (A:=A.in1) I g2 e2 p5 p2 (by rw [Y9]; omega)).1
    have R:=SeqAt.RcAt.tuples (A:=A) l2 l1 (by omega) it
    have N:=SeqAt.RcNeAt.tuples (A:=A) l2 l1 (by omega) it
    have R' : SeqAt.RcAt A s (.ref b) (.ref a) false:=by simpa [List.range_succ] using R
    exact ⟨SeqAt.EqAt.of_refs hne R', R', by simpa [List.range_succ] using N⟩
end
end L2
namespace L2
open PySem PySem.Spec PyProof.Rows
section
variable {K : PySem.W.Frag} {Er : Exc -> Hp -> Prop} {S : SC} {OO OO' OO1 OO2 : List (List XG)} {σ : St} {α β γ ρ ι δ ε ζ : Type}
variable {Fd : Ends -> β -> Hp -> Prop} [fd : FdOk Fd] {u : TS}
theorem HD {te : TE} {o : OE α} {p : OE γ} {m : Res α} (he : Ev K Er S OO OO' σ te o m) : Ev K Er S OO OO' σ te (oEi o p) (m.bind fun a=>.ok (.inl a)):=fun H Q w s P=>by
  refine he H Q w s ?_
  cases m with
  | bad=>exact P
  | err x=>exact P
  | ok a=>exact fun v C H' s' w' m' ho=>P v C H' s' w' m' ho
theorem Ig {te : TE} {o : OE α} {p : OE γ} {m : Res γ} (he : Ev K Er S OO OO' σ te p m) : Ev K Er S OO OO' σ te (oEi o p) (m.bind fun a=>.ok (.inr a)):=fun H Q w s P=>by
  refine he H Q w s ?_
  cases m with
  | bad=>exact P
  | err x=>exact P
  | ok a=>exact fun v C H' s' w' m' ho=>P v C H' s' w' m' ho
theorem EA {te : TE} {o : Enc α} {p : Enc γ} {m : Res α} (he : EvB K Er S OO σ te o m) : EvB K Er S OO σ te (rEi o p) (m.bind fun a=>.ok (.inl a)):=fun H Q w s P=>by
  refine he H Q w s ?_
  cases m with
  | bad=>exact P
  | err x=>exact P
  | ok a=>exact fun v H' s' ho=>P v H' s' ho
theorem E5 {te : TE} {o : Enc α} {p : Enc γ} {m : Res γ} (he : EvB K Er S OO σ te p m) : EvB K Er S OO σ te (rEi o p) (m.bind fun a=>.ok (.inr a)):=fun H Q w s P=>by
  refine he H Q w s ?_
  cases m with
  | bad=>exact P
  | err x=>exact P
  | ok a=>exact fun v H' s' ho=>P v H' s' ho
noncomputable def getL : α ⊕ γ -> Res α
  | .inl a=>.ok a
  | .inr _=>.bad
noncomputable def getR : α ⊕ γ -> Res γ
  | .inl _=>.bad
  | .inr b=>.ok b
theorem Eh {o : OE α} {p : OE γ} [MonoO p] {f : γ -> Res β} {v : V} {a : α ⊕ γ} {C : List XG} (h : ∀ x, S.p x -> oEi o p K x v a C) (hr : ∀ b, Sv Er (S.addO K p v b C) OO σ u Fd (f b)) : Sv Er S OO σ u Fd ((getR a).bind f):=fun H D w s P=>by
  cases a with
  | inl a=>exact P.elim
  | inr b=>exact hr b H D w ⟨s, h _ s⟩ P
noncomputable def IX : Enc V:=fun _ H v y=>∃ a x, v = .ref a /\ H a = some (.tup [x, y])
instance : FlatE IX:=⟨fun s h9=>(by obtain ⟨a, x, e, h⟩:=h9; exact ⟨a, x, e, s _ _ h rfl⟩)⟩
theorem HZ {r1 : Enc α} {q : OE γ} [MonoO q] {v : V} {m : Res β} {b : α × γ} {C : List XG} (h : ∀ x, S.p x -> oT2 (oF r1) q K x v b C) (hr : ∀ y, Sv Er ((S.add K IX v y).addO K q y b.2 C) OO σ u Fd m) : Sv Er S OO σ u Fd m:=fun H D w s P=>by
  obtain ⟨p, x, y, C1, C2, e, hp, h1, h2, c⟩:=h _ s
  have e1 : C1 = []:=h1.1
  subst e1 c
  exact hr y H D w ⟨⟨s, ⟨p, x, e, hp⟩⟩, h2⟩ P
theorem HM {v y : V} (i : Nat) (hσ : σ[i]? = some (some v)) (h : ∀ x, S.p x -> IX K x v y) : ∀ (H : Hp) (Q : VK), W OO H -> S.p (hid H OO) -> Q y H -> (tOp (Ll K) (Kv i) (tC (.int 1))) σ H Q:=fun H Q w s q=>by
  obtain ⟨a, x, e, hp⟩:=h _ s
  exact ⟨v, hσ, a, _, 1, y, e, rfl, SqT.of (Xv _ _ hp), rfl, q⟩
end
end L2
namespace L2
theorem KN {α : Type} {us : List α} (h : us.length = 1) : ∃ a, us = [a]:=List.length_eq_one_iff.mp h
theorem QO {α : Type} {us : List α} (h : us.length = 2) : ∃ a0 a1, us = [a0, a1]:=by
  cases us with
  | nil=>cases h
  | cons a0 t=>
    obtain ⟨a1, rfl⟩:=KN (Nat.succ.inj h)
    exact ⟨a0, a1, rfl⟩
theorem Ft {α : Type} {us : List α} (h : us.length = 3) : ∃ a0 a1 a2, us = [a0, a1, a2]:=by
  cases us with
  | nil=>cases h
  | cons a0 t=>
    obtain ⟨a1, a2, rfl⟩:=QO (Nat.succ.inj h)
    exact ⟨a0, a1, a2, rfl⟩
theorem Lm {α : Type} {us : List α} (h : us.length = 4) : ∃ a0 a1 a2 a3, us = [a0, a1, a2, a3]:=by
  cases us with
  | nil=>cases h
  | cons a0 t=>
    obtain ⟨a1, a2, a3, rfl⟩:=Ft (Nat.succ.inj h)
    exact ⟨a0, a1, a2, a3, rfl⟩
theorem Lj {α : Type} {us : List α} (h : us.length = 5) : ∃ a0 a1 a2 a3 a4, us = [a0, a1, a2, a3, a4]:=by
  cases us with
  | nil=>cases h
  | cons a0 t=>
    obtain ⟨a1, a2, a3, a4, rfl⟩:=Lm (Nat.succ.inj h)
    exact ⟨a0, a1, a2, a3, a4, rfl⟩
end L2
namespace L2
open PySem PySem.Spec PyProof.Rows
section
variable {prog : Program} {w : World} {A : Around} {E : Value -> Shared -> Prop}
end
section
variable {X : Cx} {pos : Pos}
end
section
variable {K : PySem.W.Frag} {Er : Exc -> Hp -> Prop} {S : SC} {OO OO' OO1 OO2 : List (List XG)} {σ : St} {α β γ ρ ι δ ε ζ : Type}
variable {Fd : Ends -> β -> Hp -> Prop} [fd : FdOk Fd] {u : TS}
theorem E7 {r : Enc α} : Ev K Er S OO OO σ (tC .non) (oF (Gh r)) (.ok none):=fun H Q w s P=>P _ [] H (Xo.refl _) w.nil (by rw [YH]; exact Xo.refl _) ⟨rfl, rfl⟩
theorem By {te : TE} {r : Enc α} {m : Res α} (hn : ∀ {K h v a C}, oF r K h v a C -> v ≠ .non) (he : Ev K Er S OO OO' σ te (oF r) m) : Ev K Er S OO OO' σ te (oF (Gh r)) (m.bind fun a=>.ok (some a)):=fun H Q w s P=>by
  refine he H Q w s ?_
  cases m with
  | bad=>exact P
  | err x=>exact P
  | ok a=>exact fun v C H' s' w' m' ho=>P v C H' s' w' m' ⟨ho.1, hn ho, ho.2⟩
end
end L2
namespace L2
open PySem PySem.Spec PyProof.Rows
section
variable {X : Cx}
end
section
variable {K : PySem.W.Frag} {Er : Exc -> Hp -> Prop} {S : SC} {OO OO' OO1 OO2 : List (List XG)} {σ : St} {α β γ ρ ι δ ε ζ : Type}
variable {Fd : Ends -> β -> Hp -> Prop} [fd : FdOk Fd] {u : TS}
end
end L2
namespace L2
open PySem PySem.Spec PyProof.Rows
set_option maxRecDepth 100000
section
variable {prog : Program} {w : World} {A : Around} {E : Value -> Shared -> Prop} {s : Shared}
theorem Kk : typeLookup (.type "list") "keys" = pure none:=by rw [typeLookup_type, builtinLookup_eq_fast]; kernel_rfl
theorem Bj {a : Addr} {o : Obj} {xs : Array Value} {k : Nat} {R : Option Value -> Shared -> Prop} (hx : s.heap.get? a = some o) (hc : o.cls = .type "list") (hdat : o.data = .seq xs k) (hd : o.dict = none) (hA : A.handled = none)
    (h : ∀ g tk, (∀ b u, s.heap.get? b = some u -> g.get? b = some u) -> R none { s with heap:=g, toks:=tk }) : wpAny (model prog w) A (getAttr? (.ref a) "keys") R E s:=by
  obtain ⟨c, dct, dat, sl⟩:=o
  simp only at hc hdat hd
  subst hc hdat hd
  obtain ⟨hp, g, d, tk, os⟩:=s
  have hT : ∀ tk', (⟨hp, g, d, tk', os⟩ : Shared).TypeIs (.ref a) "list":=fun _=>⟨_, hx, rfl⟩
  have f1:=sub_AttributeError
  have f3:=F.slot_list_getattribute.lookup
  have f4:=F.slot_list_getattribute.bind (.ref a)
  have f5:=am_list_getattr_none
  unfold getAttr? getAttrBy? getAttrBy
  repeat (any_goals (first
    | assumption
    | exact hT _
    | ((with_reducible show wpAny _ _ (call (Value.builtin "list.__getattribute__") _ _) _ _ _)
       refine call_meets F.slot_list_getattribute (hT _) am_entry_list_getattribute (F.args_list_getattribute_2 _ _) (meets_getattribute_miss_list a xs k sl "keys" _ Kk (by decide +kernel)) ⟨hx, hA, fun h' tk' e hx'=>?_⟩)
    | wp_step))
  obtain ⟨t', u', he⟩:=hx'.there
  show wpAny _ _ (getattributeRaised _ _ _ _ _ _ _) _ _ _
  unfold getattributeRaised
  repeat (any_goals (first | wp_step | assumption))
  exact h _ _ hx'.keeps
theorem ZJ : plainId "dict.update.loop" = true:=by decide +kernel
theorem Va : entryFor table "dict.update.loop" = some Builtin.«dict.update.loop»:=entryFor_of_fast (by kernel_rfl)
end
section
variable {prog : Program} {w : World} {A : Around} {R : Result -> Shared -> Prop} {K : Type} [DecidableEq K] {knd : KeyKind prog w K}
noncomputable def Ho (knd : KeyKind prog w K) (h : Heap) (its : Array Value) (kv : List (K × Value)) : Prop:=its.size = kv.length /\ ∀ (j : Nat) (x : Value) (p : K × Value), its[j]? = some x -> kv[j]? = some p -> ∃ t key, x = .ref t /\ h.IsTuple t #[key, p.2] /\ knd.is p.1 key = true
noncomputable def V7 (acc kv : List (K × Value)) : List (K × Value):=kv.foldl (fun a p=>stored a p.1 p.2) acc
theorem GV (acc : List (K × Value)) (k : K) (v : Value) : (stored acc k v).length <= acc.length + 1:=by
  unfold stored
  split
  . simp
  . simp
theorem Uq {h : Heap} {t I l : Addr} {i : Nat} {xs : Array Value} (ht : h.IsTuple t xs) (it : h.IsListIter I l i) : t ≠ I:=fun e=>by
  subst e
  obtain ⟨o, ho, hc, _⟩:=ht
  obtain ⟨o', ho', hc', _⟩:=it
  rw [ho] at ho'
  cases ho'
  rw [hc] at hc'
  exact absurd hc' (by decide)
theorem Dc {h : Heap} {t d : Addr} {xs : Array Value} {acc : List (K × Value)} (ht : h.IsTuple t xs) (hd : h.DictOf knd d acc) : t ≠ d:=fun e=>by
  subst e
  obtain ⟨o, ho, hc, _⟩:=ht
  obtain ⟨o', _, _, ho', hc', _⟩:=hd
  rw [ho] at ho'
  cases ho'
  have:=hc'.1
  rw [hc] at this
  exact absurd this (by decide)
theorem Lh (hh : A.in1.handled = none) {d I l : Addr} (hdI : d ≠ I) (hlI : l ≠ I) (hld : l ≠ d) {its : Array Value} {kv : List (K × Value)} :
    ∀ (k i : Nat) (s : Shared) (acc : List (K × Value)), its.size - i = k -> i <= its.size -> s.heap.IsListIter I l i -> s.heap.IsList l its -> Ho knd s.heap its kv -> s.heap.DictOf knd d acc -> acc.length + its.size <= sizeLine + i ->
    (∀ g tk, g.DictOf knd d (V7 acc (kv.drop i)) -> (∀ b o, b ≠ I -> b ≠ d -> s.heap.get? b = some o -> g.get? b = some o) -> R (.ok (.ret .none)) { s with heap:=g, toks:=tk }) ->
    codeAny (model prog w) A (.builtin "dict.update.loop" ⟨[.ref d, .ref I, rawInt i, .none], []⟩) R s:=by
  intro k
  induction k with
  | zero=>
    intro i s acc hk hi it hl hp hd hz r
    refine codeAny_builtin Va ?_
    rw [Around.under_plainId ZJ _]
    show wpAny _ A.in1 (pyNext (.ref I) >>= _) _ _ s
    refine wpAny_bind (wpAny_pyNext_list_end hh it hl (by simp; omega) fun g hx=>?_)
    show wpAny _ _ (Builtin.Dict.addKeywords d [] >>= fun _=>ret Value.none) _ _ _
    refine wpAny_bind (wpAny_pure (wpAny_pure (r g s.toks ?_ fun b o hb _ e=>hx b o hb e)))
    have e : kv.drop i = []:=List.drop_eq_nil_of_le (by have:=hp.1; omega)
    rw [e]
    exact hd.extBut hx hdI
  | succ k ih=>
    intro i s acc hk hi it hl hp hd hz r
    have lt : i < its.size:=by omega
    refine codeAny_builtin Va ?_
    rw [Around.under_plainId ZJ _]
    show wpAny _ A.in1 (pyNext (.ref I) >>= _) _ _ s
    refine wpAny_bind (wpAny_pyNext_list_item it hl (x:=its[i]) (by simp [lt]) fun g it' hx=>?_)
    have lt2 : i < kv.length:=by have:=hp.1; omega
    obtain ⟨t, key, et, ht, hkey⟩:=hp.2 i its[i] kv[i] (by simp [lt]) (by simp [lt2])
    have htI : t ≠ I:=Uq ht it
    have ht1 : g.IsTuple t #[key, kv[i].2]:=ht.extBut hx.extBut htI
    obtain ⟨o, ho, hc, n, hdt⟩:=id ht1
    rw [et]
    show wpAny _ _ (holding [Value.ref t] _ >>= fun _=>again (.builtin "dict.update.loop" ⟨[.ref d, .ref I, rawInt ((i : Int) + 1), .none], []⟩)) _ _ _
    refine wpAny_bind (wpAny_holding ?_)
    refine wpAny_bind (wpAny_tryCatch ?_)
    unfold Builtin.Dict.pairItems
    refine wpAny_bind (wpAny_typeOf (s:={ s with heap:=g }) ⟨o, ho, hc⟩ ?_)
    rw [if_pos (by decide)]
    refine wpAny_bind (wpAny_seqItems (s:={ s with heap:=g }) ho hdt (wpAny_pure ?_))
    show wpAny _ _ (holding [key, kv[i].2] (dictSet d key kv[i].2)) _ _ _
    refine wpAny_holding (wpAny_dictSet_pairs (s:={ s with heap:=g }) hkey (hd.extBut hx.extBut hdI) (fun g2 hd2 hx2=>?_) (by omega))
    refine wpAny_pure ⟨plainId_quiet ZJ _, ?_⟩
    have hne : ∀ {b : Addr} {u : Obj}, s.heap.get? b = some u -> b ≠ I -> b ≠ d -> g2.get? b = some u:=fun {b u} e h1 h2=>(hx2.2 b h2).trans (hx.extBut b u h1 e)
    refine ih (i + 1) { s with heap:=g2, toks:=s.toks + 1 } (stored acc kv[i].1 kv[i].2) (by omega) (by omega) ?_ ?_ ?_ hd2 ?_ ?_
    . exact it'.extBut hx2.extBut (fun e=>hdI e.symm)
    . exact (hl.extBut hx.extBut hlI).extBut hx2.extBut hld
    . refine ⟨hp.1, fun j x p h1 h2 => ?_⟩
      obtain ⟨t2, key2, e2, ht2, hk2⟩:=hp.2 j x p h1 h2
      exact ⟨t2, key2, e2, (ht2.extBut hx.extBut (Uq ht2 it)).extBut hx2.extBut (Dc ht2 hd), hk2⟩
    . have := GV acc kv[i].1 kv[i].2
      omega
    . intro g3 tk hd3 kp
      refine r g3 tk ?_ fun b o h1 h2 e=>kp b o h1 h2 (hne e h1 h2)
      rw [List.drop_eq_getElem_cons lt2]
      exact hd3
theorem G1 (hh : A.handled = none) {E : Value -> Shared -> Prop} {s : Shared} {l : Addr} {o : Obj} {n : Nat} {its : Array Value} {kv : List (K × Value)} {Q : Value -> Shared -> Prop} (hx : s.heap.get? l = some o) (hc : o.cls = .type "list") (hdat : o.data = .seq its n) (hd : o.dict = none) (hp : Ho knd s.heap its kv) (hz : its.size <= sizeLine)
    (r : ∀ g tk, g.DictOf knd s.heap.objs.size (V7 [] kv) -> (∀ b u, s.heap.get? b = some u -> g.get? b = some u) -> Q (.ref s.heap.objs.size) { s with heap:=g, toks:=tk }) : wpAny (model prog w) A (call (.type "dict") [.ref l]) Q E s:=by
  refine callType_codes (Q₁:=fun obj s₁=>obj = .ref s.heap.objs.size /\ s₁ = { s with heap:=s.heap.push { cls:=.type "dict", data:=.dict #[] } }) F.kt_called_dict (F.kt_typeCall_dict_1 _) F.entry_dict_init (kt_code_dict_new _ ⟨rfl, rfl⟩) ?_
  rintro obj s₁ ⟨rfl, rfl⟩
  have hnew : (s.heap.push { cls:=.type "dict", data:=.dict #[] }).DictOf knd s.heap.objs.size []:=Heap.DictOf.new s.heap
  have hx1 : (s.heap.push { cls:=.type "dict", data:=.dict #[] }).get? l = some o:=Heap.get?_push_of_some _ hx
  refine ⟨hnew.typeIs, F.args_dict_init_2 _ _, ?_⟩
  unfold Builtin.«dict.__init__»
  refine wpAny_bind ?_
  unfold Builtin.Dict.selfAndRest
  refine wpAny_bind (wpAny_notOrdered_dict hnew.typeIs ?_)
  show wpAny _ _ (pure (s.heap.objs.size, [Value.ref l])) _ _ _
  refine wpAny_pure ?_
  show wpAny _ _ (Builtin.Dict.updateFrom "dict.__init__" s.heap.objs.size (.ref l) [] .none) _ _ _
  unfold Builtin.Dict.updateFrom
  refine wpAny_bind (wpAny_typeOf ⟨o, hx1, hc⟩ ?_)
  rw [if_pos (by decide)]
  refine wpAny_bind (Bj hx1 hc hdat hd hh fun g tk kp=>?_)
  rw [if_pos (show (none : Option Value).isNone = true from rfl)]
  refine wpAny_bind (wpAny_rule ?_)
  have hlg : g.IsList l its:=⟨o, kp _ _ hx1, hc, n, hdat⟩
  have hdg : g.DictOf knd s.heap.objs.size []:=by
    obtain ⟨o', es, ep, ho, q⟩:=hnew
    exact ⟨o', es, ep, kp _ _ ho, q⟩
  have hdlt : s.heap.objs.size < g.objs.size:=by
    obtain ⟨o', es, ep, ho, q⟩:=hdg
    exact Heap.lt_size ho
  have hllt : l < s.heap.objs.size:=Heap.lt_size hx
  refine wpAny_bind (wpAny_pyIter_list (s:={ s with heap:=g, toks:=tk }) hlg ?_)
  refine wpAny_pure ⟨plainId_quiet ZJ _, ?_⟩
  refine Lh (A:=A.in1) (show A.in1.in1.handled = none from hh) (d:=s.heap.objs.size) (I:=g.objs.size) (l:=l) (its:=its) (kv:=kv) (Nat.ne_of_lt hdlt) (Nat.ne_of_lt (Nat.lt_trans hllt hdlt)) (Nat.ne_of_lt hllt) its.size 0 _ [] rfl (Nat.zero_le _) ⟨_, Heap.get?_push_size _ rfl, rfl, rfl⟩ (hlg.push _) ?_ (hdg.push _) (by simpa using hz) ?_
  . refine ⟨hp.1, fun j x p h1 h2 => ?_⟩
    obtain ⟨t2, key2, e2, ⟨ot, hot, q⟩, hk2⟩:=hp.2 j x p h1 h2
    exact ⟨t2, key2, e2, ⟨ot, Heap.get?_push_of_some _ (kp _ _ (Heap.get?_push_of_some _ hot)), q⟩, hk2⟩
  . intro g2 tk2 hd2 kp2
    refine ⟨rfl, r g2 tk2 hd2 fun b u e=>?_⟩
    have hb:=Heap.lt_size e
    exact kp2 b u (Nat.ne_of_lt (Nat.lt_trans hb hdlt)) (Nat.ne_of_lt hb) (Heap.get?_push_of_some _ (kp _ _ (Heap.get?_push_of_some _ e)))
end
end L2
namespace L2
open PySem PySem.Spec PyProof.Rows
section
variable {X : Cx}
noncomputable def Qu (acc kvs : List (Key × V)) : List (Key × V):=kvs.foldl (fun a p=>KI a p.1 p.2) acc
theorem CV (kvs : List (Key × V)) (k : Key) (v : V) : (KI kvs k v).length <= kvs.length + 1:=by
  unfold KI
  split <;> simp
theorem Vz : ∀ (kvs acc : List (Key × V)), (Qu acc kvs).length <= acc.length + kvs.length
  | [], acc=>by simp [Qu]
  | p :: kvs, acc=>by
    have h1:=Vz kvs (KI acc p.1 p.2)
    have h2:=CV acc p.1 p.2
    show (Qu (KI acc p.1 p.2) kvs).length <= _
    rw [List.length_cons]
    omega
theorem KV.all {kvs : List (Key × V)} {vs : List (Key × Value)} (t : KV kvs vs) : ∀ {acc : List (Key × V)} {acc' : List (Key × Value)}, KV acc acc' -> KV (Qu acc kvs) (V7 acc' vs):=by
  induction t with
  | nil=>intro acc acc' h; exact h
  | @cons p q kvs vs r _ ih=>
    intro acc acc' h
    have h2:=h.put p.1 r.2
    have e : stored acc' p.1 q.2 = stored acc' q.1 q.2:=by rw [r.1]
    rw [e] at h2
    exact ih h2
noncomputable def BI (K : PySem.W.Frag) : List V -> Hp -> VK -> Prop:=fun xs H Q=>∃ l ps kvs, xs = [.ref l] /\ SqL K H l ps /\ Paired (fun p (kv : Key × V)=>∃ t, p = .ref t /\ SqT K H t [kV kv.1, kv.2]) ps kvs /\ ∀ d, H d = none -> Q (.ref d) (upd H d (.dK (Qu [] kvs)))
theorem IA {pins : List (Addr × Obj)} {σ : St} {H : Hp} {s : Shared} (I : Inv X pins σ H s) : ∀ {ps : List V} {kvs : List (Key × V)} {its : List Value}, Paired (fun p (kv : Key × V)=>∃ t, p = .ref t /\ SqT X.K H t [kV kv.1, kv.2]) ps kvs -> XX ps its -> ∃ kv, KV kvs kv /\ Ho (Yz X.prog X.w) s.heap its.toArray kv:=fun {ps kvs its} p=>by
  induction p generalizing its with
  | nil=>
    intro v
    cases v
    exact ⟨[], .nil, rfl, fun j x p h=>by simp at h⟩
  | @cons _ b _ _ r _ ih=>
    intro v
    cases v with
    | cons rv v=>
      obtain ⟨kv, h1, h2, h3⟩:=ih v
      obtain ⟨t, rfl, ht⟩:=r
      cases rv
      obtain ⟨i2, v2, tp, _⟩:=I.tuple ht
      obtain ⟨key, val, rfl, e1, e2⟩:=XX.two v2
      refine ⟨(b.1, val) :: kv, .cons ⟨rfl, e2⟩ h1, by simpa using h2, fun j x p hj hp=>?_⟩
      cases j with
      | zero=>
        simp at hj hp
        subst hj hp
        exact ⟨t, key, rfl, tp, Cq e1⟩
      | succ j=>exact h3 j x p (by simpa using hj) (by simpa using hp)
theorem UA (K : PySem.W.Frag) (hK : X.K = K) (hc : X.calm = true) : ZS X (.type "dict") (BI K):=by
  subst hK
  intro pins s σ H xs us Q I r h
  obtain ⟨l, ps, kvs, rfl, hq, hp, q⟩:=h
  obtain ⟨u, rfl, ru⟩:=G4 r
  cases ru
  obtain ⟨its, rv, ⟨o, n, ho, hcl, hdn, hdat⟩, hz⟩:=I.list hq
  obtain ⟨kv, h1, h2⟩:=IA I hp rv
  have hlen:=rv.length
  have hl2:=Paired.len hp
  refine G1 (knd:=Yz X.prog X.w) (I.ok.hd hc) ho hcl hdat hdn h2 (by simpa [← hlen] using hz) fun g tk hd kp=>?_
  refine ⟨.ref s.heap.objs.size, _, I.laid (t':=tk) kp (Nat.le_refl _) (show Yi X.prog X.w _ g _ (.dK (Qu [] kvs)) from ⟨Nat.le_trans (Vz kvs []) (by simp; omega), beq_eq_false_iff_ne.mpr (Ne.symm (Nat.ne_of_lt I.big)), _, KV.all h1 .nil, hd⟩), rfl, q _ (I.hok.fresh (Nat.le_refl _))⟩
noncomputable def Vi (ns : List Int) : List Int:=ns.mergeSort fun a b=>decide (a <= b)
theorem VD (ns : List Int) : (Vi ns).Perm ns:=List.mergeSort_perm ns _
theorem Fb (ns : List Int) : (Vi ns).Pairwise (· <= ·):=by
  have h:=List.pairwise_mergeSort (le:=fun a b : Int=>decide (a <= b)) (fun a b c h1 h2=>by rw [decide_eq_true_eq] at h1 h2 ⊢; omega) (fun a b=>by rw [Bool.or_eq_true, decide_eq_true_eq, decide_eq_true_eq]; omega) ns
  exact h.imp fun h=>by simpa using h
theorem K8 {a b : List Int} (h : a.Perm b) (r : a.Pairwise (· <= ·)) : a = Vi b:=List.Perm.eq_of_pairwise (le:=(· <= ·)) (fun _ _ _ _ h1 h2=>Int.le_antisymm h1 h2) r (Fb b) (h.trans (VD b).symm)
theorem CL : ∀ {ns : List Int} {vs : List Value}, XX (ns.map V.int) vs -> IntsAre vs ns:=fun {ns}=>by
  induction ns with
  | nil=>intro vs h; cases h; exact .nil
  | cons n ns ih=>
    intro vs h
    cases h with
    | cons r t=>
      obtain ⟨k, rfl⟩:=r
      exact .cons n k (ih t)
end
end L2
namespace L2
open PySem PySem.Spec PyProof.Rows
section
variable {X : Cx} {pins : List (Addr × Obj)} {σ : St} {H : Hp} {s : Shared} {d : Addr} {o : Obj} {kvs : List (Key × V)}
theorem Fh {k : Key} {u : Value} (h : V1 k u = true) : X9 (kV k) u:=by
  cases k with
  | inl n=>
    cases u <;> simp [V1, Value.isInt] at h
    subst h
    exact ⟨_, rfl⟩
  | inr x=>
    cases u <;> simp [V1, Value.isStrOf] at h
    subst h
    exact ⟨_, rfl⟩
theorem Inv.freeze (I : Inv X pins σ H s) (e : H d = some (.dK kvs)) (ho : s.heap.get? d = some o) : Inv X pins σ (upd H d (.frz o (.dK kvs))) s:=by
  have x:=(show Yi X.prog X.w H s.heap d (.dK kvs) from I.hok d _ e)
  exact I.write (t':=s.toks) (x:=d) (e:=d) (h':=s.heap) (by rw [e]; exact True.intro) (.inl rfl) (fun b u _ q=>q) ⟨o, ho⟩ ⟨ho, x⟩
theorem Inv.thaw (I : Inv X pins σ H s) (e : H d = some (.frz o (.dK kvs))) (n : ∀ o u, X.H₀ d ≠ some (.frz o u)) : Inv X pins σ (upd H d (.dK kvs)) s:=by
  have ne : ∀ {b : Addr}, H b = none -> b ≠ d:=fun {b} h z=>by rw [z, e] at h; cases h
  refine ⟨I.ok, I.os, I.bare, ⟨I.base.keep, I.base.slot, fun b ob q nn hx=>?_, I.base.there, fun b xs q=>?_, fun b ob u q=>?_, fun b ps q=>?_⟩, I.loc, I.cell, ?_, fun x c h=>?_, fun p hp=>?_, fun b u q=>?_, I.len⟩
  . have h := I.base.free b ob q nn hx
    rw [Xp (ne h)]; exact h
  . have h := I.base.tups b xs q
    rw [Xp (CB h e (fun z=>nomatch z))]; exact h
  . have h := I.base.frzs b ob u q
    by_cases z : b = d
    . subst z; exact absurd q (n ob u)
    . rw [Xp z]; exact h
  . obtain ⟨more, h⟩ := I.base.tbls b ps q
    exact ⟨more, by rw [Xp (CB h e (fun z=>nomatch z))]; exact h⟩
  . rw [Xp (ne I.free)]; exact I.free
  . rw [Xp (ne (I.freeC x c h))]; exact I.freeC x c h
  . obtain ⟨h1, h2, h3⟩ := I.pin p hp
    exact ⟨h1, by rw [Xp (ne h2)]; exact h2, h3⟩
  . by_cases z : b = d
    . subst z
      rw [X8] at q
      cases q
      obtain ⟨_, h⟩:=(show Yi X.prog X.w H s.heap b (.frz o (.dK kvs)) from I.hok b _ e)
      exact h
    . rw [Xp z] at q
      exact (I.hok b u q).stay (fun _ _ _ r=>r) (fun c r=>by rw [Xp (CB r e (fun z=>nomatch z))]; exact r) fun c xs r=>by rw [Xp (CB r e (fun z=>nomatch z))]; exact r
noncomputable def tFz (i : Nat) (t : TE) : TE:=fun σ H Q=>∃ d kvs, σ[i]? = some (some (.ref d)) /\ H d = some (.dK kvs) /\ ∀ o, t σ (upd H d (.frz o (.dK kvs))) fun v H'=>H' d = some (.frz o (.dK kvs)) /\ Q v (upd H' d (.dK kvs))
theorem IZ {x : Expr} {t : TE} (i : Nat) (h : PE X x t) : PE X x (tFz i t):=by
  intro pins s σ H Q I ⟨d, kvs, _, e, q⟩
  obtain ⟨_, _, vs, _, o, es, ep, ho, _⟩:=(show Yi X.prog X.w H s.heap d (.dK kvs) from I.hok d _ e)
  refine thn (h pins s σ _ _ (I.freeze e ho) (q o)) fun v s1 ⟨y, H1, I1, r1, e1, q1⟩=>⟨y, _, I1.thaw e1 (fun o u z=>?_), r1, q1⟩
  have:=I.base.frzs d o u z
  rw [e] at this
  cases this
noncomputable def Itd (d : Addr) (o : Obj) (kvs : List (Key × V)) : It:=
  ⟨fun i H=>H d = some (.frz o (.dK kvs)) /\ i < kvs.length, fun i H x H'=>H' = H /\ ∃ kv, kvs[i]? = some kv /\ x = kV kv.1, fun i H=>H d = some (.frz o (.dK kvs)) /\ kvs.length <= i⟩
theorem Inv.dictAt (I : Inv X pins σ H s) (e : H d = some (.frz o (.dK kvs))) {es : Array DictEntry} {ep : Nat} (hd : o.data = .dict es ep) : (d == sysModules) = false /\ ∃ vs, KV kvs vs /\ Heap.DictAt (Yz X.prog X.w) s.heap d vs ep:=by
  obtain ⟨h1, _, hs, vs, rel, o', es', ep', g1, g2, g3, g4⟩:=(show Yi X.prog X.w H s.heap d (.frz o (.dK kvs)) from I.hok d _ e)
  rw [h1] at g1
  cases g1
  rw [hd] at g3
  cases g3
  exact ⟨hs, vs, rel, o, es, h1, g2, hd, g4⟩
theorem KV.key {kvs : List (Key × V)} {vs : List (Key × Value)} (h : KV kvs vs) : ∀ {i : Nat} (h1 : i < kvs.length) (h2 : i < vs.length), (kvs[i]).1 = (vs[i]).1:=by
  induction h with
  | nil=>intro i h1; exact absurd h1 (Nat.not_lt_zero _)
  | cons r _ ih=>
    intro i h1 h2
    cases i with
    | zero=>exact r.1
    | succ i=>exact ih (Nat.lt_of_succ_lt_succ h1) (Nat.lt_of_succ_lt_succ h2)
theorem Du {P : Program} {w : World} {K : PySem.W.Frag} {tg : Expr} {es : Array DictEntry} {ep : Nat} (d it : Addr) (o : Obj) (kvs : List (Key × V)) (hd : o.data = .dict es ep) : Turn P w K tg (Itd d o kvs) [it] it (fun i h=>h.IsKeyIter it d i kvs.length ep) where
  mem:=.head _
  obj:=fun i h st b hb=>by
    have e : b = it:=List.mem_singleton.mp hb
    subst e
    obtain ⟨o, e, c, d⟩:=st
    exact ⟨o, e, fun v z=>by rw [d] at z; cases z⟩
  keep:=fun i h h' st k=>st.at fun o e=>k it (.head _) o e
  item:=by
    intro X hP hw hK hc i pins s σ H E I hf st hg
    subst hP hw hK
    obtain ⟨he, hlt⟩:=hg
    obtain ⟨_, vs, rel, da⟩:=I.dictAt he hd
    have hl:=rel.length
    rw [hl] at st
    obtain ⟨f0, f1, f2, f3, f4, f5⟩:=hf it (.head _)
    have hv : vs[i]? = some (vs[i].1, vs[i].2):=by simp [show i < vs.length by omega]
    refine wpAny_pyNext_dict_item st da hv fun key h' hk st' sb=>?_
    have I1 : Inv X pins σ H { s with heap:=h' }:=I.turned (t':=s.toks) (fun b o hb e=>(sb.2 b hb).trans e) f0 f1 f3 f4 f5
    obtain ⟨ob, e, c, dd⟩:=id st'
    have hkv : (kvs[i]).1 = (vs[i]).1:=KV.key rel (show i < kvs.length from hlt) (by omega)
    refine ⟨key, rfl, Ek (s:={ s with heap:=h' }) e c dd (by decide) ⟨kV (kvs[i]).1, H, I1, by rw [hkv]; exact Fh hk, ⟨rfl, kvs[i], by simp [hlt], rfl⟩, ?_, fun b hb=>(hf b hb).1⟩⟩
    rw [hl]; exact st'
  done:=by
    intro X hP hw hK hc i pins s σ H E I hf st hg
    subst hP hw hK
    obtain ⟨he, hlt⟩:=hg
    obtain ⟨_, vs, rel, da⟩:=I.dictAt he hd
    have hl:=rel.length
    rw [hl] at st
    obtain ⟨f0, f1, f2, f3, f4, f5⟩:=hf it (.head _)
    exact wpAny_pyNext_dict_end (I.ok.hd hc) st da (List.getElem?_eq_none (by omega)) fun h' eb=>⟨rfl, I.turned (t':=s.toks) (fun b o hb e=>eb b o hb e) f0 f1 f3 f4 f5⟩
  self:=fun _ _ _ _ _ st h=>wpAny_pyIter_keyiter st h
noncomputable def Ie (tl : TE) : TI:=fun σ H R=>tl σ H fun x H1=>∃ a o kvs, x = .ref a /\ H1 a = some (.frz o (.dK kvs)) /\ R (Itd a o kvs) H1
theorem Fo {tg l : Expr} {tl : TE} (hl : PE X l tl) : PI X tg l (Ie tl):=by
  intro pins s σ H R I h
  refine thn (hl pins s σ H _ I h) fun v s1 ⟨x, H1, I1, r1, q1⟩=>?_
  obtain ⟨a, o, kvs, e, he, q⟩:=q1
  subst e
  cases r1
  obtain ⟨h1, _, hs, vs, rel, o', es, ep, g1, g2, g3, g4⟩:=(show Yi X.prog X.w H1 s1.heap a (.frz o (.dK kvs)) from I1.hok a _ he)
  rw [h1] at g1
  cases g1
  refine wpAny_pyIter_dict (knd:=Yz X.prog X.w) (kvs:=vs) (ep:=ep) hs ⟨o, es, h1, g2, g3, g4⟩ ?_
  rw [← rel.length]
  refine ⟨s1.heap.objs.size, [s1.heap.objs.size], _, _, H1, rfl, I1.kept (t':=s1.toks) fun b o e=>Heap.get?_push_of_some _ e, Du a _ o kvs g3, ⟨_, Heap.get?_push_size _ rfl, rfl, rfl⟩, fun b hb=>?_, q⟩
  have e : b = s1.heap.objs.size:=by simpa using hb
  subst e
  exact I1.fpOk (Nat.le_refl _) (I1.hok.fresh (Nat.le_refl _))
end
section
variable {X : Cx}
theorem Vg {h : Heap} {a b : Addr} {vs : List Value} {out : Array Value} {o : Obj} (hb : b ≠ a) (e : h.get? b = some o) : (sortedHeap h a vs out).get? b = some o:=
  Heap.get?_update_of_ne _ hb.symm (Heap.get?_push_of_some _ (Heap.get?_push_of_some _ (Heap.get?_update_of_ne _ hb.symm e)))
end
end L2
namespace L2
open PySem PySem.Spec PyProof.Rows
section
variable {K : PySem.W.Frag} {Er : Exc -> Hp -> Prop} {S : SC} {OO OO' OO2 : List (List XG)} {σ : St} {α β γ ρ ι δ ε : Type}
variable {Fd : Ends -> β -> Hp -> Prop} [fd : FdOk Fd] {u : TS}
noncomputable def rDf {α : Type} (r : Enc α) : Enc (List (Int × α)):=fun K H v d=>∃ p o kvs, v = .ref p /\ H p = some (.frz o (.dK kvs)) /\ Paired (rDP r K H) kvs d
instance {r : Enc α} [m : MonoE r] : MonoE (rDf r):=⟨fun s ⟨p, o, kvs, e, q, pr⟩=>⟨p, o, kvs, e, s _ _ q, Paired.imp2 (fun _ _ z=>⟨z.1, m.mono s z.2⟩) pr⟩⟩
theorem Ca {td ty : TE} {r : Enc α} {md : Res (List (Int × α))} {mk : Res Int} (hk : EvB K Er S OO σ ty Xc mk) (hd : EvB K Er S OO σ td (rDf r) md) : EvB K Er S OO σ (DK ty td) XH (mk.bind fun k=>md.bind fun d=>.ok (!(ZP d k).isSome)):=fun H Q w s P=>
  hk.run w s FB.tr P fun k y H1 s1 w1 q1 r1 P1=>hd.run w1 q1 FB.tr P1 fun d x H2 s2 w2 q2 ⟨p, o, kvs, e, q, pr⟩ P2=>⟨p, Kr kvs (.inl k), e, .inl ⟨kvs, .inl k, .inr ⟨o, q⟩, r1, rfl⟩, P2 _ H2 (Xo.refl _) (by rw [(Qj (k:=k) pr).2]; rfl)⟩
theorem Vp {te : TE} {r : Enc α} [z : MonoE r] {m : Res (List (Int × α))} (he : EvS K Er S OO σ te (rDf r) m) : Walk K Er S OO σ (Ie te) Xc (m.bind fun d=>.ok (d.map (·.1))):=⟨fun {H R} w s P=>by
  refine he H _ w s ?_
  cases em : m with
  | bad=>rw [em] at P; exact P
  | err x=>rw [em] at P; exact P
  | ok d=>
    rw [em] at P
    intro v H' s' ⟨p, o, kvs, e, hp, pr⟩
    refine ⟨p, o, kvs, e, Xv _ _ hp, P _ H' s' ?_ ?_⟩
    . intro i a ha OO2 H2 w2 m2
      rw [List.getElem?_map] at ha
      obtain ⟨kx, h1, h2⟩:=Option.map_eq_some_iff.mp ha
      obtain ⟨kv, hkv, rk⟩:=Paired.getR pr h1
      have hl : i < kvs.length:=(List.getElem?_eq_some_iff.mp hkv).1
      refine ⟨⟨Xv _ _ (m2 _ _ hp), hl⟩, fun y H3 ⟨e3, kv', hy, ey⟩=>?_⟩
      subst e3
      rw [hkv] at hy
      cases hy
      refine ⟨Xo.refl _, ?_⟩
      show y = .int a
      rw [ey, rk.1, ← h2]
      rfl
    . intro OO2 H2 w2 m2
      exact ⟨Xv _ _ (m2 _ _ hp), by rw [List.length_map, Paired.len pr]; exact Nat.le_refl _⟩⟩
class FlatTE {α : Type} (r : Enc α) : Prop where
  flat : ∀ {K : PySem.W.Frag} {H H' : Hp} {v : V} {a : α}, (∀ b xs, H b = some (.tup xs) -> H' b = some (.tup xs)) -> r K H v a -> r K H' v a
class FlatT {α : Type} (o : OE α) : Prop where
  flat : ∀ {K : PySem.W.Frag} {H H' : Hp} {v : V} {a : α} {C : List XG}, (∀ b xs, H b = some (.tup xs) -> H' b = some (.tup xs)) -> o K H v a C -> o K H' v a C
instance : FlatTE Xc:=⟨fun _ h=>h⟩
instance : FlatTE XH:=⟨fun _ h=>h⟩
instance {r : Enc α} {q : Enc β} {t : Enc γ} [m : FlatTE r] [n : FlatTE q] [k : FlatTE t] : FlatTE (rP3 r q t):=⟨fun s h9=>(by obtain ⟨a, x, y, z, e, h, p1, p2, p3⟩:=h9; exact ⟨a, x, y, z, e, s _ _ h, m.flat s p1, n.flat s p2, k.flat s p3⟩)⟩
instance {r : Enc α} {q : Enc β} [m : FlatTE r] [n : FlatTE q] : FlatTE (rP2 r q):=⟨fun s h9=>(by obtain ⟨a, x, y, e, h, p1, p2⟩:=h9; exact ⟨a, x, y, e, s _ _ h, m.flat s p1, n.flat s p2⟩)⟩
instance {r : Enc α} [m : FlatTE r] : FlatTE (Gh r):=⟨fun {K H H' v a} s h=>by cases a with
  | none=>exact h
  | some a=>exact ⟨h.1, m.flat s h.2⟩⟩
instance {r : Enc α} [m : FlatTE r] : FlatT (oF r):=⟨fun s h=>⟨h.1, m.flat s h.2⟩⟩
theorem Bg {te : TE} {o : OE α} [y : FlatT o] {r : Enc γ} [z : MonoE r] {m : Res α} {v : V} {a : List (Int × γ)} {C : List XG} (i k : Nat) (hσ : σ[i]? = some (some v)) (hk : OO[k]? = some C) (h : ∀ x, S.p x -> oD r K x v a C) (hm : ∀ x, m ≠ .err x)
    (he : Ev K Er (S.add K (rDf r) v a) (OO.set k []) (OO.set k []) σ te o m) : Ev K Er S OO OO σ (tFz i te) o m:=fun H Q w s P=>by
  obtain ⟨d, kvs, e, pr, c⟩:=h _ s
  subst c e
  have hp:=X1 hk
  have wk : W ([(d, .dK kvs)] :: OO.set k []) H:=w.of hp
  have hH : H d = some (.dK kvs):=wk.cell (d, .dK kvs) (by simp)
  have hnd : d ∉ fl (OO.set k []):=by
    have:=wk.nd
    rw [Yo] at this
    exact fun hb=>(List.nodup_append.mp this).2.2 d (by simp) d hb rfl
  have hin : ∀ {b : Addr}, b ∈ fl OO ↔ b = d ∨ b ∈ fl (OO.set k []):=fun {b}=>by
    rw [← Jr hp b, Yo]; simp
  refine ⟨d, kvs, hσ, hH, fun ob=>?_⟩
  have hne : ∀ {b : Addr} {x : HO}, b ∈ fl (OO.set k []) -> upd H d x b = H b:=fun {b x} hb=>Xp fun q=>hnd (q ▸ hb)
  have wf : W (OO.set k []) (upd H d (.frz ob (.dK kvs))):=⟨fun c hc=>by rw [hne (QW hc)]; exact wk.tail.tr c hc, wk.tail.nd, wk.tail.mu⟩
  have hs : Xo (hid H OO) (hid (upd H d (.frz ob (.dK kvs))) (OO.set k [])):=fun b x q=>by
    obtain ⟨q1, q2⟩:=X0 q
    have hb : b ≠ d:=fun e=>q2 (hin.mpr (.inl e))
    exact Zk (by rw [Xp hb]; exact q1) fun e=>q2 (hin.mpr (.inr e))
  have hf : hid (upd H d (.frz ob (.dK kvs))) (OO.set k []) d = some (.frz ob (.dK kvs)):=Zk X8 hnd
  refine he _ _ wf ⟨S.mono _ _ hs s, d, ob, kvs, rfl, hf, Paired.imp2 (fun _ _ q=>⟨q.1, z.mono hs q.2⟩) pr⟩ ?_
  cases em : m with
  | bad=>rw [em] at P; exact P
  | err x=>exact absurd em (hm x)
  | ok b=>
    rw [em] at P
    intro v' D H' s' w' m' ho
    obtain ⟨hd1, hd2⟩:=X0 (m' _ _ hf)
    have hne2 : ∀ {b : Addr} {x : HO}, b ∈ fl (D :: OO.set k []) -> upd H' d x b = H' b:=fun {b x} hb=>Xp fun q=>hd2 (q ▸ hb)
    have w2 : W ([(d, .dK kvs)] :: D :: OO.set k []) (upd H' d (.dK kvs)):=by
      refine ⟨fun c hc=>?_, ?_, fun c hc=>?_⟩
      . rw [List.flatten_cons, List.mem_append] at hc
        rcases hc with hc | hc
        . have : c = (d, .dK kvs) := by simpa using hc
          rw [this]; exact X8
        . rw [hne2 (QW hc)]; exact w'.tr c hc
      . rw [Yo]
        refine List.nodup_append.mpr ⟨by simp, w'.nd, fun a ha b hb e=>?_⟩
        have : a = d:=by simpa using ha
        exact hd2 (this ▸ e ▸ hb)
      . rw [List.flatten_cons, List.mem_append] at hc
        rcases hc with hc | hc
        . have : c = (d, .dK kvs) := by simpa using hc
          rw [this]; rfl
        . exact w'.mu c hc
    have pe : (D :: OO).flatten.Perm ([(d, .dK kvs)] :: D :: OO.set k []).flatten:=by
      simp only [List.flatten_cons]
      refine List.Perm.trans (List.Perm.append_left D (by simpa using hp.symm : OO.flatten.Perm ([(d, .dK kvs)] ++ (OO.set k []).flatten))) ?_
      rw [← List.append_assoc, ← List.append_assoc]
      exact List.perm_append_comm.append_right _
    have hin2 : ∀ {b : Addr}, b ∈ fl (D :: OO) ↔ b = d ∨ b ∈ fl (D :: OO.set k []):=fun {b}=>by
      rw [Jr pe b, Yo]; simp
    refine ⟨hd1, P v' D _ (fun b x q=>?_) (w2.of pe) (fun b x q=>?_) (y.flat (fun b xs q=>?_) ho)⟩
    . by_cases hb : b = d
      . subst hb; rw [hH] at q; rw [X8]; exact q
      . rw [Xp hb]; exact s' b x (by rw [Xp hb]; exact q)
    . obtain ⟨q1, q2⟩ := X0 (m' _ _ (hs b x q))
      have hb : b ≠ d:=fun e=>(X0 q).2 (hin.mpr (.inl e))
      exact Zk (by rw [Xp hb]; exact q1) fun e=>(hin2.mp e).elim hb q2
    . obtain ⟨q1, q2⟩ := X0 q
      have hb : b ≠ d:=fun e=>by rw [e, hd1] at q1; cases q1
      exact Zk (by rw [Xp hb]; exact q1) fun e=>(hin2.mp e).elim hb q2
theorem CZ {H : Hp} {xs : List V} {ns : List Int} (h : Paired (Xc K H) xs ns) : xs = ns.map V.int:=by
  induction h with
  | nil=>rfl
  | cons r _ ih=>rw [List.map_cons, ih, show _ = V.int _ from r]
theorem Bx {H : Hp} (ns : List Int) : Paired (Xc K H) (ns.map V.int) ns:=by
  induction ns with
  | nil=>exact .nil
  | cons n ns ih=>exact .cons rfl ih
noncomputable def FC (d ps : List (Int × α)) : List (Int × α):=ps.foldl (fun d p=>Kp d p.1 p.2) d
theorem U4 {r : Enc α} {H : Hp} {kvs : List (Key × V)} {ps : List (Int × α)} (h : Paired (rDP r K H) kvs ps) : ∀ {acc : List (Key × V)} {d : List (Int × α)}, Paired (rDP r K H) acc d -> Paired (rDP r K H) (Qu acc kvs) (FC d ps):=by
  induction h with
  | nil=>intro acc d h; exact h
  | @cons kv kx _ _ r _ ih=>
    intro acc d h
    have:=KB (k:=kx.1) r.2 h
    rw [← r.1] at this
    exact ih this
theorem F2 {r : Enc α} {h H : Hp} (hs : Xo h H) {xs : List V} {ps : List (Int × α)} (p : Paired (rP2 Xc r K h) xs ps) : ∃ kvs, Paired (fun p (kv : Key × V)=>∃ t, p = .ref t /\ SqT K H t [kV kv.1, kv.2]) xs kvs /\ Paired (rDP r K h) kvs ps:=by
  induction p with
  | nil=>exact ⟨[], .nil, .nil⟩
  | @cons x pr _ _ q _ ih=>
    obtain ⟨kvs, h1, h2⟩:=ih
    obtain ⟨t, a, b, e, ht, e1, e2⟩:=q
    have e1 : a = .int pr.1:=e1
    subst e1
    exact ⟨(.inl pr.1, b) :: kvs, .cons ⟨t, e, SqT.of (hs _ _ ht)⟩ h1, .cons ⟨rfl, e2⟩ h2⟩
theorem CW {ta : TE} {r : Enc α} [z : MonoE r] {ma : Res (List (Int × α))} (ha : EvL K Er S OO σ ta (rP2 Xc r) ma) : Ev K Er S OO OO σ (tCB (BI K) (XA ta ZQ)) (oD r) (ma.bind fun ps=>.ok (FC [] ps)):=fun H Q w s P=>
  ha.run w s FO.tr P fun ps x H1 s1 w1 q1 ⟨p, xs, e, q, pr⟩ P1=>by
    obtain ⟨kvs, h1, h2⟩:=F2 (Xv (H:=H1) (OO:=OO)) pr
    refine ⟨p, xs, kvs, by rw [e], SqL.of q, h1, fun d hd=>?_⟩
    have hn:=VT (OO:=OO) hd (o:=.dK (Qu [] kvs))
    exact P1 (.ref d) [(d, .dK (Qu [] kvs))] _ (X4 hd _) (w1.new hd rfl) hn ⟨d, _, rfl, Paired.imp2 (fun _ _ h=>⟨h.1, z.mono hn h.2⟩) (U4 h2 .nil), rfl⟩
end
end L2
namespace L2
open PySem PySem.Spec PyProof.Rows
section
variable {prog : Program} {w : World} {A : Around}
end
section
variable {X : Cx}
end
end L2
namespace L2
open PySem PySem.Spec PyProof.Rows
section
variable {K : PySem.W.Frag} {Er : Exc -> Hp -> Prop} {S : SC} {OO OO' OO1 OO2 : List (List XG)} {σ : St} {α β γ ρ ι δ ε : Type}
variable {Fd : Ends -> β -> Hp -> Prop} [fd : FdOk Fd] {u : TS}
end
end L2
namespace L2
open PySem PySem.Spec PyProof.Rows
theorem int_at {ns : List Int} {xs : Array Value} (hx : XX (ns.map V.int) xs.toList) (i : Nat) : (ns[i]? = none /\ xs[i]? = none) ∨ ∃ a t, ns[i]? = some a /\ xs[i]? = some (.int a t):=by
  have hl : ns.length = xs.size:=by have:=hx.length; simpa using this
  rcases Nat.lt_or_ge i ns.length with h | h
  . obtain ⟨u, hu, ru⟩ := hx.get (i := i) (x := .int ns[i]) (by simp [h])
    obtain ⟨t, rfl⟩:=ru
    exact .inr ⟨ns[i], t, by simp [h], by simpa using hu⟩
  . exact .inl ⟨List.getElem?_eq_none h, by simp; omega⟩
section
variable {X : Cx}
end
end L2
namespace L2
open PySem PySem.Spec PyProof.Rows
section
variable {K : PySem.W.Frag} {Er : Exc -> Hp -> Prop} {S : SC} {OO OO' OO1 OO2 : List (List XG)} {σ : St} {α β γ ρ ι δ ε : Type}
end
end L2
namespace L2
open PySem PySem.Spec PyProof.Rows
section
variable {K : PySem.W.Frag} {Er : Exc -> Hp -> Prop} {S : SC} {OO OO' OO1 OO2 : List (List XG)} {σ : St} {α β γ ρ ι δ ε : Type}
noncomputable def tk (k : List Int) : List Key:=k.map Sum.inl
variable {Fd : Ends -> β -> Hp -> Prop} [fd : FdOk Fd] {u : TS}
end
end L2
namespace L2
open PySem PySem.Spec PyProof.Rows
section
variable {X : Cx} {α : Type} [DecidableEq α] {r : Enc α} {d : Nat}
end
section
variable {K : PySem.W.Frag} {Er : Exc -> Hp -> Prop} {S : SC} {OO OO' OO1 OO2 : List (List XG)} {σ : St} {α β γ ρ ι δ ε : Type}
end
end L2
namespace L2
open PySem PySem.Spec PyProof.Rows
section
variable {X : Cx} {pins : List (Addr × Obj)} {σ : St} {H : Hp} {s : Shared} {h' : Heap}
theorem Inv.turns {t' : Nat} {ch : List Addr} (I : Inv X pins σ H s) (k : ∀ b o, b ∉ ch -> s.heap.get? b = some o -> h'.get? b = some o) (hf : ∀ b ∈ ch, K1 X pins H b) : Inv X pins σ H { s with heap:=h', toks:=t' }:=by
  have nit : ∀ b o, H b = some o -> b ∉ ch:=fun b o e z=>by rw [(hf b z).1] at e; cases e
  refine I.step (g':=s.gens) (d':=s.drawn) (ch:=ch) (fun b hb=>?_) (fun b o _ _ hc e _=>k b o hc e) (fun b o _ _ hc e _=>⟨o.slots, k b o hc e⟩)
    (fun b o _ e n=>n) (fun b o hc e=>⟨o, k b o hc e⟩) (fun b xs e=>e) (fun b o xs e=>e) (fun b ps e=>⟨#[], by rw [e]; simp⟩) (fun m hm=>?_) (fun b v e=>?_) I.bare
  . obtain ⟨f0, f1, f2, f3, f4, f5⟩ := hf b hb
    exact ⟨f3, f1, f4, f5⟩
  . obtain ⟨o, es, ep, ho, r⟩ := hm
    exact ⟨o, es, ep, k _ o (fun z=>(hf _ z).2.1 rfl) ho, r⟩
  . refine (I.hok b v e).stay (fun c o hc q => k c o ?_ q) (fun c q => q) fun c xs q => q
    rcases hc with z | z
    . rw [z]; exact nit b v e
    . exact nit c _ z
end
section
variable {X : Cx} {elts : List Expr} {k : Nat} {pos0 : Pos}
end
end L2
namespace L2
open PySem PySem.Spec PyProof.Rows
section
variable {K : PySem.W.Frag} {Er : Exc -> Hp -> Prop} {S : SC} {OO OO' OO1 OO2 : List (List XG)} {σ : St} {α β γ ρ ι δ ε : Type}
end
end L2
namespace L2
open PySem PySem.Spec PyProof.Rows
section
variable {X : Cx}
end
section
variable {K : PySem.W.Frag} {Er : Exc -> Hp -> Prop} {S : SC} {OO OO' OO1 OO2 : List (List XG)} {σ : St} {α β γ ρ ι δ ε : Type}
variable {Fd : Ends -> β -> Hp -> Prop} [fd : FdOk Fd] {u : TS}
end
end L2
namespace L2
open PySem PySem.Spec PyProof.Rows
section
variable {K : PySem.W.Frag} {Er : Exc -> Hp -> Prop} {S : SC} {OO OO' OO1 OO2 : List (List XG)} {σ : St} {α β γ ρ ι δ ε : Type} {u : TS}
end
end L2
namespace L2
open PySem PySem.Spec PyProof.Rows
section
variable {X : Cx}
end
section
variable {K : PySem.W.Frag} {Er : Exc -> Hp -> Prop} {S : SC} {OO : List (List XG)} {σ : St}
end
end L2
namespace L2
open PySem PySem.Spec PyProof.Rows
section
variable {X : Cx} {pins : List (Addr × Obj)} {σ : St} {H : Hp} {s : Shared} {d : Addr} {o : Obj} {kvs : List (Key × V)}
end
end L2
namespace L2
open PySem PySem.Spec PyProof.Rows
section
variable {X : Cx}
end
section
variable {K : PySem.W.Frag} {Er : Exc -> Hp -> Prop} {S : SC} {OO OO' OO1 OO2 OO3 : List (List XG)} {σ : St} {α β γ ρ ι δ ε ζ : Type}
variable {Fd : Ends -> β -> Hp -> Prop} [fd : FdOk Fd] {u : TS}
instance {o : OE α} [m : FlatT o] : FlatT (oL o):=⟨fun s h9=>(by obtain ⟨p, xs, Cs, e, q, c⟩:=h9; exact ⟨p, xs, Cs, e, q.imp fun _ _ _ z=>m.flat s z, c⟩)⟩
noncomputable def oT3 (o : OE α) (q : OE β) (t : OE γ) : OE (α × β × γ):=fun K h v a C=>∃ p x y z C1 C2 C3, v = .ref p /\ h p = some (.tup [x, y, z]) /\ o K h x a.1 C1 /\ q K h y a.2.1 C2 /\ t K h z a.2.2 C3 /\ C = C1 ++ (C2 ++ C3)
instance {o : OE α} {q : OE β} {t : OE γ} [m : MonoO o] [n : MonoO q] [k : MonoO t] : MonoO (oT3 o q t):=⟨fun s h9=>(by obtain ⟨p, x, y, z, C1, C2, C3, e, h, h1, h2, h3, c⟩:=h9; exact ⟨p, x, y, z, C1, C2, C3, e, s _ _ h, m.mono s h1, n.mono s h2, k.mono s h3, c⟩)⟩
instance {o : OE α} {q : OE β} {t : OE γ} [m : FlatO o] [n : FlatO q] [k : FlatO t] : FlatO (oT3 o q t):=⟨fun s h9=>(by obtain ⟨p, x, y, z, C1, C2, C3, e, h, h1, h2, h3, c⟩:=h9; exact ⟨p, x, y, z, C1, C2, C3, e, s _ _ h rfl, m.flat s h1, n.flat s h2, k.flat s h3, c⟩)⟩
instance {o : OE α} {q : OE β} {t : OE γ} {ro : Enc α} {rq : Enc β} {rt : Enc γ} [m : FrzC o ro] [n : FrzC q rq] [k : FrzC t rt] : FrzC (oT3 o q t) (rP3 ro rq rt):=⟨fun ⟨p, x, y, z, C1, C2, C3, e, h, h1, h2, h3, c⟩ s hc=>by
  subst c
  exact ⟨p, x, y, z, e, s _ _ h, m.frz h1 s fun c hm=>hc c (by simp [hm]), n.frz h2 s fun c hm=>hc c (by simp [hm]), k.frz h3 s fun c hm=>hc c (by simp [hm])⟩⟩
end
end L2
namespace L2
open PySem PySem.Spec PyProof.Rows
section
variable {K : PySem.W.Frag} {Er : Exc -> Hp -> Prop} {S : SC} {OO OO' OO1 OO2 : List (List XG)} {σ : St} {α β γ ρ ι δ ε ζ : Type}
variable {Fd : Ends -> β -> Hp -> Prop} [fd : FdOk Fd] {u : TS}
end
end L2
namespace L2
open PySem PySem.Spec PyProof.Rows
section
variable {K : PySem.W.Frag} {Er : Exc -> Hp -> Prop} {S : SC} {OO OO' OO1 OO2 : List (List XG)} {σ : St} {α β γ ρ ι δ ε ζ : Type}
variable {Fd : Ends -> β -> Hp -> Prop} [fd : FdOk Fd] {u : TS}
end
end L2
namespace L2
open PySem PySem.Spec PyProof.Rows
section
variable {K : PySem.W.Frag} {Er : Exc -> Hp -> Prop} {S : SC} {OO OO' OO1 OO2 : List (List XG)} {σ : St} {α β γ ρ ι δ ε ζ α1 α3 α4 : Type}
variable {Fd : Ends -> β -> Hp -> Prop} [fd : FdOk Fd] {u : TS}
end
end L2
namespace L2
open PySem
noncomputable def Inc (xs : Array Nat) : Prop:=xs.toList.Pairwise (· < ·)
theorem Inc.lt {xs : Array Nat} (h : Inc xs) {i j v u : Nat} (hij : i < j) (hi : xs[i]? = some v) (hj : xs[j]? = some u) : v < u:=by
  rw [← Array.getElem?_toList] at hi hj
  obtain ⟨a, rfl⟩:=List.getElem?_eq_some_iff.mp hi
  obtain ⟨b, rfl⟩:=List.getElem?_eq_some_iff.mp hj
  exact List.pairwise_iff_getElem.mp h i j a b hij
theorem Inc.le {xs : Array Nat} (h : Inc xs) {i j v u : Nat} (hij : i <= j) (hi : xs[i]? = some v) (hj : xs[j]? = some u) : v <= u:=by
  rcases Nat.lt_or_eq_of_le hij with z | z
  . exact Nat.le_of_lt (h.lt z hi hj)
  . subst z; rw [hi] at hj; cases hj; exact Nat.le_refl _
theorem VQ {xs : Array Nat} (hx : Inc xs) (j : Nat) : ∀ (fuel lo hi : Nat), hi - lo <= fuel -> lo <= hi -> hi <= xs.size -> (∀ i v, i < lo -> xs[i]? = some v -> v < j) -> (∀ i v, hi <= i -> xs[i]? = some v -> j <= v) ->
    SetTable.below.go xs j fuel lo hi <= hi /\ (∀ i v, i < SetTable.below.go xs j fuel lo hi -> xs[i]? = some v -> v < j) /\ (∀ i v, SetTable.below.go xs j fuel lo hi <= i -> xs[i]? = some v -> j <= v)
  | 0, lo, hi, h, h1, h2, a, b=>by
    have e : lo = hi:=by omega
    subst e
    exact ⟨Nat.le_refl _, a, b⟩
  | fuel + 1, lo, hi, h, h1, h2, a, b=>by
    unfold SetTable.below.go
    by_cases hlt : lo < hi
    . have hm : (lo + hi) / 2 < xs.size := by omega
      have hg : xs[(lo + hi) / 2]? = some (xs.getD ((lo + hi) / 2) j):=by simp [hm]
      simp only [if_pos hlt]
      by_cases hc : xs.getD ((lo + hi) / 2) j < j
      . rw [if_pos hc]
        exact VQ hx j fuel _ hi (by omega) (by omega) h2 (fun i v hi' e=>Nat.lt_of_le_of_lt (hx.le (by omega) e hg) hc) b
      . rw [if_neg hc]
        obtain ⟨p, q, r⟩:=VQ hx j fuel lo ((lo + hi) / 2) (by omega) (by omega) (by omega) a (fun i v hi' e=>Nat.le_trans (Nat.le_of_not_lt hc) (hx.le hi' hg e))
        exact ⟨by omega, q, r⟩
    . simp only [if_neg hlt]
      have e : lo = hi:=by omega
      subst e
      exact ⟨Nat.le_refl _, a, b⟩
theorem QQ {xs : Array Nat} (hx : Inc xs) (j : Nat) : SetTable.below xs j <= xs.size /\ (∀ i v, i < SetTable.below xs j -> xs[i]? = some v -> v < j) /\ (∀ i v, SetTable.below xs j <= i -> xs[i]? = some v -> j <= v):=
  VQ hx j xs.size 0 xs.size (by omega) (Nat.zero_le _) (Nat.le_refl _) (fun i v h=>absurd h (Nat.not_lt_zero _)) fun i v h e=>by
    rw [Array.getElem?_eq_none h] at e; cases e
theorem GO {xs : Array Nat} (hx : Inc xs) : SetTable.below xs 0 = 0:=by
  obtain ⟨a, b, c⟩:=QQ hx 0
  rcases Nat.eq_zero_or_pos (SetTable.below xs 0) with h | h
  . exact h
  . have hs : 0 < xs.size := by omega
    exact absurd (b 0 xs[0] h (by simp [hs])) (Nat.not_lt_zero _)
theorem GJ {xs : Array Nat} (hx : Inc xs) {i v : Nat} (e : xs[i]? = some v) : SetTable.below xs (v + 1) = i + 1:=by
  obtain ⟨a, b, c⟩:=QQ hx (v + 1)
  have h1 : i < SetTable.below xs (v + 1):=by
    rcases Nat.lt_or_ge i (SetTable.below xs (v + 1)) with h | h
    . exact h
    . exact absurd (c i v h e) (by omega)
  rcases Nat.lt_or_ge (i + 1) (SetTable.below xs (v + 1)) with h | h
  . have hs : i + 1 < xs.size := by omega
    have g : xs[i + 1]? = some xs[i + 1]:=by simp [hs]
    have:=b (i + 1) _ h g
    have:=hx.lt (Nat.lt_succ_self i) e g
    omega
  . omega
theorem GN {xs : Array Nat} (hx : Inc xs) {j : Nat} (hn : xs[SetTable.below xs j]? ≠ some j) : Inc (SetTable.insertAt xs (SetTable.below xs j) j):=by
  obtain ⟨a, b, c⟩:=QQ hx j
  generalize SetTable.below xs j = p at *
  unfold Inc
  rw [SetTable.toList_insertAt, List.pairwise_append, List.pairwise_cons]
  have hd : ∀ u ∈ xs.toList.drop p, j < u:=fun u hu=>by
    obtain ⟨k, e⟩:=List.getElem?_of_mem hu
    rw [List.getElem?_drop, Array.getElem?_toList] at e
    have h1:=c (p + k) u (Nat.le_add_right _ _) e
    rcases Nat.lt_or_eq_of_le h1 with z | z
    . exact z
    . subst z
      rcases Nat.eq_zero_or_pos k with z | z
      . subst z; exact absurd e hn
      . have hs : p < xs.size:=by
          have:=(Array.getElem?_eq_some_iff.mp e).1
          omega
        have g : xs[p]? = some xs[p]:=by simp [hs]
        have h2:=c p _ (Nat.le_refl _) g
        have h3:=hx.lt (show p < p + k by omega) g e
        omega
  have ht : ∀ u ∈ xs.toList.take p, u < j:=fun u hu=>by
    obtain ⟨k, e⟩:=List.getElem?_of_mem hu
    rw [List.getElem?_take] at e
    split at e
    . rename_i hk
      rw [Array.getElem?_toList] at e
      exact b k u hk e
    . cases e
  refine ⟨List.Pairwise.sublist (List.take_sublist _ _) hx, ⟨hd, List.Pairwise.sublist (List.drop_sublist _ _) hx⟩, fun u hu y hy=>?_⟩
  rcases List.mem_cons.mp hy with z | z
  . rw [z]; exact ht u hu
  . exact Nat.lt_trans (ht u hu) (hd y z)
structure TOk (t : SetTable) (led : Bool) : Prop where
  inc : Inc t.place
  dum : t.dummies = #[]
  led : t.led = led
theorem TOk.fresh (f m : Nat) (led : Bool) : TOk (.fresh f m led) led:=⟨List.Pairwise.nil, rfl, rfl⟩
theorem TOk.standIn {t : SetTable} {led : Bool} (h : TOk t led) (n : Nat) : TOk (t.standIn n) led:=⟨by unfold Inc SetTable.standIn; simpa using List.pairwise_lt_range, rfl, h.led⟩
theorem Ux {t : SetTable} (hd : t.dummies = #[]) (j : Nat) : (t.slot j = .empty -> t.place[SetTable.below t.place j]? ≠ some j) /\ t.slot j ≠ .dummy:=by
  unfold SetTable.slot
  have hh : SetTable.has t.dummies j = false:=by rw [hd]; simp [SetTable.has]
  simp only [hh]
  by_cases h : t.place[SetTable.below t.place j]? = some j
  . simp [h]
  . simp [h]
theorem Jx {t : SetTable} (hd : t.dummies = #[]) {f : Nat -> Int} {h : Int} {j : Nat} {d : Option Nat} : ∀ (fuel : Nat) (p : SetTable.Probe), p.dummy = none -> SetTable.probe.go t f h fuel p = some (.empty j d) -> d = none /\ t.slot j = .empty
  | 0, p, _, e=>by cases e
  | fuel + 1, p, hp, e=>by
    unfold SetTable.probe.go at e
    have adv : (t.advance p).dummy = none:=by unfold SetTable.advance; split <;> exact hp
    cases hs : t.slot p.j with
    | empty=>rw [hs] at e; cases e; exact ⟨hp, hs⟩
    | dummy=>exact absurd hs (Ux hd _).2
    | live i=>
      rw [hs] at e
      dsimp only at e
      split at e
      . cases e
      . exact Jx hd fuel _ adv e
theorem DS {t : SetTable} {led : Bool} (h : TOk t led) (es : Array (Int × Value)) (k : Int) (x : Value) : TOk (layNew t es k x).2.1 led:=by
  unfold layNew
  cases hf : t.freeSlot k with
  | none=>exact h.standIn _
  | some q=>
    obtain ⟨sl, wd⟩:=q
    dsimp only
    have hk : TOk (t.put sl).1 led:=by
      unfold SetTable.freeSlot at hf
      cases hp : t.probe (fun _=>k + 1) k (t.probeStart k) with
      | none=>rw [hp] at hf; cases hf
      | some m=>
        rw [hp] at hf
        cases m with
        | candidate=>cases hf
        | empty j d=>
          obtain ⟨rfl, hs⟩:=Jx h.dum _ _ rfl hp
          cases hf
          have hh : SetTable.has t.dummies j = false:=by rw [h.dum]; simp [SetTable.has]
          refine ⟨GN h.inc ((Ux h.dum j).1 hs), ?_, h.led⟩
          show (if SetTable.has t.dummies j then _ else t.dummies) = #[]
          rw [hh]; exact h.dum
    unfold SetTable.orStandIn
    split
    . exact hk
    . exact hk.standIn _
theorem Kq {t : SetTable} {led : Bool} (h : TOk t led) (es : Array (Int × Value)) (k : Nat) : TOk (relayAll t es k).2.1 led:=by
  unfold relayAll
  cases hr : t.relaid (es.map (·.1)) k with
  | none=>exact h.standIn _
  | some q=>
    obtain ⟨t', ord⟩:=q
    dsimp only
    split
    . unfold SetTable.relaid SetTable.laid at hr
      cases ho : SetTable.layClean (SetTable.sizeAbove k - 1) (es.map (·.1)) with
      | none=>rw [ho] at hr; cases hr
      | some ow=>
        rw [ho] at hr
        cases hr
        refine ⟨?_, rfl, h.led⟩
        unfold Inc
        show List.Pairwise (· < ·) (List.map (·.1) ((List.range _).filterMap fun j=>(ow.getD j none).map (j, ·)))
        rw [List.map_filterMap]
        have e : (fun j=>Option.map (fun x : Nat × Nat=>x.1) ((ow.getD j none).map (j, ·))) = fun j=>if (ow.getD j none).isSome then some j else none:=by
          funext j
          cases ow.getD j none <;> rfl
        rw [e]
        refine List.Pairwise.filterMap _ (fun a a' hlt b hb b' hb'=>?_) List.pairwise_lt_range
        split at hb
        . split at hb'
          . cases hb; cases hb'; exact hlt
          . cases hb'
        . cases hb
    . exact h.standIn _
end L2
namespace L2
open PySem PySem.Spec PyProof.Rows
theorem Bf {vs : List Value} {ms : List Int} (h : IntsAre vs ms) (k : Int) : (∃ v ∈ vs, Value.isInt k v = true) ↔ k ∈ ms:=by
  induction h with
  | nil=>simp
  | cons n t _ ih=>
    rw [List.mem_cons, ← ih]
    constructor
    . rintro ⟨v, hv, e⟩
      rcases List.mem_cons.mp hv with z | z
      . subst z; obtain ⟨t', e'⟩:=Value.isInt_shape e; cases e'; exact .inl rfl
      . exact .inr ⟨v, z, e⟩
    . rintro (z | ⟨v, hv, e⟩)
      . subst z; exact ⟨_, .head _, beq_self_eq_true _⟩
      . exact ⟨v, .tail _ hv, e⟩
theorem JS {vs vs' : List Value} (p : vs'.Perm vs) : ∀ {ms : List Int}, IntsAre vs ms -> ∃ ms', IntsAre vs' ms' /\ ms'.Perm ms:=by
  induction p with
  | nil=>intro ms h; exact ⟨ms, h, .refl _⟩
  | cons x _ ih=>
    intro ms h
    cases h with
    | cons n t h=>obtain ⟨m, a, b⟩:=ih h; exact ⟨n :: m, .cons n t a, b.cons _⟩
  | swap x y l=>
    intro ms h
    cases h with
    | cons n t h=>cases h with
      | cons m u h=>exact ⟨_, .cons m u (.cons n t h), .swap ..⟩
  | trans _ _ ih1 ih2=>
    intro ms h
    obtain ⟨m, a, b⟩:=ih2 h
    obtain ⟨m', a', b'⟩:=ih1 a
    exact ⟨m', a', b'.trans b⟩
theorem Dh {vs : List Value} {ms : List Int} (h : IntsAre vs ms) (k : Int) (t : Tok) : IntsAre (vs ++ [.int k t]) (ms ++ [k]):=by
  induction h with
  | nil=>exact .cons k t .nil
  | cons n u _ ih=>exact .cons n u ih
noncomputable def dd (l : List Int) : List Int:=l.foldl step_dedup []
structure SCore (prog : Program) (w : World) (es : Array (Int × Value)) (t : SetTable) (ns : List Int) : Prop where
  el : ElemsOf (intKind prog w) es.toList
  pm : ∃ ms, IntsAre (es.toList.map (·.2)) ms /\ ms.Perm ns
  sz : es.size < scanBound
  fit : t.fits es.size = true
  tok : TOk t (!w.params.followText "set-order")
noncomputable def VA (prog : Program) (w : World) (h : Heap) (a : Addr) (ns : List Int) : Prop:=
  ∃ o es ep t, h.get? a = some o /\ o.ExactSet /\ o.data = .set es ep t /\ SCore prog w es t ns
section
variable {prog : Program} {w : World} {A : Around} {E : Value -> Shared -> Prop} {s : Shared} {a : Addr} {ns : List Int}
theorem SCore.len {es : Array (Int × Value)} {t : SetTable} (c : SCore prog w es t ns) : es.size = ns.length:=by
  obtain ⟨ms, a, b⟩:=c.pm
  rw [← b.length_eq, ← IntsAre.length a, List.length_map, Array.length_toList]
theorem SCore.mem {es : Array (Int × Value)} {t : SetTable} (c : SCore prog w es t ns) (k : Int) : (∃ e ∈ es.toList, Value.isInt k e.2 = true) ↔ k ∈ ns:=by
  obtain ⟨ms, a, b⟩:=c.pm
  rw [← b.mem_iff, ← Bf a k]
  constructor
  . rintro ⟨e, h, z⟩; exact ⟨e.2, List.mem_map_of_mem h, z⟩
  . rintro ⟨v, h, z⟩
    obtain ⟨e, h1, rfl⟩:=List.mem_map.mp h
    exact ⟨e, h1, z⟩
theorem SCore.perm {es es' : Array (Int × Value)} {t t' : SetTable} (c : SCore prog w es t ns) (p : es'.toList.Perm es.toList) (f : t'.fits es'.size = true) (k : TOk t' (!w.params.followText "set-order")) : SCore prog w es' t' ns:=by
  obtain ⟨ms, a, b⟩:=c.pm
  obtain ⟨m, a', b'⟩:=JS (p.map (·.2)) a
  have e : es'.size = es.size:=by rw [← Array.length_toList, p.length_eq, Array.length_toList]
  exact ⟨c.el.perm p, ⟨m, a', b'.trans b⟩, by rw [e]; exact c.sz, f, k⟩
theorem VA.put {h : Heap} {o : Obj} {es es' : Array (Int × Value)} {ep : Nat} {t t' : SetTable} (ho : h.get? a = some o) (hx : o.ExactSet) (hd : o.data = .set es ep t) :
    (h.update a (Obj.putSet es' t')).get? a = some { o with data:=.set es' (ep + 1) t' } /\ (SCore prog w es' t' ns -> VA prog w (h.update a (Obj.putSet es' t')) a ns):=by
  have g:=Heap.get?_update_self (Obj.putSet es' t') ho (by rw [putSet_of es' t' hd]; rfl)
  rw [putSet_of es' t' hd] at g
  exact ⟨g, fun c=>⟨_, _, _, _, g, hx, rfl, c⟩⟩
theorem B6 {k : Int} {tk : Tok} {Q : Bool -> Shared -> Prop} (hS : VA prog w s.heap a ns) (hr : ns.length + 1 < scanBound)
    (h : ∀ b h', Heap.SameBut a s.heap h' -> VA prog w h' a (step_dedup ns k) -> Q b { s with heap:=h' }) : wpAny (model prog w) A (setAddHashed a (.int k tk) ((intKind prog w).hash k)) Q E s:=by
  obtain ⟨o, es, ep, t, ho, hx, hd, c⟩:=id hS
  have hk : (intKind prog w).is k (.int k tk) = true:=intKind_is _ _ _ _
  unfold setAddHashed setAddHashedIn
  refine wpAny_holding (wpAny_bind (wpAny_setState_of ho hd c.fit ?_))
  dsimp only
  rw [byScan_of (knd:=intKind prog w) rfl c.sz c.el]
  simp only [↓reduceIte]
  unfold setAddByScan
  refine wpAny_bind (wpAny_bind (wpAny_rule (wpAny_bind (wpAny_setScan_of hk ho hd c.fit c.el ?_))))
  cases hf : List.findIdx? (fun e=>(intKind prog w).is k e.2) es.toList with
  | some j=>
    obtain ⟨hj, hp, _⟩:=List.findIdx?_eq_some_iff_getElem.mp hf
    have hm : k ∈ ns:=(c.mem k).mp ⟨_, List.getElem_mem hj, hp⟩
    have e : step_dedup ns k = ns:=if_pos (List.any_eq_true.mpr ⟨k, hm, by simp⟩)
    exact wpAny_pure (wpAny_pure (h _ s.heap (Heap.SameBut.refl a s.heap) (by rw [e]; exact hS)))
  | none=>
    have hm : k ∉ ns:=fun hm=>by
      obtain ⟨e, he, hp⟩:=(c.mem k).mpr hm
      have:=List.findIdx?_eq_none_iff.mp hf e he
      rw [show (intKind prog w).is k e.2 = true from hp] at this
      cases this
    have e : step_dedup ns k = ns ++ [k]:=if_neg (fun z=>by
      obtain ⟨x, hx, ex⟩:=List.any_eq_true.mp z
      rw [beq_iff_eq] at ex; subst ex; exact hm hx)
    rw [e] at h
    dsimp only
    have hg : ∀ (b : Bool) {s₁ : Shared} {Q' : Unit -> Shared -> Prop}, Q' () s₁ -> wpAny (model prog w) A (match b with | true=>rule "set.scan.the-table-gave-way" | false=>pure ()) Q' E s₁:=
      fun b s₁ Q' q=>by cases b <;> first | exact wpAny_pure q | exact wpAny_rule q
    have hp:=layNew_perm t es ((intKind prog w).hash k) (.int k tk)
    have hfit:=layNew_fits t es ((intKind prog w).hash k) (.int k tk)
    have ht:=DS c.tok es ((intKind prog w).hash k) (.int k tk)
    generalize layNew t es ((intKind prog w).hash k) (.int k tk) = L at hp hfit ht ⊢
    obtain ⟨es1, t1, wd, gv⟩:=L
    dsimp only at hp hfit ht ⊢
    have hsz : es1.size = es.size + 1:=by rw [← Array.length_toList, hp.length_eq]; simp
    have c1 : SCore prog w es1 t1 (ns ++ [k]):=by
      obtain ⟨ms, i1, i2⟩:=c.pm
      rw [Array.toList_push] at hp
      have hp2:=hp.map (·.2)
      rw [List.map_append] at hp2
      obtain ⟨m, j1, j2⟩:=JS hp2 (Dh i1 k tk)
      exact ⟨(c.el.push hk rfl).perm hp, ⟨m, j1, j2.trans (i2.append_right _)⟩, by rw [hsz, c.len]; exact hr, hfit, ht⟩
    refine wpAny_bind (hg gv ?_)
    have tail : ∀ {Q1 : Option Bool -> Shared -> Prop}, (∀ h', Heap.SameBut a s.heap h' -> VA prog w h' a (ns ++ [k]) -> Q1 (some true) { s with heap:=h' }) -> wpAny (model prog w) A (do
        storeSet a es1 t1
        if (!wd && t1.tooFull) = true then do
            (match (relayAll t1 es1 (SetTable.grown es1.size)).2.2 with | true=>rule "set.scan.the-table-gave-way" | false=>pure ())
            storeSet a (relayAll t1 es1 (SetTable.grown es1.size)).1 (relayAll t1 es1 (SetTable.grown es1.size)).2.1
            pure (some true)
          else pure (some true)) Q1 E s:=fun {Q1} q=>by
      obtain ⟨g1, s1⟩:=VA.put (prog:=prog) (w:=w) (ns:=ns ++ [k]) (es':=es1) (t':=t1) ho hx hd
      refine wpAny_bind (wpAny_storeSet_of ho hd ?_ (fits_of_scanBound c1.sz))
      split
      . refine wpAny_bind (hg _ ?_)
        have p2:=relayAll_perm t1 es1 (SetTable.grown es1.size)
        have f2:=relayAll_fits t1 es1 (SetTable.grown es1.size)
        have k2:=Kq ht es1 (SetTable.grown es1.size)
        generalize relayAll t1 es1 (SetTable.grown es1.size) = Z at p2 f2 k2 ⊢
        obtain ⟨es2, t2, gv2⟩:=Z
        have c2:=c1.perm p2 f2 k2
        refine wpAny_bind (wpAny_storeSet_of g1 rfl ?_ (fits_of_scanBound c2.sz))
        exact wpAny_pure (q _ ((Heap.SameBut.update s.heap a _).trans (Heap.SameBut.update _ a _)) ((VA.put g1 hx rfl).2 c2))
      . exact wpAny_pure (q _ (Heap.SameBut.update s.heap a _) (s1 c1))
    have fin : ∀ h', Heap.SameBut a s.heap h' -> VA prog w h' a (ns ++ [k]) -> Q true { s with heap:=h' }:=fun h' sb z=>h true h' sb z
    split
    . refine wpAny_bind ?_
      rw [hashByValue_scannable 8 (x:=.int k tk) rfl]
      refine wpAny_pure ?_
      exact tail fun h' sb z=>wpAny_pure (fin h' sb z)
    . refine wpAny_bind (wpAny_pure ?_)
      exact tail fun h' sb z=>wpAny_pure (fin h' sb z)
end
end L2
namespace L2
open PySem PySem.Spec PyProof.Rows
section
variable {prog : Program} {w : World} {A : Around} {E : Value -> Shared -> Prop} {s : Shared}
theorem VA.at {h h' : Heap} {a : Addr} {ns : List Int} (x : VA prog w h a ns) (k : ∀ o, h.get? a = some o -> h'.get? a = some o) : VA prog w h' a ns:=
  let ⟨o, es, ep, t, ho, r⟩:=x; ⟨o, es, ep, t, k o ho, r⟩
theorem EN (l : List Int) (k : Int) : dd (l ++ [k]) = step_dedup (dd l) k:=by unfold dd; rw [List.foldl_append]; rfl
theorem UO (l : List Int) : (dd l).length <= l.length:=by
  suffices h : ∀ (l a : List Int), (l.foldl step_dedup a).length <= a.length + l.length by unfold dd; simpa using h l []
  intro l
  induction l with
  | nil=>intro a; exact Nat.le_refl _
  | cons x l ih=>
    intro a
    refine Nat.le_trans (ih _) ?_
    rw [step_length, List.length_cons]
    split <;> omega
theorem Eg {R : Result -> Shared -> Prop} {I l S : Addr} {items : List Value} {ns : List Int} (hh : A.in1.handled = none) (hi : IntsAre items ns) (hb : ns.length + 1 < scanBound) (h1 : S ≠ I) (h2 : S ≠ l) (h3 : l ≠ I) :
    ∀ (k i : Nat) (s : Shared), items.length - i = k -> i <= items.length -> s.heap.IsListIter I l i -> s.heap.IsList l items.toArray -> VA prog w s.heap S (dd (ns.take i)) ->
      (∀ h' tk, VA prog w h' S (dd ns) -> (∀ b o, b ≠ S -> b ≠ I -> s.heap.get? b = some o -> h'.get? b = some o) -> R (.ok (.ret .none)) { s with heap:=h', toks:=tk }) ->
      codeAny (model prog w) A (.builtin "set.update.loop" ⟨[.ref S, .ref I], []⟩) R s:=by
  have hln:=IntsAre.length hi
  intro k
  induction k with
  | zero=>
    intro i s hk hle hit hl hS hR
    have e : i = items.length:=by omega
    subst e
    refine codeAny_builtin PyProof.Rows.F.entry_set_update_loop ?_
    rw [Around.under_plainId PyProof.Rows.F.plain_set_update_loop _]
    show wpAny _ A.in1 (pyNext (.ref I) >>= _) _ _ s
    refine wpAny_bind (wpAny_pyNext_list_end hh hit hl (by simp) fun h' ext=>?_)
    show wpAny _ A.in1 (ret Value.none) _ _ _
    rw [List.take_of_length_le (by omega)] at hS
    exact wpAny_pure (hR h' _ (hS.at fun o ho=>ext S o h1 ho) fun b o _ hbI e=>ext b o hbI e)
  | succ k ih=>
    intro i s hk hle hit hl hS hR
    have hlt : i < items.length:=by omega
    obtain ⟨tk, ev⟩:=IntsAre.int_at hi i items[i] (List.getElem?_eq_getElem hlt)
    have hi2 : i < ns.length:=by omega
    have eg : ns.getD i 0 = ns[i]:=by simp [hi2]
    rw [eg] at ev
    refine codeAny_builtin PyProof.Rows.F.entry_set_update_loop ?_
    rw [Around.under_plainId PyProof.Rows.F.plain_set_update_loop _]
    show wpAny _ A.in1 (pyNext (.ref I) >>= _) _ _ s
    refine wpAny_bind (wpAny_pyNext_list_item hit hl (x:=items[i]) (by simp [hlt]) fun h' hit' sb=>?_)
    rw [ev]
    show wpAny _ A.in1 (holding [Value.int ns[i] tk] (setAdd S (.int ns[i] tk)) >>= _) _ _ _
    refine wpAny_bind (wpAny_holding ?_)
    unfold setAdd
    refine wpAny_holding (wpAny_bind ((intKind prog w).pyHash (k:=ns[i]) (intKind_is _ _ _ _) ?_))
    have hS' : VA prog w h' S (dd (ns.take i)):=hS.at fun o ho=>(sb.2 S h1).trans ho
    refine B6 (s:={ s with heap:=h', toks:=s.toks + 1 }) hS' (by have:=UO (ns.take i); rw [List.length_take] at this; omega) fun b h2' sb2 hS2=>?_
    rw [← EN, ← List.take_succ_eq_append_getElem hi2] at hS2
    refine wpAny_pure ⟨plainId_quiet PyProof.Rows.F.plain_set_update_loop _, ih (i + 1) _ (by omega) hlt (hit'.at fun o ho=>(sb2.2 I (Ne.symm h1)).trans ho) (hl.at fun o ho=>(sb2.2 l (Ne.symm h2)).trans ((sb.2 l h3).trans ho)) hS2 fun h3' tk' hS3 keep=>?_⟩
    exact hR h3' tk' hS3 fun b o hbS hbI e=>keep b o hbS hbI ((sb2.2 b hbS).trans ((sb.2 b hbI).trans e))
theorem C0 (v : Value) {Q : Value -> Shared -> Prop}
    (h : Q (.ref s.heap.objs.size) { s with heap:=s.heap.push { cls:=.type "set", dict:=none, data:=.set #[] 0 (.fresh 0 0 (!w.params.followText "set-order")) } }) :
    codeAny (model prog w) A (.call (.builtin "set.__new__") ⟨[.type "set", v], []⟩) (wants Q E) s:=by
  refine codeAny_of_tree ?_
  show wpAny _ A.in1 (do checkBuiltinCall "set.__new__" ⟨[.type "set", v], []⟩; again (.builtin "set.__new__" ⟨[.type "set", v], []⟩)) _ _ s
  refine wpAny_bind (wpAny_of_eq (F.newCall_set_1 v) (wpAny_pure ⟨plainId_quiet F.plain_set_new _, codeAny_builtin F.entry_set_new ?_⟩))
  rw [Around.under_plainId F.plain_set_new _]
  unfold Builtin.«set.__new__» Builtin.Frozenset.newClass
  have hsub:=sub_set_self
  obtain ⟨hp, g, d, tk, os⟩:=s
  dsimp only
  wp_walk
  refine wpAny_askSetting (wpAny_pure ?_)
  dsimp only
  simp only [newObj]
  refine wpAny_bind (wpAny_alloc (wpAny_pure ?_))
  exact wpAny_pure h
set_option maxHeartbeats 3200000 in
theorem Fx {l : Addr} {items : List Value} {ns : List Int} {Q : Value -> Shared -> Prop} (hh : A.handled = none) (hl : s.heap.IsList l items.toArray) (hi : IntsAre items ns) (hb : ns.length + 1 < scanBound)
    (h : ∀ h' tk, VA prog w h' s.heap.objs.size (dd ns) -> (∀ b o, s.heap.get? b = some o -> h'.get? b = some o) -> Q (.ref s.heap.objs.size) { s with heap:=h', toks:=tk }) :
    wpAny (model prog w) A (call (.type "set") [.ref l]) Q E s:=by
  obtain ⟨c, tl, hmro⟩:=F.called_set.mro
  have hmade:=F.called_set.made
  have hsub:=F.called_set.sub
  refine wpAny_call (codeAny_of_tree ?_)
  show wpAny _ _ (callAny (.type "set") _) _ _ _
  refine wpAny_pure ⟨Code.quiet_builtin _ (by decide +kernel), codeAny_builtin F.entry_type_call ?_⟩
  rw [Around.under_plain (weight_type_call_type "set" [.ref l] []) rfl]
  have h1:=F.called_set.notType
  have h2:=F.called_set.canCreate
  have hct:=F.typeCall_set_1 (.ref l)
  repeat (any_goals (first | assumption | wp_step))
  generalize hob : ({ cls:=.type "set", dict:=none, data:=.set #[] 0 (.fresh 0 0 (!w.params.followText "set-order")) } : Obj) = ob
  refine codeAny_mono (C0 (.ref l) (E:=E) (Q:=fun obj s₁=>obj = .ref s.heap.objs.size /\ s₁ = { s with heap:=s.heap.push ob }) ⟨rfl, by rw [hob]⟩) fun r s₁ hr=>?_
  cases r with
  | error e=>exact hr
  | ok fl=>
    cases fl with
    | ret obj=>
      obtain ⟨rfl, rfl⟩:=hr
      have hS : (s.heap.push ob).get? s.heap.objs.size = some ob:=Heap.get?_push_size _ (by rw [← hob]; rfl)
      have hT : Shared.TypeIs { s with heap:=s.heap.push ob } (.ref s.heap.objs.size) "set":=⟨_, hS, by rw [← hob]⟩
      have hli:=F.called_set.init.lookup
      have hbi:=F.called_set.init.bind (.ref s.heap.objs.size)
      repeat (any_goals (first | assumption | wp_step))
      refine codeAny_mono (codeAny_call_builtin (R:=wants (fun r s₂=>r = .none /\ ∃ h' tk, s₂ = { s with heap:=h', toks:=tk } /\ VA prog w h' s.heap.objs.size (dd ns) /\ (∀ b o, s.heap.get? b = some o -> h'.get? b = some o)) E) F.called_set.init.plain F.entry_set_init (check_set_init_1 hT ?_)) fun r₂ s₂ hr₂=>?_
      . have hS0 : VA prog w (s.heap.push ob) s.heap.objs.size [] := ⟨_, #[], 0, _, hS, by rw [← hob]; exact ⟨rfl, rfl, rfl⟩, by rw [← hob], ⟨fun e he => by simp at he, ⟨[], .nil, .refl _⟩, by decide, by rfl, .fresh ..⟩⟩
        obtain ⟨ol, hol, hcl, nl, hdl⟩:=hl
        obtain ⟨ocls, odict, odata, oslots⟩:=ol
        simp only at hcl hdl
        subst hcl; subst hdl
        have hol' : (s.heap.push ob).get? l = some { cls:=.type "list", dict:=odict, data:=.seq items.toArray nl, slots:=oslots }:=Heap.get?_push_of_some _ hol
        have hsls:=F.sub_list_set
        have hslf:=F.sub_list_frozenset
        have hne : (Value.type "list" == Value.type "dict") = false:=by decide
        have hl1 : (s.heap.push ob).IsList l items.toArray:=⟨_, hol', rfl, nl, rfl⟩
        subst hob
        unfold Builtin.«set.__init__» noKeywords Builtin.Frozenset.updateFrom
        generalize hPI : pyIter = PI
        wp_walk
        subst hPI
        refine wpAny_pyIter_list hl1 ?_
        refine wpAny_bind (wpAny_runValue ?_)
        have hlS : l < s.heap.objs.size:=Heap.lt_size hol
        generalize hob : ({ cls:=.type "set", dict:=none, data:=.set #[] 0 (.fresh 0 0 (!w.params.followText "set-order")) } : Obj) = ob at *
        have hI : (s.heap.push ob).objs.size = s.heap.objs.size + 1:=Heap.size_push ..
        refine Eg (ns:=ns) (l:=l) (by simp [hh]) hi hb (by rw [hI]; exact Nat.ne_of_lt (Nat.lt_succ_self _)) (Nat.ne_of_gt hlS) (by rw [hI]; exact Nat.ne_of_lt (Nat.lt_succ_of_lt hlS)) (items.length - 0) 0 _ rfl (Nat.zero_le _)
          ⟨_, Heap.get?_push_size _ rfl, rfl, rfl⟩ (hl1.push _) (hS0.at fun o ho=>Heap.get?_push_of_some _ ho) fun h' tk hS' keep=>?_
        show wpAny _ _ _ _ _ _
        refine wpAny_pure ?_
        show wpAny _ _ (ret Value.none) _ _ _
        exact wpAny_pure ⟨rfl, h', tk, rfl, hS', fun b o e=>keep b o (Nat.ne_of_lt (Heap.lt_size e)) (by rw [hI]; exact Nat.ne_of_lt (Nat.lt_succ_of_lt (Heap.lt_size e))) (Heap.get?_push_of_some _ (Heap.get?_push_of_some _ e))⟩
      . cases r₂ with
        | error e=>exact hr₂
        | ok fl₂=>
          cases fl₂ with
          | ret r=>
            obtain ⟨rfl, h', tk, rfl, hS', hk'⟩:=hr₂
            repeat (any_goals (first | assumption | wp_step))
            exact h _ _ hS' hk'
          | _=>exact hr₂.elim
    | _=>exact hr.elim
end
end L2
namespace L2
open PySem PySem.Spec PyProof.Rows
theorem XI : Slot "set_iterator" "__next__" "set_iterator.__next__":=
  .of (owner:="set_iterator") (n:="__next__") (by rw [typeLookup_type, builtinLookup_eq_fast]; kernel_rfl) (by decide +kernel) (by decide +kernel) (by decide +kernel)
    (by first | exact .inl (by decide +kernel) | exact .inr (by decide +kernel)) (by rw [isSubtype_type]; kernel_rfl)
theorem Zi : entryFor table "set_iterator.__next__" = some Builtin.«set_iterator.__next__»:=entryFor_of_fast (by kernel_rfl)
theorem ZA (a : Value) : argsOk "set_iterator.__next__" ⟨[a], []⟩:=by unfold argsOk; kernel_rfl
theorem Zw : Slot "set_iterator" "__iter__" "set_iterator.__iter__":=
  .of (owner:="set_iterator") (n:="__iter__") (by rw [typeLookup_type, builtinLookup_eq_fast]; kernel_rfl) (by decide +kernel) (by decide +kernel) (by decide +kernel)
    (by first | exact .inl (by decide +kernel) | exact .inr (by decide +kernel)) (by rw [isSubtype_type]; kernel_rfl)
theorem QP (a : Value) : argsOk "set_iterator.__iter__" ⟨[a], []⟩:=by unfold argsOk; kernel_rfl
theorem Qd : Slot "set" "__iter__" "set.__iter__":=
  .of (owner:="set") (n:="__iter__") (by rw [typeLookup_type, builtinLookup_eq_fast]; kernel_rfl) (by decide +kernel) (by decide +kernel) (by decide +kernel)
    (by first | exact .inl (by decide +kernel) | exact .inr (by decide +kernel)) (by rw [isSubtype_type]; kernel_rfl)
theorem JB : entryFor table "set.__iter__" = some Builtin.«frozenset.__iter__»:=
  entryFor_alias (id':="frozenset.__iter__") (by kernel_rfl) rfl (by decide +kernel) (by kernel_rfl)
theorem QA : entryFor table "set_iterator.__iter__" = some Builtin.«dict_keyiterator.__iter__»:=
  entryFor_alias (id':="dict_keyiterator.__iter__") (by kernel_rfl) rfl (by decide +kernel) (by kernel_rfl)
theorem Vk (a : Value) : argsOk "set.__iter__" ⟨[a], []⟩:=by unfold argsOk; kernel_rfl
theorem V9 : Slot "set" "__len__" "set.__len__":=
  .of (owner:="set") (n:="__len__") (by rw [typeLookup_type, builtinLookup_eq_fast]; kernel_rfl) (by decide +kernel) (by decide +kernel) (by decide +kernel)
    (by first | exact .inl (by decide +kernel) | exact .inr (by decide +kernel)) (by rw [isSubtype_type]; kernel_rfl)
theorem QM {α : Type} : ∀ {l : List α} {i : Nat} (h : i < l.length), (l[i] :: l.eraseIdx i).Perm l
  | x :: l, 0, _=>.refl _
  | x :: l, i + 1, h=>(List.Perm.swap x (l[i]'(Nat.lt_of_succ_lt_succ h)) (l.eraseIdx i)).trans ((QM (Nat.lt_of_succ_lt_succ h)).cons x)
theorem Eu {α : Type} (next : Nat -> Nat) : ∀ (left : List α) (k : Nat) (out : Array α), (pickOrder.go next left.length k left out).toList.Perm (out.toList ++ left):=by
  intro left
  generalize hn : left.length = n
  induction n generalizing left with
  | zero=>intro k out; cases left with
    | nil=>simp [pickOrder.go]
    | cons=>cases hn
  | succ n ih=>
    intro k out
    have hlt : next k % left.length < left.length:=Nat.mod_lt _ (by omega)
    unfold pickOrder.go
    rw [List.getElem?_eq_getElem hlt]
    dsimp only
    have hp : (left[next k % left.length] :: left.eraseIdx (next k % left.length)).Perm left:=QM hlt
    refine (ih (left.eraseIdx (next k % left.length)) (by rw [List.length_eraseIdx]; simp [hlt]; omega) (k + 1) _).trans ?_
    rw [Array.toList_push, List.append_assoc]
    exact hp.append_left _
theorem DQ {α : Type} (next : Nat -> Nat) (xs : Array α) : (pickOrder next xs).toList.Perm xs.toList:=by
  have:=Eu next xs.toList 0 #[]
  rw [Array.length_toList] at this
  simpa [pickOrder] using this
section
variable {M : Model} {A : Around} {E : Value -> Shared -> Prop} {s : Shared}
theorem UK {src : Source} {n : Nat} {Q : Nat -> Shared -> Prop} (hn : n ≠ 0) (h : ∀ i d, i < n -> Q i { s with drawn:=d }) : wpAny M A (choose src n) Q E s:=fun Γ p hΓ=>by
  unfold choose
  rw [Sem.wp_choose]
  refine ⟨hn, ?_⟩
  rw [Sem.wp_pure]
  exact h _ _ (Nat.mod_lt _ (Nat.pos_of_ne_zero hn))
theorem Q0 {α : Type} : ∀ (n : Nat) (xs : List α) (s : Shared) {Q : List α -> Shared -> Prop}, xs.length = n -> (∀ ys d, ys.Perm xs -> Q ys { s with drawn:=d }) -> wpAny M A (drawOrder n xs) Q E s
  | 0, xs, s, Q, hn, h=>by
    cases xs with
    | nil=>exact wpAny_pure (h [] s.drawn (.refl _))
    | cons=>cases hn
  | n + 1, xs, s, Q, hn, h=>by
    cases xs with
    | nil=>cases hn
    | cons x xs=>
      unfold drawOrder
      refine wpAny_bind (UK (by simp) fun i d hi=>?_)
      rw [List.getElem?_eq_getElem hi]
      dsimp only
      refine wpAny_bind (Q0 n _ _ (by have h1 : i < xs.length + 1:=hi; rw [List.length_eraseIdx, List.length_cons, if_pos h1]; simpa using hn) fun ys d' hp=>?_)
      exact wpAny_pure (h _ d' ((hp.cons _).trans (QM hi)))
end
section
variable {prog : Program} {w : World} {A : Around} {E : Value -> Shared -> Prop} {s : Shared} {a : Addr} {o : Obj} {es : Array (Int × Value)} {ep : Nat} {t : SetTable}
theorem Qo {Q : Bool -> Shared -> Prop} (h : Q (w.params.followText "set-order") s) : wpAny (model prog w) A setsByText Q E s:=by
  unfold setsByText
  exact wpAny_bind (wpAny_askSetting (wpAny_pure h))
theorem QV {sl i : Nat} {Q : Option (Value × Nat) -> Shared -> Prop} (ho : s.heap.get? a = some o) (hd : o.data = .set es ep t) (hf : t.fits es.size = true) (hT : w.params.followText "set-order" = true)
    (h : Q (((pickOrder (w.params.setOrder a ep) es)[i]?).map fun e=>(e.2, sl)) s) : wpAny (model prog w) A (setNext a sl i ep) Q E s:=by
  unfold setNext
  refine wpAny_bind (wpAny_setState_of ho hd hf ?_)
  refine wpAny_bind (Qo ?_)
  rw [hT]
  simp only [if_true, bne_self_eq_false, Bool.false_eq_true, if_false]
  unfold setWalk
  refine wpAny_bind (wpAny_bind (wpAny_setState_of ho hd hf ?_))
  refine wpAny_bind (Qo ?_)
  rw [hT]
  simp only [if_true]
  exact wpAny_bind (wpAny_askSetting (wpAny_pure (wpAny_pure h)))
theorem Qz {sl i : Nat} {Q : Option (Value × Nat) -> Shared -> Prop} (ho : s.heap.get? a = some o) (hd : o.data = .set es ep t) (hf : t.fits es.size = true) (hT : w.params.followText "set-order" = false) (hp : (!t.plain && decide (es.size > 1)) = false) (hl : t.led = true)
    (h : Q (match es[SetTable.below t.place sl]?, t.place[SetTable.below t.place sl]? with | some (_, x), some j=>some (x, j + 1) | _, _=>none) s) : wpAny (model prog w) A (setNext a sl i ep) Q E s:=by
  unfold setNext
  refine wpAny_bind (wpAny_setState_of ho hd hf ?_)
  refine wpAny_bind (Qo ?_)
  rw [hT]
  show wpAny _ _ (if (!t.plain && decide (es.size > 1)) = true then _ else _) _ _ _
  rw [hp]
  simp only [Bool.false_eq_true, if_false]
  refine wpAny_bind ?_
  show wpAny _ _ (if (!t.led && !es.isEmpty) = true then _ else _) _ _ _
  rw [hl]
  simp only [Bool.not_true, Bool.false_and, Bool.false_eq_true, if_false]
  exact wpAny_pure (wpAny_pure h)
theorem Uf {pl : Nat} {x : Int × Value} {Q : Value -> Shared -> Prop} (ho : s.heap.get? a = some o) (hd : o.data = .set es ep t) (hf : t.fits es.size = true) (hx : es[pl]? = some x) (h : Q x.2 s) : wpAny (model prog w) A (setNextDrawn a pl ep) Q E s:=by
  unfold setNextDrawn
  refine wpAny_bind (wpAny_setState_of ho hd hf ?_)
  dsimp only
  rw [if_neg (by simp), hx]
  exact wpAny_pure h
end
end L2
namespace L2
open PySem PySem.Spec PyProof.Rows
section
variable {prog : Program} {w : World} {A : Around} {E : Value -> Shared -> Prop} {s : Shared} {a I tp : Addr} {o : Obj} {es : Array (Int × Value)} {ep : Nat} {t : SetTable} {L : List (Int × Value)}
inductive SMode (w : World) (a : Addr) (es : Array (Int × Value)) (ep : Nat) (t : SetTable) (tp : Addr) (L : List (Int × Value)) (h : Heap) (i : Nat) : Value -> Prop
  | text (sl : Nat) (hT : w.params.followText "set-order" = true) (hL : L = (pickOrder (w.params.setOrder a ep) es).toList) : SMode w a es ep t tp L h i (.int sl 0)
  | plain (sl : Nat) (hT : w.params.followText "set-order" = false) (hp : (!t.plain && decide (es.size > 1)) = false) (hL : L = es.toList) (hb : SetTable.below t.place sl = i) : SMode w a es ep t tp L h i (.int sl 0)
  | drawn (ps : List Nat) (hg : h.get? tp = some { cls:=.type "tuple", data:=.seq (ps.map fun i=>Value.int (i : Nat) 0).toArray }) (hn : ps.length = L.length) (hL : ∀ (i : Nat) pl, ps[i]? = some pl -> L[i]? = es[pl]?) : SMode w a es ep t tp L h i (.ref tp)
structure SIt (w : World) (I a : Addr) (es : Array (Int × Value)) (ep : Nat) (t : SetTable) (tp : Addr) (L : List (Int × Value)) (o : Obj) (i : Nat) (h : Heap) : Prop where
  it : ∃ ob first, h.get? I = some ob /\ ob.cls = .type "set_iterator" /\ ob.data = .fields #[first, .int i 0, .ref a, .int es.size 0, .int ep 0] /\ SMode w a es ep t tp L h i first
  st : h.get? a = some o
theorem SMode.at {h h' : Heap} {i : Nat} {v : Value} (m : SMode w a es ep t tp L h i v) (k : ∀ o, h.get? tp = some o -> h'.get? tp = some o) : SMode w a es ep t tp L h' i v:=by
  cases m with
  | text sl hT hL=>exact .text sl hT hL
  | plain sl hT hp hL hb=>exact .plain sl hT hp hL hb
  | drawn ps hg hn hL=>exact .drawn ps (k _ hg) hn hL
theorem QL {h : Heap} {ob : Obj} {v0 v1 v2 v3 v4 x : Value} (j : Nat) (hI : h.get? I = some ob) (hc : ob.cls = .type "set_iterator") (hd : ob.data = .fields #[v0, v1, v2, v3, v4]) :
    ∃ ob', (h.update I (Obj.mapFields (·.setIfInBounds j x))).get? I = some ob' /\ ob'.cls = .type "set_iterator" /\ ob'.data = .fields (#[v0, v1, v2, v3, v4].setIfInBounds j x):=
  ⟨_, Heap.get?_update_self _ hI (Obj.isFreed_of_fields (Obj.data_mapFields hd _)), (Obj.cls_mapFields ..).trans hc, by rw [Obj.data_mapFields hd]⟩
theorem GK (hd : o.data = .set es ep t) (hf : t.fits es.size = true) (hk : TOk t (!w.params.followText "set-order")) (hn : L.length = es.size) (hIa : a ≠ I) (hIt : tp ≠ I) {i : Nat} {e : Int × Value} {Q : Option Value -> Shared -> Prop}
    (st : SIt w I a es ep t tp L o i s.heap) (he : L[i]? = some e) (hQ : ∀ h', SIt w I a es ep t tp L o (i + 1) h' -> Heap.SameBut I s.heap h' -> Q (some e.2) { s with heap:=h' }) : wpAny (model prog w) A (pyNext (.ref I)) Q E s:=by
  obtain ⟨⟨ob, first, hI, hc, hdI, hm⟩, ha⟩:=st
  unfold pyNext
  refine wpAny_bind (wpAny_attempt (wpAny_callSpecial?_slot (name:=Str.ofString "__next__") ⟨_, hI, hc⟩ XI
    (wpAny_call_entry XI ⟨_, hI, hc⟩ Zi ?_ (ZA _))))
  unfold Builtin.«set_iterator.__next__»
  refine wpAny_bind (wpAny_pure ?_)
  refine wpAny_bind (wpAny_fieldsOf hI hdI ?_)
  dsimp only
  refine wpAny_bind (wpAny_setEntries_of ha hd hf ?_)
  rw [if_neg (by simp)]
  have stp : ∀ {v h'} , SMode w a es ep t tp L s.heap (i + 1) v -> Heap.SameBut I s.heap h' -> (∃ ob', h'.get? I = some ob' /\ ob'.cls = .type "set_iterator" /\ ob'.data = .fields #[v, .int ((i + 1 : Nat) : Int) 0, .ref a, .int es.size 0, .int ep 0]) -> SIt w I a es ep t tp L o (i + 1) h':=fun m sb ⟨ob', g1, g2, g3⟩=>
    ⟨⟨ob', _, g1, g2, g3, m.at fun o' e=>(sb.2 tp hIt).trans e⟩, (sb.2 a hIa).trans ha⟩
  cases hm with
  | text sl hT hL=>
    dsimp only
    refine wpAny_bind (QV ha hd hf hT ?_)
    have e1 : (pickOrder (w.params.setOrder a ep) es)[i]? = some e:=by rw [← Array.getElem?_toList, ← hL]; exact he
    simp only [Int.toNat_natCast, e1, Option.map_some]
    obtain ⟨ob1, g1, g2, g3⟩:=QL (x:=rawInt (sl : Nat)) 0 hI hc hdI
    obtain ⟨ob2, k1, k2, k3⟩:=QL (x:=rawInt ((i : Int) + 1)) 1 g1 g2 g3
    refine wpAny_bind (wpAny_setField hI hdI (by simp) (wpAny_bind (wpAny_setField g1 g3 (by simp) (wpAny_pure ⟨_, rfl, wpAny_pure (hQ _ (stp (.text sl hT hL) ?_ ⟨ob2, k1, k2, k3⟩) ?_)⟩))))
    all_goals exact (Heap.SameBut.update ..).trans (Heap.SameBut.update ..)
  | plain sl hT hp hL hb=>
    dsimp only
    have hlt : i < es.size:=by rw [← hn]; exact (List.getElem?_eq_some_iff.mp he).1
    have hps : t.place.size = es.size:=by simp only [SetTable.fits, Bool.and_eq_true, beq_iff_eq] at hf; exact hf.1
    have e1 : es[i]? = some e:=by rw [← Array.getElem?_toList, ← hL]; exact he
    have e2 : t.place[i]? = some (t.place[i]'(by omega)):=Array.getElem?_eq_getElem _
    refine wpAny_bind (Qz ha hd hf hT hp (by rw [hk.led, hT]; rfl) ?_)
    simp only [Int.toNat_natCast, hb, e1, e2]
    obtain ⟨ob1, g1, g2, g3⟩:=QL (x:=rawInt ((t.place[i]'(by omega) + 1 : Nat) : Nat)) 0 hI hc hdI
    obtain ⟨ob2, k1, k2, k3⟩:=QL (x:=rawInt ((i : Int) + 1)) 1 g1 g2 g3
    refine wpAny_bind (wpAny_setField hI hdI (by simp) (wpAny_bind (wpAny_setField g1 g3 (by simp) (wpAny_pure ⟨_, rfl, wpAny_pure (hQ _ (stp (.plain _ hT hp hL (GJ hk.inc e2)) ?_ ⟨ob2, k1, k2, k3⟩) ?_)⟩))))
    all_goals exact (Heap.SameBut.update ..).trans (Heap.SameBut.update ..)
  | drawn ps hg hl hL=>
    dsimp only
    have hi : i < ps.length:=by rw [hl]; exact (List.getElem?_eq_some_iff.mp he).1
    refine wpAny_bind (wpAny_seqItems hg rfl ?_)
    simp only [Int.toNat_natCast, List.getElem?_toArray, List.getElem?_map, List.getElem?_eq_getElem hi, Option.map_some]
    refine wpAny_bind (Uf ha hd hf (x:=e) (by rw [← hL i _ (List.getElem?_eq_getElem hi)]; exact he) ?_)
    obtain ⟨ob2, k1, k2, k3⟩:=QL (x:=rawInt ((i : Int) + 1)) 1 hI hc hdI
    exact wpAny_bind (wpAny_setField hI hdI (by simp) (wpAny_pure ⟨_, rfl, wpAny_pure (hQ _ (stp (.drawn ps hg hl hL) (Heap.SameBut.update ..) ⟨ob2, k1, k2, k3⟩) (Heap.SameBut.update ..))⟩))
theorem G2 (hh : A.handled = none) (hd : o.data = .set es ep t) (hf : t.fits es.size = true) (hk : TOk t (!w.params.followText "set-order")) (hn : L.length = es.size) {Q : Option Value -> Shared -> Prop}
    (st : SIt w I a es ep t tp L o L.length s.heap) (hQ : ∀ h', Heap.ExtBut I s.heap h' -> Q none { s with heap:=h' }) : wpAny (model prog w) A (pyNext (.ref I)) Q E s:=by
  obtain ⟨⟨ob, first, hI, hc, hdI, hm⟩, ha⟩:=st
  unfold pyNext
  refine wpAny_bind (wpAny_attempt (wpAny_callSpecial?_slot (name:=Str.ofString "__next__") ⟨_, hI, hc⟩ XI
    (wpAny_call_entry XI ⟨_, hI, hc⟩ Zi ?_ (ZA _))))
  unfold Builtin.«set_iterator.__next__»
  refine wpAny_bind (wpAny_pure ?_)
  refine wpAny_bind (wpAny_fieldsOf hI hdI ?_)
  dsimp only
  refine wpAny_bind (wpAny_setEntries_of ha hd hf ?_)
  rw [if_neg (by simp)]
  cases hm with
  | text sl hT hL=>
    dsimp only
    refine wpAny_bind (QV ha hd hf hT ?_)
    have e1 : (pickOrder (w.params.setOrder a ep) es)[L.length]? = none:=by rw [← Array.getElem?_toList, ← hL]; exact List.getElem?_eq_none (Nat.le_refl _)
    simp only [Int.toNat_natCast, e1, Option.map_none]
    refine wpAny_bind (wpAny_setField hI hdI (by simp) ?_)
    refine wpAny_bind ?_
    simp only [newExc, newTuple]
    refine wpAny_bind (wpAny_newObj_type ?_ (by size_fits))
    refine wpAny_bind (m:=firstArgMember _ _) (wpAny_of_eq (a:=Value.none) (by first | rfl | (simp only [firstArgMember]; rfl)) ?_)
    refine wpAny_newObj_type ?_ (by size_fits)
    simp only [raiseNew]
    refine wpAny_bind (wpAny_handled ?_)
    rw [show A.in1.handled = none from hh]
    refine wpAny_bind (wpAny_pure (wpAny_throw ?_))
    refine wpAny_bind (wpAny_isInstance (T:="StopIteration") (b:=true) ⟨_, Heap.get?_push_size _ rfl, rfl⟩ isSubtype_stop ?_)
    exact wpAny_pure (hQ _ (((Heap.SameBut.update ..).extBut.push _).push _))
  | plain sl hT hp hL hb=>
    dsimp only
    have e1 : es[L.length]? = none:=Array.getElem?_eq_none (by omega)
    refine wpAny_bind (Qz ha hd hf hT hp (by rw [hk.led, hT]; rfl) ?_)
    simp only [Int.toNat_natCast, hb, e1]
    refine wpAny_bind (wpAny_setField hI hdI (by simp) ?_)
    refine wpAny_bind ?_
    simp only [newExc, newTuple]
    refine wpAny_bind (wpAny_newObj_type ?_ (by size_fits))
    refine wpAny_bind (m:=firstArgMember _ _) (wpAny_of_eq (a:=Value.none) (by first | rfl | (simp only [firstArgMember]; rfl)) ?_)
    refine wpAny_newObj_type ?_ (by size_fits)
    simp only [raiseNew]
    refine wpAny_bind (wpAny_handled ?_)
    rw [show A.in1.handled = none from hh]
    refine wpAny_bind (wpAny_pure (wpAny_throw ?_))
    refine wpAny_bind (wpAny_isInstance (T:="StopIteration") (b:=true) ⟨_, Heap.get?_push_size _ rfl, rfl⟩ isSubtype_stop ?_)
    exact wpAny_pure (hQ _ (((Heap.SameBut.update ..).extBut.push _).push _))
  | drawn ps hg hl hL=>
    dsimp only
    refine wpAny_bind (wpAny_seqItems hg rfl ?_)
    simp only [Int.toNat_natCast, List.getElem?_toArray, List.getElem?_map, List.getElem?_eq_none (show ps.length <= L.length by omega), Option.map_none]
    obtain ⟨ob1, g1, g2, g3⟩:=QL (x:=rawInt 0) 0 hI hc hdI
    refine wpAny_bind (wpAny_setField hI hdI (by simp) (wpAny_bind (wpAny_setField g1 g3 (by simp) ?_)))
    refine wpAny_bind ?_
    simp only [newExc, newTuple]
    refine wpAny_bind (wpAny_newObj_type ?_ (by size_fits))
    refine wpAny_bind (m:=firstArgMember _ _) (wpAny_of_eq (a:=Value.none) (by first | rfl | (simp only [firstArgMember]; rfl)) ?_)
    refine wpAny_newObj_type ?_ (by size_fits)
    simp only [raiseNew]
    refine wpAny_bind (wpAny_handled ?_)
    rw [show A.in1.handled = none from hh]
    refine wpAny_bind (wpAny_pure (wpAny_throw ?_))
    refine wpAny_bind (wpAny_isInstance (T:="StopIteration") (b:=true) ⟨_, Heap.get?_push_size _ rfl, rfl⟩ isSubtype_stop ?_)
    exact wpAny_pure (hQ _ ((((Heap.SameBut.update ..).trans (Heap.SameBut.update ..)).extBut.push _).push _))
end
end L2
namespace L2
open PySem PySem.Spec PyProof.Rows
section
variable {prog : Program} {w : World} {A : Around} {E : Value -> Shared -> Prop} {s : Shared} {a I tp : Addr} {o : Obj} {es : Array (Int × Value)} {ep : Nat} {t : SetTable} {L : List (Int × Value)} {ns : List Int}
theorem SIt.frame {i : Nat} {h h' : Heap} (x : SIt w I a es ep t tp L o i h) (k : ∀ b ∈ [I, a, tp], ∀ o, h.get? b = some o -> h'.get? b = some o) : SIt w I a es ep t tp L o i h':=by
  obtain ⟨⟨ob, f, h1, h2, h3, m⟩, h4⟩:=x
  exact ⟨⟨ob, f, k I (by simp) _ h1, h2, h3, m.at fun o e=>k tp (by simp) o e⟩, k a (by simp) _ h4⟩
theorem CC (hh : A.handled = none) (hd : o.data = .set es ep t) (hf : t.fits es.size = true) (hk : TOk t (!w.params.followText "set-order")) (hn : L.length = es.size) (hIa : a ≠ I) (hIt : tp ≠ I) :
    WalksS prog w A I [I, a, tp] [I] (fun a b=>a = b) L.length (fun i v=>∃ e, L[i]? = some e /\ v = e.2) (fun i s=>SIt w I a es ep t tp L o i s.heap) where
  sub:=by simp
  grefl:=fun _=>rfl
  gtrans:=fun _ _ _=>Eq.trans
  frame:=fun i s h' tk st _ k=>st.frame k
  item:=fun i s Q E hi st q=>GK hd hf hk hn hIa hIt st (List.getElem?_eq_getElem hi) fun h' st' sb=>q _ _ ⟨_, List.getElem?_eq_getElem hi, rfl⟩ st' ⟨fun b o hb e=>(sb.2 b (by simpa using hb)).trans e, rfl, rfl, rfl, Nat.le_refl _⟩
  done:=fun s Q E st q=>G2 hh hd hf hk hn st fun h' eb=>q _ ⟨fun b o hb e=>eb b o (by simpa using hb) e, rfl, rfl, rfl, Nat.le_refl _⟩
  self:=fun i s Q E st h=>by
    obtain ⟨⟨ob, f, h1, h2, h3, m⟩, h4⟩:=st
    refine wpAny_pyIter_slot ⟨_, h1, h2⟩ Zw (wpAny_call_entry Zw ⟨_, h1, h2⟩ QA ?_ (QP _))
    show wpAny _ _ (ret (.ref I)) _ _ s
    exact wpAny_pure ⟨_, rfl, "set_iterator", _, ⟨_, h1, h2⟩, XI.lookup, h⟩
theorem Dq {α : Type} (xs : Array α) (d : α) : (List.range xs.size).map (fun p=>xs.getD p d) = xs.toList:=by
  apply List.ext_getElem
  . simp
  . intro i h1 h2
    simp at h2 ⊢
    simp [h2]
theorem GS {Q : Value -> Shared -> Prop} (ho : s.heap.get? a = some o) (hx : o.ExactSet) (hd : o.data = .set es ep t) (c : SCore prog w es t ns)
    (h : ∀ h' d L tp I, L.Perm es.toList -> SIt w I a es ep t tp L o 0 h' -> (∀ b u, s.heap.get? b = some u -> h'.get? b = some u) -> s.heap.objs.size <= I -> tp ≠ I -> (tp = a ∨ s.heap.objs.size <= tp) -> Q (.ref I) { s with heap:=h', drawn:=d }) :
    wpAny (model prog w) A (pyIter (.ref a)) Q E s:=by
  have hT : s.TypeIs (.ref a) "set":=⟨o, ho, hx.1⟩
  refine wpAny_pyIter_slot hT Qd (wpAny_call_entry Qd hT JB ?_ (Vk _))
  unfold Builtin.«frozenset.__iter__»
  have hlt : a < s.heap.objs.size:=Heap.lt_size ho
  show wpAny _ _ (pure a >>= _) _ _ s
  refine wpAny_bind (wpAny_pure ?_)
  unfold Builtin.Frozenset.sizeOf
  refine wpAny_bind (wpAny_bind (wpAny_setEntries_of ho hd c.fit (wpAny_pure ?_)))
  unfold setDrawn
  refine wpAny_bind (wpAny_bind (wpAny_setState_of ho hd c.fit ?_))
  refine wpAny_bind (Qo ?_)
  show wpAny _ _ (pure (!w.params.followText "set-order" && (!t.plain && decide (es.size > 1)))) _ _ s
  refine wpAny_pure ?_
  cases hT2 : w.params.followText "set-order" with
  | true=>
    simp only [Bool.not_true, Bool.false_and, Bool.false_eq_true, if_false]
    refine wpAny_bind (wpAny_pure ?_)
    refine wpAny_bind (wpAny_setEpoch_of ho hd c.fit ?_)
    refine wpAny_bind (wpAny_newObj_type (wpAny_pure ⟨_, rfl, "set_iterator", _, ⟨_, Heap.get?_push_size _ rfl, rfl⟩, XI.lookup, ?_⟩))
    exact h _ s.drawn _ a s.heap.objs.size (DQ ..) ⟨⟨_, _, Heap.get?_push_size _ rfl, rfl, rfl, .text 0 hT2 rfl⟩, Heap.get?_push_of_some _ ho⟩ (fun b u e=>Heap.get?_push_of_some _ e) (Nat.le_refl _) (Nat.ne_of_lt hlt) (.inl rfl)
  | false=>
    cases hp : (!t.plain && decide (es.size > 1)) with
    | false=>
      simp only [Bool.not_false, Bool.true_and, Bool.false_eq_true, if_false]
      refine wpAny_bind (wpAny_pure ?_)
      refine wpAny_bind (wpAny_setEpoch_of ho hd c.fit ?_)
      refine wpAny_bind (wpAny_newObj_type (wpAny_pure ⟨_, rfl, "set_iterator", _, ⟨_, Heap.get?_push_size _ rfl, rfl⟩, XI.lookup, ?_⟩))
      exact h _ s.drawn _ a s.heap.objs.size (.refl _) ⟨⟨_, _, Heap.get?_push_size _ rfl, rfl, rfl, .plain 0 hT2 hp rfl (GO c.tok.inc)⟩, Heap.get?_push_of_some _ ho⟩ (fun b u e=>Heap.get?_push_of_some _ e) (Nat.le_refl _) (Nat.ne_of_lt hlt) (.inl rfl)
    | true=>
      simp only [Bool.not_false, Bool.true_and, if_true]
      refine wpAny_bind (Q0 _ _ _ List.length_range fun ps d hps=>?_)
      simp only [newTuple]
      have hsz : ps.length = es.size:=by rw [hps.length_eq, List.length_range]
      refine wpAny_bind (wpAny_newObj_type ?_ (by
        have:=fits_of_scanBound c.sz
        show (List.map (fun i=>rawInt (i : Nat)) ps).toArray.size <= sizeLine
        simpa [hsz] using this))
      have ho1:=Heap.get?_push_of_some ({ cls:=.type "tuple", data:=.seq (ps.map fun i=>rawInt (i : Nat)).toArray } : Obj) ho
      have hpl : ∀ pl ∈ ps, pl < es.size:=fun pl hm=>List.mem_range.mp (hps.mem_iff.mp hm)
      refine wpAny_bind (wpAny_setEpoch_of ho1 hd c.fit ?_)
      refine wpAny_bind (wpAny_newObj_type (wpAny_pure ⟨_, rfl, "set_iterator", _, ⟨_, Heap.get?_push_size _ rfl, rfl⟩, XI.lookup, ?_⟩))
      refine h _ d (ps.map fun p=>es.getD p (0, .none)) s.heap.objs.size _ ?_ ⟨⟨_, _, Heap.get?_push_size _ rfl, rfl, rfl, .drawn ps (Heap.get?_push_of_some _ (Heap.get?_push_size _ rfl)) (by simp) fun i pl e=>?_⟩, Heap.get?_push_of_some _ ho1⟩ (fun b u e=>Heap.get?_push_of_some _ (Heap.get?_push_of_some _ e)) ?_ ?_ (.inr (Nat.le_refl _))
      . rw [← Dq es (0, .none)]
        exact hps.map _
      . rw [List.getElem?_map, e]
        have:=hpl pl (List.mem_of_getElem? e)
        simp [this]
      . rw [Heap.size_push]; exact Nat.le_succ _
      . rw [Heap.size_push]; exact Nat.ne_of_lt (Nat.lt_succ_self _)
theorem Uu {Q : List Value -> Shared -> Prop} (hh : A.in1.in1.handled = none) (hS : VA prog w s.heap a ns)
    (r : ∀ g tk d vs ms, IntsAre vs ms -> ms.Perm ns -> (∀ b u, s.heap.get? b = some u -> g.get? b = some u) -> Q vs { s with heap:=g, toks:=tk, drawn:=d }) : wpAny (model prog w) A (collect (.ref a)) Q E s:=by
  obtain ⟨o, es, ep, t, ho, hx, hd, c⟩:=hS
  unfold collect
  refine wpAny_bind (wpAny_runValue (codeAny_builtin F.entry_proto_collect ?_))
  rw [Around.under_plainId F.plain_proto_collect]
  show wpAny _ A.in1 (newList [] >>= fun l=>again (Code.builtin "list.__iadd__" { pos:=[l, .ref a] })) _ _ _
  refine wpAny_bind (wpAny_newList ?_)
  refine wpAny_pure ⟨by first | rfl | exact plainId_quiet (by decide +kernel) _, ?_⟩
  refine codeAny_builtin F.entry_list_iadd ?_
  rw [Around.under_plainId (show plainId "list.__iadd__" = true by decide +kernel)]
  generalize hS : s.heap.objs.size = S
  have hdl : a < S:=by rw [← hS]; exact Heap.lt_size ho
  show wpAny _ A.in1 (slotArgs "__iadd__" 1 { pos:=[.ref S, .ref a] } >>= _) _ _ _
  refine wpAny_bind (wpAny_pure ?_)
  show wpAny _ A.in1 (Builtin.List.listExtendWith (.ref S) (.ref a) (.ref S)) _ _ _
  unfold Builtin.List.listExtendWith
  generalize hs1 : s.heap.push { cls:=Value.type "list", data:=Data.seq [].toArray } = h1
  have ho1 : h1.get? a = some o:=by rw [← hs1]; exact Heap.get?_push_of_some _ ho
  have h1s : h1.objs.size = S + 1:=by rw [← hs1, ← hS, Heap.size_push]
  refine wpAny_bind (wpAny_typeOf (T:="set") ⟨o, ho1, hx.1⟩ ?_)
  rw [if_neg (by
    have : (S == a) = false:=by rw [beq_eq_false_iff_ne]; exact (Nat.ne_of_lt hdl).symm
    simp [Builtin.List.listSameRef, this])]
  refine wpAny_bind (GS (ns:=ns) (s:=⟨h1, s.gens, s.drawn, s.toks, s.os⟩) ho1 hx hd c fun h2 d L tp I hp st old hI hti htp=>?_)
  have hI : S + 1 <= I:=by rw [← h1s]; exact hI
  have ho2:=old a o ho1
  have hty : (⟨h2, s.gens, d, s.toks, s.os⟩ : Shared).TypeIs (.ref a) "set":=⟨o, ho2, hx.1⟩
  refine wpAny_bind (wpAny_holding ?_)
  unfold Builtin.List.listLengthHint
  refine wpAny_bind (wpAny_specialOf hty V9.lookup ?_)
  have hsp : splitId "set.__len__" = some ("set", "__len__"):=by decide +kernel
  dsimp only
  rw [hsp]
  dsimp only
  refine wpAny_bind (wpAny_isInstance hty (by first | rfl | kernel_rfl) ?_)
  rw [if_neg (by decide)]
  show wpAny _ _ (if _ then _ else _) _ _ _
  rw [if_pos (by first | rfl | decide +kernel)]
  refine wpAny_bind (wpAny_typeOf hty ?_)
  refine wpAny_pure ?_
  rw [if_pos (by decide +kernel)]
  have hSs : h1.get? S = some { cls:=Value.type "list", data:=Data.seq #[] 0 }:=by rw [← hs1, ← hS]; exact Heap.get?_push_size _ rfl
  have hSs2:=old S _ hSs
  refine wpAny_bind (wpAny_rule ?_)
  refine wpAny_bind ?_
  unfold Builtin.List.listTouch
  refine wpAny_bind ?_
  refine wpAny_updateSeq (o:={ cls:=Value.type "list", data:=Data.seq #[] 0 }) hSs2 rfl ?_ (by decide) (by decide)
  have g1:=Heap.get?_update_self (h:=h2) (Obj.mapSeq fun x=>x.push Value.none) hSs2 rfl
  refine wpAny_updateSeq (o:=(Obj.mapSeq (fun x=>x.push Value.none) { cls:=Value.type "list", data:=Data.seq #[] 0 })) g1 rfl ?_ (by decide) (by decide)
  have g2:=Heap.get?_update_self (h:=h2.update S (Obj.mapSeq fun x=>x.push Value.none)) (Obj.mapSeq fun x=>x.pop) g1 rfl
  have g3 : ∀ b, b ≠ S -> ((h2.update S (Obj.mapSeq fun x=>x.push Value.none)).update S (Obj.mapSeq fun x=>x.pop)).get? b = h2.get? b:=fun b hb=>by
    rw [Heap.get?_update_ne _ _ _ _ hb, Heap.get?_update_ne _ _ _ _ hb]
  refine wpAny_pure ⟨by first | rfl | exact plainId_quiet (by decide +kernel) _, ?_⟩
  have hSI : S < I:=hI
  have hdS : a ≠ S:=Nat.ne_of_lt hdl
  have htS : tp ≠ S:=by
    rcases htp with z | z
    . rw [z]; exact hdS
    . have z2 : S + 1 <= tp := by rw [← h1s]; exact z
      exact Nat.ne_of_gt z2
  have hLn : L.length = es.size:=by rw [hp.length_eq, Array.length_toList]
  refine codeAny_extend_loopS (CC (A:=A.in1) (L:=L) (tp:=tp) (I:=I) hh hd c.fit c.tok hLn (Nat.ne_of_lt (Nat.lt_trans hdl hSI)) hti) (by rw [hLn]; exact fits_of_scanBound c.sz) S (by simp; exact ⟨Nat.ne_of_lt hSI, hdS.symm, htS.symm⟩) (.ref S) L.length 0 _ #[] _ rfl (Nat.zero_le _) ?_ g2 ⟨rfl, fun j v h=>by simp at h⟩ fun s' acc cc m hS' hit=>?_
  . exact st.frame fun b hb o e=>(g3 b (by
      rcases List.mem_cons.mp hb with z | z
      . rw [z]; exact Nat.ne_of_gt hSI
      . rcases List.mem_cons.mp z with z | z
        . rw [z]; exact hdS
        . rw [List.mem_singleton.mp z]; exact htS)).trans e
  . refine wpAny_bind (wpAny_load hS' ?_)
    refine wpAny_pure ?_
    obtain ⟨hpp, g, dr, tk, os⟩:=s'
    have m1:=m.heap
    obtain rfl : s.gens = g:=m.gens
    obtain rfl : dr = d:=m.drawn
    obtain rfl : os = s.os:=m.os
    have ea : acc.toList = L.map (·.2):=by
      apply List.ext_getElem?
      intro j
      rw [List.getElem?_map]
      cases hj : acc.toList[j]? with
      | none=>
        have h1:=List.getElem?_eq_none_iff.mp hj
        have h2 : acc.size = L.length:=hit.1
        rw [List.getElem?_eq_none (by rw [Array.length_toList] at h1; omega)]; rfl
      | some v=>
        obtain ⟨e, h1, h2⟩:=hit.2 j v (by rw [← Array.getElem?_toList]; exact hj)
        rw [h1, h2]; rfl
    obtain ⟨ms, i1, i2⟩:=c.pm
    obtain ⟨ms', j1, j2⟩:=JS (hp.map (·.2)) i1
    refine r hpp tk dr acc.toList ms' (by rw [ea]; exact j1) (j2.trans i2) fun b u hb=>?_
    have lb : b < S:=by rw [← hS]; exact Heap.lt_size hb
    refine m1 b u (by simp; exact ⟨Nat.ne_of_lt lb, Nat.ne_of_lt (Nat.lt_trans lb hSI)⟩) ?_
    exact (g3 b (Nat.ne_of_lt lb)).trans (old b u (by rw [← hs1]; exact Heap.get?_push_of_some _ hb))
end
section
variable {X : Cx}
noncomputable def IM (P : Program) (w : World) (p : Addr) (ns : List Int) : HO:=.ext fun h=>VA P w h p ns
noncomputable def BE (K : PySem.W.Frag) (P : Program) (w : World) : List V -> Hp -> VK -> Prop:=fun xs H Q=>∃ l ns, xs = [.ref l] /\ SqL K H l (ns.map V.int) /\ ns.length < 64 /\ ∀ p, H p = none -> Q (.ref p) (upd H p (IM P w p (dd ns)))
noncomputable def BQ (P : Program) (w : World) : List V -> Hp -> VK -> Prop:=fun xs H Q=>∃ l ns, xs = [.ref l] /\ H l = some (IM P w l ns) /\ ns.length < 64 /\ ∀ p, H p = none -> Q (.ref p) (upd H p (.lst ((Vi ns).map V.int)))
theorem KM (K : PySem.W.Frag) (hK : X.K = K) (hc : X.calm = true) : ZS X (.type "set") (BE K X.prog X.w):=by
  subst hK
  intro pins s σ H xs us Q I r h
  obtain ⟨l, ns, rfl, hq, h64, q⟩:=h
  obtain ⟨u, rfl, ru⟩:=G4 r
  cases ru
  obtain ⟨its, rv, pl, hz⟩:=I.list hq
  refine Fx (I.ok.hd hc) pl.isList (CL rv) (by have : scanBound = 4096:=rfl; omega) fun h' tk hS old=>?_
  have hfr : H s.heap.objs.size = none:=I.hok.fresh (Nat.le_refl _)
  refine ⟨.ref s.heap.objs.size, _, I.laid (t':=tk) old (Nat.le_refl _) (show Yi X.prog X.w _ _ _ (IM X.prog X.w s.heap.objs.size (dd ns)) from ⟨hS, ?_, fun h1 h2 x k=>x.at k⟩), rfl, q _ hfr⟩
  obtain ⟨o, _, _, _, ho, _⟩:=hS
  exact ⟨o, ho⟩
theorem JC (hc : X.calm = true) : ZS X (.builtin "sorted") (BQ X.prog X.w):=by
  intro pins s σ H xs us Q I r h
  obtain ⟨l, ns, rfl, he, h64, q⟩:=h
  obtain ⟨u, rfl, ru⟩:=G4 r
  cases ru
  have hS : VA X.prog X.w s.heap l ns:=(show Yi X.prog X.w H s.heap l (IM X.prog X.w l ns) from I.hok l _ he).1
  refine Calls.call_function_entry kind_sorted plain_sorted entry_sorted (args_sorted1 _) ?_
  show wpAny _ _ (checkCount "sorted" 1 1 1 >>= fun _=>collect (.ref l) >>= fun xs=>newList xs >>= fun l=>holding [l] (call (.builtin "list.sort") [l] []) >>= fun _=>ret l) _ _ _
  refine wpAny_bind (wpAny_pure ?_)
  refine wpAny_bind (Uu (I.ok.hd hc) hS fun g tk d ws ms iw hpm old=>?_)
  have hml : ws.length < 64:=by rw [IntsAre.length iw, hpm.length_eq]; exact h64
  refine wpAny_bind (wpAny_newList ?_ (by have:=sizeLine_eq; omega))
  have gl : (g.push { cls:=Value.type "list", data:=Data.seq ws.toArray }).get? g.objs.size = some (seqObj "list" ws.toArray 0):=Heap.get?_push_size _ rfl
  refine wpAny_bind (wpAny_holding (wpAny_call_entry slot_list_sort ⟨_, gl, rfl⟩ entry_list_sort (list_sort_tree gl iw (by omega) fun out ns' a1 a2 a3=>⟨_, rfl, ?_⟩) (args_list_sort _)))
  refine wpAny_pure ⟨_, rfl, ?_⟩
  obtain ⟨e, hat⟩:=sortedHeap_at (out:=out) gl
  have en : ns' = Vi ns:=K8 (a2.trans hpm) a3
  have v:=JN a1
  rw [en] at v
  have I0 : Inv X pins σ H { s with drawn:=d }:=⟨I.ok, I.os, I.bare, I.base, I.loc, I.cell, I.free, I.freeC, I.pin, I.hok, I.len⟩
  have I1 : Inv X pins σ H { s with heap:=g, toks:=tk, drawn:=d }:=I0.kept (t':=tk) old
  have hfr : H g.objs.size = none:=I1.hok.fresh (Nat.le_refl _)
  refine ⟨.ref g.objs.size, _, I1.laid (t':=tk) (fun b o e=>Vg (Nat.ne_of_lt (Heap.lt_size e)) (Heap.get?_push_of_some _ e)) (Nat.le_refl _) (show Yi X.prog X.w _ _ _ (.lst ((Vi ns).map V.int)) from ⟨?_, out.toList, e, v, hat⟩), rfl, q _ hfr⟩
  rw [List.length_map, (VD ns).length_eq]
  have:=sizeLine_eq
  omega
end
end L2
namespace L2
open PySem PySem.Spec PyProof.Rows
section
variable {K : PySem.W.Frag} {Er : Exc -> Hp -> Prop} {S : SC} {OO : List (List XG)} {σ : St}
theorem BB {P : Program} {w0 : World} {ta : TE} {ma : Res (List Int)} (ha : EvL K Er S OO σ ta Xc ma) : Ev K Er S OO OO σ (tCB (BQ P w0) (XA (tCB (BE K P w0) (XA ta ZQ)) ZQ)) (oL (oF Xc)) (ma.bind fun as=>chk (as.length < 64) (.ok (Vi (dd as)))):=fun H Q w s Pz=>
  ha.run w s FO.tr Pz fun as x H1 s1 w1 q1 ⟨p, xs, e, q, pr⟩ P1=>by
    obtain ⟨hl, P2⟩:=PZ.chk P1
    have P3 : FO K OO OO (oL (oF Xc)) Q (Vi (dd as)) H1:=P2
    refine ⟨p, as, by rw [e], SqL.of (by rw [← CZ pr]; exact q), hl, fun S hS=>?_⟩
    exact ⟨S, dd as, rfl, X8, Nat.lt_of_le_of_lt (UO as) hl, BZ (w1.keep (X4 hS _)) (Bx _) (FO.tr _ _ _ (X4 hS _) P3)⟩
variable {u : TS} {α γ ρ ι : Type}
variable {β : Type} {Fd : Ends -> β -> Hp -> Prop} [fd : FdOk Fd]
noncomputable def isF : Res Bool -> Bool
  | .ok false=>true
  | _=>false
theorem IG {m : Res Bool} (h : isF m = true) : m = .ok false:=by
  cases m with
  | ok b=>cases b with
    | false=>rfl
    | true=>cases h
  | bad=>cases h
  | err x=>cases h
theorem U2 {tl : TE} {tt : TT} {tr : TS} {mt : List Int -> Res Bool} {f : List (List Int) -> Res β} {v : V} {as : List (List Int)} {C : List XG} (j k : Nat) (n : Int) (hte : ∀ (H : Hp) (Q : VK), W OO H -> S.p (hid H OO) -> Q v H -> tl σ H Q) (hjl : j < σ.length) (hk : OO[k]? = some C) (h : ∀ x, S.p x -> oL (oL (oF Xc)) K x v as C)
    (ht : ∀ row x, EvT Er (S.add K (rV Xc) x row) (OO.set k []) (σ.set j (some x)) tt (mt row))
    (hr : ∀ C' w, Sv Er (S.addO K (oL (oL (oF Xc))) v (as.map (· ++ [n])) C') (OO.set k C') (σ.set j w) u Fd (f (as.map (· ++ [n])))) :
    Sv Er S OO σ (Jy (IB (Cr K tl) (Qv j) (Jy (ID tt tr KA) (Jy (CM (tBM K "list" V5 (Kv j) (XA (tC (.int n)) ZQ))) KA))) u) Fd (chk ((as.all fun row=>isF (mt row)) = true /\ ∀ row ∈ as, row.length < sizeLine) (f (as.map (· ++ [n])))):=fun H D w s P=>by
  obtain ⟨⟨hall, hsz⟩, P⟩:=PZ.chk P
  obtain ⟨p, xs, Cs0, e, q, c⟩:=h _ s
  subst c e
  have hkl : k < OO.length:=by
    rcases Nat.lt_or_ge k OO.length with h | h
    . exact h
    . rw [List.getElem?_eq_none h] at hk; cases hk
  have hin : ∀ {Cs : List (List XG)}, (p, HO.lst xs) ∈ (OO.set k ((p, .lst xs) :: Cs.flatten)).flatten:=fun {Cs}=>List.mem_flatten.mpr ⟨_, List.mem_set hkl _, List.mem_cons_self⟩
  have hOO : OO.set k ((p, .lst xs) :: Cs0.flatten) = OO:=by
    apply List.ext_getElem?
    intro m
    by_cases hm : m = k
    . subst hm; rw [List.getElem?_set_self hkl, hk]
    . rw [List.getElem?_set_ne (fun e=>hm e.symm)]
  have hH : H p = some (.lst xs):=w.tr (p, .lst xs) (by rw [← hOO]; exact hin)
  refine hte _ _ w s ⟨p, rfl, ⟨xs, SqL.of hH⟩, ?_⟩
  refine Bk (K:=K) (a:=p) (xs:=xs) (fun t σ' H'=>∃ Cs wv, σ' = σ.set j wv /\ W (OO.set k ((p, .lst xs) :: Cs.flatten)) H' /\ Xo (hid H OO) (hid H' (OO.set k ((p, .lst xs) :: Cs.flatten))) /\ P3 (oL (oF Xc) K (hid H' (OO.set k ((p, .lst xs) :: Cs.flatten)))) xs ((as.take t).map (· ++ [n]) ++ as.drop t) Cs)
    ⟨Cs0, σ[j], by rw [List.set_getElem_self], by rw [hOO]; exact w, by rw [hOO]; exact Xo.refl _, by rw [hOO]; simpa using q⟩
    (fun t σ' H' ht ⟨Cs, wv, _, w', _, _⟩=>SqL.of (w'.tr (p, .lst xs) hin)) ?_ ?_
  . rintro t x σ' H' hx ⟨Cs, wv, rfl, w', m', q'⟩
    have hlen:=q.len.1
    have htl : t < as.length:=by
      rw [← hlen]
      rcases Nat.lt_or_ge t xs.length with h | h
      . exact h
      . rw [List.getElem?_eq_none h] at hx; cases hx
    have hrow : ((as.take t).map (· ++ [n]) ++ as.drop t)[t]? = some as[t]:=by
      rw [List.getElem?_append_right (by simp; omega)]
      simp [Nat.min_eq_left (Nat.le_of_lt htl)]
    obtain ⟨q0, ys, g1, g2, g3⟩:=FE q' hrow
    rw [hx] at g1
    cases g1
    have hk' : (OO.set k ((p, HO.lst xs) :: Cs.flatten))[k]? = some ((p, HO.lst xs) :: Cs.flatten):=by simp [hkl]
    have hq0 : H' q0 = some (.lst ys):=w'.tr (q0, .lst ys) (List.mem_flatten.mpr ⟨_, List.mem_of_getElem? hk', List.mem_cons_of_mem _ (Qt g2 _ (by simp))⟩)
    have hsz' : as[t].length < sizeLine:=hsz _ (List.getElem_mem htl)
    show Jy _ _ _ ((σ.set j wv).set j (some (.ref q0))) H'
    have hf : mt as[t] = .ok false:=IG (List.all_eq_true.mp hall _ (List.getElem_mem htl))
    have hset : (OO.set k ((p, HO.lst xs) :: Cs.flatten)).set k [] = OO.set k []:=List.set_set ..
    have hp1:=X1 hk'
    have wa:=w'.of (OO':=((p, HO.lst xs) :: Cs.flatten) :: (OO.set k ((p, HO.lst xs) :: Cs.flatten)).set k []) hp1
    rw [hset] at wa
    have hnq : q0 ∉ fl (OO.set k []):=fun hb=>by
      have:=wa.nd
      rw [Yo] at this
      exact (List.nodup_append.mp this).2.2 q0 (List.mem_map.mpr ⟨(q0, .lst ys), List.mem_cons_of_mem _ (Qt g2 _ (by simp)), rfl⟩) q0 hb rfl
    have hv : Xo (hid H' (OO.set k ((p, HO.lst xs) :: Cs.flatten))) (hid H' (OO.set k [])):=fun b o e=>by
      obtain ⟨e1, e2⟩:=X0 e
      refine Zk e1 fun hb=>e2 ?_
      rw [← Jr hp1 b, hset, Yo]
      exact List.mem_append_right _ hb
    rw [List.set_set]
    refine ht as[t] (.ref q0) H' _ wa.tail ⟨S.mono _ _ (m'.trans hv) s, q0, ys, rfl, Zk hq0 hnq, g3⟩ ?_
    rw [hf]
    intro H2 s2
    rw [if_neg Bool.false_ne_true]
    have hq0:=s2 _ _ hq0
    have m2:=Xj (OO:=OO.set k ((p, HO.lst xs) :: Cs.flatten)) s2
    have q':=P3.imp (fun _ _ _ h=>MonoO.mono m2 h) q'
    have w':=w'.keep s2
    have m':=m'.trans m2
    refine ⟨.ref q0, by rw [List.getElem?_set_self (by simpa using hjl)], .inl ⟨rfl, _, SqL.of hq0⟩, q0, ys, .int n, rfl, rfl, hq0, by rw [Paired.len g3]; exact hsz', ?_⟩
    obtain ⟨C', w4, m4, o4⟩:=DA (ys':=ys ++ [.int n]) (row':=as[t] ++ [n]) (v:=.ref p) w' hk' q' hrow hx hq0 g2 (Paired.app g3 (show Paired (Xc K (hid H2 (OO.set k ((p, .lst xs) :: Cs.flatten)))) [V.int n] [n] from .cons rfl .nil))
    obtain ⟨p', xs', Cs', e1, o5, rfl⟩:=o4
    cases e1
    have hc1 : (p, HO.lst xs) ∈ (OO.set k ((p, .lst xs') :: Cs'.flatten)).flatten ∨ xs' = xs:=by
      right
      have h1:=w4.tr (p, .lst xs') (by rw [List.set_set]; exact List.mem_flatten.mpr ⟨_, List.mem_set hkl _, List.mem_cons_self⟩)
      have hpq : p ≠ q0:=fun ee=>by
        have:=(w'.of (OO':=((p, HO.lst xs) :: Cs.flatten) :: (OO.set k ((p, HO.lst xs) :: Cs.flatten)).set k []) hp1).nd
        rw [Yo, List.map_cons, List.cons_append, List.nodup_cons] at this
        exact this.1 (List.mem_append_left _ (List.mem_map.mpr ⟨(q0, .lst ys), Qt g2 _ (by simp), ee.symm⟩))
      rw [Xp hpq] at h1
      have h2:=w'.tr (p, .lst xs) hin
      rw [h1] at h2
      have h3 : HO.lst xs' = HO.lst xs:=Option.some.inj h2
      injection h3
    obtain rfl : xs' = xs:=by
      rcases hc1 with h9 | h9
      . have h1 := w4.tr (p, .lst xs') (by rw [List.set_set]; exact List.mem_flatten.mpr ⟨_, List.mem_set hkl _, List.mem_cons_self⟩)
        have h2:=w4.tr (p, .lst xs) (by rw [List.set_set]; exact h9)
        rw [h1] at h2
        have h3 : HO.lst xs' = HO.lst xs:=Option.some.inj h2
        injection h3
      . exact h9
    rw [List.set_set] at w4 m4 o5
    refine ⟨Cs', some (.ref q0), by simp, w4, m'.trans m4, ?_⟩
    have e6 : ((as.take t).map (· ++ [n]) ++ as.drop t).set t (as[t] ++ [n]) = (as.take (t + 1)).map (· ++ [n]) ++ as.drop (t + 1):=by
      rw [List.set_append_right _ _ (by simp; omega)]
      simp only [List.length_map, List.length_take, Nat.min_eq_left (Nat.le_of_lt htl), Nat.sub_self]
      rw [List.drop_eq_getElem_cons htl, List.set_cons_zero, List.take_succ_eq_append_getElem htl, List.map_append, List.append_assoc]
      rfl
    rw [e6] at o5
    exact o5
  . rintro σ' H' ⟨Cs, wv, rfl, w', m', q'⟩
    have hlen:=q.len.1
    rw [hlen, List.take_length, List.drop_length, List.append_nil] at q'
    exact hr _ wv H' D w' ⟨S.mono _ _ m' s, ⟨p, xs, Cs, rfl, q', rfl⟩⟩ (PZ.tr (fd.tr D) m' P)
end
end L2
namespace My
open PySem L2
noncomputable abbrev XR : List Str:=["PlaitError", "TooBig", "NotClosed", "NoFit"]
noncomputable def X5 (a_0 : (List (List Int))) (a_1 : (List (Int × Int))) : Res (Option (Int × Int × Int)):=(Res.bind (Res.bind (Res.ok a_1) fun x1=>(Res.ok (x1.map fun kx=>kx.1))) fun x38=>(Res.bind (forC x38 () (fun g4 a6=>(Res.bind (Res.bind (Res.ok a_1) fun x8=>(Res.ok (x8.map fun kx=>kx.1))) fun x35=>(Res.bind (forC x35 () (fun g11 a13=>(Res.bind (Res.bind (Res.bind (Res.bind (Res.ok a_0) fun x15=>(Res.bind (Res.ok a6) fun x16=>(atR x15 x16))) fun x17=>(Res.bind (Res.ok a13) fun x18=>(atR x17 x18))) fun x19=>(Res.bind (Res.ok a_1) fun x20=>(Res.ok (!(ZP x20 x19).isSome)))) fun x21=>(if x21 = true then (Res.bind (Res.bind (Res.bind (Res.bind (Res.bind (Res.ok a_0) fun x22=>(Res.bind (Res.ok a6) fun x23=>(atR x22 x23))) fun x24=>(Res.bind (Res.ok a13) fun x25=>(atR x24 x25))) fun x26=>(Res.bind (Res.ok a6) fun x27=>(Res.bind (Res.ok a13) fun x28=>(Res.ok (x26, x27, x28))))) fun x29=>(Res.ok (some x29))) fun x31=>(Res.ok (Ctl.ret x31))) else (Res.bind (Res.ok ()) fun x30=>(Res.ok (Ctl.nx x30))))))) (Z0 fun g32=>(Res.bind (Res.ok ()) fun x34=>(Res.ok (Ctl.nx x34)))))))) (V0 fun g36=>(Res.ok none))))
noncomputable def QU (a_0 : (List (List Int))) (a_1 : (List Int)) : Res (List (List Int)):=(Res.bind (Res.bind (Res.bind (Res.bind (Res.ok a_1) fun x5=>(Res.ok (YO x5))) fun x9=>(UD x9 (fun a7=>(Res.bind (Res.ok a7.2) fun x10=>(Res.bind (Res.ok a7.1) fun x11=>(Res.ok (x10, x11))))))) fun x4=>(Res.ok (FC [] x4))) fun a1=>(Res.bind (orR (Res.bind (Res.bind (Res.ok a_1) fun x12=>(Res.ok (x12.length : Int))) fun x13=>(Res.bind (Res.ok (0 : Int)) fun x14=>(Res.ok (decide (x13 = x14))))) (Res.bind (Res.bind (Res.ok a_0) fun x17=>(Res.bind (Res.ok a1) fun x18=>(noE (X5 x17 x18)))) fun x19=>(Res.ok x19.isSome))) fun x20=>(if x20 = true then (Res.bind (Res.ok ()) fun _=>(Res.err ⟨"NotClosed", Pay.non⟩)) else (Res.bind (Res.ok a_1) fun x25=>(UD x25 (fun a23=>(Res.bind (Res.ok a_1) fun x29=>(UD x29 (fun a27=>(Res.bind (Res.ok a1) fun x34=>(Res.bind (Res.bind (Res.bind (Res.ok a_0) fun x30=>(Res.bind (Res.ok a23) fun x31=>(atR x30 x31))) fun x32=>(Res.bind (Res.ok a27) fun x33=>(atR x32 x33))) fun x35=>(FD x34 x35))))))))))))
noncomputable def Yf (a_0 : (List Int)) (a_1 : Int) : Res (List Int):=(Res.bind (Res.bind (Res.ok a_0) fun x1=>(Res.ok (YO x1))) fun x5=>(Ck x5 (fun a3=>(Res.bind (Res.ok a3.2) fun x6=>(Res.bind (Res.ok a_1) fun x7=>(Res.ok (decide (x6 = x7)))))) (fun a3=>(Res.ok a3.1))))
noncomputable def Y4 (a_0 : (List Int)) (a_1 : Int) (a_2 : Int) : Res (List Int):=(Res.bind (Res.bind (Res.ok a_1) fun x3=>(Res.bind (Res.ok a_2) fun x4=>(Res.ok (min x3 x4)))) fun a1=>(Res.bind (Res.ok a_0) fun x8=>(UD x8 (fun a6=>(Res.bind (Res.bind (Res.ok a6) fun x11=>(Res.bind (Res.bind (Res.bind (Res.ok a_1) fun x9=>(Res.bind (Res.ok a_2) fun x10=>(Res.ok (x9, x10)))) fun x13=>(Res.ok [x13.1, x13.2])) fun x12=>(Res.ok (decide (x11 ∈ x12))))) fun x14=>(if x14 = true then (Res.ok a1) else (Res.ok a6)))))))
noncomputable def Z5 (a_0 : (List (List Int))) : Res (List (List Int)):=(Res.bind (Res.bind (Res.bind (Res.ok a_0) fun x4=>(Res.ok (x4.length : Int))) fun x3=>(chk (0 <= x3 /\ x3 <= 1000) (Res.ok (YL 0 x3)))) fun a1=>(Res.bind (Res.bind (Res.ok a_0) fun x5=>(Res.ok (YO x5))) fun x41=>(Res.bind (forN x41 (a1) (fun g8 a10=>(Res.bind (Res.ok a10.2) fun x30=>(Res.bind (forN x30 (g8) (fun g14 a16=>(Res.bind (Res.bind (Res.ok g14) fun x25=>(Res.bind (Res.bind (Res.ok g14) fun x21=>(Res.bind (Res.ok a10.1) fun x22=>(atR x21 x22))) fun x26=>(Res.bind (Res.bind (Res.ok g14) fun x23=>(Res.bind (Res.ok a16) fun x24=>(atR x23 x24))) fun x27=>(noE (Y4 x25 x26 x27))))) fun a18=>(Res.ok (a18))))) fun g28=>(Res.ok (g28)))))) fun g31=>(Res.bind (Res.bind (Res.ok g31) fun x33=>(chk (x33.length < 64) (Res.ok (Vi (dd x33))))) fun x37=>(UD x37 (fun a35=>(Res.bind (Res.ok g31) fun x39=>(Res.bind (Res.ok a35) fun x40=>(noE (Yf x39 x40))))))))))
noncomputable def JV (a_0 : (List Int)) (a_1 : Int) : Res Int:=(Res.bind (Res.bind (Res.ok a_1) fun x2=>(Res.bind (Res.bind (Res.ok a_0) fun x1=>(Res.ok (x1.length : Int))) fun x3=>(Res.ok (decide (x2 < x3))))) fun x4=>(if x4 = true then (Res.bind (Res.ok a_0) fun x5=>(Res.bind (Res.ok a_1) fun x6=>(atR x5 x6))) else (Res.bind (Res.ok (5 : Int)) fun a7=>(Res.bind (Res.bind (Res.ok a_0) fun x10=>(Res.bind (Res.ok none) fun x11=>(Res.bind (Res.bind (Res.ok (63 : Int)) fun x9=>(Res.ok (some x9))) fun x12=>(Res.ok (KU x10 x11 x12))))) fun x39=>(Res.bind (forN x39 (a7) (fun g15 a17=>(Res.bind (Res.bind (Res.bind (Res.bind (Res.bind (Res.ok g15) fun x21=>(Res.bind (Res.ok (48271 : Int)) fun x22=>(Ke x21 x22))) fun x25=>(Res.bind (Res.bind (Res.ok a17) fun x23=>(Res.bind (Res.ok (1000003 : Int)) fun x24=>(QT x23 x24))) fun x26=>(Res.ok (x25 + x26)))) fun x27=>(Res.bind (Res.ok (1 : Int)) fun x28=>(Res.ok (x27 + x28)))) fun x29=>(Res.bind (Res.ok (2147483647 : Int)) fun x30=>(QT x29 x30))) fun a19=>(Res.ok (a19))))) fun g31=>(Res.bind (Res.bind (Res.ok g31) fun x35=>(Res.bind (Res.bind (Res.ok (7919 : Int)) fun x33=>(Res.bind (Res.ok a_1) fun x34=>(Ke x33 x34))) fun x36=>(Res.ok (x35 + x36)))) fun x37=>(Res.bind (Res.ok (1000003 : Int)) fun x38=>(QT x37 x38))))))))
noncomputable def KR (a_0 : Int) (a_1 : Int) : Res Int:=(Res.bind (Res.bind (Res.bind (Res.bind (Res.bind (Res.bind (Res.ok a_0) fun x3=>(Res.bind (Res.ok (2147483629 : Int)) fun x4=>(QT x3 x4))) fun x7=>(Res.bind (Res.bind (Res.ok (1013 : Int)) fun x5=>(Res.bind (Res.ok a_1) fun x6=>(Ke x5 x6))) fun x8=>(Res.ok (x7 + x8)))) fun x9=>(Res.bind (Res.ok (7919 : Int)) fun x10=>(Res.ok (x9 + x10)))) fun x11=>(Res.bind (Res.ok (3 : Int)) fun x12=>(IU x11 x12))) fun x13=>(Res.bind (Res.ok (2147483647 : Int)) fun x14=>(QT x13 x14))) fun a1=>(Res.bind (Res.bind (Res.bind (Res.bind (Res.bind (Res.ok a1) fun x17=>(Res.bind (Res.ok (40699 : Int)) fun x18=>(Ke x17 x18))) fun x23=>(Res.bind (Res.bind (Res.bind (Res.ok (3793 : Int)) fun x19=>(Res.bind (Res.ok a_1) fun x20=>(Ke x19 x20))) fun x21=>(Res.bind (Res.ok a_1) fun x22=>(Ke x21 x22))) fun x24=>(Res.ok (x23 + x24)))) fun x25=>(Res.bind (Res.ok (11 : Int)) fun x26=>(Res.ok (x25 + x26)))) fun x27=>(Res.bind (Res.ok (2147483399 : Int)) fun x28=>(QT x27 x28))) fun a15=>(Res.bind (Res.ok a15) fun x29=>(Res.bind (Res.ok (101 : Int)) fun x30=>(EF x29 x30)))))
noncomputable def Ud (a_0 : (List Int)) (a_1 : Int) (a_2 : (List Int)) : Res (List Int):=(Res.bind (Res.bind (Res.ok a_0) fun x4=>(Res.bind (Res.ok a_1) fun x5=>(noE (JV x4 x5)))) fun a1=>(Res.bind (Res.ok a1) fun a6=>(Res.bind (Res.ok []) fun a8=>(Res.bind (Res.bind (Res.bind (Res.ok a_2) fun x11=>(Res.ok (x11.length : Int))) fun x12=>(Vx 0 x12)) fun x81=>(Res.bind (forN x81 (a8, a6) (fun g15 a17=>(Res.bind (Res.bind (Res.bind (Res.ok a1) fun x21=>(Res.bind (Res.bind (Res.ok (10 : Int)) fun x19=>(Res.bind (Res.ok (18 : Int)) fun x20=>(IU x19 x20))) fun x22=>(Res.ok (decide (x21 < x22))))) fun x23=>(if x23 = true then (Res.bind (Res.bind (Res.bind (Res.ok a1) fun x27=>(Res.bind (Res.ok a17) fun x28=>(noE (KR x27 x28)))) fun x31=>(Res.bind (Res.bind (Res.ok a_2) fun x29=>(Res.bind (Res.ok a17) fun x30=>(atR x29 x30))) fun x32=>(QT x31 x32))) fun a33=>(chk (g15.1.length < sizeLine) ((fun a35=>(Res.ok (a35, g15.2))) (g15.1 ++ [a33])))) else (Res.bind (Res.bind (Res.bind (Res.ok g15.2) fun x36=>(Res.bind (Res.ok (0 : Int)) fun x37=>(Res.ok (decide (x37 < x36))))) fun x38=>(if x38 = true then (Res.bind (Res.bind (Res.ok g15.2) fun x43=>(Res.bind (Res.bind (Res.ok a_2) fun x41=>(Res.bind (Res.ok a17) fun x42=>(atR x41 x42))) fun x44=>(QT x43 x44))) fun a45=>(chk (g15.1.length < sizeLine) ((fun a47=>(Res.bind (Res.bind (Res.ok g15.2) fun x52=>(Res.bind (Res.bind (Res.ok a_2) fun x50=>(Res.bind (Res.ok a17) fun x51=>(atR x50 x51))) fun x53=>(EF x52 x53))) fun a48=>(Res.ok (a48, a47)))) (g15.1 ++ [a45])))) else (Res.bind (Res.bind (Res.ok a_0) fun x63=>(Res.bind (Res.bind (Res.bind (Res.bind (Res.ok a_1) fun x57=>(Res.bind (Res.ok (1 : Int)) fun x58=>(Res.ok (x57 + x58)))) fun x59=>(Res.bind (Res.ok a17) fun x60=>(Res.ok (x59 + x60)))) fun x61=>(Res.bind (Res.ok (63 : Int)) fun x62=>(QT x61 x62))) fun x64=>(noE (JV x63 x64)))) fun a54=>(Res.bind (Res.bind (Res.bind (Res.ok a54) fun x66=>(Res.bind (Res.ok a17) fun x67=>(noE (KR x66 x67)))) fun x70=>(Res.bind (Res.bind (Res.ok a_2) fun x68=>(Res.bind (Res.ok a17) fun x69=>(atR x68 x69))) fun x71=>(QT x70 x71))) fun a72=>(chk (g15.1.length < sizeLine) ((fun a74=>(Res.ok (g15.2, a74))) (g15.1 ++ [a72]))))))) fun g76=>(Res.ok (g76.2, g76.1))))) fun g78=>(Res.ok (g78.1, g78.2))))) fun g79=>(Res.ok g79.1))))))
noncomputable def Y5 (a_0 : Int) (a_1 : Int) (a_2 : Int) (a_3 : Int) (a_4 : Int) : Res Int:=(Res.bind (Res.bind (Res.ok a_1) fun x3=>(Res.bind (Res.ok (2 : Int)) fun x4=>(EF x3 x4))) fun a1=>(Res.bind (Res.bind (Res.ok a_0) fun x5=>(Res.bind (Res.ok (1 : Int)) fun x6=>(Res.ok (decide (x5 = x6))))) fun x7=>(if x7 = true then (Res.bind (Res.bind (Res.bind (Res.ok (2 : Int)) fun x8=>(Res.bind (Res.ok a_4) fun x9=>(Ke x8 x9))) fun x10=>(Res.bind (Res.ok a_3) fun x11=>(Res.ok (x10 - x11)))) fun x12=>(Res.bind (Res.ok a_1) fun x13=>(QT x12 x13))) else (Res.bind (Res.bind (Res.ok a_0) fun x14=>(Res.bind (Res.ok (2 : Int)) fun x15=>(Res.ok (decide (x14 = x15))))) fun x16=>(if x16 = true then (Res.bind (Res.bind (Res.bind (Res.ok a_2) fun x17=>(Res.bind (Res.ok a_3) fun x18=>(Ke x17 x18))) fun x23=>(Res.bind (Res.bind (Res.bind (Res.ok (1 : Int)) fun x19=>(Res.bind (Res.ok a_2) fun x20=>(Res.ok (x19 - x20)))) fun x21=>(Res.bind (Res.ok a_4) fun x22=>(Ke x21 x22))) fun x24=>(Res.ok (x23 + x24)))) fun x25=>(Res.bind (Res.ok a_1) fun x26=>(QT x25 x26))) else (Res.bind (Vl (Res.bind (Res.ok a_0) fun x27=>(Res.bind (Res.ok (3 : Int)) fun x28=>(Res.ok (decide (x27 = x28))))) (Vl (Res.bind (Res.ok a_1) fun x29=>(Res.bind (Res.ok (2 : Int)) fun x30=>(Res.ok (decide (x30 < x29))))) (Vl (Res.bind (Res.ok a_3) fun x31=>(Res.bind (Res.ok (2 : Int)) fun x32=>(Res.ok (decide (x31 < x32))))) (Res.bind (Res.ok a_4) fun x35=>(Res.bind (Res.bind (Res.ok a_1) fun x33=>(Res.bind (Res.ok (1 : Int)) fun x34=>(Res.ok (x33 - x34)))) fun x36=>(Res.ok (decide (x35 = x36)))))))) fun x37=>(if x37 = true then (Res.bind (Res.ok (1 : Int)) fun x38=>(Res.bind (Res.ok a_3) fun x39=>(Res.ok (x38 - x39)))) else (Res.bind (Vl (Res.bind (Res.ok a_0) fun x40=>(Res.bind (Res.ok (6 : Int)) fun x41=>(Res.ok (decide (x40 = x41))))) (Vl (Res.bind (Res.ok a_3) fun x44=>(Res.bind (Res.bind (Res.ok a_1) fun x42=>(Res.bind (Res.ok (1 : Int)) fun x43=>(Res.ok (x42 - x43)))) fun x45=>(Res.ok (decide (x44 < x45))))) (Res.bind (Res.ok a_4) fun x48=>(Res.bind (Res.bind (Res.ok a_1) fun x46=>(Res.bind (Res.ok (1 : Int)) fun x47=>(Res.ok (x46 - x47)))) fun x49=>(Res.ok (decide (x48 = x49))))))) fun x50=>(if x50 = true then (Res.bind (Res.bind (Res.ok a_3) fun x51=>(Res.bind (Res.ok (1 : Int)) fun x52=>(Res.ok (x51 + x52)))) fun x55=>(Res.bind (Res.bind (Res.ok a_1) fun x53=>(Res.bind (Res.ok (1 : Int)) fun x54=>(Res.ok (x53 - x54)))) fun x56=>(QT x55 x56))) else (Res.bind (Vl (Res.bind (Res.ok a_0) fun x57=>(Res.bind (Res.ok (4 : Int)) fun x58=>(Res.ok (decide (x57 = x58))))) (Vl (Res.bind (Res.ok a_3) fun x59=>(Res.bind (Res.ok a1) fun x60=>(Res.ok (decide (x59 < x60))))) (Res.bind (Res.ok a_4) fun x61=>(Res.bind (Res.ok a1) fun x62=>(Res.ok (decide (x61 < x62))))))) fun x63=>(if x63 = true then (Res.bind (Res.bind (Res.bind (Res.ok (2 : Int)) fun x64=>(Res.bind (Res.ok a_4) fun x65=>(Ke x64 x65))) fun x66=>(Res.bind (Res.ok a_3) fun x67=>(Res.ok (x66 - x67)))) fun x68=>(Res.bind (Res.ok a1) fun x69=>(QT x68 x69))) else (Res.bind (Vl (Res.bind (Res.ok a_0) fun x70=>(Res.bind (Res.ok (4 : Int)) fun x71=>(Res.ok (decide (x70 = x71))))) (Vl (Res.bind (Res.ok a_3) fun x72=>(Res.bind (Res.ok a1) fun x73=>(Res.ok (decide (x73 <= x72))))) (Res.bind (Res.ok a_4) fun x74=>(Res.bind (Res.ok a1) fun x75=>(Res.ok (decide (x75 <= x74))))))) fun x76=>(if x76 = true then (Res.bind (Res.ok a1) fun x87=>(Res.bind (Res.bind (Res.bind (Res.bind (Res.bind (Res.ok (2 : Int)) fun x77=>(Res.bind (Res.ok a_4) fun x78=>(Ke x77 x78))) fun x79=>(Res.bind (Res.ok a_3) fun x80=>(Res.ok (x79 - x80)))) fun x81=>(Res.bind (Res.ok a1) fun x82=>(Res.ok (x81 - x82)))) fun x85=>(Res.bind (Res.bind (Res.ok a_1) fun x83=>(Res.bind (Res.ok a1) fun x84=>(Res.ok (x83 - x84)))) fun x86=>(QT x85 x86))) fun x88=>(Res.ok (x87 + x88)))) else (Res.ok a_3))))))))))))))
noncomputable def Qa (a_0 : Int) (a_1 : Int) : Res Int:=(Res.bind (Res.bind (Res.ok a_0) fun x1=>(Res.ok (x1.natAbs : Int))) fun a3=>(Res.bind (Res.bind (Res.ok a_1) fun x2=>(Res.ok (x2.natAbs : Int))) fun a4=>(Res.bind (Q2 (a3.natAbs + a4.natAbs + 2) (a3, a4) (fun g9=>(Res.bind (Res.ok g9.2) fun x11=>(Res.bind (Res.ok (0 : Int)) fun x12=>(Res.ok (decide (x12 < x11)))))) (fun g9=>(Res.bind (Res.ok g9.2) fun a15=>(Res.bind (Res.bind (Res.ok g9.1) fun x13=>(Res.bind (Res.ok g9.2) fun x14=>(QT x13 x14))) fun a16=>(Res.ok (a15, a16)))))) fun g19=>(Res.ok g19.1))))
noncomputable def VB (a_0 : Int) (a_1 : Int) (a_2 : Int) : Res (List (List Int)):=(Res.bind (Vl (Res.bind (Res.ok a_0) fun x1=>(Res.bind (Res.ok (5 : Int)) fun x2=>(Res.ok (decide (x1 = x2))))) (Res.bind (Res.ok a_1) fun x3=>(Res.bind (Res.ok (4 : Int)) fun x4=>(Res.ok (decide (x3 = x4)))))) fun x5=>(if x5 = true then (Res.bind (Res.bind (Res.bind (Res.bind (Res.ok (0 : Int)) fun x14=>(Res.bind (Res.bind (Res.ok (3 : Int)) fun x12=>(Res.bind (Res.bind (Res.ok (1 : Int)) fun x10=>(Res.bind (Res.bind (Res.ok (2 : Int)) fun x8=>(Res.bind (Res.ok []) fun x9=>(Res.ok (x8 :: x9)))) fun x11=>(Res.ok (x10 :: x11)))) fun x13=>(Res.ok (x12 :: x13)))) fun x15=>(Res.ok (x14 :: x15)))) fun x7=>(chk (x7.length <= sizeLine) (Res.ok x7))) fun x49=>(Res.bind (Res.bind (Res.bind (Res.bind (Res.ok (2 : Int)) fun x23=>(Res.bind (Res.bind (Res.ok (1 : Int)) fun x21=>(Res.bind (Res.bind (Res.ok (3 : Int)) fun x19=>(Res.bind (Res.bind (Res.ok (0 : Int)) fun x17=>(Res.bind (Res.ok []) fun x18=>(Res.ok (x17 :: x18)))) fun x20=>(Res.ok (x19 :: x20)))) fun x22=>(Res.ok (x21 :: x22)))) fun x24=>(Res.ok (x23 :: x24)))) fun x16=>(chk (x16.length <= sizeLine) (Res.ok x16))) fun x47=>(Res.bind (Res.bind (Res.bind (Res.bind (Res.ok (3 : Int)) fun x32=>(Res.bind (Res.bind (Res.ok (0 : Int)) fun x30=>(Res.bind (Res.bind (Res.ok (2 : Int)) fun x28=>(Res.bind (Res.bind (Res.ok (1 : Int)) fun x26=>(Res.bind (Res.ok []) fun x27=>(Res.ok (x26 :: x27)))) fun x29=>(Res.ok (x28 :: x29)))) fun x31=>(Res.ok (x30 :: x31)))) fun x33=>(Res.ok (x32 :: x33)))) fun x25=>(chk (x25.length <= sizeLine) (Res.ok x25))) fun x45=>(Res.bind (Res.bind (Res.bind (Res.bind (Res.ok (1 : Int)) fun x41=>(Res.bind (Res.bind (Res.ok (2 : Int)) fun x39=>(Res.bind (Res.bind (Res.ok (0 : Int)) fun x37=>(Res.bind (Res.bind (Res.ok (3 : Int)) fun x35=>(Res.bind (Res.ok []) fun x36=>(Res.ok (x35 :: x36)))) fun x38=>(Res.ok (x37 :: x38)))) fun x40=>(Res.ok (x39 :: x40)))) fun x42=>(Res.ok (x41 :: x42)))) fun x34=>(chk (x34.length <= sizeLine) (Res.ok x34))) fun x43=>(Res.bind (Res.ok []) fun x44=>(Res.ok (x43 :: x44)))) fun x46=>(Res.ok (x45 :: x46)))) fun x48=>(Res.ok (x47 :: x48)))) fun x50=>(Res.ok (x49 :: x50)))) fun x6=>(chk (x6.length <= sizeLine) (Res.ok x6))) else (Res.bind (Q2 (a_1.natAbs + 2) (a_2) (fun g53=>(Res.bind (Res.bind (Res.ok g53) fun x56=>(Res.bind (Res.ok a_1) fun x57=>(noE (Qa x56 x57)))) fun x58=>(Res.bind (Res.ok (1 : Int)) fun x59=>(Res.ok (!(decide (x58 = x59))))))) (fun g53=>(Res.bind (Res.bind (Res.ok g53) fun x62=>(Res.bind (Res.ok (1 : Int)) fun x63=>(Res.ok (x62 + x63)))) fun a60=>(Res.ok (a60))))) fun g64=>(Res.bind (Res.ok []) fun a66=>(Res.bind (Res.bind (Res.ok a_1) fun x69=>(Vx 0 x69)) fun x92=>(Res.bind (forN x92 (a66) (fun g72 a74=>(Res.bind (Res.bind (Res.bind (Res.ok a_1) fun x76=>(Vx 0 x76)) fun x80=>(UD x80 (fun a78=>(Res.bind (Res.ok a_0) fun x82=>(Res.bind (Res.ok a_1) fun x83=>(Res.bind (Res.ok g64) fun x84=>(Res.bind (Res.ok a74) fun x85=>(Res.bind (Res.ok a78) fun x86=>(noE (Y5 x82 x83 x84 x85 x86)))))))))) fun a87=>(chk (g72.length < sizeLine) ((fun a89=>(Res.ok (a89))) (g72 ++ [a87])))))) fun g90=>(Res.ok g90)))))))
noncomputable def YT (a_0 : (List Int)) (a_1 : Int) : Res (List Int):=(Res.bind (Res.bind (Res.ok a_1) fun x4=>(chk (0 <= x4 /\ x4 <= 1000) (Res.ok (YL 0 x4)))) fun a1=>(Res.bind (Res.ok []) fun a5=>(Res.bind (Res.bind (Res.ok a_1) fun x8=>(Vx 0 x8)) fun x29=>(Res.bind (forN x29 (a5, a1) (fun g11 a13=>(Res.bind (Res.bind (Res.bind (Res.ok a_0) fun x15=>(Res.bind (Res.ok a13) fun x16=>(atR x15 x16))) fun x18=>(Res.bind (Res.bind (Res.ok g11.2) fun x17=>(Res.ok (x17.length : Int))) fun x19=>(QT x18 x19))) fun x25=>(Res.bind (CY g11.2 x25) fun p26=>(chk (g11.1.length < sizeLine) ((fun a21 a22=>(Res.ok (a22, a21))) p26.2 (g11.1 ++ [p26.1]))))))) fun g27=>(Res.ok g27.1)))))
noncomputable def Zg (a_0 : (List (List Int))) (a_1 : (List Int)) : Res (List (List Int)):=(Res.bind (Res.bind (Res.ok a_0) fun x7=>(UD x7 (fun a5=>(Res.bind (Res.ok a5) fun x8=>(Res.ok x8))))) fun a1=>(Res.bind (Res.bind (Res.bind (Res.ok a_0) fun x9=>(Res.ok (x9.length : Int))) fun x10=>(Vx 0 x10)) fun x47=>(Res.bind (forN x47 (a1) (fun g13 a15=>(Res.bind (Res.bind (Res.bind (Res.ok a_0) fun x17=>(Res.ok (x17.length : Int))) fun x18=>(Vx 0 x18)) fun x44=>(Res.bind (forN x44 (g13) (fun g21 a23=>(Res.bind (Res.bind (Res.ok a_1) fun x29=>(Res.bind (Res.bind (Res.bind (Res.ok a_0) fun x25=>(Res.bind (Res.ok a15) fun x26=>(atR x25 x26))) fun x27=>(Res.bind (Res.ok a23) fun x28=>(atR x27 x28))) fun x30=>(atR x29 x30))) fun x35=>(Res.bind (Res.bind (Res.ok a_1) fun x31=>(Res.bind (Res.ok a15) fun x32=>(atR x31 x32))) fun x36=>(Res.bind (atR g21 x36) fun x40=>(Res.bind (Res.bind (Res.ok a_1) fun x33=>(Res.bind (Res.ok a23) fun x34=>(atR x33 x34))) fun x37=>(Res.bind (ZU x40 x37 x35) fun x41=>(Res.bind (ZU g21 x36 x41) fun a38=>(Res.ok (a38)))))))))) fun g42=>(Res.ok (g42)))))) fun g45=>(Res.ok g45))))
noncomputable def QK (a_0 : (List Int)) (a_1 : Int) (a_2 : Int) : Res (List (List Int)):=(Res.bind (Res.bind (Res.ok a_0) fun x20=>(Res.bind (Res.ok a_1) fun x21=>(Res.bind (Res.bind (Res.bind (Res.bind (Res.ok (7 : Int)) fun x13=>(Res.bind (Res.bind (Res.ok (24 : Int)) fun x11=>(Res.bind (Res.bind (Res.ok (6 : Int)) fun x9=>(Res.bind (Res.bind (Res.ok (2 : Int)) fun x7=>(Res.bind (Res.ok []) fun x8=>(Res.ok (x7 :: x8)))) fun x10=>(Res.ok (x9 :: x10)))) fun x12=>(Res.ok (x11 :: x12)))) fun x14=>(Res.ok (x13 :: x14)))) fun x6=>(chk (x6.length <= sizeLine) (Res.ok x6))) fun x4=>(Res.bind (Res.bind (Res.bind (Res.bind (Res.ok (24 : Int)) fun x18=>(Res.bind (Res.ok []) fun x19=>(Res.ok (x18 :: x19)))) fun x17=>(chk (x17.length <= sizeLine) (Res.ok x17))) fun x15=>(Res.bind (Res.ok (24 : Int)) fun x16=>(GU x15 x16))) fun x5=>(DP x4 x5))) fun x22=>(noE (Ud x20 x21 x22))))) fun a1=>(Res.bind (Res.bind (Res.ok (1 : Int)) fun x29=>(Res.bind (Res.bind (Res.bind (Res.ok a1) fun x25=>(Res.bind (Res.ok (1 : Int)) fun x26=>(atR x25 x26))) fun x27=>(Res.bind (Res.ok a_2) fun x28=>(QT x27 x28))) fun x30=>(Res.ok (x29 + x30)))) fun a23=>(Res.bind (Res.bind (Res.bind (Res.ok a1) fun x35=>(Res.bind (Res.ok (0 : Int)) fun x36=>(atR x35 x36))) fun x41=>(Res.bind (Res.ok a23) fun x42=>(Res.bind (Res.bind (Res.ok (2 : Int)) fun x39=>(Res.bind (Res.bind (Res.ok a1) fun x37=>(Res.bind (Res.ok (2 : Int)) fun x38=>(atR x37 x38))) fun x40=>(Res.ok (x39 + x40)))) fun x43=>(noE (VB x41 x42 x43))))) fun a31=>(Res.bind (Res.bind (Res.bind (Res.ok a1) fun x44=>(Res.bind (Res.ok (3 : Int)) fun x45=>(atR x44 x45))) fun x46=>(Res.bind (Res.ok (0 : Int)) fun x47=>(Res.ok (decide (x46 = x47))))) fun x48=>(if x48 = true then (Res.ok a31) else (Res.bind (Res.ok a31) fun x57=>(Res.bind (Res.bind (Res.bind (Res.ok a1) fun x52=>(Res.bind (Res.bind (Res.ok (4 : Int)) fun x51=>(Res.ok (some x51))) fun x53=>(Res.bind (Res.ok none) fun x54=>(Res.ok (KU x52 x53 x54))))) fun x55=>(Res.bind (Res.ok a23) fun x56=>(noE (YT x55 x56)))) fun x58=>(noE (Zg x57 x58)))))))))
noncomputable def Z1 (a_0 : Int) : Res Bool:=(Vl (Res.bind (Res.ok a_0) fun x1=>(Res.ok true)) (Res.bind (Res.bind (Res.ok a_0) fun x2=>(Res.ok false)) fun x3=>(Res.ok (!x3))))
noncomputable def XV (a_0 : (List Int)) : Res Bool:=(Res.bind (Res.bind (Res.bind (Res.ok a_0) fun x1=>(Res.ok true)) fun x2=>(Res.ok (!x2))) fun x3=>(if x3 = true then (Res.ok false) else (Res.bind (Res.ok a_0) fun x18=>(Res.bind (forC x18 () (fun g6 a8=>(Res.bind (Res.bind (Res.bind (Res.ok a8) fun x11=>(noE (Z1 x11))) fun x12=>(Res.ok (!x12))) fun x13=>(if x13 = true then (Res.bind (Res.ok false) fun x15=>(Res.ok (Ctl.ret x15))) else (Res.bind (Res.ok ()) fun x14=>(Res.ok (Ctl.nx x14))))))) (V0 fun g16=>(Res.ok true))))))
noncomputable def QH (a_0 : (List (List Int))) (a_1 : (List Int)) : Res (List Int):=(Res.bind (Res.bind (Res.bind (Res.bind (Res.ok false) fun x7=>(Res.bind (Res.ok []) fun x8=>(Res.ok (x7 :: x8)))) fun x6=>(chk (x6.length <= sizeLine) (Res.ok x6))) fun x4=>(Res.bind (Res.bind (Res.ok a_0) fun x9=>(Res.ok (x9.length : Int))) fun x5=>(GU x4 x5))) fun a1=>(Res.bind (Res.ok a_1) fun x80=>(Res.bind (forN x80 (a1) (fun g12 a14=>(Res.bind (Res.ok true) fun x16=>(Res.bind (Res.ok a14) fun x17=>(Res.bind (ZU g12 x17 x16) fun a18=>(Res.ok (a18))))))) fun g20=>(Res.bind (Res.bind (Res.bind (Res.ok a_0) fun x22=>(Res.ok (x22.length : Int))) fun x23=>(Vx 0 x23)) fun x79=>(Res.bind (forN x79 (g20) (fun g26 a28=>(Res.bind (Res.bind (Res.bind (Res.ok a_0) fun x30=>(Res.ok (x30.length : Int))) fun x31=>(Vx 0 x31)) fun x68=>(Res.bind (forN x68 (g26) (fun g34 a36=>(Res.bind (Res.bind (Res.bind (Res.ok a_0) fun x38=>(Res.ok (x38.length : Int))) fun x39=>(Vx 0 x39)) fun x65=>(Res.bind (forN x65 (g34) (fun g42 a44=>(Res.bind (Res.bind (Vl (Res.bind (Res.ok g42) fun x46=>(Res.bind (Res.ok a36) fun x47=>(atR x46 x47))) (Res.bind (Res.ok g42) fun x48=>(Res.bind (Res.ok a44) fun x49=>(atR x48 x49)))) fun x50=>(if x50 = true then (Res.bind (Res.ok true) fun x57=>(Res.bind (Res.bind (Res.bind (Res.ok a_0) fun x53=>(Res.bind (Res.ok a36) fun x54=>(atR x53 x54))) fun x55=>(Res.bind (Res.ok a44) fun x56=>(atR x55 x56))) fun x58=>(Res.bind (ZU g42 x58 x57) fun a59=>(Res.ok (a59))))) else (Res.ok (g42)))) fun g62=>(Res.ok (g62))))) fun g63=>(Res.ok (g63)))))) fun g66=>(Res.ok (g66)))))) fun g69=>(Res.bind (Res.bind (Res.bind (Res.ok a_0) fun x71=>(Res.ok (x71.length : Int))) fun x72=>(Vx 0 x72)) fun x76=>(Ck x76 (fun a74=>(Res.bind (Res.ok g69) fun x77=>(Res.bind (Res.ok a74) fun x78=>(atR x77 x78)))) (fun a74=>(Res.ok a74)))))))))
noncomputable def Z4 (a_0 : (List (List Int))) : Res (List (List Int)):=(Res.bind (Res.bind (Res.bind (Res.ok a_0) fun x5=>(Res.ok (x5.length : Int))) fun x4=>(chk (0 <= x4 /\ x4 <= 1000) (Res.ok (YL 0 x4)))) fun a1=>(Res.bind (Res.bind (Res.bind (Res.ok a_0) fun x6=>(Res.ok (x6.length : Int))) fun x7=>(Vx 0 x7)) fun x92=>(Res.bind (forN x92 (a1) (fun g10 a12=>(Res.bind (Res.bind (Res.bind (Res.ok a_0) fun x14=>(Res.ok (x14.length : Int))) fun x15=>(Vx 0 x15)) fun x51=>(Res.bind (forN x51 (g10) (fun g18 a20=>(Res.bind (Res.bind (Res.ok a_0) fun x22=>(Res.bind (Res.ok a20) fun x23=>(atR x22 x23))) fun x48=>(Res.bind (forN x48 (g18) (fun g26 a28=>(Res.bind (Res.bind (Res.bind (Res.ok g26) fun x32=>(Res.bind (Res.ok a20) fun x33=>(atR x32 x33))) fun x36=>(Res.bind (Res.bind (Res.ok g26) fun x34=>(Res.bind (Res.ok a28) fun x35=>(atR x34 x35))) fun x37=>(Res.ok (min x36 x37)))) fun a30=>(Res.bind (Res.ok a30) fun x38=>(Res.bind (Res.ok a20) fun x39=>(Res.bind (ZU g26 x39 x38) fun a40=>(Res.bind (Res.ok a30) fun x42=>(Res.bind (Res.ok a28) fun x43=>(Res.bind (ZU a40 x43 x42) fun a44=>(Res.ok (a44))))))))))) fun g46=>(Res.ok (g46)))))) fun g49=>(Res.ok (g49)))))) fun g52=>(Res.bind (Res.ok []) fun a54=>(Res.bind (Res.bind (Res.bind (Res.ok a_0) fun x57=>(Res.ok (x57.length : Int))) fun x58=>(Vx 0 x58)) fun x91=>(Res.bind (forN x91 (a54) (fun g61 a63=>(Res.bind (Res.bind (Res.bind (Res.bind (Res.ok a_0) fun x68=>(Res.ok (x68.length : Int))) fun x69=>(Vx 0 x69)) fun x73=>(Ck x73 (fun a71=>(Res.bind (Res.bind (Res.ok g52) fun x74=>(Res.bind (Res.ok a71) fun x75=>(atR x74 x75))) fun x76=>(Res.bind (Res.ok a63) fun x77=>(Res.ok (decide (x76 = x77)))))) (fun a71=>(Res.ok a71)))) fun a65=>(Res.bind (Res.bind (Res.bind (Res.bind (Res.ok a65) fun x78=>(Res.ok (x78.length : Int))) fun x79=>(Res.bind (Res.ok (0 : Int)) fun x80=>(Res.ok (decide (x80 < x79))))) fun x81=>(if x81 = true then (Res.bind (Res.ok a65) fun a84=>(chk (g61.length < sizeLine) ((fun a86=>(Res.ok (a86))) (g61 ++ [a84])))) else (Res.ok (g61)))) fun g88=>(Res.ok (g88)))))) fun g89=>(Res.ok g89)))))))
noncomputable def K0 (a_0 : (List (List Int))) (a_1 : (List Int)) : Res (Option (List (List Int))):=(Res.bind (Res.ok []) fun a1=>(Res.bind (Res.ok a_1) fun x51=>(Res.bind (forC x51 (a1) (fun g6 a8=>(Res.bind (Res.ok []) fun a10=>(Res.bind (Res.ok a_1) fun x43=>(Res.bind (forC x43 (a10) (fun g15 a17=>(Res.bind (Res.bind (Res.bind (Res.bind (Res.ok a_0) fun x19=>(Res.bind (Res.ok a8) fun x20=>(atR x19 x20))) fun x21=>(Res.bind (Res.ok a17) fun x22=>(atR x21 x22))) fun x23=>(Res.bind (Res.ok a_1) fun x24=>(Res.ok (!(decide (x23 ∈ x24)))))) fun x25=>(if x25 = true then (Res.bind (Res.ok none) fun x36=>(Res.ok (Ctl.ret x36))) else (Res.bind (Res.bind (Res.ok a_1) fun x30=>(Res.bind (Res.bind (Res.bind (Res.ok a_0) fun x26=>(Res.bind (Res.ok a8) fun x27=>(atR x26 x27))) fun x28=>(Res.bind (Res.ok a17) fun x29=>(atR x28 x29))) fun x31=>(FY x30 x31))) fun a32=>(chk (g15.length < sizeLine) ((fun a34=>(Res.bind (Res.ok (a34)) fun x35=>(Res.ok (Ctl.nx x35)))) (g15 ++ [a32])))))))) (Z0 fun g37=>(Res.bind (Res.ok g37) fun a39=>(chk (g6.length < sizeLine) ((fun a41=>(Res.bind (Res.ok (a41)) fun x42=>(Res.ok (Ctl.nx x42)))) (g6 ++ [a39])))))))))) (V0 fun g44=>(Res.bind (Res.bind (Res.bind (Res.ok g44) fun x46=>(Res.ok (x46.length : Int))) fun x47=>(Res.bind (Res.ok (0 : Int)) fun x48=>(Res.ok (decide (x47 = x48))))) fun x49=>(if x49 = true then (Res.ok none) else (Res.bind (Res.ok g44) fun x50=>(Res.ok (some x50)))))))))
noncomputable def Q4 (a_0 : (List (List Int))) (a_1 : (List Int)) : Res ((Str × Bool) ⊕ (Str × (List (List Int)))):=(Res.tryC (Res.bind (Res.ok a_0) fun x12=>(Res.bind (Res.ok a_1) fun x13=>(QU x12 x13))) (fun a9=>(Res.bind (Res.bind (Res.ok ("yes" : Str)) fun x14=>(Res.bind (Res.ok a9) fun x15=>(Res.ok (x14, x15)))) fun x16=>(Res.ok (Sum.inr x16)))) (fun x1=>(chk (cau XR x1.cls "PlaitError" = true) (Res.bind (Vl (Res.bind (Res.ok (YX x1.cls "TooBig")) fun x4=>(Res.ok (!x4))) (Res.bind (Res.ok (YX x1.cls "NoFit")) fun x5=>(Res.ok (!x5)))) fun a2=>(Res.bind (Res.bind (Res.ok ("no" : Str)) fun x6=>(Res.bind (Vl (Res.ok a2) (Res.ok (YX x1.cls "NotClosed"))) fun x7=>(Res.ok (x6, x7)))) fun x8=>(Res.ok (Sum.inl x8)))))))
noncomputable def ZC (a_0 : (List (List Int))) (a_1 : (List Int)) : Res Bool:=(Res.bind (Res.bind (Res.ok a_0) fun x6=>(UD x6 (fun a4=>(Res.bind (Res.ok a4) fun x7=>(Res.ok x7))))) fun a1=>(Res.bind (Res.bind (Res.ok a_1) fun x10=>(Res.ok x10)) fun a8=>(Res.bind (Res.bind (Res.ok a1) fun x15=>(Res.bind (Res.ok a8) fun x16=>(noE (Q4 x15 x16)))) fun a11=>(Res.bind (orR (Res.bind (Res.ok a1) fun x17=>(Res.bind (Res.ok a_0) fun x18=>(Res.ok (!(decide (x17 = x18)))))) (Res.bind (Res.ok a8) fun x19=>(Res.bind (Res.ok a_1) fun x20=>(Res.ok (!(decide (x19 = x20))))))) fun x21=>(if x21 = true then (Res.ok false) else (Res.bind (Res.bind (Res.ok a_0) fun x25=>(Res.bind (Res.ok a_1) fun x26=>(noE (K0 x25 x26)))) fun a22=>(Res.bind (Res.bind (Res.ok a22) fun x27=>(Res.ok x27.isNone)) fun x28=>(if x28 = true then (Res.bind (Res.ok a11) fun x31=>(Res.bind (Res.bind (Res.bind (Res.ok ("no" : Str)) fun x29=>(Res.bind (Res.ok true) fun x30=>(Res.ok (x29, x30)))) fun x33=>(Res.ok (Sum.inl x33))) fun x32=>(Res.ok (decide (x31 = x32))))) else (Res.bind (Res.bind (Res.ok a11) fun x36=>(Res.bind (Res.bind (Res.bind (Res.ok ("yes" : Str)) fun x34=>(Res.bind (Res.bind (Res.ok a22) IS) fun x35=>(Res.ok (x34, x35)))) fun x38=>(Res.ok (Sum.inr x38))) fun x37=>(Res.ok (!(decide (x36 = x37)))))) fun x39=>(if x39 = true then (Res.ok false) else (Res.bind (getR a11) fun b40=>(chk ((b40.2.all fun a45=>isF (Res.bind (Res.bind (Res.ok a45) fun x48=>(noE (XV x48))) fun x49=>(Res.ok (!x49)))) = true /\ ∀ row ∈ b40.2, row.length < sizeLine) ((fun a44=>(Res.bind (Res.ok a1) fun x50=>(Res.bind (Res.ok a_0) fun x51=>(Res.ok (decide (x50 = x51)))))) (b40.2.map (· ++ [0])))))))))))))))
noncomputable def YG (a_0 : (List (List Int))) : Res Bool:=(Res.bind (Res.bind (Res.ok a_0) fun x6=>(UD x6 (fun a4=>(Res.bind (Res.ok a4) fun x7=>(Res.ok x7))))) fun a1=>(Res.bind (Res.bind (Res.ok a1) fun x12=>(noE (Z5 x12))) fun a8=>(Res.bind (orR (Res.bind (Res.bind (Res.ok a8) fun x13=>(Res.ok true)) fun x14=>(Res.ok (!x14))) (Res.bind (Res.ok a8) fun x17=>(Res.bind (Res.bind (Res.ok a_0) fun x16=>(noE (Z4 x16))) fun x18=>(Res.ok (!(decide (x17 = x18))))))) fun x19=>(if x19 = true then (Res.ok false) else (chk ((a8.all fun a23=>isF (Res.bind (Res.bind (Res.ok a23) fun x26=>(noE (XV x26))) fun x27=>(Res.ok (!x27)))) = true /\ ∀ row ∈ a8, row.length < sizeLine) ((fun a22=>(Res.bind (Res.ok a1) fun x28=>(Res.bind (Res.ok a_0) fun x29=>(Res.ok (decide (x28 = x29)))))) (a8.map (· ++ [0]))))))))
noncomputable def YE (a_0 : Int) : Res (List (List Int)):=(Res.bind (Res.bind (Res.bind (Res.ok a_0) fun x4=>(Vx 0 x4)) fun x8=>(UD x8 (fun a6=>(Res.bind (Res.bind (Res.bind (Res.ok a6) fun x12=>(Res.bind (Res.ok []) fun x13=>(Res.ok (x12 :: x13)))) fun x11=>(chk (x11.length <= sizeLine) (Res.ok x11))) fun x9=>(Res.bind (Res.ok a_0) fun x10=>(GU x9 x10)))))) fun a1=>(Res.bind (Res.bind (Res.ok (4 : Int)) fun x14=>(Vx 0 x14)) fun x53=>(Res.bind (forN x53 (a1) (fun g17 a19=>(Res.bind (Res.bind (Res.bind (Res.ok a19) fun x21=>(Res.bind (Res.ok (1 : Int)) fun x22=>(Res.ok (x21 + x22)))) fun x27=>(Res.bind (Res.bind (Res.ok (2 : Int)) fun x25=>(Res.bind (Res.bind (Res.ok a19) fun x23=>(Res.bind (Res.ok (2 : Int)) fun x24=>(QT x23 x24))) fun x26=>(Ke x25 x26))) fun x28=>(Res.ok (x27 - x28)))) fun x31=>(Res.bind (Res.ok a19) fun x32=>(Res.bind (atR g17 x32) fun x36=>(Res.bind (Res.bind (Res.ok a_0) fun x29=>(Res.bind (Res.ok (1 : Int)) fun x30=>(Res.ok (x29 - x30)))) fun x33=>(Res.bind (ZU x36 x33 x31) fun x37=>(Res.bind (ZU g17 x32 x37) fun a34=>(Res.bind (Res.bind (Res.bind (Res.ok a19) fun x38=>(Res.bind (Res.ok (2 : Int)) fun x39=>(Res.ok (x38 + x39)))) fun x40=>(Res.bind (Res.ok (4 : Int)) fun x41=>(QT x40 x41))) fun x44=>(Res.bind (Res.ok a19) fun x45=>(Res.bind (atR a34 x45) fun x49=>(Res.bind (Res.bind (Res.ok a_0) fun x42=>(Res.bind (Res.ok (2 : Int)) fun x43=>(Res.ok (x42 - x43)))) fun x46=>(Res.bind (ZU x49 x46 x44) fun x50=>(Res.bind (ZU a34 x45 x50) fun a47=>(Res.ok (a47)))))))))))))))) fun g51=>(Res.ok g51))))
noncomputable def Kj (a_0 : (List Int)) : Res Bool:=(Res.bind (Res.bind (Res.ok a_0) fun x28=>(Res.bind (Res.ok (1 : Int)) fun x29=>(Res.bind (Res.bind (Res.bind (Res.bind (Res.bind (Res.bind (Res.ok (4 : Int)) fun x13=>(Res.bind (Res.bind (Res.ok (4 : Int)) fun x11=>(Res.bind (Res.ok []) fun x12=>(Res.ok (x11 :: x12)))) fun x14=>(Res.ok (x13 :: x14)))) fun x10=>(chk (x10.length <= sizeLine) (Res.ok x10))) fun x8=>(Res.bind (Res.bind (Res.bind (Res.bind (Res.ok (24 : Int)) fun x18=>(Res.bind (Res.ok []) fun x19=>(Res.ok (x18 :: x19)))) fun x17=>(chk (x17.length <= sizeLine) (Res.ok x17))) fun x15=>(Res.bind (Res.ok (3 : Int)) fun x16=>(GU x15 x16))) fun x9=>(DP x8 x9))) fun x6=>(Res.bind (Res.bind (Res.bind (Res.bind (Res.ok (2 : Int)) fun x23=>(Res.bind (Res.ok []) fun x24=>(Res.ok (x23 :: x24)))) fun x22=>(chk (x22.length <= sizeLine) (Res.ok x22))) fun x20=>(Res.bind (Res.ok (24 : Int)) fun x21=>(GU x20 x21))) fun x7=>(DP x6 x7))) fun x4=>(Res.bind (Res.bind (Res.bind (Res.ok (8 : Int)) fun x26=>(Res.bind (Res.ok []) fun x27=>(Res.ok (x26 :: x27)))) fun x25=>(chk (x25.length <= sizeLine) (Res.ok x25))) fun x5=>(DP x4 x5))) fun x30=>(noE (Ud x28 x29 x30))))) fun a1=>(Res.bind (Res.bind (Res.ok a_0) fun x45=>(Res.bind (Res.ok (0 : Int)) fun x46=>(Res.bind (Res.bind (Res.bind (Res.bind (Res.ok (10 : Int)) fun x37=>(Res.bind (Res.bind (Res.ok (24 : Int)) fun x35=>(Res.bind (Res.ok []) fun x36=>(Res.ok (x35 :: x36)))) fun x38=>(Res.ok (x37 :: x38)))) fun x34=>(chk (x34.length <= sizeLine) (Res.ok x34))) fun x43=>(Res.bind (Res.bind (Res.bind (Res.ok a1) fun x39=>(Res.bind (Res.ok (29 : Int)) fun x40=>(atR x39 x40))) fun x41=>(Res.bind (Res.ok (7 : Int)) fun x42=>(EF x41 x42))) fun x44=>(atR x43 x44))) fun x47=>(noE (QK x45 x46 x47))))) fun a31=>(Res.bind (Res.bind (Res.ok a31) fun x50=>(Res.ok (x50.length : Int))) fun a48=>(Res.bind (Res.bind (Res.ok a_0) fun x66=>(Res.bind (Res.ok (3 : Int)) fun x67=>(Res.bind (Res.bind (Res.bind (Res.bind (Res.ok (6 : Int)) fun x59=>(Res.bind (Res.bind (Res.ok (2 : Int)) fun x57=>(Res.bind (Res.ok []) fun x58=>(Res.ok (x57 :: x58)))) fun x60=>(Res.ok (x59 :: x60)))) fun x56=>(chk (x56.length <= sizeLine) (Res.ok x56))) fun x54=>(Res.bind (Res.bind (Res.bind (Res.bind (Res.ok (24 : Int)) fun x64=>(Res.bind (Res.ok []) fun x65=>(Res.ok (x64 :: x65)))) fun x63=>(chk (x63.length <= sizeLine) (Res.ok x63))) fun x61=>(Res.bind (Res.ok (24 : Int)) fun x62=>(GU x61 x62))) fun x55=>(DP x54 x55))) fun x68=>(noE (Ud x66 x67 x68))))) fun a51=>(Res.bind (Res.bind (Vl (Res.bind (Res.bind (Res.ok a51) fun x69=>(Res.bind (Res.ok (0 : Int)) fun x70=>(atR x69 x70))) fun x71=>(Res.bind (Res.ok (0 : Int)) fun x72=>(Res.ok (decide (x71 = x72))))) (Res.bind (Res.ok a48) fun x73=>(Res.bind (Res.ok (5 : Int)) fun x74=>(Res.ok (decide (x74 < x73)))))) fun x75=>(if x75 = true then (Res.bind (Res.bind (Res.ok a48) fun x81=>(noE (YE x81))) fun a78=>(Res.bind (Res.bind (Res.bind (Res.bind (Res.ok a51) fun x82=>(Res.bind (Res.ok (1 : Int)) fun x83=>(atR x82 x83))) fun x84=>(Res.bind (Res.ok (0 : Int)) fun x85=>(Res.ok (decide (x84 = x85))))) fun x86=>(if x86 = true then (Res.bind (Res.bind (Res.ok a78) fun x99=>(Res.bind (Res.bind (Res.bind (Res.ok a51) fun x94=>(Res.bind (Res.bind (Res.ok (2 : Int)) fun x93=>(Res.ok (some x93))) fun x95=>(Res.bind (Res.ok none) fun x96=>(Res.ok (KU x94 x95 x96))))) fun x97=>(Res.bind (Res.ok a48) fun x98=>(noE (YT x97 x98)))) fun x100=>(noE (Zg x99 x100)))) fun a89=>(Res.ok (a89))) else (Res.ok (a78)))) fun g102=>(Res.ok (g102)))) else (Res.ok (a31)))) fun g104=>(Res.bind (Res.bind (Res.ok g104) fun x123=>(Res.bind (Res.bind (Res.bind (Res.ok a1) fun x114=>(Res.bind (Res.bind (Res.ok (2 : Int)) fun x108=>(Res.ok (some x108))) fun x115=>(Res.bind (Res.bind (Res.bind (Res.ok (2 : Int)) fun x111=>(Res.bind (Res.bind (Res.ok a1) fun x109=>(Res.bind (Res.ok (1 : Int)) fun x110=>(atR x109 x110))) fun x112=>(Res.ok (x111 + x112)))) fun x113=>(Res.ok (some x113))) fun x116=>(Res.ok (KU x114 x115 x116))))) fun x120=>(UD x120 (fun a118=>(Res.bind (Res.ok a118) fun x121=>(Res.bind (Res.ok a48) fun x122=>(QT x121 x122)))))) fun x124=>(noE (QH x123 x124)))) fun a105=>(Res.bind (Res.bind (Res.bind (Res.bind (Res.ok a1) fun x125=>(Res.bind (Res.ok (0 : Int)) fun x126=>(atR x125 x126))) fun x127=>(Res.bind (Res.ok (0 : Int)) fun x128=>(Res.ok (decide (x127 = x128))))) fun x129=>(if x129 = true then (Res.bind (Res.bind (Res.ok a48) fun x134=>(chk (0 <= x134 /\ x134 <= 1000) (Res.ok (YL 0 x134)))) fun a132=>(Res.ok (a132))) else (Res.ok (a105)))) fun g136=>(Res.bind (Res.bind (Res.bind (Res.bind (Res.ok a1) fun x137=>(Res.bind (Res.ok (0 : Int)) fun x138=>(atR x137 x138))) fun x139=>(Res.bind (Res.ok (1 : Int)) fun x140=>(Res.ok (decide (x139 = x140))))) fun x141=>(if x141 = true then (Res.bind (Res.bind (Res.bind (Res.ok a48) fun x146=>(Vx 0 x146)) fun x150=>(Ck x150 (fun a148=>(Res.bind (Res.bind (Res.ok a1) fun x153=>(Res.bind (Res.bind (Res.ok (5 : Int)) fun x151=>(Res.bind (Res.ok a148) fun x152=>(Res.ok (x151 + x152)))) fun x154=>(atR x153 x154))) fun x155=>(Res.bind (Res.ok (0 : Int)) fun x156=>(Res.ok (decide (x155 = x156)))))) (fun a148=>(Res.ok a148)))) fun a144=>(Res.ok (a144))) else (Res.ok (g136)))) fun g158=>(Res.bind (orR (Res.bind (Res.bind (Res.ok g104) fun x160=>(noE (YG x160))) fun x161=>(Res.ok (!x161))) (Res.bind (Res.bind (Res.ok g104) fun x163=>(Res.bind (Res.ok g158) fun x164=>(noE (ZC x163 x164)))) fun x165=>(Res.ok (!x165)))) fun x166=>(if x166 = true then (Res.ok false) else (Vl (Res.bind (Res.ok g104) fun x168=>(noE (YG x168))) (Res.bind (Res.ok g104) fun x170=>(Res.bind (Res.ok g158) fun x171=>(noE (ZC x170 x171)))))))))))))))
end My
namespace L2
open PySem
section
variable {α β γ ρ : Type}
theorem Res.okb (a : α) (f : α -> Res β) : (Res.ok a).bind f = f a:=(Eq.refl (f a)).symm.symm
theorem F0 {f : α -> Res β} {h : α -> β} : ∀ {as : List α}, (∀ a ∈ as, f a = .ok (h a)) -> Fe as f = .ok (as.map h)
  | [], _=>rfl
  | a :: as, hf=>by
    show (f a).bind _ = _
    rw [hf a (by simp), Res.ok_bind, F0 fun b hb=>hf b (by simp [hb])]; rfl
theorem Y6 {f : α -> Res β} {h : α -> β} {as : List α} (hl : as.length <= sizeLine) (hf : ∀ a ∈ as, f a = .ok (h a)) : UD as f = .ok (as.map h):=by
  unfold UD; rw [XD hl]; exact F0 hf
theorem Dv {c : α -> Res Bool} {f : α -> Res β} {p : α -> Bool} {h : α -> β} : ∀ {as : List α}, (∀ a ∈ as, c a = .ok (p a)) -> (∀ a ∈ as, p a = true -> f a = .ok (h a)) -> Gu as c f = .ok ((as.filter p).map h)
  | [], _, _=>rfl
  | a :: as, hc, hf=>by
    show (c a).bind _ = _
    rw [hc a (by simp), Res.ok_bind]
    have ih:=Dv (as:=as) (fun b hb=>hc b (by simp [hb])) fun b hb=>hf b (by simp [hb])
    cases hp : p a with
    | false=>rw [if_neg (by simp), ih, List.filter_cons, hp]; rfl
    | true=>rw [if_pos rfl, hf a (by simp) hp, Res.ok_bind, ih, List.filter_cons, hp]; rfl
theorem Hj {c : α -> Res Bool} {f : α -> Res β} {p : α -> Bool} {h : α -> β} {as : List α} (hl : as.length <= sizeLine) (hc : ∀ a ∈ as, c a = .ok (p a)) (hf : ∀ a ∈ as, p a = true -> f a = .ok (h a)) : Ck as c f = .ok ((as.filter p).map h):=by
  unfold Ck; rw [XD hl]; exact Dv hc hf
theorem UL {f : γ -> α -> Res γ} (P : Nat -> γ -> Prop) : ∀ (as : List α) (k : Nat) (g : γ), P k g -> (∀ i a g, as[i]? = some a -> P (k + i) g -> ∃ g', f g a = .ok g' /\ P (k + i + 1) g') -> ∃ g', forN as g f = .ok g' /\ P (k + as.length) g'
  | [], k, g, h0, _=>⟨g, rfl, h0⟩
  | a :: as, k, g, h0, hs=>by
    obtain ⟨g1, e1, p1⟩:=hs 0 a g rfl h0
    obtain ⟨g2, e2, p2⟩:=UL P as (k + 1) g1 p1 fun i b g hb hp=>by
      obtain ⟨g', e', p'⟩:=hs (i + 1) b g (by simpa using hb) (by rw [show k + (i + 1) = k + 1 + i by omega]; exact hp)
      exact ⟨g', e', by rw [show k + 1 + i + 1 = k + (i + 1) + 1 by omega]; exact p'⟩
    refine ⟨g2, ?_, by rw [List.length_cons, show k + (as.length + 1) = k + 1 + as.length by omega]; exact p2⟩
    show (f g a).bind _ = _
    rw [e1, Res.ok_bind]; exact e2
theorem K6 {f : γ -> α -> Res γ} (P : Nat -> γ -> Prop) {as : List α} {g : γ} (h0 : P 0 g) (hs : ∀ i a g, as[i]? = some a -> P i g -> ∃ g', f g a = .ok g' /\ P (i + 1) g') : ∃ g', forN as g f = .ok g' /\ P as.length g':=by
  have:=UL P as 0 g h0 (by simpa using hs)
  simpa using this
theorem UN {f : List β -> α -> Res (List β)} {h : α -> β} : ∀ {as : List α} {g : List β}, g.length + as.length <= sizeLine -> (∀ g : List β, g.length < sizeLine -> ∀ a ∈ as, f g a = .ok (g ++ [h a])) -> forN as g f = .ok (g ++ as.map h)
  | [], g, _, _=>by simp [forN]
  | a :: as, g, hl, hf=>by
    show (f g a).bind _ = _
    rw [List.length_cons] at hl
    rw [hf g (by omega) a (by simp), Res.ok_bind, UN (by simp; omega) fun g hg b hb=>hf g hg b (by simp [hb])]
    simp
theorem Jm {f : γ -> α -> Res (Ctl ρ γ)} : ∀ {as : List α} {g : γ}, (∀ a ∈ as, f g a = .ok (.nx g)) -> forC as g f = .ok (.nx g)
  | [], _, _=>rfl
  | a :: as, g, hf=>by
    show (f g a).bind _ = _
    rw [hf a (by simp), Res.ok_bind]
    exact Jm fun b hb=>hf b (by simp [hb])
theorem Ut {f : γ -> α -> Res (Ctl ρ γ)} (P : Nat -> γ -> Prop) : ∀ (as : List α) (k : Nat) (g : γ), P k g -> (∀ i a g, as[i]? = some a -> P (k + i) g -> ∃ g', f g a = .ok (.nx g') /\ P (k + i + 1) g') -> ∃ g', forC as g f = .ok (.nx g') /\ P (k + as.length) g'
  | [], k, g, h0, _=>⟨g, rfl, h0⟩
  | a :: as, k, g, h0, hs=>by
    obtain ⟨g1, e1, p1⟩:=hs 0 a g rfl h0
    obtain ⟨g2, e2, p2⟩:=Ut P as (k + 1) g1 p1 fun i b g hb hp=>by
      obtain ⟨g', e', p'⟩:=hs (i + 1) b g (by simpa using hb) (by rw [show k + (i + 1) = k + 1 + i by omega]; exact hp)
      exact ⟨g', e', by rw [show k + 1 + i + 1 = k + (i + 1) + 1 by omega]; exact p'⟩
    refine ⟨g2, ?_, by rw [List.length_cons, show k + (as.length + 1) = k + 1 + as.length by omega]; exact p2⟩
    show (f g a).bind _ = _
    rw [e1, Res.ok_bind]; exact e2
theorem Br {f : γ -> α -> Res (Ctl ρ γ)} (P : Nat -> γ -> Prop) {as : List α} {g : γ} (h0 : P 0 g) (hs : ∀ i a g, as[i]? = some a -> P i g -> ∃ g', f g a = .ok (.nx g') /\ P (i + 1) g') : ∃ g', forC as g f = .ok (.nx g') /\ P as.length g':=by
  have:=Ut P as 0 g h0 (by simpa using hs)
  simpa using this
theorem YD {a b : Int} (h : 0 < b) : QT a b = .ok (a % b):=XD h
theorem VI {a b : Int} (h1 : -(2 ^ 64) < a) (h2 : a < 2 ^ 64) : Ke a b = .ok (a * b):=XD (.inl ⟨h1, h2⟩)
theorem Jz {a b : Int} (h1 : -(2 ^ 64) < b) (h2 : b < 2 ^ 64) : Ke a b = .ok (a * b):=XD (.inr ⟨h1, h2⟩)
theorem Gs {a b : Int} (h : 0 < b) (h2 : b < 2 ^ 250) : EF a b = .ok (a / b):=XD ⟨h, by
  have h3 : b.natAbs < 2 ^ 250:=by omega
  rcases Nat.eq_zero_or_pos b.natAbs with h0 | h0
  . omega
  . have := (Nat.log2_lt (by omega)).mpr h3
    omega⟩
theorem BY {a b : Int} (h0 : 0 <= b) (h1 : b <= 1000000) (h2 : -(2 ^ 64) < a) (h3 : a < 2 ^ 64) : IU a b = .ok (a ^ b.toNat):=XD ⟨h0, h1, by omega⟩
theorem YN {as : List α} {i : Nat} {a : α} (h : as[i]? = some a) : atR as (i : Int) = .ok a:=by
  have hlt:=(List.getElem?_eq_some_iff.mp h).1
  unfold atR atI ixN
  rw [if_pos (by omega), if_pos (by omega)]
  simp [h]
theorem HB {as : List α} {i : Int} {a : α} (h0 : 0 <= i) (h : as[i.toNat]? = some a) : atR as i = .ok a:=by
  have : i = (i.toNat : Int):=by omega
  rw [this]; exact YN h
theorem JT {n : Nat} (h : n < 2 ^ 62) : Vx 0 (n : Int) = .ok ((List.range n).map fun (i : Nat)=>(i : Int)):=by
  unfold Vx
  rw [XD (by omega)]
  unfold YL
  congr 1
  rw [Int.sub_zero, Int.toNat_natCast]
  exact List.map_congr_left fun i _=>by omega
theorem Qy {n i : Nat} {a : Int} (h : ((List.range n).map fun (i : Nat)=>(i : Int))[i]? = some a) : a = (i : Int) /\ i < n:=by
  have hlt:=(List.getElem?_eq_some_iff.mp h).1
  simp only [List.length_map, List.length_range] at hlt
  rw [List.getElem?_map, List.getElem?_range hlt] at h
  exact ⟨(Option.some.inj h).symm, hlt⟩
theorem YS {n : Nat} {a : Int} (h : a ∈ (List.range n).map fun (i : Nat)=>(i : Int)) : ∃ i : Nat, i < n /\ a = (i : Int):=by
  obtain ⟨i, hi, rfl⟩:=List.mem_map.mp h
  exact ⟨i, List.mem_range.mp hi, rfl⟩
theorem Qp {n : Nat} : ((List.range n).map fun (i : Nat)=>(i : Int)).length = n:=by simp
theorem Ic {a : Bool} {b : Res Bool} {c : Bool} (h : a = true -> b = .ok c) : Vl (.ok a) b = .ok (a && c):=by
  cases a with
  | false=>rfl
  | true=>
    show (if true = true then b else Res.ok false) = _
    rw [if_pos rfl, h rfl]; rfl
theorem sz {n : Nat} (h : n <= 100000) : n <= sizeLine:=Nat.le_trans h (by decide)
theorem LG {n : Nat} (h : n <= 100000) : n < sizeLine:=Nat.lt_of_le_of_lt h (by decide)
noncomputable def Ok (m : Res β) (R : β -> Prop) : Prop:=∃ r, m = .ok r /\ R r
theorem Ok.pure {R : β -> Prop} {a : β} (h : R a) : Ok (.ok a) R:=⟨a, rfl, h⟩
theorem Ok.bind {m : Res α} {f : α -> Res β} {R : α -> Prop} {T : β -> Prop} (h : Ok m R) (hf : ∀ a, R a -> Ok (f a) T) : Ok (m.bind f) T:=by
  obtain ⟨a, e, ha⟩:=h
  rw [e]; exact hf a ha
theorem Ok.imp {m : Res α} {R T : α -> Prop} (h : Ok m R) (hf : ∀ a, R a -> T a) : Ok m T:=by
  obtain ⟨a, e, ha⟩:=h
  exact ⟨a, e, hf a ha⟩
theorem Ok.noE {m : Res α} {R : α -> Prop} (h : Ok m R) : Ok (noE m) R:=by
  obtain ⟨a, e, ha⟩:=h
  rw [e]; exact ⟨a, rfl, ha⟩
theorem Ok.chk {c : Prop} [Decidable c] {m : Res α} {R : α -> Prop} (hc : c) (h : Ok m R) : Ok (chk c m) R:=by rw [XD hc]; exact h
theorem Ok.ite {b : Bool} {m n : Res α} {R : α -> Prop} (h1 : b = true -> Ok m R) (h2 : b = false -> Ok n R) : Ok (if b = true then m else n) R:=by
  cases b with
  | true=>rw [if_pos rfl]; exact h1 rfl
  | false=>rw [if_neg Bool.false_ne_true]; exact h2 rfl
theorem Ok.forN {f : γ -> α -> Res γ} (P : Nat -> γ -> Prop) {as : List α} {g : γ} (h0 : P 0 g) (hs : ∀ i a g, as[i]? = some a -> P i g -> Ok (f g a) (P (i + 1))) : Ok (forN as g f) (P as.length):=K6 P h0 hs
theorem Ok.forC {f : γ -> α -> Res (Ctl ρ γ)} (P : Nat -> γ -> Prop) {as : List α} {g : γ} (h0 : P 0 g) (hs : ∀ i a g, as[i]? = some a -> P i g -> ∃ g', f g a = .ok (.nx g') /\ P (i + 1) g') : Ok (forC as g f) (fun c=>∃ g', c = .nx g' /\ P as.length g'):=by
  obtain ⟨g', e, h⟩:=Br P h0 hs
  exact ⟨_, e, g', rfl, h⟩
theorem Ba {f : γ -> Res ρ} (g : γ) : V0 f (.nx g) = f g:=(Eq.refl (f g)).symm.symm
theorem Fq {δ : Type} {f : γ -> Res (Ctl ρ δ)} (g : γ) : Z0 f (.nx g) = f g:=(Eq.refl (f g)).symm.symm
theorem Ub (a : α) : noE (Res.ok a) = .ok a:=(Eq.refl (Res.ok a)).symm.symm
theorem Ok.of {m : Res α} {a : α} (h : m = .ok a) : Ok m (fun b=>b = a):=⟨a, h, rfl⟩
theorem Ok.eq {m : Res α} {a : α} (h : Ok m (fun b=>b = a)) : m = .ok a:=by
  obtain ⟨b, e, rfl⟩:=h
  exact e
theorem Zy {m : Res α} {a : α} (h : m = .ok a) : noE m = .ok a:=by rw [h]; rfl
end
end L2
namespace My
noncomputable def Zo (n : Nat) (f : Nat -> Nat -> Nat) (a : Nat) : List Int:=(List.range n).map fun b=>(f a b : Int)
noncomputable def XN (n : Nat) (f : Nat -> Nat -> Nat) : List (List Int):=(List.range n).map (Zo n f)
theorem XZ (n : Nat) (f : Nat -> Nat -> Nat) (a : Nat) : (Zo n f a).length = n:=by simp [Zo]
theorem Xw (n : Nat) (f : Nat -> Nat -> Nat) : (XN n f).length = n:=by simp [XN]
theorem YK {n : Nat} {f : Nat -> Nat -> Nat} {a b : Nat} (h : b < n) : (Zo n f a)[b]? = some (f a b : Int):=by
  unfold Zo; rw [List.getElem?_map, List.getElem?_range h]; rfl
theorem ZX {n : Nat} {f : Nat -> Nat -> Nat} {a : Nat} (h : a < n) : (XN n f)[a]? = some (Zo n f a):=by
  unfold XN; rw [List.getElem?_map, List.getElem?_range h]; rfl
theorem JY {n : Nat} {f g : Nat -> Nat -> Nat} {a : Nat} (h : ∀ b, b < n -> f a b = g a b) : Zo n f a = Zo n g a:=by
  unfold Zo
  exact List.map_congr_left fun b hb=>by rw [h b (List.mem_range.mp hb)]
theorem Zc {n : Nat} {f g : Nat -> Nat -> Nat} (h : ∀ a b, a < n -> b < n -> f a b = g a b) : XN n f = XN n g:=by
  unfold XN
  exact List.map_congr_left fun a ha=>JY fun b hb=>h a b (List.mem_range.mp ha) hb
structure Col (n : Nat) (f : Nat -> Nat -> Nat) : Prop where
  lt : ∀ a b, a < n -> b < n -> f a b < n
  r2 : ∀ x y b, x < n -> y < n -> b < n -> f x b = f y b -> x = y
structure GoodF (n : Nat) (f : Nat -> Nat -> Nat) : Prop extends Col n f where
  r1 : ∀ a, a < n -> f a a = a
  r3 : ∀ a b c, a < n -> b < n -> c < n -> f (f a b) c = f (f a c) (f b c)
theorem GoodF.congr {n : Nat} {f g : Nat -> Nat -> Nat} (h : GoodF n f) (e : ∀ a b, a < n -> b < n -> g a b = f a b) : GoodF n g where
  lt a b ha hb:=by rw [e a b ha hb]; exact h.lt a b ha hb
  r2 x y b hx hy hb q:=by rw [e x b hx hb, e y b hy hb] at q; exact h.r2 x y b hx hy hb q
  r1 a ha:=by rw [e a a ha ha]; exact h.r1 a ha
  r3 a b c ha hb hc:=by
    rw [e a b ha hb, e a c ha hc, e b c hb hc, e _ c (h.lt a b ha hb) hc, e _ _ (h.lt a c ha hc) (h.lt b c hb hc)]
    exact h.r3 a b c ha hb hc
theorem JO : ∀ (n : Nat) (p : Nat -> Nat), (∀ a, a < n -> p a < n) -> (∀ a b, a < n -> b < n -> p a = p b -> a = b) -> ∀ y, y < n -> ∃ x, x < n /\ p x = y
  | 0, _, _, _, y, hy=>absurd hy (Nat.not_lt_zero _)
  | n + 1, p, hl, hi, y, hy=>by
    by_cases hh : ∃ x, x < n + 1 /\ p x = y
    . exact hh
    . exfalso
      -- send n to y, and y's place away
      have hne : ∀ x, x < n + 1 -> p x ≠ y:=fun x hx e=>hh ⟨x, hx, e⟩
      -- among the first n: p', which skips y
      let s : Nat -> Nat:=fun v=>if v < y then v else v - 1
      have hs : ∀ a, a < n + 1 -> s (p a) < n:=fun a ha=>by
        have h1:=hl a ha; have h2:=hne a ha
        show (if p a < y then p a else p a - 1) < n
        split <;> omega
      have hsi : ∀ a b, a < n + 1 -> b < n + 1 -> s (p a) = s (p b) -> a = b:=fun a b ha hb e=>by
        have h1:=hne a ha; have h2:=hne b hb
        refine hi a b ha hb ?_
        have e' : (if p a < y then p a else p a - 1) = (if p b < y then p b else p b - 1):=e
        split at e' <;> split at e' <;> omega
      obtain ⟨x, hx, ex⟩:=JO n (fun a=>s (p a)) (fun a ha=>hs a (by omega)) (fun a b ha hb e=>hsi a b (by omega) (by omega) e) (s (p n)) (hs n (by omega))
      have:=hsi x n (by omega) (by omega) ex
      omega
structure PermN (n : Nat) (p q : Nat -> Nat) : Prop where
  lt : ∀ a, a < n -> p a < n
  qlt : ∀ a, a < n -> q a < n
  pq : ∀ a, a < n -> p (q a) = a
  qp : ∀ a, a < n -> q (p a) = a
theorem PermN.good {n : Nat} {p q : Nat -> Nat} {f : Nat -> Nat -> Nat} (h : PermN n p q) (g : GoodF n f) : GoodF n (fun x y=>p (f (q x) (q y))) where
  lt a b ha hb:=h.lt _ (g.lt _ _ (h.qlt a ha) (h.qlt b hb))
  r2 x y b hx hy hb e:=by
    have e1 : q (p (f (q x) (q b))) = q (p (f (q y) (q b))):=congrArg q e
    rw [h.qp _ (g.lt _ _ (h.qlt x hx) (h.qlt b hb)), h.qp _ (g.lt _ _ (h.qlt y hy) (h.qlt b hb))] at e1
    have:=g.r2 _ _ _ (h.qlt x hx) (h.qlt y hy) (h.qlt b hb) e1
    rw [← h.pq x hx, ← h.pq y hy, this]
  r1 a ha:=by
    show p (f (q a) (q a)) = a
    rw [g.r1 _ (h.qlt a ha), h.pq a ha]
  r3 a b c ha hb hc:=by
    have l1:=g.lt _ _ (h.qlt a ha) (h.qlt b hb)
    have l2:=g.lt _ _ (h.qlt a ha) (h.qlt c hc)
    have l3:=g.lt _ _ (h.qlt b hb) (h.qlt c hc)
    show p (f (q (p (f (q a) (q b)))) (q c)) = p (f (q (p (f (q a) (q c)))) (q (p (f (q b) (q c)))))
    rw [h.qp _ l1, h.qp _ l2, h.qp _ l3, g.r3 _ _ _ (h.qlt a ha) (h.qlt b hb) (h.qlt c hc)]
theorem Em {n : Nat} {p : Nat -> Nat} (hl : ∀ a, a < n -> p a < n) (hi : ∀ a b, a < n -> b < n -> p a = p b -> a = b) : ∃ q, PermN n p q:=by
  have ho:=JO n p hl hi
  refine ⟨fun y=>if h : y < n then Classical.choose (ho y h) else 0, hl, fun a ha=>?_, fun a ha=>?_, fun a ha=>?_⟩
  . simp only [dif_pos ha]; exact (Classical.choose_spec (ho a ha)).1
  . simp only [dif_pos ha]; exact (Classical.choose_spec (ho a ha)).2
  . simp only [dif_pos (hl a ha)]
    have:=Classical.choose_spec (ho (p a) (hl a ha))
    exact hi _ _ this.1 ha this.2
theorem Kg {A B n z : Int} (h : A - B = n * z) : A % n = B % n:=by
  have : A = B + n * z:=by omega
  rw [this, Int.add_mul_emod_self_left]
noncomputable def DB (k n a b : Int) : Int:=(k * a + (1 - k) * b) % n
noncomputable def Cm (k : Int) (n : Nat) (a b : Nat) : Nat:=(DB k n a b).toNat
theorem Ya {k : Int} {n : Nat} (hn : 0 < n) (a b : Nat) : ((Cm k n a b : Nat) : Int) = DB k n a b:=by
  unfold Cm
  have:=Int.emod_nonneg (k * a + (1 - k) * b) (show (n : Int) ≠ 0 by omega)
  unfold DB
  omega
theorem VX {k : Int} {n : Nat} (hn : 0 < n) (hk : ∀ x : Int, (n : Int) ∣ k * x -> (n : Int) ∣ x) : GoodF n (Cm k n) where
  lt a b _ _:=by
    have h:=Ya (k:=k) hn a b
    have:=Int.emod_lt_of_pos (k * a + (1 - k) * b) (show 0 < (n : Int) by omega)
    unfold DB at h
    omega
  r1 a ha:=by
    have h:=Ya (k:=k) hn a a
    have e : k * (a : Int) + (1 - k) * a = a:=by grind
    unfold DB at h
    rw [e, Int.emod_eq_of_lt (by omega) (by omega)] at h
    omega
  r2 x y b hx hy hb e:=by
    have h1:=Ya (k:=k) hn x b
    have h2:=Ya (k:=k) hn y b
    rw [e, h2] at h1
    unfold DB at h1
    have:=Int.emod_eq_emod_iff_emod_sub_eq_zero.mp h1
    have hd : (n : Int) ∣ k * ((y : Int) - x):=by
      have:=Int.dvd_of_emod_eq_zero this
      have e2 : (k * (y : Int) + (1 - k) * b) - (k * x + (1 - k) * b) = k * ((y : Int) - x):=by grind
      rwa [e2] at this
    obtain ⟨z, hz⟩:=hk _ hd
    have hz1 : z < 1:=by
      apply Int.lt_of_mul_lt_mul_left (a:=(n : Int)) _ (by omega)
      omega
    have hz2 : -1 < z:=by
      apply Int.lt_of_mul_lt_mul_left (a:=(n : Int)) _ (by omega)
      omega
    have : z = 0:=by omega
    subst this
    omega
  r3 a b c _ _ _:=by
    have e1:=Ya (k:=k) hn a b
    have e2:=Ya (k:=k) hn a c
    have e3:=Ya (k:=k) hn b c
    have e4:=Ya (k:=k) hn (Cm k n a b) c
    have e5:=Ya (k:=k) hn (Cm k n a c) (Cm k n b c)
    have hh : DB k n (Cm k n a b : Nat) c = DB k n (Cm k n a c : Nat) (Cm k n b c : Nat):=by
      rw [e1, e2, e3]
      unfold DB
      have q1:=Int.emod_add_mul_ediv (k * (a : Int) + (1 - k) * b) n
      have q2:=Int.emod_add_mul_ediv (k * (a : Int) + (1 - k) * c) n
      have q3:=Int.emod_add_mul_ediv (k * (b : Int) + (1 - k) * c) n
      generalize (k * (a : Int) + (1 - k) * b) / n = d1 at q1
      generalize (k * (a : Int) + (1 - k) * c) / n = d2 at q2
      generalize (k * (b : Int) + (1 - k) * c) / n = d3 at q3
      generalize (k * (a : Int) + (1 - k) * b) % n = m1 at *
      generalize (k * (a : Int) + (1 - k) * c) % n = m2 at *
      generalize (k * (b : Int) + (1 - k) * c) % n = m3 at *
      refine Kg (z:=-k * d1 + k * d2 + (1 - k) * d3) ?_
      grind
    omega
theorem G9 {k : Int} {n : Nat} (h : Int.gcd k n = 1) (x : Int) (hd : (n : Int) ∣ k * x) : (n : Int) ∣ x:=by
  have h1:=Int.natAbs_dvd_natAbs.mpr hd
  rw [Int.natAbs_mul, Int.natAbs_natCast] at h1
  have h2 : Nat.Coprime n k.natAbs:=by
    have : Nat.gcd k.natAbs n = 1:=h
    rw [Nat.gcd_comm] at this
    exact this
  exact Int.natAbs_dvd_natAbs.mp (by rw [Int.natAbs_natCast]; exact h2.dvd_of_dvd_mul_left h1)
theorem K4 {n : Nat} (x : Int) (hd : (n : Int) ∣ (-1) * x) : (n : Int) ∣ x:=by
  have : (-1) * x = -x:=by omega
  rw [this] at hd
  exact Int.dvd_neg.mp hd
theorem QD (n : Nat) : GoodF n (fun a _=>a):=⟨⟨fun _ _ h _=>h, fun _ _ _ _ _ _ e=>e⟩, fun _ _=>rfl, fun _ _ _ _ _ _=>rfl⟩
theorem UI {n : Nat} {p : Nat -> Nat} (h1 : ∀ a, a < n -> p a < n) (h2 : ∀ a, a + 1 = n -> p a = a) (h3 : ∀ x y, x < n -> y < n -> p x = p y -> x = y) : GoodF n (fun a b=>if b + 1 = n then p a else a) where
  lt a b ha hb:=by
    show (if b + 1 = n then p a else a) < n
    split
    . exact h1 a ha
    . exact ha
  r1 a ha:=by
    show (if a + 1 = n then p a else a) = a
    split
    . next h=>exact h2 a h
    . rfl
  r2 x y b hx hy hb e:=by
    have e : (if b + 1 = n then p x else x) = if b + 1 = n then p y else y:=e
    by_cases h : b + 1 = n
    . rw [if_pos h, if_pos h] at e; exact h3 x y hx hy e
    . rw [if_neg h, if_neg h] at e; exact e
  r3 a b c ha hb hc:=by
    show (if c + 1 = n then p (if b + 1 = n then p a else a) else if b + 1 = n then p a else a) = if (if c + 1 = n then p b else b) + 1 = n then p (if c + 1 = n then p a else a) else if c + 1 = n then p a else a
    by_cases h : c + 1 = n
    . rw [if_pos h, if_pos h, if_pos h]
      by_cases g : b + 1 = n
      . rw [if_pos g, h2 b g, if_pos g]
      . rw [if_neg g, if_neg fun z => g ?_]
        have hp : p b = b:=by
          refine h3 _ _ (h1 b hb) hb (h2 _ z)
        rw [hp] at z
        exact z
    . rw [if_neg h, if_neg h, if_neg h]
theorem Dd (n : Nat) : GoodF n (fun a b=>if 2 < n /\ a < 2 /\ b + 1 = n then 1 - a else a):=by
  by_cases hn : 2 < n
  . refine (UI (n := n) (p := fun a => if a < 2 then 1 - a else a) (fun a ha => ?_) (fun a ha => if_neg (by omega)) fun x y _ _ e => ?_).congr fun a b _ _ => ?_
    . show (if a < 2 then 1 - a else a) < n
      split
      . omega
      . exact ha
    . have e : (if x < 2 then 1 - x else x) = if y < 2 then 1 - y else y := e
      by_cases h : x < 2
      . by_cases g : y < 2
        . rw [if_pos h, if_pos g] at e; clear hn; omega
        . rw [if_pos h, if_neg g] at e; clear hn; omega
      . by_cases g : y < 2
        . rw [if_neg h, if_pos g] at e; clear hn; omega
        . rw [if_neg h, if_neg g] at e; exact e
    . show (if 2 < n /\ a < 2 /\ b + 1 = n then 1 - a else a) = if b + 1 = n then (if a < 2 then 1 - a else a) else a
      by_cases g : b + 1 = n
      . rw [if_pos g]
        by_cases h : a < 2
        . rw [if_pos h, if_pos ⟨hn, h, g⟩]
        . rw [if_neg h, if_neg fun z=>h z.2.1]
      . rw [if_neg g, if_neg fun z=>g z.2.2]
  . exact (QD n).congr fun a b _ _=>if_neg fun z=>hn z.1
theorem GX (n : Nat) : GoodF n (fun a b=>if a + 1 < n /\ b + 1 = n then (if a + 2 < n then a + 1 else 0) else a):=by
  refine (UI (n:=n) (p:=fun a=>if a + 1 < n then (if a + 2 < n then a + 1 else 0) else a) (fun a ha=>?_) (fun a ha=>if_neg (by omega)) fun x y hx hy e=>?_).congr fun a b _ _=>?_
  . show (if a + 1 < n then (if a + 2 < n then a + 1 else 0) else a) < n
    split
    . split
      . assumption
      . exact Nat.lt_of_le_of_lt (Nat.zero_le _) ha
    . exact ha
  . have e : (if x + 1 < n then (if x + 2 < n then x + 1 else 0) else x) = if y + 1 < n then (if y + 2 < n then y + 1 else 0) else y := e
    by_cases h : x + 1 < n
    . rw [if_pos h] at e
      by_cases g : y + 1 < n
      . rw [if_pos g] at e
        by_cases h' : x + 2 < n
        . rw [if_pos h'] at e
          by_cases g' : y + 2 < n
          . rw [if_pos g'] at e; exact Nat.succ.inj e
          . rw [if_neg g'] at e; exact nomatch e
        . rw [if_neg h'] at e
          by_cases g' : y + 2 < n
          . rw [if_pos g'] at e; exact nomatch e
          . clear e hx hy; omega
      . rw [if_neg g] at e
        by_cases h' : x + 2 < n
        . rw [if_pos h'] at e; clear hx hy h; omega
        . rw [if_neg h'] at e; clear hx hy h'; omega
    . rw [if_neg h] at e
      by_cases g : y + 1 < n
      . rw [if_pos g] at e
        by_cases h' : y + 2 < n
        . rw [if_pos h'] at e; clear hx hy g; omega
        . rw [if_neg h'] at e; clear hx hy h'; omega
      . rw [if_neg g] at e; exact e
  . show (if a + 1 < n /\ b + 1 = n then (if a + 2 < n then a + 1 else 0) else a) = if b + 1 = n then (if a + 1 < n then (if a + 2 < n then a + 1 else 0) else a) else a
    by_cases g : b + 1 = n
    . rw [if_pos g]
      by_cases h : a + 1 < n
      . rw [if_pos h, if_pos ⟨h, g⟩]
      . rw [if_neg h, if_neg fun z=>h z.1]
    . rw [if_neg g, if_neg fun z=>g z.2]
noncomputable def Vh (h : Nat) (f g : Nat -> Nat -> Nat) (a b : Nat) : Nat:=if a < h /\ b < h then f a b else if h <= a /\ h <= b then h + g (a - h) (b - h) else a
theorem Do {h m : Nat} {f g : Nat -> Nat -> Nat} (F : GoodF h f) (G : GoodF m g) : GoodF (h + m) (Vh h f g):=by
  have s1 : ∀ a b, a < h -> b < h -> Vh h f g a b = f a b:=fun a b ha hb=>by unfold Vh; rw [if_pos ⟨ha, hb⟩]
  have s2 : ∀ a b, Vh h f g (h + a) (h + b) = h + g a b:=fun a b=>by unfold Vh; rw [if_neg (by omega), if_pos (by omega), Nat.add_sub_cancel_left, Nat.add_sub_cancel_left]
  have s3 : ∀ a b, a < h -> Vh h f g a (h + b) = a:=fun a b ha=>by unfold Vh; rw [if_neg (by omega), if_neg (by omega)]
  have s4 : ∀ a b, b < h -> Vh h f g (h + a) b = h + a:=fun a b ha=>by unfold Vh; rw [if_neg (by omega), if_neg (by omega)]
  have up : ∀ a, h <= a -> ∃ a', a = h + a':=fun a ha=>⟨a - h, by omega⟩
  refine ⟨⟨fun a b ha hb=>?_, fun x y b hx hy hb e=>?_⟩, fun a ha=>?_, fun a b c ha hb hc=>?_⟩
  . by_cases h1 : a < h <;> by_cases h2 : b < h
    . rw [s1 a b h1 h2]; have:=F.lt a b h1 h2; omega
    . obtain ⟨b, rfl⟩:=up b (by omega); rw [s3 a b h1]; omega
    . obtain ⟨a, rfl⟩:=up a (by omega); rw [s4 a b h2]; omega
    . obtain ⟨a, rfl⟩ := up a (by omega); obtain ⟨b, rfl⟩ := up b (by omega)
      rw [s2]; have:=G.lt a b (by omega) (by omega); omega
  . by_cases h1 : x < h <;> by_cases h2 : y < h <;> by_cases h3 : b < h
    . rw [s1 _ _ h1 h3, s1 _ _ h2 h3] at e; exact F.r2 x y b h1 h2 h3 e
    . obtain ⟨b, rfl⟩:=up b (by omega); rw [s3 _ _ h1, s3 _ _ h2] at e; exact e
    . obtain ⟨y, rfl⟩:=up y (by omega); rw [s1 _ _ h1 h3, s4 _ _ h3] at e; have:=F.lt x b h1 h3; omega
    . obtain ⟨y, rfl⟩:=up y (by omega); obtain ⟨b, rfl⟩:=up b (by omega); rw [s3 _ _ h1, s2] at e; omega
    . obtain ⟨x, rfl⟩:=up x (by omega); rw [s4 _ _ h3, s1 _ _ h2 h3] at e; have:=F.lt y b h2 h3; omega
    . obtain ⟨x, rfl⟩:=up x (by omega); obtain ⟨b, rfl⟩:=up b (by omega); rw [s2, s3 _ _ h2] at e; omega
    . obtain ⟨x, rfl⟩:=up x (by omega); obtain ⟨y, rfl⟩:=up y (by omega); rw [s4 _ _ h3, s4 _ _ h3] at e; exact e
    . obtain ⟨x, rfl⟩ := up x (by omega); obtain ⟨y, rfl⟩ := up y (by omega); obtain ⟨b, rfl⟩ := up b (by omega)
      rw [s2, s2] at e
      rw [G.r2 x y b (by omega) (by omega) (by omega) (by omega)]
  . by_cases h1 : a < h
    . rw [s1 _ _ h1 h1, F.r1 a h1]
    . obtain ⟨a, rfl⟩:=up a (by omega); rw [s2, G.r1 a (by omega)]
  . by_cases h1 : a < h <;> by_cases h2 : b < h <;> by_cases h3 : c < h
    . rw [s1 a b h1 h2, s1 a c h1 h3, s1 b c h2 h3, s1 _ _ (F.lt a b h1 h2) h3, s1 _ _ (F.lt a c h1 h3) (F.lt b c h2 h3)]; exact F.r3 a b c h1 h2 h3
    . obtain ⟨c, rfl⟩ := up c (by omega)
      rw [s1 a b h1 h2, s3 a c h1, s3 b c h2, s3 _ c (F.lt a b h1 h2), s1 a b h1 h2]
    . obtain ⟨b, rfl⟩ := up b (by omega)
      rw [s3 a b h1, s4 b c h3, s1 a c h1 h3, s3 _ b (F.lt a c h1 h3)]
    . obtain ⟨b, rfl⟩ := up b (by omega); obtain ⟨c, rfl⟩ := up c (by omega)
      rw [s3 a b h1, s3 a c h1, s2 b c, s3 _ _ h1]
    . obtain ⟨a, rfl⟩ := up a (by omega)
      rw [s4 a b h2, s4 a c h3, s1 b c h2 h3, s4 _ _ (F.lt b c h2 h3)]
    . obtain ⟨a, rfl⟩ := up a (by omega); obtain ⟨c, rfl⟩ := up c (by omega)
      rw [s4 a b h2, s2 a c, s3 b c h2, s4 _ _ h2]
    . obtain ⟨a, rfl⟩ := up a (by omega); obtain ⟨b, rfl⟩ := up b (by omega)
      rw [s2 a b, s4 _ c h3, s4 a c h3, s4 b c h3, s2 a b]
    . obtain ⟨a, rfl⟩ := up a (by omega); obtain ⟨b, rfl⟩ := up b (by omega); obtain ⟨c, rfl⟩ := up c (by omega)
      rw [s2 a b, s2 a c, s2 b c, s2, s2, G.r3 a b c (by omega) (by omega) (by omega)]
noncomputable def GG (way n k a b : Int) : Int:=
  if way = 1 then (2 * b - a) % n else if way = 2 then (k * a + (1 - k) * b) % n else if way = 3 /\ n > 2 /\ a < 2 /\ b = n - 1 then 1 - a else
  if way = 6 /\ a < n - 1 /\ b = n - 1 then (a + 1) % (n - 1) else if way = 4 /\ a < n / 2 /\ b < n / 2 then (2 * b - a) % (n / 2) else
  if way = 4 /\ a ≥ n / 2 /\ b ≥ n / 2 then n / 2 + (2 * b - a - n / 2) % (n - n / 2) else a
noncomputable def UR (way k : Int) (n a b : Nat) : Nat:=(GG way n k a b).toNat
theorem V8 (n : Int) (a b : Int) : (2 * b - a) % n = DB (-1) n a b:=by
  unfold DB
  congr 1
  omega
theorem DN {way k : Int} {n : Nat} (hn : 0 < n) (hk : Int.gcd k n = 1) : GoodF n (UR way k n) /\ ∀ a b, a < n -> b < n -> ((UR way k n a b : Nat) : Int) = GG way n k a b:=by
  suffices h : ∃ f, GoodF n f /\ ∀ a b, a < n -> b < n -> ((f a b : Nat) : Int) = GG way n k a b by
    obtain ⟨f, g, e⟩:=h
    have e2 : ∀ a b, a < n -> b < n -> UR way k n a b = f a b:=fun a b ha hb=>by unfold UR; rw [← e a b ha hb]; omega
    exact ⟨g.congr e2, fun a b ha hb=>by rw [e2 a b ha hb]; exact e a b ha hb⟩
  unfold GG
  by_cases w1 : way = 1
  . refine ⟨_, VX (k := -1) hn K4, fun a b ha hb => ?_⟩
    rw [if_pos w1, Ya hn, V8]
  by_cases w2 : way = 2
  . refine ⟨_, VX (k := k) hn (G9 hk), fun a b ha hb => ?_⟩
    rw [if_neg w1, if_pos w2, Ya hn]; rfl
  by_cases w3 : way = 3
  . refine ⟨_, Dd n, fun a b ha hb => ?_⟩
    rw [if_neg w1, if_neg w2]
    by_cases c : 2 < n /\ a < 2 /\ b + 1 = n
    . rw [if_pos c, if_pos ⟨w3, by omega, by omega, by omega⟩]; omega
    . rw [if_neg c, if_neg (fun z=>c ⟨by omega, by omega, by omega⟩), if_neg (fun z=>by omega), if_neg (fun z=>by omega), if_neg (fun z=>by omega)]
  by_cases w6 : way = 6
  . refine ⟨_, GX n, fun a b ha hb => ?_⟩
    have n3 : ¬ (way = 3 /\ (n : Int) > 2 /\ (a : Int) < 2 /\ (b : Int) = n - 1):=fun z=>w3 z.1
    by_cases c : a + 1 < n /\ b + 1 = n
    . have y6 : way = 6 /\ (a : Int) < n - 1 /\ (b : Int) = n - 1 := ⟨w6, by omega, by omega⟩
      rw [if_pos c, if_neg w1, if_neg w2, if_neg n3, if_pos y6]
      by_cases c2 : a + 2 < n
      . rw [if_pos c2, Int.emod_eq_of_lt (by omega) (by omega)]; omega
      . rw [if_neg c2]
        have : (a : Int) + 1 = (n : Int) - 1:=by omega
        rw [this, Int.emod_self]; rfl
    . rw [if_neg c, if_neg w1, if_neg w2, if_neg n3, if_neg (fun z=>c ⟨by omega, by omega⟩), if_neg (fun z=>by omega), if_neg (fun z=>by omega)]
  by_cases w4 : way = 4
  . have hh : ∀ m : Nat, 0 < m -> GoodF m (Cm (-1) m) := fun m hm => VX hm K4
    by_cases h0 : n / 2 = 0
    . have hn1 : n = 1 := by omega
      subst hn1
      refine ⟨_, QD 1, fun a b ha hb=>?_⟩
      have : a = 0:=by omega
      have : b = 0:=by omega
      subst a b
      rw [if_neg w1, if_neg w2, if_neg (fun z=>w3 z.1), if_neg (fun z=>w6 z.1), if_neg (fun z=>by omega), if_pos ⟨w4, by omega, by omega⟩]
      decide
    . have g := Do (hh (n / 2) (by omega)) (hh (n - n / 2) (by omega))
      rw [show n / 2 + (n - n / 2) = n by omega] at g
      refine ⟨_, g, fun a b ha hb=>?_⟩
      have hc : ((n / 2 : Nat) : Int) = (n : Int) / 2:=by omega
      rw [if_neg w1, if_neg w2, if_neg (fun z=>w3 z.1), if_neg (fun z=>w6 z.1)]
      unfold Vh
      by_cases c1 : a < n / 2 /\ b < n / 2
      . rw [if_pos c1, if_pos ⟨w4, by omega, by omega⟩, Ya (by omega), ← V8, hc]
      . have m4 : ¬ (way = 4 /\ (a : Int) < (n : Int) / 2 /\ (b : Int) < (n : Int) / 2) := fun z => c1 ⟨by omega, by omega⟩
        rw [if_neg c1, if_neg m4]
        by_cases c2 : n / 2 <= a /\ n / 2 <= b
        . have y4 : way = 4 /\ (a : Int) ≥ (n : Int) / 2 /\ (b : Int) ≥ (n : Int) / 2 := ⟨w4, by omega, by omega⟩
          rw [if_pos c2, if_pos y4]
          have hm : (((n - n / 2 : Nat)) : Int) = (n : Int) - (n : Int) / 2:=by omega
          have:=Ya (k:=-1) (n:=n - n / 2) (by omega) (a - n / 2) (b - n / 2)
          rw [← V8, hm] at this
          rw [show 2 * (b : Int) - a - (n : Int) / 2 = 2 * ((b - n / 2 : Nat) : Int) - ((a - n / 2 : Nat) : Int) by omega, ← this]
          omega
        . rw [if_neg c2, if_neg (fun z=>c2 ⟨by omega, by omega⟩)]
  refine ⟨_, QD n, fun a b ha hb=>?_⟩
  rw [if_neg w1, if_neg w2, if_neg (fun z=>w3 z.1), if_neg (fun z=>w6 z.1), if_neg (fun z=>w4 z.1), if_neg (fun z=>w4 z.1)]
noncomputable def Q7 (a b : Nat) : Nat:=(([[0, 3, 1, 2], [2, 1, 3, 0], [3, 0, 2, 1], [1, 2, 0, 3]] : List (List Nat)).getD a []).getD b 0
theorem FV : GoodF 4 Q7:=by
  have h1 : ∀ a, a < 4 -> ∀ b, b < 4 -> Q7 a b < 4:=by decide +kernel
  have h2 : ∀ b, b < 4 -> ∀ x, x < 4 -> ∀ y, y < 4 -> Q7 x b = Q7 y b -> x = y:=by decide +kernel
  have h3 : ∀ a, a < 4 -> Q7 a a = a:=by decide +kernel
  have h4 : ∀ a, a < 4 -> ∀ b, b < 4 -> ∀ c, c < 4 -> Q7 (Q7 a b) c = Q7 (Q7 a c) (Q7 b c):=by decide +kernel
  exact ⟨⟨fun a b ha hb=>h1 a ha b hb, fun x y b hx hy hb=>h2 b hb x hx y hy⟩, h3, fun a b c ha hb hc=>h4 a ha b hb c hc⟩
theorem CN : XN 4 Q7 = [[0, 3, 1, 2], [2, 1, 3, 0], [3, 0, 2, 1], [1, 2, 0, 3]]:=by decide +kernel
end My
namespace My
open PySem L2
theorem QY {n : Nat} {f : Nat -> Nat -> Nat} {a : Nat} (h : a < n) : atR (XN n f) (a : Int) = .ok (Zo n f a):=YN (ZX h)
theorem Jq {n : Nat} {f : Nat -> Nat -> Nat} {a b : Nat} (h : b < n) : atR (Zo n f a) (b : Int) = .ok (f a b : Int):=YN (YK h)
theorem JI {α : Type} {as : List α} {i : Nat} {a : α} (h : i < as.length) : ZU as (i : Int) a = .ok (as.set i a):=by
  unfold ZU ixN
  rw [if_pos (by omega), if_pos (by omega)]
  simp
theorem EG {n : Nat} {f : Nat -> Nat -> Nat} {a b v : Nat} : (Zo n f a).set b (v : Int) = Zo n (fun x y=>if x = a /\ y = b then v else f x y) a:=by
  apply List.ext_getElem?
  intro j
  by_cases hj : j < n
  . rw [YK hj]
    by_cases e : j = b
    . subst e; rw [List.getElem?_set_self (by rw [XZ]; exact hj)]; simp
    . rw [List.getElem?_set_ne (fun z=>e z.symm), YK hj]; simp [e]
  . rw [List.getElem?_eq_none (by rw [List.length_set, XZ]; omega), List.getElem?_eq_none (by rw [XZ]; omega)]
theorem EM {n : Nat} {f : Nat -> Nat -> Nat} {a b v : Nat} (ha : a < n) : (XN n f).set a ((Zo n f a).set b (v : Int)) = XN n (fun x y=>if x = a /\ y = b then v else f x y):=by
  apply List.ext_getElem?
  intro j
  by_cases hj : j < n
  . rw [ZX hj]
    by_cases e : j = a
    . subst e; rw [List.getElem?_set_self (by rw [Xw]; exact hj), EG]
    . rw [List.getElem?_set_ne (fun z => e z.symm), ZX hj]
      congr 1
      exact JY fun y _=>by simp [e]
  . rw [List.getElem?_eq_none (by rw [List.length_set, Xw]; omega), List.getElem?_eq_none (by rw [Xw]; omega)]
noncomputable def UY (n : Nat) (sp : List Int) (p q : Nat -> Nat) : Prop:=PermN n p q /\ sp = (List.range n).map fun i=>((p i : Nat) : Int)
theorem UY.get {n : Nat} {sp : List Int} {p q : Nat -> Nat} (h : UY n sp p q) {i : Nat} (hi : i < n) : atR sp (i : Int) = .ok ((p i : Nat) : Int):=YN (by rw [h.2, List.getElem?_map, List.getElem?_range hi]; rfl)
theorem Im {as : List Int} {i : Nat} (h : i < as.length) (hl : as.length <= 100000) : CY as (i : Int) = .ok (as[i], as.eraseIdx i):=by
  unfold CY
  rw [XD (by omega)]
  have e : seqIndex? (i : Int) as.length = some i:=by
    unfold seqIndex?
    have h0 : ¬ ((i : Int) < 0):=by omega
    simp [h0, h]
  rw [e]
  simp [h]
theorem CH {n : Nat} {sp : List Int} (h : sp.Perm ((List.range n).map fun (i : Nat)=>(i : Int))) : ∃ p q, UY n sp p q:=by
  have hl : sp.length = n:=by have:=h.length_eq; simpa using this
  have hlt : ∀ i, i < n -> ∃ k : Nat, k < n /\ sp[i]? = some (k : Int):=fun i hi=>by
    have hm : sp[i]'(by omega) ∈ (List.range n).map fun (i : Nat)=>(i : Int):=h.mem_iff.mp (List.getElem_mem _)
    obtain ⟨k, hk, e⟩:=YS hm
    exact ⟨k, hk, by rw [List.getElem?_eq_getElem (by omega), e]⟩
  let p : Nat -> Nat:=fun i=>(sp[i]?.getD 0).toNat
  have hp : ∀ i, i < n -> p i < n /\ sp[i]? = some (p i : Int):=fun i hi=>by
    obtain ⟨k, hk, e⟩:=hlt i hi
    have : p i = k:=by simp [p, e]
    rw [this]; exact ⟨hk, e⟩
  have nd : sp.Nodup:=h.nodup_iff.mpr (by
    rw [List.nodup_iff_pairwise_ne, List.pairwise_map]
    exact List.nodup_range.imp fun {a b} h e=>h (by omega))
  obtain ⟨q, hq⟩:=Em (n:=n) (p:=p) (fun a ha=>(hp a ha).1) fun a b ha hb e=>by
    have h1:=(hp a ha).2
    have h2:=(hp b hb).2
    rw [← e] at h2
    exact (List.getElem?_inj (by omega) nd).mp (h1.trans h2.symm)
  refine ⟨p, q, hq, ?_⟩
  apply List.ext_getElem?
  intro i
  by_cases hi : i < n
  . rw [(hp i hi).2, List.getElem?_map, List.getElem?_range hi]; rfl
  . rw [List.getElem?_eq_none (by omega), List.getElem?_eq_none (by simp; omega)]
theorem Vo : ∀ {as : List Int} {i : Nat} (h : i < as.length), (as[i] :: as.eraseIdx i).Perm as
  | a :: as, 0, _=>by simp
  | a :: as, i + 1, h=>by
    have:=Vo (as:=as) (i:=i) (by simpa using h)
    simp only [List.getElem_cons_succ, List.eraseIdx_cons_succ]
    exact (List.Perm.swap _ _ _).trans (this.cons a)
theorem Gq {α : Type} (as : List α) {k : Nat} (h : k <= as.length) : KU as (some (k : Int)) none = as.drop k:=by
  unfold KU
  rw [HT.sIx_nat, HT.sIx_none, Nat.min_eq_left h, List.take_of_length_le (by rw [List.length_drop]; omega)]
end My
namespace My
theorem mem_set {α : Type} : ∀ {l : List α} {j : Nat} {v x : α}, x ∈ l.set j v -> x ∈ l ∨ x = v
  | [], _, _, _, h=>by simp at h
  | a :: r, 0, v, x, h=>by
    rw [List.set_cons_zero] at h
    rcases List.mem_cons.mp h with h | h
    . exact .inr h
    . exact .inl (List.mem_cons_of_mem _ h)
  | a :: r, j + 1, v, x, h=>by
    rw [List.set_cons_succ] at h
    rcases List.mem_cons.mp h with h | h
    . exact .inl (by rw [h]; exact List.mem_cons_self)
    . rcases mem_set h with h | h
      . exact .inl (List.mem_cons_of_mem _ h)
      . exact .inr h
end My
namespace My
noncomputable def IK (S : Nat) : List Int:=(List.range S).map fun (k : Nat)=>(k : Int)
theorem Cw {S : Nat} {x : Int} : x ∈ IK S ↔ 0 <= x /\ x < (S : Int):=by
  unfold IK
  rw [List.mem_map]
  constructor
  . rintro ⟨k, hk, rfl⟩
    have:=List.mem_range.mp hk
    omega
  . rintro ⟨h0, h1⟩
    exact ⟨x.toNat, List.mem_range.mpr (by omega), by omega⟩
theorem QB {α β : Type} {f : α -> β} : ∀ {l : List α}, (∀ a b, a ∈ l -> b ∈ l -> f a = f b -> a = b) -> l.Nodup -> (l.map f).Nodup
  | [], _, _=>List.nodup_nil
  | a :: r, h, nd=>by
    rw [List.map_cons, List.nodup_cons]
    refine ⟨fun m=>?_, QB (fun x y hx hy=>h x y (List.mem_cons_of_mem _ hx) (List.mem_cons_of_mem _ hy)) (List.nodup_cons.mp nd).2⟩
    obtain ⟨b, hb, e⟩:=List.mem_map.mp m
    have:=h b a (List.mem_cons_of_mem _ hb) List.mem_cons_self e
    exact (List.nodup_cons.mp nd).1 (by rw [← this]; exact hb)
theorem GL (S : Nat) : (IK S).Nodup:=QB (fun a b _ _ e=>by omega) List.nodup_range
theorem VC {α : Type} [DecidableEq α] : ∀ {l m : List α}, l.Nodup -> m.Nodup -> (∀ x, x ∈ l ↔ x ∈ m) -> l.Perm m
  | [], m, _, _, h=>by
    cases m with
    | nil=>exact List.Perm.refl _
    | cons a r=>exact absurd ((h a).mpr List.mem_cons_self) (by simp)
  | a :: r, m, nl, nm, h=>by
    have ha : a ∈ m:=(h a).mp List.mem_cons_self
    have hp : m.Perm (a :: m.erase a):=List.perm_cons_erase ha
    refine List.Perm.trans (List.Perm.cons a ?_) hp.symm
    have nd2 : (a :: m.erase a).Nodup:=hp.nodup_iff.mp nm
    refine VC (List.nodup_cons.mp nl).2 (List.nodup_cons.mp nd2).2 fun x=>?_
    constructor
    . intro hx
      have hxa : x ≠ a:=fun e=>(List.nodup_cons.mp nl).1 (by rw [← e]; exact hx)
      have : x ∈ a :: m.erase a:=hp.mem_iff.mp ((h x).mp (List.mem_cons_of_mem _ hx))
      exact (List.mem_cons.mp this).resolve_left hxa
    . intro hx
      have hxa : x ≠ a:=fun e=>(List.nodup_cons.mp nd2).1 (e ▸ hx)
      have : x ∈ a :: r:=(h x).mpr (hp.mem_iff.mpr (List.mem_cons_of_mem _ hx))
      exact (List.mem_cons.mp this).resolve_left hxa
end My
namespace My
structure Done (S : Int) (seen : List Bool) (ps : List Int) : Prop where
  nd : ps.Nodup
  at' : ∀ p ∈ ps, 0 <= p /\ p < S /\ seen[p.toNat]? = some true
  of : ∀ q : Nat, seen[q]? = some true -> (q : Int) ∈ ps
theorem Done.none (S : Int) (n : Nat) : Done S (List.replicate n false) []:=
  ⟨List.nodup_nil, fun p h=>by simp at h, fun q h=>by
    rw [List.getElem?_replicate] at h
    split at h <;> cases h⟩
theorem Cz {l : List Bool} {j q : Nat} (h : l[q]? = some true) : (l.set j true)[q]? = some true:=by
  by_cases e : j = q
  . subst e
    rw [List.getElem?_set_self (List.getElem?_eq_some_iff.mp h).1]
  . rw [List.getElem?_set_ne e]; exact h
theorem Done.snoc {S : Int} {seen : List Bool} {ps : List Int} {a : Int} (h : Done S seen ps) (a0 : 0 <= a) (a1 : a < S) (e : seen[a.toNat]? = some false) : Done S (seen.set a.toNat true) (ps ++ [a]):=by
  have hl : a.toNat < seen.length:=(List.getElem?_eq_some_iff.mp e).1
  have hn : a ∉ ps:=fun m=>by
    have:=(h.at' a m).2.2
    rw [e] at this; cases this
  refine ⟨?_, fun p hp=>?_, fun q hq=>?_⟩
  . rw [List.nodup_append]
    refine ⟨h.nd, by simp, fun x hx y hy=>?_⟩
    rw [List.mem_singleton.mp hy]
    exact fun e=>hn (e ▸ hx)
  . rcases List.mem_append.mp hp with hp | hp
    . obtain ⟨h1, h2, h3⟩ := h.at' p hp
      exact ⟨h1, h2, Cz h3⟩
    . rw [List.mem_singleton.mp hp]
      exact ⟨a0, a1, by rw [List.getElem?_set_self hl]⟩
  . by_cases hqa : a.toNat = q
    . exact List.mem_append_right _ (List.mem_singleton.mpr (by omega))
    . rw [List.getElem?_set_ne hqa] at hq
      exact List.mem_append_left _ (h.of q hq)
theorem Done.all {S : Int} {seen : List Bool} {ps : List Int} (h : Done S seen ps) (hl : seen.length = S.toNat) (h0 : 0 <= S) (ha : ∀ q : Nat, q < S.toNat -> seen[q]? = some true) : ps.Perm (IK S.toNat):=by
  refine VC h.nd (GL _) fun x=>?_
  rw [Cw]
  constructor
  . intro hx
    obtain ⟨h1, h2, _⟩:=h.at' x hx
    omega
  . rintro ⟨x0, x1⟩
    have:=h.of x.toNat (ha x.toNat (by omega))
    rw [show ((x.toNat : Nat) : Int) = x by omega] at this
    exact this
end My
namespace My
open PySem L2
theorem DF (ns : List Int) {p : Int} (hp : 0 <= p) : ∃ c, JV ns p = .ok c:=by
  unfold JV
  simp only [Res.okb]
  by_cases h : p < (ns.length : Int)
  . rw [decide_eq_true h, if_pos rfl]
    have hl : p.toNat < ns.length:=by omega
    exact ⟨ns[p.toNat], HB hp (by simp [hl])⟩
  . rw [decide_eq_false h, if_neg Bool.false_ne_true]
    obtain ⟨g, e, _⟩:=K6 (as:=KU ns none (some 63)) (g:=(5 : Int)) (f:=fun g15 a17=>(Res.bind (Res.bind (Res.bind (Res.bind (Ke g15 48271) fun x25=>(Res.bind (QT a17 1000003) fun x26=>(Res.ok (x25 + x26)))) fun x27=>Res.ok (x27 + 1)) fun x29=>QT x29 2147483647) fun a19=>(Res.ok (a19)))) (fun _ _=>True) True.intro fun i a g _ _=>by
      rw [Jz (by decide) (by decide), Res.ok_bind, YD (by decide), Res.ok_bind, Res.ok_bind, Res.ok_bind, YD (by decide), Res.ok_bind]
      exact ⟨_, rfl, True.intro⟩
    rw [e, Res.ok_bind, VI (by decide) (by decide), Res.ok_bind, Res.ok_bind, YD (by decide)]
    exact ⟨_, rfl⟩
theorem BK (c : Int) {k : Int} (h0 : 0 <= k) (h1 : k <= 100000) : ∃ y, KR c k = .ok y /\ 0 <= y:=by
  unfold KR
  simp only [Res.okb]
  have hm : 0 <= c % 2147483629 /\ c % 2147483629 < 2147483629:=⟨Int.emod_nonneg _ (by decide), Int.emod_lt_of_pos _ (by decide)⟩
  rw [YD (by decide), Res.ok_bind, VI (by decide) (by decide), Res.ok_bind, Res.ok_bind, Res.ok_bind, BY (by decide) (by decide) (by omega) (by omega), Res.ok_bind, YD (by decide), Res.ok_bind]
  rw [Jz (by decide) (by decide), Res.ok_bind, VI (by decide) (by decide), Res.ok_bind, Jz (by omega) (by omega), Res.ok_bind, Res.ok_bind, Res.ok_bind, YD (by decide), Res.ok_bind, Gs (by decide) (by decide)]
  exact ⟨_, rfl, Int.ediv_nonneg (Int.emod_nonneg _ (by decide)) (by decide)⟩
theorem Fv (ns : List Int) {p : Int} (hp : 0 <= p) (sizes : List Int) (hl : sizes.length <= 100000) (hs : ∀ x ∈ sizes, 0 < x /\ x < 2 ^ 250) :
    Ok (Ud ns p sizes) fun r=>r.length = sizes.length /\ ∀ (i : Nat) x s, r[i]? = some x -> sizes[i]? = some s -> 0 <= x /\ x < s:=by
  obtain ⟨c, ec⟩:=DF ns hp
  unfold Ud
  simp only [Res.okb]
  rw [ec, show noE (Res.ok c) = .ok c from rfl, Res.ok_bind, JT (by omega), Res.ok_bind, BY (by decide) (by decide) (by decide) (by decide)]
  simp only [Res.okb]
  have key : ∀ (i : Nat) (a : Int) (g : List Int × Int), ((List.range sizes.length).map fun (i : Nat)=>(i : Int))[i]? = some a -> (g.1.length = i /\ ∀ (j : Nat) x s, g.1[j]? = some x -> sizes[j]? = some s -> 0 <= x /\ x < s) -> ∀ y z : Int, ∀ s, sizes[i]? = some s -> 0 <= y /\ y < s -> ((g.1 ++ [y], z).1.length = i + 1 /\ ∀ (j : Nat) x s, (g.1 ++ [y], z).1[j]? = some x -> sizes[j]? = some s -> 0 <= x /\ x < s):=by
    intro i a g ha ⟨hg, hq⟩ y z s hs1 hy
    refine ⟨by simp [hg], fun j x s' hx hs'=>?_⟩
    have hx : (g.1 ++ [y])[j]? = some x:=hx
    rcases Nat.lt_trichotomy j i with hj | hj | hj
    . rw [List.getElem?_append_left (by omega)] at hx; exact hq j x s' hx hs'
    . subst hj
      rw [List.getElem?_append_right (by omega), hg, Nat.sub_self] at hx
      have : y = x:=by simpa using hx
      rw [hs1] at hs'
      cases hs'
      rw [← this]; exact hy
    . rw [List.getElem?_eq_none (by simp; omega)] at hx; cases hx
  refine Ok.bind (Ok.forN (fun i (g : List Int × Int)=>g.1.length = i /\ ∀ (j : Nat) x s, g.1[j]? = some x -> sizes[j]? = some s -> 0 <= x /\ x < s) ⟨rfl, fun j x s h _=>by simp at h⟩ fun i a g ha hg=>?_) (T:=fun (r : List Int)=>r.length = sizes.length /\ ∀ (i : Nat) x s, r[i]? = some x -> sizes[i]? = some s -> 0 <= x /\ x < s) fun g ⟨hg, hq⟩=>?_
  . obtain ⟨rfl, hi⟩ := Qy ha
    have hsz : sizes[i]? = some sizes[i]:=by simp [hi]
    have hsp:=hs _ (List.getElem_mem hi)
    have hgl : g.1.length < sizeLine:=LG (by have:=hg.1; omega)
    by_cases hc : c < 10 ^ (18 : Int).toNat
    . rw [decide_eq_true hc, if_pos rfl]
      obtain ⟨y, ey, hy⟩:=BK c (k:=(i : Int)) (by omega) (by omega)
      rw [ey, show noE (Res.ok y) = .ok y from rfl, Res.ok_bind, YN hsz, Res.ok_bind, YD hsp.1, Res.ok_bind, XD hgl]
      exact ⟨_, rfl, key i _ g ha hg _ _ _ hsz ⟨Int.emod_nonneg _ (by omega), Int.emod_lt_of_pos _ hsp.1⟩⟩
    . rw [decide_eq_false hc, if_neg Bool.false_ne_true]
      by_cases hq : 0 < g.2
      . rw [decide_eq_true hq, if_pos rfl, YN hsz, Res.ok_bind, YD hsp.1, Res.ok_bind, XD hgl]
        simp only [Res.okb]
        rw [Gs hsp.1 hsp.2]
        exact ⟨_, rfl, key i _ g ha hg _ _ _ hsz ⟨Int.emod_nonneg _ (by omega), Int.emod_lt_of_pos _ hsp.1⟩⟩
      . rw [decide_eq_false hq, if_neg Bool.false_ne_true, YD (by decide), Res.ok_bind]
        obtain ⟨c2, ec2⟩:=DF ns (p:=(p + 1 + (i : Int)) % 63) (Int.emod_nonneg _ (by decide))
        obtain ⟨y, ey, hy⟩:=BK c2 (k:=(i : Int)) (by omega) (by omega)
        rw [ec2, show noE (Res.ok c2) = .ok c2 from rfl, Res.ok_bind, ey, show noE (Res.ok y) = .ok y from rfl, Res.ok_bind, YN hsz, Res.ok_bind, YD hsp.1, Res.ok_bind, XD hgl]
        exact ⟨_, rfl, key i _ g ha hg _ _ _ hsz ⟨Int.emod_nonneg _ (by omega), Int.emod_lt_of_pos _ hsp.1⟩⟩
  . rw [Qp] at hg
    exact ⟨g.1, rfl, hg, hq⟩
end My
namespace My
open PySem L2
theorem K3 {α : Type} {r : List α} {k : Int} {n : Nat} (e : k = (n : Int)) (h : n < r.length) : atR r k = .ok r[n]:=by
  subst e; exact YN (by simp [h])
theorem Ui {γ : Type} {c : γ -> Res Bool} {f : γ -> Res γ} (P : γ -> Prop) (μ : γ -> Nat) (hs : ∀ g, P g -> ∃ b, c g = .ok b /\ (b = true -> Ok (f g) fun g'=>P g' /\ μ g' < μ g)) : ∀ (n : Nat) (g : γ), P g -> μ g < n -> Ok (Q2 n g c f) fun g'=>P g' /\ c g' = .ok false
  | 0, _, _, h=>by omega
  | n + 1, g, hp, hm=>by
    obtain ⟨b, hb, h⟩:=hs g hp
    show Ok ((c g).bind _) _
    rw [hb, Res.okb]
    cases b with
    | false=>rw [if_neg Bool.false_ne_true]; exact ⟨g, rfl, hp, hb⟩
    | true=>
      rw [if_pos rfl]
      exact Ok.bind (h rfl) fun g' h'=>Ui P μ hs n g' h'.1 (by omega)
end My
namespace My
open PySem L2
theorem Vn {r : List Int} {n : Nat} (hn : n <= 1000) (hr : n <= r.length) : Ok (YT r (n : Int)) fun sp=>∃ p q, UY n sp p q:=by
  unfold YT
  simp only [Res.okb]
  rw [XD (by omega)]
  simp only [Res.okb]
  rw [JT (by omega)]
  simp only [Res.okb]
  have e0 : YL 0 (n : Int) = (List.range n).map fun (i : Nat)=>(i : Int):=by
    unfold YL
    rw [Int.sub_zero, Int.toNat_natCast]
    exact List.map_congr_left fun i _=>by omega
  refine Ok.bind (Ok.forN (fun i (g : List Int × List Int)=>g.1.length = i /\ (g.1 ++ g.2).Perm ((List.range n).map fun (i : Nat)=>(i : Int))) ⟨rfl, by rw [e0]; exact List.Perm.refl _⟩ fun i a g ha hg=>?_) fun g hg=>?_
  . obtain ⟨rfl, hi⟩ := Qy ha
    obtain ⟨h1, h2⟩:=hg
    have hl:=h2.length_eq
    simp only [List.length_append, List.length_map, List.length_range] at hl
    have hri : r[i]? = some r[i]:=by simp [show i < r.length by omega]
    have hpos : (0 : Int) < (g.2.length : Int):=by omega
    have hm1:=Int.emod_nonneg r[i] (show (g.2.length : Int) ≠ 0 by omega)
    have hm2:=Int.emod_lt_of_pos r[i] hpos
    rw [YN hri, Res.okb, YD hpos, Res.okb]
    generalize hk : r[i] % (g.2.length : Int) = k at hm1 hm2
    obtain ⟨j, rfl⟩ : ∃ j : Nat, k = j:=⟨k.toNat, by omega⟩
    have hj : j < g.2.length:=by omega
    rw [Im hj (by omega), Res.okb, XD (LG (by omega))]
    refine ⟨_, rfl, by simp [h1], ?_⟩
    refine List.Perm.trans ?_ h2
    show ((g.1 ++ [g.2[j]]) ++ g.2.eraseIdx j).Perm (g.1 ++ g.2)
    rw [List.append_assoc]
    exact (Vo hj).append_left _
  . obtain ⟨h1, h2⟩ := hg
    rw [Qp] at h1
    have hl:=h2.length_eq
    simp only [List.length_append, List.length_map, List.length_range] at hl
    have : g.2 = []:=List.length_eq_zero_iff.mp (by omega)
    rw [this, List.append_nil] at h2
    exact ⟨_, rfl, CH h2⟩
theorem UZ {n : Nat} {f : Nat -> Nat -> Nat} {sp : List Int} {p q : Nat -> Nat} (hn : n <= 1000) (hf : ∀ a b, a < n -> b < n -> f a b < n) (hp : UY n sp p q) : Zg (XN n f) sp = .ok (XN n fun x y=>p (f (q x) (q y))):=by
  have P:=hp.1
  unfold Zg
  simp only [Res.okb]
  rw [Y6 (h:=fun a=>a) (sz (by rw [Xw]; omega)) fun a _=>rfl, Res.okb]
  simp only [List.map_id', Xw]
  rw [JT (by omega), Res.okb]
  apply Ok.eq
  refine Ok.bind (Ok.forN (fun i g=>g = XN n fun x y=>if q x < i then p (f (q x) (q y)) else f x y) (Zc fun x y _ _=>by simp) fun i a g ha hg=>?_) fun g hg=>⟨g, rfl, ?_⟩
  . obtain ⟨rfl, hi⟩ := Qy ha
    subst hg
    simp only [Res.okb]
    refine Ok.bind (Ok.forN (fun j g=>g = XN n fun x y=>if q x < i ∨ (q x = i /\ q y < j) then p (f (q x) (q y)) else f x y) (Zc fun x y _ _=>by simp) fun j b g hb hg=>?_) fun g hg=>⟨g, rfl, ?_⟩
    . obtain ⟨rfl, hj⟩ := Qy hb
      subst hg
      have hv:=hf i j hi hj
      rw [QY hi, Res.okb, Jq hj, Res.okb, hp.get hv, Res.okb, hp.get hi, Res.okb, QY (P.lt i hi), Res.okb, hp.get hj, Res.okb, JI (by rw [XZ]; exact P.lt j hj), Res.okb, JI (by rw [Xw]; exact P.lt i hi), Res.okb]
      refine ⟨_, rfl, ?_⟩
      rw [EM (P.lt i hi)]
      refine Zc fun x y hx hy=>?_
      by_cases e : x = p i /\ y = p j
      . rw [if_pos e, e.1, e.2, P.qp i hi, P.qp j hj, if_pos (by omega)]
      . rw [if_neg e]
        have : ¬ (q x = i /\ q y = j):=fun ⟨e1, e2⟩=>e ⟨by rw [← e1, P.pq x hx], by rw [← e2, P.pq y hy]⟩
        by_cases c : q x < i ∨ (q x = i /\ q y < j)
        . rw [if_pos c, if_pos (by omega)]
        . rw [if_neg c, if_neg (by omega)]
    . subst hg
      rw [Qp]
      refine Zc fun x y hx hy=>?_
      have:=P.qlt y hy
      by_cases c : q x < i + 1
      . rw [if_pos c, if_pos (by omega)]
      . rw [if_neg c, if_neg (by omega)]
  . subst hg
    rw [Qp]
    exact Zc fun x y hx hy=>by rw [if_pos (P.qlt x hx)]
end My
namespace My
open PySem L2
theorem QF (a b : Bool) : Vl (.ok a) (.ok b) = .ok (a && b):=Ic fun _=>rfl
theorem GZ {way k : Int} {n a b : Nat} (hn : 0 < n) (h1 : n <= 1000) (ha : a < n) (hb : b < n) : Y5 way (n : Int) k (a : Int) (b : Int) = .ok (GG way n k a b):=by
  unfold Y5 GG
  simp only [Res.okb, QF, Bool.and_eq_true, decide_eq_true_eq, gt_iff_lt, ge_iff_le]
  rw [Gs (by decide) (by decide)]
  simp only [Res.okb, QF, Bool.and_eq_true, decide_eq_true_eq]
  rw [VI (a:=2) (by decide) (by decide), Jz (a:=k) (by omega) (by omega), Jz (a:=1 - k) (by omega) (by omega)]
  simp only [Res.okb]
  by_cases c1 : way = 1
  . rw [if_pos c1, if_pos c1]; exact YD (by omega)
  rw [if_neg c1, if_neg c1]
  by_cases c2 : way = 2
  . rw [if_pos c2, if_pos c2]; exact YD (by omega)
  rw [if_neg c2, if_neg c2]
  by_cases c3 : way = 3 /\ 2 < (n : Int) /\ (a : Int) < 2 /\ (b : Int) = (n : Int) - 1
  . rw [if_pos c3, if_pos c3]
  rw [if_neg c3, if_neg c3]
  by_cases c4 : way = 6 /\ (a : Int) < (n : Int) - 1 /\ (b : Int) = (n : Int) - 1
  . rw [if_pos c4, if_pos c4]; exact YD (by omega)
  rw [if_neg c4, if_neg c4]
  by_cases c5 : way = 4 /\ (a : Int) < (n : Int) / 2 /\ (b : Int) < (n : Int) / 2
  . rw [if_pos c5, if_pos c5]; exact YD (by omega)
  rw [if_neg c5, if_neg c5]
  by_cases c6 : way = 4 /\ (n : Int) / 2 <= (a : Int) /\ (n : Int) / 2 <= (b : Int)
  . rw [if_pos c6, if_pos c6, YD (by omega), Res.okb]
  rw [if_neg c6, if_neg c6]
theorem Um (x y : Int) : Qa x y = .ok (Int.gcd x y : Int):=by
  unfold Qa
  simp only [Res.okb]
  apply Ok.eq
  refine Ok.bind (Ui (fun g : Int × Int=>∃ u v : Nat, g = ((u : Int), (v : Int)) /\ Nat.gcd u v = Int.gcd x y) (fun g=>g.2.toNat) (fun g hg=>?_) _ ((x.natAbs : Int), (y.natAbs : Int)) ⟨x.natAbs, y.natAbs, rfl, rfl⟩ ?_) fun g hg=>?_
  . obtain ⟨u, v, rfl, h⟩ := hg
    refine ⟨_, rfl, fun c=>?_⟩
    have c' : (0 : Int) < (v : Int):=of_decide_eq_true c
    show Ok ((QT (u : Int) (v : Int)).bind _) _
    rw [YD c', Res.okb]
    refine ⟨_, rfl, ⟨v, u % v, by rw [Int.natCast_emod], ?_⟩, ?_⟩
    . rw [← h, Nat.gcd_comm u v, Nat.gcd_rec v u, Nat.gcd_comm]
    . show ((u : Int) % (v : Int)).toNat < ((v : Int)).toNat
      have:=Int.emod_lt_of_pos (u : Int) c'
      have:=Int.emod_nonneg (u : Int) (show (v : Int) ≠ 0 by omega)
      omega
  . show ((y.natAbs : Int)).toNat < _
    omega
  . obtain ⟨⟨u, v, rfl, h⟩, hc⟩ := hg
    have hc' : ¬ (0 : Int) < (v : Int):=by
      have:=Res.ok.inj hc
      simpa using this
    have : v = 0:=by omega
    subst this
    rw [Nat.gcd_zero_right] at h
    exact ⟨_, rfl, by show (u : Int) = _; rw [h]⟩
theorem Ew {n : Nat} {t z : Int} (h : t = 1 + (n : Int) * z) : Int.gcd t n = 1:=by
  have h1 : ((Int.gcd t n : Nat) : Int) ∣ t:=Int.gcd_dvd_left ..
  have h2 : ((Int.gcd t n : Nat) : Int) ∣ (n : Int):=Int.gcd_dvd_right ..
  have h3 : ((Int.gcd t n : Nat) : Int) ∣ 1:=by
    have : (1 : Int) = t - (n : Int) * z:=by omega
    rw [this]
    exact Int.dvd_sub h1 (Int.dvd_trans h2 (Int.dvd_mul_right ..))
  have h4:=Int.eq_one_of_dvd_one (by omega) h3
  omega
theorem Eb {way k : Int} {n : Nat} (hn : 0 < n) (h1 : n <= 1000) : Ok (VB way (n : Int) k) fun t=>∃ f, GoodF n f /\ t = XN n f:=by
  unfold VB
  simp only [Res.okb, QF, Bool.and_eq_true, decide_eq_true_eq]
  by_cases c5 : way = 5 /\ (n : Int) = 4
  . rw [if_pos c5]
    have hn : n = 4:=by omega
    subst hn
    exact ⟨[[0, 3, 1, 2], [2, 1, 3, 0], [3, 0, 2, 1], [1, 2, 0, 3]], rfl, Q7, FV, CN.symm⟩
  rw [if_neg c5]
  have ht:=Int.emod_add_mul_ediv (1 - k) (n : Int)
  have ht0:=Int.emod_nonneg (1 - k) (show (n : Int) ≠ 0 by omega)
  have ht1:=Int.emod_lt_of_pos (1 - k) (show (0 : Int) < (n : Int) by omega)
  generalize hq : (1 - k) % (n : Int) = m at ht ht0 ht1
  have hcop : Int.gcd (k + m) n = 1:=Ew (z:=-((1 - k) / (n : Int))) (by rw [Int.mul_neg]; omega)
  refine Ok.bind (Ui (fun g : Int=>k <= g /\ g <= k + m) (fun g=>(k + m - g).toNat) (fun g hg=>?_) _ k ⟨Int.le_refl _, by omega⟩ ?_) fun g hg=>?_
  . rw [Um, Ub, Res.okb]
    refine ⟨_, rfl, fun c=>?_⟩
    have hne : g ≠ k + m:=fun e=>by
      rw [e, hcop] at c
      exact absurd c (by decide)
    refine ⟨_, rfl, ⟨by omega, by omega⟩, ?_⟩
    show (k + m - (g + 1)).toNat < (k + m - g).toNat
    omega
  . show (k + m - k).toNat < _
    omega
  . obtain ⟨_, hc⟩ := hg
    rw [Um, Ub, Res.okb] at hc
    have hg1 : Int.gcd g n = 1:=by
      have:=Res.ok.inj hc
      simp at this
      omega
    obtain ⟨gd, hce⟩:=DN (way:=way) (k:=g) (n:=n) hn hg1
    refine ⟨XN n (UR way g n), ?_, _, gd, rfl⟩
    rw [JT (by omega), Res.okb]
    have hrow : ∀ a : Nat, a < n -> UD ((List.range n).map fun (i : Nat)=>(i : Int)) (fun b=>noE (Y5 way (n : Int) g (a : Int) b)) = .ok (Zo n (UR way g n) a):=fun a ha=>by
      rw [Y6 (h:=fun x=>((UR way g n a x.toNat : Nat) : Int)) (sz (by simp; omega)) fun x hx=>?_]
      . rw [List.map_map]; rfl
      . obtain ⟨b, hb, rfl⟩ := YS hx
        rw [GZ hn h1 ha hb, Ub, Int.toNat_natCast, hce a b ha hb]
    rw [UN (h:=fun x=>Zo n (UR way g n) x.toNat) (sz (by simp; omega)) fun l hl x hx=>?_]
    . rw [Res.okb, List.nil_append, List.map_map]; rfl
    . obtain ⟨a, ha, rfl⟩ := YS hx
      rw [Res.okb, hrow a ha, Res.okb, XD hl, Int.toNat_natCast]
end My
namespace My
open PySem L2
theorem Ct (ns : List Int) {p : Int} (hp : 0 <= p) {most : Nat} (h0 : 0 < most) (hm : most <= 24) : Ok (QK ns p (most : Int)) fun t=>∃ n f, 0 < n /\ n <= most /\ GoodF n f /\ t = XN n f:=by
  unfold QK
  simp only [Res.okb]
  rw [XD (sz (by simp))]
  simp only [Res.okb]
  rw [XD (sz (by simp))]
  simp only [Res.okb]
  rw [show GU [(24 : Int)] 24 = .ok (List.replicate 24 24) from rfl]
  simp only [Res.okb]
  rw [show DP [(7 : Int), 24, 6, 2] (List.replicate 24 24) = .ok ([(7 : Int), 24, 6, 2] ++ List.replicate 24 24) from XD (sz (by simp))]
  simp only [Res.okb]
  refine Ok.bind (Ok.noE (Fv ns hp _ (by simp) fun x hx=>?_)) fun r hr=>?_
  . rw [List.mem_append] at hx
    rcases hx with h | h
    . simp only [List.mem_cons, List.not_mem_nil, or_false] at h
      rcases h with rfl | rfl | rfl | rfl <;> decide
    . rw [(List.mem_replicate.mp h).2]; decide
  obtain ⟨hl, hv⟩:=hr
  have hl' : r.length = 28:=by rw [hl]; simp
  clear hl hv
  rw [K3 (r:=r) (k:=0) (n:=0) rfl (by omega), K3 (r:=r) (k:=1) (n:=1) rfl (by omega), K3 (r:=r) (k:=2) (n:=2) rfl (by omega), K3 (r:=r) (k:=3) (n:=3) rfl (by omega)]
  simp only [Res.okb, QF]
  rw [YD (by omega)]
  simp only [Res.okb]
  have a0:=Int.emod_nonneg r[1] (show (most : Int) ≠ 0 by omega)
  have a1:=Int.emod_lt_of_pos r[1] (show (0 : Int) < (most : Int) by omega)
  obtain ⟨s, es⟩ : ∃ s : Int, s = (1 : Int) + r[1] % (most : Int):=⟨_, rfl⟩
  rw [← es]
  have hs : 0 < s /\ s <= (most : Int):=by omega
  clear es
  obtain ⟨n, rfl⟩ : ∃ n : Nat, s = (n : Int):=⟨s.toNat, by omega⟩
  refine Ok.bind (Ok.noE (Eb (by omega) (by omega))) fun t ht=>?_
  obtain ⟨f, gd, rfl⟩:=ht
  refine Ok.ite (fun _=>⟨_, rfl, n, f, by omega, by omega, gd, rfl⟩) fun _=>?_
  rw [show KU r (some 4) none = r.drop 4 from Gq r (k:=4) (by omega)]
  refine Ok.bind (Ok.noE (Vn (by omega) (by rw [List.length_drop]; omega))) fun sp hsp=>?_
  obtain ⟨q, q', hq⟩:=hsp
  rw [UZ (by omega) gd.lt hq, Ub]
  exact ⟨_, rfl, n, _, by omega, by omega, hq.1.good gd, rfl⟩
end My
namespace My
open PySem L2
noncomputable def en : Nat -> List Int -> List (Int × Int)
  | _, []=>[]
  | k, x :: r=>(x, (k : Int)) :: en (k + 1) r
noncomputable def ix (D : List Int) (v : Int) : Int:=((D.findIdx? fun b=>decide (b = v)).getD 0 : Nat)
theorem JP : ∀ (k : Nat) (D : List Int), (en k D).map (fun kx=>kx.1) = D
  | _, []=>rfl
  | k, x :: r=>by rw [en, List.map_cons, JP (k + 1) r]
theorem DG : ∀ (D : List Int) (k : Nat), (((List.range D.length).map fun (i : Nat)=>((k + i : Nat) : Int)).zip D).map (fun a=>(a.2, a.1)) = en k D
  | [], k=>rfl
  | x :: r, k=>by
    rw [List.length_cons, List.range_succ_eq_map, List.map_cons, List.map_map, List.zip_cons_cons, List.map_cons, en, ← DG r (k + 1)]
    have e : ((fun (i : Nat)=>((k + i : Nat) : Int)) ∘ Nat.succ) = fun (i : Nat)=>((k + 1 + i : Nat) : Int):=by
      funext i
      show ((k + (i + 1) : Nat) : Int) = _
      rw [Nat.add_assoc, Nat.add_comm 1 i]
    rw [e]
    rfl
theorem Gd (D : List Int) : (YO D).map (fun a=>(a.2, a.1)) = en 0 D:=by
  rw [← DG D 0]
  unfold YO
  have e : (fun (i : Nat)=>(i : Int)) = fun (i : Nat)=>((0 + i : Nat) : Int):=by funext i; rw [Nat.zero_add]
  rw [e]
theorem DC (x : Int) : ∀ (D : List Int) (k : Nat), ZP (en k D) x = (D.findIdx? fun b=>decide (b = x)).map fun i=>((k + i : Nat) : Int)
  | [], _=>rfl
  | y :: r, k=>by
    have ih:=DC x r (k + 1)
    unfold ZP at ih ⊢
    rw [en, List.find?_cons, List.findIdx?_cons]
    by_cases h : y = x
    . rw [decide_eq_true h]; rfl
    . rw [decide_eq_false h]
      dsimp only
      rw [if_neg Bool.false_ne_true, ih, Option.map_map]
      congr 1
      funext i
      show ((k + 1 + i : Nat) : Int) = ((k + (i + 1) : Nat) : Int)
      rw [Nat.add_assoc, Nat.add_comm 1 i]
theorem EU {d : List (Int × Int)} {k v : Int} (h : k ∉ d.map fun kx=>kx.1) : Kp d k v = d ++ [(k, v)]:=by
  unfold Kp
  rw [if_neg]
  intro z
  obtain ⟨e, he, ek⟩:=List.any_eq_true.mp z
  exact h (List.mem_map.mpr ⟨e, he, of_decide_eq_true ek⟩)
theorem Qf : ∀ (ps d : List (Int × Int)), ((d ++ ps).map fun kx=>kx.1).Nodup -> FC d ps = d ++ ps
  | [], d, _=>(List.append_nil d).symm
  | p :: ps, d, h=>by
    have h' : ((d ++ [p] ++ ps).map fun kx=>kx.1).Nodup:=by rw [List.append_assoc]; exact h
    have e : Kp d p.1 p.2 = d ++ [p]:=EU fun hm=>by
      rw [List.map_append, List.map_cons] at h
      exact (List.nodup_append.mp h).2.2 _ hm p.1 (.head _) rfl
    show FC (Kp d p.1 p.2) ps = _
    rw [e, Qf ps _ h', List.append_assoc]
    rfl
theorem DM {D : List Int} {v : Int} (h : v ∈ D) : (D.findIdx? fun b=>decide (b = v)) = some ((D.findIdx? fun b=>decide (b = v)).getD 0):=by
  have hs : (D.findIdx? fun b=>decide (b = v)).isSome = true:=by
    rw [List.findIdx?_isSome, List.any_eq_true]
    exact ⟨v, h, decide_eq_true rfl⟩
  obtain ⟨j, hj⟩:=Option.isSome_iff_exists.mp hs
  rw [hj]; rfl
theorem H9 {D : List Int} {v : Int} (h : v ∈ D) : FY D v = .ok (ix D v):=by
  unfold FY ix
  rw [DM h]; rfl
theorem KH {D : List Int} {v : Int} (h : v ∈ D) : ZP (en 0 D) v = some (ix D v):=by
  rw [DC, DM h]
  unfold ix
  rw [DM h]
  show some (((0 + _ : Nat) : Int)) = _
  rw [Nat.zero_add]
structure Mem (n : Nat) (g : Nat -> Nat -> Nat) (D : List Int) : Prop where
  lt : ∀ x ∈ D, ∃ i : Nat, i < n /\ x = i
  ne : D ≠ []
  nd : D.Nodup
  cl : ∀ i j : Nat, (i : Int) ∈ D -> (j : Int) ∈ D -> ((g i j : Nat) : Int) ∈ D
  sz : D.length <= 1000
noncomputable def BP (g : Nat -> Nat -> Nat) (D : List Int) : List (List Int):=D.map fun x=>D.map fun y=>ix D (g x.toNat y.toNat : Nat)
section
variable {n : Nat} {g : Nat -> Nat -> Nat} {D : List Int}
theorem ED (m : Mem n g D) : X5 (XN n g) (en 0 D) = .ok none:=by
  unfold X5
  simp only [Res.okb]
  rw [JP, Jm]
  . rfl
  intro x hx
  rw [Jm]
  . rfl
  intro y hy
  obtain ⟨i, hi, rfl⟩:=m.lt x hx
  obtain ⟨j, hj, rfl⟩:=m.lt y hy
  rw [QY hi, Res.okb, Jq hj, Res.okb, KH (m.cl i j hx hy)]
  rfl
theorem Hb (m : Mem n g D) : QU (XN n g) D = .ok (BP g D):=by
  unfold QU
  simp only [Res.okb]
  have e1 : UD (YO D) (fun a7=>Res.ok (a7.2, a7.1)) = .ok ((YO D).map fun a=>(a.2, a.1)):=Y6 (sz (by unfold YO; simp; exact Nat.le_trans m.sz (by decide))) fun a _=>rfl
  rw [e1, Res.okb, Res.okb, Gd, Qf _ _ (by rw [List.nil_append, JP]; exact m.nd), List.nil_append]
  have hl : (D.length : Int) ≠ 0:=fun z=>m.ne (List.length_eq_zero_iff.mp (by omega))
  rw [decide_eq_false hl, Zy (ED m)]
  show Res.bind (Res.ok false) _ = _
  rw [Res.okb, if_neg Bool.false_ne_true]
  refine Y6 (sz (Nat.le_trans m.sz (by decide))) fun x hx=>Y6 (sz (Nat.le_trans m.sz (by decide))) fun y hy=>?_
  obtain ⟨i, hi, rfl⟩:=m.lt x hx
  obtain ⟨j, hj, rfl⟩:=m.lt y hy
  rw [QY hi, Res.okb, Jq hj, Res.okb]
  unfold FD
  rw [KH (m.cl i j hx hy)]
  rfl
end
end My
namespace My
open PySem L2
noncomputable def lst (n : Nat) (l : Nat -> Nat) : List Int:=Zo n (fun _ x=>l x) 0
theorem J1 {n : Nat} {l : Nat -> Nat} : lst n l = (List.range n).map fun x=>((l x : Nat) : Int):=rfl
theorem U6 {n : Nat} {l : Nat -> Nat} {x : Nat} (h : x < n) : atR (lst n l) (x : Int) = .ok ((l x : Nat) : Int):=Jq h
theorem Y8 {n : Nat} {l : Nat -> Nat} : (lst n l).length = n:=XZ _ _ _
theorem Fg {n : Nat} {l l' : Nat -> Nat} (h : ∀ x, x < n -> l x = l' x) : lst n l = lst n l':=by
  rw [J1, J1]
  exact List.map_congr_left fun x hx=>by rw [h x (List.mem_range.mp hx)]
noncomputable def jn (l : Nat -> Nat) (p q : Nat) : Nat -> Nat:=fun x=>if l x = p ∨ l x = q then min p q else l x
theorem Ci {n : Nat} {l : Nat -> Nat} {p q : Nat} (hn : n <= 1000) : Y4 (lst n l) (p : Int) (q : Int) = .ok (lst n (jn l p q)):=by
  unfold Y4
  simp only [Res.okb]
  rw [Y6 (h:=fun a=>if a = (p : Int) ∨ a = (q : Int) then min (p : Int) (q : Int) else a) (sz (by rw [Y8]; omega)) fun a _=>?_]
  . rw [J1, J1, List.map_map]
    refine congrArg _ (List.map_congr_left fun x _=>?_)
    show (if ((l x : Nat) : Int) = (p : Int) ∨ ((l x : Nat) : Int) = (q : Int) then min (p : Int) (q : Int) else ((l x : Nat) : Int)) = ((jn l p q x : Nat) : Int)
    unfold jn
    by_cases h : l x = p ∨ l x = q
    . rw [if_pos h, if_pos (by omega)]; omega
    . rw [if_neg h, if_neg (by omega)]
  . by_cases h : a = (p : Int) ∨ a = (q : Int)
    . rw [if_pos h, decide_eq_true (by simpa using h), if_pos rfl]
    . rw [if_neg h, decide_eq_false (by simpa using h), if_neg Bool.false_ne_true]
structure UF (n : Nat) (E : Nat -> Nat -> Prop) (l : Nat -> Nat) : Prop where
  lt : ∀ x, x < n -> l x < n
  le : ∀ x, x < n -> l x <= x
  id : ∀ x, x < n -> l (l x) = l x
  eq : ∀ x y, E x y -> l x = l y
  con : ∀ P : Nat -> Prop, (∀ x y, E x y -> (P x ↔ P y)) -> ∀ x, x < n -> (P x ↔ P (l x))
theorem UF.congr {n : Nat} {E E' : Nat -> Nat -> Prop} {l : Nat -> Nat} (u : UF n E l) (h : ∀ x y, E x y ↔ E' x y) : UF n E' l:=
  ⟨u.lt, u.le, u.id, fun x y e=>u.eq x y ((h x y).mpr e), fun P hP=>u.con P fun x y e=>hP x y ((h x y).mp e)⟩
theorem UF.join {n : Nat} {E : Nat -> Nat -> Prop} {l : Nat -> Nat} (u : UF n E l) {a c : Nat} (ha : a < n) (hc : c < n) : UF n (fun x y=>E x y ∨ (x = a /\ y = c)) (jn l (l a) (l c)):=by
  have la:=u.lt a ha
  have lc:=u.lt c hc
  have ia:=u.id a ha
  have ic:=u.id c hc
  have hm : min (l a) (l c) = l a ∨ min (l a) (l c) = l c:=by omega
  have hlow : l (min (l a) (l c)) = min (l a) (l c):=by rcases hm with h | h <;> rw [h] <;> assumption
  refine ⟨fun x hx=>?_, fun x hx=>?_, fun x hx=>?_, fun x y e=>?_, fun P hP x hx=>?_⟩
  . unfold jn; split
    . omega
    . exact u.lt x hx
  . have := u.le x hx
    unfold jn; split <;> omega
  . by_cases h : l x = l a ∨ l x = l c
    . have e1 : jn l (l a) (l c) x = min (l a) (l c) := if_pos h
      rw [e1]
      exact if_pos (by rw [hlow]; exact hm)
    . have e1 : jn l (l a) (l c) x = l x := if_neg h
      rw [e1]
      show (if l (l x) = l a ∨ l (l x) = l c then _ else _) = _
      rw [u.id x hx, if_neg h]
  . rcases e with e | ⟨rfl, rfl⟩
    . unfold jn; rw [u.eq x y e]
    . unfold jn; rw [if_pos (.inl rfl), if_pos (.inr rfl)]
  . have hE := u.con P fun x y e => hP x y (.inl e)
    have h1:=hE a ha
    have h2:=hE c hc
    have h3:=hP a c (.inr ⟨rfl, rfl⟩)
    have h4 : P (l a) ↔ P (l c):=h1.symm.trans (h3.trans h2)
    have h5:=hE x hx
    unfold jn
    split
    . rename_i h
      rcases h with h | h <;> rcases hm with k | k <;> rw [k] <;> rw [h] at h5
      . exact h5
      . exact h5.trans h4
      . exact h5.trans h4.symm
      . exact h5
    . exact h5
section
variable {n : Nat} {g : Nat -> Nat -> Nat}
noncomputable def Lk (n : Nat) (g : Nat -> Nat -> Nat) (x y : Nat) : Prop:=x < n /\ ∃ b, b < n /\ y = g x b
theorem Gp {α : Type} {as : List α} {i : Nat} {p : Int × α} (h : (YO as)[i]? = some p) : p.1 = (i : Int) /\ as[i]? = some p.2:=by
  unfold YO at h
  rw [List.getElem?_zip_eq_some] at h
  obtain ⟨h1, h2⟩:=h
  have hi : i < as.length:=(List.getElem?_eq_some_iff.mp h2).1
  rw [List.getElem?_map, List.getElem?_range hi] at h1
  exact ⟨(Option.some.inj h1).symm, h2⟩
theorem Ja {α : Type} {as : List α} : (YO as).length = as.length:=by unfold YO; simp
theorem FH {a b : Nat} {x : Int} (h : (Zo n g a)[b]? = some x) : b < n /\ x = ((g a b : Nat) : Int):=by
  have hb : b < n:=by have:=(List.getElem?_eq_some_iff.mp h).1; rwa [XZ] at this
  rw [YK hb] at h
  exact ⟨hb, (Option.some.inj h).symm⟩
theorem E4 {a : Nat} {r : List Int} (h : (XN n g)[a]? = some r) : a < n /\ r = Zo n g a:=by
  have ha : a < n:=by have:=(List.getElem?_eq_some_iff.mp h).1; rwa [Xw] at this
  rw [ZX ha] at h
  exact ⟨ha, (Option.some.inj h).symm⟩
noncomputable def cls (n : Nat) (m : Nat -> Nat) (v : Int) : List Int:=((List.range n).filter fun x=>decide (((m x : Nat) : Int) = v)).map fun (x : Nat)=>(x : Int)
theorem Jj {α β : Type} {p : α -> Res Bool} {f : α -> Res β} {q : α -> Bool} {h : α -> β} {as : List α} (hl : as.length <= sizeLine) (hp : ∀ a ∈ as, p a = .ok (q a)) (hf : ∀ a ∈ as, f a = .ok (h a)) : Ck as p f = .ok ((as.filter q).map h):=Hj hl hp fun a ha _=>hf a ha
theorem GH {m : Nat -> Nat} {v : Int} (hn : n <= 1000) : Yf (lst n m) v = .ok (cls n m v):=by
  unfold Yf
  simp only [Res.okb]
  have e0 : Ck (YO (lst n m)) (fun a3=>Res.ok (decide (a3.2 = v))) (fun a3=>Res.ok a3.1) = .ok (((YO (lst n m)).filter fun a=>decide (a.2 = v)).map fun a=>a.1):=Jj (sz (by rw [Ja, Y8]; omega)) (fun _ _=>rfl) (fun _ _=>rfl)
  rw [e0]
  unfold cls
  have e : YO (lst n m) = (List.range n).map fun (x : Nat)=>((x : Int), ((m x : Nat) : Int)):=by
    apply List.ext_getElem?
    intro i
    by_cases hi : i < n
    . obtain ⟨p, hp⟩ : ∃ p, (YO (lst n m))[i]? = some p := ⟨_, List.getElem?_eq_getElem (by rw [Ja, Y8]; exact hi)⟩
      obtain ⟨h1, h2⟩:=Gp hp
      have h3 : (lst n m)[i]? = some ((m i : Nat) : Int):=YK hi
      rw [h3] at h2
      rw [hp, List.getElem?_map, List.getElem?_range hi]
      refine congrArg some (Prod.ext h1 (Option.some.inj h2).symm)
    . rw [List.getElem?_eq_none (by rw [Ja, Y8]; omega), List.getElem?_eq_none (by simp; omega)]
  rw [e, List.filter_map, List.map_map]
  rfl
theorem Lv (hn : n <= 1000) (hg : ∀ a b, a < n -> b < n -> g a b < n) : Ok (forN (YO (XN n g)) (lst n fun x=>x) (fun g8 a10=>(Res.bind (forN a10.2 g8 (fun g14 a16=>(Res.bind (Res.bind (atR g14 a10.1) fun x26=>(Res.bind (atR g14 a16) fun x27=>(noE (Y4 g14 x26 x27)))) fun a18=>(Res.ok a18)))) fun g28=>(Res.ok g28)))) fun r=>∃ m, r = lst n m /\ UF n (Lk n g) m:=by
  have:=Ok.forN (as:=YO (XN n g)) (g:=lst n fun x=>x) (f:=fun g8 a10=>(Res.bind (forN a10.2 g8 (fun g14 a16=>(Res.bind (Res.bind (atR g14 a10.1) fun x26=>(Res.bind (atR g14 a16) fun x27=>(noE (Y4 g14 x26 x27)))) fun a18=>(Res.ok a18)))) fun g28=>(Res.ok g28)))
    (fun i r=>∃ m, r = lst n m /\ UF n (fun x y=>x < i /\ Lk n g x y) m) ⟨fun x=>x, rfl, fun x hx=>hx, fun x _=>Nat.le_refl _, fun x _=>rfl, fun x y e=>absurd e.1 (Nat.not_lt_zero _), fun P _ x _=>Iff.rfl⟩ ?_
  . obtain ⟨r, e, m, h1, h2⟩ := this
    refine ⟨r, e, m, h1, h2.congr fun x y=>?_⟩
    rw [Ja, Xw]
    exact ⟨fun h=>h.2, fun h=>⟨h.1, h⟩⟩
  . rintro i p r hp ⟨m, rfl, u⟩
    obtain ⟨h1, h2⟩:=Gp hp
    obtain ⟨hi, h3⟩:=E4 h2
    rw [h1, h3]
    have:=Ok.forN (as:=Zo n g i) (g:=lst n m) (f:=fun g14 a16=>(Res.bind (Res.bind (atR g14 (i : Int)) fun x26=>(Res.bind (atR g14 a16) fun x27=>(noE (Y4 g14 x26 x27)))) fun a18=>(Res.ok a18)))
      (fun j r=>∃ m, r = lst n m /\ UF n (fun x y=>(x < i /\ Lk n g x y) ∨ (x = i /\ ∃ b, b < j /\ b < n /\ y = g i b)) m) ⟨m, rfl, u.congr fun x y=>⟨.inl, fun h=>h.elim (fun z=>z) fun ⟨_, b, hb, _⟩=>absurd hb (Nat.not_lt_zero _)⟩⟩ ?_
    . refine Ok.bind this fun r hr => ?_
      obtain ⟨m', rfl, u'⟩:=hr
      refine ⟨_, rfl, m', rfl, u'.congr fun x y=>?_⟩
      rw [XZ]
      constructor
      . rintro (⟨h, k⟩ | ⟨rfl, b, hb, _, rfl⟩)
        . exact ⟨by omega, k⟩
        . exact ⟨by omega, hi, b, hb, rfl⟩
      . rintro ⟨h, k, b, hb, rfl⟩
        by_cases hx : x = i
        . subst hx; exact .inr ⟨rfl, b, hb, hb, rfl⟩
        . exact .inl ⟨by omega, k, b, hb, rfl⟩
    . rintro j x r hx ⟨m, rfl, u⟩
      obtain ⟨hj, rfl⟩:=FH hx
      have hc:=hg i j hi hj
      rw [U6 hi, Res.okb, U6 hc, Res.okb, Zy (Ci hn), Res.okb]
      refine ⟨_, rfl, _, rfl, (u.join hi hc).congr fun x y=>?_⟩
      constructor
      . rintro ((h | ⟨h, b, hb, k⟩) | ⟨rfl, rfl⟩)
        . exact .inl h
        . exact .inr ⟨h, b, by omega, k⟩
        . exact .inr ⟨rfl, j, by omega, hj, rfl⟩
      . rintro (h | ⟨h, b, hb, hbn, rfl⟩)
        . exact .inl (.inl h)
        . by_cases hbj : b = j
          . subst hbj; exact .inr ⟨h, rfl⟩
          . exact .inl (.inr ⟨h, b, by omega, hbn, rfl⟩)
end
end My
namespace My
open PySem L2
section
variable {n : Nat} {g : Nat -> Nat -> Nat} {m : Nat -> Nat}
noncomputable def rl (L : Nat -> Nat) (a c : Nat) : Nat -> Nat:=fun x=>if x = a ∨ x = c then min (L a) (L c) else L x
structure LK (n : Nat) (m L : Nat -> Nat) : Prop where
  lt : ∀ x, x < n -> L x < n
  cl : ∀ x, x < n -> m (L x) = m x
  ok : ∀ x, x < n -> L (m x) = m x
theorem LK.ge (u : UF n (Lk n g) m) {L : Nat -> Nat} (k : LK n m L) {x : Nat} (hx : x < n) : m x <= L x:=by
  rw [← k.cl x hx]; exact u.le _ (k.lt x hx)
theorem LK.step (u : UF n (Lk n g) m) {L : Nat -> Nat} (k : LK n m L) {a c : Nat} (ha : a < n) (hc : c < n) (e : m a = m c) :
    LK n m (rl L a c) /\ (∀ x, x < n -> L x = m x -> rl L a c x = m x) /\ ((L a = m a ∨ L c = m c) -> rl L a c a = m a /\ rl L a c c = m c):=by
  have hm : min (L a) (L c) = L a ∨ min (L a) (L c) = L c:=by omega
  have ga:=k.ge u ha
  have gc:=k.ge u hc
  have keep : ∀ x, x < n -> L x = m x -> rl L a c x = m x:=fun x hx h=>by
    unfold rl
    split
    . rename_i z
      rcases z with rfl | rfl <;> omega
    . exact h
  refine ⟨⟨fun x hx=>?_, fun x hx=>?_, fun x hx=>(keep _ (u.lt x hx) (by rw [u.id x hx]; exact k.ok x hx)).trans (u.id x hx)⟩, keep, fun h=>?_⟩
  . unfold rl; split
    . have := k.lt a ha
      omega
    . exact k.lt x hx
  . unfold rl; split
    . rename_i z
      have e1:=k.cl a ha
      have e2:=k.cl c hc
      rcases z with rfl | rfl <;> rcases hm with h | h <;> rw [h] <;> omega
    . exact k.cl x hx
  . unfold rl
    rw [if_pos (.inl rfl), if_pos (.inr rfl)]
    omega
noncomputable def cnt (n : Nat) (m L : Nat -> Nat) : List Nat:=(List.range n).filter fun x=>decide (L x = m x)
theorem Vd {L : Nat -> Nat} {x : Nat} : x ∈ cnt n m L ↔ x < n /\ L x = m x:=by unfold cnt; simp
theorem Hx {L : Nat -> Nat} : (cnt n m L).Nodup:=List.nodup_range.filter _
structure Rd1 (n : Nat) (g : Nat -> Nat -> Nat) (m L L1 : Nat -> Nat) : Prop where
  lk : LK n m L1
  keep : ∀ x, x < n -> L x = m x -> L1 x = m x
  go : ∀ x y, Lk n g x y -> (L x = m x ∨ L y = m y) -> L1 x = m x /\ L1 y = m y
theorem Be {l k : List Nat} (h : l.Nodup) (hs : ∀ x ∈ l, x ∈ k) : l.length <= k.length:=by
  induction l generalizing k with
  | nil=>exact Nat.zero_le _
  | cons x l ih=>
    have hx:=hs x (.head _)
    have h2:=List.nodup_cons.mp h
    have:=ih (k:=k.erase x) h2.2 fun y hy=>(List.mem_erase_of_ne fun e=>h2.1 (by rw [← e]; exact hy)).mpr (hs y (.tail _ hy))
    rw [List.length_erase_of_mem hx] at this
    have:=List.length_pos_of_mem hx
    rw [List.length_cons]
    omega
theorem GR (u : UF n (Lk n g) m) (hg : ∀ a b, a < n -> b < n -> g a b < n) {L L1 : Nat -> Nat} (k : LK n m L) (r : Rd1 n g m L L1) {j : Nat} (h : (∀ x, x < n -> L x = m x) ∨ j <= (cnt n m L).length) : (∀ x, x < n -> L1 x = m x) ∨ j + 1 <= (cnt n m L1).length:=by
  by_cases hall : ∀ x, x < n -> L x = m x
  . exact .inl fun x hx=>r.keep x hx (hall x hx)
  . have hj := h.resolve_left hall
    by_cases hinv : ∀ x y, Lk n g x y -> (L x = m x ↔ L y = m y)
    . exact absurd (fun x hx=>(u.con (fun x=>L x = m x) hinv x hx).mpr (by rw [u.id x hx]; exact k.ok x hx)) hall
    . right
      obtain ⟨x, hx⟩:=Classical.not_forall.mp hinv
      obtain ⟨y, hy⟩:=Classical.not_forall.mp hx
      obtain ⟨hl, hne⟩:=Classical.not_imp.mp hy
      have hxn : x < n:=hl.1
      have hyn : y < n:=by obtain ⟨h1, b, hb, rfl⟩:=hl; exact hg x b h1 hb
      have hnew : ∃ z, z < n /\ L z ≠ m z /\ L1 z = m z:=by
        by_cases h1 : L x = m x
        . exact ⟨y, hyn, fun h2=>hne ⟨fun _=>h2, fun _=>h1⟩, (r.go x y hl (.inl h1)).2⟩
        . by_cases h2 : L y = m y
          . exact ⟨x, hxn, h1, (r.go x y hl (.inr h2)).1⟩
          . exact absurd ⟨fun h=>absurd h h1, fun h=>absurd h h2⟩ hne
      obtain ⟨z, hz, z1, z2⟩:=hnew
      have:=Be (l:=z :: cnt n m L) (k:=cnt n m L1) (List.nodup_cons.mpr ⟨fun hm=>z1 (Vd.mp hm).2, Hx⟩) fun w hw=>by
        rcases List.mem_cons.mp hw with e | e
        . rw [e]; exact Vd.mpr ⟨hz, z2⟩
        . obtain ⟨w1, w2⟩ := Vd.mp e
          exact Vd.mpr ⟨w1, r.keep w w1 w2⟩
      rw [List.length_cons] at this
      omega
theorem CK {L : Nat -> Nat} {a c : Nat} (ha : a < n) (hc : c < n) : ((lst n L).set a ((min (L a) (L c) : Nat) : Int)).set c ((min (L a) (L c) : Nat) : Int) = lst n (rl L a c):=by
  apply List.ext_getElem?
  intro i
  by_cases hi : i < n
  . have e : (lst n (rl L a c))[i]? = some ((rl L a c i : Nat) : Int) := YK hi
    have e0 : (lst n L)[i]? = some ((L i : Nat) : Int):=YK hi
    rw [e]
    unfold rl
    by_cases h1 : i = c
    . subst h1
      rw [List.getElem?_set_self (by rw [List.length_set, Y8]; exact hi), if_pos (.inr rfl)]
    . rw [List.getElem?_set_ne (fun z => h1 z.symm)]
      by_cases h2 : i = a
      . subst h2
        rw [List.getElem?_set_self (by rw [Y8]; exact hi), if_pos (.inl rfl)]
      . rw [List.getElem?_set_ne (fun z=>h2 z.symm), e0, if_neg (by omega)]
  . rw [List.getElem?_eq_none (by rw [List.length_set, List.length_set, Y8]; omega), List.getElem?_eq_none (by rw [Y8]; omega)]
theorem Bq (hn : n <= 1000) (u : UF n (Lk n g) m) (hg : ∀ a b, a < n -> b < n -> g a b < n) {L : Nat -> Nat} (k : LK n m L) :
    Ok (forN ((List.range n).map fun (i : Nat)=>(i : Int)) (lst n L) (fun g18 a20=>(Res.bind (atR (XN n g) a20) fun x48=>(Res.bind (forN x48 g18 (fun g26 a28=>(Res.bind (Res.bind (atR g26 a20) fun x36=>(Res.bind (atR g26 a28) fun x37=>(Res.ok (min x36 x37)))) fun a30=>(Res.bind (ZU g26 a20 a30) fun a40=>(Res.bind (ZU a40 a28 a30) fun a44=>(Res.ok a44)))))) fun g46=>(Res.ok g46)))))
      fun r=>∃ L1, r = lst n L1 /\ Rd1 n g m L L1:=by
  have:=Ok.forN (as:=(List.range n).map fun (i : Nat)=>(i : Int)) (g:=lst n L) (f:=fun g18 a20=>(Res.bind (atR (XN n g) a20) fun x48=>(Res.bind (forN x48 g18 (fun g26 a28=>(Res.bind (Res.bind (atR g26 a20) fun x36=>(Res.bind (atR g26 a28) fun x37=>(Res.ok (min x36 x37)))) fun a30=>(Res.bind (ZU g26 a20 a30) fun a40=>(Res.bind (ZU a40 a28 a30) fun a44=>(Res.ok a44)))))) fun g46=>(Res.ok g46))))
    (fun i r=>∃ L1, r = lst n L1 /\ LK n m L1 /\ (∀ x, x < n -> L x = m x -> L1 x = m x) /\ ∀ x y, x < i -> Lk n g x y -> (L x = m x ∨ L y = m y) -> L1 x = m x /\ L1 y = m y) ⟨L, rfl, k, fun _ _ h=>h, fun x y h=>absurd h (Nat.not_lt_zero _)⟩ ?_
  . obtain ⟨r, e, L1, h1, h2, h3, h4⟩ := this
    refine ⟨r, e, L1, h1, h2, h3, fun x y hl=>h4 x y ?_ hl⟩
    rw [List.length_map, List.length_range]
    exact hl.1
  . rintro i x r hx ⟨L1, rfl, k1, h3, h4⟩
    have hi : i < n:=by have:=(List.getElem?_eq_some_iff.mp hx).1; simpa using this
    rw [List.getElem?_map, List.getElem?_range hi] at hx
    obtain rfl : (i : Int) = x:=Option.some.inj hx
    rw [QY hi, Res.okb]
    have:=Ok.forN (as:=Zo n g i) (g:=lst n L1) (f:=fun g26 a28=>(Res.bind (Res.bind (atR g26 (i : Int)) fun x36=>(Res.bind (atR g26 a28) fun x37=>(Res.ok (min x36 x37)))) fun a30=>(Res.bind (ZU g26 (i : Int) a30) fun a40=>(Res.bind (ZU a40 a28 a30) fun a44=>(Res.ok a44)))))
      (fun j r=>∃ L2, r = lst n L2 /\ LK n m L2 /\ (∀ x, x < n -> L1 x = m x -> L2 x = m x) /\ ∀ b, b < j -> b < n -> (L1 i = m i ∨ L1 (g i b) = m (g i b)) -> L2 i = m i /\ L2 (g i b) = m (g i b)) ⟨L1, rfl, k1, fun _ _ h=>h, fun b h=>absurd h (Nat.not_lt_zero _)⟩ ?_
    . refine Ok.bind this fun r hr => ?_
      obtain ⟨L2, rfl, k2, j3, j4⟩:=hr
      refine ⟨_, rfl, L2, rfl, k2, fun x hx h=>j3 x hx (h3 x hx h), fun x y hxi hl h=>?_⟩
      by_cases hxe : x = i
      . subst hxe
        obtain ⟨_, b, hb, rfl⟩:=hl
        refine j4 b (by rw [XZ]; exact hb) hb ?_
        rcases h with h | h
        . exact .inl (h3 x hi h)
        . exact .inr (h3 _ (hg x b hi hb) h)
      . have := h4 x y (by omega) hl h
        have hy : y < n:=by obtain ⟨h1, b, hb, rfl⟩:=hl; exact hg x b h1 hb
        exact ⟨j3 x hl.1 this.1, j3 y hy this.2⟩
    . rintro j x r hx ⟨L2, rfl, k2, j3, j4⟩
      obtain ⟨hj, rfl⟩:=FH hx
      have hc:=hg i j hi hj
      obtain ⟨s1, s2, s3⟩:=k2.step u hi hc (u.eq i (g i j) ⟨hi, j, hj, rfl⟩)
      have em : min ((L2 i : Nat) : Int) ((L2 (g i j) : Nat) : Int) = ((min (L2 i) (L2 (g i j)) : Nat) : Int):=by omega
      rw [U6 hi, Res.okb, U6 hc, Res.okb, Res.okb, em, JI (by rw [Y8]; exact hi), Res.okb, JI (by rw [List.length_set, Y8]; exact hc), Res.okb, CK hi hc]
      refine ⟨_, rfl, _, rfl, s1, fun x hx h=>s2 x hx (j3 x hx h), fun b hb hbn h=>?_⟩
      by_cases hbj : b = j
      . subst hbj
        refine s3 ?_
        rcases h with h | h
        . exact .inl (j3 i hi h)
        . exact .inr (j3 _ hc h)
      . have := j4 b (by omega) hbn h
        exact ⟨s2 i hi this.1, s2 _ (hg i b hi hbn) this.2⟩
end
end My
namespace My
open PySem L2
theorem BH (x : Int) : ∀ (l acc : List Int), x ∈ l.foldl PyProof.Rows.step_dedup acc ↔ x ∈ acc ∨ x ∈ l
  | [], acc=>by simp
  | y :: l, acc=>by
    rw [List.foldl_cons, BH x l]
    unfold PyProof.Rows.step_dedup
    by_cases h : acc.any (· == y) = true
    . rw [if_pos h]
      obtain ⟨z, hz, e⟩:=List.any_eq_true.mp h
      rw [beq_iff_eq] at e
      subst e
      simp only [List.mem_cons]
      constructor
      . rintro (q | q)
        . exact .inl q
        . exact .inr (.inr q)
      . rintro (q | q | q)
        . exact .inl q
        . rw [q]; exact .inl hz
        . exact .inr q
    . rw [if_neg h]
      simp only [List.mem_append, List.mem_cons, List.not_mem_nil, or_false]
      constructor
      . rintro ((q | q) | q)
        . exact .inl q
        . exact .inr (.inl q)
        . exact .inr (.inr q)
      . rintro (q | q | q)
        . exact .inl (.inl q)
        . exact .inl (.inr q)
        . exact .inr q
theorem Go : ∀ (l acc : List Int), acc.Nodup -> (l.foldl PyProof.Rows.step_dedup acc).Nodup
  | [], acc, h=>h
  | y :: l, acc, h=>by
    rw [List.foldl_cons]
    refine Go l _ ?_
    unfold PyProof.Rows.step_dedup
    by_cases z : acc.any (· == y) = true
    . rw [if_pos z]; exact h
    . rw [if_neg z]
      refine List.nodup_append.mpr ⟨h, by simp, fun u hu v hv e=>z (List.any_eq_true.mpr ⟨u, hu, ?_⟩)⟩
      rw [e, List.mem_singleton.mp hv]; exact beq_self_eq_true y
end My
namespace My
open PySem L2
theorem JL {α β : Type} {f : List β -> α -> Res (List β)} {p : α -> Bool} {h : α -> β} : ∀ {as : List α} {g : List β}, g.length + as.length <= sizeLine -> (∀ g : List β, g.length < sizeLine -> ∀ a ∈ as, f g a = .ok (if p a = true then g ++ [h a] else g)) -> forN as g f = .ok (g ++ (as.filter p).map h)
  | [], g, _, _=>by rw [List.filter_nil, List.map_nil, List.append_nil]; rfl
  | a :: as, g, hl, hf=>by
    rw [List.length_cons] at hl
    show (f g a).bind _ = _
    rw [hf g (by omega) a (.head _), Res.okb]
    have hrest : ∀ g : List β, g.length < sizeLine -> ∀ b ∈ as, f g b = .ok (if p b = true then g ++ [h b] else g):=fun g hg b hb=>hf g hg b (.tail _ hb)
    cases hp : p a with
    | true=>
      rw [if_pos rfl, JL (by simp; omega) hrest, List.filter_cons_of_pos hp, List.map_cons, List.append_assoc]
      rfl
    | false=>
      rw [if_neg Bool.false_ne_true, JL (by omega) hrest, List.filter_cons_of_neg (by rw [hp]; exact Bool.false_ne_true)]
theorem QJ (n : Nat) : YL 0 (n : Int) = lst n fun x=>x:=by
  unfold YL
  rw [show ((n : Int) - 0).toNat = n by omega, J1]
  exact List.map_congr_left fun i _=>Int.zero_add _
section
variable {n : Nat} {g : Nat -> Nat -> Nat} {m : Nat -> Nat}
noncomputable def Ed (n : Nat) (m : Nat -> Nat) : List Int:=((List.range n).map fun (i : Nat)=>(i : Int)).filter fun v=>decide (0 < (cls n m v).length)
theorem Ez {v : Int} : 0 < (cls n m v).length ↔ ∃ x, x < n /\ ((m x : Nat) : Int) = v:=by
  unfold cls
  rw [List.length_map]
  constructor
  . intro h
    obtain ⟨x, hx⟩:=List.exists_mem_of_length_pos h
    have:=List.mem_filter.mp hx
    exact ⟨x, List.mem_range.mp this.1, of_decide_eq_true this.2⟩
  . rintro ⟨x, hx, e⟩
    exact List.length_pos_of_mem (List.mem_filter.mpr ⟨List.mem_range.mpr hx, decide_eq_true e⟩)
theorem Bi (hm : ∀ x, x < n -> m x < n) : Vi (dd (lst n m)) = Ed n m:=by
  have hnd : ((List.range n).map fun (i : Nat)=>(i : Int)).Nodup:=List.Pairwise.map _ (fun a b h e=>h (Int.ofNat.inj e)) List.nodup_range
  refine (K8 ?_ ?_).symm
  . refine (List.perm_ext_iff_of_nodup (hnd.filter _) (Go _ _ List.nodup_nil)).mpr fun v => ?_
    rw [BH, List.mem_filter, decide_eq_true_iff, Ez, J1, List.mem_map, List.mem_map]
    simp only [List.not_mem_nil, false_or]
    constructor
    . rintro ⟨_, x, hx, e⟩; exact ⟨x, List.mem_range.mpr hx, e⟩
    . rintro ⟨x, hx, e⟩
      have hx:=List.mem_range.mp hx
      exact ⟨⟨m x, List.mem_range.mpr (hm x hx), e⟩, x, hx, e⟩
  . refine List.Pairwise.filter _ ?_
    exact List.Pairwise.map _ (fun a b h=>Int.ofNat_le.mpr (Nat.le_of_lt h)) List.pairwise_lt_range
theorem Fr (h24 : n <= 24) (hg : ∀ a b, a < n -> b < n -> g a b < n) : ∃ m, UF n (Lk n g) m /\ Z5 (XN n g) = .ok ((Ed n m).map (cls n m)):=by
  obtain ⟨r, e, m, rfl, u⟩:=Lv (by omega) hg
  refine ⟨m, u, ?_⟩
  unfold Z5
  simp only [Res.okb]
  rw [Xw, XD (by omega), Res.okb, QJ]
  rw [e, Res.okb, Y8, XD (by omega), Res.okb, Bi u.lt]
  refine Y6 (sz ?_) fun v _=>Zy (GH (by omega))
  refine Nat.le_trans (List.length_filter_le ..) ?_
  simp
  omega
theorem Bd {v : Int} (hn : n <= 1000) : Ck ((List.range n).map fun (i : Nat)=>(i : Int)) (fun a71=>(Res.bind (atR (lst n m) a71) fun x76=>Res.ok (decide (x76 = v)))) (fun a71=>Res.ok a71) = .ok (cls n m v):=by
  rw [Jj (q:=fun a=>decide (((m a.toNat : Nat) : Int) = v)) (h:=fun a=>a) (sz (by simp; omega)) (fun a ha=>?_) (fun _ _=>rfl), List.map_id', List.filter_map]
  . rfl
  . obtain ⟨i, hi, rfl⟩ := YS ha
    rw [U6 hi, Res.okb]
    rfl
theorem Dr (h24 : n <= 24) (h0 : 0 < n) (hg : ∀ a b, a < n -> b < n -> g a b < n) (u : UF n (Lk n g) m) : Z4 (XN n g) = .ok ((Ed n m).map (cls n m)):=by
  unfold Z4
  simp only [Res.okb]
  rw [Xw, XD (by omega), Res.okb, QJ, JT (by omega), Res.okb]
  have hR:=Ok.forN (as:=(List.range n).map fun (i : Nat)=>(i : Int)) (g:=lst n fun x=>x) (f:=fun g10 _=>(Res.bind (Res.ok ((List.range n).map fun (i : Nat)=>(i : Int))) fun x51=>(Res.bind (forN x51 g10 (fun g18 a20=>(Res.bind (atR (XN n g) a20) fun x48=>(Res.bind (forN x48 g18 (fun g26 a28=>(Res.bind (Res.bind (atR g26 a20) fun x36=>(Res.bind (atR g26 a28) fun x37=>(Res.ok (min x36 x37)))) fun a30=>(Res.bind (ZU g26 a20 a30) fun a40=>(Res.bind (ZU a40 a28 a30) fun a44=>(Res.ok a44)))))) fun g46=>(Res.ok g46))))) fun g49=>(Res.ok g49))))
    (fun i r=>∃ L, r = lst n L /\ LK n m L /\ ((∀ x, x < n -> L x = m x) ∨ i + 1 <= (cnt n m L).length)) ⟨fun x=>x, rfl, ⟨fun x hx=>hx, fun x _=>rfl, fun x _=>rfl⟩, .inr (List.length_pos_of_mem (Vd.mpr ⟨h0, by have:=u.le 0 h0; omega⟩))⟩ (fun i x r _ hr=>by
      obtain ⟨L, rfl, k, hc⟩:=hr
      rw [Res.okb]
      refine Ok.bind (Bq (by omega) u hg k) fun r hr=>?_
      obtain ⟨L1, rfl, q⟩:=hr
      exact ⟨_, rfl, L1, rfl, q.lk, GR u hg k q hc⟩)
  obtain ⟨r, e, L, rfl, _, hc⟩:=hR
  rw [e, Res.okb]
  have hL : ∀ x, x < n -> L x = m x:=by
    rcases hc with h | h
    . exact h
    . have h1 : (cnt n m L).length <= n:=by
        have:=List.length_filter_le (fun x=>decide (L x = m x)) (List.range n)
        rw [List.length_range] at this
        exact this
      rw [List.length_map, List.length_range] at h
      omega
  rw [Fg hL, Res.okb]
  rw [JL (p:=fun v=>decide (0 < (cls n m v).length)) (h:=cls n m) (by simp; exact sz (by omega)) fun r hr v hv=>?_, Res.okb, List.nil_append]
  . rfl
  . rw [Res.okb, Bd (by omega), Res.okb]
    by_cases hp : 0 < (cls n m v).length
    . rw [decide_eq_true (show (0 : Int) < ((cls n m v).length : Int) by omega), if_pos rfl, XD hr, Res.okb, if_pos (decide_eq_true hp)]
    . rw [decide_eq_false (show ¬ (0 : Int) < ((cls n m v).length : Int) by omega), if_neg Bool.false_ne_true, Res.okb, if_neg (by simpa using hp)]
end
end My
namespace My
open PySem L2
theorem Zx {α γ ρ : Type} {f : γ -> α -> Res (Ctl ρ γ)} (I : Nat -> γ -> Prop) (P : α -> Prop) (R : ρ -> Prop) : ∀ (as : List α) (k : Nat) (g : γ), I k g -> (∀ i a g, as[i]? = some a -> I (k + i) g -> (∃ g', f g a = .ok (.nx g') /\ I (k + i + 1) g' /\ P a) ∨ ∃ r, f g a = .ok (.ret r) /\ R r) ->
    (∃ g', forC as g f = .ok (.nx g') /\ I (k + as.length) g' /\ ∀ a ∈ as, P a) ∨ ∃ r, forC as g f = .ok (.ret r) /\ R r
  | [], k, g, h0, _=>.inl ⟨g, rfl, h0, fun a h=>nomatch h⟩
  | a :: as, k, g, h0, hs=>by
    rcases hs 0 a g rfl h0 with ⟨g', e, i1, p⟩ | ⟨r, e, hr⟩
    . rcases Zx I P R as (k + 1) g' i1 (fun i b g hb hi=>by
        have:=hs (i + 1) b g hb (by rw [show k + (i + 1) = k + 1 + i by omega]; exact hi)
        rw [show k + (i + 1) + 1 = k + 1 + i + 1 by omega] at this
        exact this) with ⟨g2, e2, i2, p2⟩ | ⟨r, e2, hr⟩
      . refine .inl ⟨g2, by show (f g a).bind _ = _; rw [e, Res.okb]; exact e2, by rw [List.length_cons, show k + (as.length + 1) = k + 1 + as.length by omega]; exact i2, fun b hb => ?_⟩
        rcases List.mem_cons.mp hb with z | z
        . rw [z]; exact p
        . exact p2 b z
      . exact .inr ⟨r, by show (f g a).bind _ = _; rw [e, Res.okb]; exact e2, hr⟩
    . exact .inr ⟨r, by show (f g a).bind _ = _; rw [e, Res.okb], hr⟩
structure Clr (n : Nat) (D : List Int) : Prop where
  lt : ∀ x ∈ D, ∃ i : Nat, i < n /\ x = i
  nd : D.Nodup
  sz : D.length <= 1000
theorem Dj {n : Nat} (hn : n <= 1000) (p : Nat -> Bool) : Clr n (((List.range n).filter p).map fun (i : Nat)=>(i : Int)):=by
  refine ⟨fun x hx=>?_, List.Pairwise.map _ (fun a b h e=>h (Int.ofNat.inj e)) (List.nodup_range.filter _), ?_⟩
  . obtain ⟨i, hi, rfl⟩ := List.mem_map.mp hx
    exact ⟨i, List.mem_range.mp (List.mem_filter.mp hi).1, rfl⟩
  . rw [List.length_map]
    refine Nat.le_trans (List.length_filter_le ..) ?_
    rw [List.length_range]; exact hn
section
variable {n : Nat} {g : Nat -> Nat -> Nat} {D : List Int}
noncomputable def Gap (g : Nat -> Nat -> Nat) (D : List Int) : Prop:=∃ i j : Nat, (i : Int) ∈ D /\ (j : Int) ∈ D /\ ((g i j : Nat) : Int) ∉ D
theorem HR (c : Clr n D) : Mem n g D ∨ D = [] ∨ Gap g D:=by
  by_cases h0 : D = []
  . exact .inr (.inl h0)
  . by_cases hg : Gap g D
    . exact .inr (.inr hg)
    . refine .inl ⟨c.lt, h0, c.nd, fun i j hi hj => ?_, c.sz⟩
      by_cases h : ((g i j : Nat) : Int) ∈ D
      . exact h
      . exact absurd ⟨i, j, hi, hj, h⟩ hg
theorem EO {v : Int} (h : v ∉ D) : ZP (en 0 D) v = none:=by
  rw [DC]
  have : (D.findIdx? fun b=>decide (b = v)) = none:=List.findIdx?_eq_none_iff.mpr fun x hx=>decide_eq_false fun e=>h (e ▸ hx)
  rw [this]; rfl
theorem Bm (c : Clr n D) (hb : Gap g D) : ∃ r, X5 (XN n g) (en 0 D) = .ok (some r):=by
  unfold X5
  simp only [Res.okb]
  rw [JP]
  have hin : ∀ x ∈ D, (∃ g' : Unit, (Res.bind (forC D () (fun g11 a13=>(Res.bind (Res.bind (Res.bind (atR (XN n g) x) fun x17=>(atR x17 a13)) fun x19=>(Res.ok (!(ZP (en 0 D) x19).isSome))) fun x21=>(if x21 = true then (Res.bind (Res.bind (Res.bind (Res.bind (atR (XN n g) x) fun x24=>(atR x24 a13)) fun x26=>(Res.ok (x26, x, a13))) fun x29=>(Res.ok (some x29))) fun x31=>(Res.ok (Ctl.ret x31))) else (Res.ok (Ctl.nx ())))))) (Z0 fun _=>(Res.ok (Ctl.nx ())))) = .ok (.nx g') /\ True /\ ∀ y ∈ D, ∀ i j : Nat, x = i -> y = j -> ((g i j : Nat) : Int) ∈ D) ∨ ∃ r, (Res.bind (forC D () (fun g11 a13=>(Res.bind (Res.bind (Res.bind (atR (XN n g) x) fun x17=>(atR x17 a13)) fun x19=>(Res.ok (!(ZP (en 0 D) x19).isSome))) fun x21=>(if x21 = true then (Res.bind (Res.bind (Res.bind (Res.bind (atR (XN n g) x) fun x24=>(atR x24 a13)) fun x26=>(Res.ok (x26, x, a13))) fun x29=>(Res.ok (some x29))) fun x31=>(Res.ok (Ctl.ret x31))) else (Res.ok (Ctl.nx ())))))) (Z0 fun _=>(Res.ok (Ctl.nx ())))) = .ok (.ret r) /\ ∃ q, r = some q:=fun x hx=>by
    obtain ⟨i, hi, rfl⟩:=c.lt x hx
    rcases Zx (f:=fun (g11 : Unit) a13=>(Res.bind (Res.bind (Res.bind (atR (XN n g) (i : Int)) fun x17=>(atR x17 a13)) fun x19=>(Res.ok (!(ZP (en 0 D) x19).isSome))) fun x21=>(if x21 = true then (Res.bind (Res.bind (Res.bind (Res.bind (atR (XN n g) (i : Int)) fun x24=>(atR x24 a13)) fun x26=>(Res.ok (x26, (i : Int), a13))) fun x29=>(Res.ok (some x29))) fun x31=>(Res.ok (Ctl.ret x31))) else (Res.ok (Ctl.nx ()))))) (fun _ _=>True) (fun y : Int=>∀ j : Nat, y = j -> ((g i j : Nat) : Int) ∈ D) (fun r=>∃ q, r = some q) D 0 () trivial (fun k y _ hy _=>by
        obtain ⟨j, hj, rfl⟩:=c.lt y (List.mem_of_getElem? hy)
        rw [QY hi, Res.okb, Jq hj, Res.okb]
        by_cases hm : ((g i j : Nat) : Int) ∈ D
        . rw [KH hm]
          exact .inl ⟨(), rfl, trivial, fun j' e=>by rw [← Int.ofNat.inj e]; exact hm⟩
        . rw [EO hm]
          exact .inr ⟨some (((g i j : Nat) : Int), (i : Int), (j : Int)), rfl, _, rfl⟩) with ⟨_, e, _, p⟩ | ⟨r, e, hr⟩
    . exact .inl ⟨(), by rw [e]; rfl, trivial, fun y hy i' j' e1 e2=>by rw [← Int.ofNat.inj e1]; exact p y hy j' e2⟩
    . exact .inr ⟨r, by rw [e]; rfl, hr⟩
  rcases Zx (fun _ _=>True) (fun x : Int=>∀ y ∈ D, ∀ i j : Nat, x = i -> y = j -> ((g i j : Nat) : Int) ∈ D) (fun r=>∃ q, r = some q) D 0 () trivial (fun k x (_ : Unit) hx _=>hin x (List.mem_of_getElem? hx)) with ⟨_, _, _, p⟩ | ⟨r, e, q, rfl⟩
  . obtain ⟨i, j, hi, hj, hn⟩ := hb
    exact absurd (p _ hi _ hj i j rfl rfl) hn
  . exact ⟨q, by rw [e]; rfl⟩
theorem Hi (c : Clr n D) (hb : D = [] ∨ Gap g D) : QU (XN n g) D = .err ⟨"NotClosed", Pay.non⟩:=by
  unfold QU
  simp only [Res.okb]
  have e1 : UD (YO D) (fun a7=>Res.ok (a7.2, a7.1)) = .ok ((YO D).map fun a=>(a.2, a.1)):=Y6 (sz (by unfold YO; simp; exact Nat.le_trans c.sz (by decide))) fun a _=>rfl
  rw [e1, Res.okb, Res.okb, Gd, Qf _ _ (by rw [List.nil_append, JP]; exact c.nd), List.nil_append]
  rcases hb with rfl | hb
  . rfl
  . obtain ⟨r, e⟩ := Bm c hb
    have hl : D.length ≠ 0:=fun z=>by
      obtain ⟨i, _, hi, _⟩:=hb
      rw [List.length_eq_zero_iff.mp z] at hi
      cases hi
    rw [decide_eq_false (show ¬ (D.length : Int) = 0 by omega), Zy e]
    rfl
theorem EB (c : Clr n D) {i : Nat} (hi : i < n) : (∃ g', forC D ([] : List Int) (fun g15 a17=>(Res.bind (Res.bind (Res.bind (atR (XN n g) (i : Int)) fun x21=>(atR x21 a17)) fun x23=>(Res.ok (!(decide (x23 ∈ D))))) fun x25=>(if x25 = true then (Res.ok (Ctl.ret (none : Option (List (List Int))))) else (Res.bind (Res.bind (Res.bind (atR (XN n g) (i : Int)) fun x28=>(atR x28 a17)) fun x31=>(FY D x31)) fun a32=>(chk (g15.length < sizeLine) (Res.ok (Ctl.nx (g15 ++ [a32]))))))))  = .ok (.nx g') /\ g' = (D.take (0 + D.length)).map (fun y=>ix D (g i y.toNat : Nat)) /\ ∀ y ∈ D, ∀ j : Nat, y = j -> ((g i j : Nat) : Int) ∈ D) ∨
    ∃ r, forC D ([] : List Int) (fun g15 a17=>(Res.bind (Res.bind (Res.bind (atR (XN n g) (i : Int)) fun x21=>(atR x21 a17)) fun x23=>(Res.ok (!(decide (x23 ∈ D))))) fun x25=>(if x25 = true then (Res.ok (Ctl.ret (none : Option (List (List Int))))) else (Res.bind (Res.bind (Res.bind (atR (XN n g) (i : Int)) fun x28=>(atR x28 a17)) fun x31=>(FY D x31)) fun a32=>(chk (g15.length < sizeLine) (Res.ok (Ctl.nx (g15 ++ [a32])))))))) = .ok (.ret r) /\ (r = none /\ ∃ j : Nat, (j : Int) ∈ D /\ ((g i j : Nat) : Int) ∉ D):=by
  refine Zx (fun k g'=>g' = (D.take k).map (fun y=>ix D (g i y.toNat : Nat))) (fun y : Int=>∀ j : Nat, y = j -> ((g i j : Nat) : Int) ∈ D) (fun r=>r = none /\ ∃ j : Nat, (j : Int) ∈ D /\ ((g i j : Nat) : Int) ∉ D) D 0 [] rfl fun k y g' hy hg'=>?_
  rw [Nat.zero_add] at hg' ⊢
  have hyD:=List.mem_of_getElem? hy
  obtain ⟨j, hj, rfl⟩:=c.lt y hyD
  rw [QY hi, Res.okb, Jq hj, Res.okb]
  by_cases hm : ((g i j : Nat) : Int) ∈ D
  . refine .inl ⟨g' ++ [ix D (g i j : Nat)], ?_, ?_, fun j' e => by rw [← Int.ofNat.inj e]; exact hm⟩
    . rw [decide_eq_true hm, Res.okb, if_neg (by decide), Res.okb, H9 hm, Res.okb, XD]
      rw [hg', List.length_map, List.length_take]
      exact Nat.lt_of_le_of_lt (Nat.min_le_right _ _) (Nat.lt_of_le_of_lt c.sz (by decide))
    . obtain ⟨hk, ek⟩ := List.getElem?_eq_some_iff.mp hy
      rw [hg', List.take_succ_eq_append_getElem hk, ek, List.map_append]
      rfl
  . refine .inr ⟨none, ?_, rfl, j, hyD, hm⟩
    rw [decide_eq_false hm, Res.okb, if_pos (by decide)]
theorem BD (c : Clr n D) : (Mem n g D -> K0 (XN n g) D = .ok (some (BP g D))) /\ (D = [] ∨ Gap g D -> K0 (XN n g) D = .ok none):=by
  unfold K0
  simp only [Res.okb]
  have key:=Zx (γ:=List (List Int)) (ρ:=Option (List (List Int))) (f:=fun g6 a8=>(Res.bind (forC D ([] : List Int) (fun g15 a17=>(Res.bind (Res.bind (Res.bind (atR (XN n g) a8) fun x21=>(atR x21 a17)) fun x23=>(Res.ok (!(decide (x23 ∈ D))))) fun x25=>(if x25 = true then (Res.ok (Ctl.ret (none : Option (List (List Int))))) else (Res.bind (Res.bind (Res.bind (atR (XN n g) a8) fun x28=>(atR x28 a17)) fun x31=>(FY D x31)) fun a32=>(chk (g15.length < sizeLine) (Res.ok (Ctl.nx (g15 ++ [a32]))))))))) (Z0 fun g37=>(chk (g6.length < sizeLine) (Res.ok (Ctl.nx (g6 ++ [g37])))))))
    (fun k g'=>g' = (D.take k).map (fun x=>D.map fun y=>ix D (g x.toNat y.toNat : Nat))) (fun x : Int=>∀ y ∈ D, ∀ i j : Nat, x = i -> y = j -> ((g i j : Nat) : Int) ∈ D) (fun r=>r = none /\ Gap g D) D 0 [] rfl (fun k x g' hx hg'=>by
      rw [Nat.zero_add] at hg' ⊢
      have hxD:=List.mem_of_getElem? hx
      obtain ⟨i, hi, rfl⟩:=c.lt x hxD
      rcases EB (g:=g) c hi with ⟨g2, e, hg2, p⟩ | ⟨r, e, rfl, j, hj, hno⟩
      . refine .inl ⟨g' ++ [D.map fun y => ix D (g i y.toNat : Nat)], ?_, ?_, fun y hy i' j' e1 e2 => by rw [← Int.ofNat.inj e1]; exact p y hy j' e2⟩
        . rw [e, Res.okb, Fq, XD]
          . rw [hg2, Nat.zero_add, List.take_length]
          . rw [hg', List.length_map, List.length_take]
            exact Nat.lt_of_le_of_lt (Nat.min_le_right _ _) (Nat.lt_of_le_of_lt c.sz (by decide))
        . obtain ⟨hk, ek⟩ := List.getElem?_eq_some_iff.mp hx
          rw [hg', List.take_succ_eq_append_getElem hk, ek, List.map_append]
          rfl
      . exact .inr ⟨none, by rw [e]; rfl, rfl, i, j, hxD, hj, hno⟩)
  rcases key with ⟨g', e, hg', p⟩ | ⟨r, e, rfl, hb⟩
  . rw [e, Res.okb, Ba, hg', Nat.zero_add, List.take_length, List.length_map]
    refine ⟨fun m=>?_, fun hb=>?_⟩
    . have hl : (D.length : Int) ≠ 0 := fun z => m.ne (List.length_eq_zero_iff.mp (by omega))
      rw [decide_eq_false hl, if_neg Bool.false_ne_true]
      rfl
    . rcases hb with rfl | ⟨i, j, hi, hj, hno⟩
      . rfl
      . exact absurd (p _ hi _ hj i j rfl rfl) hno
  . rw [e]
    refine ⟨fun m=>?_, fun _=>rfl⟩
    obtain ⟨i, j, hi, hj, hno⟩:=hb
    exact absurd (m.cl i j hi hj) hno
theorem DY (r : List Int) : XV r = .ok true:=by
  unfold XV
  simp only [Res.okb]
  rw [if_neg (by decide), Jm]
  . rfl
  . intro x _; rfl
theorem Dx {L : List (List Int)} (h : ∀ r ∈ L, r.length <= 1000) : (L.all fun row=>isF (Res.bind (noE (XV row)) fun x=>(Res.ok (!x)))) = true /\ ∀ row ∈ L, row.length < sizeLine:=
  ⟨List.all_eq_true.mpr fun r _=>by rw [Zy (DY r)]; rfl, fun r hr=>Nat.lt_of_le_of_lt (h r hr) (by decide)⟩
end
end My
namespace My
open PySem L2
structure GrpF (n : Nat) (f : Nat -> Nat -> Nat) : Prop where
  pos : 0 < n
  lt : ∀ a b, a < n -> b < n -> f a b < n
  u1 : ∀ a, a < n -> f 0 a = a
  u2 : ∀ a, a < n -> f a 0 = a
  iv : ∀ a, a < n -> ∃ b, b < n /\ f a b = 0
  as : ∀ a b c, a < n -> b < n -> c < n -> f (f a b) c = f a (f b c)
theorem GrpF.left {n : Nat} {f : Nat -> Nat -> Nat} (h : GrpF n f) {a b : Nat} (ha : a < n) (hb : b < n) (e : f a b = 0) : f b a = 0:=by
  obtain ⟨c, hc, ec⟩:=h.iv b hb
  have h1 : f (f a b) c = f a (f b c):=h.as a b c ha hb hc
  rw [e, ec, h.u1 c hc, h.u2 a ha] at h1
  rw [← h1]; exact ec
noncomputable def Vy (n : Nat) : List Int -> Option (List Nat)
  | []=>some []
  | .ofNat k :: r=>if k < n then (Vy n r).map (k :: ·) else none
  | .negSucc _ :: _=>none
noncomputable def VH (n : Nat) : List (List Int) -> Option (List (List Nat))
  | []=>some []
  | r :: t=>if r.length = n then match Vy n r, VH n t with
    | some a, some b=>some (a :: b)
    | _, _=>none
    else none
noncomputable def at2 (T : List (List Nat)) (a b : Nat) : Nat:=(T.getD a []).getD b 99
theorem Vb : ∀ {n : Nat} {r : List Int} {l : List Nat}, Vy n r = some l -> r = l.map (fun (k : Nat)=>(k : Int)) /\ ∀ x ∈ l, x < n
  | n, [], l, h=>by cases h; exact ⟨rfl, fun x hx=>by cases hx⟩
  | n, .ofNat k :: r, l, h=>by
    unfold Vy at h
    split at h
    . cases e : Vy n r with
      | none=>rw [e] at h; cases h
      | some l'=>
        rw [e] at h
        cases h
        obtain ⟨h1, h2⟩:=Vb e
        refine ⟨by rw [List.map_cons, ← h1]; rfl, fun x hx=>?_⟩
        rcases List.mem_cons.mp hx with rfl | hx
        . assumption
        . exact h2 x hx
    . cases h
  | n, .negSucc k :: r, l, h=>by cases h
theorem J9 : ∀ {n : Nat} {G : List (List Int)} {T : List (List Nat)}, VH n G = some T -> G = T.map (fun row=>row.map fun (k : Nat)=>(k : Int)) /\ ∀ row ∈ T, row.length = n /\ ∀ x ∈ row, x < n
  | n, [], T, h=>by cases h; exact ⟨rfl, fun x hx=>by cases hx⟩
  | n, r :: G, T, h=>by
    unfold VH at h
    split at h
    . cases e1 : Vy n r with
      | none=>rw [e1] at h; cases h
      | some l=>
        cases e2 : VH n G with
        | none=>rw [e1, e2] at h; cases h
        | some T'=>
          rw [e1, e2] at h
          cases h
          obtain ⟨h1, h2⟩:=Vb e1
          obtain ⟨h3, h4⟩:=J9 e2
          refine ⟨by rw [List.map_cons, ← h1, ← h3], fun row hrow=>?_⟩
          rcases List.mem_cons.mp hrow with rfl | hrow
          . have hl : r.length = n := by assumption
            rw [h1, List.length_map] at hl
            exact ⟨hl, h2⟩
          . exact h4 row hrow
    . cases h
end My
namespace My
open PySem L2
section
variable {n : Nat} {g : Nat -> Nat -> Nat} {D : List Int}
theorem KE (h24 : n <= 24) (h0 : 0 < n) (hg : ∀ a b, a < n -> b < n -> g a b < n) : YG (XN n g) = .ok true:=by
  obtain ⟨m, u, e⟩:=Fr h24 hg
  have e2:=Dr h24 h0 hg u
  unfold YG
  simp only [Res.okb]
  rw [Y6 (h:=fun a=>a) (sz (by rw [Xw]; omega)) fun a _=>rfl, Res.okb]
  simp only [List.map_id', Zy e, Zy e2, Res.okb]
  rw [show orR (Res.ok !true) (Res.ok !decide True) = .ok false from rfl, Res.okb, if_neg Bool.false_ne_true, XD (Dx fun r hr=>?_)]
  . rfl
  . obtain ⟨v, _, rfl⟩ := List.mem_map.mp hr
    unfold cls
    rw [List.length_map]
    refine Nat.le_trans (List.length_filter_le ..) ?_
    rw [List.length_range]; omega
theorem Bn (m : Mem n g D) : Q4 (XN n g) D = .ok (Sum.inr ("yes", BP g D)):=by
  unfold Q4
  simp only [Res.okb]
  rw [Hb m]
  rfl
theorem B9 (c : Clr n D) (hb : D = [] ∨ Gap g D) : Q4 (XN n g) D = .ok (Sum.inl ("no", true)):=by
  unfold Q4
  simp only [Res.okb]
  rw [Hi c hb]
  unfold Res.tryC
  simp only []
  rw [XD (by decide +kernel)]
  rfl
theorem Ce (h24 : n <= 24) (c : Clr n D) : ZC (XN n g) D = .ok true:=by
  unfold ZC
  simp only [Res.okb]
  rw [Y6 (h:=fun a=>a) (sz (by rw [Xw]; omega)) fun a _=>rfl, Res.okb]
  simp only [List.map_id']
  rcases HR (g:=g) c with m | hb
  . simp only [Zy (Bn m), Zy ((BD c).1 m), Res.okb]
    rw [show orR (Res.ok !decide True) (Res.ok !decide True) = .ok false from rfl, Res.okb, if_neg Bool.false_ne_true]
    rw [if_neg (show ¬ (some (BP g D)).isNone = true by simp), show IS (some (BP g D)) = .ok (BP g D) from rfl]
    simp only [Res.okb]
    rw [if_neg (by simp), show getR (Sum.inr (Str.ofString "yes", BP g D) : (Str × Bool) ⊕ (Str × List (List Int))) = .ok (Str.ofString "yes", BP g D) from rfl, Res.okb, XD (Dx fun r hr=>?_)]
    . rfl
    . obtain ⟨x, _, rfl⟩ := List.mem_map.mp hr
      rw [List.length_map]; exact c.sz
  . simp only [Zy (B9 c hb), Zy ((BD c).2 hb), Res.okb]
    rw [show orR (Res.ok !decide True) (Res.ok !decide True) = .ok false from rfl, Res.okb, if_neg Bool.false_ne_true]
    rfl
end
theorem G3 {n : Nat} {G : List (List Int)} {T : List (List Nat)} (h : VH n G = some T) (hl : G.length = n) : (∀ a b, a < n -> b < n -> at2 T a b < n) /\ G = XN n (at2 T):=by
  obtain ⟨h1, h2⟩:=J9 h
  have hTl : T.length = n:=by rw [← hl, h1, List.length_map]
  have hrow : ∀ a, a < n -> ∃ row, T.getD a [] = row /\ T[a]? = some row /\ row.length = n /\ ∀ x ∈ row, x < n:=fun a ha=>by
    have hm : T[a]? = some (T[a]'(by omega)):=by rw [List.getElem?_eq_getElem (by omega)]
    exact ⟨T[a]'(by omega), by rw [List.getD_eq_getElem?_getD, hm]; rfl, hm, h2 _ (List.getElem_mem _)⟩
  have hat : ∀ a b, a < n -> b < n -> ∃ row, T[a]? = some row /\ row[b]? = some (at2 T a b) /\ at2 T a b < n:=fun a b ha hb=>by
    obtain ⟨row, r1, r2, r3, r4⟩:=hrow a ha
    have hm : row[b]? = some (row[b]'(by omega)):=by rw [List.getElem?_eq_getElem (by omega)]
    have e2 : at2 T a b = row[b]'(by omega):=by unfold at2; rw [r1, List.getD_eq_getElem?_getD, hm]; rfl
    rw [e2]
    exact ⟨row, r2, hm, r4 _ (List.getElem_mem _)⟩
  refine ⟨fun a b ha hb=>(hat a b ha hb).choose_spec.2.2, ?_⟩
  rw [h1]
  apply List.ext_getElem?
  intro a
  by_cases ha : a < n
  . rw [ZX ha]
    obtain ⟨row, r1, r2, r3, r4⟩:=hrow a ha
    rw [List.getElem?_map, r2]
    show some _ = some _
    congr 1
    apply List.ext_getElem?
    intro b
    by_cases hb : b < n
    . rw [YK hb]
      obtain ⟨row', q1, q2, q3⟩:=hat a b ha hb
      rw [r2] at q1
      cases q1
      rw [List.getElem?_map, q2]; rfl
    . rw [List.getElem?_eq_none (by simp; omega), List.getElem?_eq_none (by rw [XZ]; omega)]
  . rw [List.getElem?_eq_none (by simp; omega), List.getElem?_eq_none (by rw [Xw]; omega)]
noncomputable def okS (n : Nat) (m : Res (List (List Int))) : Bool:=match m with
  | .ok G=>decide (G.length = n) && (VH n G).isSome
  | _=>false
theorem Li : ∀ a ∈ ([6, 7, 8, 9, 10, 11, 12, 13, 14, 15, 16, 17, 18, 19, 20, 21, 22, 23, 24] : List Nat), okS a (YE (a : Int)) = true:=by decide +kernel
theorem KQ {n : Nat} (h : 5 < n) (h24 : n <= 24) : Ok (YE (n : Int)) fun t=>∃ f, (∀ a b, a < n -> b < n -> f a b < n) /\ t = XN n f:=by
  have:=Li n (by simp only [List.mem_cons, List.not_mem_nil, or_false]; omega)
  cases e : YE (n : Int) with
  | bad=>rw [e] at this; cases this
  | err x=>rw [e] at this; cases this
  | ok G=>
    rw [e] at this
    unfold okS at this
    simp only [Bool.and_eq_true, decide_eq_true_eq] at this
    obtain ⟨T, hT⟩:=Option.isSome_iff_exists.mp this.2
    obtain ⟨h1, h2⟩:=G3 hT this.1
    exact ⟨G, rfl, _, h1, h2⟩
theorem DV {α : Type} {as : List α} {i : Nat} {a : α} (h : i < as.length) : Ok (ZU as (i : Int) a) fun b=>b.length = as.length:=⟨_, JI h, List.length_set⟩
theorem BM {α : Type} {as : List α} {i : Nat} (h : i < as.length) : Ok (atR as (i : Int)) fun _=>True:=⟨_, YN (List.getElem?_eq_getElem h), trivial⟩
theorem Bc {n : Nat} {g : Nat -> Nat -> Nat} {some : List Int} (h24 : n <= 24) (hg : ∀ a b, a < n -> b < n -> g a b < n) (hs : ∀ x ∈ some, ∃ i : Nat, i < n /\ x = i) : Ok (QH (XN n g) some) fun D=>Clr n D:=by
  unfold QH
  simp only [Res.okb]
  rw [XD (sz (by simp)), Res.okb, Xw, JT (by omega)]
  have hrep : Ok (GU [false] (n : Int)) fun b=>b.length = n:=by
    unfold GU
    rw [XD ⟨by omega, by omega, sz (by simp; omega)⟩]
    exact ⟨_, rfl, by simp⟩
  refine Ok.bind hrep fun b0 hb0=>?_
  refine Ok.bind (Ok.forN (fun _ b=>b.length = n) hb0 fun i x b hx hb=>?_) fun b1 hb1=>?_
  . obtain ⟨k, hk, rfl⟩ := hs x (List.mem_of_getElem? hx)
    refine Ok.bind (DV (by rw [hb]; exact hk)) fun b' hb'=>⟨_, rfl, hb'.trans hb⟩
  simp only [Res.okb]
  refine Ok.bind (Ok.forN (fun _ b=>b.length = n) hb1 fun i x b hx hb=>?_) fun b2 hb2=>?_
  . refine Ok.bind (Ok.forN (fun _ b => b.length = n) hb fun i x b hx hb => ?_) fun b' hb' => ⟨_, rfl, hb'⟩
    obtain ⟨a, ha, rfl⟩:=YS (List.mem_of_getElem? hx)
    refine Ok.bind (Ok.forN (fun _ b=>b.length = n) hb fun i x b hx hb=>?_) fun b' hb'=>⟨_, rfl, hb'⟩
    obtain ⟨c, hc, rfl⟩:=YS (List.mem_of_getElem? hx)
    obtain ⟨y, ey, _⟩:=BM (as:=b) (i:=a) (by rw [hb]; exact ha)
    obtain ⟨z, ez, _⟩:=BM (as:=b) (i:=c) (by rw [hb]; exact hc)
    rw [ey, ez, QF, Res.okb]
    refine Ok.bind (R:=fun b : List Bool=>b.length = n) ?_ fun b' hb'=>⟨_, rfl, hb'⟩
    refine Ok.ite (fun _=>?_) fun _=>⟨_, rfl, hb⟩
    rw [QY ha, Res.okb, Jq hc, Res.okb]
    exact Ok.bind (DV (by rw [hb]; exact hg a c ha hc)) fun b' hb'=>⟨_, rfl, hb'.trans hb⟩
  . have hq : ∀ x ∈ (List.range n).map (fun (i : Nat)=>(i : Int)), atR b2 x = .ok (b2.getD x.toNat false):=fun x hx=>by
      obtain ⟨i, hi, rfl⟩:=YS hx
      rw [YN (List.getElem?_eq_getElem (by rw [hb2]; exact hi))]
      show _ = Res.ok (b2.getD i false)
      simp [hb2, hi]
    rw [Jj (q:=fun x=>b2.getD x.toNat false) (h:=fun x=>x) (sz (by simp; omega)) hq (fun _ _=>rfl), List.map_id', List.filter_map]
    exact ⟨_, rfl, Dj (by omega) _⟩
theorem F6 {n : Nat} (hn : n <= 1000) : Clr n (YL 0 (n : Int)):=by
  have:=Dj hn fun _=>true
  rw [show (List.range n).filter (fun _=>true) = List.range n from List.filter_eq_self.mpr fun _ _=>rfl] at this
  rw [QJ, J1]
  exact this
theorem EH {α : Type} (as : List α) (lo hi : Option Int) : (KU as lo hi).length <= as.length:=by
  unfold KU
  refine Nat.le_trans (List.length_take_le' _ _) ?_
  rw [List.length_drop]
  omega
theorem Bv (ns : List Int) (_ : ns.length <= 63) : Kj ns = .ok true:=by
  unfold Kj
  simp only [Res.okb]
  rw [XD (sz (by simp)), Res.okb, XD (sz (by simp)), Res.okb, XD (sz (by simp)), Res.okb, XD (sz (by simp)), Res.okb]
  rw [show GU [(24 : Int)] 3 = .ok (List.replicate 3 24) from rfl, Res.okb, show DP [(4 : Int), 4] (List.replicate 3 24) = .ok ([(4 : Int), 4] ++ List.replicate 3 24) from XD (sz (by simp)), Res.okb,
    show GU [(2 : Int)] 24 = .ok (List.replicate 24 2) from rfl, Res.okb, show DP ([(4 : Int), 4] ++ List.replicate 3 24) (List.replicate 24 2) = .ok (([(4 : Int), 4] ++ List.replicate 3 24) ++ List.replicate 24 2) from XD (sz (by simp)), Res.okb, Res.okb,
    show DP (([(4 : Int), 4] ++ List.replicate 3 24) ++ List.replicate 24 2) [8] = .ok ((([(4 : Int), 4] ++ List.replicate 3 24) ++ List.replicate 24 2) ++ [8]) from XD (sz (by simp)), Res.okb]
  apply Ok.eq
  refine Ok.bind (Ok.noE (Fv ns (by decide) _ (by simp) fun x hx=>?_)) fun r hr=>?_
  . have : x = 4 ∨ x = 24 ∨ x = 2 ∨ x = 8:=by
      simp only [List.mem_append, List.mem_cons, List.not_mem_nil, or_false, List.mem_replicate] at hx
      omega
    rcases this with rfl | rfl | rfl | rfl <;> exact ⟨by decide, by decide⟩
  obtain ⟨hl, hv⟩:=hr
  have hl' : r.length = 30:=by rw [hl]; simp
  have get : ∀ i, i < 30 -> r[i]? = some (r[i]!):=fun i hi=>by rw [List.getElem?_eq_getElem (by omega), getElem!_pos r i (by omega)]
  have s29:=hv 29 _ 8 (get 29 (by decide)) rfl
  clear hl hv
  rw [XD (sz (by simp)), Res.okb, show atR r 29 = .ok (r[29]!) from YN (get 29 (by decide)), Res.okb, Gs (by decide) (by decide), Res.okb]
  have hmost : ∃ most : Nat, (0 < most /\ most <= 24) /\ atR [(10 : Int), 24] (r[29]! / 7) = .ok (most : Int):=by
    have : r[29]! / 7 = 0 ∨ r[29]! / 7 = 1:=by omega
    rcases this with h | h <;> rw [h]
    . exact ⟨10, ⟨by decide, by decide⟩, rfl⟩
    . exact ⟨24, ⟨by decide, by decide⟩, rfl⟩
  obtain ⟨most, ⟨hm0, hm24⟩, em⟩:=hmost
  rw [em, Res.okb]
  refine Ok.bind (Ok.noE (Ct ns (by decide) hm0 hm24)) fun t ht=>?_
  obtain ⟨n, f, h0, hnm, gd, rfl⟩:=ht
  have h24 : n <= 24:=Nat.le_trans hnm hm24
  have hn0 : (0 : Int) < (n : Int):=Int.natCast_pos.mpr h0
  rw [Xw, XD (sz (by simp)), Res.okb, show GU [(24 : Int)] 24 = .ok (List.replicate 24 24) from rfl, Res.okb, show DP [(6 : Int), 2] (List.replicate 24 24) = .ok ([(6 : Int), 2] ++ List.replicate 24 24) from XD (sz (by simp)), Res.okb]
  refine Ok.bind (Ok.noE (Fv ns (by decide) _ (by simp) fun x hx=>?_)) fun q hq=>?_
  . have : x = 6 ∨ x = 2 ∨ x = 24:=by
      simp only [List.mem_append, List.mem_cons, List.not_mem_nil, or_false, List.mem_replicate] at hx
      omega
    rcases this with rfl | rfl | rfl <;> exact ⟨by decide, by decide⟩
  have hq' : q.length = 26:=by rw [hq.1]; simp
  clear hq
  have getq : ∀ i, i < 26 -> q[i]? = some (q[i]!):=fun i hi=>by rw [List.getElem?_eq_getElem (by omega), getElem!_pos q i (by omega)]
  rw [show atR q 0 = .ok (q[0]!) from YN (getq 0 (by decide)), show atR q 1 = .ok (q[1]!) from YN (getq 1 (by decide)), Res.okb, QF, Res.okb]
  refine Ok.bind (R:=fun t=>∃ g, (∀ a b, a < n -> b < n -> g a b < n) /\ t = XN n g) ?_ fun t ht=>?_
  . refine Ok.ite (fun hc => ?_) fun _ => ⟨_, rfl, f, gd.lt, rfl⟩
    have h5 : 5 < n:=by
      have:=of_decide_eq_true (Bool.and_eq_true_iff.mp hc).2
      omega
    refine Ok.bind (Ok.noE (KQ h5 h24)) fun t ht=>?_
    obtain ⟨f2, hf2, rfl⟩:=ht
    refine Ok.bind (R:=fun t=>∃ g, (∀ a b, a < n -> b < n -> g a b < n) /\ t = XN n g) ?_ fun t ht=>⟨_, rfl, ht⟩
    rw [Res.okb, Res.okb]
    refine Ok.ite (fun _=>?_) fun _=>⟨_, rfl, f2, hf2, rfl⟩
    rw [show KU q (some 2) none = q.drop 2 from Gq q (k:=2) (by omega)]
    refine Ok.bind (R:=fun t=>∃ g, (∀ a b, a < n -> b < n -> g a b < n) /\ t = XN n g) (Ok.bind (Ok.noE (Vn (by omega) (by rw [List.length_drop]; omega))) fun sp hsp=>?_) fun t ht=>⟨_, rfl, ht⟩
    obtain ⟨p, p', hp⟩:=hsp
    exact Ok.noE ⟨_, UZ (by omega) hf2 hp, _, fun a b ha hb=>hp.1.lt _ (hf2 _ _ (hp.1.qlt a ha) (hp.1.qlt b hb)), rfl⟩
  obtain ⟨g, hg, rfl⟩:=ht
  rw [show atR r 1 = .ok (r[1]!) from YN (get 1 (by decide)), show atR r 0 = .ok (r[0]!) from YN (get 0 (by decide))]
  simp only [Res.okb]
  rw [Y6 (h:=fun x=>x % (n : Int)) (sz (Nat.le_trans (EH ..) (by omega))) fun x _=>YD hn0, Res.okb]
  refine Ok.bind (Ok.noE (Bc h24 hg fun x hx=>?_)) fun D hD=>?_
  . obtain ⟨y, _, rfl⟩ := List.mem_map.mp hx
    have h1:=Int.emod_nonneg y (Int.ne_of_gt hn0)
    have h2:=Int.emod_lt_of_pos y hn0
    exact ⟨(y % (n : Int)).toNat, by omega, (Int.toNat_of_nonneg h1).symm⟩
  refine Ok.bind (R:=fun D=>Clr n D) ?_ fun D hD=>?_
  . refine Ok.ite (fun _ => ?_) fun _ => ⟨_, rfl, hD⟩
    rw [XD (by omega), Res.okb]
    exact ⟨_, rfl, F6 (by omega)⟩
  refine Ok.bind (R:=fun D=>Clr n D) ?_ fun D hD=>?_
  . refine Ok.ite (fun _ => ?_) fun _ => ⟨_, rfl, hD⟩
    rw [JT (by omega), Res.okb, Jj (q:=fun x=>decide (r[5 + x.toNat]! = 0)) (h:=fun x=>x) (sz (by simp; omega)) (fun x hx=>?_) (fun _ _=>rfl), Res.okb, List.map_id', List.filter_map]
    . exact ⟨_, rfl, Dj (by omega) _⟩
    . obtain ⟨i, hi, rfl⟩ := YS hx
      have e5 : (5 : Int) + (i : Int) = ((5 + i : Nat) : Int):=by omega
      rw [e5, YN (get (5 + i) (by omega)), Res.okb]
      rfl
  rw [Zy (KE h24 h0 hg), Zy (Ce h24 hD)]
  exact ⟨_, rfl, rfl⟩
end My
namespace My
open PySem L2
noncomputable def top (i : Nat) : Stmt:=PySem.Challenge.pw_plait_k28_parts_and_orbits.main.body.getD i (.Pass ⟨0, 0, 0, 0⟩)
noncomputable abbrev X3 : Stmt:=top 6
noncomputable abbrev ZY : Stmt:=top 7
noncomputable abbrev YW : Stmt:=top 8
noncomputable abbrev YY : Stmt:=top 9
noncomputable abbrev XO : Stmt:=top 10
noncomputable abbrev Q3 : Stmt:=top 12
noncomputable abbrev Ul : Stmt:=top 13
noncomputable abbrev U5 : Stmt:=top 14
noncomputable abbrev YM : Stmt:=top 15
noncomputable abbrev Zj : Stmt:=top 16
noncomputable abbrev Qx : Stmt:=top 17
noncomputable abbrev YJ : Stmt:=top 18
noncomputable abbrev Y0 : Stmt:=top 19
noncomputable abbrev ZW : Stmt:=top 20
noncomputable abbrev Yw : Stmt:=top 21
noncomputable abbrev Yh : Stmt:=top 22
noncomputable abbrev ZM : Stmt:=top 23
noncomputable abbrev YZ : Stmt:=top 24
noncomputable abbrev UM : Stmt:=top 25
noncomputable abbrev QX : Stmt:=top 26
noncomputable abbrev Y2 : Stmt:=top 27
noncomputable abbrev Ym : Stmt:=top 28
noncomputable abbrev Yl : Stmt:=top 29
noncomputable abbrev JA : Stmt:=top 30
theorem Ku {X : Cx} : PE X (.List [.List [.Constant (.int 0) 0 ⟨81, 17, 81, 18⟩, .Constant (.int 3) 0 ⟨81, 20, 81, 21⟩, .Constant (.int 1) 0 ⟨81, 23, 81, 24⟩, .Constant (.int 2) 0 ⟨81, 26, 81, 27⟩] ⟨81, 16, 81, 28⟩, .List [.Constant (.int 2) 0 ⟨81, 31, 81, 32⟩, .Constant (.int 1) 0 ⟨81, 34, 81, 35⟩, .Constant (.int 3) 0 ⟨81, 37, 81, 38⟩, .Constant (.int 0) 0 ⟨81, 40, 81, 41⟩] ⟨81, 30, 81, 42⟩, .List [.Constant (.int 3) 0 ⟨81, 45, 81, 46⟩, .Constant (.int 0) 0 ⟨81, 48, 81, 49⟩, .Constant (.int 2) 0 ⟨81, 51, 81, 52⟩, .Constant (.int 1) 0 ⟨81, 54, 81, 55⟩] ⟨81, 44, 81, 56⟩, .List [.Constant (.int 1) 0 ⟨81, 59, 81, 60⟩, .Constant (.int 2) 0 ⟨81, 62, 81, 63⟩, .Constant (.int 0) 0 ⟨81, 65, 81, 66⟩, .Constant (.int 3) 0 ⟨81, 68, 81, 69⟩] ⟨81, 58, 81, 70⟩] ⟨81, 15, 81, 71⟩) (Cn (XA (Cn (XA (tC (.int 0)) (XA (tC (.int 3)) (XA (tC (.int 1)) (XA (tC (.int 2)) ZQ))))) (XA (Cn (XA (tC (.int 2)) (XA (tC (.int 1)) (XA (tC (.int 3)) (XA (tC (.int 0)) ZQ))))) (XA (Cn (XA (tC (.int 3)) (XA (tC (.int 0)) (XA (tC (.int 2)) (XA (tC (.int 1)) ZQ))))) (XA (Cn (XA (tC (.int 1)) (XA (tC (.int 2)) (XA (tC (.int 0)) (XA (tC (.int 3)) ZQ))))) ZQ))))):=by
  refine Yn ?_
  refine VN ?_ ?_
  . exact Yn (Xd Xi (Xd Xi (Xd Xi (Xd Xi Xg))))
  refine VN ?_ ?_
  . exact Yn (Xd Xi (Xd Xi (Xd Xi (Xd Xi Xg))))
  refine VN ?_ ?_
  . exact Yn (Xd Xi (Xd Xi (Xd Xi (Xd Xi Xg))))
  refine VN ?_ ?_
  . exact Yn (Xd Xi (Xd Xi (Xd Xi (Xd Xi Xg))))
  exact Xg
noncomputable def CD : Scope:={ kind:=PySem.ScopeKind.function, names:=[ (PySem.Str.ofString ".0", PySem.NameKind.local), (PySem.Str.ofString "a", PySem.NameKind.cell), (PySem.Str.ofString "members", PySem.NameKind.free), (PySem.Str.ofString "places", PySem.NameKind.free), (PySem.Str.ofString "table", PySem.NameKind.free)], isGenerator:=false, isCoroutine:=false, more:=[] : PySem.Scope }
structure Blt (mg : Str -> Option Value) : Prop where
  b_abs : mg "abs" = none
  b_bool : mg "bool" = none
  b_dict : mg "dict" = none
  b_enumerate : mg "enumerate" = none
  b_int : mg "int" = none
  b_isinstance : mg "isinstance" = none
  b_len : mg "len" = none
  b_list : mg "list" = none
  b_min : mg "min" = none
  b_range : mg "range" = none
  b_set : mg "set" = none
  b_sorted : mg "sorted" = none
section
variable {P : Program} {w : World} {K : PySem.W.Frag} {mg : Str -> Option Value} {base : Heap}
theorem Zs : FnScope ["table", "known", "a", "b"] ["table", "known"] (Xh X3):=⟨rfl, rfl, rfl, by decide +kernel, rfl, by decide +kernel, by decide +kernel⟩
set_option maxHeartbeats 4000000 in
theorem Vf (D : Def K mg "step_beyond" X3 ["table", "known"])  (Y : Ecs XR K mg) (Z : Blt mg) : Fn P w K mg base 1 "step_beyond" ["table", "known"] (sp2 (rV (rV Xc)) (rDf Xc) (oF (Gh (rP3 Xc Xc Xc))) X5 K):=by
  refine Zf D Zs (fun vs H Q E h=>?_) (fun f cdv A outer s H vs Q E hr h=>?_)
  . obtain ⟨v_0, v_1, a_0, a_1, b, rfl, _⟩:=h; rfl
  obtain ⟨v_0, v_1, a_0, a_1, b, rfl, h_0, h_1, hm, q⟩:=h
  have hu:=hu8 hr
  have hu1:=Y1 hr
  refine ⟨_, (Xb (Yg PassesOwn.never rfl (Fo (pv 1)) (Xr (i:=2) Zs.nd rfl (Or.inl rfl))
      (Xb (Yg PassesOwn.never rfl (Fo (pv 1)) (Xr (i:=3) Zs.nd rfl (Or.inl rfl))
        (Xb (Yx (HP (DZ hu1 (XU (Xk K rfl) (XU (Xk K rfl) (pv 0) (pv 2) (fun _ _=>rfl)) (pv 3) (fun _ _=>rfl)) (pv 1)))
          (Xb (Xz (JQ (Xd (XU (Xk K rfl) (XU (Xk K rfl) (pv 0) (pv 2) (fun _ _=>rfl)) (pv 3) (fun _ _=>rfl)) (Xd (pv 2) (Xd (pv 3) Xg)))))
          Xf)
          Xf)
        Xf))
      Xf))
    (Xb (Xz UV)
    Xf)), ?_⟩
  refine Ze (S:=(SC.add (SC.add SC.nil K (rV (rV Xc)) v_0 a_0) K (rDf Xc) v_1 a_1)) (σ:=[some v_0, some v_1, none, none]) 0 ?_ (SC.i (SC.i SC.t h_0) h_1) hm q rfl
  unfold X5
  exact (Kx (K:=K) (J:=({ oo:=fun x2=>[], ss:=fun x2=>[some v_0, some v_1, x2.1, x2.2], sc:=fun g3 x2=>(SC.add (SC.add SC.nil K (rV (rV Xc)) v_0 a_0) K (rDf Xc) v_1 a_1) } : Jn (Unit) (Option V × Option V))) (fun _=>tg1 2) ((none), (none)) () (Vp (Xn (r:=(rDf Xc)) 1 rfl (fun _ s=>(SC.r s)))) rfl rfl (fun _ s=>(SC.i (SC.i SC.t (SC.r (SC.l s))) (SC.r s))) (fun g4 x5 a6 v7=>(Gw (K:=K) (J:=({ oo:=fun x9=>[], ss:=fun x9=>[some v_0, some v_1, some v7, x9], sc:=fun g10 x9=>(SC.add (SC.add (SC.add SC.nil K (rV (rV Xc)) v_0 a_0) K (rDf Xc) v_1 a_1) K Xc v7 a6) } : Jn (Unit) (Option V))) (fun _=>tg1 3) ((x5.2)) () (Vp (Xn (r:=(rDf Xc)) 1 rfl (fun _ s=>(SC.r (SC.l s))))) rfl rfl (fun _ s=>(SC.i (SC.i (SC.i SC.t (SC.r (SC.l (SC.l s)))) (SC.r (SC.l s))) (SC.r s))) (fun g11 x12 a13 v14=>(KO (Q9 (K:=K) (Ca (XF (XF (Xa (r:=(rV (rV Xc))) 0 rfl (fun _ s=>(SC.r (SC.l (SC.l (SC.l s)))))) (Xa (r:=Xc) 2 rfl (fun _ s=>(SC.r (SC.l s))))) (Xa (r:=Xc) 3 rfl (fun _ s=>(SC.r s)))) (Xa (r:=(rDf Xc)) 1 rfl (fun _ s=>(SC.r (SC.l (SC.l s))))))) (XB (By Lq (EvS.ev (Bh (EvB.sh (XF (XF (Xa (r:=(rV (rV Xc))) 0 rfl (fun _ s=>(SC.r (SC.l (SC.l (SC.l s)))))) (Xa (r:=Xc) 2 rfl (fun _ s=>(SC.r (SC.l s))))) (Xa (r:=Xc) 3 rfl (fun _ s=>(SC.r s))))) (Xn (r:=Xc) 2 rfl (fun _ s=>(SC.r (SC.l s)))) (Xn (r:=Xc) 3 rfl (fun _ s=>(SC.r s))))))) (Uw (XL (J:=_) ((some v14)) () rfl rfl (fun _ s=>(SC.i (SC.i (SC.i SC.t (SC.r (SC.l (SC.l (SC.l s))))) (SC.r (SC.l (SC.l s)))) (SC.r (SC.l s)))))))) fun g32 x33=>(Uw (XL (J:=_) ((some v7), (x33)) () rfl rfl (fun _ s=>(SC.i (SC.i SC.t (SC.r (SC.l (SC.l s)))) (SC.r (SC.l s)))))))) fun g36 x37=>(XB E7))
theorem DW : FnScope ["table", "members", "places"] ["table", "members"] (Xh ZY):=⟨rfl, rfl, rfl, by decide +kernel, rfl, by decide +kernel, by decide +kernel⟩
set_option maxHeartbeats 4000000 in
theorem E6 (D : Def K mg "part" ZY ["table", "members"]) (g_step_beyond : Fn P w K mg base 1 "step_beyond" ["table", "known"] (sp2 (rV (rV Xc)) (rDf Xc) (oF (Gh (rP3 Xc Xc Xc))) X5 K)) (Y : Ecs XR K mg) (Z : Blt mg) : FnX P w K mg base 2 "part" ["table", "members"] (IV mg (rV (rV Xc)) (rV Xc) (oL (oL (oF Xc))) QU K):=by
  refine Hz D DW (fun vs H Q E h=>?_) (fun f cdv A outer s H vs Q E hr h=>?_)
  . obtain ⟨v_0, v_1, a_0, a_1, rfl, _⟩:=h; rfl
  obtain ⟨v_0, v_1, a_0, a_1, rfl, h_0, h_1, hz⟩:=h
  obtain ⟨C_NotClosed, h_NotClosed, q_NotClosed⟩:=Y.adr "NotClosed" (.tail _ (.tail _ (.head _)))
  replace q_NotClosed:=q_NotClosed (by decide)
  have hu:=hu8 hr
  have hu1:=Y1 hr
  refine ⟨_, (Xb (PS.nox (XJ (i:=2) DW.nd rfl (Or.inr rfl) (Zt (UA K rfl rfl) rfl Z.b_dict PyProof.Rows.boot_dict (Xd (ZG (sc:=(Xh ZY)) (N0:=["table", "members", "places"]) (tns:=["place", "member"]) (caps:=[]) rfl (Kl rfl Z.b_enumerate (pv 1)) (FI (by decide) (by decide)) (fun cl C s H ex E=>⟨Fm K rfl rfl (Z3 (Xr (i:=0) (show List.Nodup (["place", "member"] : List Str) by decide +kernel) rfl (Or.inl rfl)) (Z3 (Xr (i:=1) (show List.Nodup (["place", "member"] : List Str) by decide +kernel) rfl (Or.inl rfl)) Kh)), Za, (JQ (Xd (pv 1) (Xd (pv 0) Xg)))⟩)) Xg))))
    (Xb (Yx (PW.pt (CU (Xq Zz (Xu (Xm K rfl) rfl Z.b_len PySem.boot_len (Xd (pv 1) Xg)) Xi (XE _)) (Gx (Xq Hg (IZ 2 (Yu g_step_beyond hr (by decide) (Xd (pv 0) (Xd (pv 2) Xg)))) UV (XE _)))))
      (Xb (Bu HQ rfl q_NotClosed rfl h_NotClosed (Xd Up Xg))
      Xf)
      Xf)
    (Xb (PS.nox (Xz (GE (sc:=(Xh ZY)) (N0:=["table", "members", "places"]) (tns:=["a"]) (caps:=[(2, "places"), (0, "table"), (1, "members")]) rfl (X2 (K:=K) rfl (pv 1)) (YF (by decide)) (fun cl C s H ex E=>⟨Xr (i:=0) (show List.Nodup (["a", "places", "table", "members"] : List Str) by decide +kernel) rfl (Or.inr rfl) (hf:=Or.inl rfl), Za, (GE (sc:=(Ls CD (Xh ZY))) (N0:=["a", "places", "table", "members"]) (tns:=["b"]) (caps:=[(1, "places"), (2, "table"), (0, "a")]) rfl (X2 (K:=K) rfl (pv 3)) (YF (by decide)) (fun cl C s H ex E=>⟨Xr (i:=0) (show List.Nodup (["b", "places", "table", "a"] : List Str) by decide +kernel) rfl (Or.inl rfl), Za, (E8 hu1 (pv 1) (XU (Xk K rfl) (XU (Xk K rfl) (pv 2) (pv 3) (fun _ _=>rfl)) (pv 0) (fun _ _=>rfl)) (fun _ _=>rfl))⟩))⟩))))
    Xf))), ?_⟩
  refine HH (S:=(SC.add (SC.add SC.nil K (rV (rV Xc)) v_0 a_0) K (rV Xc) v_1 a_1)) (σ:=[some v_0, some v_1, none]) 1 ?_ (SC.i (SC.i SC.t h_0) h_1) hz rfl
  unfold QU
  exact (Yp (K:=K) (o:=(oD Xc)) 2 0 (CW (Ev.ls (Zb (fun _=>tg2 0 1) (JK (Xn (r:=(rV Xc)) 1 rfl (fun _ s=>(SC.r s)))) (fun C6 a7 v8=>(EvS.ev (Ji (Xn (r:=Xc) 1 rfl (fun _ s=>(SC.r s))) (Xn (r:=Xc) 0 rfl (fun _ s=>(SC.r (SC.l s)))))))))) (Nat.le_of_ble_eq_true rfl) fun a1 v2 C3=>(YI (K5 (Xl (K:=K) (Yv (Yd (Xa (r:=(rV Xc)) 1 rfl (fun _ s=>(SC.r (SC.l s))))) (Xe 0))) (Xl (K:=K) (BA (tb:=tC .non) (Ev.toB (Bg (K:=K) (r:=Xc) 2 0 rfl rfl (fun _ s=>(SC.r s)) (fun _=>Kb) (X7 (Xa (r:=(rV (rV Xc))) 0 rfl (fun _ s=>(SC.r (SC.l (SC.l (SC.l s)))))) (Xa (r:=(rDf Xc)) 2 rfl (fun _ s=>(SC.r s))))))))) (Cu h_NotClosed EK) (XB (Zb (fun _=>tg1 0) (XW (Xn (r:=(rV Xc)) 1 rfl (fun _ s=>(SC.r (SC.l s))))) (fun C22 a23 v24=>(Zb (fun _=>tg1 0) (XW (Xn (r:=(rV Xc)) 3 rfl (fun _ s=>(SC.r (SC.l (SC.l s)))))) (fun C26 a27 v28=>(EvS.ev (EvB.sh (Cy (Yt (o:=(oD Xc)) 1 2 rfl rfl (fun _ s=>(SC.r (SC.l (SC.l s))))) (XF (XF (Xa (r:=(rV (rV Xc))) 2 rfl (fun _ s=>(SC.r (SC.l (SC.l (SC.l (SC.l s))))))) (Xa (r:=Xc) 3 rfl (fun _ s=>(SC.r (SC.l s))))) (Xa (r:=Xc) 0 rfl (fun _ s=>(SC.r s))))))))))))))
theorem Jt : FnScope ["leasts", "least"] ["leasts", "least"] (Xh XO):=⟨rfl, rfl, rfl, by decide +kernel, rfl, by decide +kernel, by decide +kernel⟩
set_option maxHeartbeats 4000000 in
theorem JG (D : Def K mg "colours_with" XO ["leasts", "least"])  (Y : Ecs XR K mg) (Z : Blt mg) : Fn P w K mg base 1 "colours_with" ["leasts", "least"] (sp2 (rV Xc) Xc (oL (oF Xc)) Yf K):=by
  refine Zf D Jt (fun vs H Q E h=>?_) (fun f cdv A outer s H vs Q E hr h=>?_)
  . obtain ⟨v_0, v_1, a_0, a_1, b, rfl, _⟩:=h; rfl
  obtain ⟨v_0, v_1, a_0, a_1, b, rfl, h_0, h_1, hm, q⟩:=h
  have hu:=hu8 hr
  have hu1:=Y1 hr
  refine ⟨_, (Xb (Xz (ZG (sc:=(Xh XO)) (N0:=["leasts", "least"]) (tns:=["colour", "found"]) (caps:=[(1, "least")]) rfl (Kl rfl Z.b_enumerate (pv 0)) (FI (by decide) (by decide)) (fun cl C s H ex E=>⟨Fm K rfl rfl (Z3 (Xr (i:=0) (show List.Nodup (["colour", "found", "least"] : List Str) by decide +kernel) rfl (Or.inl rfl)) (Z3 (Xr (i:=1) (show List.Nodup (["colour", "found", "least"] : List Str) by decide +kernel) rfl (Or.inl rfl)) Kh)), (V2 (Xq Zz (pv 1) (pv 2) (XE _))), (pv 0)⟩)))
    Xf), ?_⟩
  refine Ze (S:=(SC.add (SC.add SC.nil K (rV Xc) v_0 a_0) K Xc v_1 a_1)) (σ:=[some v_0, some v_1]) 0 ?_ (SC.i (SC.i SC.t h_0) h_1) hm q rfl
  unfold Yf
  exact (XB (Jc (fun _=>tg2 0 1) (JK (Xn (r:=(rV Xc)) 0 rfl (fun _ s=>(SC.r (SC.l s))))) (fun C2 a3 v4=>(Xl (K:=K) (Yv (Xa (r:=Xc) 1 rfl (fun _ s=>(SC.r s))) (Xa (r:=Xc) 2 rfl (fun _ s=>(SC.r (SC.l (SC.l s)))))))) (fun C2 a3 v4=>(EvS.ev (Xn (r:=Xc) 0 rfl (fun _ s=>(SC.r (SC.l s))))))))
theorem Uo : FnScope ["leasts", "one", "other", "low"] ["leasts", "one", "other"] (Xh YY):=⟨rfl, rfl, rfl, by decide +kernel, rfl, by decide +kernel, by decide +kernel⟩
set_option maxHeartbeats 4000000 in
theorem Dk (D : Def K mg "joined" YY ["leasts", "one", "other"])  (Y : Ecs XR K mg) (Z : Blt mg) : Fn P w K mg base 1 "joined" ["leasts", "one", "other"] (sp3 (rV Xc) Xc Xc (oL (oF Xc)) Y4 K):=by
  refine Zf D Uo (fun vs H Q E h=>?_) (fun f cdv A outer s H vs Q E hr h=>?_)
  . obtain ⟨v_0, v_1, v_2, a_0, a_1, a_2, b, rfl, _⟩:=h; rfl
  obtain ⟨v_0, v_1, v_2, a_0, a_1, a_2, b, rfl, h_0, h_1, h_2, hm, q⟩:=h
  have hu:=hu8 hr
  have hu1:=Y1 hr
  refine ⟨_, (Xb (XJ (i:=3) Uo.nd rfl (Or.inr rfl) (Xu (Uv rfl) rfl Z.b_min PyProof.Rows.boot_min (Xd (pv 1) (Xd (pv 2) Xg))))
    (Xb (Xz (ZG (sc:=(Xh YY)) (N0:=["leasts", "one", "other", "low"]) (tns:=["least"]) (caps:=[(1, "one"), (2, "other"), (3, "low")]) rfl (X2 (K:=K) rfl (pv 0)) (YF (by decide)) (fun cl C s H ex E=>⟨Xr (i:=0) (show List.Nodup (["least", "one", "other", "low"] : List Str) by decide +kernel) rfl (Or.inl rfl), Za, (Bp (Xq (GT K rfl) (pv 0) (JQ (Xd (pv 1) (Xd (pv 2) Xg))) rfl) (pv 3) (pv 0))⟩)))
    Xf)), ?_⟩
  refine Ze (S:=(SC.add (SC.add (SC.add SC.nil K (rV Xc) v_0 a_0) K Xc v_1 a_1) K Xc v_2 a_2)) (σ:=[some v_0, some v_1, some v_2, none]) 0 ?_ (SC.i (SC.i (SC.i SC.t h_0) h_1) h_2) hm q rfl
  unfold Y4
  exact (XY (K:=K) (r:=Xc) 3 (EvB.sh (Fz (Xa (r:=Xc) 1 rfl (fun _ s=>(SC.r (SC.l s)))) (Xa (r:=Xc) 2 rfl (fun _ s=>(SC.r s))))) fun a1 v2=>(XB (Zb (fun _=>tg1 0) (XW (Xn (r:=(rV Xc)) 0 rfl (fun _ s=>(SC.r (SC.l (SC.l (SC.l s))))))) (fun C5 a6 v7=>(Lg (Xl (K:=K) (Es (Xa (r:=Xc) 0 rfl (fun _ s=>(SC.r s))) (ET (Ev.toB (EvS.ev (Ji (Xn (r:=Xc) 1 rfl (fun _ s=>(SC.r (SC.l (SC.l (SC.l s)))))) (Xn (r:=Xc) 2 rfl (fun _ s=>(SC.r (SC.l (SC.l s))))))))))) (EvS.ev (Xn (r:=Xc) 3 rfl (fun _ s=>(SC.r (SC.l s))))) (EvS.ev (Xn (r:=Xc) 0 rfl (fun _ s=>(SC.r s)))))))))
theorem ZB : FnScope ["table", "leasts", "a", "row", "colour"] ["table"] (Xh YW):=⟨rfl, rfl, rfl, by decide +kernel, rfl, by decide +kernel, by decide +kernel⟩
set_option maxHeartbeats 4000000 in
theorem Dg (D : Def K mg "orbits" YW ["table"]) (g_colours_with : Fn P w K mg base 1 "colours_with" ["leasts", "least"] (sp2 (rV Xc) Xc (oL (oF Xc)) Yf K)) (g_joined : Fn P w K mg base 1 "joined" ["leasts", "one", "other"] (sp3 (rV Xc) Xc Xc (oL (oF Xc)) Y4 K)) (Y : Ecs XR K mg) (Z : Blt mg) : Fn P w K mg base 2 "orbits" ["table"] (sp1 (rV (rV Xc)) (oL (oL (oF Xc))) Z5 K):=by
  refine Zf D ZB (fun vs H Q E h=>?_) (fun f cdv A outer s H vs Q E hr h=>?_)
  . obtain ⟨v_0, a_0, b, rfl, _⟩:=h; rfl
  obtain ⟨v_0, a_0, b, rfl, h_0, hm, q⟩:=h
  have hu:=hu8 hr
  have hu1:=Y1 hr
  refine ⟨_, (Xb (XJ (i:=1) ZB.nd rfl (Or.inr rfl) (Zh rfl rfl rfl Z.b_list Z.b_range (Xd (Xu (Xm K rfl) rfl Z.b_len PySem.boot_len (Xd (pv 0) Xg)) Xg)))
    (Xb (Yg PassesOwn.never rfl (Kl rfl Z.b_enumerate (pv 0)) (BT rfl (Z3 (Xr (i:=2) ZB.nd rfl (Or.inl rfl)) (Z3 (Xr (i:=3) ZB.nd rfl (Or.inl rfl)) Kh)))
      (Xb (Yg PassesOwn.never rfl (X2 (K:=K) rfl (pv 3)) (Xr (i:=4) ZB.nd rfl (Or.inl rfl))
        (Xb (XJ (i:=1) ZB.nd rfl (Or.inr rfl) (Yu g_joined hr (by decide) (Xd (pv 1) (Xd (XU (Xk K rfl) (pv 1) (pv 2) (fun _ _=>rfl)) (Xd (XU (Xk K rfl) (pv 1) (pv 4) (fun _ _=>rfl)) Xg)))))
        Xf))
      Xf))
    (Xb (Xz (ZG (sc:=(Xh YW)) (N0:=["table", "leasts", "a", "row", "colour"]) (tns:=["least"]) (caps:=[(1, "leasts")]) rfl (X2 (K:=K) rfl (Xu (JC rfl) rfl Z.b_sorted PyProof.Rows.boot_sorted (Xd (Zt (KM K rfl rfl) rfl Z.b_set PySem.Pv.boot_set (Xd (pv 1) Xg)) Xg))) (YF (by decide)) (fun cl C s H ex E=>⟨Xr (i:=0) (show List.Nodup (["least", "leasts"] : List Str) by decide +kernel) rfl (Or.inl rfl), Za, (Yu g_colours_with hr (by decide) (Xd (pv 1) (Xd (pv 0) Xg)))⟩)))
    Xf))), ?_⟩
  refine Ze (S:=(SC.add SC.nil K (rV (rV Xc)) v_0 a_0)) (σ:=[some v_0, none, none, none, none]) 0 ?_ (SC.i SC.t h_0) hm q rfl
  unfold Z5
  exact (XY (K:=K) (r:=(rV Xc)) 1 (Ev.sh (Zn (Yd (Xa (r:=(rV (rV Xc))) 0 rfl (fun _ s=>(SC.r s)))))) fun a1 v2=>(YR (K:=K) (J:=({ oo:=fun x6=>[], ss:=fun x6=>[some v_0, some x6.2.2.2, x6.1, x6.2.1, x6.2.2.1], sc:=fun g7 x6=>(SC.add (SC.add SC.nil K (rV (rV Xc)) v_0 a_0) K (rV Xc) x6.2.2.2 g7) } : Jn ((List Int)) (Option V × Option V × Option V × V))) (fun _=>tg2 2 3) ((none), (none), (none), v2) (a1) (JK (Xn (r:=(rV (rV Xc))) 0 rfl (fun _ s=>(SC.r (SC.l s))))) rfl rfl (fun _ s=>(SC.i (SC.i SC.t (SC.r (SC.l s))) (SC.r s))) (fun g8 x9 a10 v11=>(YR (K:=K) (J:=({ oo:=fun x12=>[], ss:=fun x12=>[some v_0, some x12.2, some v11.1, some v11.2, x12.1], sc:=fun g13 x12=>(SC.add (SC.add (SC.add (SC.add SC.nil K (rV (rV Xc)) v_0 a_0) K Xc v11.1 a10.1) K (rV Xc) v11.2 a10.2) K (rV Xc) x12.2 g13) } : Jn ((List Int)) (Option V × V))) (fun _=>tg1 4) ((x9.2.2.1), x9.2.2.2) (g8) (XW (Xn (r:=(rV Xc)) 3 rfl (fun _ s=>(SC.r s)))) rfl rfl (fun _ s=>(SC.i (SC.i (SC.i (SC.i SC.t (SC.r (SC.l (SC.l (SC.l s))))) (SC.r (SC.l s))) (SC.r s)) (SC.r (SC.l (SC.l s))))) (fun g14 x15 a16 v17=>(XY (K:=K) (r:=(rV Xc)) 1 (Ev.sh (Z2 (Xa (r:=(rV Xc)) 1 rfl (fun _ s=>(SC.r (SC.l s)))) (XF (Xa (r:=(rV Xc)) 1 rfl (fun _ s=>(SC.r (SC.l s)))) (Xa (r:=Xc) 2 rfl (fun _ s=>(SC.r (SC.l (SC.l (SC.l s))))))) (XF (Xa (r:=(rV Xc)) 1 rfl (fun _ s=>(SC.r (SC.l s)))) (Xa (r:=Xc) 4 rfl (fun _ s=>(SC.r s)))))) fun a18 v19=>(XL (J:=_) ((some v17), v19) (a18) rfl rfl (fun _ s=>(SC.i (SC.i (SC.i (SC.i SC.t (SC.r (SC.l (SC.l (SC.l (SC.l (SC.l s))))))) (SC.r (SC.l (SC.l (SC.l (SC.l s)))))) (SC.r (SC.l (SC.l (SC.l s))))) (SC.r s)))))) fun g28 x29=>(XL (J:=_) ((some v11.1), (some v11.2), (x29.1), x29.2) (g28) rfl rfl (fun _ s=>(SC.i (SC.i SC.t (SC.r (SC.l (SC.l (SC.l s))))) (SC.r s)))))) fun g31 x32=>(XB (Zb (fun _=>tg1 0) (XW (Ev.sh (BB (EvS.ls (Xn (r:=(rV Xc)) 1 rfl (fun _ s=>(SC.r s))))))) (fun C34 a35 v36=>(X7 (Xa (r:=(rV Xc)) 1 rfl (fun _ s=>(SC.r (SC.l s)))) (Xa (r:=Xc) 0 rfl (fun _ s=>(SC.r s)))))))))
theorem VM : FnScope ["_law_script", "_law_place", "_law_seed", "_law_cell_here"] ["_law_script", "_law_place"] (Xh Q3):=⟨rfl, rfl, rfl, by decide +kernel, rfl, by decide +kernel, by decide +kernel⟩
set_option maxHeartbeats 4000000 in
theorem Hc (D : Def K mg "_law_cell" Q3 ["_law_script", "_law_place"])  (Y : Ecs XR K mg) (Z : Blt mg) : Fn P w K mg base 1 "_law_cell" ["_law_script", "_law_place"] (sp2 (rL Xc) Xc (oF Xc) JV K):=by
  refine Zf D VM (fun vs H Q E h=>?_) (fun f cdv A outer s H vs Q E hr h=>?_)
  . obtain ⟨v_0, v_1, a_0, a_1, b, rfl, _⟩:=h; rfl
  obtain ⟨v_0, v_1, a_0, a_1, b, rfl, h_0, h_1, hm, q⟩:=h
  have hu:=hu8 hr
  have hu1:=Y1 hr
  refine ⟨_, (Xb (Yx (Xq G0 (pv 1) (Xu (Xm K rfl) rfl Z.b_len PySem.boot_len (Xd (pv 0) Xg)) (XE _))
      (Xb (Xz (XU (Xk K rfl) (pv 0) (pv 1) (fun _ _=>rfl)))
      Xf)
      Xf)
    (Xb (XJ (i:=2) VM.nd rfl (Or.inl rfl) Xi)
    (Xb (Yg PassesOwn.never rfl (X2 (K:=K) rfl (Jg (Jf K rfl) (pv 0) Km (JX Xi))) (Xr (i:=3) VM.nd rfl (Or.inl rfl))
      (Xb (XJ (i:=2) VM.nd rfl (Or.inl rfl) (Xt Yr (Xt Yy (Xt Yy (Xt ZO (pv 2) Xi) (Xt Yr (pv 3) Xi)) Xi) Xi))
      Xf))
    (Xb (Xz (Xt Yr (Xt Yy (pv 2) (Xt ZO Xi (pv 1))) Xi))
    Xf)))), ?_⟩
  refine Ze (S:=(SC.add (SC.add SC.nil K (rL Xc) v_0 a_0) K Xc v_1 a_1)) (σ:=[some v_0, some v_1, none, none]) 0 ?_ (SC.i (SC.i SC.t h_0) h_1) hm q rfl
  unfold JV
  exact (YI (Xl (K:=K) (Vr (Xa (r:=Xc) 1 rfl (fun _ s=>(SC.r s))) (Cp (Xa (r:=(rL Xc)) 0 rfl (fun _ s=>(SC.r (SC.l s))))))) (XB (EvS.ev (EvB.sh (EY (Xa (r:=(rL Xc)) 0 rfl (fun _ s=>(SC.r (SC.l s)))) (Xa (r:=Xc) 1 rfl (fun _ s=>(SC.r s))))))) (XY (K:=K) (r:=Xc) 2 (EvB.sh (Xe 5)) fun a7 v8=>(YR (K:=K) (J:=({ oo:=fun x13=>[], ss:=fun x13=>[some v_0, some v_1, some x13.2, x13.1], sc:=fun g14 x13=>(SC.add (SC.add (SC.add SC.nil K (rL Xc) v_0 a_0) K Xc v_1 a_1) K Xc x13.2 g14) } : Jn (Int) (Option V × V))) (fun _=>tg1 3) ((none), v8) (a7) (XW (Ev.sh (Da (Xa (r:=(rL Xc)) 0 rfl (fun _ s=>(SC.r (SC.l (SC.l s))))) Uh (Qw (K:=K) (Xe 63))))) rfl rfl (fun _ s=>(SC.i (SC.i (SC.i SC.t (SC.r (SC.l (SC.l s)))) (SC.r (SC.l s))) (SC.r s))) (fun g15 x16 a17 v18=>(XY (K:=K) (r:=Xc) 2 (EvB.sh (X6 (Yb (Yb (YU (Xa (r:=Xc) 2 rfl (fun _ s=>(SC.r (SC.l s)))) (Xe 48271)) (X6 (Xa (r:=Xc) 3 rfl (fun _ s=>(SC.r s))) (Xe 1000003))) (Xe 1)) (Xe 2147483647))) fun a19 v20=>(XL (J:=_) ((some v18), v20) (a19) rfl rfl (fun _ s=>(SC.i (SC.i (SC.i SC.t (SC.r (SC.l (SC.l (SC.l (SC.l s)))))) (SC.r (SC.l (SC.l (SC.l s))))) (SC.r s)))))) fun g31 x32=>(XB (EvS.ev (EvB.sh (X6 (Yb (Xa (r:=Xc) 2 rfl (fun _ s=>(SC.r s))) (YU (Xe 7919) (Xa (r:=Xc) 1 rfl (fun _ s=>(SC.r (SC.l s)))))) (Xe 1000003))))))))
theorem FU : FnScope ["_law_cell_here", "_law_k", "_law_one", "_law_two"] ["_law_cell_here", "_law_k"] (Xh Ul):=⟨rfl, rfl, rfl, by decide +kernel, rfl, by decide +kernel, by decide +kernel⟩
set_option maxHeartbeats 4000000 in
theorem HK (D : Def K mg "_law_mix" Ul ["_law_cell_here", "_law_k"])  (Y : Ecs XR K mg) (Z : Blt mg) : Fn P w K mg base 1 "_law_mix" ["_law_cell_here", "_law_k"] (sp2 Xc Xc (oF Xc) KR K):=by
  refine Zf D FU (fun vs H Q E h=>?_) (fun f cdv A outer s H vs Q E hr h=>?_)
  . obtain ⟨v_0, v_1, a_0, a_1, b, rfl, _⟩:=h; rfl
  obtain ⟨v_0, v_1, a_0, a_1, b, rfl, h_0, h_1, hm, q⟩:=h
  have hu:=hu8 hr
  have hu1:=Y1 hr
  refine ⟨_, (Xb (XJ (i:=2) FU.nd rfl (Or.inl rfl) (Xt Yr (Xt BN (Xt Yy (Xt Yy (Xt Yr (pv 0) Xi) (Xt ZO Xi (pv 1))) Xi) Xi) Xi))
    (Xb (XJ (i:=3) FU.nd rfl (Or.inl rfl) (Xt Yr (Xt Yy (Xt Yy (Xt ZO (pv 2) Xi) (Xt ZO (Xt ZO Xi (pv 1)) (pv 1))) Xi) Xi))
    (Xb (Xz (Xt Jh (pv 3) Xi))
    Xf))), ?_⟩
  refine Ze (S:=(SC.add (SC.add SC.nil K Xc v_0 a_0) K Xc v_1 a_1)) (σ:=[some v_0, some v_1, none, none]) 0 ?_ (SC.i (SC.i SC.t h_0) h_1) hm q rfl
  unfold KR
  exact (XY (K:=K) (r:=Xc) 2 (EvB.sh (X6 (Dw (Yb (Yb (X6 (Xa (r:=Xc) 0 rfl (fun _ s=>(SC.r (SC.l s)))) (Xe 2147483629)) (YU (Xe 1013) (Xa (r:=Xc) 1 rfl (fun _ s=>(SC.r s))))) (Xe 7919)) (Xe 3)) (Xe 2147483647))) fun a1 v2=>(XY (K:=K) (r:=Xc) 3 (EvB.sh (X6 (Yb (Yb (YU (Xa (r:=Xc) 2 rfl (fun _ s=>(SC.r s))) (Xe 40699)) (YU (YU (Xe 3793) (Xa (r:=Xc) 1 rfl (fun _ s=>(SC.r (SC.l s))))) (Xa (r:=Xc) 1 rfl (fun _ s=>(SC.r (SC.l s)))))) (Xe 11)) (Xe 2147483399))) fun a15 v16=>(XB (EvS.ev (EvB.sh (VY (Xa (r:=Xc) 3 rfl (fun _ s=>(SC.r s))) (Xe 101)))))))
theorem Jv : FnScope ["_law_script", "_law_place", "_law_sizes", "_law_cell_here", "_law_left", "_law_some", "_law_k", "_law_other"] ["_law_script", "_law_place", "_law_sizes"] (Xh U5):=⟨rfl, rfl, rfl, by decide +kernel, rfl, by decide +kernel, by decide +kernel⟩
set_option maxHeartbeats 4000000 in
theorem Ip (D : Def K mg "_law_row" U5 ["_law_script", "_law_place", "_law_sizes"]) (g_cell : Fn P w K mg base 1 "_law_cell" ["_law_script", "_law_place"] (sp2 (rL Xc) Xc (oF Xc) JV K)) (g_mix : Fn P w K mg base 1 "_law_mix" ["_law_cell_here", "_law_k"] (sp2 Xc Xc (oF Xc) KR K)) (Y : Ecs XR K mg) (Z : Blt mg) : Fn P w K mg base 2 "_law_row" ["_law_script", "_law_place", "_law_sizes"] (sp3 (rL Xc) Xc (rV Xc) (oL (oF Xc)) Ud K):=by
  refine Zf D Jv (fun vs H Q E h=>?_) (fun f cdv A outer s H vs Q E hr h=>?_)
  . obtain ⟨v_0, v_1, v_2, a_0, a_1, a_2, b, rfl, _⟩:=h; rfl
  obtain ⟨v_0, v_1, v_2, a_0, a_1, a_2, b, rfl, h_0, h_1, h_2, hm, q⟩:=h
  have hu:=hu8 hr
  have hu1:=Y1 hr
  refine ⟨_, (Xb (XJ (i:=3) Jv.nd rfl (Or.inl rfl) (Yu g_cell hr (by decide) (Xd (pv 0) (Xd (pv 1) Xg))))
    (Xb (XJ (i:=4) Jv.nd rfl (Or.inl rfl) (pv 3))
    (Xb (XJ (i:=5) Jv.nd rfl (Or.inl rfl) (Yn Xg))
    (Xb (Yg PassesOwn.never rfl (XQ rfl Z.b_range (Xd (Xu (Xm K rfl) rfl Z.b_len PySem.boot_len (Xd (pv 2) Xg)) Xg)) (Xr (i:=6) Jv.nd rfl (Or.inl rfl))
      (Xb (Yx (Xq G0 (pv 3) (Xt BN Xi Xi) (XE _))
        (Xb (Zq (Q8 PySem.F.plainAttrs_list PySem.F.slot_list_append PySem.F.type_list_append Yq (pv 5) (Xd (Xt Yr (Yu g_mix hr (by decide) (Xd (pv 3) (Xd (pv 6) Xg))) (XU (Xk K rfl) (pv 2) (pv 6) (fun _ _=>rfl))) Xg)))
        Xf)
        (Xb (Yx (Xq DX (pv 4) Xi (XE _))
          (Xb (Zq (Q8 PySem.F.plainAttrs_list PySem.F.slot_list_append PySem.F.type_list_append Yq (pv 5) (Xd (Xt Yr (pv 4) (XU (Xk K rfl) (pv 2) (pv 6) (fun _ _=>rfl))) Xg)))
          (Xb (XJ (i:=4) Jv.nd rfl (Or.inl rfl) (Xt Jh (pv 4) (XU (Xk K rfl) (pv 2) (pv 6) (fun _ _=>rfl))))
          Xf))
          (Xb (XJ (i:=7) Jv.nd rfl (Or.inl rfl) (Yu g_cell hr (by decide) (Xd (pv 0) (Xd (Xt Yr (Xt Yy (Xt Yy (pv 1) Xi) (pv 6)) Xi) Xg))))
          (Xb (Zq (Q8 PySem.F.plainAttrs_list PySem.F.slot_list_append PySem.F.type_list_append Yq (pv 5) (Xd (Xt Yr (Yu g_mix hr (by decide) (Xd (pv 7) (Xd (pv 6) Xg))) (XU (Xk K rfl) (pv 2) (pv 6) (fun _ _=>rfl))) Xg)))
          Xf)))
        Xf))
      Xf))
    (Xb (Xz (pv 5))
    Xf))))), ?_⟩
  refine Ze (S:=(SC.add (SC.add (SC.add SC.nil K (rL Xc) v_0 a_0) K Xc v_1 a_1) K (rV Xc) v_2 a_2)) (σ:=[some v_0, some v_1, some v_2, none, none, none, none, none]) 1 ?_ (SC.i (SC.i (SC.i SC.t h_0) h_1) h_2) hm q rfl
  unfold Ud
  exact (XY (K:=K) (r:=Xc) 3 (EvB.sh (Ev.toB (X7 (Xa (r:=(rL Xc)) 0 rfl (fun _ s=>(SC.r (SC.l (SC.l s))))) (Xa (r:=Xc) 1 rfl (fun _ s=>(SC.r (SC.l s))))))) fun a1 v2=>(XY (K:=K) (r:=Xc) 4 (Xn (r:=Xc) 3 rfl (fun _ s=>(SC.r s))) fun a6 v7=>(Yp (K:=K) (o:=(oL (oF Xc))) 5 0 (GQ (o:=(oF Xc))) (Nat.le_of_ble_eq_true rfl) fun a8 v9 C10=>(YR (K:=K) (J:=({ oo:=fun x13=>[x13.2.2.2.2], ss:=fun x13=>[some v_0, some v_1, some v_2, some v2, some x13.2.2.1, some x13.2.1, x13.1, x13.2.2.2.1], sc:=fun g14 x13=>(SC.add (SC.addO (SC.add (SC.add (SC.add (SC.add SC.nil K (rL Xc) v_0 a_0) K Xc v_1 a_1) K (rV Xc) v_2 a_2) K Xc v2 a1) K (oL (oF Xc)) x13.2.1 g14.1 x13.2.2.2.2) K Xc x13.2.2.1 g14.2) } : Jn ((List Int) × Int) (Option V × V × V × Option V × List XG))) (fun _=>tg1 6) ((none), v9, v7, (none), C10) (a8, a6) (Xy (Yd (Xa (r:=(rV Xc)) 2 rfl (fun _ s=>(SC.r (SC.l (SC.l (SC.l s)))))))) rfl rfl (fun _ s=>(SC.i (SC.i (SC.i (SC.i (SC.i (SC.i SC.t (SC.r (SC.l (SC.l (SC.l (SC.l (SC.l s))))))) (SC.r (SC.l (SC.l (SC.l (SC.l s)))))) (SC.r (SC.l (SC.l (SC.l s))))) (SC.r (SC.l (SC.l s)))) (SC.r s)) (SC.r (SC.l s)))) (fun g15 x16 a17 v18=>(ZZ (J:=({ oo:=fun x24=>[x24.2.2.2], ss:=fun x24=>[some v_0, some v_1, some v_2, some v2, some x24.2.1, some x24.1, some v18, x24.2.2.1], sc:=fun g25 x24=>(SC.add (SC.addO (SC.add (SC.add (SC.add (SC.add (SC.add SC.nil K (rL Xc) v_0 a_0) K Xc v_1 a_1) K (rV Xc) v_2 a_2) K Xc v2 a1) K Xc v18 a17) K (oL (oF Xc)) x24.1 g25.1 x24.2.2.2) K Xc x24.2.1 g25.2) } : Jn ((List Int) × Int) (V × V × Option V × List XG))) (QZ (Fd:=FNd ({ oo:=fun x24=>[x24.2.2.2], ss:=fun x24=>[some v_0, some v_1, some v_2, some v2, some x24.2.1, some x24.1, some v18, x24.2.2.1], sc:=fun g25 x24=>(SC.add (SC.addO (SC.add (SC.add (SC.add (SC.add (SC.add SC.nil K (rL Xc) v_0 a_0) K Xc v_1 a_1) K (rV Xc) v_2 a_2) K Xc v2 a1) K Xc v18 a17) K (oL (oF Xc)) x24.1 g25.1 x24.2.2.2) K Xc x24.2.1 g25.2) } : Jn ((List Int) × Int) (V × V × Option V × List XG))) (Xl (K:=K) (Vr (Xa (r:=Xc) 3 rfl (fun _ s=>(SC.r (SC.l (SC.l (SC.l s)))))) (Dw (Xe 10) (Xe 18)))) (Js (K:=K) (o:=(oF Xc)) (f:=fun a35=>(Res.ok (a35, g15.2))) 5 0 rfl rfl rfl (fun _ s=>(SC.r (SC.l (SC.l s)))) (EvS.ev (EvB.sh (X6 (Ev.toB (X7 (Xa (r:=Xc) 3 rfl (fun _ s=>(SC.r (SC.l (SC.l (SC.l s)))))) (Xa (r:=Xc) 6 rfl (fun _ s=>(SC.r s))))) (XF (Xa (r:=(rV Xc)) 2 rfl (fun _ s=>(SC.r (SC.l (SC.l (SC.l (SC.l s))))))) (Xa (r:=Xc) 6 rfl (fun _ s=>(SC.r s))))))) fun a33 C34=>(XL (J:=_) (x16.2.1, x16.2.2.1, (x16.2.2.2.1), C34) ((g15.1 ++ [a33]), g15.2) rfl rfl (fun _ s=>(SC.i (SC.i (SC.i (SC.i (SC.i (SC.i (SC.i SC.t (SC.r (SC.l (SC.l (SC.l (SC.l (SC.l (SC.l (SC.l s))))))))) (SC.r (SC.l (SC.l (SC.l (SC.l (SC.l (SC.l s)))))))) (SC.r (SC.l (SC.l (SC.l (SC.l (SC.l s))))))) (SC.r (SC.l (SC.l (SC.l (SC.l s)))))) (SC.r (SC.l s))) (SC.r s)) (SC.r (SC.l (SC.l s))))))) (ZZ (J:=({ oo:=fun x39=>[x39.2.2.2], ss:=fun x39=>[some v_0, some v_1, some v_2, some v2, some x39.1, some x39.2.2.1, some v18, x39.2.1], sc:=fun g40 x39=>(SC.addO (SC.add (SC.add (SC.add (SC.add (SC.add (SC.add SC.nil K (rL Xc) v_0 a_0) K Xc v_1 a_1) K (rV Xc) v_2 a_2) K Xc v2 a1) K Xc v18 a17) K Xc x39.1 g40.1) K (oL (oF Xc)) x39.2.2.1 g40.2 x39.2.2.2) } : Jn (Int × (List Int)) (V × Option V × V × List XG))) (QZ (Fd:=FNd ({ oo:=fun x39=>[x39.2.2.2], ss:=fun x39=>[some v_0, some v_1, some v_2, some v2, some x39.1, some x39.2.2.1, some v18, x39.2.1], sc:=fun g40 x39=>(SC.addO (SC.add (SC.add (SC.add (SC.add (SC.add (SC.add SC.nil K (rL Xc) v_0 a_0) K Xc v_1 a_1) K (rV Xc) v_2 a_2) K Xc v2 a1) K Xc v18 a17) K Xc x39.1 g40.1) K (oL (oF Xc)) x39.2.2.1 g40.2 x39.2.2.2) } : Jn (Int × (List Int)) (V × Option V × V × List XG))) (Xl (K:=K) (UQ (Xa (r:=Xc) 4 rfl (fun _ s=>(SC.r (SC.l s)))) (Xe 0))) (Js (K:=K) (o:=(oF Xc)) (f:=fun a47=>(Res.bind (Res.bind (Res.ok g15.2) fun x52=>(Res.bind (Res.bind (Res.ok a_2) fun x50=>(Res.bind (Res.ok a17) fun x51=>(atR x50 x51))) fun x53=>(EF x52 x53))) fun a48=>(Res.ok (a48, a47)))) 5 0 rfl rfl rfl (fun _ s=>(SC.r (SC.l (SC.l s)))) (EvS.ev (EvB.sh (X6 (Xa (r:=Xc) 4 rfl (fun _ s=>(SC.r (SC.l s)))) (XF (Xa (r:=(rV Xc)) 2 rfl (fun _ s=>(SC.r (SC.l (SC.l (SC.l (SC.l s))))))) (Xa (r:=Xc) 6 rfl (fun _ s=>(SC.r s))))))) fun a45 C46=>(XY (K:=K) (r:=Xc) 4 (EvB.sh (VY (Xa (r:=Xc) 4 rfl (fun _ s=>(SC.r (SC.l (SC.l s))))) (XF (Xa (r:=(rV Xc)) 2 rfl (fun _ s=>(SC.r (SC.l (SC.l (SC.l (SC.l (SC.l s)))))))) (Xa (r:=Xc) 6 rfl (fun _ s=>(SC.r (SC.l s))))))) fun a48 v49=>(XL (J:=_) (v49, (x16.2.2.2.1), x16.2.1, C46) (a48, (g15.1 ++ [a45])) rfl rfl (fun _ s=>(SC.i (SC.i (SC.i (SC.i (SC.i (SC.i (SC.i SC.t (SC.r (SC.l (SC.l (SC.l (SC.l (SC.l (SC.l (SC.l (SC.l s)))))))))) (SC.r (SC.l (SC.l (SC.l (SC.l (SC.l (SC.l (SC.l s))))))))) (SC.r (SC.l (SC.l (SC.l (SC.l (SC.l (SC.l s)))))))) (SC.r (SC.l (SC.l (SC.l (SC.l (SC.l s))))))) (SC.r (SC.l (SC.l s)))) (SC.r s)) (SC.r (SC.l s))))))) (XY (K:=K) (r:=Xc) 7 (EvB.sh (Ev.toB (X7 (Xa (r:=(rL Xc)) 0 rfl (fun _ s=>(SC.r (SC.l (SC.l (SC.l (SC.l (SC.l (SC.l s))))))))) (X6 (Yb (Yb (Xa (r:=Xc) 1 rfl (fun _ s=>(SC.r (SC.l (SC.l (SC.l (SC.l (SC.l s)))))))) (Xe 1)) (Xa (r:=Xc) 6 rfl (fun _ s=>(SC.r s)))) (Xe 63))))) fun a54 v55=>(Js (K:=K) (o:=(oF Xc)) (f:=fun a74=>(Res.ok (g15.2, a74))) 5 0 rfl rfl rfl (fun _ s=>(SC.r (SC.l (SC.l (SC.l s))))) (EvS.ev (EvB.sh (X6 (Ev.toB (X7 (Xa (r:=Xc) 7 rfl (fun _ s=>(SC.r s))) (Xa (r:=Xc) 6 rfl (fun _ s=>(SC.r (SC.l s)))))) (XF (Xa (r:=(rV Xc)) 2 rfl (fun _ s=>(SC.r (SC.l (SC.l (SC.l (SC.l (SC.l s)))))))) (Xa (r:=Xc) 6 rfl (fun _ s=>(SC.r (SC.l s)))))))) fun a72 C73=>(XL (J:=_) (x16.2.2.1, (some v55), x16.2.1, C73) (g15.2, (g15.1 ++ [a72])) rfl rfl (fun _ s=>(SC.i (SC.i (SC.i (SC.i (SC.i (SC.i (SC.i SC.t (SC.r (SC.l (SC.l (SC.l (SC.l (SC.l (SC.l (SC.l (SC.l s)))))))))) (SC.r (SC.l (SC.l (SC.l (SC.l (SC.l (SC.l (SC.l s))))))))) (SC.r (SC.l (SC.l (SC.l (SC.l (SC.l (SC.l s)))))))) (SC.r (SC.l (SC.l (SC.l (SC.l (SC.l s))))))) (SC.r (SC.l (SC.l s)))) (SC.r (SC.l (SC.l (SC.l s))))) (SC.r s))))))) fun g76 x75=>(XL (J:=_) (x75.2.2.1, x75.1, (x75.2.1), x75.2.2.2) (g76.2, g76.1) rfl rfl (fun _ s=>(SC.i (SC.i (SC.i (SC.i (SC.i (SC.i (SC.i SC.t (SC.r (SC.l (SC.l (SC.l (SC.l (SC.l (SC.l s)))))))) (SC.r (SC.l (SC.l (SC.l (SC.l (SC.l s))))))) (SC.r (SC.l (SC.l (SC.l (SC.l s)))))) (SC.r (SC.l (SC.l (SC.l s))))) (SC.r (SC.l (SC.l s)))) (SC.r s)) (SC.r (SC.l s))))))) fun g78 x77=>(XL (J:=_) ((some v18), x77.1, x77.2.1, (x77.2.2.1), x77.2.2.2) (g78.1, g78.2) rfl rfl (fun _ s=>(SC.i (SC.i (SC.i (SC.i (SC.i (SC.i SC.t (SC.r (SC.l (SC.l (SC.l (SC.l (SC.l (SC.l s)))))))) (SC.r (SC.l (SC.l (SC.l (SC.l (SC.l s))))))) (SC.r (SC.l (SC.l (SC.l (SC.l s)))))) (SC.r (SC.l (SC.l (SC.l s))))) (SC.r (SC.l s))) (SC.r s)))))) fun g79 x80=>(XB (Zd (o:=(oL (oF Xc))) 5 0 rfl rfl (fun _ s=>(SC.r (SC.l s)))))))))
theorem Vm : FnScope ["_law_way", "_law_size", "_law_factor", "_law_a", "_law_b", "_law_half"] ["_law_way", "_law_size", "_law_factor", "_law_a", "_law_b"] (Xh YM):=⟨rfl, rfl, rfl, by decide +kernel, rfl, by decide +kernel, by decide +kernel⟩
set_option maxHeartbeats 4000000 in
theorem GF (D : Def K mg "_law_cell_of" YM ["_law_way", "_law_size", "_law_factor", "_law_a", "_law_b"])  (Y : Ecs XR K mg) (Z : Blt mg) : Fn P w K mg base 1 "_law_cell_of" ["_law_way", "_law_size", "_law_factor", "_law_a", "_law_b"] (sp5 Xc Xc Xc Xc Xc (oF Xc) Y5 K):=by
  refine Zf D Vm (fun vs H Q E h=>?_) (fun f cdv A outer s H vs Q E hr h=>?_)
  . obtain ⟨v_0, v_1, v_2, v_3, v_4, a_0, a_1, a_2, a_3, a_4, b, rfl, _⟩:=h; rfl
  obtain ⟨v_0, v_1, v_2, v_3, v_4, a_0, a_1, a_2, a_3, a_4, b, rfl, h_0, h_1, h_2, h_3, h_4, hm, q⟩:=h
  have hu:=hu8 hr
  have hu1:=Y1 hr
  refine ⟨_, (Xb (XJ (i:=5) Vm.nd rfl (Or.inl rfl) (Xt Jh (pv 1) Xi))
    (Xb (Yx (Xq Zz (pv 0) Xi (XE _))
      (Xb (Xz (Xt Yr (Xt Zm (Xt ZO Xi (pv 4)) (pv 3)) (pv 1)))
      Xf)
      Xf)
    (Xb (Yx (Xq Zz (pv 0) Xi (XE _))
      (Xb (Xz (Xt Yr (Xt Yy (Xt ZO (pv 2) (pv 3)) (Xt ZO (Xt Zm Xi (pv 2)) (pv 4))) (pv 1)))
      Xf)
      Xf)
    (Xb (Yx (PW.pt (ZN (Xq Zz (pv 0) Xi (XE _)) (ZN (Xq DX (pv 1) Xi (XE _)) (ZN (Xq G0 (pv 3) Xi (XE _)) (Qi (Xq Zz (pv 4) (Xt Zm (pv 1) Xi) (XE _)))))))
      (Xb (Xz (Xt Zm Xi (pv 3)))
      Xf)
      Xf)
    (Xb (Yx (PW.pt (ZN (Xq Zz (pv 0) Xi (XE _)) (ZN (Xq G0 (pv 3) (Xt Zm (pv 1) Xi) (XE _)) (Qi (Xq Zz (pv 4) (Xt Zm (pv 1) Xi) (XE _))))))
      (Xb (Xz (Xt Yr (Xt Yy (pv 3) Xi) (Xt Zm (pv 1) Xi)))
      Xf)
      Xf)
    (Xb (Yx (PW.pt (ZN (Xq Zz (pv 0) Xi (XE _)) (ZN (Xq G0 (pv 3) (pv 5) (XE _)) (Qi (Xq G0 (pv 4) (pv 5) (XE _))))))
      (Xb (Xz (Xt Yr (Xt Zm (Xt ZO Xi (pv 4)) (pv 3)) (pv 5)))
      Xf)
      Xf)
    (Xb (Yx (PW.pt (ZN (Xq Zz (pv 0) Xi (XE _)) (ZN (Xq IC (pv 3) (pv 5) (XE _)) (Qi (Xq IC (pv 4) (pv 5) (XE _))))))
      (Xb (Xz (Xt Yy (pv 5) (Xt Yr (Xt Zm (Xt Zm (Xt ZO Xi (pv 4)) (pv 3)) (pv 5)) (Xt Zm (pv 1) (pv 5)))))
      Xf)
      Xf)
    (Xb (Xz (pv 3))
    Xf)))))))), ?_⟩
  refine Ze (S:=(SC.add (SC.add (SC.add (SC.add (SC.add SC.nil K Xc v_0 a_0) K Xc v_1 a_1) K Xc v_2 a_2) K Xc v_3 a_3) K Xc v_4 a_4)) (σ:=[some v_0, some v_1, some v_2, some v_3, some v_4, none]) 0 ?_ (SC.i (SC.i (SC.i (SC.i (SC.i SC.t h_0) h_1) h_2) h_3) h_4) hm q rfl
  unfold Y5
  exact (XY (K:=K) (r:=Xc) 5 (EvB.sh (VY (Xa (r:=Xc) 1 rfl (fun _ s=>(SC.r (SC.l (SC.l (SC.l s)))))) (Xe 2))) fun a1 v2=>(YI (Xl (K:=K) (Yv (Xa (r:=Xc) 0 rfl (fun _ s=>(SC.r (SC.l (SC.l (SC.l (SC.l (SC.l s)))))))) (Xe 1))) (XB (EvS.ev (EvB.sh (X6 (YB (YU (Xe 2) (Xa (r:=Xc) 4 rfl (fun _ s=>(SC.r (SC.l s))))) (Xa (r:=Xc) 3 rfl (fun _ s=>(SC.r (SC.l (SC.l s)))))) (Xa (r:=Xc) 1 rfl (fun _ s=>(SC.r (SC.l (SC.l (SC.l (SC.l s))))))))))) (YI (Xl (K:=K) (Yv (Xa (r:=Xc) 0 rfl (fun _ s=>(SC.r (SC.l (SC.l (SC.l (SC.l (SC.l s)))))))) (Xe 2))) (XB (EvS.ev (EvB.sh (X6 (Yb (YU (Xa (r:=Xc) 2 rfl (fun _ s=>(SC.r (SC.l (SC.l (SC.l s)))))) (Xa (r:=Xc) 3 rfl (fun _ s=>(SC.r (SC.l (SC.l s)))))) (YU (YB (Xe 1) (Xa (r:=Xc) 2 rfl (fun _ s=>(SC.r (SC.l (SC.l (SC.l s))))))) (Xa (r:=Xc) 4 rfl (fun _ s=>(SC.r (SC.l s)))))) (Xa (r:=Xc) 1 rfl (fun _ s=>(SC.r (SC.l (SC.l (SC.l (SC.l s))))))))))) (YI (YV (Xl (K:=K) (Yv (Xa (r:=Xc) 0 rfl (fun _ s=>(SC.r (SC.l (SC.l (SC.l (SC.l (SC.l s)))))))) (Xe 3))) (YV (Xl (K:=K) (UQ (Xa (r:=Xc) 1 rfl (fun _ s=>(SC.r (SC.l (SC.l (SC.l (SC.l s))))))) (Xe 2))) (YV (Xl (K:=K) (Vr (Xa (r:=Xc) 3 rfl (fun _ s=>(SC.r (SC.l (SC.l s))))) (Xe 2))) (Xl (K:=K) (Yv (Xa (r:=Xc) 4 rfl (fun _ s=>(SC.r (SC.l s)))) (YB (Xa (r:=Xc) 1 rfl (fun _ s=>(SC.r (SC.l (SC.l (SC.l (SC.l s))))))) (Xe 1))))))) (XB (EvS.ev (EvB.sh (YB (Xe 1) (Xa (r:=Xc) 3 rfl (fun _ s=>(SC.r (SC.l (SC.l s))))))))) (YI (YV (Xl (K:=K) (Yv (Xa (r:=Xc) 0 rfl (fun _ s=>(SC.r (SC.l (SC.l (SC.l (SC.l (SC.l s)))))))) (Xe 6))) (YV (Xl (K:=K) (Vr (Xa (r:=Xc) 3 rfl (fun _ s=>(SC.r (SC.l (SC.l s))))) (YB (Xa (r:=Xc) 1 rfl (fun _ s=>(SC.r (SC.l (SC.l (SC.l (SC.l s))))))) (Xe 1)))) (Xl (K:=K) (Yv (Xa (r:=Xc) 4 rfl (fun _ s=>(SC.r (SC.l s)))) (YB (Xa (r:=Xc) 1 rfl (fun _ s=>(SC.r (SC.l (SC.l (SC.l (SC.l s))))))) (Xe 1)))))) (XB (EvS.ev (EvB.sh (X6 (Yb (Xa (r:=Xc) 3 rfl (fun _ s=>(SC.r (SC.l (SC.l s))))) (Xe 1)) (YB (Xa (r:=Xc) 1 rfl (fun _ s=>(SC.r (SC.l (SC.l (SC.l (SC.l s))))))) (Xe 1)))))) (YI (YV (Xl (K:=K) (Yv (Xa (r:=Xc) 0 rfl (fun _ s=>(SC.r (SC.l (SC.l (SC.l (SC.l (SC.l s)))))))) (Xe 4))) (YV (Xl (K:=K) (Vr (Xa (r:=Xc) 3 rfl (fun _ s=>(SC.r (SC.l (SC.l s))))) (Xa (r:=Xc) 5 rfl (fun _ s=>(SC.r s))))) (Xl (K:=K) (Vr (Xa (r:=Xc) 4 rfl (fun _ s=>(SC.r (SC.l s)))) (Xa (r:=Xc) 5 rfl (fun _ s=>(SC.r s))))))) (XB (EvS.ev (EvB.sh (X6 (YB (YU (Xe 2) (Xa (r:=Xc) 4 rfl (fun _ s=>(SC.r (SC.l s))))) (Xa (r:=Xc) 3 rfl (fun _ s=>(SC.r (SC.l (SC.l s)))))) (Xa (r:=Xc) 5 rfl (fun _ s=>(SC.r s))))))) (YI (YV (Xl (K:=K) (Yv (Xa (r:=Xc) 0 rfl (fun _ s=>(SC.r (SC.l (SC.l (SC.l (SC.l (SC.l s)))))))) (Xe 4))) (YV (Xl (K:=K) (B3 (Xa (r:=Xc) 3 rfl (fun _ s=>(SC.r (SC.l (SC.l s))))) (Xa (r:=Xc) 5 rfl (fun _ s=>(SC.r s))))) (Xl (K:=K) (B3 (Xa (r:=Xc) 4 rfl (fun _ s=>(SC.r (SC.l s)))) (Xa (r:=Xc) 5 rfl (fun _ s=>(SC.r s))))))) (XB (EvS.ev (EvB.sh (Yb (Xa (r:=Xc) 5 rfl (fun _ s=>(SC.r s))) (X6 (YB (YB (YU (Xe 2) (Xa (r:=Xc) 4 rfl (fun _ s=>(SC.r (SC.l s))))) (Xa (r:=Xc) 3 rfl (fun _ s=>(SC.r (SC.l (SC.l s)))))) (Xa (r:=Xc) 5 rfl (fun _ s=>(SC.r s)))) (YB (Xa (r:=Xc) 1 rfl (fun _ s=>(SC.r (SC.l (SC.l (SC.l (SC.l s))))))) (Xa (r:=Xc) 5 rfl (fun _ s=>(SC.r s))))))))) (XB (EvS.ev (Xn (r:=Xc) 3 rfl (fun _ s=>(SC.r (SC.l (SC.l s))))))))))))))
theorem JZ : FnScope ["_law_one", "_law_other"] ["_law_one", "_law_other"] (Xh Zj):=⟨rfl, rfl, rfl, by decide +kernel, rfl, by decide +kernel, by decide +kernel⟩
set_option maxHeartbeats 4000000 in
theorem Dl (D : Def K mg "_law_common" Zj ["_law_one", "_law_other"])  (Y : Ecs XR K mg) (Z : Blt mg) : Fn P w K mg base 1 "_law_common" ["_law_one", "_law_other"] (sp2 Xc Xc (oF Xc) Qa K):=by
  refine Zf D JZ (fun vs H Q E h=>?_) (fun f cdv A outer s H vs Q E hr h=>?_)
  . obtain ⟨v_0, v_1, a_0, a_1, b, rfl, _⟩:=h; rfl
  obtain ⟨v_0, v_1, a_0, a_1, b, rfl, h_0, h_1, hm, q⟩:=h
  have hu:=hu8 hr
  have hu1:=Y1 hr
  refine ⟨_, (Xb (BS (i:=0) (j:=1) rfl JZ.nd rfl rfl (by decide) rfl rfl (Xd (Xu Gk rfl Z.b_abs PyProof.Rows.boot_abs (Xd (pv 0) Xg)) (Xd (Xu Gk rfl Z.b_abs PyProof.Rows.boot_abs (Xd (pv 1) Xg)) Xg)) rfl)
    (Xb (Gy PassesOwn.never (Xq DX (pv 1) Xi (XE _))
      (Xb (BS (i:=0) (j:=1) rfl JZ.nd rfl rfl (by decide) rfl rfl (Xd (pv 1) (Xd (Xt Yr (pv 0) (pv 1)) Xg)) rfl)
      Xf))
    (Xb (Xz (pv 0))
    Xf))), ?_⟩
  refine Ze (S:=(SC.add (SC.add SC.nil K Xc v_0 a_0) K Xc v_1 a_1)) (σ:=[some v_0, some v_1]) 0 ?_ (SC.i (SC.i SC.t h_0) h_1) hm q rfl
  unfold Qa
  exact (BR (K:=K) 0 1 (EvB.sh (Fs (Xa (r:=Xc) 0 rfl (fun _ s=>(SC.r (SC.l s)))))) (EvB.sh (Fs (Xa (r:=Xc) 1 rfl (fun _ s=>(SC.r s))))) fun a3 a4 v5 v6=>(Gf (J:=({ oo:=fun x7=>[], ss:=fun x7=>[some x7.1, some x7.2], sc:=fun g8 x7=>(SC.add (SC.add SC.nil K Xc x7.1 g8.1) K Xc x7.2 g8.2) } : Jn (Int × Int) (V × V))) (a3.natAbs + a4.natAbs + 2) (v5, v6) (a3, a4) rfl rfl (fun _ s=>(SC.i (SC.i SC.t (SC.r (SC.l s))) (SC.r s))) (fun g9 x10=>(Xl (K:=K) (UQ (Xa (r:=Xc) 1 rfl (fun _ s=>(SC.r s))) (Xe 0)))) (fun g9 x10=>(BR (K:=K) 0 1 (Xn (r:=Xc) 1 rfl (fun _ s=>(SC.r s))) (EvB.sh (X6 (Xa (r:=Xc) 0 rfl (fun _ s=>(SC.r (SC.l s)))) (Xa (r:=Xc) 1 rfl (fun _ s=>(SC.r s))))) fun a15 a16 v17 v18=>(XL (J:=_) (v17, v18) (a15, a16) rfl rfl (fun _ s=>(SC.i (SC.i SC.t (SC.r (SC.l s))) (SC.r s)))))) fun g19 x20=>(XB (EvS.ev (Xn (r:=Xc) 0 rfl (fun _ s=>(SC.r (SC.l s))))))))
theorem VJ : FnScope ["_law_way", "_law_size", "_law_factor", "_law_some", "_law_a"] ["_law_way", "_law_size", "_law_factor"] (Xh Qx):=⟨rfl, rfl, rfl, by decide +kernel, rfl, by decide +kernel, by decide +kernel⟩
set_option maxHeartbeats 4000000 in
theorem ES (D : Def K mg "_law_made" Qx ["_law_way", "_law_size", "_law_factor"]) (g_common : Fn P w K mg base 1 "_law_common" ["_law_one", "_law_other"] (sp2 Xc Xc (oF Xc) Qa K)) (g_cell_of : Fn P w K mg base 1 "_law_cell_of" ["_law_way", "_law_size", "_law_factor", "_law_a", "_law_b"] (sp5 Xc Xc Xc Xc Xc (oF Xc) Y5 K)) (Y : Ecs XR K mg) (Z : Blt mg) : Fn P w K mg base 2 "_law_made" ["_law_way", "_law_size", "_law_factor"] (sp3 Xc Xc Xc (oL (oL (oF Xc))) VB K):=by
  refine Zf D VJ (fun vs H Q E h=>?_) (fun f cdv A outer s H vs Q E hr h=>?_)
  . obtain ⟨v_0, v_1, v_2, a_0, a_1, a_2, b, rfl, _⟩:=h; rfl
  obtain ⟨v_0, v_1, v_2, a_0, a_1, a_2, b, rfl, h_0, h_1, h_2, hm, q⟩:=h
  have hu:=hu8 hr
  have hu1:=Y1 hr
  refine ⟨_, (Xb (Yx (PW.pt (ZN (Xq Zz (pv 0) Xi (XE _)) (Qi (Xq Zz (pv 1) Xi (XE _)))))
      (@Xb _ _ _ _ _ (@Xz _ _ _ _ (@Ku _))
      Xf)
      Xf)
    (Xb (Gy PassesOwn.never (Xq Lr (Yu g_common hr (by decide) (Xd (pv 2) (Xd (pv 1) Xg))) Xi (XE _))
      (Xb (XJ (i:=2) VJ.nd rfl (Or.inr rfl) (Xt Yy (pv 2) Xi))
      Xf))
    (Xb (XJ (i:=3) VJ.nd rfl (Or.inl rfl) (Yn Xg))
    (Xb (Yg PassesOwn.never rfl (XQ rfl Z.b_range (Xd (pv 1) Xg)) (Xr (i:=4) VJ.nd rfl (Or.inr rfl))
      (Xb (Zq (Q8 PySem.F.plainAttrs_list PySem.F.slot_list_append PySem.F.type_list_append Yq (pv 3) (Xd (ZG (sc:=(Xh Qx)) (N0:=["_law_way", "_law_size", "_law_factor", "_law_some", "_law_a"]) (tns:=["_law_b"]) (caps:=[(0, "_law_way"), (1, "_law_size"), (2, "_law_factor"), (4, "_law_a")]) rfl (XQ rfl Z.b_range (Xd (pv 1) Xg)) (YF (by decide)) (fun cl C s H ex E=>⟨Xr (i:=0) (show List.Nodup (["_law_b", "_law_way", "_law_size", "_law_factor", "_law_a"] : List Str) by decide +kernel) rfl (Or.inl rfl), Za, (Yu g_cell_of hr (by decide) (Xd (pv 1) (Xd (pv 2) (Xd (pv 3) (Xd (pv 4) (Xd (pv 0) Xg))))))⟩)) Xg)))
      Xf))
    (Xb (Xz (pv 3))
    Xf))))), ?_⟩
  refine Ze (S:=(SC.add (SC.add (SC.add SC.nil K Xc v_0 a_0) K Xc v_1 a_1) K Xc v_2 a_2)) (σ:=[some v_0, some v_1, some v_2, none, none]) 1 ?_ (SC.i (SC.i (SC.i SC.t h_0) h_1) h_2) hm q rfl
  unfold VB
  exact (YI (YV (Xl (K:=K) (Yv (Xa (r:=Xc) 0 rfl (fun _ s=>(SC.r (SC.l (SC.l s))))) (Xe 5))) (Xl (K:=K) (Yv (Xa (r:=Xc) 1 rfl (fun _ s=>(SC.r (SC.l s)))) (Xe 4)))) (XB (Ec (Qr (Y7 (Xs (EvB.sh (Xe 0)) (Xs (EvB.sh (Xe 3)) (Xs (EvB.sh (Xe 1)) (Xs (EvB.sh (Xe 2)) Ys))))) fun _=>(Qr (Y7 (Xs (EvB.sh (Xe 2)) (Xs (EvB.sh (Xe 1)) (Xs (EvB.sh (Xe 3)) (Xs (EvB.sh (Xe 0)) Ys))))) fun _=>(Qr (Y7 (Xs (EvB.sh (Xe 3)) (Xs (EvB.sh (Xe 0)) (Xs (EvB.sh (Xe 2)) (Xs (EvB.sh (Xe 1)) Ys))))) fun _=>(Qr (Y7 (Xs (EvB.sh (Xe 1)) (Xs (EvB.sh (Xe 2)) (Xs (EvB.sh (Xe 0)) (Xs (EvB.sh (Xe 3)) Ys))))) fun _=>CF)))))) (Gf (J:=({ oo:=fun x51=>[[]], ss:=fun x51=>[some v_0, some v_1, some x51, none, none], sc:=fun g52 x51=>(SC.add (SC.add (SC.add SC.nil K Xc v_0 a_0) K Xc v_1 a_1) K Xc x51 g52) } : Jn (Int) (V))) (a_1.natAbs + 2) (v_2) (a_2) rfl rfl (fun _ s=>(SC.i (SC.i (SC.i SC.t (SC.r (SC.l (SC.l s)))) (SC.r (SC.l s))) (SC.r s))) (fun g53 x54=>(Xl (K:=K) (Hv (Ev.toB (X7 (Xa (r:=Xc) 2 rfl (fun _ s=>(SC.r s))) (Xa (r:=Xc) 1 rfl (fun _ s=>(SC.r (SC.l s)))))) (Xe 1)))) (fun g53 x54=>(XY (K:=K) (r:=Xc) 2 (EvB.sh (Yb (Xa (r:=Xc) 2 rfl (fun _ s=>(SC.r s))) (Xe 1))) fun a60 v61=>(XL (J:=_) (v61) (a60) rfl rfl (fun _ s=>(SC.i (SC.i (SC.i SC.t (SC.r (SC.l (SC.l (SC.l s))))) (SC.r (SC.l (SC.l s)))) (SC.r s)))))) fun g64 x65=>(Yp (K:=K) (o:=(oL (oL (oF Xc)))) 3 0 (GQ (o:=(oL (oF Xc)))) (Nat.le_of_ble_eq_true rfl) fun a66 v67 C68=>(YR (K:=K) (J:=({ oo:=fun x70=>[x70.2.2], ss:=fun x70=>[some v_0, some v_1, some x65, some x70.2.1, x70.1], sc:=fun g71 x70=>(SC.addO (SC.add (SC.add (SC.add SC.nil K Xc v_0 a_0) K Xc v_1 a_1) K Xc x65 g64) K (oL (oL (oF Xc))) x70.2.1 g71 x70.2.2) } : Jn ((List (List Int))) (Option V × V × List XG))) (fun _=>tg1 4) ((none), v67, C68) (a66) (Xy (Xa (r:=Xc) 1 rfl (fun _ s=>(SC.r (SC.l (SC.l s)))))) rfl rfl (fun _ s=>(SC.i (SC.i (SC.i (SC.i SC.t (SC.r (SC.l (SC.l (SC.l s))))) (SC.r (SC.l (SC.l s)))) (SC.r (SC.l s))) (SC.r s))) (fun g72 x73 a74 v75=>(Js (K:=K) (o:=(oL (oF Xc))) (f:=fun a89=>(Res.ok (a89))) 3 0 rfl rfl rfl (fun _ s=>(SC.r (SC.l s))) (Zb (fun _=>tg1 0) (Xy (Xa (r:=Xc) 1 rfl (fun _ s=>(SC.r (SC.l (SC.l (SC.l s))))))) (fun C77 a78 v79=>(C8 (Xa (r:=Xc) 1 rfl (fun _ s=>(SC.r (SC.l (SC.l (SC.l (SC.l (SC.l s)))))))) (Xa (r:=Xc) 2 rfl (fun _ s=>(SC.r (SC.l (SC.l (SC.l (SC.l s))))))) (Xa (r:=Xc) 3 rfl (fun _ s=>(SC.r (SC.l (SC.l (SC.l s)))))) (Xa (r:=Xc) 4 rfl (fun _ s=>(SC.r (SC.l s)))) (Xa (r:=Xc) 0 rfl (fun _ s=>(SC.r s)))))) fun a87 C88=>(XL (J:=_) ((some v75), x73.2.1, C88) ((g72 ++ [a87])) rfl rfl (fun _ s=>(SC.i (SC.i (SC.i (SC.i SC.t (SC.r (SC.l (SC.l (SC.l (SC.l (SC.l s))))))) (SC.r (SC.l (SC.l (SC.l (SC.l s)))))) (SC.r (SC.l (SC.l (SC.l s))))) (SC.r s)))))) fun g90 x91=>(XB (Zd (o:=(oL (oL (oF Xc)))) 3 0 rfl rfl (fun _ s=>(SC.r s))))))))
theorem Z6 : FnScope ["_law_some", "_law_count", "_law_left", "_law_found", "_law_k"] ["_law_some", "_law_count"] (Xh YJ):=⟨rfl, rfl, rfl, by decide +kernel, rfl, by decide +kernel, by decide +kernel⟩
set_option maxHeartbeats 4000000 in
theorem GI (D : Def K mg "_law_ordered" YJ ["_law_some", "_law_count"])  (Y : Ecs XR K mg) (Z : Blt mg) : Fn P w K mg base 1 "_law_ordered" ["_law_some", "_law_count"] (sp2 (rV Xc) Xc (oL (oF Xc)) YT K):=by
  refine Zf D Z6 (fun vs H Q E h=>?_) (fun f cdv A outer s H vs Q E hr h=>?_)
  . obtain ⟨v_0, v_1, a_0, a_1, b, rfl, _⟩:=h; rfl
  obtain ⟨v_0, v_1, a_0, a_1, b, rfl, h_0, h_1, hm, q⟩:=h
  have hu:=hu8 hr
  have hu1:=Y1 hr
  refine ⟨_, (Xb (XJ (i:=2) Z6.nd rfl (Or.inl rfl) (Zh rfl rfl rfl Z.b_list Z.b_range (Xd (pv 1) Xg)))
    (Xb (XJ (i:=3) Z6.nd rfl (Or.inl rfl) (Yn Xg))
    (Xb (Yg PassesOwn.never rfl (XQ rfl Z.b_range (Xd (pv 1) Xg)) (Xr (i:=4) Z6.nd rfl (Or.inl rfl))
      (Xb (Zq (Q8 PySem.F.plainAttrs_list PySem.F.slot_list_append PySem.F.type_list_append Yq (pv 3) (Xd (Q8 PySem.F.plainAttrs_list PySem.F.slot_list_pop PySem.F.type_list_pop Bt (pv 2) (Xd (Xt Yr (XU (Xk K rfl) (pv 0) (pv 4) (fun _ _=>rfl)) (Xu (Xm K rfl) rfl Z.b_len PySem.boot_len (Xd (pv 2) Xg))) Xg)) Xg)))
      Xf))
    (Xb (Xz (pv 3))
    Xf)))), ?_⟩
  refine Ze (S:=(SC.add (SC.add SC.nil K (rV Xc) v_0 a_0) K Xc v_1 a_1)) (σ:=[some v_0, some v_1, none, none, none]) 2 ?_ (SC.i (SC.i SC.t h_0) h_1) hm q rfl
  unfold YT
  exact (Yp (K:=K) (o:=(oL (oF Xc))) 2 1 (Zn (Xa (r:=Xc) 1 rfl (fun _ s=>(SC.r s)))) (Nat.le_of_ble_eq_true rfl) fun a1 v2 C3=>(Yp (K:=K) (o:=(oL (oF Xc))) 3 0 (GQ (o:=(oF Xc))) (Nat.le_of_ble_eq_true rfl) fun a5 v6 C7=>(YR (K:=K) (J:=({ oo:=fun x9=>[x9.2.2.2.1, x9.2.2.2.2], ss:=fun x9=>[some v_0, some v_1, some x9.2.2.1, some x9.2.1, x9.1], sc:=fun g10 x9=>(SC.addO (SC.addO (SC.add (SC.add SC.nil K (rV Xc) v_0 a_0) K Xc v_1 a_1) K (oL (oF Xc)) x9.2.1 g10.1 x9.2.2.2.1) K (oL (oF Xc)) x9.2.2.1 g10.2 x9.2.2.2.2) } : Jn ((List Int) × (List Int)) (Option V × V × V × List XG × List XG))) (fun _=>tg1 4) ((none), v6, v2, C7, C3) (a5, a1) (Xy (Xa (r:=Xc) 1 rfl (fun _ s=>(SC.r (SC.l (SC.l s)))))) rfl rfl (fun _ s=>(SC.i (SC.i (SC.i (SC.i SC.t (SC.r (SC.l (SC.l (SC.l s))))) (SC.r (SC.l (SC.l s)))) (SC.r s)) (SC.r (SC.l s)))) (fun g11 x12 a13 v14=>(C9 (K:=K) (r:=Xc) (f:=fun a21 a22=>(Res.ok (a22, a21))) 2 1 3 0 (by decide) rfl rfl (fun _ s=>(SC.r (SC.l s))) rfl rfl (fun _ s=>(SC.r (SC.l (SC.l s)))) (X6 (XF (Xa (r:=(rV Xc)) 0 rfl (fun _ s=>(SC.r (SC.l (SC.l (SC.l (SC.l s))))))) (Xa (r:=Xc) 4 rfl (fun _ s=>(SC.r s)))) (Yd (Yt (o:=(oL (oF Xc))) 2 1 rfl rfl (fun _ s=>(SC.r (SC.l s)))))) fun a20 a21 C23 C24=>(XL (J:=_) ((some v14), x12.2.1, x12.2.2.1, C24, C23) ((g11.1 ++ [a20]), a21) rfl rfl (fun _ s=>(SC.i (SC.i (SC.i (SC.i SC.t (SC.r (SC.l (SC.l (SC.l (SC.l (SC.l (SC.l s)))))))) (SC.r (SC.l (SC.l (SC.l (SC.l (SC.l s))))))) (SC.r s)) (SC.r (SC.l s))))))) fun g27 x28=>(XB (Zd (o:=(oL (oF Xc))) 3 0 rfl rfl (fun _ s=>(SC.r (SC.l s))))))))
theorem Ql : FnScope ["_law_some", "_law_spots", "_law_found", "_law_a", "_law_b"] ["_law_some", "_law_spots"] (Xh Y0):=⟨rfl, rfl, rfl, by decide +kernel, rfl, by decide +kernel, by decide +kernel⟩
set_option maxHeartbeats 4000000 in
theorem F9 (D : Def K mg "_law_relaid" Y0 ["_law_some", "_law_spots"])  (Y : Ecs XR K mg) (Z : Blt mg) : Fn P w K mg base 1 "_law_relaid" ["_law_some", "_law_spots"] (sp2 (rV (rV Xc)) (rV Xc) (oL (oL (oF Xc))) Zg K):=by
  refine Zf D Ql (fun vs H Q E h=>?_) (fun f cdv A outer s H vs Q E hr h=>?_)
  . obtain ⟨v_0, v_1, a_0, a_1, b, rfl, _⟩:=h; rfl
  obtain ⟨v_0, v_1, a_0, a_1, b, rfl, h_0, h_1, hm, q⟩:=h
  have hu:=hu8 hr
  have hu1:=Y1 hr
  refine ⟨_, (Xb (QR 2 (Xh Y0) ["_law_some", "_law_spots", "_law_found", "_law_a", "_law_b"] ["_law_line"] [] rfl Ql.nd rfl rfl (X2 (K:=K) rfl (pv 0)) (YF (by decide)) (fun cl C s H ex E=>⟨Xr (i:=0) (show List.Nodup (["_law_line"] : List Str) by decide +kernel) rfl (Or.inl rfl), Za, (Zt (Y3 K rfl) rfl Z.b_list PyProof.Rows.boot_list (Xd (pv 0) Xg))⟩))
    (Xb (Yg PassesOwn.never rfl (XQ rfl Z.b_range (Xd (Xu (Xm K rfl) rfl Z.b_len PySem.boot_len (Xd (pv 0) Xg)) Xg)) (Xr (i:=3) Ql.nd rfl (Or.inl rfl))
      (Xb (Yg PassesOwn.never rfl (XQ rfl Z.b_range (Xd (Xu (Xm K rfl) rfl Z.b_len PySem.boot_len (Xd (pv 0) Xg)) Xg)) (Xr (i:=4) Ql.nd rfl (Or.inl rfl))
        (Xb (Ju (XU (Xk K rfl) (pv 1) (XU (Xk K rfl) (XU (Xk K rfl) (pv 0) (pv 3) (fun _ _=>rfl)) (pv 4) (fun _ _=>rfl)) (fun _ _=>rfl)) (J0 (XU (Xk K rfl) (pv 2) (XU (Xk K rfl) (pv 1) (pv 3) (fun _ _=>rfl)) (fun _ _=>rfl)) (XU (Xk K rfl) (pv 1) (pv 4) (fun _ _=>rfl)) ZD))
        Xf))
      Xf))
    (Xb (Xz (pv 2))
    Xf))), ?_⟩
  refine Ze (S:=(SC.add (SC.add SC.nil K (rV (rV Xc)) v_0 a_0) K (rV Xc) v_1 a_1)) (σ:=[some v_0, some v_1, none, none, none]) 1 ?_ (SC.i (SC.i SC.t h_0) h_1) hm q rfl
  unfold Zg
  exact (Yp (K:=K) (o:=(oL (oL (oF Xc)))) 2 0 (Zb (fun _=>tg1 0) (XW (Xn (r:=(rV (rV Xc))) 0 rfl (fun _ s=>(SC.r (SC.l s))))) (fun C4 a5 v6=>(V3 (EvS.ls (Xn (r:=(rV Xc)) 0 rfl (fun _ s=>(SC.r s))))))) (Nat.le_of_ble_eq_true rfl) fun a1 v2 C3=>(YR (K:=K) (J:=({ oo:=fun x11=>[x11.2.2.2], ss:=fun x11=>[some v_0, some v_1, some x11.2.2.1, x11.1, x11.2.1], sc:=fun g12 x11=>(SC.addO (SC.add (SC.add SC.nil K (rV (rV Xc)) v_0 a_0) K (rV Xc) v_1 a_1) K (oL (oL (oF Xc))) x11.2.2.1 g12 x11.2.2.2) } : Jn ((List (List Int))) (Option V × Option V × V × List XG))) (fun _=>tg1 3) ((none), (none), v2, C3) (a1) (Xy (Yd (Xa (r:=(rV (rV Xc))) 0 rfl (fun _ s=>(SC.r (SC.l (SC.l s))))))) rfl rfl (fun _ s=>(SC.i (SC.i (SC.i SC.t (SC.r (SC.l (SC.l s)))) (SC.r (SC.l s))) (SC.r s))) (fun g13 x14 a15 v16=>(YR (K:=K) (J:=({ oo:=fun x19=>[x19.2.2], ss:=fun x19=>[some v_0, some v_1, some x19.2.1, some v16, x19.1], sc:=fun g20 x19=>(SC.addO (SC.add (SC.add (SC.add SC.nil K (rV (rV Xc)) v_0 a_0) K (rV Xc) v_1 a_1) K Xc v16 a15) K (oL (oL (oF Xc))) x19.2.1 g20 x19.2.2) } : Jn ((List (List Int))) (Option V × V × List XG))) (fun _=>tg1 4) ((x14.2.1), x14.2.2.1, x14.2.2.2) (g13) (Xy (Yd (Xa (r:=(rV (rV Xc))) 0 rfl (fun _ s=>(SC.r (SC.l (SC.l (SC.l s)))))))) rfl rfl (fun _ s=>(SC.i (SC.i (SC.i (SC.i SC.t (SC.r (SC.l (SC.l (SC.l s))))) (SC.r (SC.l (SC.l s)))) (SC.r s)) (SC.r (SC.l s)))) (fun g21 x22 a23 v24=>(Jw (K:=K) (r:=Xc) 2 0 rfl rfl (fun _ s=>(SC.r (SC.l s))) (EvB.sh (XF (Xa (r:=(rV Xc)) 1 rfl (fun _ s=>(SC.r (SC.l (SC.l (SC.l s)))))) (XF (XF (Xa (r:=(rV (rV Xc))) 0 rfl (fun _ s=>(SC.r (SC.l (SC.l (SC.l (SC.l s))))))) (Xa (r:=Xc) 3 rfl (fun _ s=>(SC.r (SC.l (SC.l s)))))) (Xa (r:=Xc) 4 rfl (fun _ s=>(SC.r s)))))) (XF (Xa (r:=(rV Xc)) 1 rfl (fun _ s=>(SC.r (SC.l (SC.l (SC.l s)))))) (Xa (r:=Xc) 3 rfl (fun _ s=>(SC.r (SC.l (SC.l s)))))) (XF (Xa (r:=(rV Xc)) 1 rfl (fun _ s=>(SC.r (SC.l (SC.l (SC.l s)))))) (Xa (r:=Xc) 4 rfl (fun _ s=>(SC.r s)))) fun a38 C39=>(XL (J:=_) ((some v24), x22.2.1, C39) (a38) rfl rfl (fun _ s=>(SC.i (SC.i (SC.i (SC.i SC.t (SC.r (SC.l (SC.l (SC.l (SC.l (SC.l s))))))) (SC.r (SC.l (SC.l (SC.l (SC.l s)))))) (SC.r (SC.l (SC.l (SC.l s))))) (SC.r s)))))) fun g42 x43=>(XL (J:=_) ((some v16), (x43.1), x43.2.1, x43.2.2) (g42) rfl rfl (fun _ s=>(SC.i (SC.i (SC.i SC.t (SC.r (SC.l (SC.l (SC.l s))))) (SC.r (SC.l (SC.l s)))) (SC.r s)))))) fun g45 x46=>(XB (Zd (o:=(oL (oL (oF Xc)))) 2 0 rfl rfl (fun _ s=>(SC.r s))))))
theorem Je : FnScope ["_law_script", "_law_place", "_law_most", "_law_some", "_law_size", "_law_found"] ["_law_script", "_law_place", "_law_most"] (Xh ZW):=⟨rfl, rfl, rfl, by decide +kernel, rfl, by decide +kernel, by decide +kernel⟩
set_option maxHeartbeats 4000000 in
theorem Bs (D : Def K mg "_law_table" ZW ["_law_script", "_law_place", "_law_most"]) (g_row : Fn P w K mg base 2 "_law_row" ["_law_script", "_law_place", "_law_sizes"] (sp3 (rL Xc) Xc (rV Xc) (oL (oF Xc)) Ud K)) (g_made : Fn P w K mg base 2 "_law_made" ["_law_way", "_law_size", "_law_factor"] (sp3 Xc Xc Xc (oL (oL (oF Xc))) VB K)) (g_relaid : Fn P w K mg base 1 "_law_relaid" ["_law_some", "_law_spots"] (sp2 (rV (rV Xc)) (rV Xc) (oL (oL (oF Xc))) Zg K)) (g_ordered : Fn P w K mg base 1 "_law_ordered" ["_law_some", "_law_count"] (sp2 (rV Xc) Xc (oL (oF Xc)) YT K)) (Y : Ecs XR K mg) (Z : Blt mg) : Fn P w K mg base 3 "_law_table" ["_law_script", "_law_place", "_law_most"] (sp3 (rL Xc) Xc Xc (oL (oL (oF Xc))) QK K):=by
  refine Zf D Je (fun vs H Q E h=>?_) (fun f cdv A outer s H vs Q E hr h=>?_)
  . obtain ⟨v_0, v_1, v_2, a_0, a_1, a_2, b, rfl, _⟩:=h; rfl
  obtain ⟨v_0, v_1, v_2, a_0, a_1, a_2, b, rfl, h_0, h_1, h_2, hm, q⟩:=h
  have hu:=hu8 hr
  have hu1:=Y1 hr
  refine ⟨_, (Xb (XJ (i:=3) Je.nd rfl (Or.inl rfl) (Yu g_row hr (by decide) (Xd (pv 0) (Xd (pv 1) (Xd (Xt U3 (Yn (Xd Xi (Xd Xi (Xd Xi (Xd Xi Xg))))) (Xt VE (Yn (Xd Xi Xg)) Xi)) Xg)))))
    (Xb (XJ (i:=4) Je.nd rfl (Or.inl rfl) (Xt Yy Xi (Xt Yr (XU (Xk K rfl) (pv 3) Xi (fun _ _=>rfl)) (pv 2))))
    (Xb (XJ (i:=5) Je.nd rfl (Or.inl rfl) (Yu g_made hr (by decide) (Xd (XU (Xk K rfl) (pv 3) Xi (fun _ _=>rfl)) (Xd (pv 4) (Xd (Xt Yy Xi (XU (Xk K rfl) (pv 3) Xi (fun _ _=>rfl))) Xg)))))
    (Xb (Yx (Xq Zz (XU (Xk K rfl) (pv 3) Xi (fun _ _=>rfl)) Xi (XE _))
      (Xb (Xz (pv 5))
      Xf)
      Xf)
    (Xb (Xz (Yu g_relaid hr (by decide) (Xd (pv 5) (Xd (Yu g_ordered hr (by decide) (Xd (Jg (Jf K rfl) (pv 3) (JX Xi) Km) (Xd (pv 4) Xg))) Xg))))
    Xf))))), ?_⟩
  refine Ze (S:=(SC.add (SC.add (SC.add SC.nil K (rL Xc) v_0 a_0) K Xc v_1 a_1) K Xc v_2 a_2)) (σ:=[some v_0, some v_1, some v_2, none, none, none]) 1 ?_ (SC.i (SC.i (SC.i SC.t h_0) h_1) h_2) hm q rfl
  unfold QK
  exact (XY (K:=K) (r:=(rV Xc)) 3 (Ev.sh (Z2 (Xa (r:=(rL Xc)) 0 rfl (fun _ s=>(SC.r (SC.l (SC.l s))))) (Xa (r:=Xc) 1 rfl (fun _ s=>(SC.r (SC.l s)))) (Ev.toB (UU (Ev.ls (Y7 (Xs (EvB.sh (Xe 7)) (Xs (EvB.sh (Xe 24)) (Xs (EvB.sh (Xe 6)) (Xs (EvB.sh (Xe 2)) Ys)))))) (Ev.ls (Vv (Ev.ls (Y7 (Xs (EvB.sh (Xe 24)) Ys))) (Xe 24))))))) fun a1 v2=>(XY (K:=K) (r:=Xc) 4 (EvB.sh (Yb (Xe 1) (X6 (XF (Xa (r:=(rV Xc)) 3 rfl (fun _ s=>(SC.r s))) (Xe 1)) (Xa (r:=Xc) 2 rfl (fun _ s=>(SC.r (SC.l s))))))) fun a23 v24=>(Yp (K:=K) (o:=(oL (oL (oF Xc)))) 5 0 (Z2 (XF (Xa (r:=(rV Xc)) 3 rfl (fun _ s=>(SC.r (SC.l s)))) (Xe 0)) (Xa (r:=Xc) 4 rfl (fun _ s=>(SC.r s))) (Yb (Xe 2) (XF (Xa (r:=(rV Xc)) 3 rfl (fun _ s=>(SC.r (SC.l s)))) (Xe 2)))) (Nat.le_of_ble_eq_true rfl) fun a31 v32 C33=>(YI (Xl (K:=K) (Yv (XF (Xa (r:=(rV Xc)) 3 rfl (fun _ s=>(SC.r (SC.l (SC.l s))))) (Xe 3)) (Xe 0))) (XB (Zd (o:=(oL (oL (oF Xc)))) 5 0 rfl rfl (fun _ s=>(SC.r s)))) (XB (X7 (Yt (o:=(oL (oL (oF Xc)))) 5 0 rfl rfl (fun _ s=>(SC.r s))) (Ev.toB (X7 (Ev.toB (V6 (EvS.ls (Xn (r:=(rV Xc)) 3 rfl (fun _ s=>(SC.r (SC.l (SC.l s)))))) (Qw (K:=K) (Xe 4)) Uh)) (Xa (r:=Xc) 4 rfl (fun _ s=>(SC.r (SC.l s))))))))))))
theorem Ki : FnScope ["_law_one"] ["_law_one"] (Xh Yw):=⟨rfl, rfl, rfl, by decide +kernel, rfl, by decide +kernel, by decide +kernel⟩
set_option maxHeartbeats 4000000 in
theorem KL (D : Def K mg "_law_is_whole" Yw ["_law_one"])  (Y : Ecs XR K mg) (Z : Blt mg) : Fn P w K mg base 1 "_law_is_whole" ["_law_one"] (sp1 Xc (oF XH) Z1 K):=by
  refine Zf D Ki (fun vs H Q E h=>?_) (fun f cdv A outer s H vs Q E hr h=>?_)
  . obtain ⟨v_0, a_0, b, rfl, _⟩:=h; rfl
  obtain ⟨v_0, a_0, b, rfl, h_0, hm, q⟩:=h
  have hu:=hu8 hr
  have hu1:=Y1 hr
  refine ⟨_, (Xb (Xz (GA (Xu ZF rfl Z.b_isinstance PyProof.Rows.boot_isinstance (Xd (pv 0) (Xd (VS (v:=V.ty "int") rfl Z.b_int PyProof.Rows.boot_int rfl) Xg))) (Gn (Dy (Xu ZF rfl Z.b_isinstance PyProof.Rows.boot_isinstance (Xd (pv 0) (Xd (VS (v:=V.ty "bool") rfl Z.b_bool PyProof.Rows.boot_bool rfl) Xg)))))))
    Xf), ?_⟩
  refine Ze (S:=(SC.add SC.nil K Xc v_0 a_0)) (σ:=[some v_0]) 0 ?_ (SC.i SC.t h_0) hm q rfl
  unfold Z1
  exact (XB (EvS.ev (EvB.sh (Jp (Z8 "int" true (VO K "int") (Xa (r:=Xc) 0 rfl (fun _ s=>(SC.r s)))) (VR (Z8 "bool" false (UG K) (Xa (r:=Xc) 0 rfl (fun _ s=>(SC.r s)))))))))
theorem QS : FnScope ["_law_found", "_law_one"] ["_law_found"] (Xh Yh):=⟨rfl, rfl, rfl, by decide +kernel, rfl, by decide +kernel, by decide +kernel⟩
set_option maxHeartbeats 4000000 in
theorem Uz (D : Def K mg "_law_is_wholes" Yh ["_law_found"]) (g_is_whole : Fn P w K mg base 1 "_law_is_whole" ["_law_one"] (sp1 Xc (oF XH) Z1 K)) (Y : Ecs XR K mg) (Z : Blt mg) : Fn P w K mg base 2 "_law_is_wholes" ["_law_found"] (sp1 (rV Xc) (oF XH) XV K):=by
  refine Zf D QS (fun vs H Q E h=>?_) (fun f cdv A outer s H vs Q E hr h=>?_)
  . obtain ⟨v_0, a_0, b, rfl, _⟩:=h; rfl
  obtain ⟨v_0, a_0, b, rfl, h_0, hm, q⟩:=h
  have hu:=hu8 hr
  have hu1:=Y1 hr
  refine ⟨_, (Xb (Yx (Vc (Qc (Xu ZF rfl Z.b_isinstance PyProof.Rows.boot_isinstance (Xd (pv 0) (Xd (VS (v:=V.ty "list") rfl Z.b_list PyProof.Rows.boot_list rfl) Xg)))))
      (Xb (Xz QC)
      Xf)
      Xf)
    (Xb (Yg PassesOwn.never rfl (X2 (K:=K) rfl (pv 0)) (Xr (i:=1) QS.nd rfl (Or.inl rfl))
      (Xb (Yx (Vc (Qc (Yu g_is_whole hr (by decide) (Xd (pv 1) Xg))))
        (Xb (Xz QC)
        Xf)
        Xf)
      Xf))
    (Xb (Xz QC)
    Xf))), ?_⟩
  refine Ze (S:=(SC.add SC.nil K (rV Xc) v_0 a_0)) (σ:=[some v_0, none]) 0 ?_ (SC.i SC.t h_0) hm q rfl
  unfold XV
  exact (YI (Qg (Q9 (K:=K) (Z8 "list" true (VO K "list") (Xa (r:=(rV Xc)) 0 rfl (fun _ s=>(SC.r s)))))) (XB (EvS.ev (EvB.sh (ZV false)))) (Kx (K:=K) (J:=({ oo:=fun x4=>[], ss:=fun x4=>[some v_0, x4], sc:=fun g5 x4=>(SC.add SC.nil K (rV Xc) v_0 a_0) } : Jn (Unit) (Option V))) (fun _=>tg1 1) ((none)) () (XW (Xn (r:=(rV Xc)) 0 rfl (fun _ s=>(SC.r s)))) rfl rfl (fun _ s=>(SC.i SC.t (SC.r s))) (fun g6 x7 a8 v9=>(KO (Qg (Q9 (K:=K) (Ev.toB (Zl (Xa (r:=Xc) 1 rfl (fun _ s=>(SC.r s))))))) (XB (EvS.ev (EvB.sh (ZV false)))) (Uw (XL (J:=_) ((some v9)) () rfl rfl (fun _ s=>(SC.i SC.t (SC.r (SC.l s)))))))) fun g16 x17=>(XB (EvS.ev (EvB.sh (ZV true))))))
theorem Z7 : FnScope ["_law_table_here", "_law_some", "_law_there", "_law_colour", "_law_k", "_law_a", "_law_b"] ["_law_table_here", "_law_some"] (Xh ZM):=⟨rfl, rfl, rfl, by decide +kernel, rfl, by decide +kernel, by decide +kernel⟩
set_option maxHeartbeats 4000000 in
theorem CS (D : Def K mg "_law_grown" ZM ["_law_table_here", "_law_some"])  (Y : Ecs XR K mg) (Z : Blt mg) : Fn P w K mg base 1 "_law_grown" ["_law_table_here", "_law_some"] (sp2 (rV (rV Xc)) (rV Xc) (oL (oF Xc)) QH K):=by
  refine Zf D Z7 (fun vs H Q E h=>?_) (fun f cdv A outer s H vs Q E hr h=>?_)
  . obtain ⟨v_0, v_1, a_0, a_1, b, rfl, _⟩:=h; rfl
  obtain ⟨v_0, v_1, a_0, a_1, b, rfl, h_0, h_1, hm, q⟩:=h
  have hu:=hu8 hr
  have hu1:=Y1 hr
  refine ⟨_, (Xb (XJ (i:=2) Z7.nd rfl (Or.inr rfl) (Xt VE (Yn (Xd QC Xg)) (Xu (Xm K rfl) rfl Z.b_len PySem.boot_len (Xd (pv 0) Xg))))
    (Xb (Yg PassesOwn.never rfl (X2 (K:=K) rfl (pv 1)) (Xr (i:=3) Z7.nd rfl (Or.inl rfl))
      (Xb (Ju QC (J0 (pv 2) (pv 3) ZD))
      Xf))
    (Xb (Yg PassesOwn.never rfl (XQ rfl Z.b_range (Xd (Xu (Xm K rfl) rfl Z.b_len PySem.boot_len (Xd (pv 0) Xg)) Xg)) (Xr (i:=4) Z7.nd rfl (Or.inl rfl))
      (Xb (Yg PassesOwn.never rfl (XQ rfl Z.b_range (Xd (Xu (Xm K rfl) rfl Z.b_len PySem.boot_len (Xd (pv 0) Xg)) Xg)) (Xr (i:=5) Z7.nd rfl (Or.inl rfl))
        (Xb (Yg PassesOwn.never rfl (XQ rfl Z.b_range (Xd (Xu (Xm K rfl) rfl Z.b_len PySem.boot_len (Xd (pv 0) Xg)) Xg)) (Xr (i:=6) Z7.nd rfl (Or.inl rfl))
          (Xb (Yx (PW.pt (ZN (Qc (XU (Xk K rfl) (pv 2) (pv 5) (fun _ _=>rfl))) (Qi (Qc (XU (Xk K rfl) (pv 2) (pv 6) (fun _ _=>rfl))))))
            (Xb (Ju QC (J0 (pv 2) (XU (Xk K rfl) (XU (Xk K rfl) (pv 0) (pv 5) (fun _ _=>rfl)) (pv 6) (fun _ _=>rfl)) ZD))
            Xf)
            Xf)
          Xf))
        Xf))
      Xf))
    (Xb (Xz (ZG (sc:=(Xh ZM)) (N0:=["_law_table_here", "_law_some", "_law_there", "_law_colour", "_law_k", "_law_a", "_law_b"]) (tns:=["_law_colour"]) (caps:=[(2, "_law_there")]) rfl (XQ rfl Z.b_range (Xd (Xu (Xm K rfl) rfl Z.b_len PySem.boot_len (Xd (pv 0) Xg)) Xg)) (YF (by decide)) (fun cl C s H ex E=>⟨Xr (i:=0) (show List.Nodup (["_law_colour", "_law_there"] : List Str) by decide +kernel) rfl (Or.inl rfl), (V2 (Qc (XU (Xk K rfl) (pv 1) (pv 0) (fun _ _=>rfl)))), (pv 0)⟩)))
    Xf)))), ?_⟩
  refine Ze (S:=(SC.add (SC.add SC.nil K (rV (rV Xc)) v_0 a_0) K (rV Xc) v_1 a_1)) (σ:=[some v_0, some v_1, none, none, none, none, none]) 1 ?_ (SC.i (SC.i SC.t h_0) h_1) hm q rfl
  unfold QH
  exact (Yp (K:=K) (o:=(oL (oF XH))) 2 0 (Vv (Ev.ls (Y7 (Xs (EvB.sh (ZV false)) Ys))) (Yd (Xa (r:=(rV (rV Xc))) 0 rfl (fun _ s=>(SC.r (SC.l s)))))) (Nat.le_of_ble_eq_true rfl) fun a1 v2 C3=>(YR (K:=K) (J:=({ oo:=fun x10=>[x10.2.2], ss:=fun x10=>[some v_0, some v_1, some x10.2.1, x10.1, none, none, none], sc:=fun g11 x10=>(SC.addO (SC.add (SC.add SC.nil K (rV (rV Xc)) v_0 a_0) K (rV Xc) v_1 a_1) K (oL (oF XH)) x10.2.1 g11 x10.2.2) } : Jn ((List Bool)) (Option V × V × List XG))) (fun _=>tg1 3) ((none), v2, C3) (a1) (XW (Xn (r:=(rV Xc)) 1 rfl (fun _ s=>(SC.r (SC.l s))))) rfl rfl (fun _ s=>(SC.i (SC.i (SC.i SC.t (SC.r (SC.l (SC.l s)))) (SC.r (SC.l s))) (SC.r s))) (fun g12 x13 a14 v15=>(Jd (K:=K) (o:=(oF XH)) 2 0 rfl rfl (fun _ s=>(SC.r (SC.l s))) (EvS.ev (EvB.sh (ZV true))) (fun _=>(Xa (r:=Xc) 3 rfl (fun _ s=>(SC.r s)))) fun a18 C19=>(XL (J:=_) ((some v15), x13.2.1, C19) (a18) rfl rfl (fun _ s=>(SC.i (SC.i (SC.i SC.t (SC.r (SC.l (SC.l (SC.l (SC.l s)))))) (SC.r (SC.l (SC.l (SC.l s))))) (SC.r s)))))) fun g20 x21=>(YR (K:=K) (J:=({ oo:=fun x24=>[x24.2.2.2.2], ss:=fun x24=>[some v_0, some v_1, some x24.2.2.2.1, x21.1, x24.1, x24.2.1, x24.2.2.1], sc:=fun g25 x24=>(SC.addO (SC.add (SC.add SC.nil K (rV (rV Xc)) v_0 a_0) K (rV Xc) v_1 a_1) K (oL (oF XH)) x24.2.2.2.1 g25 x24.2.2.2.2) } : Jn ((List Bool)) (Option V × Option V × Option V × V × List XG))) (fun _=>tg1 4) ((none), (none), (none), x21.2.1, x21.2.2) (g20) (Xy (Yd (Xa (r:=(rV (rV Xc))) 0 rfl (fun _ s=>(SC.r (SC.l (SC.l s))))))) rfl rfl (fun _ s=>(SC.i (SC.i (SC.i SC.t (SC.r (SC.l (SC.l s)))) (SC.r (SC.l s))) (SC.r s))) (fun g26 x27 a28 v29=>(YR (K:=K) (J:=({ oo:=fun x32=>[x32.2.2.2], ss:=fun x32=>[some v_0, some v_1, some x32.2.2.1, x21.1, some v29, x32.1, x32.2.1], sc:=fun g33 x32=>(SC.addO (SC.add (SC.add (SC.add SC.nil K (rV (rV Xc)) v_0 a_0) K (rV Xc) v_1 a_1) K Xc v29 a28) K (oL (oF XH)) x32.2.2.1 g33 x32.2.2.2) } : Jn ((List Bool)) (Option V × Option V × V × List XG))) (fun _=>tg1 5) ((x27.2.1), (x27.2.2.1), x27.2.2.2.1, x27.2.2.2.2) (g26) (Xy (Yd (Xa (r:=(rV (rV Xc))) 0 rfl (fun _ s=>(SC.r (SC.l (SC.l (SC.l s)))))))) rfl rfl (fun _ s=>(SC.i (SC.i (SC.i (SC.i SC.t (SC.r (SC.l (SC.l (SC.l s))))) (SC.r (SC.l (SC.l s)))) (SC.r s)) (SC.r (SC.l s)))) (fun g34 x35 a36 v37=>(YR (K:=K) (J:=({ oo:=fun x40=>[x40.2.2], ss:=fun x40=>[some v_0, some v_1, some x40.2.1, x21.1, some v29, some v37, x40.1], sc:=fun g41 x40=>(SC.addO (SC.add (SC.add (SC.add (SC.add SC.nil K (rV (rV Xc)) v_0 a_0) K (rV Xc) v_1 a_1) K Xc v29 a28) K Xc v37 a36) K (oL (oF XH)) x40.2.1 g41 x40.2.2) } : Jn ((List Bool)) (Option V × V × List XG))) (fun _=>tg1 6) ((x35.2.1), x35.2.2.1, x35.2.2.2) (g34) (Xy (Yd (Xa (r:=(rV (rV Xc))) 0 rfl (fun _ s=>(SC.r (SC.l (SC.l (SC.l (SC.l s))))))))) rfl rfl (fun _ s=>(SC.i (SC.i (SC.i (SC.i (SC.i SC.t (SC.r (SC.l (SC.l (SC.l (SC.l s)))))) (SC.r (SC.l (SC.l (SC.l s))))) (SC.r (SC.l (SC.l s)))) (SC.r s)) (SC.r (SC.l s)))) (fun g42 x43 a44 v45=>(ZZ (J:=({ oo:=fun x51=>[x51.2], ss:=fun x51=>[some v_0, some v_1, some x51.1, x21.1, some v29, some v37, some v45], sc:=fun g52 x51=>(SC.addO (SC.add (SC.add (SC.add (SC.add (SC.add SC.nil K (rV (rV Xc)) v_0 a_0) K (rV Xc) v_1 a_1) K Xc v29 a28) K Xc v37 a36) K Xc v45 a44) K (oL (oF XH)) x51.1 g52 x51.2) } : Jn ((List Bool)) (V × List XG))) (QZ (Fd:=FNd ({ oo:=fun x51=>[x51.2], ss:=fun x51=>[some v_0, some v_1, some x51.1, x21.1, some v29, some v37, some v45], sc:=fun g52 x51=>(SC.addO (SC.add (SC.add (SC.add (SC.add (SC.add SC.nil K (rV (rV Xc)) v_0 a_0) K (rV Xc) v_1 a_1) K Xc v29 a28) K Xc v37 a36) K Xc v45 a44) K (oL (oF XH)) x51.1 g52 x51.2) } : Jn ((List Bool)) (V × List XG))) (YV (Q9 (K:=K) (XF (Yt (o:=(oL (oF XH))) 2 0 rfl rfl (fun _ s=>(SC.r (SC.l s)))) (Xa (r:=Xc) 5 rfl (fun _ s=>(SC.r (SC.l (SC.l s))))))) (Q9 (K:=K) (XF (Yt (o:=(oL (oF XH))) 2 0 rfl rfl (fun _ s=>(SC.r (SC.l s)))) (Xa (r:=Xc) 6 rfl (fun _ s=>(SC.r s)))))) (Jd (K:=K) (o:=(oF XH)) 2 0 rfl rfl (fun _ s=>(SC.r (SC.l s))) (EvS.ev (EvB.sh (ZV true))) (fun _=>(XF (XF (Xa (r:=(rV (rV Xc))) 0 rfl (fun _ s=>(SC.r (SC.l (SC.l (SC.l (SC.l (SC.l s)))))))) (Xa (r:=Xc) 5 rfl (fun _ s=>(SC.r (SC.l (SC.l s)))))) (Xa (r:=Xc) 6 rfl (fun _ s=>(SC.r s))))) fun a59 C60=>(XL (J:=_) (x43.2.1, C60) (a59) rfl rfl (fun _ s=>(SC.i (SC.i (SC.i (SC.i (SC.i (SC.i SC.t (SC.r (SC.l (SC.l (SC.l (SC.l (SC.l (SC.l s)))))))) (SC.r (SC.l (SC.l (SC.l (SC.l (SC.l s))))))) (SC.r (SC.l (SC.l (SC.l (SC.l s)))))) (SC.r (SC.l (SC.l (SC.l s))))) (SC.r (SC.l s))) (SC.r s))))) (XL (J:=_) (x43.2.1, x43.2.2) (g42) rfl rfl (fun _ s=>(SC.i (SC.i (SC.i (SC.i (SC.i (SC.i SC.t (SC.r (SC.l (SC.l (SC.l (SC.l (SC.l s))))))) (SC.r (SC.l (SC.l (SC.l (SC.l s)))))) (SC.r (SC.l (SC.l (SC.l s))))) (SC.r (SC.l (SC.l s)))) (SC.r s)) (SC.r (SC.l s)))))) fun g62 x61=>(XL (J:=_) ((some v45), x61.1, x61.2) (g62) rfl rfl (fun _ s=>(SC.i (SC.i (SC.i (SC.i (SC.i SC.t (SC.r (SC.l (SC.l (SC.l (SC.l (SC.l s))))))) (SC.r (SC.l (SC.l (SC.l (SC.l s)))))) (SC.r (SC.l (SC.l (SC.l s))))) (SC.r (SC.l (SC.l s)))) (SC.r s)))))) fun g63 x64=>(XL (J:=_) ((some v37), (x64.1), x64.2.1, x64.2.2) (g63) rfl rfl (fun _ s=>(SC.i (SC.i (SC.i (SC.i SC.t (SC.r (SC.l (SC.l (SC.l (SC.l s)))))) (SC.r (SC.l (SC.l (SC.l s))))) (SC.r (SC.l (SC.l s)))) (SC.r s)))))) fun g66 x67=>(XL (J:=_) ((some v29), (x67.1), (x67.2.1), x67.2.2.1, x67.2.2.2) (g66) rfl rfl (fun _ s=>(SC.i (SC.i (SC.i SC.t (SC.r (SC.l (SC.l (SC.l s))))) (SC.r (SC.l (SC.l s)))) (SC.r s)))))) fun g69 x70=>(XB (Jc (fun _=>tg1 0) (Xy (Yd (Xa (r:=(rV (rV Xc))) 0 rfl (fun _ s=>(SC.r (SC.l (SC.l s))))))) (fun C73 a74 v75=>(Q9 (K:=K) (XF (Yt (o:=(oL (oF XH))) 1 1 rfl rfl (fun _ s=>(SC.r (SC.l s)))) (Xa (r:=Xc) 0 rfl (fun _ s=>(SC.r s)))))) (fun C73 a74 v75=>(EvS.ev (Xn (r:=Xc) 0 rfl (fun _ s=>(SC.r s))))))))))
theorem YC : FnScope ["_law_table_here", "_law_least", "_law_k", "_law_a", "_law_colour", "_law_low", "_law_found", "_law_one", "_law_linked_here"] ["_law_table_here"] (Xh YZ):=⟨rfl, rfl, rfl, by decide +kernel, rfl, by decide +kernel, by decide +kernel⟩
set_option maxHeartbeats 4000000 in
theorem Fw (D : Def K mg "_law_linked" YZ ["_law_table_here"])  (Y : Ecs XR K mg) (Z : Blt mg) : Fn P w K mg base 1 "_law_linked" ["_law_table_here"] (sp1 (rV (rV Xc)) (oL (oL (oF Xc))) Z4 K):=by
  refine Zf D YC (fun vs H Q E h=>?_) (fun f cdv A outer s H vs Q E hr h=>?_)
  . obtain ⟨v_0, a_0, b, rfl, _⟩:=h; rfl
  obtain ⟨v_0, a_0, b, rfl, h_0, hm, q⟩:=h
  have hu:=hu8 hr
  have hu1:=Y1 hr
  refine ⟨_, (Xb (XJ (i:=1) YC.nd rfl (Or.inr rfl) (Zh rfl rfl rfl Z.b_list Z.b_range (Xd (Xu (Xm K rfl) rfl Z.b_len PySem.boot_len (Xd (pv 0) Xg)) Xg)))
    (Xb (Yg PassesOwn.never rfl (XQ rfl Z.b_range (Xd (Xu (Xm K rfl) rfl Z.b_len PySem.boot_len (Xd (pv 0) Xg)) Xg)) (Xr (i:=2) YC.nd rfl (Or.inl rfl))
      (Xb (Yg PassesOwn.never rfl (XQ rfl Z.b_range (Xd (Xu (Xm K rfl) rfl Z.b_len PySem.boot_len (Xd (pv 0) Xg)) Xg)) (Xr (i:=3) YC.nd rfl (Or.inl rfl))
        (Xb (Yg PassesOwn.never rfl (X2 (K:=K) rfl (XU (Xk K rfl) (pv 0) (pv 3) (fun _ _=>rfl))) (Xr (i:=4) YC.nd rfl (Or.inl rfl))
          (Xb (XJ (i:=5) YC.nd rfl (Or.inl rfl) (Xu (Uv rfl) rfl Z.b_min PyProof.Rows.boot_min (Xd (XU (Xk K rfl) (pv 1) (pv 3) (fun _ _=>rfl)) (Xd (XU (Xk K rfl) (pv 1) (pv 4) (fun _ _=>rfl)) Xg))))
          (Xb (Ju (pv 5) (J0 (pv 1) (pv 3) ZD))
          (Xb (Ju (pv 5) (J0 (pv 1) (pv 4) ZD))
          Xf))))
        Xf))
      Xf))
    (Xb (XJ (i:=6) YC.nd rfl (Or.inl rfl) (Yn Xg))
    (Xb (Yg PassesOwn.never rfl (XQ rfl Z.b_range (Xd (Xu (Xm K rfl) rfl Z.b_len PySem.boot_len (Xd (pv 0) Xg)) Xg)) (Xr (i:=7) YC.nd rfl (Or.inr rfl))
      (Xb (QR 8 (Xh YZ) ["_law_table_here", "_law_least", "_law_k", "_law_a", "_law_colour", "_law_low", "_law_found", "_law_one", "_law_linked_here"] ["_law_a"] [(1, "_law_least"), (7, "_law_one")] rfl YC.nd rfl rfl (XQ rfl Z.b_range (Xd (Xu (Xm K rfl) rfl Z.b_len PySem.boot_len (Xd (pv 0) Xg)) Xg)) (YF (by decide)) (fun cl C s H ex E=>⟨Xr (i:=0) (show List.Nodup (["_law_a", "_law_least", "_law_one"] : List Str) by decide +kernel) rfl (Or.inl rfl), (V2 (Xq Zz (XU (Xk K rfl) (pv 1) (pv 0) (fun _ _=>rfl)) (pv 2) (XE _))), (pv 0)⟩))
      (Xb (Yx (Xq DX (Xu (Xm K rfl) rfl Z.b_len PySem.boot_len (Xd (pv 8) Xg)) Xi (XE _))
        (Xb (Zq (Q8 PySem.F.plainAttrs_list PySem.F.slot_list_append PySem.F.type_list_append Yq (pv 6) (Xd (pv 8) Xg)))
        Xf)
        Xf)
      Xf)))
    (Xb (Xz (pv 6))
    Xf))))), ?_⟩
  refine Ze (S:=(SC.add SC.nil K (rV (rV Xc)) v_0 a_0)) (σ:=[some v_0, none, none, none, none, none, none, none, none]) 3 ?_ (SC.i SC.t h_0) hm q rfl
  unfold Z4
  exact (Yp (K:=K) (o:=(oL (oF Xc))) 1 1 (Zn (Yd (Xa (r:=(rV (rV Xc))) 0 rfl (fun _ s=>(SC.r s))))) (Nat.le_of_ble_eq_true rfl) fun a1 v2 C3=>(YR (K:=K) (J:=({ oo:=fun x8=>[[], x8.2.2.2.2.2, []], ss:=fun x8=>[some v_0, some x8.2.2.2.2.1, x8.1, x8.2.1, x8.2.2.1, x8.2.2.2.1, none, none, none], sc:=fun g9 x8=>(SC.addO (SC.add SC.nil K (rV (rV Xc)) v_0 a_0) K (oL (oF Xc)) x8.2.2.2.2.1 g9 x8.2.2.2.2.2) } : Jn ((List Int)) (Option V × Option V × Option V × Option V × V × List XG))) (fun _=>tg1 2) ((none), (none), (none), (none), v2, C3) (a1) (Xy (Yd (Xa (r:=(rV (rV Xc))) 0 rfl (fun _ s=>(SC.r (SC.l s)))))) rfl rfl (fun _ s=>(SC.i (SC.i SC.t (SC.r (SC.l s))) (SC.r s))) (fun g10 x11 a12 v13=>(YR (K:=K) (J:=({ oo:=fun x16=>[[], x16.2.2.2.2, []], ss:=fun x16=>[some v_0, some x16.2.2.2.1, some v13, x16.1, x16.2.1, x16.2.2.1, none, none, none], sc:=fun g17 x16=>(SC.addO (SC.add (SC.add SC.nil K (rV (rV Xc)) v_0 a_0) K Xc v13 a12) K (oL (oF Xc)) x16.2.2.2.1 g17 x16.2.2.2.2) } : Jn ((List Int)) (Option V × Option V × Option V × V × List XG))) (fun _=>tg1 3) ((x11.2.1), (x11.2.2.1), (x11.2.2.2.1), x11.2.2.2.2.1, x11.2.2.2.2.2) (g10) (Xy (Yd (Xa (r:=(rV (rV Xc))) 0 rfl (fun _ s=>(SC.r (SC.l (SC.l s))))))) rfl rfl (fun _ s=>(SC.i (SC.i (SC.i SC.t (SC.r (SC.l (SC.l s)))) (SC.r s)) (SC.r (SC.l s)))) (fun g18 x19 a20 v21=>(YR (K:=K) (J:=({ oo:=fun x24=>[[], x24.2.2.2, []], ss:=fun x24=>[some v_0, some x24.2.2.1, some v13, some v21, x24.1, x24.2.1, none, none, none], sc:=fun g25 x24=>(SC.addO (SC.add (SC.add (SC.add SC.nil K (rV (rV Xc)) v_0 a_0) K Xc v13 a12) K Xc v21 a20) K (oL (oF Xc)) x24.2.2.1 g25 x24.2.2.2) } : Jn ((List Int)) (Option V × Option V × V × List XG))) (fun _=>tg1 4) ((x19.2.1), (x19.2.2.1), x19.2.2.2.1, x19.2.2.2.2) (g18) (XW (Ib (EvS.ls (Xn (r:=(rV (rV Xc))) 0 rfl (fun _ s=>(SC.r (SC.l (SC.l (SC.l s))))))) (Xa (r:=Xc) 3 rfl (fun _ s=>(SC.r s))))) rfl rfl (fun _ s=>(SC.i (SC.i (SC.i (SC.i SC.t (SC.r (SC.l (SC.l (SC.l s))))) (SC.r (SC.l (SC.l s)))) (SC.r s)) (SC.r (SC.l s)))) (fun g26 x27 a28 v29=>(XY (K:=K) (r:=Xc) 5 (EvB.sh (Fz (XF (Yt (o:=(oL (oF Xc))) 1 1 rfl rfl (fun _ s=>(SC.r (SC.l s)))) (Xa (r:=Xc) 3 rfl (fun _ s=>(SC.r (SC.l (SC.l s)))))) (XF (Yt (o:=(oL (oF Xc))) 1 1 rfl rfl (fun _ s=>(SC.r (SC.l s)))) (Xa (r:=Xc) 4 rfl (fun _ s=>(SC.r s)))))) fun a30 v31=>(Jd (K:=K) (o:=(oF Xc)) 1 1 rfl rfl (fun _ s=>(SC.r (SC.l (SC.l s)))) (EvS.ev (Xn (r:=Xc) 5 rfl (fun _ s=>(SC.r s)))) (fun _=>(Xa (r:=Xc) 3 rfl (fun _ s=>(SC.r (SC.l (SC.l (SC.l s))))))) fun a40 C41=>(Jd (K:=K) (o:=(oF Xc)) 1 1 rfl rfl (fun _ s=>(SC.r s)) (EvS.ev (Xn (r:=Xc) 5 rfl (fun _ s=>(SC.r (SC.l s))))) (fun _=>(Xa (r:=Xc) 4 rfl (fun _ s=>(SC.r (SC.l (SC.l s)))))) fun a44 C45=>(XL (J:=_) ((some v29), (some v31), x27.2.2.1, C45) (a44) rfl rfl (fun _ s=>(SC.i (SC.i (SC.i (SC.i SC.t (SC.r (SC.l (SC.l (SC.l (SC.l (SC.l (SC.l (SC.l s))))))))) (SC.r (SC.l (SC.l (SC.l (SC.l (SC.l (SC.l s)))))))) (SC.r (SC.l (SC.l (SC.l (SC.l (SC.l s))))))) (SC.r s)))))))) fun g46 x47=>(XL (J:=_) ((some v21), (x47.1), (x47.2.1), x47.2.2.1, x47.2.2.2) (g46) rfl rfl (fun _ s=>(SC.i (SC.i (SC.i SC.t (SC.r (SC.l (SC.l (SC.l s))))) (SC.r (SC.l (SC.l s)))) (SC.r s)))))) fun g49 x50=>(XL (J:=_) ((some v13), (x50.1), (x50.2.1), (x50.2.2.1), x50.2.2.2.1, x50.2.2.2.2) (g49) rfl rfl (fun _ s=>(SC.i (SC.i SC.t (SC.r (SC.l (SC.l s)))) (SC.r s)))))) fun g52 x53=>(Yp (K:=K) (o:=(oL (oL (oF Xc)))) 6 0 (GQ (o:=(oL (oF Xc)))) (Nat.le_of_ble_eq_true rfl) fun a54 v55 C56=>(YR (K:=K) (J:=({ oo:=fun x59=>[x59.2.2.2, x53.2.2.2.2.2, []], ss:=fun x59=>[some v_0, some x53.2.2.2.2.1, x53.1, x53.2.1, x53.2.2.1, x53.2.2.2.1, some x59.2.2.1, x59.1, x59.2.1], sc:=fun g60 x59=>(SC.addO (SC.addO (SC.add SC.nil K (rV (rV Xc)) v_0 a_0) K (oL (oF Xc)) x53.2.2.2.2.1 g52 x53.2.2.2.2.2) K (oL (oL (oF Xc))) x59.2.2.1 g60 x59.2.2.2) } : Jn ((List (List Int))) (Option V × Option V × V × List XG))) (fun _=>tg1 7) ((none), (none), v55, C56) (a54) (Xy (Yd (Xa (r:=(rV (rV Xc))) 0 rfl (fun _ s=>(SC.r (SC.l (SC.l s))))))) rfl rfl (fun _ s=>(SC.i (SC.i (SC.i SC.t (SC.r (SC.l (SC.l s)))) (SC.r (SC.l s))) (SC.r s))) (fun g61 x62 a63 v64=>(Yp (K:=K) (o:=(oL (oF Xc))) 8 2 (Jc (fun _=>tg1 0) (Xy (Yd (Xa (r:=(rV (rV Xc))) 0 rfl (fun _ s=>(SC.r (SC.l (SC.l (SC.l s)))))))) (fun C70 a71 v72=>(Xl (K:=K) (Yv (XF (Yt (o:=(oL (oF Xc))) 1 2 rfl rfl (fun _ s=>(SC.r (SC.l (SC.l (SC.l s)))))) (Xa (r:=Xc) 0 rfl (fun _ s=>(SC.r s)))) (Xa (r:=Xc) 2 rfl (fun _ s=>(SC.r (SC.l s))))))) (fun C70 a71 v72=>(EvS.ev (Xn (r:=Xc) 0 rfl (fun _ s=>(SC.r s)))))) (Nat.le_of_ble_eq_true rfl) fun a65 v66 C67=>(ZZ (J:=({ oo:=fun x82=>[x82.2.2, x53.2.2.2.2.2, []], ss:=fun x82=>[some v_0, some x53.2.2.2.2.1, x53.1, x53.2.1, x53.2.2.1, x53.2.2.2.1, some x82.1, some v64, x82.2.1], sc:=fun g83 x82=>(SC.addO (SC.add (SC.addO (SC.add SC.nil K (rV (rV Xc)) v_0 a_0) K (oL (oF Xc)) x53.2.2.2.2.1 g52 x53.2.2.2.2.2) K Xc v64 a63) K (oL (oL (oF Xc))) x82.1 g83 x82.2.2) } : Jn ((List (List Int))) (V × Option V × List XG))) (QZ (Fd:=FNd ({ oo:=fun x82=>[x82.2.2, x53.2.2.2.2.2, []], ss:=fun x82=>[some v_0, some x53.2.2.2.2.1, x53.1, x53.2.1, x53.2.2.1, x53.2.2.2.1, some x82.1, some v64, x82.2.1], sc:=fun g83 x82=>(SC.addO (SC.add (SC.addO (SC.add SC.nil K (rV (rV Xc)) v_0 a_0) K (oL (oF Xc)) x53.2.2.2.2.1 g52 x53.2.2.2.2.2) K Xc v64 a63) K (oL (oL (oF Xc))) x82.1 g83 x82.2.2) } : Jn ((List (List Int))) (V × Option V × List XG))) (Xl (K:=K) (UQ (Yd (Yt (o:=(oL (oF Xc))) 8 2 rfl rfl (fun _ s=>(SC.r s)))) (Xe 0))) (Js (K:=K) (o:=(oL (oF Xc))) (f:=fun a86=>(Res.ok (a86))) 6 0 rfl rfl rfl (fun _ s=>(SC.r (SC.l (SC.l s)))) (Zd (o:=(oL (oF Xc))) 8 2 rfl rfl (fun _ s=>(SC.r s))) fun a84 C85=>(XL (J:=_) (x62.2.2.1, (some v66), C85) ((g61 ++ [a84])) rfl rfl (fun _ s=>(SC.i (SC.i (SC.i (SC.i SC.t (SC.r (SC.l (SC.l (SC.l (SC.l (SC.l s))))))) (SC.r (SC.l (SC.l (SC.l (SC.l s)))))) (SC.r (SC.l (SC.l s)))) (SC.r s))))) (En 2 (XL (J:=_) (x62.2.2.1, (some v66), x62.2.2.2) (g61) rfl rfl (fun _ s=>(SC.i (SC.i (SC.i (SC.i SC.t (SC.r (SC.l (SC.l (SC.l (SC.l s)))))) (SC.r (SC.l (SC.l (SC.l s))))) (SC.r (SC.l s))) (SC.r (SC.l (SC.l s)))))))) fun g88 x87=>(XL (J:=_) ((some v64), (x87.2.1), x87.1, x87.2.2) (g88) rfl rfl (fun _ s=>(SC.i (SC.i (SC.i SC.t (SC.r (SC.l (SC.l (SC.l s))))) (SC.r (SC.l (SC.l s)))) (SC.r s))))))) fun g89 x90=>(XB (Zd (o:=(oL (oL (oF Xc)))) 6 0 rfl rfl (fun _ s=>(SC.r s))))))))
theorem UB : FnScope ["_law_table_here", "_law_members", "_law_found", "_law_a", "_law_line", "_law_b"] ["_law_table_here", "_law_members"] (Xh UM):=⟨rfl, rfl, rfl, by decide +kernel, rfl, by decide +kernel, by decide +kernel⟩
set_option maxHeartbeats 4000000 in
theorem HN (D : Def K mg "_law_due" UM ["_law_table_here", "_law_members"])  (Y : Ecs XR K mg) (Z : Blt mg) : Fn P w K mg base 1 "_law_due" ["_law_table_here", "_law_members"] (sp2 (rV (rV Xc)) (rV Xc) (Hn (oL (oL (oF Xc)))) K0 K):=by
  refine Zf D UB (fun vs H Q E h=>?_) (fun f cdv A outer s H vs Q E hr h=>?_)
  . obtain ⟨v_0, v_1, a_0, a_1, b, rfl, _⟩:=h; rfl
  obtain ⟨v_0, v_1, a_0, a_1, b, rfl, h_0, h_1, hm, q⟩:=h
  have hu:=hu8 hr
  have hu1:=Y1 hr
  refine ⟨_, (Xb (XJ (i:=2) UB.nd rfl (Or.inl rfl) (Yn Xg))
    (Xb (Yg PassesOwn.never rfl (X2 (K:=K) rfl (pv 1)) (Xr (i:=3) UB.nd rfl (Or.inl rfl))
      (Xb (XJ (i:=4) UB.nd rfl (Or.inl rfl) (Yn Xg))
      (Xb (Yg PassesOwn.never rfl (X2 (K:=K) rfl (pv 1)) (Xr (i:=5) UB.nd rfl (Or.inl rfl))
        (Xb (Yx (Xq Us (XU (Xk K rfl) (XU (Xk K rfl) (pv 0) (pv 3) (fun _ _=>rfl)) (pv 5) (fun _ _=>rfl)) (pv 1) rfl)
          (Xb (Xz UV)
          Xf)
          Xf)
        (Xb (Zq (Q8 PySem.F.plainAttrs_list PySem.F.slot_list_append PySem.F.type_list_append Yq (pv 4) (Xd (HA (K:=K) rfl PySem.F.plainAttrs_list PySem.F.slot_list_index PySem.F.type_list_index (DL K rfl) (pv 1) (Xd (XU (Xk K rfl) (XU (Xk K rfl) (pv 0) (pv 3) (fun _ _=>rfl)) (pv 5) (fun _ _=>rfl)) Xg)) Xg)))
        Xf)))
      (Xb (Zq (Q8 PySem.F.plainAttrs_list PySem.F.slot_list_append PySem.F.type_list_append Yq (pv 2) (Xd (pv 4) Xg)))
      Xf))))
    (Xb (Yx (Xq Zz (Xu (Xm K rfl) rfl Z.b_len PySem.boot_len (Xd (pv 2) Xg)) Xi (XE _))
      (Xb (Xz UV)
      Xf)
      Xf)
    (Xb (Xz (pv 2))
    Xf)))), ?_⟩
  refine Ze (S:=(SC.add (SC.add SC.nil K (rV (rV Xc)) v_0 a_0) K (rV Xc) v_1 a_1)) (σ:=[some v_0, some v_1, none, none, none, none]) 2 ?_ (SC.i (SC.i SC.t h_0) h_1) hm q rfl
  unfold K0
  exact (Yp (K:=K) (o:=(oL (oL (oF Xc)))) 2 0 (GQ (o:=(oL (oF Xc)))) (Nat.le_of_ble_eq_true rfl) fun a1 v2 C3=>(Kx (K:=K) (J:=({ oo:=fun x4=>[x4.2.2.2.2, []], ss:=fun x4=>[some v_0, some v_1, some x4.2.2.2.1, x4.1, x4.2.1, x4.2.2.1], sc:=fun g5 x4=>(SC.addO (SC.add (SC.add SC.nil K (rV (rV Xc)) v_0 a_0) K (rV Xc) v_1 a_1) K (oL (oL (oF Xc))) x4.2.2.2.1 g5 x4.2.2.2.2) } : Jn ((List (List Int))) (Option V × Option V × Option V × V × List XG))) (fun _=>tg1 3) ((none), (none), (none), v2, C3) (a1) (XW (Xn (r:=(rV Xc)) 1 rfl (fun _ s=>(SC.r (SC.l s))))) rfl rfl (fun _ s=>(SC.i (SC.i (SC.i SC.t (SC.r (SC.l (SC.l s)))) (SC.r (SC.l s))) (SC.r s))) (fun g6 x7 a8 v9=>(Yp (K:=K) (o:=(oL (oF Xc))) 4 1 (GQ (o:=(oF Xc))) (Nat.le_of_ble_eq_true rfl) fun a10 v11 C12=>(Gw (K:=K) (J:=({ oo:=fun x13=>[x7.2.2.2.2, x13.2.2], ss:=fun x13=>[some v_0, some v_1, some x7.2.2.2.1, some v9, some x13.2.1, x13.1], sc:=fun g14 x13=>(SC.addO (SC.add (SC.addO (SC.add (SC.add SC.nil K (rV (rV Xc)) v_0 a_0) K (rV Xc) v_1 a_1) K (oL (oL (oF Xc))) x7.2.2.2.1 g6 x7.2.2.2.2) K Xc v9 a8) K (oL (oF Xc)) x13.2.1 g14 x13.2.2) } : Jn ((List Int)) (Option V × V × List XG))) (fun _=>tg1 5) ((x7.2.2.1), v11, C12) (a10) (XW (Xn (r:=(rV Xc)) 1 rfl (fun _ s=>(SC.r (SC.l (SC.l (SC.l s))))))) rfl rfl (fun _ s=>(SC.i (SC.i (SC.i (SC.i (SC.i SC.t (SC.r (SC.l (SC.l (SC.l (SC.l s)))))) (SC.r (SC.l (SC.l (SC.l s))))) (SC.r (SC.l (SC.l s)))) (SC.r (SC.l s))) (SC.r s))) (fun g15 x16 a17 v18=>(KO (Xl (K:=K) (Hh (XF (XF (Xa (r:=(rV (rV Xc))) 0 rfl (fun _ s=>(SC.r (SC.l (SC.l (SC.l (SC.l (SC.l s)))))))) (Xa (r:=Xc) 3 rfl (fun _ s=>(SC.r (SC.l (SC.l s)))))) (Xa (r:=Xc) 5 rfl (fun _ s=>(SC.r s)))) (Xa (r:=(rV Xc)) 1 rfl (fun _ s=>(SC.r (SC.l (SC.l (SC.l (SC.l s))))))))) (XB BX) (Js (K:=K) (o:=(oF Xc)) (f:=fun a34=>(Res.bind (Res.ok (a34)) fun x35=>(Res.ok (Ctl.nx x35)))) 4 1 rfl rfl rfl (fun _ s=>(SC.r (SC.l s))) (EvS.ev (EvB.sh (DT (Xa (r:=(rV Xc)) 1 rfl (fun _ s=>(SC.r (SC.l (SC.l (SC.l (SC.l s))))))) (XF (XF (Xa (r:=(rV (rV Xc))) 0 rfl (fun _ s=>(SC.r (SC.l (SC.l (SC.l (SC.l (SC.l s)))))))) (Xa (r:=Xc) 3 rfl (fun _ s=>(SC.r (SC.l (SC.l s)))))) (Xa (r:=Xc) 5 rfl (fun _ s=>(SC.r s))))))) fun a32 C33=>(Uw (XL (J:=_) ((some v18), x16.2.1, C33) ((g15 ++ [a32])) rfl rfl (fun _ s=>(SC.i (SC.i (SC.i (SC.i (SC.i SC.t (SC.r (SC.l (SC.l (SC.l (SC.l (SC.l (SC.l s)))))))) (SC.r (SC.l (SC.l (SC.l (SC.l (SC.l s))))))) (SC.r (SC.l (SC.l (SC.l (SC.l s)))))) (SC.r (SC.l (SC.l (SC.l s))))) (SC.r s)))))))) fun g37 x38=>(Js (K:=K) (o:=(oL (oF Xc))) (f:=fun a41=>(Res.bind (Res.ok (a41)) fun x42=>(Res.ok (Ctl.nx x42)))) 2 0 rfl rfl rfl (fun _ s=>(SC.r (SC.l (SC.l s)))) (Zd (o:=(oL (oF Xc))) 4 1 rfl rfl (fun _ s=>(SC.r s))) fun a39 C40=>(Uw (XL (J:=_) ((some v9), (some x38.2.1), (x38.1), x7.2.2.2.1, C40) ((g6 ++ [a39])) rfl rfl (fun _ s=>(SC.i (SC.i (SC.i SC.t (SC.r (SC.l (SC.l (SC.l (SC.l (SC.l s))))))) (SC.r (SC.l (SC.l (SC.l (SC.l s)))))) (SC.r s))))))))) fun g44 x45=>(YI (Xl (K:=K) (Yv (Yd (Yt (o:=(oL (oL (oF Xc)))) 2 0 rfl rfl (fun _ s=>(SC.r s)))) (Xe 0))) (XB BX) (XB (EW LY (Zd (o:=(oL (oL (oF Xc)))) 2 0 rfl rfl (fun _ s=>(SC.r s))))))))
theorem VW : FnScope ["_law_table_here", "_law_members", "_law_found", "e", "_law_alone"] ["_law_table_here", "_law_members"] (Xh QX):=⟨rfl, rfl, rfl, by decide +kernel, rfl, by decide +kernel, by decide +kernel⟩
set_option maxHeartbeats 4000000 in
theorem Ej (D : Def K mg "_law_done" QX ["_law_table_here", "_law_members"]) (g_part : FnX P w K mg base 2 "part" ["table", "members"] (IV mg (rV (rV Xc)) (rV Xc) (oL (oL (oF Xc))) QU K)) (Y : Ecs XR K mg) (Z : Blt mg) : Fn P w K mg base 3 "_law_done" ["_law_table_here", "_law_members"] (sp2 (rV (rV Xc)) (rV Xc) (oEi (oF (rP2 Ug XH)) (oT2 (oF Ug) (oL (oL (oF Xc))))) Q4 K):=by
  refine Zf D VW (fun vs H Q E h=>?_) (fun f cdv A outer s H vs Q E hr h=>?_)
  . obtain ⟨v_0, v_1, a_0, a_1, b, rfl, _⟩:=h; rfl
  obtain ⟨v_0, v_1, a_0, a_1, b, rfl, h_0, h_1, hm, q⟩:=h
  obtain ⟨C_PlaitError, h_PlaitError, q_PlaitError⟩:=Y.adr "PlaitError" (.head _)
  obtain ⟨C_TooBig, h_TooBig, q_TooBig⟩:=Y.adr "TooBig" (.tail _ (.head _))
  obtain ⟨C_NotClosed, h_NotClosed, q_NotClosed⟩:=Y.adr "NotClosed" (.tail _ (.tail _ (.head _)))
  obtain ⟨C_NoFit, h_NoFit, q_NoFit⟩:=Y.adr "NoFit" (.tail _ (.tail _ (.tail _ (.head _))))
  have hu:=hu8 hr
  have hu1:=Y1 hr
  refine ⟨_, (Xb (HJ rfl rfl rfl rfl h_PlaitError VW.nd (i:=3) rfl rfl rfl (fun pn xe E hp=>(Xb (XJ (i:=2) VW.nd rfl (Or.inl rfl) (Io g_part hr (by decide) hp (Xd (pv 0) (Xd (pv 1) Xg))))
      Xf))
     (fun pn a o C hm hc => (Xb (XJ (i := 4) VW.nd rfl (Or.inl rfl) (GA (Dy (Xu (Ue rfl hm hc rfl) rfl Z.b_isinstance PyProof.Rows.boot_isinstance (Xd (pv 3) (Xd (KZ (v := V.ref C_TooBig) rfl h_TooBig rfl) Xg)))) (Gn (Dy (Xu (Ue rfl hm hc rfl) rfl Z.b_isinstance PyProof.Rows.boot_isinstance (Xd (pv 3) (Xd (KZ (v := V.ref C_NoFit) rfl h_NoFit rfl) Xg)))))))
      (Xb (Xz (JQ (Xd Up (Xd (GA (pv 4) (Gn (Xu (Ue rfl hm hc rfl) rfl Z.b_isinstance PyProof.Rows.boot_isinstance (Xd (pv 3) (Xd (KZ (v:=V.ref C_NotClosed) rfl h_NotClosed rfl) Xg))))) Xg))))
      Xf))))
    (Xb (Xz (JQ (Xd Up (Xd (pv 2) Xg))))
    Xf)), ?_⟩
  refine Ze (S:=(SC.add (SC.add SC.nil K (rV (rV Xc)) v_0 a_0) K (rV Xc) v_1 a_1)) (σ:=[some v_0, some v_1, none, none, none]) 1 ?_ (SC.i (SC.i SC.t h_0) h_1) hm q rfl
  unfold Q4
  exact (EL (o1:=(oL (oL (oF Xc)))) (K:=K) (d:="PlaitError") (N:=5) (i:=3) Y (.head _) h_PlaitError 2 0 (fun _=>(Cd (Xa (r:=(rV (rV Xc))) 0 rfl (fun _ s=>(SC.r (SC.l s)))) (Xa (r:=(rV Xc)) 1 rfl (fun _ s=>(SC.r s))))) (Nat.le_of_ble_eq_true rfl) (fun a9 v10 C11=>(XB (Ig (GC (EvS.ev (EvB.sh (Uc _))) fun _=>(Zd (o:=(oL (oL (oF Xc)))) 2 1 rfl rfl (fun _ s=>(SC.r s))))))) (fun x1 hx C a hC=>(XY (K:=K) (r:=XH) 4 (EvB.sh (Jp (VR (KY 3 rfl (Y.att _ hx C hC) (Y.kit _ hx "TooBig" (.tail _ (.head _)) C C_TooBig hC h_TooBig))) (VR (KY 3 rfl (Y.att _ hx C hC) (Y.kit _ hx "NoFit" (.tail _ (.tail _ (.tail _ (.head _)))) C C_NoFit hC h_NoFit))))) fun a2 v3=>(XB (HD (EvS.ev (Ji (EvB.sh (Uc _)) (EvB.sh (Jp (Xa (r:=XH) 4 rfl (fun _ s=>(SC.r s))) (KY 3 rfl (Y.att _ hx C hC) (Y.kit _ hx "NotClosed" (.tail _ (.tail _ (.head _))) C C_NotClosed hC h_NotClosed)))))))))))
theorem Zu : FnScope ["_law_table_here", "_law_members", "_law_handed", "_law_colours", "_law_found", "_law_due_here", "_law_line"] ["_law_table_here", "_law_members"] (Xh Y2):=⟨rfl, rfl, rfl, by decide +kernel, rfl, by decide +kernel, by decide +kernel⟩
set_option maxHeartbeats 4000000 in
theorem DJ (D : Def K mg "_law_parted" Y2 ["_law_table_here", "_law_members"]) (g_done : Fn P w K mg base 3 "_law_done" ["_law_table_here", "_law_members"] (sp2 (rV (rV Xc)) (rV Xc) (oEi (oF (rP2 Ug XH)) (oT2 (oF Ug) (oL (oL (oF Xc))))) Q4 K)) (g_due : Fn P w K mg base 1 "_law_due" ["_law_table_here", "_law_members"] (sp2 (rV (rV Xc)) (rV Xc) (Hn (oL (oL (oF Xc)))) K0 K)) (g_is_wholes : Fn P w K mg base 2 "_law_is_wholes" ["_law_found"] (sp1 (rV Xc) (oF XH) XV K)) (Y : Ecs XR K mg) (Z : Blt mg) : Fn P w K mg base 4 "_law_parted" ["_law_table_here", "_law_members"] (sp2 (rV (rV Xc)) (rV Xc) (oF XH) ZC K):=by
  refine Zf D Zu (fun vs H Q E h=>?_) (fun f cdv A outer s H vs Q E hr h=>?_)
  . obtain ⟨v_0, v_1, a_0, a_1, b, rfl, _⟩:=h; rfl
  obtain ⟨v_0, v_1, a_0, a_1, b, rfl, h_0, h_1, hm, q⟩:=h
  have hu:=hu8 hr
  have hu1:=Y1 hr
  refine ⟨_, (Xb (QR 2 (Xh Y2) ["_law_table_here", "_law_members", "_law_handed", "_law_colours", "_law_found", "_law_due_here", "_law_line"] ["_law_line"] [] rfl Zu.nd rfl rfl (X2 (K:=K) rfl (pv 0)) (YF (by decide)) (fun cl C s H ex E=>⟨Xr (i:=0) (show List.Nodup (["_law_line"] : List Str) by decide +kernel) rfl (Or.inl rfl), Za, (Zt (Y3 K rfl) rfl Z.b_list PyProof.Rows.boot_list (Xd (pv 0) Xg))⟩))
    (Xb (XJ (i:=3) Zu.nd rfl (Or.inl rfl) (Zt (Y3 K rfl) rfl Z.b_list PyProof.Rows.boot_list (Xd (pv 1) Xg)))
    (Xb (XJ (i:=4) Zu.nd rfl (Or.inl rfl) (Yu g_done hr (by decide) (Xd (pv 2) (Xd (pv 3) Xg))))
    (Xb (Yx (PW.pt (CU (Xq (K7 (GP (GP eq_int)) (Ko (by decide) hu)) (pv 2) (pv 0) (XE _)) (Gx (Xq (K7 (GP eq_int) (Ko (by decide) hu)) (pv 3) (pv 1) (XE _)))))
      (Xb (Xz QC)
      Xf)
      Xf)
    (Xb (XJ (i:=5) Zu.nd rfl (Or.inl rfl) (Yu g_due hr (by decide) (Xd (pv 0) (Xd (pv 1) Xg))))
    (Xb (Yx (Xq Iq (pv 5) UV (XE _))
      (Xb (Xz (Kz (F8 (B2 ((CO G6 Ij).up (by decide)) (CO (G6.up (by decide)) (GP (GP eq_int))) ((B0 G6 (BO (r:=XH) (q:=(rV (rV Xc))) rfl rfl)).up (by decide))) (Ko (by decide) hu)) (pv 4) (JQ (Xd Up (Xd QC Xg))) (XE _)))
      Xf)
      Xf)
    (Xb (Yx (Xq (K7 (B2 ((CO G6 Ij).up (by decide)) (CO (G6.up (by decide)) (GP (GP eq_int))) ((B0 G6 (BO (r:=XH) (q:=(rV (rV Xc))) rfl rfl)).up (by decide))) (Ko (by decide) hu)) (pv 4) (JQ (Xd Up (Xd (pv 5) Xg))) (XE _))
      (Xb (Xz QC)
      Xf)
      Xf)
    (Xb (Yg PassesOwn.never rfl (X2 (K:=K) rfl (XU (B4 K rfl) (pv 4) Xi (fun _ _=>rfl))) (Xr (i:=6) Zu.nd rfl (Or.inl rfl))
      (Xb (Yx (Vc (Qc (Yu g_is_wholes hr (by decide) (Xd (pv 6) Xg))))
        (Xb (Xz QC)
        Xf)
        Xf)
      (Xb (Zq (Q8 PySem.F.plainAttrs_list PySem.F.slot_list_append PySem.F.type_list_append Yq (pv 6) (Xd Xi Xg)))
      Xf)))
    (Xb (Xz (Kz (F8 (GP (GP eq_int)) (Ko (by decide) hu)) (pv 2) (pv 0) (XE _)))
    Xf))))))))), ?_⟩
  refine Ze (S:=(SC.add (SC.add SC.nil K (rV (rV Xc)) v_0 a_0) K (rV Xc) v_1 a_1)) (σ:=[some v_0, some v_1, none, none, none, none, none]) 2 ?_ (SC.i (SC.i SC.t h_0) h_1) hm q rfl
  unfold ZC
  exact (XY (K:=K) (r:=(rV (rV Xc))) 2 (Ev.sh (Zb (fun _=>tg1 0) (XW (Xn (r:=(rV (rV Xc))) 0 rfl (fun _ s=>(SC.r (SC.l s))))) (fun C3 a4 v5=>(V3 (EvS.ls (Xn (r:=(rV Xc)) 0 rfl (fun _ s=>(SC.r s)))))))) fun a1 v2=>(XY (K:=K) (r:=(rV Xc)) 3 (Ev.sh (V3 (EvS.ls (Xn (r:=(rV Xc)) 1 rfl (fun _ s=>(SC.r (SC.l s))))))) fun a8 v9=>(Yp (K:=K) (o:=(oEi (oF (rP2 Ug XH)) (oT2 (oF Ug) (oL (oL (oF Xc)))))) 4 1 (X7 (Xa (r:=(rV (rV Xc))) 2 rfl (fun _ s=>(SC.r (SC.l s)))) (Xa (r:=(rV Xc)) 3 rfl (fun _ s=>(SC.r s)))) (Nat.le_of_ble_eq_true rfl) fun a11 v12 C13=>(YI (K5 (Xl (K:=K) (VP (Xa (r:=(rV (rV Xc))) 2 rfl (fun _ s=>(SC.r (SC.l (SC.l s))))) (Xa (r:=(rV (rV Xc))) 0 rfl (fun _ s=>(SC.r (SC.l (SC.l (SC.l (SC.l s))))))))) (Xl (K:=K) (VP (Xa (r:=(rV Xc)) 3 rfl (fun _ s=>(SC.r (SC.l s)))) (Xa (r:=(rV Xc)) 1 rfl (fun _ s=>(SC.r (SC.l (SC.l (SC.l s))))))))) (XB (EvS.ev (EvB.sh (ZV false)))) (XY (K:=K) (r:=(Gh (rV (rV Xc)))) 5 (Ev.sh (X7 (Xa (r:=(rV (rV Xc))) 0 rfl (fun _ s=>(SC.r (SC.l (SC.l (SC.l (SC.l s))))))) (Xa (r:=(rV Xc)) 1 rfl (fun _ s=>(SC.r (SC.l (SC.l (SC.l s)))))))) fun a22 v23=>(YI (Xl (K:=K) (Hm (tb:=tC .non) (Xa (r:=(Gh (rV (rV Xc)))) 5 rfl (fun _ s=>(SC.r s))))) (XB (EvS.ev (EvB.sh (KG (Yt (o:=(oEi (oF (rP2 Ug XH)) (oT2 (oF Ug) (oL (oL (oF Xc)))))) 4 1 rfl rfl (fun _ s=>(SC.r (SC.l s)))) (EA (p:=(rP2 Ug (rV (rV Xc)))) (Ev.toB (EvS.ev (Ji (EvB.sh (Uc _)) (EvB.sh (ZV true)))))))))) (YI (Xl (K:=K) (VP (Yt (o:=(oEi (oF (rP2 Ug XH)) (oT2 (oF Ug) (oL (oL (oF Xc)))))) 4 1 rfl rfl (fun _ s=>(SC.r (SC.l s)))) (E5 (o:=(rP2 Ug XH)) (Ev.toB (GC (EvS.ev (EvB.sh (Uc _))) fun _=>(EvS.ev (HX (Xn (r:=(Gh (rV (rV Xc)))) 5 rfl (fun _ s=>(SC.r s)))))))))) (XB (EvS.ev (EvB.sh (ZV false)))) (Eh (K:=K) (fun _ s=>(SC.r (SC.l s))) fun b40=>(HZ (K:=K) (fun _ s=>(SC.r s)) fun v41=>(U2 (K:=K) (mt:=fun a45=>(Res.bind (Res.bind (Res.ok a45) fun x48=>(noE (XV x48))) fun x49=>(Res.ok (!x49)))) (f:=fun a44=>(Res.bind (Res.ok a1) fun x50=>(Res.bind (Res.ok a_0) fun x51=>(Res.ok (decide (x50 = x51)))))) 6 1 0 (HM 4 rfl (fun _ s=>(SC.r (SC.l s)))) (Nat.le_of_ble_eq_true rfl) rfl (fun _ s=>(SC.r s)) (fun a45 v46=>(Qg (Q9 (K:=K) (Ev.toB (Zl (Xa (r:=(rV Xc)) 6 rfl (fun _ s=>(SC.r s)))))))) fun C42 w43=>(XB (EvS.ev (EvB.sh (KG (Xa (r:=(rV (rV Xc))) 2 rfl (fun _ s=>(SC.r (SC.l (SC.l (SC.l (SC.l (SC.l (SC.l (SC.l s)))))))))) (Xa (r:=(rV (rV Xc))) 0 rfl (fun _ s=>(SC.r (SC.l (SC.l (SC.l (SC.l (SC.l (SC.l (SC.l (SC.l (SC.l s))))))))))))))))))))))))))
theorem ZL : FnScope ["_law_table_here", "_law_handed", "_law_found", "_law_line"] ["_law_table_here"] (Xh Ym):=⟨rfl, rfl, rfl, by decide +kernel, rfl, by decide +kernel, by decide +kernel⟩
set_option maxHeartbeats 4000000 in
theorem KK (D : Def K mg "_law_orbits" Ym ["_law_table_here"]) (g_orbits : Fn P w K mg base 2 "orbits" ["table"] (sp1 (rV (rV Xc)) (oL (oL (oF Xc))) Z5 K)) (g_linked : Fn P w K mg base 1 "_law_linked" ["_law_table_here"] (sp1 (rV (rV Xc)) (oL (oL (oF Xc))) Z4 K)) (g_is_wholes : Fn P w K mg base 2 "_law_is_wholes" ["_law_found"] (sp1 (rV Xc) (oF XH) XV K)) (Y : Ecs XR K mg) (Z : Blt mg) : Fn P w K mg base 3 "_law_orbits" ["_law_table_here"] (sp1 (rV (rV Xc)) (oF XH) YG K):=by
  refine Zf D ZL (fun vs H Q E h=>?_) (fun f cdv A outer s H vs Q E hr h=>?_)
  . obtain ⟨v_0, a_0, b, rfl, _⟩:=h; rfl
  obtain ⟨v_0, a_0, b, rfl, h_0, hm, q⟩:=h
  have hu:=hu8 hr
  have hu1:=Y1 hr
  refine ⟨_, (Xb (QR 1 (Xh Ym) ["_law_table_here", "_law_handed", "_law_found", "_law_line"] ["_law_line"] [] rfl ZL.nd rfl rfl (X2 (K:=K) rfl (pv 0)) (YF (by decide)) (fun cl C s H ex E=>⟨Xr (i:=0) (show List.Nodup (["_law_line"] : List Str) by decide +kernel) rfl (Or.inl rfl), Za, (Zt (Y3 K rfl) rfl Z.b_list PyProof.Rows.boot_list (Xd (pv 0) Xg))⟩))
    (Xb (XJ (i:=2) ZL.nd rfl (Or.inl rfl) (Yu g_orbits hr (by decide) (Xd (pv 1) Xg)))
    (Xb (Yx (PW.pt (CU (Vc (Qc (Xu ZF rfl Z.b_isinstance PyProof.Rows.boot_isinstance (Xd (pv 2) (Xd (VS (v:=V.ty "list") rfl Z.b_list PyProof.Rows.boot_list rfl) Xg))))) (Gx (Xq (K7 (GP (GP eq_int)) (Ko (by decide) hu)) (pv 2) (Yu g_linked hr (by decide) (Xd (pv 0) Xg)) (XE _)))))
      (Xb (Xz QC)
      Xf)
      Xf)
    (Xb (Yg PassesOwn.never rfl (X2 (K:=K) rfl (pv 2)) (Xr (i:=3) ZL.nd rfl (Or.inl rfl))
      (Xb (Yx (Vc (Qc (Yu g_is_wholes hr (by decide) (Xd (pv 3) Xg))))
        (Xb (Xz QC)
        Xf)
        Xf)
      (Xb (Zq (Q8 PySem.F.plainAttrs_list PySem.F.slot_list_append PySem.F.type_list_append Yq (pv 3) (Xd Xi Xg)))
      Xf)))
    (Xb (Xz (Kz (F8 (GP (GP eq_int)) (Ko (by decide) hu)) (pv 1) (pv 0) (XE _)))
    Xf))))), ?_⟩
  refine Ze (S:=(SC.add SC.nil K (rV (rV Xc)) v_0 a_0)) (σ:=[some v_0, none, none, none]) 2 ?_ (SC.i SC.t h_0) hm q rfl
  unfold YG
  exact (XY (K:=K) (r:=(rV (rV Xc))) 1 (Ev.sh (Zb (fun _=>tg1 0) (XW (Xn (r:=(rV (rV Xc))) 0 rfl (fun _ s=>(SC.r s)))) (fun C3 a4 v5=>(V3 (EvS.ls (Xn (r:=(rV Xc)) 0 rfl (fun _ s=>(SC.r s)))))))) fun a1 v2=>(Yp (K:=K) (o:=(oL (oL (oF Xc)))) 2 1 (Zl (Xa (r:=(rV (rV Xc))) 1 rfl (fun _ s=>(SC.r s)))) (Nat.le_of_ble_eq_true rfl) fun a8 v9 C10=>(YI (K5 (Qg (Q9 (K:=K) (Z8 "list" true (VO K "list") (Yt (o:=(oL (oL (oF Xc)))) 2 1 rfl rfl (fun _ s=>(SC.r s)))))) (Xl (K:=K) (VP (Yt (o:=(oL (oL (oF Xc)))) 2 1 rfl rfl (fun _ s=>(SC.r s))) (Ev.toB (Zl (Xa (r:=(rV (rV Xc))) 0 rfl (fun _ s=>(SC.r (SC.l (SC.l s)))))))))) (XB (EvS.ev (EvB.sh (ZV false)))) (U2 (K:=K) (mt:=fun a23=>(Res.bind (Res.bind (Res.ok a23) fun x26=>(noE (XV x26))) fun x27=>(Res.ok (!x27)))) (f:=fun a22=>(Res.bind (Res.ok a1) fun x28=>(Res.bind (Res.ok a_0) fun x29=>(Res.ok (decide (x28 = x29)))))) 3 1 0 (fun _ _ _ _ q=>⟨_, rfl, q⟩) (Nat.le_of_ble_eq_true rfl) rfl (fun _ s=>(SC.r s)) (fun a23 v24=>(Qg (Q9 (K:=K) (Ev.toB (Zl (Xa (r:=(rV Xc)) 3 rfl (fun _ s=>(SC.r s)))))))) fun C20 w21=>(XB (EvS.ev (EvB.sh (KG (Xa (r:=(rV (rV Xc))) 1 rfl (fun _ s=>(SC.r (SC.l (SC.l s))))) (Xa (r:=(rV (rV Xc))) 0 rfl (fun _ s=>(SC.r (SC.l (SC.l (SC.l s))))))))))))))
theorem Qk : FnScope ["_law_size", "_law_found", "_law_a"] ["_law_size"] (Xh Yl):=⟨rfl, rfl, rfl, by decide +kernel, rfl, by decide +kernel, by decide +kernel⟩
set_option maxHeartbeats 4000000 in
theorem Ky (D : Def K mg "_law_two_ways" Yl ["_law_size"])  (Y : Ecs XR K mg) (Z : Blt mg) : Fn P w K mg base 1 "_law_two_ways" ["_law_size"] (sp1 Xc (oL (oL (oF Xc))) YE K):=by
  refine Zf D Qk (fun vs H Q E h=>?_) (fun f cdv A outer s H vs Q E hr h=>?_)
  . obtain ⟨v_0, a_0, b, rfl, _⟩:=h; rfl
  obtain ⟨v_0, a_0, b, rfl, h_0, hm, q⟩:=h
  have hu:=hu8 hr
  have hu1:=Y1 hr
  refine ⟨_, (Xb (QR 1 (Xh Yl) ["_law_size", "_law_found", "_law_a"] ["_law_a"] [(0, "_law_size")] rfl Qk.nd rfl rfl (XQ rfl Z.b_range (Xd (pv 0) Xg)) (YF (by decide)) (fun cl C s H ex E=>⟨Xr (i:=0) (show List.Nodup (["_law_a", "_law_size"] : List Str) by decide +kernel) rfl (Or.inl rfl), Za, (Xt VE (Yn (Xd (pv 0) Xg)) (pv 1))⟩))
    (Xb (Yg PassesOwn.never rfl (XQ rfl Z.b_range (Xd Xi Xg)) (Xr (i:=2) Qk.nd rfl (Or.inl rfl))
      (Xb (Ju (Xt Zm (Xt Yy (pv 2) Xi) (Xt ZO Xi (Xt Yr (pv 2) Xi))) (J0 (XU (Xk K rfl) (pv 1) (pv 2) (fun _ _=>rfl)) (Xt Zm (pv 0) Xi) ZD))
      (Xb (Ju (Xt Yr (Xt Yy (pv 2) Xi) Xi) (J0 (XU (Xk K rfl) (pv 1) (pv 2) (fun _ _=>rfl)) (Xt Zm (pv 0) Xi) ZD))
      Xf)))
    (Xb (Xz (pv 1))
    Xf))), ?_⟩
  refine Ze (S:=(SC.add SC.nil K Xc v_0 a_0)) (σ:=[some v_0, none, none]) 1 ?_ (SC.i SC.t h_0) hm q rfl
  unfold YE
  exact (Yp (K:=K) (o:=(oL (oL (oF Xc)))) 1 0 (Zb (fun _=>tg1 0) (Xy (Xa (r:=Xc) 0 rfl (fun _ s=>(SC.r s)))) (fun C5 a6 v7=>(Vv (Ev.ls (Y7 (Xs (Xn (r:=Xc) 0 rfl (fun _ s=>(SC.r s))) Ys))) (Xa (r:=Xc) 1 rfl (fun _ s=>(SC.r (SC.l s))))))) (Nat.le_of_ble_eq_true rfl) fun a1 v2 C3=>(YR (K:=K) (J:=({ oo:=fun x15=>[x15.2.2], ss:=fun x15=>[some v_0, some x15.2.1, x15.1], sc:=fun g16 x15=>(SC.addO (SC.add SC.nil K Xc v_0 a_0) K (oL (oL (oF Xc))) x15.2.1 g16 x15.2.2) } : Jn ((List (List Int))) (Option V × V × List XG))) (fun _=>tg1 2) ((none), v2, C3) (a1) (Xy (Xe 4)) rfl rfl (fun _ s=>(SC.i (SC.i SC.t (SC.r (SC.l s))) (SC.r s))) (fun g17 x18 a19 v20=>(Jw (K:=K) (r:=Xc) 1 0 rfl rfl (fun _ s=>(SC.r (SC.l s))) (EvB.sh (YB (Yb (Xa (r:=Xc) 2 rfl (fun _ s=>(SC.r s))) (Xe 1)) (YU (Xe 2) (X6 (Xa (r:=Xc) 2 rfl (fun _ s=>(SC.r s))) (Xe 2))))) (Xa (r:=Xc) 2 rfl (fun _ s=>(SC.r s))) (YB (Xa (r:=Xc) 0 rfl (fun _ s=>(SC.r (SC.l (SC.l s))))) (Xe 1)) fun a34 C35=>(Jw (K:=K) (r:=Xc) 1 0 rfl rfl (fun _ s=>(SC.r s)) (EvB.sh (X6 (Yb (Xa (r:=Xc) 2 rfl (fun _ s=>(SC.r (SC.l s)))) (Xe 2)) (Xe 4))) (Xa (r:=Xc) 2 rfl (fun _ s=>(SC.r (SC.l s)))) (YB (Xa (r:=Xc) 0 rfl (fun _ s=>(SC.r (SC.l (SC.l (SC.l s)))))) (Xe 2)) fun a47 C48=>(XL (J:=_) ((some v20), x18.2.1, C48) (a47) rfl rfl (fun _ s=>(SC.i (SC.i SC.t (SC.r (SC.l (SC.l (SC.l (SC.l s)))))) (SC.r s))))))) fun g51 x52=>(XB (Zd (o:=(oL (oL (oF Xc)))) 1 0 rfl rfl (fun _ s=>(SC.r s))))))
theorem Qe : FnScope ["_law_script", "_law_more", "_law_table_here", "_law_size", "_law_pick", "_law_members"] ["_law_script"] (Xh JA):=⟨rfl, rfl, rfl, by decide +kernel, rfl, by decide +kernel, by decide +kernel⟩
set_option maxHeartbeats 4000000 in
theorem Ii {f : Addr} {fd : FuncData} (F : Fun K "law" "law" JA f fd) (g_row : Fn P w K mg base 2 "_law_row" ["_law_script", "_law_place", "_law_sizes"] (sp3 (rL Xc) Xc (rV Xc) (oL (oF Xc)) Ud K)) (g_table : Fn P w K mg base 3 "_law_table" ["_law_script", "_law_place", "_law_most"] (sp3 (rL Xc) Xc Xc (oL (oL (oF Xc))) QK K)) (g_grown : Fn P w K mg base 1 "_law_grown" ["_law_table_here", "_law_some"] (sp2 (rV (rV Xc)) (rV Xc) (oL (oF Xc)) QH K)) (g_two_ways : Fn P w K mg base 1 "_law_two_ways" ["_law_size"] (sp1 Xc (oL (oL (oF Xc))) YE K)) (g_l_orbits : Fn P w K mg base 3 "_law_orbits" ["_law_table_here"] (sp1 (rV (rV Xc)) (oF XH) YG K)) (g_parted : Fn P w K mg base 4 "_law_parted" ["_law_table_here", "_law_members"] (sp2 (rV (rV Xc)) (rV Xc) (oF XH) ZC K)) (g_relaid : Fn P w K mg base 1 "_law_relaid" ["_law_some", "_law_spots"] (sp2 (rV (rV Xc)) (rV Xc) (oL (oL (oF Xc))) Zg K)) (g_ordered : Fn P w K mg base 1 "_law_ordered" ["_law_some", "_law_count"] (sp2 (rV Xc) Xc (oL (oF Xc)) YT K)) (Y : Ecs XR K mg) (Z : Blt mg) : FnOk P w K mg base CX0 5 f fd ["_law_script"] (sp1 (rL Xc) (oF XH) Kj K):=by
  refine F.ok Qe (fun vs H Q E h=>?_) (fun cdv A outer s H vs Q E hr h=>?_)
  . obtain ⟨v_0, a_0, b, rfl, _⟩:=h; rfl
  obtain ⟨v_0, a_0, b, rfl, h_0, hm, q⟩:=h
  have hu:=hu8 hr
  have hu1:=Y1 hr
  refine ⟨_, (Xb (XJ (i:=1) Qe.nd rfl (Or.inr rfl) (Yu g_row hr (by decide) (Xd (pv 0) (Xd Xi (Xd (Xt U3 (Xt U3 (Xt U3 (Yn (Xd Xi (Xd Xi Xg))) (Xt VE (Yn (Xd Xi Xg)) Xi)) (Xt VE (Yn (Xd Xi Xg)) Xi)) (Yn (Xd Xi Xg))) Xg)))))
    (Xb (XJ (i:=2) Qe.nd rfl (Or.inl rfl) (Yu g_table hr (by decide) (Xd (pv 0) (Xd Xi (Xd (XU (Xk K rfl) (Yn (Xd Xi (Xd Xi Xg))) (Xt Jh (XU (Xk K rfl) (pv 1) Xi (fun _ _=>rfl)) Xi) (fun _ _=>rfl)) Xg)))))
    (Xb (XJ (i:=3) Qe.nd rfl (Or.inr rfl) (Xu (Xm K rfl) rfl Z.b_len PySem.boot_len (Xd (pv 2) Xg)))
    (Xb (XJ (i:=4) Qe.nd rfl (Or.inl rfl) (Yu g_row hr (by decide) (Xd (pv 0) (Xd Xi (Xd (Xt U3 (Yn (Xd Xi (Xd Xi Xg))) (Xt VE (Yn (Xd Xi Xg)) Xi)) Xg)))))
    (Xb (Yx (PW.pt (ZN (Xq Zz (XU (Xk K rfl) (pv 4) Xi (fun _ _=>rfl)) Xi (XE _)) (Qi (Xq DX (pv 3) Xi (XE _)))))
      (Xb (XJ (i:=2) Qe.nd rfl (Or.inl rfl) (Yu g_two_ways hr (by decide) (Xd (pv 3) Xg)))
      (Xb (Yx (Xq Zz (XU (Xk K rfl) (pv 4) Xi (fun _ _=>rfl)) Xi (XE _))
        (Xb (XJ (i:=2) Qe.nd rfl (Or.inl rfl) (Yu g_relaid hr (by decide) (Xd (pv 2) (Xd (Yu g_ordered hr (by decide) (Xd (Jg (Jf K rfl) (pv 4) (JX Xi) Km) (Xd (pv 3) Xg))) Xg))))
        Xf)
        Xf)
      Xf))
      Xf)
    (Xb (XJ (i:=5) Qe.nd rfl (Or.inl rfl) (Yu g_grown hr (by decide) (Xd (pv 2) (Xd (ZG (sc:=(Xh JA)) (N0:=["_law_script", "_law_more", "_law_table_here", "_law_size", "_law_pick", "_law_members"]) (tns:=["_law_one"]) (caps:=[(3, "_law_size")]) rfl (X2 (K:=K) rfl (Jg (Jf K rfl) (pv 1) (JX Xi) (JX (Xt Yy Xi (XU (Xk K rfl) (pv 1) Xi (fun _ _=>rfl)))))) (YF (by decide)) (fun cl C s H ex E=>⟨Xr (i:=0) (show List.Nodup (["_law_one", "_law_size"] : List Str) by decide +kernel) rfl (Or.inl rfl), Za, (Xt Yr (pv 0) (pv 1))⟩)) Xg))))
    (Xb (Yx (Xq Zz (XU (Xk K rfl) (pv 1) Xi (fun _ _=>rfl)) Xi (XE _))
      (Xb (XJ (i:=5) Qe.nd rfl (Or.inl rfl) (Zh rfl rfl rfl Z.b_list Z.b_range (Xd (pv 3) Xg)))
      Xf)
      Xf)
    (Xb (Yx (Xq Zz (XU (Xk K rfl) (pv 1) Xi (fun _ _=>rfl)) Xi (XE _))
      (Xb (QR 5 (Xh JA) ["_law_script", "_law_more", "_law_table_here", "_law_size", "_law_pick", "_law_members"] ["_law_colour"] [(1, "_law_more")] rfl Qe.nd rfl rfl (XQ rfl Z.b_range (Xd (pv 3) Xg)) (YF (by decide)) (fun cl C s H ex E=>⟨Xr (i:=0) (show List.Nodup (["_law_colour", "_law_more"] : List Str) by decide +kernel) rfl (Or.inl rfl), (V2 (Xq Zz (XU (Xk K rfl) (pv 1) (Xt Yy Xi (pv 0)) (fun _ _=>rfl)) Xi (XE _))), (pv 0)⟩))
      Xf)
      Xf)
    (Xb (Yx (PW.pt (CU (Vc (Qc (Yu g_l_orbits hr (by decide) (Xd (pv 2) Xg)))) (Gx (Vc (Qc (Yu g_parted hr (by decide) (Xd (pv 2) (Xd (pv 5) Xg))))))))
      (Xb (Xz QC)
      Xf)
      Xf)
    (Xb (Xz (GA (Yu g_l_orbits hr (by decide) (Xd (pv 2) Xg)) (Gn (Yu g_parted hr (by decide) (Xd (pv 2) (Xd (pv 5) Xg))))))
    Xf)))))))))), ?_⟩
  refine Ze (S:=(SC.add SC.nil K (rL Xc) v_0 a_0)) (σ:=[some v_0, none, none, none, none, none]) 0 ?_ (SC.i SC.t h_0) hm q rfl
  unfold Kj
  exact (XY (K:=K) (r:=(rV Xc)) 1 (Ev.sh (Z2 (Xa (r:=(rL Xc)) 0 rfl (fun _ s=>(SC.r s))) (Xe 1) (Ev.toB (UU (Ev.ls (UU (Ev.ls (UU (Ev.ls (Y7 (Xs (EvB.sh (Xe 4)) (Xs (EvB.sh (Xe 4)) Ys)))) (Ev.ls (Vv (Ev.ls (Y7 (Xs (EvB.sh (Xe 24)) Ys))) (Xe 3))))) (Ev.ls (Vv (Ev.ls (Y7 (Xs (EvB.sh (Xe 2)) Ys))) (Xe 24))))) (Ev.ls (Y7 (Xs (EvB.sh (Xe 8)) Ys))))))) fun a1 v2=>(XY (K:=K) (r:=(rV (rV Xc))) 2 (Ev.sh (Z2 (Xa (r:=(rL Xc)) 0 rfl (fun _ s=>(SC.r (SC.l s)))) (Xe 0) (XF (Ev.toB (Y7 (Xs (EvB.sh (Xe 10)) (Xs (EvB.sh (Xe 24)) Ys)))) (VY (XF (Xa (r:=(rV Xc)) 1 rfl (fun _ s=>(SC.r s))) (Xe 29)) (Xe 7))))) fun a31 v32=>(XY (K:=K) (r:=Xc) 3 (EvB.sh (Yd (Xa (r:=(rV (rV Xc))) 2 rfl (fun _ s=>(SC.r s))))) fun a48 v49=>(XY (K:=K) (r:=(rV Xc)) 4 (Ev.sh (Z2 (Xa (r:=(rL Xc)) 0 rfl (fun _ s=>(SC.r (SC.l (SC.l (SC.l s)))))) (Xe 3) (Ev.toB (UU (Ev.ls (Y7 (Xs (EvB.sh (Xe 6)) (Xs (EvB.sh (Xe 2)) Ys)))) (Ev.ls (Vv (Ev.ls (Y7 (Xs (EvB.sh (Xe 24)) Ys))) (Xe 24))))))) fun a51 v52=>(ZZ (J:=({ oo:=fun x76=>[], ss:=fun x76=>[some v_0, some v2, some x76, some v49, some v52, none], sc:=fun g77 x76=>(SC.add (SC.add (SC.add (SC.add (SC.add SC.nil K (rL Xc) v_0 a_0) K (rV Xc) v2 a1) K Xc v49 a48) K (rV Xc) v52 a51) K (rV (rV Xc)) x76 g77) } : Jn ((List (List Int))) (V))) (QZ (Fd:=FNd ({ oo:=fun x76=>[], ss:=fun x76=>[some v_0, some v2, some x76, some v49, some v52, none], sc:=fun g77 x76=>(SC.add (SC.add (SC.add (SC.add (SC.add SC.nil K (rL Xc) v_0 a_0) K (rV Xc) v2 a1) K Xc v49 a48) K (rV Xc) v52 a51) K (rV (rV Xc)) x76 g77) } : Jn ((List (List Int))) (V))) (YV (Xl (K:=K) (Yv (XF (Xa (r:=(rV Xc)) 4 rfl (fun _ s=>(SC.r s))) (Xe 0)) (Xe 0))) (Xl (K:=K) (UQ (Xa (r:=Xc) 3 rfl (fun _ s=>(SC.r (SC.l s)))) (Xe 5)))) (XY (K:=K) (r:=(rV (rV Xc))) 2 (Ev.sh (Zl (Xa (r:=Xc) 3 rfl (fun _ s=>(SC.r (SC.l s)))))) fun a78 v79=>(ZZ (J:=({ oo:=fun x87=>[], ss:=fun x87=>[some v_0, some v2, some x87, some v49, some v52, none], sc:=fun g88 x87=>(SC.add (SC.add (SC.add (SC.add (SC.add SC.nil K (rL Xc) v_0 a_0) K (rV Xc) v2 a1) K Xc v49 a48) K (rV Xc) v52 a51) K (rV (rV Xc)) x87 g88) } : Jn ((List (List Int))) (V))) (QZ (Fd:=FNd ({ oo:=fun x87=>[], ss:=fun x87=>[some v_0, some v2, some x87, some v49, some v52, none], sc:=fun g88 x87=>(SC.add (SC.add (SC.add (SC.add (SC.add SC.nil K (rL Xc) v_0 a_0) K (rV Xc) v2 a1) K Xc v49 a48) K (rV Xc) v52 a51) K (rV (rV Xc)) x87 g88) } : Jn ((List (List Int))) (V))) (Xl (K:=K) (Yv (XF (Xa (r:=(rV Xc)) 4 rfl (fun _ s=>(SC.r (SC.l s)))) (Xe 1)) (Xe 0))) (XY (K:=K) (r:=(rV (rV Xc))) 2 (Ev.sh (X7 (Xa (r:=(rV (rV Xc))) 2 rfl (fun _ s=>(SC.r s))) (Ev.toB (X7 (Ev.toB (V6 (EvS.ls (Xn (r:=(rV Xc)) 4 rfl (fun _ s=>(SC.r (SC.l s))))) (Qw (K:=K) (Xe 2)) Uh)) (Xa (r:=Xc) 3 rfl (fun _ s=>(SC.r (SC.l (SC.l s))))))))) fun a89 v90=>(XL (J:=_) (v90) (a89) rfl rfl (fun _ s=>(SC.i (SC.i (SC.i (SC.i (SC.i SC.t (SC.r (SC.l (SC.l (SC.l (SC.l (SC.l (SC.l s)))))))) (SC.r (SC.l (SC.l (SC.l (SC.l (SC.l s))))))) (SC.r (SC.l (SC.l (SC.l s))))) (SC.r (SC.l (SC.l s)))) (SC.r s))))) (XL (J:=_) (v79) (a78) rfl rfl (fun _ s=>(SC.i (SC.i (SC.i (SC.i (SC.i SC.t (SC.r (SC.l (SC.l (SC.l (SC.l (SC.l s))))))) (SC.r (SC.l (SC.l (SC.l (SC.l s)))))) (SC.r (SC.l (SC.l s)))) (SC.r (SC.l s))) (SC.r s))))) fun g102 x101=>(XL (J:=_) (x101) (g102) rfl rfl (fun _ s=>(SC.i (SC.i (SC.i (SC.i (SC.i SC.t (SC.r (SC.l (SC.l (SC.l (SC.l s)))))) (SC.r (SC.l (SC.l (SC.l s))))) (SC.r (SC.l (SC.l s)))) (SC.r (SC.l s))) (SC.r s)))))) (XL (J:=_) (v32) (a31) rfl rfl (fun _ s=>(SC.i (SC.i (SC.i (SC.i (SC.i SC.t (SC.r (SC.l (SC.l (SC.l (SC.l s)))))) (SC.r (SC.l (SC.l (SC.l s))))) (SC.r (SC.l s))) (SC.r s)) (SC.r (SC.l (SC.l s))))))) fun g104 x103=>(XY (K:=K) (r:=(rV Xc)) 5 (Ev.sh (X7 (Xa (r:=(rV (rV Xc))) 2 rfl (fun _ s=>(SC.r s))) (Ev.toB (Zb (fun _=>tg1 0) (XW (Ev.sh (V6 (EvS.ls (Xn (r:=(rV Xc)) 1 rfl (fun _ s=>(SC.r (SC.l (SC.l (SC.l s))))))) (Qw (K:=K) (Xe 2)) (Qw (K:=K) (Yb (Xe 2) (XF (Xa (r:=(rV Xc)) 1 rfl (fun _ s=>(SC.r (SC.l (SC.l (SC.l s)))))) (Xe 1))))))) (fun C117 a118 v119=>(EvS.ev (EvB.sh (X6 (Xa (r:=Xc) 0 rfl (fun _ s=>(SC.r s))) (Xa (r:=Xc) 1 rfl (fun _ s=>(SC.r (SC.l (SC.l (SC.l s)))))))))))))) fun a105 v106=>(ZZ (J:=({ oo:=fun x130=>[], ss:=fun x130=>[some v_0, some v2, some x103, some v49, some v52, some x130], sc:=fun g131 x130=>(SC.add (SC.add (SC.add (SC.add (SC.add (SC.add SC.nil K (rL Xc) v_0 a_0) K (rV Xc) v2 a1) K Xc v49 a48) K (rV Xc) v52 a51) K (rV (rV Xc)) x103 g104) K (rV Xc) x130 g131) } : Jn ((List Int)) (V))) (QZ (Fd:=FNd ({ oo:=fun x130=>[], ss:=fun x130=>[some v_0, some v2, some x103, some v49, some v52, some x130], sc:=fun g131 x130=>(SC.add (SC.add (SC.add (SC.add (SC.add (SC.add SC.nil K (rL Xc) v_0 a_0) K (rV Xc) v2 a1) K Xc v49 a48) K (rV Xc) v52 a51) K (rV (rV Xc)) x103 g104) K (rV Xc) x130 g131) } : Jn ((List Int)) (V))) (Xl (K:=K) (Yv (XF (Xa (r:=(rV Xc)) 1 rfl (fun _ s=>(SC.r (SC.l (SC.l (SC.l (SC.l s))))))) (Xe 0)) (Xe 0))) (XY (K:=K) (r:=(rV Xc)) 5 (Ev.sh (Zn (Xa (r:=Xc) 3 rfl (fun _ s=>(SC.r (SC.l (SC.l (SC.l s)))))))) fun a132 v133=>(XL (J:=_) (v133) (a132) rfl rfl (fun _ s=>(SC.i (SC.i (SC.i (SC.i (SC.i (SC.i SC.t (SC.r (SC.l (SC.l (SC.l (SC.l (SC.l (SC.l s)))))))) (SC.r (SC.l (SC.l (SC.l (SC.l (SC.l s))))))) (SC.r (SC.l (SC.l (SC.l (SC.l s)))))) (SC.r (SC.l (SC.l (SC.l s))))) (SC.r (SC.l (SC.l s)))) (SC.r s))))) (XL (J:=_) (v106) (a105) rfl rfl (fun _ s=>(SC.i (SC.i (SC.i (SC.i (SC.i (SC.i SC.t (SC.r (SC.l (SC.l (SC.l (SC.l (SC.l s))))))) (SC.r (SC.l (SC.l (SC.l (SC.l s)))))) (SC.r (SC.l (SC.l (SC.l s))))) (SC.r (SC.l (SC.l s)))) (SC.r (SC.l s))) (SC.r s))))) fun g136 x135=>(ZZ (J:=({ oo:=fun x142=>[], ss:=fun x142=>[some v_0, some v2, some x103, some v49, some v52, some x142], sc:=fun g143 x142=>(SC.add (SC.add (SC.add (SC.add (SC.add (SC.add SC.nil K (rL Xc) v_0 a_0) K (rV Xc) v2 a1) K Xc v49 a48) K (rV Xc) v52 a51) K (rV (rV Xc)) x103 g104) K (rV Xc) x142 g143) } : Jn ((List Int)) (V))) (QZ (Fd:=FNd ({ oo:=fun x142=>[], ss:=fun x142=>[some v_0, some v2, some x103, some v49, some v52, some x142], sc:=fun g143 x142=>(SC.add (SC.add (SC.add (SC.add (SC.add (SC.add SC.nil K (rL Xc) v_0 a_0) K (rV Xc) v2 a1) K Xc v49 a48) K (rV Xc) v52 a51) K (rV (rV Xc)) x103 g104) K (rV Xc) x142 g143) } : Jn ((List Int)) (V))) (Xl (K:=K) (Yv (XF (Xa (r:=(rV Xc)) 1 rfl (fun _ s=>(SC.r (SC.l (SC.l (SC.l (SC.l s))))))) (Xe 0)) (Xe 1))) (XY (K:=K) (r:=(rV Xc)) 5 (Ev.sh (Jc (fun _=>tg1 0) (Xy (Xa (r:=Xc) 3 rfl (fun _ s=>(SC.r (SC.l (SC.l (SC.l s))))))) (fun C147 a148 v149=>(Xl (K:=K) (Yv (XF (Xa (r:=(rV Xc)) 1 rfl (fun _ s=>(SC.r (SC.l (SC.l (SC.l (SC.l (SC.l s)))))))) (Yb (Xe 5) (Xa (r:=Xc) 0 rfl (fun _ s=>(SC.r s))))) (Xe 0)))) (fun C147 a148 v149=>(EvS.ev (Xn (r:=Xc) 0 rfl (fun _ s=>(SC.r s))))))) fun a144 v145=>(XL (J:=_) (v145) (a144) rfl rfl (fun _ s=>(SC.i (SC.i (SC.i (SC.i (SC.i (SC.i SC.t (SC.r (SC.l (SC.l (SC.l (SC.l (SC.l (SC.l s)))))))) (SC.r (SC.l (SC.l (SC.l (SC.l (SC.l s))))))) (SC.r (SC.l (SC.l (SC.l (SC.l s)))))) (SC.r (SC.l (SC.l (SC.l s))))) (SC.r (SC.l (SC.l s)))) (SC.r s))))) (XL (J:=_) (x135) (g136) rfl rfl (fun _ s=>(SC.i (SC.i (SC.i (SC.i (SC.i (SC.i SC.t (SC.r (SC.l (SC.l (SC.l (SC.l (SC.l s))))))) (SC.r (SC.l (SC.l (SC.l (SC.l s)))))) (SC.r (SC.l (SC.l (SC.l s))))) (SC.r (SC.l (SC.l s)))) (SC.r (SC.l s))) (SC.r s))))) fun g158 x157=>(YI (K5 (Qg (Q9 (K:=K) (Ev.toB (Zl (Xa (r:=(rV (rV Xc))) 2 rfl (fun _ s=>(SC.r (SC.l s)))))))) (Qg (Q9 (K:=K) (Ev.toB (X7 (Xa (r:=(rV (rV Xc))) 2 rfl (fun _ s=>(SC.r (SC.l s)))) (Xa (r:=(rV Xc)) 5 rfl (fun _ s=>(SC.r s)))))))) (XB (EvS.ev (EvB.sh (ZV false)))) (XB (EvS.ev (EvB.sh (Jp (Ev.toB (Zl (Xa (r:=(rV (rV Xc))) 2 rfl (fun _ s=>(SC.r (SC.l s)))))) (Ev.toB (X7 (Xa (r:=(rV (rV Xc))) 2 rfl (fun _ s=>(SC.r (SC.l s)))) (Xa (r:=(rV Xc)) 5 rfl (fun _ s=>(SC.r s))))))))))))))))))
end
set_option maxHeartbeats 4000000 in
theorem IF {l : PySem.W.OpenLaw} {w : World} {K : PySem.W.Frag} {h : Heap} {mg : Str -> Option Value} {fa f1 f2 f3 f4 f5 f6 f7 f8 f9 f10 f11 f12 f13 f14 f15 f16 f17 f18 f19 f20 f21 f22 f23 f24 : Addr}  {E0 : Addr} {E1 : Addr} {E2 : Addr} {E3 : Addr} (X : K.In h) (G : h.Ns mainGlobals mg) (hfa : mg "law" = some (.ref fa))
    {od1 an1 od2 an2 od3 an3 od4 an4 od5 an5 od6 an6 od7 an7 od8 an8 od9 an9 od10 an10 od11 an11 od12 an12 od13 an13 od14 an14 od15 an15 od16 an16 od17 an17 od18 an18 od19 an19 od20 an20 od21 an21 od22 an22 od23 an23 od24 an24 : Option Addr} {sl1 sl2 sl3 sl4 sl5 sl6 sl7 sl8 sl9 sl10 sl11 sl12 sl13 sl14 sl15 sl16 sl17 sl18 sl19 sl20 sl21 sl22 sl23 sl24 : Array (Option Value)} {oc1 kV1 dc1 pm1 cd1 ct1 oc2 kV2 dc2 pm2 cd2 ct2 oc3 kV3 dc3 pm3 cd3 ct3 oc4 kV4 dc4 pm4 cd4 ct4 oc5 kV5 dc5 pm5 cd5 ct5 oc6 kV6 dc6 pm6 cd6 ct6 oc7 kV7 dc7 pm7 cd7 ct7 oc8 kV8 dc8 pm8 cd8 ct8 oc9 kV9 dc9 pm9 cd9 ct9 oc10 kV10 dc10 pm10 cd10 ct10 oc11 kV11 dc11 pm11 cd11 ct11 oc12 kV12 dc12 pm12 cd12 ct12 oc13 kV13 dc13 pm13 cd13 ct13 oc14 kV14 dc14 pm14 cd14 ct14 oc15 kV15 dc15 pm15 cd15 ct15 oc16 kV16 dc16 pm16 cd16 ct16 oc17 kV17 dc17 pm17 cd17 ct17 oc18 kV18 dc18 pm18 cd18 ct18 oc19 kV19 dc19 pm19 cd19 ct19 oc20 kV20 dc20 pm20 cd20 ct20 oc21 kV21 dc21 pm21 cd21 ct21 oc22 kV22 dc22 pm22 cd22 ct22 oc23 kV23 dc23 pm23 cd23 ct23 oc24 kV24 dc24 pm24 cd24 ct24 : Value}
    (a1 : PySem.W.nsIn K mainGlobals "step_beyond" = some (some (.ref f1))) (l1 : K.lookup f1 = some ⟨oc1, od1, .func (PySem.W.fnOf "step_beyond" "step_beyond" (XM X3) (XC X3) (Xh X3) .none kV1 dc1 pm1 an1 cd1 ct1), sl1⟩) (c1 : PySem.W.codeIn K cd1 "step_beyond" = true) (k1 : PySem.W.keepIn K (.ref f1) = true)
    (a2 : PySem.W.nsIn K mainGlobals "part" = some (some (.ref f2))) (l2 : K.lookup f2 = some ⟨oc2, od2, .func (PySem.W.fnOf "part" "part" (XM ZY) (XC ZY) (Xh ZY) .none kV2 dc2 pm2 an2 cd2 ct2), sl2⟩) (c2 : PySem.W.codeIn K cd2 "part" = true) (k2 : PySem.W.keepIn K (.ref f2) = true)
    (a3 : PySem.W.nsIn K mainGlobals "orbits" = some (some (.ref f3))) (l3 : K.lookup f3 = some ⟨oc3, od3, .func (PySem.W.fnOf "orbits" "orbits" (XM YW) (XC YW) (Xh YW) .none kV3 dc3 pm3 an3 cd3 ct3), sl3⟩) (c3 : PySem.W.codeIn K cd3 "orbits" = true) (k3 : PySem.W.keepIn K (.ref f3) = true)
    (a4 : PySem.W.nsIn K mainGlobals "joined" = some (some (.ref f4))) (l4 : K.lookup f4 = some ⟨oc4, od4, .func (PySem.W.fnOf "joined" "joined" (XM YY) (XC YY) (Xh YY) .none kV4 dc4 pm4 an4 cd4 ct4), sl4⟩) (c4 : PySem.W.codeIn K cd4 "joined" = true) (k4 : PySem.W.keepIn K (.ref f4) = true)
    (a5 : PySem.W.nsIn K mainGlobals "colours_with" = some (some (.ref f5))) (l5 : K.lookup f5 = some ⟨oc5, od5, .func (PySem.W.fnOf "colours_with" "colours_with" (XM XO) (XC XO) (Xh XO) .none kV5 dc5 pm5 an5 cd5 ct5), sl5⟩) (c5 : PySem.W.codeIn K cd5 "colours_with" = true) (k5 : PySem.W.keepIn K (.ref f5) = true)
    (a6 : PySem.W.nsIn K mainGlobals "_law_cell" = some (some (.ref f6))) (l6 : K.lookup f6 = some ⟨oc6, od6, .func (PySem.W.fnOf "_law_cell" "_law_cell" (XM Q3) (XC Q3) (Xh Q3) .none kV6 dc6 pm6 an6 cd6 ct6), sl6⟩) (c6 : PySem.W.codeIn K cd6 "_law_cell" = true) (k6 : PySem.W.keepIn K (.ref f6) = true)
    (a7 : PySem.W.nsIn K mainGlobals "_law_mix" = some (some (.ref f7))) (l7 : K.lookup f7 = some ⟨oc7, od7, .func (PySem.W.fnOf "_law_mix" "_law_mix" (XM Ul) (XC Ul) (Xh Ul) .none kV7 dc7 pm7 an7 cd7 ct7), sl7⟩) (c7 : PySem.W.codeIn K cd7 "_law_mix" = true) (k7 : PySem.W.keepIn K (.ref f7) = true)
    (a8 : PySem.W.nsIn K mainGlobals "_law_row" = some (some (.ref f8))) (l8 : K.lookup f8 = some ⟨oc8, od8, .func (PySem.W.fnOf "_law_row" "_law_row" (XM U5) (XC U5) (Xh U5) .none kV8 dc8 pm8 an8 cd8 ct8), sl8⟩) (c8 : PySem.W.codeIn K cd8 "_law_row" = true) (k8 : PySem.W.keepIn K (.ref f8) = true)
    (a9 : PySem.W.nsIn K mainGlobals "_law_cell_of" = some (some (.ref f9))) (l9 : K.lookup f9 = some ⟨oc9, od9, .func (PySem.W.fnOf "_law_cell_of" "_law_cell_of" (XM YM) (XC YM) (Xh YM) .none kV9 dc9 pm9 an9 cd9 ct9), sl9⟩) (c9 : PySem.W.codeIn K cd9 "_law_cell_of" = true) (k9 : PySem.W.keepIn K (.ref f9) = true)
    (a10 : PySem.W.nsIn K mainGlobals "_law_common" = some (some (.ref f10))) (l10 : K.lookup f10 = some ⟨oc10, od10, .func (PySem.W.fnOf "_law_common" "_law_common" (XM Zj) (XC Zj) (Xh Zj) .none kV10 dc10 pm10 an10 cd10 ct10), sl10⟩) (c10 : PySem.W.codeIn K cd10 "_law_common" = true) (k10 : PySem.W.keepIn K (.ref f10) = true)
    (a11 : PySem.W.nsIn K mainGlobals "_law_made" = some (some (.ref f11))) (l11 : K.lookup f11 = some ⟨oc11, od11, .func (PySem.W.fnOf "_law_made" "_law_made" (XM Qx) (XC Qx) (Xh Qx) .none kV11 dc11 pm11 an11 cd11 ct11), sl11⟩) (c11 : PySem.W.codeIn K cd11 "_law_made" = true) (k11 : PySem.W.keepIn K (.ref f11) = true)
    (a12 : PySem.W.nsIn K mainGlobals "_law_ordered" = some (some (.ref f12))) (l12 : K.lookup f12 = some ⟨oc12, od12, .func (PySem.W.fnOf "_law_ordered" "_law_ordered" (XM YJ) (XC YJ) (Xh YJ) .none kV12 dc12 pm12 an12 cd12 ct12), sl12⟩) (c12 : PySem.W.codeIn K cd12 "_law_ordered" = true) (k12 : PySem.W.keepIn K (.ref f12) = true)
    (a13 : PySem.W.nsIn K mainGlobals "_law_relaid" = some (some (.ref f13))) (l13 : K.lookup f13 = some ⟨oc13, od13, .func (PySem.W.fnOf "_law_relaid" "_law_relaid" (XM Y0) (XC Y0) (Xh Y0) .none kV13 dc13 pm13 an13 cd13 ct13), sl13⟩) (c13 : PySem.W.codeIn K cd13 "_law_relaid" = true) (k13 : PySem.W.keepIn K (.ref f13) = true)
    (a14 : PySem.W.nsIn K mainGlobals "_law_table" = some (some (.ref f14))) (l14 : K.lookup f14 = some ⟨oc14, od14, .func (PySem.W.fnOf "_law_table" "_law_table" (XM ZW) (XC ZW) (Xh ZW) .none kV14 dc14 pm14 an14 cd14 ct14), sl14⟩) (c14 : PySem.W.codeIn K cd14 "_law_table" = true) (k14 : PySem.W.keepIn K (.ref f14) = true)
    (a15 : PySem.W.nsIn K mainGlobals "_law_is_whole" = some (some (.ref f15))) (l15 : K.lookup f15 = some ⟨oc15, od15, .func (PySem.W.fnOf "_law_is_whole" "_law_is_whole" (XM Yw) (XC Yw) (Xh Yw) .none kV15 dc15 pm15 an15 cd15 ct15), sl15⟩) (c15 : PySem.W.codeIn K cd15 "_law_is_whole" = true) (k15 : PySem.W.keepIn K (.ref f15) = true)
    (a16 : PySem.W.nsIn K mainGlobals "_law_is_wholes" = some (some (.ref f16))) (l16 : K.lookup f16 = some ⟨oc16, od16, .func (PySem.W.fnOf "_law_is_wholes" "_law_is_wholes" (XM Yh) (XC Yh) (Xh Yh) .none kV16 dc16 pm16 an16 cd16 ct16), sl16⟩) (c16 : PySem.W.codeIn K cd16 "_law_is_wholes" = true) (k16 : PySem.W.keepIn K (.ref f16) = true)
    (a17 : PySem.W.nsIn K mainGlobals "_law_grown" = some (some (.ref f17))) (l17 : K.lookup f17 = some ⟨oc17, od17, .func (PySem.W.fnOf "_law_grown" "_law_grown" (XM ZM) (XC ZM) (Xh ZM) .none kV17 dc17 pm17 an17 cd17 ct17), sl17⟩) (c17 : PySem.W.codeIn K cd17 "_law_grown" = true) (k17 : PySem.W.keepIn K (.ref f17) = true)
    (a18 : PySem.W.nsIn K mainGlobals "_law_linked" = some (some (.ref f18))) (l18 : K.lookup f18 = some ⟨oc18, od18, .func (PySem.W.fnOf "_law_linked" "_law_linked" (XM YZ) (XC YZ) (Xh YZ) .none kV18 dc18 pm18 an18 cd18 ct18), sl18⟩) (c18 : PySem.W.codeIn K cd18 "_law_linked" = true) (k18 : PySem.W.keepIn K (.ref f18) = true)
    (a19 : PySem.W.nsIn K mainGlobals "_law_due" = some (some (.ref f19))) (l19 : K.lookup f19 = some ⟨oc19, od19, .func (PySem.W.fnOf "_law_due" "_law_due" (XM UM) (XC UM) (Xh UM) .none kV19 dc19 pm19 an19 cd19 ct19), sl19⟩) (c19 : PySem.W.codeIn K cd19 "_law_due" = true) (k19 : PySem.W.keepIn K (.ref f19) = true)
    (a20 : PySem.W.nsIn K mainGlobals "_law_done" = some (some (.ref f20))) (l20 : K.lookup f20 = some ⟨oc20, od20, .func (PySem.W.fnOf "_law_done" "_law_done" (XM QX) (XC QX) (Xh QX) .none kV20 dc20 pm20 an20 cd20 ct20), sl20⟩) (c20 : PySem.W.codeIn K cd20 "_law_done" = true) (k20 : PySem.W.keepIn K (.ref f20) = true)
    (a21 : PySem.W.nsIn K mainGlobals "_law_parted" = some (some (.ref f21))) (l21 : K.lookup f21 = some ⟨oc21, od21, .func (PySem.W.fnOf "_law_parted" "_law_parted" (XM Y2) (XC Y2) (Xh Y2) .none kV21 dc21 pm21 an21 cd21 ct21), sl21⟩) (c21 : PySem.W.codeIn K cd21 "_law_parted" = true) (k21 : PySem.W.keepIn K (.ref f21) = true)
    (a22 : PySem.W.nsIn K mainGlobals "_law_orbits" = some (some (.ref f22))) (l22 : K.lookup f22 = some ⟨oc22, od22, .func (PySem.W.fnOf "_law_orbits" "_law_orbits" (XM Ym) (XC Ym) (Xh Ym) .none kV22 dc22 pm22 an22 cd22 ct22), sl22⟩) (c22 : PySem.W.codeIn K cd22 "_law_orbits" = true) (k22 : PySem.W.keepIn K (.ref f22) = true)
    (a23 : PySem.W.nsIn K mainGlobals "_law_two_ways" = some (some (.ref f23))) (l23 : K.lookup f23 = some ⟨oc23, od23, .func (PySem.W.fnOf "_law_two_ways" "_law_two_ways" (XM Yl) (XC Yl) (Xh Yl) .none kV23 dc23 pm23 an23 cd23 ct23), sl23⟩) (c23 : PySem.W.codeIn K cd23 "_law_two_ways" = true) (k23 : PySem.W.keepIn K (.ref f23) = true)
    (a24 : PySem.W.nsIn K mainGlobals "law" = some (some (.ref f24))) (l24 : K.lookup f24 = some ⟨oc24, od24, .func (PySem.W.fnOf "law" "law" (XM JA) (XC JA) (Xh JA) .none kV24 dc24 pm24 an24 cd24 ct24), sl24⟩) (c24 : PySem.W.codeIn K cd24 "law" = true) (k24 : PySem.W.keepIn K (.ref f24) = true)
    (z1 : PySem.W.nsIn K mainGlobals "abs" = some none)
    (z2 : PySem.W.nsIn K mainGlobals "bool" = some none)
    (z3 : PySem.W.nsIn K mainGlobals "dict" = some none)
    (z4 : PySem.W.nsIn K mainGlobals "enumerate" = some none)
    (z5 : PySem.W.nsIn K mainGlobals "int" = some none)
    (z6 : PySem.W.nsIn K mainGlobals "isinstance" = some none)
    (z7 : PySem.W.nsIn K mainGlobals "len" = some none)
    (z8 : PySem.W.nsIn K mainGlobals "list" = some none)
    (z9 : PySem.W.nsIn K mainGlobals "min" = some none)
    (z10 : PySem.W.nsIn K mainGlobals "range" = some none)
    (z11 : PySem.W.nsIn K mainGlobals "set" = some none)
    (z12 : PySem.W.nsIn K mainGlobals "sorted" = some none)
    (x0 : PySem.W.nsIn K mainGlobals "PlaitError" = some (some (.ref E0)))
    (x1 : PySem.W.nsIn K mainGlobals "TooBig" = some (some (.ref E1)))
    (x2 : PySem.W.nsIn K mainGlobals "NotClosed" = some (some (.ref E2)))
    (x3 : PySem.W.nsIn K mainGlobals "NoFit" = some (some (.ref E3)))
    (yg : PySem.W.specialIn K (.builtin "object.__class__") "__get__" = some (some (.builtin "getset_descriptor.__get__")))
    (yt : PySem.W.takesIn K (.builtin "object.__class__") = some true)
    (ya0 : PySem.W.excIn K E0 vEr "ValueError.__new__" = true)
    (yb0 : PySem.W.findIn K (.ref E0) "__getattribute__" = some (some (.builtin "BaseException.__getattribute__")))
    (yc0 : PySem.W.findIn K (.ref E0) "__getattr__" = some none)
    (yd0 : PySem.W.findIn K (.ref E0) "__class__" = some (some (.builtin "object.__class__")))
    (ye0 : PySem.W.mroIn K E0 (.type "object") = some true)
    (yf0 : PySem.W.isClsIn K E0 = true)
    (yh0 : PySem.W.mroIn K E0 (.type "BaseException") = some true)
    (yi0 : PySem.W.subIn K (.ref E0) (.type "ValueError") = some true)
    (yj0 : PySem.W.typeIn K (.ref E0) = some (.type "type"))
    (yk0 : PySem.W.subIn K (.ref E0) (.type "BaseException") = some true)
    (ya1 : PySem.W.excIn K E1 vEr "ValueError.__new__" = true)
    (yb1 : PySem.W.findIn K (.ref E1) "__getattribute__" = some (some (.builtin "BaseException.__getattribute__")))
    (yc1 : PySem.W.findIn K (.ref E1) "__getattr__" = some none)
    (yd1 : PySem.W.findIn K (.ref E1) "__class__" = some (some (.builtin "object.__class__")))
    (ye1 : PySem.W.mroIn K E1 (.type "object") = some true)
    (yf1 : PySem.W.isClsIn K E1 = true)
    (yh1 : PySem.W.mroIn K E1 (.type "BaseException") = some true)
    (yi1 : PySem.W.subIn K (.ref E1) (.type "ValueError") = some true)
    (yj1 : PySem.W.typeIn K (.ref E1) = some (.type "type"))
    (yk1 : PySem.W.subIn K (.ref E1) (.type "BaseException") = some true)
    (ya2 : PySem.W.excIn K E2 vEr "ValueError.__new__" = true)
    (yb2 : PySem.W.findIn K (.ref E2) "__getattribute__" = some (some (.builtin "BaseException.__getattribute__")))
    (yc2 : PySem.W.findIn K (.ref E2) "__getattr__" = some none)
    (yd2 : PySem.W.findIn K (.ref E2) "__class__" = some (some (.builtin "object.__class__")))
    (ye2 : PySem.W.mroIn K E2 (.type "object") = some true)
    (yf2 : PySem.W.isClsIn K E2 = true)
    (yh2 : PySem.W.mroIn K E2 (.type "BaseException") = some true)
    (yi2 : PySem.W.subIn K (.ref E2) (.type "ValueError") = some true)
    (yj2 : PySem.W.typeIn K (.ref E2) = some (.type "type"))
    (yk2 : PySem.W.subIn K (.ref E2) (.type "BaseException") = some true)
    (ya3 : PySem.W.excIn K E3 vEr "ValueError.__new__" = true)
    (yb3 : PySem.W.findIn K (.ref E3) "__getattribute__" = some (some (.builtin "BaseException.__getattribute__")))
    (yc3 : PySem.W.findIn K (.ref E3) "__getattr__" = some none)
    (yd3 : PySem.W.findIn K (.ref E3) "__class__" = some (some (.builtin "object.__class__")))
    (ye3 : PySem.W.mroIn K E3 (.type "object") = some true)
    (yf3 : PySem.W.isClsIn K E3 = true)
    (yh3 : PySem.W.mroIn K E3 (.type "BaseException") = some true)
    (yi3 : PySem.W.subIn K (.ref E3) (.type "ValueError") = some true)
    (yj3 : PySem.W.typeIn K (.ref E3) = some (.type "type"))
    (yk3 : PySem.W.subIn K (.ref E3) (.type "BaseException") = some true)
    (yl0_0 : PySem.W.subIn K (.ref E0) (.ref E0) = some true)
    (yl0_1 : PySem.W.subIn K (.ref E0) (.ref E1) = some false)
    (yl0_2 : PySem.W.subIn K (.ref E0) (.ref E2) = some false)
    (yl0_3 : PySem.W.subIn K (.ref E0) (.ref E3) = some false)
    (yl1_0 : PySem.W.subIn K (.ref E1) (.ref E0) = some true)
    (yl1_1 : PySem.W.subIn K (.ref E1) (.ref E1) = some true)
    (yl1_2 : PySem.W.subIn K (.ref E1) (.ref E2) = some false)
    (yl1_3 : PySem.W.subIn K (.ref E1) (.ref E3) = some false)
    (yl2_0 : PySem.W.subIn K (.ref E2) (.ref E0) = some true)
    (yl2_1 : PySem.W.subIn K (.ref E2) (.ref E1) = some false)
    (yl2_2 : PySem.W.subIn K (.ref E2) (.ref E2) = some true)
    (yl2_3 : PySem.W.subIn K (.ref E2) (.ref E3) = some false)
    (yl3_0 : PySem.W.subIn K (.ref E3) (.ref E0) = some true)
    (yl3_1 : PySem.W.subIn K (.ref E3) (.ref E1) = some false)
    (yl3_2 : PySem.W.subIn K (.ref E3) (.ref E2) = some false)
    (yl3_3 : PySem.W.subIn K (.ref E3) (.ref E3) = some true)
    : ∃ fd : FuncData, (∀ (s : Shared) (v : Value), BindsTo s fd ⟨[v], []⟩ [("_law_script", v)]) /\ ∀ base : Heap, K.In base -> base.Ns mainGlobals mg -> FnOk l.prog w K mg base CX0 5 fa fd ["_law_script"] (sp1 (rL Xc) (oF XH) Kj K):=by
  have e:=hfa.symm.trans (PySem.W.mg_of X G a24)
  cases e
  have pz0 : QN "PlaitError" = true:=by decide
  have er0:=Gr yb0 yc0 yd0 ye0 yf0 yh0 yg yt
  have iz0_0 : YX "PlaitError" "PlaitError" = true:=by decide
  have kx0_0:=Qb yl0_0 yl0_0 yf0 yj0 yk0
  have iz0_1 : YX "PlaitError" "TooBig" = false:=by decide
  have kx0_1:=Qb yl0_0 yl0_1 yf1 yj1 yk1
  have iz0_2 : YX "PlaitError" "NotClosed" = false:=by decide
  have kx0_2:=Qb yl0_0 yl0_2 yf2 yj2 yk2
  have iz0_3 : YX "PlaitError" "NoFit" = false:=by decide
  have kx0_3:=Qb yl0_0 yl0_3 yf3 yj3 yk3
  have pz1 : QN "TooBig" = true:=by decide
  have er1:=Gr yb1 yc1 yd1 ye1 yf1 yh1 yg yt
  have iz1_0 : YX "TooBig" "PlaitError" = true:=by decide
  have kx1_0:=Qb yl1_1 yl1_0 yf0 yj0 yk0
  have iz1_1 : YX "TooBig" "TooBig" = true:=by decide
  have kx1_1:=Qb yl1_1 yl1_1 yf1 yj1 yk1
  have iz1_2 : YX "TooBig" "NotClosed" = false:=by decide
  have kx1_2:=Qb yl1_1 yl1_2 yf2 yj2 yk2
  have iz1_3 : YX "TooBig" "NoFit" = false:=by decide
  have kx1_3:=Qb yl1_1 yl1_3 yf3 yj3 yk3
  have pz2 : QN "NotClosed" = true:=by decide
  have er2:=Gr yb2 yc2 yd2 ye2 yf2 yh2 yg yt
  have iz2_0 : YX "NotClosed" "PlaitError" = true:=by decide
  have kx2_0:=Qb yl2_2 yl2_0 yf0 yj0 yk0
  have iz2_1 : YX "NotClosed" "TooBig" = false:=by decide
  have kx2_1:=Qb yl2_2 yl2_1 yf1 yj1 yk1
  have iz2_2 : YX "NotClosed" "NotClosed" = true:=by decide
  have kx2_2:=Qb yl2_2 yl2_2 yf2 yj2 yk2
  have iz2_3 : YX "NotClosed" "NoFit" = false:=by decide
  have kx2_3:=Qb yl2_2 yl2_3 yf3 yj3 yk3
  have pz3 : QN "NoFit" = true:=by decide
  have er3:=Gr yb3 yc3 yd3 ye3 yf3 yh3 yg yt
  have iz3_0 : YX "NoFit" "PlaitError" = true:=by decide
  have kx3_0:=Qb yl3_3 yl3_0 yf0 yj0 yk0
  have iz3_1 : YX "NoFit" "TooBig" = false:=by decide
  have kx3_1:=Qb yl3_3 yl3_1 yf1 yj1 yk1
  have iz3_2 : YX "NoFit" "NotClosed" = false:=by decide
  have kx3_2:=Qb yl3_3 yl3_2 yf2 yj2 yk2
  have iz3_3 : YX "NoFit" "NoFit" = true:=by decide
  have kx3_3:=Qb yl3_3 yl3_3 yf3 yj3 yk3
  have y0 : Ey K [("PlaitError", E0), ("TooBig", E1), ("NotClosed", E2), ("NoFit", E3)] = true:=by
    unfold Ey
    simp only [List.all_cons, List.all_nil, Bool.and_true, Bool.and_self, beq_self_eq_true, Bool.not_true, Bool.not_false, Bool.false_or, Bool.true_or, pz0, ya0, er0, VV yi0, pz1, ya1, er1, VV yi1, pz2, ya2, er2, VV yi2, pz3, ya3, er3, VV yi3, iz0_0, kx0_0.1, kx0_0.2, iz0_1, kx0_1.1, kx0_1.2, iz0_2, kx0_2.1, kx0_2.2, iz0_3, kx0_3.1, kx0_3.2, iz1_0, kx1_0.1, kx1_0.2, iz1_1, kx1_1.1, kx1_1.2, iz1_2, kx1_2.1, kx1_2.2, iz1_3, kx1_3.1, kx1_3.2, iz2_0, kx2_0.1, kx2_0.2, iz2_1, kx2_1.1, kx2_1.2, iz2_2, kx2_2.1, kx2_2.2, iz2_3, kx2_3.1, kx2_3.2, iz3_0, kx3_0.1, kx3_0.2, iz3_1, kx3_1.1, kx3_1.2, iz3_2, kx3_2.1, kx3_2.2, iz3_3, kx3_3.1, kx3_3.2]
  have Y : Ecs XR K mg:=IH (cs:=[("PlaitError", E0), ("TooBig", E1), ("NotClosed", E2), ("NoFit", E3)]) y0 (fun p hp=>by
    simp only [List.mem_cons, List.not_mem_nil, or_false] at hp
    rcases hp with rfl | rfl | rfl | rfl
    . exact PySem.W.mg_of X G x0
    . exact PySem.W.mg_of X G x1
    . exact PySem.W.mg_of X G x2
    . exact PySem.W.mg_of X G x3)
  have Z : Blt mg:=⟨PySem.W.mg_none_of X G z1, PySem.W.mg_none_of X G z2, PySem.W.mg_none_of X G z3, PySem.W.mg_none_of X G z4, PySem.W.mg_none_of X G z5, PySem.W.mg_none_of X G z6, PySem.W.mg_none_of X G z7, PySem.W.mg_none_of X G z8, PySem.W.mg_none_of X G z9, PySem.W.mg_none_of X G z10, PySem.W.mg_none_of X G z11, PySem.W.mg_none_of X G z12⟩
  have D1 : Def K mg "step_beyond" X3 ["table", "known"]:=⟨f1, _, Xx (st:=X3) l1 c1 k1, (Xx (st:=X3) l1 c1 k1).binds (ps:=["table", "known"]) fun _ _ _ _ _ _ us hl=>(by obtain ⟨_, _, rfl⟩:=QO hl; rfl), PySem.W.mg_of X G a1⟩
  have D2 : Def K mg "part" ZY ["table", "members"]:=⟨f2, _, Xx (st:=ZY) l2 c2 k2, (Xx (st:=ZY) l2 c2 k2).binds (ps:=["table", "members"]) fun _ _ _ _ _ _ us hl=>(by obtain ⟨_, _, rfl⟩:=QO hl; rfl), PySem.W.mg_of X G a2⟩
  have D3 : Def K mg "orbits" YW ["table"]:=⟨f3, _, Xx (st:=YW) l3 c3 k3, (Xx (st:=YW) l3 c3 k3).binds (ps:=["table"]) fun _ _ _ _ _ _ us hl=>(by obtain ⟨_, rfl⟩:=KN hl; rfl), PySem.W.mg_of X G a3⟩
  have D4 : Def K mg "joined" YY ["leasts", "one", "other"]:=⟨f4, _, Xx (st:=YY) l4 c4 k4, (Xx (st:=YY) l4 c4 k4).binds (ps:=["leasts", "one", "other"]) fun _ _ _ _ _ _ us hl=>(by obtain ⟨_, _, _, rfl⟩:=Ft hl; rfl), PySem.W.mg_of X G a4⟩
  have D5 : Def K mg "colours_with" XO ["leasts", "least"]:=⟨f5, _, Xx (st:=XO) l5 c5 k5, (Xx (st:=XO) l5 c5 k5).binds (ps:=["leasts", "least"]) fun _ _ _ _ _ _ us hl=>(by obtain ⟨_, _, rfl⟩:=QO hl; rfl), PySem.W.mg_of X G a5⟩
  have D6 : Def K mg "_law_cell" Q3 ["_law_script", "_law_place"]:=⟨f6, _, Xx (st:=Q3) l6 c6 k6, (Xx (st:=Q3) l6 c6 k6).binds (ps:=["_law_script", "_law_place"]) fun _ _ _ _ _ _ us hl=>(by obtain ⟨_, _, rfl⟩:=QO hl; rfl), PySem.W.mg_of X G a6⟩
  have D7 : Def K mg "_law_mix" Ul ["_law_cell_here", "_law_k"]:=⟨f7, _, Xx (st:=Ul) l7 c7 k7, (Xx (st:=Ul) l7 c7 k7).binds (ps:=["_law_cell_here", "_law_k"]) fun _ _ _ _ _ _ us hl=>(by obtain ⟨_, _, rfl⟩:=QO hl; rfl), PySem.W.mg_of X G a7⟩
  have D8 : Def K mg "_law_row" U5 ["_law_script", "_law_place", "_law_sizes"]:=⟨f8, _, Xx (st:=U5) l8 c8 k8, (Xx (st:=U5) l8 c8 k8).binds (ps:=["_law_script", "_law_place", "_law_sizes"]) fun _ _ _ _ _ _ us hl=>(by obtain ⟨_, _, _, rfl⟩:=Ft hl; rfl), PySem.W.mg_of X G a8⟩
  have D9 : Def K mg "_law_cell_of" YM ["_law_way", "_law_size", "_law_factor", "_law_a", "_law_b"]:=⟨f9, _, Xx (st:=YM) l9 c9 k9, (Xx (st:=YM) l9 c9 k9).binds (ps:=["_law_way", "_law_size", "_law_factor", "_law_a", "_law_b"]) fun _ _ _ _ _ _ us hl=>(by obtain ⟨_, _, _, _, _, rfl⟩:=Lj hl; rfl), PySem.W.mg_of X G a9⟩
  have D10 : Def K mg "_law_common" Zj ["_law_one", "_law_other"]:=⟨f10, _, Xx (st:=Zj) l10 c10 k10, (Xx (st:=Zj) l10 c10 k10).binds (ps:=["_law_one", "_law_other"]) fun _ _ _ _ _ _ us hl=>(by obtain ⟨_, _, rfl⟩:=QO hl; rfl), PySem.W.mg_of X G a10⟩
  have D11 : Def K mg "_law_made" Qx ["_law_way", "_law_size", "_law_factor"]:=⟨f11, _, Xx (st:=Qx) l11 c11 k11, (Xx (st:=Qx) l11 c11 k11).binds (ps:=["_law_way", "_law_size", "_law_factor"]) fun _ _ _ _ _ _ us hl=>(by obtain ⟨_, _, _, rfl⟩:=Ft hl; rfl), PySem.W.mg_of X G a11⟩
  have D12 : Def K mg "_law_ordered" YJ ["_law_some", "_law_count"]:=⟨f12, _, Xx (st:=YJ) l12 c12 k12, (Xx (st:=YJ) l12 c12 k12).binds (ps:=["_law_some", "_law_count"]) fun _ _ _ _ _ _ us hl=>(by obtain ⟨_, _, rfl⟩:=QO hl; rfl), PySem.W.mg_of X G a12⟩
  have D13 : Def K mg "_law_relaid" Y0 ["_law_some", "_law_spots"]:=⟨f13, _, Xx (st:=Y0) l13 c13 k13, (Xx (st:=Y0) l13 c13 k13).binds (ps:=["_law_some", "_law_spots"]) fun _ _ _ _ _ _ us hl=>(by obtain ⟨_, _, rfl⟩:=QO hl; rfl), PySem.W.mg_of X G a13⟩
  have D14 : Def K mg "_law_table" ZW ["_law_script", "_law_place", "_law_most"]:=⟨f14, _, Xx (st:=ZW) l14 c14 k14, (Xx (st:=ZW) l14 c14 k14).binds (ps:=["_law_script", "_law_place", "_law_most"]) fun _ _ _ _ _ _ us hl=>(by obtain ⟨_, _, _, rfl⟩:=Ft hl; rfl), PySem.W.mg_of X G a14⟩
  have D15 : Def K mg "_law_is_whole" Yw ["_law_one"]:=⟨f15, _, Xx (st:=Yw) l15 c15 k15, (Xx (st:=Yw) l15 c15 k15).binds (ps:=["_law_one"]) fun _ _ _ _ _ _ us hl=>(by obtain ⟨_, rfl⟩:=KN hl; rfl), PySem.W.mg_of X G a15⟩
  have D16 : Def K mg "_law_is_wholes" Yh ["_law_found"]:=⟨f16, _, Xx (st:=Yh) l16 c16 k16, (Xx (st:=Yh) l16 c16 k16).binds (ps:=["_law_found"]) fun _ _ _ _ _ _ us hl=>(by obtain ⟨_, rfl⟩:=KN hl; rfl), PySem.W.mg_of X G a16⟩
  have D17 : Def K mg "_law_grown" ZM ["_law_table_here", "_law_some"]:=⟨f17, _, Xx (st:=ZM) l17 c17 k17, (Xx (st:=ZM) l17 c17 k17).binds (ps:=["_law_table_here", "_law_some"]) fun _ _ _ _ _ _ us hl=>(by obtain ⟨_, _, rfl⟩:=QO hl; rfl), PySem.W.mg_of X G a17⟩
  have D18 : Def K mg "_law_linked" YZ ["_law_table_here"]:=⟨f18, _, Xx (st:=YZ) l18 c18 k18, (Xx (st:=YZ) l18 c18 k18).binds (ps:=["_law_table_here"]) fun _ _ _ _ _ _ us hl=>(by obtain ⟨_, rfl⟩:=KN hl; rfl), PySem.W.mg_of X G a18⟩
  have D19 : Def K mg "_law_due" UM ["_law_table_here", "_law_members"]:=⟨f19, _, Xx (st:=UM) l19 c19 k19, (Xx (st:=UM) l19 c19 k19).binds (ps:=["_law_table_here", "_law_members"]) fun _ _ _ _ _ _ us hl=>(by obtain ⟨_, _, rfl⟩:=QO hl; rfl), PySem.W.mg_of X G a19⟩
  have D20 : Def K mg "_law_done" QX ["_law_table_here", "_law_members"]:=⟨f20, _, Xx (st:=QX) l20 c20 k20, (Xx (st:=QX) l20 c20 k20).binds (ps:=["_law_table_here", "_law_members"]) fun _ _ _ _ _ _ us hl=>(by obtain ⟨_, _, rfl⟩:=QO hl; rfl), PySem.W.mg_of X G a20⟩
  have D21 : Def K mg "_law_parted" Y2 ["_law_table_here", "_law_members"]:=⟨f21, _, Xx (st:=Y2) l21 c21 k21, (Xx (st:=Y2) l21 c21 k21).binds (ps:=["_law_table_here", "_law_members"]) fun _ _ _ _ _ _ us hl=>(by obtain ⟨_, _, rfl⟩:=QO hl; rfl), PySem.W.mg_of X G a21⟩
  have D22 : Def K mg "_law_orbits" Ym ["_law_table_here"]:=⟨f22, _, Xx (st:=Ym) l22 c22 k22, (Xx (st:=Ym) l22 c22 k22).binds (ps:=["_law_table_here"]) fun _ _ _ _ _ _ us hl=>(by obtain ⟨_, rfl⟩:=KN hl; rfl), PySem.W.mg_of X G a22⟩
  have D23 : Def K mg "_law_two_ways" Yl ["_law_size"]:=⟨f23, _, Xx (st:=Yl) l23 c23 k23, (Xx (st:=Yl) l23 c23 k23).binds (ps:=["_law_size"]) fun _ _ _ _ _ _ us hl=>(by obtain ⟨_, rfl⟩:=KN hl; rfl), PySem.W.mg_of X G a23⟩
  refine ⟨PySem.W.fnOf "law" "law" (XM JA) (XC JA) (Xh JA) .none kV24 dc24 pm24 an24 cd24 ct24, fun s v=>.of_eq rfl, fun base _ _=>?_⟩
  have g_cell:=Hc (P:=l.prog) (w:=w) (base:=base) D6  Y Z
  have g_mix:=HK (P:=l.prog) (w:=w) (base:=base) D7  Y Z
  have g_row:=Ip (P:=l.prog) (w:=w) (base:=base) D8 g_cell g_mix Y Z
  have g_common:=Dl (P:=l.prog) (w:=w) (base:=base) D10  Y Z
  have g_cell_of:=GF (P:=l.prog) (w:=w) (base:=base) D9  Y Z
  have g_made:=ES (P:=l.prog) (w:=w) (base:=base) D11 g_common g_cell_of Y Z
  have g_relaid:=F9 (P:=l.prog) (w:=w) (base:=base) D13  Y Z
  have g_ordered:=GI (P:=l.prog) (w:=w) (base:=base) D12  Y Z
  have g_table:=Bs (P:=l.prog) (w:=w) (base:=base) D14 g_row g_made g_relaid g_ordered Y Z
  have g_grown:=CS (P:=l.prog) (w:=w) (base:=base) D17  Y Z
  have g_two_ways:=Ky (P:=l.prog) (w:=w) (base:=base) D23  Y Z
  have g_colours_with:=JG (P:=l.prog) (w:=w) (base:=base) D5  Y Z
  have g_joined:=Dk (P:=l.prog) (w:=w) (base:=base) D4  Y Z
  have g_orbits:=Dg (P:=l.prog) (w:=w) (base:=base) D3 g_colours_with g_joined Y Z
  have g_linked:=Fw (P:=l.prog) (w:=w) (base:=base) D18  Y Z
  have g_is_whole:=KL (P:=l.prog) (w:=w) (base:=base) D15  Y Z
  have g_is_wholes:=Uz (P:=l.prog) (w:=w) (base:=base) D16 g_is_whole Y Z
  have g_l_orbits:=KK (P:=l.prog) (w:=w) (base:=base) D22 g_orbits g_linked g_is_wholes Y Z
  have g_step_beyond:=Vf (P:=l.prog) (w:=w) (base:=base) D1  Y Z
  have g_part:=E6 (P:=l.prog) (w:=w) (base:=base) D2 g_step_beyond Y Z
  have g_done:=Ej (P:=l.prog) (w:=w) (base:=base) D20 g_part Y Z
  have g_due:=HN (P:=l.prog) (w:=w) (base:=base) D19  Y Z
  have g_parted:=DJ (P:=l.prog) (w:=w) (base:=base) D21 g_done g_due g_is_wholes Y Z
  exact Ii (P:=l.prog) (w:=w) (base:=base) (Xx (st:=JA) l24 c24 k24) g_row g_table g_grown g_two_ways g_l_orbits g_parted g_relaid g_ordered Y Z
theorem LX {l : PySem.W.OpenLaw} {q : Program} {loose : List Str} {XP : (Str -> Option Value) -> Heap -> Prop} {YP : World -> Heap -> Prop} {d : DefRec} {K : Params -> PySem.W.Frag} (hn : l.most = some 63) (hdf : d.params.defaults = [])
    (hY : ∀ (w : World) (h : Heap), YP w h -> (K w.params).In h)
    (F : ∀ (w : World) (mg : Str -> Option Value) (fa : Addr) (h : Heap), (K w.params).In h -> h.Ns mainGlobals mg -> mg d.name = some (.ref fa) ->
      ∃ fd : FuncData, (∀ (s : Shared) (u : Value), BindsTo s fd ⟨[u], []⟩ [("_law_script", u)]) /\ ∀ base : Heap, (K w.params).In base -> base.Ns mainGlobals mg -> FnOk l.prog w (K w.params) mg base CX0 5 fa fd ["_law_script"] (sp1 (rL Xc) (oF XH) Kj (K w.params))) :
    PySem.W.WalkO q loose XP YP l.row.toRowW d [] (fun f vs=>PySem.call f vs):=
  L2.Et (n:=63) (k:=5) (x:="_law_script") (CX:=fun _=>CX0) (sp:=fun w=>sp1 (rL Xc) (oF XH) Kj (K w.params)) hn (by decide) hdf ⟨rfl, by decide, by decide⟩ hY F (fun _ _ a ns hl _ hS=>⟨.ref a, ns, true, rfl, ⟨a, _, rfl, hS, Kt ns⟩, Bv ns hl, fun v C H' w m ho=>ho.2⟩) fun _ _ _ _ _ z=>z
end My
open PySem PySem.W PyProof.Rows
set_option maxRecDepth 100000 in
set_option maxHeartbeats 0 in
theorem PySem.Challenge.cw_plait_k28_parts_and_orbits_holds : PySem.Challenge.rw_plait_k28_parts_and_orbits.Holds := by
  w_on; o_law; k_head; (case hw => w_witness2)
  k_fill
  refine My.LX (l := PySem.Challenge.rw_plait_k28_parts_and_orbits) rfl rfl (fun w h Y => PySem.W.kIn_of Y) ?F
  case F =>
    intro w mg fa h KX G hmg
    refine' My.IF KX G hmg ?a1 ?l1 ?c1 ?k1 ?a2 ?l2 ?c2 ?k2 ?a3 ?l3 ?c3 ?k3 ?a4 ?l4 ?c4 ?k4 ?a5 ?l5 ?c5 ?k5 ?a6 ?l6 ?c6 ?k6 ?a7 ?l7 ?c7 ?k7 ?a8 ?l8 ?c8 ?k8 ?a9 ?l9 ?c9 ?k9 ?a10 ?l10 ?c10 ?k10 ?a11 ?l11 ?c11 ?k11 ?a12 ?l12 ?c12 ?k12 ?a13 ?l13 ?c13 ?k13 ?a14 ?l14 ?c14 ?k14 ?a15 ?l15 ?c15 ?k15 ?a16 ?l16 ?c16 ?k16 ?a17 ?l17 ?c17 ?k17 ?a18 ?l18 ?c18 ?k18 ?a19 ?l19 ?c19 ?k19 ?a20 ?l20 ?c20 ?k20 ?a21 ?l21 ?c21 ?k21 ?a22 ?l22 ?c22 ?k22 ?a23 ?l23 ?c23 ?k23 ?a24 ?l24 ?c24 ?k24 ?z1 ?z2 ?z3 ?z4 ?z5 ?z6 ?z7 ?z8 ?z9 ?z10 ?z11 ?z12 ?x0 ?x1 ?x2 ?x3 ?yg ?yt ?ya0 ?yb0 ?yc0 ?yd0 ?ye0 ?yf0 ?yh0 ?yi0 ?yj0 ?yk0 ?ya1 ?yb1 ?yc1 ?yd1 ?ye1 ?yf1 ?yh1 ?yi1 ?yj1 ?yk1 ?ya2 ?yb2 ?yc2 ?yd2 ?ye2 ?yf2 ?yh2 ?yi2 ?yj2 ?yk2 ?ya3 ?yb3 ?yc3 ?yd3 ?ye3 ?yf3 ?yh3 ?yi3 ?yj3 ?yk3 ?yl0_0 ?yl0_1 ?yl0_2 ?yl0_3 ?yl1_0 ?yl1_1 ?yl1_2 ?yl1_3 ?yl2_0 ?yl2_1 ?yl2_2 ?yl2_3 ?yl3_0 ?yl3_1 ?yl3_2 ?yl3_3
    (case a1 => k_is); (case l1 => k_is); (case c1 => k_is); (case k1 => k_is); (case a2 => k_is); (case l2 => k_is); (case c2 => k_is); (case k2 => k_is); (case a3 => k_is); (case l3 => k_is); (case c3 => k_is); (case k3 => k_is); (case a4 => k_is); (case l4 => k_is); (case c4 => k_is); (case k4 => k_is); (case a5 => k_is); (case l5 => k_is); (case c5 => k_is); (case k5 => k_is); (case a6 => k_is); (case l6 => k_is); (case c6 => k_is); (case k6 => k_is); (case a7 => k_is); (case l7 => k_is); (case c7 => k_is); (case k7 => k_is); (case a8 => k_is); (case l8 => k_is); (case c8 => k_is); (case k8 => k_is); (case a9 => k_is); (case l9 => k_is); (case c9 => k_is); (case k9 => k_is); (case a10 => k_is); (case l10 => k_is); (case c10 => k_is); (case k10 => k_is); (case a11 => k_is); (case l11 => k_is); (case c11 => k_is); (case k11 => k_is); (case a12 => k_is); (case l12 => k_is); (case c12 => k_is); (case k12 => k_is); (case a13 => k_is); (case l13 => k_is); (case c13 => k_is); (case k13 => k_is); (case a14 => k_is); (case l14 => k_is); (case c14 => k_is); (case k14 => k_is); (case a15 => k_is); (case l15 => k_is); (case c15 => k_is); (case k15 => k_is); (case a16 => k_is); (case l16 => k_is); (case c16 => k_is); (case k16 => k_is); (case a17 => k_is); (case l17 => k_is); (case c17 => k_is); (case k17 => k_is); (case a18 => k_is); (case l18 => k_is); (case c18 => k_is); (case k18 => k_is); (case a19 => k_is); (case l19 => k_is); (case c19 => k_is); (case k19 => k_is); (case a20 => k_is); (case l20 => k_is); (case c20 => k_is); (case k20 => k_is); (case a21 => k_is); (case l21 => k_is); (case c21 => k_is); (case k21 => k_is); (case a22 => k_is); (case l22 => k_is); (case c22 => k_is); (case k22 => k_is); (case a23 => k_is); (case l23 => k_is); (case c23 => k_is); (case k23 => k_is); (case a24 => k_is); (case l24 => k_is); (case c24 => k_is); (case k24 => k_is); (case z1 => k_is); (case z2 => k_is); (case z3 => k_is); (case z4 => k_is); (case z5 => k_is); (case z6 => k_is); (case z7 => k_is); (case z8 => k_is); (case z9 => k_is); (case z10 => k_is); (case z11 => k_is); (case z12 => k_is); (case x0 => k_is); (case x1 => k_is); (case x2 => k_is); (case x3 => k_is); (case yg => k_is); (case yt => k_is); (case ya0 => k_exc); (case yb0 => k_is); (case yc0 => k_is); (case yd0 => k_is); (case ye0 => k_is); (case yf0 => k_is); (case yh0 => k_is); (case yi0 => k_is); (case yj0 => k_is); (case yk0 => k_is); (case ya1 => k_exc); (case yb1 => k_is); (case yc1 => k_is); (case yd1 => k_is); (case ye1 => k_is); (case yf1 => k_is); (case yh1 => k_is); (case yi1 => k_is); (case yj1 => k_is); (case yk1 => k_is); (case ya2 => k_exc); (case yb2 => k_is); (case yc2 => k_is); (case yd2 => k_is); (case ye2 => k_is); (case yf2 => k_is); (case yh2 => k_is); (case yi2 => k_is); (case yj2 => k_is); (case yk2 => k_is); (case ya3 => k_exc); (case yb3 => k_is); (case yc3 => k_is); (case yd3 => k_is); (case ye3 => k_is); (case yf3 => k_is); (case yh3 => k_is); (case yi3 => k_is); (case yj3 => k_is); (case yk3 => k_is); (case yl0_0 => k_is); (case yl0_1 => k_is); (case yl0_2 => k_is); (case yl0_3 => k_is); (case yl1_0 => k_is); (case yl1_1 => k_is); (case yl1_2 => k_is); (case yl1_3 => k_is); (case yl2_0 => k_is); (case yl2_1 => k_is); (case yl2_2 => k_is); (case yl2_3 => k_is); (case yl3_0 => k_is); (case yl3_1 => k_is); (case yl3_2 => k_is); (case yl3_3 => k_is)
